import PyProof.Rows.All
import Wide.All
import OpenK.AllK
import Wide.FinOn
import Lean
import PyProof.EqAt
import PyProof.EqKinds
import PyProof.TupleCall
import PyProof.ZipIter
import PyProof.Draws
import PyProof.EnumMake
import PyProof.Rows.SetFrom
import KE.KIntText
import KE.IntTextLaws
import KE.KSortTup
import PyProof.StrLawsChain
import PyProof.StrCalls6
import PyProof.ExcAttrAll.ValueError
import PySem.Challenge.RW_tablestore_k23_what_is_an_index
set_option linter.unusedVariables false
set_option linter.unusedSimpArgs false
set_option maxHeartbeats 4000000
set_option maxRecDepth 100000
set_option linter.all false
set_option compiler.extract_closed false
namespace L2
theorem exE {α β γ ε:Type} {p q:α→β→γ→ε→Prop} {r:Prop} (h:∃ a b c d,p a b c d∧q a b c d) (k:∀ a b c d,p a b c d→q a b c d→r):r:=by
 obtain ⟨a,b,c,d,x,y⟩:=h;exact k a b c d x y
theorem exF {α β:Type} {p q r:α→β→Prop} {z:Prop} (h:∃ a b,p a b∧q a b∧r a b) (k:∀ a b,p a b→q a b→r a b→z):z:=by
 obtain ⟨a,b,x,y,w⟩:=h;exact k a b x y w
end L2
-- CHANGE: your row's module here,as the last of these rows
set_option Elab.async false
namespace L2
open PySem Sem
theorem iO {M:Model} {Γ:Ctx} {p:Pos} {t:Sem Fin} {fs:List Frame} {s:Shared} {e:End} {s':Shared} (h:Runs M Γ p t fs s e s'):s.toks≤s'.toks:=by
 induction h <;> first
  | exact Nat.le_refl _
  | assumption
  | (rename_i ih;exact Nat.le_of_succ_le ih)
  | (rename_i ih1 ih2;exact Nat.le_trans ih1 ih2)
  | (rename_i h1 h2 h3 ih1 ih2;exact Nat.le_trans ih1 ih2)
theorem rq {M:Model} {Γ:Ctx} {p:Pos} {g:Nat} {r:Resume} {s:Shared} {res:GenResult} {s':Shared} (h:Wakes M Γ p g r s res s'):s.toks≤s'.toks:=by
 unfold Wakes at h
 split at h
 ·exact h.elim
 ·split at h
  ·obtain ⟨e1,s1,h1,_,_,rfl⟩:=h;have q:=iO h1;exact q
  ·rw [h.2];exact Nat.le_refl _
  ·rw [h.2];exact Nat.le_refl _
 ·obtain ⟨e1,s1,h1,_,_,rfl⟩:=h;have q:=iO h1;exact q
 ·rw [h.2];exact Nat.le_refl _
 ·rw [h.2];exact Nat.le_refl _
theorem wp_toks {X:Type} {n:Nat} {post:X→Pos→Shared→Prop} {exc:Value→Pos→Shared→Prop} (M:Model) (Γ:Ctx) (tree:Sem X) (pos:Pos) (sh:Shared) (hn:n≤sh.toks)
  (known:wp M Γ tree (fun x p s=>n≤s.toks→post x p s) (fun x p s=>n≤s.toks→exc x p s) pos sh):wp M Γ tree post exc pos sh:=by
 revert known hn
 induction tree generalizing pos sh with
 | pure x=>exact fun hn h=>h hn
 | raise v=>exact fun hn h=>h hn
 | unsupported|finish|yield|fork|await|register=>exact fun _ h=>h
 | rule _ k ih|«at» _ k ih|alloc _ k ih|loadIfAlive _ k ih|point _ k ih|ask k ih|os _ _ k ih|handled _ k ih|newGen _ k ih|stack k ih|thread k ih=>exact fun hn h=>ih _ _ _ hn h
 | fresh k ih=>exact fun hn h=>ih _ _ _ (Nat.le_succ_of_le hn) h
 | load a _ k ih|genState a k ih=>exact fun hn ⟨o,ho,h⟩=>⟨o,ho,ih _ _ _ hn h⟩
 | update a _ f k ih|choose _ _ k ih=>exact fun hn ⟨ha,h⟩=>⟨ha,ih _ _ _ hn h⟩
 | call c h g l k ih=>exact fun hn ⟨r,s',hr,hk⟩=>⟨r,s',hr,ih r pos s' (Nat.le_trans hn (iO hr)) hk⟩
 | resume g r l k ih=>exact fun hn ⟨res,s',hw,h⟩=>⟨res,s',hw,ih _ _ _ (Nat.le_trans hn (rq hw)) h⟩
theorem bj {α:Type} {M:Model} {A:Around} {t:Sem α} {Q:α→Shared→Prop} {E:Value→Shared→Prop} {s:Shared} {n:Nat} (hn:n≤s.toks)
  (h:wpAny M A t (fun v s'=>n≤s'.toks→Q v s') (fun e s'=>n≤s'.toks→E e s') s):wpAny M A t Q E s:=fun Γ p hΓ=>wp_toks M Γ t p s hn (h Γ p hΓ)
theorem fH {M:Model} {A:Around} {c:Code} {R:Result→Shared→Prop} {s:Shared} {n:Nat} (hn:n≤s.toks) (h:codeAny M A c (fun r s'=>n≤s'.toks→R r s') s):codeAny M A c R s:=fun Γ p e hΓ =>
 let ⟨r,s',hr,hR⟩:=h Γ p e hΓ
 ⟨r,s',hr,hR (Nat.le_trans hn (iO hr))⟩
end L2
namespace L2
open PySem PySem.Spec PyProof.Rows
abbrev Key:=Sum Int Str
def keyIs:Key→Value→Bool
 | .inl k,v=>Value.isInt k v
 | .inr x,v=>Value.isStrOf x v
def keyH (w:World):Key→Int
 | .inl k=>hashInt k
 | .inr x=>hashStr w x
theorem bJ:∀ {k:Key} {v:Value},keyIs k v=true→(∃ i t,k=Sum.inl i∧v=Value.int i t)∨(∃ x t,k=Sum.inr x∧v=Value.str x t)
 | .inl i,v,h=>by
  obtain ⟨t,e⟩:=Value.isInt_shape (k:=i) (v:=v) h
  exact .inl ⟨i,t,rfl,e⟩
 | .inr x,v,h=>by
  obtain ⟨t,e⟩:=Value.isStrOf_shape (x:=x) (v:=v) h
  exact .inr ⟨x,t,rfl,e⟩
theorem AS (a b:Int):decide ((Sum.inl a:Key)=Sum.inl b)=(a==b):=by
 by_cases e:a=b
 ·subst e;simp
 ·have h:¬ (Sum.inl a:Key)=Sum.inl b:=fun q=>e (Sum.inl.inj q)
  rw [decide_eq_false h]
  exact (beq_eq_false_iff_ne.mpr e).symm
theorem AF (a b:Str):decide ((Sum.inr a:Key)=Sum.inr b)=decide (a=b):=by
 by_cases e:a=b
 ·subst e;simp
 ·have h:¬ (Sum.inr a:Key)=Sum.inr b:=fun q=>e (Sum.inr.inj q)
  rw [decide_eq_false h,decide_eq_false e]
theorem yL (a:Int) (b:Str):decide ((Sum.inl a:Key)=Sum.inr b)=false:=decide_eq_false (fun q=>nomatch q)
theorem yM (a:Str) (b:Int):decide ((Sum.inr a:Key)=Sum.inl b)=false:=decide_eq_false (fun q=>nomatch q)
def mixKind (prog:Program) (w:World):PySem.KeyKind prog w Key where
 is:=keyIs
 hash:=keyH w
 inj:=fun v a b ha hb=>by
  rcases bJ ha with ⟨i,t,rfl,rfl⟩|⟨x,t,rfl,rfl⟩
  ·rcases bJ hb with ⟨j,u,rfl,e⟩|⟨y,u,rfl,e⟩
   ·injection e with e1 _;rw [e1]
   ·exact nomatch e
  ·rcases bJ hb with ⟨j,u,rfl,e⟩|⟨y,u,rfl,e⟩
   ·exact nomatch e
   ·injection e with e1 _;rw [e1]
 byValue:=fun k v h=>by
  rcases bJ h with ⟨i,t,rfl,rfl⟩|⟨x,t,rfl,rfl⟩ <;> rfl
 pyHash:=fun hv h=>by
  rcases bJ hv with ⟨i,t,rfl,rfl⟩|⟨x,t,rfl,rfl⟩
  ·exact wpAny_pyHash_int h
  ·exact wpAny_pyHash_str h
 eqBool:=fun hu hv h=>by
  rcases bJ hu with ⟨i,t,rfl,rfl⟩|⟨x,t,rfl,rfl⟩
  ·rcases bJ hv with ⟨j,u,rfl,rfl⟩|⟨y,u,rfl,rfl⟩
   ·rw [AS] at h;exact wpAny_eqBool_int h
   ·rw [yL] at h;exact SeqAt.EqAt.int_str i t y u _ _ _ _ h
  ·rcases bJ hv with ⟨j,u,rfl,rfl⟩|⟨y,u,rfl,rfl⟩
   ·rw [yM] at h;exact SeqAt.EqAt.str_int x t j u _ _ _ _ h
   ·rw [AF] at h;exact wpAny_eqBool_str h
 «strs»:=fun k x t v h=>by
  rcases bJ h with ⟨i,u,rfl,e⟩|⟨y,u,rfl,e⟩
  ·exact nomatch e
  ·injection e with e1 _
   subst e1
   cases v <;> rfl
inductive V where
 | non|bl (b:Bool)|int (i:Int)|str (x:Str)|byt (b:Array UInt8)|flt (b:UInt64)|ref (a:Addr)|ty (n:String)
 deriving DecidableEq
def RelV:V→Value→Prop
 | .non,u=>u=Value.none
 | .bl b,u=>u=Value.bool b
 | .int i,u=>∃ t,u=Value.int i t
 | .str x,u=>∃ t,u=Value.str x t
 | .byt b,u=>∃ t,u=Value.bytes b t
 | .flt b,u=>∃ t,u=Value.float b t
 | .ref a,u=>u=Value.ref a
 | .ty n,u=>u=Value.type n
abbrev Vals:List V→List Value→Prop:=Paired RelV
theorem Vals.length {xs:List V} {us:List Value} (r:Vals xs us):xs.length=us.length:=Paired.length r
theorem Vals.get:∀ {xs:List V} {us:List Value} {i:Nat} {x:V},Vals xs us→xs[i]?=some x→∃ u,us[i]?=some u∧RelV x u
 | _,_,_,_,.nil,e=>by simp at e
 | _,_,0,_,.cons r _,e=>by simp at e;subst e;exact ⟨_,rfl,r⟩
 | _,_,i+1,x,.cons _ t,e=>by
  obtain ⟨u,h1,h2⟩:=Vals.get (i:=i) (x:=x) t (by simpa using e)
  exact ⟨u,by simpa using h1,h2⟩
theorem Vals.append:∀ {xs ys:List V} {us ws:List Value},Vals xs us→Vals ys ws→Vals (xs++ys) (us++ws)
 | _,_,_,_,.nil,s=>s
 | _,_,_,_,.cons r t,s=>.cons r (Vals.append t s)
theorem Vals.take:∀ {xs:List V} {us:List Value} (n:Nat),Vals xs us→Vals (xs.take n) (us.take n)
 | _,_,0,_=>.nil
 | _,_,_+1,.nil=>.nil
 | _,_,n+1,.cons r t=>.cons r (Vals.take n t)
theorem Vals.drop:∀ {xs:List V} {us:List Value} (n:Nat),Vals xs us→Vals (xs.drop n) (us.drop n)
 | _,_,0,r=>r
 | _,_,_+1,.nil=>.nil
 | _,_,n+1,.cons _ t=>Vals.drop n t
def RelO:Option V→Option Value→Prop
 | some v,some u=>RelV v u
 | none,none=>True
 | _,_=>False
def KV {κ:Type}:List (κ×V)→List (κ×Value)→Prop:=Paired fun (p:κ×V) (q:κ×Value)=>p.1=q.1∧RelV p.2 q.2
def kV:Key→V
 | .inl i=>.int i
 | .inr x=>.str x
inductive HO where
 /-- a list -/
 | lst (xs:List V)
 /-- a tuple (never changes) -/
 | tup (xs:List V)
 /-- a dict whose keys are ints and texts;one whose keys are tuples of ints and texts (the empty one is both) -/
 | dK (kvs:List (Key×V))|dT (kvs:List (List Key×V))
 /-- a set of ints: its members,its size -/
 | set (S:Int→Bool) (n:Nat)
 /-- an instance of the class at C,its dict at dx,its attributes -/
 | ins (C dx:Addr) (fs:List (Str×V))
 /-- the dict of the instance at x -/
 | own (x:Addr)
 /-- the dict of an exception -/
 | xd (fs:List (Str×V))
 /-- a bound method,f of x -/
 | met (f x:Addr)
 /-- a range object lo,lo+1,.. below hi -/
 | rng (lo hi:Int)
 /-- a thing that is known to the object (the script;a dict while a loop walks it): read,never written while it is so -/
 | frz (o:Obj) (u:HO)
 /-- a code object's table -/
 | tbl (ps:Array Value)
 /-- any other thing,by what is true of its one object (a def of one's own: SetO a S n:=HO.ext fun h=>..) -/
 | ext (φ:Heap→Prop)
abbrev Hp:=Addr→Option HO
def upd (H:Hp) (a:Addr) (o:HO):Hp:=fun b=>if b=a then some o else H b
theorem bm {H:Hp} {a:Addr} {o:HO}:upd H a o a=some o:=by unfold upd;rw [if_pos rfl]
theorem a8 {H:Hp} {a b:Addr} {o:HO} (h:b≠a):upd H a o b=H b:=by unfold upd;rw [if_neg h]
theorem bq {H:Hp} {a b:Addr} {o:HO} (h:H a=some o) (h':H b=none):a≠b:=by
 intro e;subst e;rw [h] at h';cases h'
section
variable (P:Program) (w:World)
def ObjOk (H:Hp) (h:Heap) (a:Addr):HO→Prop
 | .lst xs=>xs.length≤sizeLine∧∃ (its:List Value) (n:Nat),Vals xs its∧h.get? a=some { cls:=.type "list",data:=.seq its.toArray n }
 | .tup xs=>xs.length≤sizeLine∧∃ its:List Value,Vals xs its∧IsTup h a its.toArray
 | .dK kvs=>kvs.length≤sizeLine∧(a==sysModules)=false∧∃ vs,KV kvs vs∧h.DictOf (mixKind P w) a vs
 | .dT kvs=>kvs.length≤sizeLine∧(a==sysModules)=false∧∃ xs:List (List Key×Addr×Value),
   Paired (fun (p:List Key×V) (q:List Key×Addr×Value)=>p.1=q.1∧H q.2.1=some (.tup (p.1.map kV))∧RelV p.2 q.2.2) kvs xs ∧
   ∃ o es ep,h.get? a=some o∧o.ExactDict∧o.data=.dict es ep∧es.toList=xs.map (entryOfKey (tupleKind (mixKind P w)))∧(xs.map (·.1)).Nodup
 | .set S n=>h.SetOf (intKind P w) a S n
 | .ins C dx fs=>H dx=some (.own a)∧fs.length≤1000∧dx≠a∧h.get? a=some (PySem.W.instObj C dx) ∧
   ∃ mA,h.Ns1 dx mA∧(∀ f,RelO (fs.lookup f) (mA f))∧PySem.Within mA (fs.map (·.1))
 | .own _=>∃ o,h.get? a=some o
 | .xd fs=>∃ mA,h.Ns1 a mA∧∀ f,RelO (fs.lookup f) (mA f)
 | .rng lo hi=>∃ t u v,h.get? a=some { cls:=.type "range",data:=.fields #[.int lo t,.int hi u,.int 1 v] }
 | .frz o u=>h.get? a=some o∧ObjOk H h a u
 | .tbl ps=>h.get? a=some { cls:=.none,data:=.fields ps }
 | .met f x=>h.get? a=some (PySem.W.methodObj (.ref f) (.ref x))
 | .ext φ=>φ h∧(∃ o,h.get? a=some o)∧∀ h1 h2:Heap,φ h1→(∀ o,h1.get? a=some o→h2.get? a=some o)→φ h2
def HOk (H:Hp) (h:Heap):Prop:=∀ a o,H a=some o→ObjOk P w H h a o
end
section
variable {P:Program} {w:World} {H H':Hp} {h h':Heap} {a:Addr} {o:HO}
theorem ObjOk.lt (x:ObjOk P w H h a o):a < h.objs.size:=by
 cases o with
 | lst xs=>obtain ⟨_,_,_,_,e⟩:=x;exact Heap.lt_size e
 | tup xs=>obtain ⟨_,_,_,p⟩:=x;exact p.lt
 | dK kvs=>obtain ⟨_,_,_,_,o,_,_,e,_⟩:=x;exact Heap.lt_size e
 | dT kvs=>obtain ⟨_,_,_,_,o,_,_,e,_⟩:=x;exact Heap.lt_size e
 | set S n=>obtain ⟨o,_,_,_,e,_⟩:=x;exact Heap.lt_size e
 | ins C dx fs=>obtain ⟨_,_,_,e,_⟩:=x;exact Heap.lt_size e
 | own y=>obtain ⟨_,e⟩:=x;exact Heap.lt_size e
 | xd fs=>obtain ⟨_,⟨_,_,_,e,_⟩,_⟩:=x;exact Heap.lt_size e
 | rng lo hi=>obtain ⟨_,_,_,e⟩:=x;exact Heap.lt_size e
 | frz ob u=>obtain ⟨e,_⟩:=x;exact Heap.lt_size e
 | tbl ps=>exact Heap.lt_size (show h.get? a=some _ from x)
 | met f y=>exact Heap.lt_size (show h.get? a=some _ from x)
 | ext φ=>obtain ⟨_,⟨_,e⟩,_⟩:=x;exact Heap.lt_size e
theorem Paired.mapP {α β:Type} {F G:α→β→Prop}:∀ {l₁:List α} {l₂:List β},Paired F l₁ l₂→(∀ a b,F a b→G a b)→Paired G l₁ l₂
 | _,_,.nil,_=>.nil
 | _,_,.cons r t,f=>.cons (f _ _ r) (Paired.mapP t f)
theorem ObjOk.stay (x:ObjOk P w H h a o) (k:∀ b u,(b=a∨H b=some (.own a))→h.get? b=some u→h'.get? b=some u)
  (ho:∀ b,H b=some (.own a)→H' b=some (.own a)) (ht:∀ b xs,H b=some (.tup xs)→H' b=some (.tup xs)):ObjOk P w H' h' a o:=by
 induction o with
 | lst xs=>obtain ⟨z,its,n,r,e⟩:=x;exact ⟨z,its,n,r,k _ _ (.inl rfl) e⟩
 | tup xs=>obtain ⟨z,its,r,ob,e,c⟩:=x;exact ⟨z,its,r,ob,k _ _ (.inl rfl) e,c⟩
 | dK kvs=>obtain ⟨z,y,vs,r,ob,es,ep,e,c⟩:=x;exact ⟨z,y,vs,r,ob,es,ep,k _ _ (.inl rfl) e,c⟩
 | dT kvs =>
  obtain ⟨z,y,xs,r,ob,es,ep,e,c⟩:=x
  exact ⟨z,y,xs,Paired.mapP r fun p q z=>⟨z.1,ht _ _ z.2.1,z.2.2⟩,ob,es,ep,k _ _ (.inl rfl) e,c⟩
 | set S n=>obtain ⟨ob,es,ep,t,e,c⟩:=x;exact ⟨ob,es,ep,t,k _ _ (.inl rfl) e,c⟩
 | ins C dx fs =>
  obtain ⟨d,z,ne,e,mA,⟨od,es,ep,e2,c⟩,r⟩:=x
  exact ⟨ho _ d,z,ne,k _ _ (.inl rfl) e,mA,⟨od,es,ep,k _ _ (.inr d) e2,c⟩,r⟩
 | own y=>obtain ⟨ob,e⟩:=x;exact ⟨ob,k _ _ (.inl rfl) e⟩
 | xd fs=>obtain ⟨mA,⟨od,es,ep,e,c⟩,r⟩:=x;exact ⟨mA,⟨od,es,ep,k _ _ (.inl rfl) e,c⟩,r⟩
 | rng lo hi=>obtain ⟨t,u,v,e⟩:=x;exact ⟨t,u,v,k _ _ (.inl rfl) e⟩
 | frz ob u ih=>obtain ⟨e,q⟩:=x;exact ⟨k _ _ (.inl rfl) e,ih q⟩
 | tbl ps =>
  have e:h.get? a=some { cls:=.none,data:=.fields ps }:=x
  show h'.get? a=some { cls:=.none,data:=.fields ps }
  exact k a _ (.inl rfl) e
 | met f y =>
  have e:h.get? a=some (PySem.W.methodObj (.ref f) (.ref y)):=x
  show h'.get? a=some (PySem.W.methodObj (.ref f) (.ref y))
  exact k a _ (.inl rfl) e
 | ext φ=>obtain ⟨p,⟨o,e⟩,st⟩:=x;exact ⟨st _ _ p fun o q=>k _ _ (.inl rfl) q,⟨o,k _ _ (.inl rfl) e⟩,st⟩
theorem HOk.lt (x:HOk P w H h) (e:H a=some o):a < h.objs.size:=(x a o e).lt
theorem HOk.fresh (x:HOk P w H h) (e:h.objs.size≤a):H a=none:=by
 cases q:H a with
 | none=>rfl
 | some u=>exact absurd (Nat.lt_of_lt_of_le (x.lt q) e) (Nat.lt_irrefl _)
theorem HOk.kept (x:HOk P w H h) (k:∀ b u,h.get? b=some u→h'.get? b=some u):HOk P w H h':=fun a o e =>
 (x a o e).stay (fun b u _ q=>k b u q) (fun _ q=>q) fun _ _ q=>q
theorem HOk.laid (x:HOk P w H h) (k:∀ b u,h.get? b=some u→h'.get? b=some u) (hp:h.objs.size≤a) (new:ObjOk P w (upd H a o) h' a o):HOk P w (upd H a o) h':=fun b u e=>by
 have hn:=x.fresh hp
 by_cases hb:b=a
 ·subst hb;rw [bm] at e;cases e;exact new
 ·rw [a8 hb] at e
  exact (x b u e).stay (fun c v _ q=>k c v q) (fun c q=>by rw [a8 (bq q hn)];exact q) fun c xs q=>by rw [a8 (bq q hn)];exact q
end
def Rd (H:Hp) (a:Addr) (u:HO):Prop:=H a=some u∨∃ o,H a=some (.frz o u)
theorem Rd.ok {P:Program} {w:World} {H:Hp} {h:Heap} {a:Addr} {u:HO} (r:Rd H a u) (x:HOk P w H h):ObjOk P w H h a u:=by
 rcases r with r|⟨o,r⟩
 ·exact x a u r
 ·obtain ⟨_,q⟩:=x a _ r
  exact q
def Mut:Option HO→Prop
 | some (.lst _)=>True
 | some (.dK _)=>True
 | some (.dT _)=>True
 | some (.set _ _)=>True
 | some (.ins _ _ _)=>True
 | some (.ext _)=>True
 | _=>False
section
variable {P:Program} {w:World} {H:Hp} {h h':Heap} {x e:Addr} {o':HO}
theorem HOk.write (ok:HOk P w H h) (mu:Mut (H x)) (he:e=x∨H e=some (.own x)) (k:∀ b u,b≠e→h.get? b=some u→h'.get? b=some u) (heo:∃ u,h'.get? e=some u)
  (new:ObjOk P w (upd H x o') h' x o'):HOk P w (upd H x o') h':=fun b u q=>by
 have nown:∀ c y,H c=some (.own y)→c≠x:=fun c y r z=>by subst z;rw [r] at mu;exact mu
 have ntup:∀ c xs,H c=some (.tup xs)→c≠x:=fun c xs r z=>by subst z;rw [r] at mu;exact mu
 by_cases hb:b=x
 ·subst hb;rw [bm] at q;cases q;exact new
 ·rw [a8 hb] at q
  by_cases hbe:b=e
  ·have q':H b=some (.own x):=by
    rcases he with z|z
    ·exact absurd (hbe.trans z) hb
    ·rw [hbe];exact z
   rw [q] at q';cases q'
   obtain ⟨v,hv⟩:=heo
   exact ⟨v,by rw [hbe];exact hv⟩
  ·refine (ok b u q).stay (fun c v hc r=>k c v ?_ r) (fun c r=>by rw [a8 (nown c b r)];exact r) fun c xs r=>by rw [a8 (ntup c xs r)];exact r
   rcases hc with rfl|hc
   ·exact hbe
   ·rintro rfl
    rcases he with z|z
    ·exact nown c b hc z
    ·rw [hc] at z;cases z;exact hb rfl
end
structure Un (fs ex:List Addr) (H H':Hp) (h h':Heap):Prop where
 keep:∀ b o,h.get? b=some o→H b=none→b∉fs→b∉ex→h'.get? b=some o
 slot:∀ b o,h.get? b=some o→H b=none→b∈fs→b∉ex→∃ sl,h'.get? b=some { o with slots:=sl }
 free:∀ b o,h.get? b=some o→H b=none→b∉ex→H' b=none
 there:∀ b o,h.get? b=some o→b∉ex→∃ o',h'.get? b=some o'
 tups:∀ b xs,H b=some (.tup xs)→H' b=some (.tup xs)
 frzs:∀ b o u,H b=some (.frz o u)→H' b=some (.frz o u)
 tbls:∀ b ps,H b=some (.tbl ps)→∃ more,H' b=some (.tbl (ps++more))
section
variable {fs fs' ex ex':List Addr} {H H1 H2:Hp} {h h1 h2 h':Heap} {a x e:Addr} {o:HO}
theorem Un.any (u:Un fs ex H H1 h h1) {b:Addr} {ob:Obj} (q:h.get? b=some ob) (n:H b=none) (hx:b∉ex):∃ sl,h1.get? b=some { ob with slots:=sl }:=by
 by_cases hb:b∈fs
 ·exact u.slot b ob q n hb hx
 ·exact ⟨ob.slots,u.keep b ob q n hb hx⟩
theorem Un.trans (a:Un fs ex H H1 h h1) (b:Un fs ex H1 H2 h1 h2):Un fs ex H H2 h h2 where
 keep:=fun c ob q n hc hx=>b.keep c ob (a.keep c ob q n hc hx) (a.free c ob q n hx) hc hx
 slot:=fun c ob q n hc hx=>by
  obtain ⟨sl,e1⟩:=a.slot c ob q n hc hx
  obtain ⟨sl',e2⟩:=b.slot c _ e1 (a.free c ob q n hx) hc hx
  exact ⟨sl',e2⟩
 free:=fun c ob q n hx=>by
  obtain ⟨o',e1⟩:=a.there c ob q hx
  exact b.free c o' e1 (a.free c ob q n hx) hx
 there:=fun c ob q hx=>by
  obtain ⟨o',e1⟩:=a.there c ob q hx
  exact b.there c o' e1 hx
 tups:=fun c xs q=>b.tups c xs (a.tups c xs q)
 frzs:=fun c ob xs q=>b.frzs c ob xs (a.frzs c ob xs q)
 tbls:=fun c ps q=>by
  obtain ⟨m1,e1⟩:=a.tbls c ps q
  obtain ⟨m2,e2⟩:=b.tbls c _ e1
  exact ⟨m1++m2,by rw [e2,Array.append_assoc]⟩
theorem Un.kept (k:∀ b u,h.get? b=some u→h'.get? b=some u):Un fs ex H H h h' :=
 ⟨fun b ob q _ _ _=>k b ob q,fun b ob q _ _ _=>⟨ob.slots,k b ob q⟩,fun _ _ _ n _=>n,fun b ob q _=>⟨ob,k b ob q⟩,fun _ _ q=>q,fun _ _ _ q=>q,fun _ ps q=>⟨#[],by rw [q];simp⟩⟩
theorem Un.refl:Un fs ex H H h h:=Un.kept fun _ _ q=>q
theorem Un.laid (k:∀ b u,h.get? b=some u→h'.get? b=some u) (hp:h.objs.size≤a) (hn:H a=none):Un fs ex H (upd H a o) h h' where
 keep:=fun b u q _ _ _=>k b u q
 slot:=fun b u q _ _ _=>⟨u.slots,k b u q⟩
 free:=fun b u q n _=>by rw [a8 (Nat.ne_of_lt (Nat.lt_of_lt_of_le (Heap.lt_size q) hp))];exact n
 there:=fun b u q _=>⟨u,k b u q⟩
 tups:=fun b xs q=>by rw [a8 (bq q hn)];exact q
 frzs:=fun b u xs q=>by rw [a8 (bq q hn)];exact q
 tbls:=fun b ps q=>⟨#[],by rw [a8 (bq q hn),q];simp⟩
theorem Un.write (mu:Mut (H x)) (he:e=x∨H e=some (.own x)) (k:∀ b u,b≠e→h.get? b=some u→h'.get? b=some u) (heo:∃ u,h'.get? e=some u):Un fs ex H (upd H x o) h h':=by
 have hx:∀ b,H b=none→b≠x:=fun b n z=>by subst z;rw [n] at mu;exact mu
 have hb:∀ b,H b=none→b≠e:=fun b n z=>by
  subst z
  rcases he with r|r
  ·exact hx b n r
  ·rw [n] at r;cases r
 have hm:∀ b u,H b=some u→¬ Mut (some u)→b≠x:=fun b u q nm z=>by subst z;rw [q] at mu;exact nm mu
 refine ⟨fun b u q n _ _=>k b u (hb b n) q,fun b u q n _ _=>⟨u.slots,k b u (hb b n) q⟩,fun b u q n _=>by rw [a8 (hx b n)];exact n,fun b u q _=>?_,
  fun b xs q=>by rw [a8 (hm b _ q fun z=>z)];exact q,fun b u xs q=>by rw [a8 (hm b _ q fun z=>z)];exact q,fun b ps q=>⟨#[],by rw [a8 (hm b _ q fun z=>z),q];simp⟩⟩
 by_cases hbe:b=e
 ·subst hbe;exact heo
 ·exact ⟨u,k b u hbe q⟩
end
def trk (h:Heap) (H:Hp):List Addr:=(List.range h.objs.size).filter fun a=>(H a).isSome
def hidT (h:Heap) (H:Hp):Heap:=PySem.W.hideAll h (trk h H)
theorem uP (h:Heap) (H:Hp):(hidT h H).objs.size=h.objs.size:=PySem.W.hideAll_size _ _
theorem vX {h:Heap} {H:Hp} {b:Addr} {o:Obj} (e:h.get? b=some o) (n:H b=none):(hidT h H).get? b=some o :=
 PySem.W.hideAll_get _ e fun hm=>by
  have q:(H b).isSome=true:=(List.mem_filter.mp hm).2
  rw [n] at q;simp at q
theorem xg {h:Heap} {H:Hp} {b:Addr} {o:Obj} (e:(hidT h H).get? b=some o):h.get? b=some o∧H b=none:=by
 have e':h.get? b=some o:=PySem.W.of_hideAll (trk h H) e
 refine ⟨e',?_⟩
 cases q:H b with
 | none=>rfl
 | some x =>
  have hm:b∈trk h H:=List.mem_filter.mpr ⟨List.mem_range.mpr (Heap.lt_size e'),by simp [q]⟩
  have z:(hidT h H).get? b=none:=PySem.W.hideAll_none (trk h H) hm
  rw [z] at e;cases e
structure Mod (K:PySem.W.Frag) (mg:Str→Option Value) (base:Heap):Prop where
 kin:K.In base
 glob:base.Ns mainGlobals mg
 blt:∃ mb,base.Ns builtinsNs mb∧∀ x:Str,x≠"__name__"→mb x=bootBuiltins x
 nolimit:base.NoLimit
structure Cx where
 prog:Program
 w:World
 K:PySem.W.Frag
 mg:Str→Option Value
 base:Heap
 A:Around
 N:List Str
 s₀:Shared
 H₀:Hp
 env:Env
 outer:List Env
 stack:List Env
 ex:List Addr
 fn:Str→Bool
 calm:Bool
 tn:Nat:=0
 pn:List (Addr×Obj)
 xe:Value→Shared→Prop
def frs (l:List Env):List Addr:=l.filterMap (·.frame)
abbrev Cx.fs (X:Cx):List Addr:=frs X.outer
def Vis (sc:Scope) (x:Str):Prop:=sc.names.lookup x=some .local∨sc.names.lookup x=some .cell∨sc.names.lookup x=some .free
def Loc (sc:Scope) (x:Str):Prop:=sc.names.lookup x=some .local∨sc.names.lookup x=some .cell
def Look (env:Env) (h:Heap) (m:Str→Option Value) (x:Str) (u:Value):Prop :=
 (env.kindOf x=some .local∧m x=some u)∨((env.kindOf x=some .cell∨env.kindOf x=some .free)∧∃ c,env.cells.lookup x=some c∧h.IsCell c (some u))
structure Cx.Ok (X:Cx):Prop where
 mod:Mod X.K X.mg X.base
 kind:X.env.scope.kind=.function
 glob:X.env.globals=mainGlobals
 blt:X.env.builtins=builtinsNs
 above:X.s₀.heap.objs.size≤X.env.locals
 inj:∀ x y c,X.env.cells.lookup x=some c→X.env.cells.lookup y=some c→x=y
 has:∀ x,(X.env.kindOf x=some .cell∨X.env.kindOf x=some .free)→∃ c,X.env.cells.lookup x=some c
 cab:∀ x c,X.fn x=true→X.env.cells.lookup x=some c→X.s₀.heap.objs.size≤c
 hd:X.calm=true→X.A.handled=none
 frames:X.A.frames=some X.stack
 stk:X.stack=X.outer∨(X.stack=X.env::X.outer∧X.env.frame=some X.env.locals)
 exf:∀ b∈X.ex,b≠X.env.locals∧∀ x c,X.env.cells.lookup x=some c→c≠b
 bs:∀ b o,X.base.get? b=some o→X.s₀.heap.get? b=some o∧X.H₀ b=none
 bsz:X.base.objs.size≤X.s₀.heap.objs.size
 noex:∀ b o,X.base.get? b=some o→b∉X.ex
 exfs:∀ b∈X.ex,b∉X.fs
 funs:X.s₀.heap.FunFrames X.base X.outer
 frf:∀ b∈X.fs,X.H₀ b=none
structure Inv (X:Cx) (pins:List (Addr×Obj)) (σ:List (Option V)) (H:Hp) (s:Shared):Prop where
 ok:X.Ok
 os:s.os=X.s₀.os
 bare:AllBare s.gens
 base:Un X.fs X.ex X.H₀ H X.s₀.heap s.heap
 loc:∃ m,s.heap.Ns X.env.locals m∧∀ (i:Nat) (x:Str) (v:V),X.N[i]?=some x→σ[i]?=some (some v)→Vis X.env.scope x→∃ u,RelV v u∧Look X.env s.heap m x u
 cell:∀ x c,X.env.cells.lookup x=some c→∃ v,s.heap.IsCell c v
 free:H X.env.locals=none
 freeC:∀ x c,X.env.cells.lookup x=some c→H c=none
 pin:∀ p∈X.pn++pins,s.heap.get? p.1=some p.2∧H p.1=none∧p.1≠X.env.locals∧p.1∉X.fs∧∀ v,p.2.data≠.cell v
 hok:HOk X.prog X.w H s.heap
 len:σ.length=X.N.length
 tk:X.tn≤s.toks
end L2
local macro_rules | `(tactic| walk_at "tok") => `(tactic| first | assumption | exact L2.Inv.tk (by assumption) | exact Nat.le_succ_of_le (L2.Inv.tk (by assumption)) | exact Nat.le_succ_of_le (Nat.le_succ_of_le (L2.Inv.tk (by assumption))) | (have hI := L2.Inv.tk (by assumption); omega) | exact Nat.zero_le _)
namespace L2
open PySem PySem.Spec PyProof.Rows
section
variable {X:Cx} {pins:List (Addr×Obj)} {σ:List (Option V)} {H H':Hp} {s:Shared} {h':Heap}
theorem Cx.Ok.nofr (ok:X.Ok) {b:Addr} {o:Obj} (e:X.base.get? b=some o):b∉X.fs:=fun hb=>by
 have:=(ok.funs.mem hb).1
 rw [e] at this;cases this
theorem Inv.bs (I:Inv X pins σ H s):∀ b o,X.base.get? b=some o→s.heap.get? b=some o∧H b=none:=fun b o e =>
 ⟨I.base.keep b o (I.ok.bs b o e).1 (I.ok.bs b o e).2 (I.ok.nofr e) (I.ok.noex b o e),I.base.free b o (I.ok.bs b o e).1 (I.ok.bs b o e).2 (I.ok.noex b o e)⟩
theorem Inv.bk (I:Inv X pins σ H s):∀ b o,X.base.get? b=some o→s.heap.get? b=some o:=fun b o e=>(I.bs b o e).1
theorem Inv.mod (I:Inv X pins σ H s):Mod X.K X.mg X.base:=I.ok.mod
theorem Inv.kIn (I:Inv X pins σ H s):X.K.In s.heap:=I.ok.mod.kin.keeps I.bk
theorem Inv.lt (I:Inv X pins σ H s):X.env.locals < s.heap.objs.size:=let ⟨_,hn,_⟩:=I.loc;hn.lt
theorem Inv.sz (I:Inv X pins σ H s):X.s₀.heap.objs.size≤s.heap.objs.size:=Nat.le_trans I.ok.above (Nat.le_of_lt I.lt)
theorem Inv.nofs (I:Inv X pins σ H s) {a:Addr} (h:s.heap.objs.size≤a):a∉X.fs:=fun hb=>by
 obtain ⟨_,o,ho,_⟩:=I.ok.funs.mem hb
 exact absurd (Nat.lt_of_lt_of_le (Heap.lt_size ho) (Nat.le_trans I.sz h)) (Nat.lt_irrefl _)
theorem Inv.cne (I:Inv X pins σ H s):∀ x c,X.env.cells.lookup x=some c→c≠X.env.locals:=fun x c e z=>by
 obtain ⟨v,o,ho,hd⟩:=I.cell x c e
 obtain ⟨m,⟨o',es,ep,ho',hd',_⟩,_⟩:=I.loc
 rw [z,ho'] at ho;cases ho;rw [hd'] at hd;cases hd
theorem Inv.funs (I:Inv X pins σ H s):s.heap.FunFrames X.base X.outer:=by
 have all:∀ (l:List Env),(∀ b∈frs l,b∈X.fs)→X.s₀.heap.FunFrames X.base l→s.heap.FunFrames X.base l:=by
  intro l
  induction l with
  | nil=>intro _ _;trivial
  | cons env r ih =>
   intro hs hl
   obtain ⟨hk,⟨L,o,hf,hn,ho,hd⟩,hr⟩:=hl
   have hL:L∈X.fs:=hs L (by unfold frs;rw [List.filterMap_cons,hf];exact List.mem_cons_self)
   obtain ⟨sl,e⟩:=I.base.slot L o ho (I.ok.frf L hL) hL fun z=>I.ok.exfs L z hL
   exact ⟨hk,⟨L,_,hf,hn,e,hd⟩,ih (fun b hb=>hs b (by unfold frs;rw [List.filterMap_cons,hf];exact List.mem_cons_of_mem _ hb)) hr⟩
 exact all X.outer (fun _ hb=>hb) I.ok.funs
theorem Inv.stack (I:Inv X pins σ H s):s.heap.FunFrames X.base X.stack:=by
 rcases I.ok.stk with e|⟨e,hf⟩
 ·rw [e];exact I.funs
 ·rw [e]
  obtain ⟨m,hn,_⟩:=I.loc
  refine .cons (by rw [I.ok.kind];decide) hf hn ?_ I.funs
  exact Heap.get?_none_of_le (Nat.le_trans I.ok.bsz I.ok.above)
theorem Inv.stkSub (I:Inv X pins σ H s):∀ b∈frs X.stack,b∈X.env.locals::X.fs:=fun b hb=>by
 rcases I.ok.stk with e|⟨e,hf⟩
 ·rw [e] at hb;exact List.mem_cons_of_mem _ hb
 ·rw [e] at hb
  unfold frs at hb
  rw [List.filterMap_cons,hf] at hb
  exact hb
theorem Inv.stkFree (I:Inv X pins σ H s):∀ b∈frs X.stack,H b=none:=fun b hb=>by
 rcases List.mem_cons.mp (I.stkSub b hb) with e|hb
 ·rw [e];exact I.free
 ·obtain ⟨_,o,ho,_⟩:=I.ok.funs.mem hb
  exact I.base.free b o ho (I.ok.frf b hb) fun z=>I.ok.exfs b z hb
theorem Inv.step {g':Array GenState} {t':Nat} {d':Drawn} {ch:List Addr} (I:Inv X pins σ H s)
  (hch:∀ b∈ch,(b∈X.ex∨X.s₀.heap.objs.size≤b)∧b≠X.env.locals∧(∀ x c,X.env.cells.lookup x=some c→c≠b)∧∀ p∈X.pn++pins,p.1≠b)
  (keep:∀ b o,b≠X.env.locals→b∉X.fs→b∉ch→s.heap.get? b=some o→H b=none→h'.get? b=some o)
  (slot:∀ b o,b≠X.env.locals→b∈X.fs→b∉ch→s.heap.get? b=some o→H b=none→∃ sl,h'.get? b=some { o with slots:=sl }) (free:∀ b o,b∉ch→s.heap.get? b=some o→H b=none→H' b=none)
  (there:∀ b o,b∉ch→s.heap.get? b=some o→∃ o',h'.get? b=some o')
  (tups:∀ b xs,H b=some (.tup xs)→H' b=some (.tup xs)) (frzs:∀ b o u,H b=some (.frz o u)→H' b=some (.frz o u)) (tbls:∀ b ps,H b=some (.tbl ps)→∃ more,H' b=some (.tbl (ps++more)))
  (ns:∀ m,s.heap.Ns X.env.locals m→h'.Ns X.env.locals m) (hok:HOk X.prog X.w H' h') (hg:AllBare g') (ht:X.tn≤t':=by walk_at "tok") :
  Inv X pins σ H' { s with heap:=h',gens:=g',drawn:=d',toks:=t' }:=by
 have neL:∀ b o,X.s₀.heap.get? b=some o→b≠X.env.locals:=fun b o e=>Nat.ne_of_lt (Nat.lt_of_lt_of_le (Heap.lt_size e) I.ok.above)
 have neC:∀ b o,X.s₀.heap.get? b=some o→b∉X.ex→b∉ch:=fun b o e hx hb=>by
  rcases (hch b hb).1 with z|z
  ·exact hx z
  ·exact absurd (Nat.lt_of_lt_of_le (Heap.lt_size e) z) (Nat.lt_irrefl _)
 have cellK:∀ x c,X.env.cells.lookup x=some c→∀ v,s.heap.IsCell c v→h'.IsCell c v:=fun x c e v ⟨o,ho,hd⟩=>by
  have nch:c∉ch:=fun z=>(hch c z).2.2.1 x c e rfl
  by_cases hc:c∈X.fs
  ·obtain ⟨sl,q⟩:=slot c o (I.cne x c e) hc nch ho (I.freeC x c e)
   exact ⟨_,q,hd⟩
  ·exact ⟨o,keep c o (I.cne x c e) hc nch ho (I.freeC x c e),hd⟩
 refine ⟨I.ok,I.os,hg,⟨fun b o e n hb hx=>?_,fun b o e n hb hx=>?_,fun b o e n hx=>?_,fun b o e hx=>?_,fun b xs e=>tups b xs (I.base.tups b xs e),fun b o xs e=>frzs b o xs (I.base.frzs b o xs e),fun b ps e=>?_⟩,?_,fun x c e=>?_,?_,fun x c e=>?_,fun p hp=>?_,hok,I.len,ht⟩
 ·exact keep b o (neL b o e) hb (neC b o e hx) (I.base.keep b o e n hb hx) (I.base.free b o e n hx)
 ·obtain ⟨sl,e1⟩:=I.base.slot b o e n hb hx
  obtain ⟨sl',e2⟩:=slot b _ (neL b o e) hb (neC b o e hx) e1 (I.base.free b o e n hx)
  exact ⟨sl',e2⟩
 ·obtain ⟨o',e1⟩:=I.base.there b o e hx
  exact free b o' (neC b o e hx) e1 (I.base.free b o e n hx)
 ·obtain ⟨o',e1⟩:=I.base.there b o e hx
  exact there b o' (neC b o e hx) e1
 ·obtain ⟨m1,e1⟩:=I.base.tbls b ps e
  obtain ⟨m2,e2⟩:=tbls b _ e1
  exact ⟨m1++m2,by rw [e2,Array.append_assoc]⟩
 ·obtain ⟨m,hn,hl⟩:=I.loc
  refine ⟨m,ns m hn,fun i x v e1 e2 e3=>?_⟩
  obtain ⟨u,r,l⟩:=hl i x v e1 e2 e3
  refine ⟨u,r,?_⟩
  rcases l with l|⟨k,c,e,z⟩
  ·exact .inl l
  ·exact .inr ⟨k,c,e,cellK x c e _ z⟩
 ·obtain ⟨v,z⟩:=I.cell x c e
  exact ⟨v,cellK x c e v z⟩
 ·obtain ⟨m,⟨o,_,_,ho,_⟩,_⟩:=I.loc
  exact free _ o (fun z=>(hch _ z).2.1 rfl) ho I.free
 ·obtain ⟨v,o,ho,hd⟩:=I.cell x c e
  exact free c o (fun z=>(hch c z).2.2.1 x c e rfl) ho (I.freeC x c e)
 ·obtain ⟨e,n,ne,nf,d⟩:=I.pin p hp
  have nch:p.1∉ch:=fun z=>(hch p.1 z).2.2.2 p hp rfl
  exact ⟨keep p.1 p.2 ne nf nch e n,free p.1 p.2 nch e n,ne,nf,d⟩
theorem Inv.un {t':Nat} (I:Inv X pins σ H s) (u:Un X.fs [] H H' s.heap h') (hok:HOk X.prog X.w H' h') (ht:X.tn≤t':=by walk_at "tok"):Inv X pins σ H' { s with heap:=h',toks:=t' }:=by
 obtain ⟨m,⟨o,es,ep,ho,r⟩,_⟩:=id I.loc
 obtain ⟨sl,hL⟩:=u.any ho I.free (by simp)
 exact I.step (g':=s.gens) (d':=s.drawn) (ch:=[]) (fun _ z=>nomatch z) (fun b o _ hb _ e n=>u.keep b o e n hb (by simp)) (fun b o _ hb _ e n=>u.slot b o e n hb (by simp)) (fun b o _ e n=>u.free b o e n (by simp)) (fun b o _ e=>u.there b o e (by simp)) u.tups u.frzs u.tbls (fun m' hm=>by
  obtain ⟨o',es',ep',ho',r'⟩:=hm
  rw [ho] at ho';cases ho'
  exact ⟨_,es',ep',hL,r'⟩) hok I.bare
theorem Inv.call {g':Array GenState} {t':Nat} {d':Drawn} {ch:List Addr} (I:Inv X pins σ H s) (u:Un (frs X.stack) ch H H' s.heap h') (hok:HOk X.prog X.w H' h') (hg:AllBare g')
  (hch:∀ b∈ch,(b∈X.ex∨X.s₀.heap.objs.size≤b)∧b≠X.env.locals∧(∀ x c,X.env.cells.lookup x=some c→c≠b)∧∀ p∈X.pn++pins,p.1≠b) (ht:X.tn≤t':=by walk_at "tok") :
  Inv X pins σ H' { s with heap:=h',gens:=g',drawn:=d',toks:=t' }:=by
 obtain ⟨m,⟨o,es,ep,ho,r⟩,_⟩:=id I.loc
 obtain ⟨sl,hL⟩:=u.any ho I.free fun z=>(hch _ z).2.1 rfl
 exact I.step (ch:=ch) hch (fun b o hL hb hc e n=>u.keep b o e n (fun z=>(List.mem_cons.mp (I.stkSub b z)).elim hL hb) hc) (fun b o _ _ hc e n=>u.any e n hc) (fun b o hc e n=>u.free b o e n hc) (fun b o hc e=>u.there b o e hc) u.tups u.frzs u.tbls (fun m' hm=>by
  obtain ⟨o',es',ep',ho',r'⟩:=hm
  rw [ho] at ho';cases ho'
  exact ⟨_,es',ep',hL,r'⟩) hok hg
theorem Inv.turned {t':Nat} {it:Addr} (I:Inv X pins σ H s) (k:∀ b o,b≠it→s.heap.get? b=some o→h'.get? b=some o) (hn:H it=none) (hL:it≠X.env.locals)
  (h1:it∈X.ex∨X.s₀.heap.objs.size≤it) (h2:∀ x c,X.env.cells.lookup x=some c→c≠it) (h3:∀ p∈X.pn++pins,p.1≠it) (ht:X.tn≤t':=by walk_at "tok"):Inv X pins σ H { s with heap:=h',toks:=t' }:=by
 have nit:∀ b u,H b=some u→b≠it:=fun b u e z=>by rw [z,hn] at e;cases e
 refine I.step (g':=s.gens) (d':=s.drawn) (ch:=[it]) (fun b hb=>?_) (fun b o _ _ hc e _=>k b o (fun z=>hc (by simp [z])) e) (fun b o _ _ hc e _=>⟨o.slots,k b o (fun z=>hc (by simp [z])) e⟩) (fun _ _ _ _ n=>n)
  (fun b o hc e=>⟨o,k b o (fun z=>hc (by simp [z])) e⟩) (fun _ _ e=>e) (fun _ _ _ e=>e) (fun b ps e=>⟨#[],by rw [e];simp⟩) (fun m hm=>?_) (fun b u e=>?_) I.bare
 ·have e:b=it:=by simpa using hb
  subst e
  exact ⟨h1,hL,h2,h3⟩
 ·obtain ⟨o,es,ep,ho,r⟩:=hm
  exact ⟨o,es,ep,k _ o (Ne.symm hL) ho,r⟩
 ·refine (I.hok b u e).stay (fun c v hc q=>k c v ?_ q) (fun _ q=>q) fun _ _ q=>q
  rcases hc with z|z
  ·rw [z];exact nit b u e
  ·exact nit c _ z
theorem Inv.tok (I:Inv X pins σ H s) (t:Nat) (ht:X.tn≤t:=by walk_at "tok"):Inv X pins σ H { s with toks:=t }:=I.un (h':=s.heap) (t':=t) Un.refl I.hok
theorem Inv.kept {t':Nat} (I:Inv X pins σ H s) (k:∀ b u,s.heap.get? b=some u→h'.get? b=some u) (ht:X.tn≤t':=by walk_at "tok"):Inv X pins σ H { s with heap:=h',toks:=t' }:=I.un (Un.kept k) (I.hok.kept k)
theorem Inv.laid {a:Addr} {o:HO} {t':Nat} (I:Inv X pins σ H s) (k:∀ b u,s.heap.get? b=some u→h'.get? b=some u) (hp:s.heap.objs.size≤a) (new:ObjOk X.prog X.w (upd H a o) h' a o) (ht:X.tn≤t':=by walk_at "tok") :
  Inv X pins σ (upd H a o) { s with heap:=h',toks:=t' }:=I.un (Un.laid k hp (I.hok.fresh hp)) (I.hok.laid k hp new)
theorem Inv.write {x e:Addr} {o:HO} {t':Nat} (I:Inv X pins σ H s) (mu:Mut (H x)) (he:e=x∨H e=some (.own x)) (k:∀ b u,b≠e→s.heap.get? b=some u→h'.get? b=some u) (heo:∃ u,h'.get? e=some u)
  (new:ObjOk X.prog X.w (upd H x o) h' x o) (ht:X.tn≤t':=by walk_at "tok"):Inv X pins σ (upd H x o) { s with heap:=h',toks:=t' }:=I.un (Un.write mu he k heo) (I.hok.write mu he k heo new)
theorem Inv.pins_of {pins':List (Addr×Obj)} (I:Inv X pins σ H s) (h:∀ p∈pins',s.heap.get? p.1=some p.2∧H p.1=none∧p.1≠X.env.locals∧p.1∉X.fs∧∀ v,p.2.data≠.cell v):Inv X pins' σ H s :=
 ⟨I.ok,I.os,I.bare,I.base,I.loc,I.cell,I.free,I.freeC,fun p hp=>(List.mem_append.mp hp).elim (fun z=>I.pin p (List.mem_append_left _ z)) (h p),I.hok,I.len,I.tk⟩
theorem qC {N:List Str} (hN:N.Nodup) {i j:Nat} {x:Str} (a:N[i]?=some x) (b:N[j]?=some x):i=j:=by
 obtain ⟨h1,e1⟩:=List.getElem?_eq_some_iff.mp a
 obtain ⟨h2,e2⟩:=List.getElem?_eq_some_iff.mp b
 exact (List.getElem_inj hN).mp (e1.trans e2.symm)
theorem vq {M:Model} {A:Around} {E:Value→Shared→Prop} {i:Nat} {x:Str} {v:V} {u:Value} {Q:Unit→Shared→Prop} (I:Inv X pins σ H s) (hN:X.N.Nodup) (hi:X.N[i]?=some x) (hx:Loc X.env.scope x) (r:RelV v u)
  (h:∀ s',Inv X pins (σ.set i (some v)) H s'→(∃ a,Heap.SameBut a s.heap s'.heap∧(a=X.env.locals∨X.env.cells.lookup x=some a))→Q () s') (hf:X.fn x=true∨X.env.scope.names.lookup x=some .local:=by first|exact .inl rfl|exact .inr rfl|assumption):wpAny M A (storeName X.env x u) Q E s:=by
 obtain ⟨m,hn,hl⟩:=id I.loc
 have hcls:(X.env.scope.kind==.class||(X.env.scope.kind==.module&&X.env.locals != X.env.globals))=false:=by rw [I.ok.kind];rfl
 have hiσ:i < σ.length:=by rw [I.len];exact (List.getElem?_eq_some_iff.mp hi).1
 have cne:=I.cne
 have tracked:∀ {a:Addr} {h':Heap},(∃ o,s.heap.get? a=some o∧H a=none)→Heap.SameBut a s.heap h'→HOk X.prog X.w H h':=fun {a h'} ha hs b ob e=>by
  obtain ⟨_,_,hfree⟩:=ha
  refine (I.hok b ob e).stay (fun c w' hc q=>(hs.2 c ?_).trans q) (fun _ q=>q) fun _ _ q=>q
  rintro rfl
  rcases hc with rfl|hc
  ·rw [hfree] at e;cases e
  ·rw [hfree] at hc;cases hc
 rcases hx with hk|hk
 ·refine wpAny_storeName_local hk hn (fun h' hn' hs=>?_) hcls
  obtain ⟨oL,_,_,hoL,_⟩:=id hn
  refine h _ ⟨I.ok,I.os,I.bare,⟨fun b o e n hb hx=>?_,fun b o e n hb hx=>?_,I.base.free,fun b o e hx=>?_,I.base.tups,I.base.frzs,I.base.tbls⟩,⟨_,hn',fun j y v' e1 e2 e3=>?_⟩,fun y c e=>?_,I.free,I.freeC,fun p hp=>?_,tracked ⟨oL,hoL,I.free⟩ hs,by simpa using I.len,by walk_at "tok"⟩ ⟨_,hs,.inl rfl⟩
  ·exact (hs.2 b (Nat.ne_of_lt (Nat.lt_of_lt_of_le (Heap.lt_size e) I.ok.above))).trans (I.base.keep b o e n hb hx)
  ·obtain ⟨sl,e1⟩:=I.base.slot b o e n hb hx
   exact ⟨sl,(hs.2 b (Nat.ne_of_lt (Nat.lt_of_lt_of_le (Heap.lt_size e) I.ok.above))).trans e1⟩
  ·obtain ⟨o',e1⟩:=I.base.there b o e hx
   exact ⟨o',(hs.2 b (Nat.ne_of_lt (Nat.lt_of_lt_of_le (Heap.lt_size e) I.ok.above))).trans e1⟩
  ·by_cases hj:j=i
   ·subst hj
    rw [hi] at e1;cases e1
    rw [List.getElem?_set_self hiσ] at e2
    cases e2
    exact ⟨u,r,.inl ⟨hk,by simp⟩⟩
   ·rw [List.getElem?_set_ne (Ne.symm hj)] at e2
    obtain ⟨u',r',q⟩:=hl j y v' e1 e2 e3
    refine ⟨u',r',?_⟩
    rcases q with ⟨k,e⟩|⟨k,c,e,z⟩
    ·refine .inl ⟨k,?_⟩
     have:y≠x:=fun e=>hj (qC hN e1 (e ▸ hi))
     simp [this,e]
    ·exact .inr ⟨k,c,e,z.sameBut hs (cne y c e)⟩
  ·obtain ⟨w',z⟩:=I.cell y c e
   exact ⟨w',z.sameBut hs (cne y c e)⟩
  ·obtain ⟨e,n,ne,nf,d⟩:=I.pin p hp
   exact ⟨(hs.2 p.1 ne).trans e,n,ne,nf,d⟩
 ·have hfn:X.fn x=true:=by
   rcases hf with z|z
   ·exact z
   ·rw [z] at hk;cases hk
  obtain ⟨c,hc⟩:=I.ok.has x (.inl hk)
  obtain ⟨w',z⟩:=I.cell x c hc
  refine wpAny_storeName_cell I.ok.kind hk hc z (fun h' hc' hs=>?_)
  obtain ⟨oc,hoc,hocd⟩:=id z
  refine h { s with heap:=h' } ⟨I.ok,I.os,I.bare,⟨fun b o e n hb hx=>?_,fun b o e n hb hx=>?_,I.base.free,fun b o e hx=>?_,I.base.tups,I.base.frzs,I.base.tbls⟩,⟨m,hn.sameBut hs (Ne.symm (cne x c hc)),fun j y v' e1 e2 e3=>?_⟩,fun y c' e=>?_,I.free,I.freeC,fun p hp=>?_,tracked ⟨oc,hoc,I.freeC x c hc⟩ hs,by simpa using I.len,I.tk⟩ ⟨c,hs,.inr hc⟩
  ·exact (hs.2 b (Nat.ne_of_lt (Nat.lt_of_lt_of_le (Heap.lt_size e) (I.ok.cab x c hfn hc)))).trans (I.base.keep b o e n hb hx)
  ·obtain ⟨sl,e1⟩:=I.base.slot b o e n hb hx
   exact ⟨sl,(hs.2 b (Nat.ne_of_lt (Nat.lt_of_lt_of_le (Heap.lt_size e) (I.ok.cab x c hfn hc)))).trans e1⟩
  ·obtain ⟨o',e1⟩:=I.base.there b o e hx
   exact ⟨o',(hs.2 b (Nat.ne_of_lt (Nat.lt_of_lt_of_le (Heap.lt_size e) (I.ok.cab x c hfn hc)))).trans e1⟩
  ·by_cases hj:j=i
   ·subst hj
    rw [hi] at e1;cases e1
    rw [List.getElem?_set_self hiσ] at e2
    cases e2
    exact ⟨u,r,.inr ⟨.inl hk,c,hc,hc'⟩⟩
   ·rw [List.getElem?_set_ne (Ne.symm hj)] at e2
    obtain ⟨u',r',q⟩:=hl j y v' e1 e2 e3
    refine ⟨u',r',?_⟩
    rcases q with q|⟨k,c',e,z'⟩
    ·exact .inl q
    ·refine .inr ⟨k,c',e,z'.sameBut hs ?_⟩
     rintro rfl
     exact hj (qC hN e1 (I.ok.inj _ _ _ e hc ▸ hi))
  ·by_cases hcc:c'=c
   ·subst hcc;exact ⟨_,hc'⟩
   ·obtain ⟨w2,z2⟩:=I.cell y c' e
    exact ⟨w2,z2.sameBut hs hcc⟩
  ·obtain ⟨e,n,ne,nf,d⟩:=I.pin p hp
   refine ⟨(hs.2 p.1 ?_).trans e,n,ne,nf,d⟩
   intro q
   rw [q,hoc] at e
   have q':oc=p.2:=Option.some.inj e
   exact d w' (by rw [← q'];exact hocd)
theorem p7 {M:Model} {A:Around} {E:Value→Shared→Prop} {i:Nat} {x:Str} {v:V} {u:Value} {Q:Unit→Shared→Prop} (I:Inv X pins σ H s) (hN:X.N.Nodup) (hi:X.N[i]?=some x) (hx:Loc X.env.scope x) (r:RelV v u)
  (h:∀ s',Inv X pins (σ.set i (some v)) H s'→Q () s') (hf:X.fn x=true∨X.env.scope.names.lookup x=some .local:=by first|exact .inl rfl|exact .inr rfl|assumption):wpAny M A (storeName X.env x u) Q E s :=
 vq I hN hi hx r (fun s' I' _=>h s' I') hf
theorem Inv.call' {s':Shared} {ch:List Addr} (I:Inv X pins σ H s) (ho:s'.os=s.os) (u:Un (frs X.stack) ch H H' s.heap s'.heap) (hok:HOk X.prog X.w H' s'.heap) (hg:AllBare s'.gens)
  (hch:∀ b∈ch,(b∈X.ex∨X.s₀.heap.objs.size≤b)∧b≠X.env.locals∧(∀ x c,X.env.cells.lookup x=some c→c≠b)∧∀ p∈X.pn++pins,p.1≠b) (ht:X.tn≤s'.toks:=by walk_at "tok"):Inv X pins σ H' s':=by
 obtain ⟨h',g',d',t',o'⟩:=s'
 have e:o'=s.os:=ho
 subst e
 exact I.call (g':=g') (t':=t') (d':=d') u hok hg hch
end
abbrev XK:=Value→Option Addr→Hp→Prop
abbrev St:=List (Option V)
abbrev VK:=V→Hp→Prop
abbrev TE:=St→Hp→VK→Prop
abbrev TT:=St→Hp→(Bool→Hp→Prop)→Prop
abbrev TA:=St→Hp→(List V→Hp→Prop)→Prop
structure Ends where
 nx:St→Hp→Prop
 rt:VK
 bk:St→Hp→Prop:=fun _ _=>False
 ct:St→Hp→Prop:=fun _ _=>False
abbrev TS:=Ends→St→Hp→Prop
def EP (X:Cx) (pins:List (Addr×Obj)) (σ:St) (Q:VK) (u:Value) (s':Shared):Prop:=∃ v H',Inv X pins σ H' s'∧RelV v u∧Q v H'
def TP (X:Cx) (pins:List (Addr×Obj)) (σ:St) (Q:Bool→Hp→Prop) (b:Bool) (s':Shared):Prop:=∃ H',Inv X pins σ H' s'∧Q b H'
def AP (X:Cx) (pins:List (Addr×Obj)) (σ:St) (Q:List V→Hp→Prop) (us:List Value) (s':Shared):Prop:=∃ vs H',Inv X pins σ H' s'∧Vals vs us∧Q vs H'
def SP (X:Cx) (pins:List (Addr×Obj)) (D:Ends) (f:Flow) (s':Shared):Prop :=
 match f with
 | .next=>∃ σ' H',Inv X pins σ' H' s'∧D.nx σ' H'
 | .brk=>∃ σ' H',Inv X pins σ' H' s'∧D.bk σ' H'
 | .cont=>∃ σ' H',Inv X pins σ' H' s'∧D.ct σ' H'
 | .ret u=>∃ v σ' H',Inv X pins σ' H' s'∧RelV v u∧D.rt v H'
def PE (X:Cx) (e:Expr) (t:TE):Prop :=
 ∀ (pins:List (Addr×Obj)) (s:Shared) (σ:St) (H:Hp) (Q:VK),Inv X pins σ H s→t σ H Q→wpAny (model X.prog X.w) X.A (eval e X.env) (EP X pins σ Q) X.xe s
def PT (X:Cx) (e:Expr) (t:TT):Prop :=
 ∀ (pins:List (Addr×Obj)) (s:Shared) (σ:St) (H:Hp) (Q:Bool→Hp→Prop),Inv X pins σ H s→t σ H Q→wpAny (model X.prog X.w) X.A (isTrue e X.env (eval e X.env)) (TP X pins σ Q) X.xe s
def PW (X:Cx) (e:Expr) (t:TT):Prop :=
 ∀ (whole:Sem Value) (pins:List (Addr×Obj)) (s:Shared) (σ:St) (H:Hp) (Q:Bool→Hp→Prop),Inv X pins σ H s→t σ H Q→wpAny (model X.prog X.w) X.A (isTrue e X.env whole) (TP X pins σ Q) X.xe s
theorem PW.pt {X:Cx} {e:Expr} {t:TT} (h:PW X e t):PT X e t:=h _
def PA (X:Cx) (es:List Expr) (t:TA):Prop :=
 ∀ (pos:Pos) (pins:List (Addr×Obj)) (s:Shared) (σ:St) (H:Hp) (Q:List V→Hp→Prop),Inv X pins σ H s→t σ H Q→wpAny (model X.prog X.w) X.A (spliced (backTo pos (starEach es X.env))) (AP X pins σ Q) X.xe s
def PS (X:Cx) (st:Stmt) (t:TS):Prop :=
 ∀ (pins:List (Addr×Obj)) (s:Shared) (σ:St) (H:Hp) (D:Ends),Inv X pins σ H s→t D σ H→wpAny (model X.prog X.w) X.A (exec st X.env) (SP X pins D) X.xe s
def PSs (X:Cx) (st:List Stmt) (t:TS):Prop :=
 ∀ (pins:List (Addr×Obj)) (s:Shared) (σ:St) (H:Hp) (D:Ends),Inv X pins σ H s→t D σ H→wpAny (model X.prog X.w) X.A (execs st X.env) (SP X pins D) X.xe s
theorem thn {α:Type} {t:Sem α} {Q Q':α→Shared→Prop} {M:Model} {A:Around} {E:Value→Shared→Prop} {s:Shared} (h:wpAny M A t Q E s) (hQ:∀ a s,Q a s→Q' a s):wpAny M A t Q' E s:=wpAny_mono h hQ fun _ _ x=>x
section
variable {X:Cx}
def tVar (i:Nat):TE:=fun σ H Q=>∃ v,σ[i]?=some (some v)∧Q v H
def tC (v:V):TE:=fun _ H Q=>Q v H
theorem zm {i:Nat} {x:Str} {pos:Pos} (hN:X.N[i]?=some x) (hv:Vis X.env.scope x) (hd:(x==("__debug__":Str))=false:=by decide) (hcd:(x==("__classdict__":Str))=false:=by decide):PE X (.Name x pos) (tVar i):=by
 intro pins s σ H Q I h
 obtain ⟨v,e,h⟩:=h
 obtain ⟨m,hn,hl⟩:=I.loc
 obtain ⟨u,r,l⟩:=hl i x v hN e hv
 have fin:EP X pins σ Q u s:=⟨v,H,I,r,h⟩
 rcases l with ⟨hk,hm⟩|⟨hk,c,hc,hcell⟩
 ·exact wpAny_Name (wpAny_loadName_local I.ok.kind hk hn hm fin) hd
 ·rcases hk with hk|hk
  ·exact wpAny_Name (wpAny_loadName_cell I.ok.kind hk hc hcell fin) hd
  ·exact wpAny_Name (wpAny_loadName_free I.ok.kind hk hc hcell fin hcd) hd
theorem Ab {i j pos}:PE X (.Constant (.int i) j pos) (tC (.int i)):=fun _ _ _ H _ I h=>wpAny_Constant_int ⟨.int i,H,I.tok _,⟨_,rfl⟩,h⟩
theorem BV {b j pos}:PE X (.Constant (.bool b) j pos) (tC (.bl b)):=fun _ _ _ H _ I h=>Constant_bool ⟨.bl b,H,I,rfl,h⟩
theorem Ag {j pos}:PE X (.Constant .none j pos) (tC .non):=fun _ _ _ H _ I h=>Constant_none ⟨.non,H,I,rfl,h⟩
theorem Au {x j pos}:PE X (.Constant (.str x) j pos) (tC (.str x)):=fun _ _ _ H _ I h=>Calls.Constant_str ⟨.str x,H,I.tok _,⟨_,rfl⟩,h⟩
def Gl (X:Cx) (x:Str):Prop:=X.env.kindOf x=some .globalImplicit
theorem u5 {E:Value→Shared→Prop} {pins:List (Addr×Obj)} {s:Shared} {σ:St} {H:Hp} {x:Str} {u:Value} {pos:Pos} {Q:Value→Shared→Prop} (I:Inv X pins σ H s) (hg:Gl X x) (hm:X.mg x=some u) (h:Q u s)
  (hd:(x==("__debug__":Str))=false:=by decide):wpAny (model X.prog X.w) X.A (eval (.Name x pos) X.env) Q E s :=
 Calls.Name_function_global I.ok.kind hg (Calls.loadGlobal_global (by rw [I.ok.glob];exact I.mod.glob.keeps I.bk) hm h) hd
theorem kK {E:Value→Shared→Prop} {pins:List (Addr×Obj)} {s:Shared} {σ:St} {H:Hp} {x:Str} {u:Value} {pos:Pos} {Q:Value→Shared→Prop} (I:Inv X pins σ H s) (hg:Gl X x) (hm:X.mg x=none) (hv:bootBuiltins x=some u) (h:Q u s)
  (hn:x≠"__name__":=by decide) (hd:(x==("__debug__":Str))=false:=by decide):wpAny (model X.prog X.w) X.A (eval (.Name x pos) X.env) Q E s:=by
 obtain ⟨mb,h1,h2⟩:=I.mod.blt
 exact Calls.Name_function_global I.ok.kind hg (Calls.loadGlobal_builtin (by rw [I.ok.glob];exact I.mod.glob.keeps I.bk) hm (by rw [I.ok.blt];exact h1.keeps I.bk) ((h2 x hn).trans hv) h) hd
theorem sQ {x:Str} {v:V} {u:Value} {pos:Pos} (hg:Gl X x) (hm:X.mg x=some u) (r:RelV v u) (hd:(x==("__debug__":Str))=false:=by decide):PE X (.Name x pos) (tC v) :=
 fun _ _ _ H _ I h=>u5 I hg hm ⟨v,H,I,r,h⟩ hd
theorem yb {x:Str} {v:V} {u:Value} {pos:Pos} (hg:Gl X x) (hm:X.mg x=none) (hv:bootBuiltins x=some u) (r:RelV v u) (hn:x≠"__name__":=by decide) (hd:(x==("__debug__":Str))=false:=by decide):PE X (.Name x pos) (tC v) :=
 fun _ _ _ H _ I h=>kK I hg hm hv ⟨v,H,I,r,h⟩ hn hd
variable {a b:Expr} {ta tb:TE} {pos:Pos}
variable {tA tB':TT} {rest:List Expr}
def tAnd (t u:TT):TT:=fun σ H Q=>t σ H fun c H1=>if c=true then u σ H1 Q else Q false H1
def tOr (t u:TT):TT:=fun σ H Q=>t σ H fun c H1=>if c=true then Q true H1 else u σ H1 Q
def tNot (t:TT):TT:=fun σ H Q=>t σ H fun c H1=>Q (!c) H1
theorem xn (ha:PT X a tA):PW X (.BoolOp .And [a] pos) tA:=by
 intro wh pins s σ H Q I h
 refine isTrue_and (thn (ha pins s σ H Q I h) fun c s1 e=>?_)
 cases c with
 | true=>exact isTrue_and_nil e
 | false=>exact e
theorem zB (ha:PT X a tA):PW X (.BoolOp .Or [a] pos) tA:=by
 intro wh pins s σ H Q I h
 refine isTrue_or (thn (ha pins s σ H Q I h) fun c s1 e=>?_)
 cases c with
 | false=>exact isTrue_or_nil e
 | true=>exact e
theorem yU (ha:PT X a tA) (hb:PW X (.BoolOp .And (b::rest) pos) tB'):PW X (.BoolOp .And (a::b::rest) pos) (tAnd tA tB'):=by
 intro wh pins s σ H Q I h
 refine isTrue_and (thn (ha pins s σ H _ I h) fun c s1 ⟨H1,I1,q1⟩=>?_)
 cases c with
 | true=>exact hb wh pins s1 σ H1 Q I1 q1
 | false=>exact ⟨H1,I1,q1⟩
theorem BB (ha:PT X a tA) (hb:PW X (.BoolOp .Or (b::rest) pos) tB'):PW X (.BoolOp .Or (a::b::rest) pos) (tOr tA tB'):=by
 intro wh pins s σ H Q I h
 refine isTrue_or (thn (ha pins s σ H _ I h) fun c s1 ⟨H1,I1,q1⟩=>?_)
 cases c with
 | true=>exact ⟨H1,I1,q1⟩
 | false=>exact hb wh pins s1 σ H1 Q I1 q1
theorem zC (ha:PT X a tA):PT X (.UnaryOp .Not a pos) (tNot tA):=by
 intro pins s σ H Q I h
 exact isTrue_not (ha pins s σ H (fun c H1=>Q (!c) H1) I h)
theorem AB {op} {t:TE} (h:PE X a t):PE X (.BoolOp op [a] pos) t:=fun pins s σ H Q I hw=>BoolOp_one (h pins s σ H Q I hw)
def tIf (t:TT) (ta tb:TE):TE:=fun σ H Q=>t σ H fun c H1=>if c=true then ta σ H1 Q else tb σ H1 Q
theorem vW {c:Expr} (hc:PT X c tA) (ha:PE X a ta) (hb:PE X b tb):PE X (.IfExp c a b pos) (tIf tA ta tb):=by
 intro pins s σ H Q I h
 refine wpAny_IfExp (thn (hc pins s σ H _ I h) fun d s1 ⟨H1,I1,q1⟩=>?_)
 cases d with
 | true=>exact ha pins s1 σ H1 Q I1 q1
 | false=>exact hb pins s1 σ H1 Q I1 q1
end
def SqL (K:PySem.W.Frag) (H:Hp) (a:Addr) (xs:List V):Prop :=
 Rd H a (.lst xs) ∨
  ∃ (o:Obj) (its:Array Value) (n:Nat),K.lookup a=some o∧o.cls=.type "list"∧o.dict=none∧o.data=.seq its n∧its.size≤sizeLine∧Vals xs its.toList
def SqT (K:PySem.W.Frag) (H:Hp) (a:Addr) (xs:List V):Prop :=
 Rd H a (.tup xs) ∨
  ∃ (o:Obj) (its:Array Value) (n:Nat),K.lookup a=some o∧o.cls=.type "tuple"∧o.data=.seq its n∧its.size≤sizeLine∧Vals xs its.toList
def absV:Value→Option V
 | .none=>some .non
 | .bool b=>some (.bl b)
 | .int i _=>some (.int i)
 | .str x _=>some (.str x)
 | .bytes b _=>some (.byt b)
 | .float b _=>some (.flt b)
 | .ref a=>some (.ref a)
 | .type n=>some (.ty n)
 | _=>none
theorem RelV.abs {x:V} {u:Value} (r:RelV x u):absV u=some x:=by
 cases x with
 | non=>cases r;rfl
 | bl _=>cases r;rfl
 | int _=>obtain ⟨t,rfl⟩:=r;rfl
 | str _=>obtain ⟨t,rfl⟩:=r;rfl
 | byt _=>obtain ⟨t,rfl⟩:=r;rfl
 | flt _=>obtain ⟨t,rfl⟩:=r;rfl
 | ref _=>cases r;rfl
 | ty _=>cases r;rfl
theorem RelV.inj {x y:V} {u:Value} (r:RelV x u) (q:RelV y u):x=y:=Option.some.inj (r.abs.symm.trans q.abs)
theorem Vals.inj:∀ {xs ys:List V} {us:List Value},Vals xs us→Vals ys us→xs=ys
 | _,_,_,.nil,.nil=>rfl
 | _,_,_,.cons r t,.cons r' t'=>by rw [r.inj r',Vals.inj t t']
section
variable {X:Cx} {pins:List (Addr×Obj)} {σ:St} {H:Hp} {s:Shared} {a:Addr} {xs ys:List V}
theorem SqL.of {K:PySem.W.Frag} (h:H a=some (.lst xs)):SqL K H a xs:=.inl (.inl h)
theorem Inv.list (I:Inv X pins σ H s) (h:SqL X.K H a xs):∃ its:List Value,Vals xs its∧PlainL s.heap a its.toArray∧xs.length≤sizeLine:=by
 rcases h with h|⟨o,its,n,hk,hc,hd,hs,hz,r⟩
 ·obtain ⟨z,its,n,r,e⟩:=h.ok I.hok
  exact ⟨its,r,⟨_,n,e,rfl,rfl,rfl⟩,z⟩
 ·refine ⟨its.toList,r,⟨o,n,I.kIn a o hk,hc,hd,by simpa using hs⟩,?_⟩
  have e:=r.length
  simp only [Array.length_toList] at e
  omega
theorem Inv.tuple (I:Inv X pins σ H s) (h:SqT X.K H a xs):∃ its:List Value,Vals xs its∧IsTup s.heap a its.toArray∧xs.length≤sizeLine:=by
 rcases h with h|⟨o,its,n,hk,hc,hs,hz,r⟩
 ·obtain ⟨z,its,r,p⟩:=h.ok I.hok
  exact ⟨its,r,p,z⟩
 ·refine ⟨its.toList,r,⟨o,I.kIn a o hk,hc,n,by simpa using hs⟩,?_⟩
  have e:=r.length
  simp only [Array.length_toList] at e
  omega
theorem Inv.list_inj (I:Inv X pins σ H s) (h:SqL X.K H a xs) (h':SqL X.K H a ys):xs=ys:=by
 obtain ⟨its,r,⟨o,n,e,_,_,d⟩,_⟩:=I.list h
 obtain ⟨its',r',⟨o',n',e',_,_,d'⟩,_⟩:=I.list h'
 rw [e] at e';cases e'
 rw [d] at d'
 injection d' with d1 _
 have:its=its':=by simpa using congrArg Array.toList d1
 subst this
 exact r.inj r'
theorem Inv.tuple_inj (I:Inv X pins σ H s) (h:SqT X.K H a xs) (h':SqT X.K H a ys):xs=ys:=by
 obtain ⟨its,r,⟨o,e,_,n,d⟩,_⟩:=I.tuple h
 obtain ⟨its',r',⟨o',e',_,n',d'⟩,_⟩:=I.tuple h'
 rw [e] at e';cases e'
 rw [d] at d'
 injection d' with d1 _
 have:its=its':=by simpa using congrArg Array.toList d1
 subst this
 exact r.inj r'
end
abbrev Cx.wish (X:Cx) (E:Value→Shared→Prop):Cx:={ X with xe:=E }
abbrev Cx.nox (X:Cx):Cx:=X.wish fun _ _=>False
theorem Cx.Ok.wish {X:Cx} (ok:X.Ok) (E:Value→Shared→Prop):(X.wish E).Ok :=
 ⟨ok.mod,ok.kind,ok.glob,ok.blt,ok.above,ok.inj,ok.has,ok.cab,ok.hd,ok.frames,ok.stk,ok.exf,ok.bs,ok.bsz,ok.noex,ok.exfs,ok.funs,ok.frf⟩
theorem Cx.Ok.unwish {X:Cx} {E:Value→Shared→Prop} (ok:(X.wish E).Ok):X.Ok :=
 ⟨ok.mod,ok.kind,ok.glob,ok.blt,ok.above,ok.inj,ok.has,ok.cab,ok.hd,ok.frames,ok.stk,ok.exf,ok.bs,ok.bsz,ok.noex,ok.exfs,ok.funs,ok.frf⟩
section
variable {X:Cx} {pins:List (Addr×Obj)} {σ:St} {H:Hp} {s:Shared} {E:Value→Shared→Prop}
theorem Inv.wish (I:Inv X pins σ H s) (E:Value→Shared→Prop):Inv (X.wish E) pins σ H s:=⟨I.ok.wish E,I.os,I.bare,I.base,I.loc,I.cell,I.free,I.freeC,I.pin,I.hok,I.len,I.tk⟩
theorem Inv.unwish (I:Inv (X.wish E) pins σ H s):Inv X pins σ H s:=⟨I.ok.unwish,I.os,I.bare,I.base,I.loc,I.cell,I.free,I.freeC,I.pin,I.hok,I.len,I.tk⟩
theorem SP.unwish {D:Ends} {f:Flow} {s':Shared} (h:SP (X.wish E) pins D f s'):SP X pins D f s':=by
 cases f with
 | next=>obtain ⟨σ',H',I,q⟩:=h;exact ⟨σ',H',I.unwish,q⟩
 | brk=>obtain ⟨σ',H',I,q⟩:=h;exact ⟨σ',H',I.unwish,q⟩
 | cont=>obtain ⟨σ',H',I,q⟩:=h;exact ⟨σ',H',I.unwish,q⟩
 | ret u=>obtain ⟨v,σ',H',I,r,q⟩:=h;exact ⟨v,σ',H',I.unwish,r,q⟩
theorem PSs.nox {st:List Stmt} {t:TS} (h:PSs X.nox st t):PSs X st t:=fun pins s σ H D I hw =>
 wpAny_mono (h pins s σ H D (I.wish _) hw) (fun _ _ q=>q.unwish) fun _ _ z=>False.elim z
end
section
variable {X:Cx} {st:Stmt} {rest:List Stmt} {t u:TS} {e:Expr} {te:TE} {pos:Pos}
def tNext:TS:=fun D σ H=>D.nx σ H
def tSeq (t u:TS):TS:=fun D σ H=>t { D with nx:=u D } σ H
theorem xh:PSs X [] tNext:=fun _ _ σ H _ I h=>wpAny_execs_nil ⟨σ,H,I,h⟩
theorem vH (h1:PS X st t) (h2:PSs X rest u):PSs X (st::rest) (tSeq t u):=by
 intro pins s σ H D I h
 refine wpAny_execs_cons (thn (h1 pins s σ H { D with nx:=u D } I h) fun f s1 q=>?_)
 cases f with
 | next =>
  obtain ⟨σ',H',I',q⟩:=q
  exact h2 pins s1 σ' H' D I' q
 | ret v=>exact q
 | brk=>exact q
 | cont=>exact q
theorem yy (h1:PS X st t):PSs X [st] t:=by
 intro pins s σ H D I h
 refine wpAny_execs_cons (thn (h1 pins s σ H D I h) fun f s1 q=>?_)
 cases f with
 | next=>exact wpAny_execs_nil q
 | ret v=>exact q
 | brk=>exact q
 | cont=>exact q
theorem Inv.quiet {pins:List (Addr×Obj)} {σ:St} {H:Hp} {s:Shared} (I:Inv X pins σ H s):interactive X.env=false:=by simp [interactive,I.ok.kind]
def tDrop (te:TE):TS:=fun D σ H=>te σ H fun _ H1=>D.nx σ H1
theorem xc (he:PE X e te) (hs:swapsWith e none pos.line X.env=pure false:=by rfl):PS X (.Expr e pos) (tDrop te):=by
 intro pins s σ H D I h
 exact wpAny_Expr_any (thn (he pins s σ H _ I h) fun v s1 hh=>exF hh fun x H1 I1 r1 q1=>⟨σ,H1,I1,q1⟩) I.quiet hs
def tRet (te:TE):TS:=fun D σ H=>te σ H D.rt
theorem AM (he:PE X e te):PS X (.Return (some e) pos) (tRet te):=by
 intro pins s σ H D I h
 exact wpAny_Return_some (thn (he pins s σ H _ I h) fun v s1 hh=>exF hh fun x H1 I1 r1 q1=>⟨x,σ,H1,I1,r1,q1⟩)
def tIfS (c:TT) (t u:TS):TS:=fun D σ H=>c σ H fun b H1=>if b=true then t D σ H1 else u D σ H1
theorem BU {c:Expr} {a b:List Stmt} {tc:TT} (hc:PT X c tc) (ha:PSs X a t) (hb:PSs X b u):PS X (.If c a b pos) (tIfS tc t u):=by
 intro pins s σ H D I h
 refine wpAny_If (thn (hc pins s σ H _ I h) fun d s1 ⟨H1,I1,q1⟩=>?_)
 cases d with
 | true=>exact ha pins s1 σ H1 D I1 q1
 | false=>exact hb pins s1 σ H1 D I1 q1
end
abbrev TG:=V→St→Hp→(St→Hp→Prop)→Prop
abbrev TGs:=List V→St→Hp→(St→Hp→Prop)→Prop
def PG (X:Cx) (target:Expr) (t:TG):Prop :=
 ∀ (pins:List (Addr×Obj)) (s:Shared) (σ:St) (H:Hp) (v:V) (u:Value) (Q:St→Hp→Prop),Inv X pins σ H s→RelV v u→t v σ H Q →
  wpAny (model X.prog X.w) X.A (assign target X.env u) (fun _ s'=>∃ σ' H',Inv X pins σ' H' s'∧Q σ' H') X.xe s
def PGs (X:Cx) (ts:List Expr) (t:TGs):Prop :=
 ∀ (pins:List (Addr×Obj)) (s:Shared) (σ:St) (H:Hp) (vs:List V) (us:List Value) (Q:St→Hp→Prop),Inv X pins σ H s→Vals vs us→t vs σ H Q →
  wpAny (model X.prog X.w) X.A (assignInOrder ((assignEach ts X.env).map (·.2)) us) (fun _ s'=>∃ σ' H',Inv X pins σ' H' s'∧Q σ' H') X.xe s
section
variable {X:Cx} {pos:Pos}
def gName (i:Nat):TG:=fun v σ H Q=>Q (σ.set i (some v)) H
theorem sT {i:Nat} {x:Str} (hN:X.N.Nodup) (hi:X.N[i]?=some x) (hx:Loc X.env.scope x) (hf:X.fn x=true∨X.env.scope.names.lookup x=some .local:=by first|exact .inl rfl|exact .inr rfl|assumption):PG X (.Name x pos) (gName i):=by
 intro pins s σ H v u Q I r h
 exact wpAny_assign_Name (p7 I hN hi hx r (fun s' I'=>⟨_,H,I',h⟩) hf)
def gNil:TGs:=fun vs σ H Q=>vs=[]∧Q σ H
def gCons (t:TG) (u:TGs):TGs:=fun vs σ H Q=>∃ v r,vs=v::r∧t v σ H fun σ' H'=>u r σ' H' Q
theorem xx:PGs X [] gNil:=by
 intro pins s σ H vs us Q I r h
 obtain ⟨e,h⟩:=h
 subst e
 cases r
 exact assignInOrder_nil ⟨σ,H,I,h⟩
theorem vL {e:Expr} {es:List Expr} {t:TG} {u:TGs} (h1:PG X e t) (h2:PGs X es u)
  (hs:(assignEach (e::es) X.env).map (·.2)=assign e X.env::(assignEach es X.env).map (·.2):=by rfl):PGs X (e::es) (gCons t u):=by
 intro pins s σ H vs us Q I r h
 obtain ⟨v,vr,e1,h⟩:=h
 subst e1
 cases r with
 | cons r rr =>
  rw [hs]
  refine assignInOrder_cons (thn (h1 pins s σ H _ _ _ I r h) fun _ s1 ⟨σ1,H1,I1,q1⟩=>?_)
  exact h2 pins s1 σ1 H1 _ _ Q I1 rr q1
def gTup (K:PySem.W.Frag) (n:Nat) (t:TGs):TG:=fun v σ H Q=>∃ a xs,v=.ref a∧SqT K H a xs∧xs.length=n∧t xs σ H Q
theorem AO {es:List Expr} {k:Nat} {t:TGs} {n:Nat} (hc:X.calm=true) (h:PGs X es t)
  (hn:(assignEach es X.env).length=n:=by rfl) (hst:(assignEach es X.env).findIdx? (·.1)=none:=by rfl):PG X (.Tuple es k pos) (gTup X.K n t):=by
 intro pins s σ H v u Q I r hw
 obtain ⟨a,xs,e1,hq,hl,hw⟩:=hw
 subst e1
 cases r
 obtain ⟨its,rv,ht,hz⟩:=I.tuple hq
 refine assign_Tuple_tuple (I.ok.hd hc) ht (by simp [hn,← hl,rv.length]) hst fun h' hx=>?_
 have I1:Inv X pins σ H { s with heap:=h' }:=I.kept (t':=s.toks) fun b o e=>hx b o (Nat.ne_of_lt (Heap.lt_size e)) e
 exact h pins _ σ H xs _ Q I1 (by simpa using rv) hw
def tAsg (te:TE) (g:TG):TS:=fun D σ H=>te σ H fun x H1=>g x σ H1 D.nx
theorem Af {tg e:Expr} {te:TE} {g:TG} (he:PE X e te) (hg:PG X tg g) (hs:swapsWithSole [tg] e pos.line X.env=pure false:=by rfl) (hw:swappedStores [tg] e X.env=pure none:=by rfl)
  (h1:(assignEach [tg] X.env).map (·.2)=[assign tg X.env]:=by rfl):PS X (.Assign [tg] e pos) (tAsg te g):=by
 intro pins s σ H D I h
 refine wpAny_Assign_stores (thn (he pins s σ H _ I h) fun v s1 hh=>exF hh fun x H1 I1 r1 q1=>?_) hs hw
 rw [h1]
 exact thn (hg pins s1 σ H1 x v _ I1 r1 q1) fun _ s2 q=>q
theorem Ai {i:Nat} {x:Str} {e:Expr} {te:TE} {pos':Pos} (hN:X.N.Nodup) (hi:X.N[i]?=some x) (hx:Loc X.env.scope x) (he:PE X e te) (hs:swapsWith e (some (.Name x pos')) pos.line X.env=pure false:=by rfl) (hf:X.fn x=true∨X.env.scope.names.lookup x=some .local:=by first|exact .inl rfl|exact .inr rfl|assumption) :
  PS X (.Assign [.Name x pos'] e pos) (tAsg te (gName i)):=by
 intro pins s σ H D I h
 refine wpAny_Assign_Name (thn (he pins s σ H _ I h) fun v s1 hh=>exF hh fun y H1 I1 r1 q1=>?_) hs
 exact p7 I1 hN hi hx r1 (fun s2 I2=>⟨_,H1,I2,q1⟩) hf
end
section
variable {X:Cx} {pos:Pos}
def tWhile (c:TT) (tb:TS):TS:=fun D σ H=>∃ W:Nat→St→Hp→Prop,(∃ m,W m σ H)∧∀ m σ H,W m σ H →
 c σ H fun b H1=>if b=true then ∃ N:St→Hp→Prop,(∀ σ' H',N σ' H'→∃ m',m' < m∧W m' σ' H')∧tb { D with nx:=N,ct:=N,bk:=D.nx } σ H1 else D.nx σ H1
theorem wk {c:Expr} {body:List Stmt} {tc:TT} {tb:TS} (hp:PassesOwn (model X.prog X.w) X.A X.env X.xe) (hc:PT X c tc) (hb:PSs X body tb):PS X (.While c body [] pos) (tWhile tc tb):=by
 intro pins s σ H D I h
 obtain ⟨W,⟨m0,w0⟩,turn⟩:=h
 refine wpAny_While (codeAny_whileLoop (fun n s'=>∃ σ' H',Inv X pins σ' H' s'∧W n σ' H') ?_ m0 ⟨σ,H,I,w0⟩)
 rintro n s1 ⟨σ1,H1,I1,w1⟩
 refine wpAny_passesOwn hp (thn (hc pins s1 σ1 H1 _ I1 (turn n σ1 H1 w1)) fun b s2 ⟨H2,I2,q2⟩=>?_)
 cases b with
 | true =>
  obtain ⟨N,hN,q2⟩:=q2
  rw [if_pos rfl]
  refine wpAny_passesOwn hp (thn (hb pins s2 σ1 H2 _ I2 q2) fun f s3 q3=>?_)
  cases f with
  | next =>
   obtain ⟨σ3,H3,I3,n3⟩:=q3
   obtain ⟨m',hm,w3⟩:=hN σ3 H3 n3
   exact ⟨m',hm,σ3,H3,I3,w3⟩
  | cont =>
   obtain ⟨σ3,H3,I3,n3⟩:=q3
   obtain ⟨m',hm,w3⟩:=hN σ3 H3 n3
   exact ⟨m',hm,σ3,H3,I3,w3⟩
  | brk=>exact q3
  | ret v=>exact q3
 | false =>
  rw [if_neg Bool.false_ne_true]
  exact wpAny_execs_nil ⟨σ1,H2,I2,q2⟩
end
structure It where
 go:Nat→Hp→Prop
 yld:Nat→Hp→V→Hp→Prop
 stop:Nat→Hp→Prop
def FpOk (X:Cx) (pins:List (Addr×Obj)) (H:Hp) (b:Addr):Prop :=
 H b=none∧b≠X.env.locals∧b∉X.fs∧(b∈X.ex∨X.s₀.heap.objs.size≤b)∧(∀ x c,X.env.cells.lookup x=some c→c≠b)∧∀ p∈X.pn++pins,p.1≠b
theorem Inv.fpOk {X:Cx} {pins:List (Addr×Obj)} {σ:St} {H H':Hp} {s:Shared} {b:Addr} (I:Inv X pins σ H s) (hb:s.heap.objs.size≤b) (hn:H' b=none):FpOk X pins H' b:=by
 refine ⟨hn,Nat.ne_of_gt (Nat.lt_of_lt_of_le I.lt hb),I.nofs hb,.inr (Nat.le_trans I.sz hb),fun x c e z=>?_,fun p hp z=>?_⟩
 ·obtain ⟨v,q⟩:=I.cell x c e
  exact absurd (Nat.lt_of_lt_of_le q.lt (by rw [z];exact hb)) (Nat.lt_irrefl _)
 ·exact absurd (Nat.lt_of_lt_of_le (Heap.lt_size (I.pin p hp).1) (by rw [z];exact hb)) (Nat.lt_irrefl _)
structure Turn (P:Program) (w:World) (K:PySem.W.Frag) (tg:Expr) (J:It) (fp:List Addr) (it:Addr) (tn:Nat→Heap→Prop):Prop where
 mem:it∈fp
 obj:∀ i h,tn i h→∀ b∈fp,∃ o,h.get? b=some o∧∀ v,o.data≠.cell v
 keep:∀ i h h',tn i h→(∀ b∈fp,∀ o,h.get? b=some o→h'.get? b=some o)→tn i h'
 item:∀ (X:Cx),X.prog=P→X.w=w→X.K=K→X.calm=true→∀ (i:Nat) (pins:List (Addr×Obj)) (s:Shared) (σ:St) (H:Hp) (E:Value→Shared→Prop),Inv X pins σ H s→(∀ b∈fp,FpOk X pins H b)→tn i s.heap→J.go i H →
  wpAny (model P w) X.A (pyNext (.ref it)) (fun r s1=>∃ u,r=some u ∧
   wpAny (model P w) X.A (letOwnedTupleGo tg (.ref it) u) (fun _ s2=>∃ x H',Inv X pins σ H' s2∧RelV x u∧J.yld i H x H'∧tn (i+1) s2.heap∧∀ b∈fp,H' b=none) E s1) E s
 done:∀ (X:Cx),X.prog=P→X.w=w→X.K=K→X.calm=true→∀ (i:Nat) (pins:List (Addr×Obj)) (s:Shared) (σ:St) (H:Hp) (E:Value→Shared→Prop),Inv X pins σ H s→(∀ b∈fp,FpOk X pins H b)→tn i s.heap→J.stop i H →
  wpAny (model P w) X.A (pyNext (.ref it)) (fun r s1=>r=none∧Inv X pins σ H s1) E s
 self:∀ (A:Around) (i:Nat) (s:Shared) (Q:Value→Shared→Prop) (E:Value→Shared→Prop),tn i s.heap→Q (.ref it) s→wpAny (model P w) A (pyIter (.ref it)) Q E s
abbrev TI:=St→Hp→(It→Hp→Prop)→Prop
def PIE (X:Cx) (pins:List (Addr×Obj)) (σ:St) (tg:Expr) (R:It→Hp→Prop) (itv:Value) (s2:Shared):Prop :=
 ∃ (it:Addr) (fp:List Addr) (tn:Nat→Heap→Prop) (J:It) (H':Hp),itv=.ref it∧Inv X pins σ H' s2∧Turn X.prog X.w X.K tg J fp it tn∧tn 0 s2.heap∧(∀ b∈fp,FpOk X pins H' b)∧R J H'
def PI (X:Cx) (tg iter:Expr) (wi:TI):Prop :=
 ∀ (pins:List (Addr×Obj)) (s:Shared) (σ:St) (H:Hp) (R:It→Hp→Prop),Inv X pins σ H s→wi σ H R →
  wpAny (model X.prog X.w) X.A (eval iter X.env) (fun v s1=>wpAny (model X.prog X.w) X.A (pyIter v) (PIE X pins σ tg R) X.xe s1) X.xe s
theorem v9 {M:Model} {A:Around} {E:Value→Shared→Prop} {s:Shared} {tg:Expr} {it:Addr} {u:Value} {o:Obj} {n:String} {vs:Array Value} {Q:Unit→Shared→Prop} (ho:s.heap.get? it=some o) (hc:o.cls=.type n) (hd:o.data=.fields vs)
    (hn:["enumerate","zip","dict_itemiterator","dict_reverseitemiterator","odict_iterator","itertools.zip_longest","itertools.pairwise"].contains n=false) (hQ:Q () s):wpAny M A (letOwnedTupleGo tg (.ref it) u) Q E s:=by
  unfold letOwnedTupleGo
  cases tg <;> first
    | exact wpAny_pure hQ
    | (cases u <;> first
        | exact wpAny_pure hQ
        | (refine wpAny_bind (wpAny_load ho ?_)
           rw [hc,hd]
           show wpAny M A (if (["enumerate","zip","dict_itemiterator","dict_reverseitemiterator","odict_iterator","itertools.zip_longest","itertools.pairwise"].contains n&&vs[0]?==some (rawInt _))=true then _ else _) Q E s
           rw [if_neg (by intro h;rw [hn,Bool.false_and] at h;cases h)]
           exact wpAny_pure hQ))
def Itl (K:PySem.W.Frag) (a:Addr):It :=
 ⟨fun i H=>∃ xs x,SqL K H a xs∧xs[i]?=some x,fun i H x H'=>H'=H∧∀ xs,SqL K H a xs→xs[i]?=some x,fun i H=>∃ xs,SqL K H a xs∧xs.length≤i⟩
def Itt (K:PySem.W.Frag) (a:Addr):It :=
 ⟨fun i H=>∃ xs x,SqT K H a xs∧xs[i]?=some x,fun i H x H'=>H'=H∧∀ xs,SqT K H a xs→xs[i]?=some x,fun i H=>∃ xs,SqT K H a xs∧xs.length≤i⟩
def Itr (lo:Int) (n:Nat):It:=⟨fun i _=>i < n,fun i H x H'=>H'=H∧x=.int (lo+i),fun i _=>n≤i⟩
theorem tz {P:Program} {w:World} {K:PySem.W.Frag} {tg:Expr} (a it:Addr):Turn P w K tg (Itl K a) [it] it (fun i h=>h.IsListIter it a i) where
 mem:=by simp
 obj:=fun i h st b hb=>by
  have e:b=it:=by simpa using hb
  subst e
  obtain ⟨o,e,c,d⟩:=st
  exact ⟨o,e,fun v z=>by rw [d] at z;cases z⟩
 keep:=fun i h h' st k=>st.at fun o e=>k it (by simp) o e
 item:=by
  intro X hP hw hK hc i pins s σ H E I hf st hg
  subst hP hw hK
  obtain ⟨xs,x,hq,hx⟩:=hg
  obtain ⟨its,rv,p,hz⟩:=I.list hq
  obtain ⟨u,hu,ru⟩:=rv.get hx
  obtain ⟨f0,f1,f2,f3,f4,f5⟩:=hf it (by simp)
  refine wpAny_pyNext_list_item st p.isList (x:=u) (by simpa using hu) fun h' st' sb=>?_
  have I1:Inv X pins σ H { s with heap:=h' }:=I.turned (t':=s.toks) (fun b o hb e=>(sb.2 b hb).trans e) f0 f1 f3 f4 f5
  obtain ⟨o,e,c,d⟩:=id st'
  exact ⟨u,rfl,v9 (s:={ s with heap:=h' }) e c d (by decide) ⟨x,H,I1,ru,⟨rfl,fun ys hy=>by rw [I.list_inj hy hq];exact hx⟩,st',fun b hb=>(hf b hb).1⟩⟩
 done:=by
  intro X hP hw hK hc i pins s σ H E I hf st hg
  subst hP hw hK
  obtain ⟨xs,hq,hx⟩:=hg
  obtain ⟨its,rv,p,hz⟩:=I.list hq
  obtain ⟨f0,f1,f2,f3,f4,f5⟩:=hf it (by simp)
  have hl:=rv.length
  exact wpAny_pyNext_list_end (I.ok.hd hc) st p.isList (by simp;omega) fun h' eb=>⟨rfl,I.turned (t':=s.toks) (fun b o hb e=>eb b o hb e) f0 f1 f3 f4 f5⟩
 self:=fun _ _ _ _ _ st h=>wpAny_pyIter_listiter st h
theorem rC {P:Program} {w:World} {K:PySem.W.Frag} {tg:Expr} (a it:Addr):Turn P w K tg (Itt K a) [it] it (fun i h=>h.IsTupleIter it a i) where
 mem:=by simp
 obj:=fun i h st b hb=>by
  have e:b=it:=by simpa using hb
  subst e
  obtain ⟨o,e,c,d⟩:=st
  exact ⟨o,e,fun v z=>by rw [d] at z;cases z⟩
 keep:=fun i h h' st k=>st.at fun o e=>k it (by simp) o e
 item:=by
  intro X hP hw hK hc i pins s σ H E I hf st hg
  subst hP hw hK
  obtain ⟨xs,x,hq,hx⟩:=hg
  obtain ⟨its,rv,p,hz⟩:=I.tuple hq
  obtain ⟨u,hu,ru⟩:=rv.get hx
  obtain ⟨f0,f1,f2,f3,f4,f5⟩:=hf it (by simp)
  refine wpAny_pyNext_tuple_item st (show s.heap.IsTuple a its.toArray from p) (x:=u) (by simpa using hu) fun h' st' sb=>?_
  have I1:Inv X pins σ H { s with heap:=h' }:=I.turned (t':=s.toks) (fun b o hb e=>(sb.2 b hb).trans e) f0 f1 f3 f4 f5
  obtain ⟨o,e,c,d⟩:=id st'
  exact ⟨u,rfl,v9 (s:={ s with heap:=h' }) e c d (by decide) ⟨x,H,I1,ru,⟨rfl,fun ys hy=>by rw [I.tuple_inj hy hq];exact hx⟩,st',fun b hb=>(hf b hb).1⟩⟩
 done:=by
  intro X hP hw hK hc i pins s σ H E I hf st hg
  subst hP hw hK
  obtain ⟨xs,hq,hx⟩:=hg
  obtain ⟨its,rv,p,hz⟩:=I.tuple hq
  obtain ⟨f0,f1,f2,f3,f4,f5⟩:=hf it (by simp)
  have hl:=rv.length
  exact wpAny_pyNext_tuple_end (I.ok.hd hc) st (show s.heap.IsTuple a its.toArray from p) (by simp;omega) fun h' eb=>⟨rfl,I.turned (t':=s.toks) (fun b o hb e=>eb b o hb e) f0 f1 f3 f4 f5⟩
 self:=fun _ _ _ _ _ st h=>wpAny_pyIter_tupleiter st h
theorem r6 {P:Program} {w:World} {K:PySem.W.Frag} {tg:Expr} (it:Addr) (lo:Int) (n:Nat):Turn P w K tg (Itr lo n) [it] it (fun i h=>IsRangeIter h it (lo+(i:Nat)*1) ((n:Int) - (i:Nat)) 1) where
 mem:=by simp
 obj:=fun i h st b hb=>by
  have e:b=it:=by simpa using hb
  subst e
  exact ⟨_,st,fun v z=>by
   have z':Data.fields _=Data.cell v:=z
   cases z'⟩
 keep:=fun i h h' st k=>k it (by simp) _ st
 item:=by
  intro X hP hw hK hc i pins s σ H E I hf st hg
  subst hP hw hK
  obtain ⟨f0,f1,f2,f3,f4,f5⟩:=hf it (by simp)
  have W:=Walks.range (prog:=X.prog) (w:=X.w) (I.ok.hd hc) it lo 1 n
  refine bj I.tk (W.item i s _ _ hg st fun v h' tk hv st' kk htk=>?_)
  obtain ⟨t,rfl⟩:=hv
  have I1:Inv X pins σ H { s with heap:=h',toks:=tk }:=I.turned (fun b o hb e=>kk b o (by simpa using hb) e) f0 f1 f3 f4 f5
  refine ⟨_,rfl,v9 (s:={ s with heap:=h',toks:=tk }) (n:="range_iterator") st' rfl rfl (by decide) ⟨.int (lo+i),H,I1,⟨t,?_⟩,⟨rfl,rfl⟩,st',fun b hb=>(hf b hb).1⟩⟩
  rw [Int.mul_one]
 done:=by
  intro X hP hw hK hc i pins s σ H E I hf st hg
  subst hP hw hK
  obtain ⟨f0,f1,f2,f3,f4,f5⟩:=hf it (by simp)
  exact wpAny_pyNext_range_end (I.ok.hd hc) st (by have:n≤i:=hg;omega) fun h' eb=>⟨rfl,I.turned (t':=s.toks) (fun b o hb e=>eb b o hb e) f0 f1 f3 f4 f5⟩
 self:=fun _ _ _ _ _ st h=>wpAny_pyIter_rangeiter st h
section
variable {X:Cx} {tg:Expr}
theorem pT {pins:List (Addr×Obj)} {σ:St} {H:Hp} {s:Shared} {R:It→Hp→Prop} {E:Value→Shared→Prop} {lo hi:Int} {t u v:Tok} {tk:Nat} (I:Inv X pins σ H s) (h1:-(2 ^ 62)≤lo) (h2:lo < 2 ^ 62) (h3:-(2 ^ 62)≤hi) (h4:hi < 2 ^ 62)
  (q:R (Itr lo (hi - lo).toNat) H) (ht:X.tn≤tk:=by walk_at "tok"):wpAny (model X.prog X.w) X.A (pyIter (.ref s.heap.objs.size)) (PIE X pins σ tg R) E { s with heap:=s.heap.push { cls:=.type "range",data:=.fields #[.int lo t,.int hi u,.int 1 v] },toks:=tk }:=by
 refine wpAny_pyIter_range (IsRange.new ..) (small_one h1 h2 h3 h4) ?_
 have I1:Inv X pins σ H { s with heap:=s.heap.push { cls:=.type "range",data:=.fields #[.int lo t,.int hi u,.int 1 v] },toks:=tk }:=I.kept fun b o e=>Heap.get?_push_of_some _ e
 refine ⟨(s.heap.push { cls:=.type "range",data:=.fields #[.int lo t,.int hi u,.int 1 v] }).objs.size,[(s.heap.push { cls:=.type "range",data:=.fields #[.int lo t,.int hi u,.int 1 v] }).objs.size],_,_,H,rfl,
  I1.kept (t':=tk) fun b o e=>Heap.get?_push_of_some _ e,r6 _ lo (hi - lo).toNat,?_,fun b hb=>?_,q⟩
 ·have e1:lo+((0:Nat):Int)*1=lo:=by simp
  have e2:(((hi - lo).toNat:Nat):Int) - ((0:Nat):Int)=Builtin.Range.rangeSize lo hi 1:=by rw [rangeSize_one];split <;> omega
  show IsRangeIter _ _ (lo+((0:Nat):Int)*1) ((((hi - lo).toNat:Nat):Int) - ((0:Nat):Int)) 1
  rw [e1,e2]
  exact Heap.get?_push_size _ rfl
 ·have e:b=(s.heap.push { cls:=.type "range",data:=.fields #[.int lo t,.int hi u,.int 1 v] }).objs.size:=by simpa using hb
  subst e
  exact I1.fpOk (Nat.le_refl _) (I1.hok.fresh (Nat.le_refl _))
def iRng2 (ta:TA):TI:=fun σ H R=>ta σ H fun vs H1=>∃ i j:Int,vs=[.int i,.int j]∧(-(2 ^ 62)≤i∧i < 2 ^ 62∧-(2 ^ 62)≤j∧j < 2 ^ 62)∧R (Itr i (j - i).toNat) H1
theorem vt {a b:Expr} {ta:TA} {p pos:Pos} (hg:Gl X "range") (hm:X.mg "range"=none) (ha:PA X [a,b] ta) (hs:starEach [a,b] X.env=[(false,eval a X.env),(false,eval b X.env)]:=by rfl) (hs2:starEach [b] X.env=[(false,eval b X.env)]:=by rfl) :
  PI X tg (.Call (.Name "range" p) [a,b] [] pos) (iRng2 ta):=by
 intro pins s σ H R I h
 refine Call_ (kK I hg hm boot_range (PyProof.Rows.callWith_type1 (thn (ha pos pins s σ H _ I h) fun us s1 hh=>exF hh fun vs H1 I1 r1 q1=>?_) (by rw [hs,hs2]) (by rw [hs2];rfl)))
 obtain ⟨i,j,e,⟨q1,q2,q3,q4⟩,q⟩:=q1
 subst e
 cases r1 with
 | cons r rr =>
  cases rr with
  | cons r' rr =>
   cases rr
   obtain ⟨t,rfl⟩:=r
   obtain ⟨t',rfl⟩:=r'
   exact call_range_2 (pT I1 q1 q2 q3 q4 q)
def tFor (wi:TI) (g:TG) (tb:TS):TS:=fun D σ H=>wi σ H fun J H1=>∃ W:Nat→Nat→St→Hp→Prop,(∃ m,W 0 m σ H1)∧∀ i m σ H,W i m σ H →
 (J.stop i H∧D.nx σ H)∨(J.go i H∧∃ N:St→Hp→Prop,(∀ σ' H',N σ' H'→∃ m',m' < m∧W (i+1) m' σ' H')∧∀ x H',J.yld i H x H'→g x σ H' fun σ2 H2=>tb { D with nx:=N,ct:=N,bk:=D.nx } σ2 H2)
def pinsAt (fp:List Addr) (h:Heap):List (Addr×Obj):=fp.filterMap fun b=>(h.get? b).map fun o=>(b,o)
theorem eF {fp:List Addr} {h:Heap} {b:Addr} {o:Obj} (hb:b∈fp) (e:h.get? b=some o):(b,o)∈pinsAt fp h:=List.mem_filterMap.mpr ⟨b,hb,by rw [e];rfl⟩
theorem tY {fp:List Addr} {h:Heap} {p:Addr×Obj} (hp:p∈pinsAt fp h):p.1∈fp∧h.get? p.1=some p.2:=by
 obtain ⟨b,hb,e⟩:=List.mem_filterMap.mp hp
 cases q:h.get? b with
 | none=>rw [q] at e;cases e
 | some o =>
  rw [q] at e
  have e':(b,o)=p:=Option.some.inj e
  subst e'
  exact ⟨hb,q⟩
theorem Inv.pinned {pins:List (Addr×Obj)} {σ:St} {H:Hp} {s:Shared} {fp:List Addr} (I:Inv X pins σ H s) (hf:∀ b∈fp,FpOk X pins H b) (ho:∀ b∈fp,∃ o,s.heap.get? b=some o∧∀ v,o.data≠.cell v):Inv X (pins++pinsAt fp s.heap) σ H s :=
 I.pins_of fun p hp=>(List.mem_append.mp hp).elim (fun z=>I.pin p (List.mem_append_right _ z)) fun z=>by
  obtain ⟨hb,e⟩:=tY z
  obtain ⟨f0,f1,f2,_⟩:=hf p.1 hb
  obtain ⟨o,e',d⟩:=ho p.1 hb
  rw [e] at e';cases e'
  exact ⟨e,f0,f1,f2,d⟩
theorem Inv.unpinned {pins pl:List (Addr×Obj)} {σ:St} {H:Hp} {s:Shared} (I:Inv X (pins++pl) σ H s):Inv X pins σ H s:=I.pins_of fun p hp=>I.pin p (List.mem_append_right _ (List.mem_append_left _ hp))
theorem zv {iter:Expr} {body:List Stmt} {wi:TI} {g:TG} {tb:TS} {pos:Pos} (hp:PassesOwn (model X.prog X.w) X.A X.env X.xe) (hc:X.calm=true) (hi:PI X tg iter wi) (hg:PG X tg g) (hb:PSs X body tb)
  (hs:∀ x,foldedSetIterable iter X.env x=pure x:=by intro _;rfl):PS X (.For tg iter body [] pos) (tFor wi g tb):=by
 intro pins s σ H D I h
 refine wpAny_For (thn (hi pins s σ H _ I h) fun v s1 h1=>thn h1 fun itv s2 h2=>?_) hs
 obtain ⟨it,fp,tn,J,H2,e,I2,T,st2,f2,W,⟨m0,w0⟩,turn⟩:=h2
 subst e
 -- what stays true of the iterator's objects through the loop
 have stat:∀ {H':Hp},(∀ b∈fp,H' b=none)→∀ b∈fp,FpOk X pins H' b:=fun hn b hb=>⟨hn b hb,(f2 b hb).2⟩
 refine codeAny_forLoop_any (fun n s'=>∃ i σ' H',Inv X pins σ' H' s'∧tn i s'.heap∧(∀ b∈fp,H' b=none)∧W i n σ' H') ?_ m0 ⟨0,σ,H2,I2,st2,fun b hb=>(f2 b hb).1,w0⟩
 rintro n s3 ⟨i,σ3,H3,I3,st3,fr3,w3⟩
 rcases turn i n σ3 H3 w3 with ⟨stop,qn⟩|⟨go,N,hN,step⟩
 ·refine wpAny_passesOwn hp (thn (T.done X rfl rfl rfl hc i pins s3 σ3 H3 X.xe I3 (stat fr3) st3 stop) fun r s4 ⟨hr,I4⟩=>?_)
  subst hr
  exact wpAny_execs_nil ⟨σ3,H3,I4,qn⟩
 ·refine wpAny_passesOwn hp (thn (T.item X rfl rfl rfl hc i pins s3 σ3 H3 X.xe I3 (stat fr3) st3 go) fun r s4 ⟨u,hr,h4⟩=>?_)
  subst hr
  refine wpAny_passesOwn hp (thn h4 fun _ s5 ⟨x,H5,I5,r5,y5,st5,fr5⟩=>?_)
  have I5':=I5.pinned (stat fr5) (T.obj _ _ st5)
  refine wpAny_passesOwn hp (thn (hg _ s5 σ3 H5 x u _ I5' r5 (step x H5 y5)) fun _ s6 ⟨σ6,H6,I6,q6⟩=>?_)
  refine wpAny_passesOwn hp (thn (hb _ s6 σ6 H6 _ I6 q6) fun f s7 q7=>?_)
  have again:∀ {σ7:St} {H7:Hp},Inv X (pins++pinsAt fp s5.heap) σ7 H7 s7→N σ7 H7→∃ m,m < n∧∃ i σ' H',Inv X pins σ' H' s7∧tn i s7.heap∧(∀ b∈fp,H' b=none)∧W i m σ' H':=fun {σ7 H7} I7 n7=>by
   obtain ⟨m',hm,w7⟩:=hN σ7 H7 n7
   refine ⟨m',hm,i+1,σ7,H7,I7.unpinned,T.keep _ _ _ st5 fun b hb o e=>(I7.pin (b,o) (List.mem_append_right _ (List.mem_append_right _ (eF hb e)))).1,fun b hb=>?_,w7⟩
   obtain ⟨o,e,d⟩:=T.obj _ _ st5 b hb
   exact (I7.pin (b,o) (List.mem_append_right _ (List.mem_append_right _ (eF hb e)))).2.1
  cases f with
  | next=>obtain ⟨σ7,H7,I7,n7⟩:=q7;exact again I7 n7
  | cont=>obtain ⟨σ7,H7,I7,n7⟩:=q7;exact again I7 n7
  | brk=>obtain ⟨σ7,H7,I7,q7⟩:=q7;exact ⟨σ7,H7,I7.unpinned,q7⟩
  | ret v=>obtain ⟨x7,σ7,H7,I7,r7,q7⟩:=q7;exact ⟨x7,σ7,H7,I7.unpinned,r7,q7⟩
end
abbrev R2:=V→V→Hp→VK→Prop
def OpR (X:Cx) (f:Value→Value→Sem Value) (r:R2):Prop :=
 ∀ (pins:List (Addr×Obj)) (s:Shared) (σ:St) (H:Hp) (x y:V) (v u:Value) (Q:VK),Inv X pins σ H s→RelV x v→RelV y u→r x y H Q →
  wpAny (model X.prog X.w) X.A (f v u) (EP X pins σ Q) X.xe s
def UnR (X:Cx) (f:Value→Sem Value) (r:V→Hp→VK→Prop):Prop :=
 ∀ (pins:List (Addr×Obj)) (s:Shared) (σ:St) (H:Hp) (x:V) (v:Value) (Q:VK),Inv X pins σ H s→RelV x v→r x H Q →
  wpAny (model X.prog X.w) X.A (f v) (EP X pins σ Q) X.xe s
def CallR (X:Cx) (f:Value) (r:List V→Hp→VK→Prop):Prop :=
 ∀ (pins:List (Addr×Obj)) (s:Shared) (σ:St) (H:Hp) (xs:List V) (us:List Value) (Q:VK),Inv X pins σ H s→Vals xs us→r xs H Q →
  wpAny (model X.prog X.w) X.A (call f us) (EP X pins σ Q) X.xe s
def TruR (X:Cx) (r:V→Hp→(Bool→Hp→Prop)→Prop):Prop :=
 ∀ (pins:List (Addr×Obj)) (s:Shared) (σ:St) (H:Hp) (x:V) (v:Value) (Q:Bool→Hp→Prop),Inv X pins σ H s→RelV x v→r x H Q →
  wpAny (model X.prog X.w) X.A (truthy v) (TP X pins σ Q) X.xe s
def tOp (r:R2) (ta tb:TE):TE:=fun σ H Q=>ta σ H fun x H1=>tb σ H1 fun y H2=>r x y H2 Q
def tUn (r:V→Hp→VK→Prop) (ta:TE):TE:=fun σ H Q=>ta σ H fun x H1=>r x H1 Q
def rI (C:Int→Int→Prop) (g:Int→Int→V):R2:=fun x y H Q=>∃ i j,x=.int i∧y=.int j∧C i j∧Q (g i j) H
def rI0 (g:Int→Int→V):R2:=fun x y H Q=>∃ i j,x=.int i∧y=.int j∧Q (g i j) H
def rU (g:Int→V):V→Hp→VK→Prop:=fun x H Q=>∃ i,x=.int i∧Q (g i) H
section
variable {X:Cx} {a b c:Expr} {ta tb tc:TE} {pos:Pos}
theorem binT (ha:PE X a ta) (hb:PE X b tb) {pins:List (Addr×Obj)} {s:Shared} {σ:St} {H:Hp} {R:V→V→Hp→Prop} (I:Inv X pins σ H s)
  (h:ta σ H fun x H1=>tb σ H1 fun y H2=>R x y H2) {Q:Value→Shared→Prop} {f:Value→Value→Sem Value}
  (hf:∀ v u s2 x y H2,Inv X pins σ H2 s2→RelV x v→RelV y u→R x y H2→wpAny (model X.prog X.w) X.A (f v u) Q X.xe s2) :
  wpAny (model X.prog X.w) X.A (eval a X.env) (fun v s₁=>wpAny (model X.prog X.w) X.A (eval b X.env) (fun u s₂=>wpAny (model X.prog X.w) X.A (f v u) Q X.xe s₂) X.xe s₁) X.xe s:=by
 refine thn (ha pins s σ H _ I h) fun v s1 hh=>exF hh fun x H1 I1 r1 q1=>?_
 refine thn (hb pins s1 σ H1 _ I1 q1) fun u s2 hh=>exF hh fun y H2 I2 r2 q2=>?_
 exact hf v u s2 x y H2 I2 r1 r2 q2
theorem BJ {op:Operator} {r:R2} (ho:OpR X (binaryOp op) r) (ha:PE X a ta) (hb:PE X b tb):PE X (.BinOp a op b pos) (tOp r ta tb):=by
 intro pins s σ H Q I h
 exact wpAny_BinOp (binT ha hb I h fun v u s2 x y H2 I2 rx ry q=>ho pins s2 σ H2 x y v u Q I2 rx ry q)
theorem A7 {op:UnaryOp} {r:V→Hp→VK→Prop} (ho:UnR X (unaryOp op) r) (ha:PE X a ta):PE X (.UnaryOp op a pos) (tUn r ta):=by
 intro pins s σ H Q I h
 exact UnaryOp_ (thn (ha pins s σ H _ I h) fun v s1 hh=>exF hh fun x H1 I1 r1 q1=>ho pins s1 σ H1 x v Q I1 r1 q1)
theorem opI {f:Value→Value→Sem Value} {C:Int→Int→Prop} {g:Int→Int→Int}
  (rule:∀ (i j:Int) (t u:Tok) (s:Shared) (Q:Value→Shared→Prop) (E:Value→Shared→Prop),C i j→Q (.int (g i j) s.toks) { s with toks:=s.toks+1 }→wpAny (model X.prog X.w) X.A (f (.int i t) (.int j u)) Q E s) :
  OpR X f (rI C fun i j=>.int (g i j)):=by
 intro pins s σ H x y v u Q I rx ry h
 obtain ⟨i,j,rfl,rfl,hc,q⟩:=h
 obtain ⟨t,rfl⟩:=rx
 obtain ⟨t',rfl⟩:=ry
 exact rule i j t t' s _ _ hc ⟨.int (g i j),H,I.tok _,⟨_,rfl⟩,q⟩
theorem opI0 {f:Value→Value→Sem Value} {g:Int→Int→Int}
  (rule:∀ (i j:Int) (t u:Tok) (s:Shared) (Q:Value→Shared→Prop) (E:Value→Shared→Prop),Q (.int (g i j) s.toks) { s with toks:=s.toks+1 }→wpAny (model X.prog X.w) X.A (f (.int i t) (.int j u)) Q E s) :
  OpR X f (rI0 fun i j=>.int (g i j)):=by
 intro pins s σ H x y v u Q I rx ry h
 obtain ⟨i,j,rfl,rfl,q⟩:=h
 obtain ⟨t,rfl⟩:=rx
 obtain ⟨t',rfl⟩:=ry
 exact rule i j t t' s _ _ ⟨.int (g i j),H,I.tok _,⟨_,rfl⟩,q⟩
theorem opB0 {f:Value→Value→Sem Value} {g:Int→Int→Bool}
  (rule:∀ (i j:Int) (t u:Tok) (s:Shared) (Q:Value→Shared→Prop) (E:Value→Shared→Prop),Q (.bool (g i j)) s→wpAny (model X.prog X.w) X.A (f (.int i t) (.int j u)) Q E s) :
  OpR X f (rI0 fun i j=>.bl (g i j)):=by
 intro pins s σ H x y v u Q I rx ry h
 obtain ⟨i,j,rfl,rfl,q⟩:=h
 obtain ⟨t,rfl⟩:=rx
 obtain ⟨t',rfl⟩:=ry
 exact rule i j t t' s _ _ ⟨.bl (g i j),H,I,rfl,q⟩
def CDiv (i j:Int):Prop:=0 < j∧j < 1073741824
def CPow (i j:Int):Prop:=0≤j∧j≤1000000∧i.natAbs < 2 ^ 64
def CMul (i j:Int):Prop:=(-(2 ^ 64) < i∧i < 2 ^ 64)∨(-(2 ^ 64) < j∧j < 2 ^ 64)
theorem CMul.ok {i j:Int} (h:CMul i j):IntMulOk i j:=by
 rcases h with ⟨h1,h2⟩|⟨h1,h2⟩
 ·exact .of_left (intBits_le_64 h1 h2)
 ·exact .of_right (intBits_le_64 h1 h2)
theorem Ar:OpR X (binaryOp .Add) (rI0 fun i j=>.int (i+j)):=opI0 fun _ _ _ _ _ _ _ q=>add_int q
theorem zI:OpR X (binaryOp .Sub) (rI0 fun i j=>.int (i - j)):=opI0 fun _ _ _ _ _ _ _ q=>sub_int q
theorem zA:OpR X (binaryOp .Mult) (rI CMul fun i j=>.int (i*j)):=opI fun _ _ _ _ _ _ _ hc q=>mul_int q hc.ok
theorem yD:OpR X (binaryOp .FloorDiv) (rI CDiv fun i j=>.int (i/j)):=opI fun i j _ _ _ _ _ hc q=>by
 have h1:(0:Int) < j:=hc.1
 have h2:j < 1073741824:=hc.2
 exact floordiv_int (by omega) (by rw [Int.fdiv_eq_ediv_of_nonneg i (by omega)];exact q) (.inl (PyProof.noPylong_small (by omega)))
theorem An:OpR X (binaryOp .Mod) (rI (fun _ j=>0 < j) fun i j=>.int (i % j)):=opI fun i j _ _ _ _ _ hc q=>by
 have h1:(0:Int) < j:=hc
 exact mod_int' (by omega) (by rw [Int.fmod_eq_emod_of_nonneg i (by omega)];exact q)
theorem AE:OpR X (binaryOp .Pow) (rI CPow fun i j=>.int (i ^ j.toNat)):=opI fun _ _ _ _ _ _ _ hc q=>pow_int_small hc.1 hc.2.1 hc.2.2 q
theorem unI {f:Value→Sem Value} {g:Int→Int}
  (rule:∀ (i:Int) (t:Tok) (s:Shared) (Q:Value→Shared→Prop) (E:Value→Shared→Prop),Q (.int (g i) s.toks) { s with toks:=s.toks+1 }→wpAny (model X.prog X.w) X.A (f (.int i t)) Q E s) :
  UnR X f (rU fun i=>.int (g i)):=by
 intro pins s σ H x v Q I rx h
 obtain ⟨i,rfl,q⟩:=h
 obtain ⟨t,rfl⟩:=rx
 exact rule i t s _ _ ⟨.int (g i),H,I.tok _,⟨_,rfl⟩,q⟩
theorem zU:UnR X (unaryOp .USub) (rU fun i=>.int (-i)):=unI fun _ _ _ _ _ q=>neg_int q
end
def scal:V→V→Bool
 | .non,.non=>true|.non,.int _=>true|.int _,.non=>true|.non,.bl _=>true|.bl _,.non=>true|.non,.str _=>true|.str _,.non=>true
 | .int _,.int _=>true|.bl _,.bl _=>true|.str _,.str _=>true|.byt _,.byt _=>true
 | .int _,.str _=>true|.str _,.int _=>true|.bl _,.str _=>true|.str _,.bl _=>true
 | _,_=>false
def rEq:R2:=fun x y H Q=>scal x y=true∧Q (.bl (decide (x=y))) H
def rNe:R2:=fun x y H Q=>scal x y=true∧Q (.bl (!decide (x=y))) H
theorem vm {i j:Int}:decide (V.int i=V.int j)=(i==j):=by
 rw [Bool.eq_iff_iff]
 simp
theorem xa {i j:Bool}:decide (V.bl i=V.bl j)=(i==j):=by
 rw [Bool.eq_iff_iff]
 simp
theorem sO {i j:Str}:decide (V.str i=V.str j)=(i==j):=by
 rw [Bool.eq_iff_iff]
 simp
theorem uk {i j:Array UInt8}:decide (V.byt i=V.byt j)=(i.toList==j.toList):=by
 rw [Bool.eq_iff_iff]
 cases i
 cases j
 simp
section
variable {X:Cx} {a b c:Expr} {ta tb tc:TE} {pos:Pos}
theorem aM {pins:List (Addr×Obj)} {σ:St} {H:Hp} {s:Shared} {Q:VK} {k k':Bool} (I:Inv X pins σ H s) (q:Q (.bl k) H) (e:k=k'):EP X pins σ Q (.bool k') s:=by
 subst e
 exact ⟨.bl k,H,I,rfl,q⟩
theorem BQ:OpR X (compareOp .Eq) rEq:=by
 intro pins s σ H x y v u Q I rx ry h
 obtain ⟨hs,q⟩:=h
 cases x with
 | non =>
  cases rx
  cases y with
  | non=>cases ry;exact PySem.EqNone.eq_none_none (aM I q (by simp))
  | bl j=>cases ry;exact PySem.EqNone.eq_none_bool (aM I q (by simp))
  | int j=>obtain ⟨t',rfl⟩:=ry;exact PySem.EqNone.eq_none_int (aM I q (by simp))
  | str j=>obtain ⟨t',rfl⟩:=ry;exact PySem.EqNone.eq_none_str (aM I q (by simp))
  | _=>exact absurd (show false=true from hs) Bool.false_ne_true
 | bl i =>
  cases rx
  cases y with
  | non=>cases ry;exact PySem.EqNone.eq_bool_none (aM I q (by simp))
  | bl j=>cases ry;exact eq_bool (aM I q xa)
  | str j=>obtain ⟨t',rfl⟩:=ry;exact PySem.EqMixed.eq_bool_str (aM I q (by simp))
  | _=>exact absurd (show false=true from hs) Bool.false_ne_true
 | int i =>
  obtain ⟨t,rfl⟩:=rx
  cases y with
  | non=>cases ry;exact PySem.EqNone.eq_int_none (aM I q (by simp))
  | int j=>obtain ⟨t',rfl⟩:=ry;exact eq_int (aM I q vm)
  | str j=>obtain ⟨t',rfl⟩:=ry;exact PySem.EqMixed.eq_int_str (aM I q (by simp))
  | _=>exact absurd (show false=true from hs) Bool.false_ne_true
 | str i =>
  obtain ⟨t,rfl⟩:=rx
  cases y with
  | non=>cases ry;exact PySem.EqNone.eq_str_none (aM I q (by simp))
  | bl j=>cases ry;exact PySem.EqMixed.eq_str_bool (aM I q (by simp))
  | int j=>obtain ⟨t',rfl⟩:=ry;exact PySem.EqMixed.eq_str_int (aM I q (by simp))
  | str j=>obtain ⟨t',rfl⟩:=ry;exact eq_str (aM I q sO)
  | _=>exact absurd (show false=true from hs) Bool.false_ne_true
 | byt i =>
  obtain ⟨t,rfl⟩:=rx
  cases y with
  | byt j=>obtain ⟨t',rfl⟩:=ry;exact PySem.W.eq_bytes (aM I q uk)
  | _=>exact absurd (show false=true from hs) Bool.false_ne_true
 | _=>cases y <;> exact absurd (show false=true from hs) Bool.false_ne_true
theorem A5:OpR X (compareOp .NotEq) rNe:=by
 intro pins s σ H x y v u Q I rx ry h
 obtain ⟨hs,q⟩:=h
 cases x with
 | non =>
  cases rx
  cases y with
  | non=>cases ry;exact PySem.EqNone.ne_none_none (aM I q (by simp))
  | bl j=>cases ry;exact PySem.EqNone.ne_none_bool (aM I q (by simp))
  | int j=>obtain ⟨t',rfl⟩:=ry;exact PySem.EqNone.ne_none_int (aM I q (by simp))
  | str j=>obtain ⟨t',rfl⟩:=ry;exact PySem.EqNone.ne_none_str (aM I q (by simp))
  | _=>exact absurd (show false=true from hs) Bool.false_ne_true
 | bl i =>
  cases rx
  cases y with
  | non=>cases ry;exact PySem.EqNone.ne_bool_none (aM I q (by simp))
  | bl j=>cases ry;exact ne_bool (aM I q (congrArg not xa))
  | str j=>obtain ⟨t',rfl⟩:=ry;exact PySem.EqMixed.ne_bool_str (aM I q (by simp))
  | _=>exact absurd (show false=true from hs) Bool.false_ne_true
 | int i =>
  obtain ⟨t,rfl⟩:=rx
  cases y with
  | non=>cases ry;exact PySem.EqNone.ne_int_none (aM I q (by simp))
  | int j=>obtain ⟨t',rfl⟩:=ry;exact ne_int (aM I q (congrArg not vm))
  | str j=>obtain ⟨t',rfl⟩:=ry;exact PySem.EqMixed.ne_int_str (aM I q (by simp))
  | _=>exact absurd (show false=true from hs) Bool.false_ne_true
 | str i =>
  obtain ⟨t,rfl⟩:=rx
  cases y with
  | non=>cases ry;exact PySem.EqNone.ne_str_none (aM I q (by simp))
  | bl j=>cases ry;exact PySem.EqMixed.ne_str_bool (aM I q (by simp))
  | int j=>obtain ⟨t',rfl⟩:=ry;exact PySem.EqMixed.ne_str_int (aM I q (by simp))
  | str j=>obtain ⟨t',rfl⟩:=ry;exact ne_str (aM I q (congrArg not sO))
  | _=>exact absurd (show false=true from hs) Bool.false_ne_true
 | byt i =>
  obtain ⟨t,rfl⟩:=rx
  cases y with
  | byt j=>obtain ⟨t',rfl⟩:=ry;exact PySem.W.ne_bytes (aM I q (congrArg not uk))
  | _=>exact absurd (show false=true from hs) Bool.false_ne_true
 | _=>cases y <;> exact absurd (show false=true from hs) Bool.false_ne_true
theorem BL:OpR X (compareOp .Lt) (rI0 fun i j=>.bl (decide (i < j))):=opB0 fun _ _ _ _ _ _ _ q=>lt_int q
theorem BH:OpR X (compareOp .LtE) (rI0 fun i j=>.bl (decide (i≤j))):=opB0 fun _ _ _ _ _ _ _ q=>le_int q
theorem BX:OpR X (compareOp .Gt) (rI0 fun i j=>.bl (decide (j < i))):=opB0 fun _ _ _ _ _ _ _ q=>gt_int q
theorem BC:OpR X (compareOp .GtE) (rI0 fun i j=>.bl (decide (j≤i))):=opB0 fun _ _ _ _ _ _ _ q=>ge_int q
theorem uM:OpR X (compareOp .Lt) (fun x y H Q=>∃ i j,x=.str i∧y=.str j∧Q (.bl (decide (i.cps.toList < j.cps.toList))) H):=by
 intro pins s σ H x y v u Q I rx ry h
 obtain ⟨i,j,rfl,rfl,q⟩:=h
 obtain ⟨t,rfl⟩:=rx
 obtain ⟨t',rfl⟩:=ry
 exact lt_str (aM I q rfl)
theorem uK:OpR X (compareOp .In) (fun x y H Q=>∃ i j,x=.str i∧y=.str j∧Q (.bl (!(Builtin.Str.occurrences j i 0 j.length 1).isEmpty)) H):=by
 intro pins s σ H x y v u Q I rx ry h
 obtain ⟨i,j,rfl,rfl,q⟩:=h
 obtain ⟨t,rfl⟩:=rx
 obtain ⟨t',rfl⟩:=ry
 exact in_str (aM I q rfl)
theorem yP:OpR X (compareOp .Is) (fun x y H Q=>y=.non∧Q (.bl (decide (x=.non))) H):=by
 intro pins s σ H x y v u Q I rx ry h
 obtain ⟨rfl,q⟩:=h
 cases ry
 refine is_none_gen (aM I q ?_)
 cases x <;> first
  | (cases rx;rfl)
  | (obtain ⟨t,rfl⟩:=rx;rfl)
theorem xF:OpR X (compareOp .IsNot) (fun x y H Q=>y=.non∧Q (.bl (!decide (x=.non))) H):=by
 intro pins s σ H x y v u Q I rx ry h
 obtain ⟨rfl,q⟩:=h
 cases ry
 refine isnot_none_gen (aM I q ?_)
 cases x <;> first
  | (cases rx;rfl)
  | (obtain ⟨t,rfl⟩:=rx;rfl)
theorem OpR.or {f:Value→Value→Sem Value} {r r':R2} (h:OpR X f r) (h':OpR X f r'):OpR X f (fun x y H Q=>r x y H Q∨r' x y H Q):=by
 intro pins s σ H x y v u Q I rx ry q
 rcases q with q|q
 ·exact h pins s σ H x y v u Q I rx ry q
 ·exact h' pins s σ H x y v u Q I rx ry q
theorem az (b:Expr) {op:CmpOp} (h:op≠.In:=by decide) (h2:op≠.NotIn:=by decide):behindInMarks op b=false:=by
 have e1:(op==CmpOp.In)=false:=by cases op <;> first|rfl|exact absurd rfl h
 have e2:(op==CmpOp.NotIn)=false:=by cases op <;> first|rfl|exact absurd rfl h2
 cases b <;> simp [behindInMarks,e1,e2]
theorem xi {op:CmpOp} {r:R2} (ho:OpR X (compareOp op) r) (ha:PE X a ta) (hb:PE X b tb) (hm:behindInMarks op b=false):PE X (.Compare a [op] [b] pos) (tOp r ta tb):=by
 intro pins s σ H Q I h
 exact wpAny_Compare1 (binT ha hb I h fun v u s2 x y H2 I2 rx ry q=>ho pins s2 σ H2 x y v u Q I2 rx ry q) hm
def tTest (t:TE):TT:=fun σ H Q=>t σ H fun x H'=>∃ k,x=.bl k∧Q k H'
def tChain (r r':R2) (ta tb tc:TE):TE:=fun σ H Q=>ta σ H fun x H1=>tb σ H1 fun y H2=>r x y H2 fun z H3=>∃ k,z=.bl k ∧
 (if k=true then tc σ H3 fun w' H4=>r' y w' H4 Q else Q (.bl false) H3)
theorem vR {op op':CmpOp} {r r':R2} (ho:OpR X (compareOp op) r) (ho':OpR X (compareOp op') r') (ha:PE X a ta) (hb:PE X b tb) (hc:PE X c tc)
  (hm:lastMarks [op,op'] [b,c]=false:=by with_unfolding_all rfl):PE X (.Compare a [op,op'] [b,c] pos) (tChain r r' ta tb tc):=by
 intro pins s σ H Q I h
 refine Compare_chain (thn (ha pins s σ H _ I h) fun v s1 hh=>exF hh fun x H1 I1 r1 q1=>chain_link (thn (hb pins s1 σ H1 _ I1 q1) fun u s2 hh=>exF hh fun y H2 I2 r2 q2 =>
  thn (ho pins s2 σ H2 x y v u _ I2 r1 r2 q2) fun d s3 ⟨z,H3,I3,r3,k,e,q3⟩=>?_)) hm
 subst e
 cases r3
 refine wpAny_truthy_bool ?_
 cases k with
 | false=>exact ite_ff ⟨.bl false,H3,I3,rfl,q3⟩
 | true=>exact ite_tt (chain_last (thn (hc pins s3 σ H3 _ I3 q3) fun w' s4 ⟨z',H4,I4,r4,q4⟩=>ho' pins s4 σ H4 y z' u w' Q I4 r2 r4 q4))
theorem vS {op op':CmpOp} {r r':R2} (ho:OpR X (compareOp op) r) (ho':OpR X (compareOp op') r') (ha:PE X a ta) (hb:PE X b tb) (hc:PE X c tc)
  (hm:lastMarks [op,op'] [b,c]=false:=by with_unfolding_all rfl):PT X (.Compare a [op,op'] [b,c] pos) (tTest (tChain r r' ta tb tc)):=by
 intro pins s σ H Q I h
 refine isTrue_chain (thn (ha pins s σ H _ I h) fun v s1 hh=>exF hh fun x H1 I1 r1 q1=>test_link (thn (hb pins s1 σ H1 _ I1 q1) fun u s2 hh=>exF hh fun y H2 I2 r2 q2 =>
  thn (ho pins s2 σ H2 x y v u _ I2 r1 r2 q2) fun d s3 ⟨z,H3,I3,r3,k,e,q3⟩=>?_)) hm
 subst e
 cases r3
 refine wpAny_truthy_bool ?_
 cases k with
 | false =>
  obtain ⟨k',e',q'⟩:=q3
  cases e'
  exact ite_ff ⟨H3,I3,q'⟩
 | true =>
  refine ite_tt (test_last (thn (hc pins s3 σ H3 _ I3 q3) fun w' s4 ⟨z',H4,I4,r4,q4⟩=>thn (ho' pins s4 σ H4 y z' u w' _ I4 r2 r4 q4) fun d' s5 ⟨z2,H5,I5,r5,k2,e2,q5⟩=>?_))
  subst e2
  cases r5
  exact wpAny_truthy_bool ⟨H5,I5,q5⟩
def TruV (K:PySem.W.Frag) (x:V) (H:Hp) (k:Bool):Prop :=
 match x with
 | .non=>k=false
 | .bl b=>k=b
 | .int i=>k=(i != 0)
 | .str y=>y.length≤sizeLine∧k=((y.length:Int) != 0)
 | .byt y=>y.size≤sizeLine∧k=((y.size:Int) != 0)
 | .ref p=>(∃ xs,SqL K H p xs∧k=!xs.isEmpty)∨(∃ xs,SqT K H p xs∧k=!xs.isEmpty)∨∃ kvs,H p=some (.dK kvs)∧k=!kvs.isEmpty
 | _=>False
theorem sE {κ:Type} {kvs:List (κ×V)} {vs:List (κ×Value)} (r:KV kvs vs):(!vs.isEmpty)=!kvs.isEmpty:=by
 cases r <;> rfl
theorem ly {xs:List V} {its:List Value} (r:Vals xs its):(!its.toArray.isEmpty)=!xs.isEmpty:=by
 cases r <;> simp
theorem line63:(sizeLine:Nat) < 2 ^ 63:=by rw [sizeLine_eq];decide
theorem zd:TruR X (fun x H Q=>∃ k,TruV X.K x H k∧Q k H):=by
 intro pins s σ H x v Q I rx h
 obtain ⟨k,e,q⟩:=h
 have hl:=line63
 have hs:sizeLine=16777216:=sizeLine_eq
 cases x with
 | non =>
  cases rx
  have e':k=false:=e
  subst e'
  exact truthy_none ⟨H,I,q⟩
 | bl b =>
  cases rx
  have e':k=b:=e
  subst e'
  exact wpAny_truthy_bool ⟨H,I,q⟩
 | int i =>
  obtain ⟨t,rfl⟩:=rx
  have e':k=(i != 0):=e
  subst e'
  exact PySem.P.truthy_int ⟨H,I,q⟩
 | str y =>
  obtain ⟨t,rfl⟩:=rx
  obtain ⟨hy,e'⟩:y.length≤sizeLine∧k=((y.length:Int) != 0):=e
  subst e'
  exact PySem.P.truthy_str (by omega) ⟨H,I.tok _,q⟩
 | byt y =>
  obtain ⟨t,rfl⟩:=rx
  obtain ⟨hy,e'⟩:y.size≤sizeLine∧k=((y.size:Int) != 0):=e
  subst e'
  exact PySem.W.truthy_bytes (by omega) ⟨H,I.tok _,q⟩
 | ref p =>
  cases rx
  have e':(∃ xs,SqL X.K H p xs∧k=!xs.isEmpty)∨(∃ xs,SqT X.K H p xs∧k=!xs.isEmpty)∨∃ kvs,H p=some (.dK kvs)∧k=!kvs.isEmpty:=e
  rcases e' with ⟨xs,hx,e'⟩|⟨xs,hx,e'⟩|⟨kvs,hx,e'⟩
  ·subst e'
   obtain ⟨its,r,pl,hz⟩:=I.list hx
   have hlen:=r.length
   exact wpAny_truthy_list pl.isList (by simp only [List.size_toArray];omega) ⟨H,I.tok _,by rw [ly r];exact q⟩
  ·subst e'
   obtain ⟨its,r,pl,hz⟩:=I.tuple hx
   have hlen:=r.length
   exact truthy_tuple pl (by simp only [List.size_toArray];omega) ⟨H,I.tok _,by rw [ly r];exact q⟩
  ·subst e'
   obtain ⟨hz,hS,vs,r,m⟩:kvs.length≤sizeLine∧(p==sysModules)=false∧∃ vs,KV kvs vs∧s.heap.DictOf (mixKind X.prog X.w) p vs:=I.hok p _ hx
   have hlen:kvs.length=vs.length:=Paired.length r
   exact wpAny_truthy_dict hS m (by omega) ⟨H,I.tok _,by rw [sE r];exact q⟩
 | _=>exact (show False from e).elim
theorem sj:OpR X (binaryOp .Add) (fun x y H Q=>∃ i j,x=.str i∧y=.str j∧i.length+j.length≤sizeLine∧Q (.str (i++j)) H):=by
 intro pins s σ H x y v u Q I rx ry h
 obtain ⟨i,j,rfl,rfl,hz,q⟩:=h
 obtain ⟨t,rfl⟩:=rx
 obtain ⟨t',rfl⟩:=ry
 exact bj I.tk (add_str (fun t' tk htk=>⟨.str (i++j),H,I.tok _,⟨_,rfl⟩,q⟩) hz)
theorem vals1 {x:V} {us:List Value} (r:Vals [x] us):∃ u,us=[u]∧RelV x u:=by
 cases r with
 | cons r1 r2=>cases r2;exact ⟨_,rfl,r1⟩
theorem vals2 {x y:V} {us:List Value} (r:Vals [x,y] us):∃ u w',us=[u,w']∧RelV x u∧RelV y w':=by
 cases r with
 | cons r1 r2 =>
  cases r2 with
  | cons r3 r4=>cases r4;exact ⟨_,_,rfl,r1,r3⟩
theorem vF:CallR X (.builtin "abs") (fun xs H Q=>∃ i,xs=[.int i]∧Q (.int (if i < 0 then -i else i)) H):=by
 intro pins s σ H xs us Q I r h
 obtain ⟨i,rfl,q⟩:=h
 obtain ⟨u,rfl,t,rfl⟩:=vals1 r
 exact bj I.tk (call_abs_int fun u tk htk=>⟨.int (if i < 0 then -i else i),H,I.tok _,⟨_,rfl⟩,q⟩)
theorem uN (hc:X.calm=true):CallR X (.builtin "max") (fun xs H Q=>∃ i j,xs=[.int i,.int j]∧Q (.int (if j > i then j else i)) H):=by
 intro pins s σ H xs us Q I r h
 obtain ⟨i,j,rfl,q⟩:=h
 obtain ⟨u,w',rfl,⟨t,rfl⟩,⟨t',rfl⟩⟩:=vals2 r
 refine bj I.tk (max_two_ints (I.ok.hd hc) fun h' tk k htk=>⟨_,H,I.kept k,?_,q⟩)
 by_cases hj:j > i
 ·rw [if_pos hj,if_pos hj];exact ⟨_,rfl⟩
 ·rw [if_neg hj,if_neg hj];exact ⟨_,rfl⟩
end
structure ObjM (h:Heap) (x dx C:Addr) (mA:Str→Option Value):Prop where
 obj:h.get? x=some (PySem.W.instObj C dx)
 ns:h.Ns1 dx mA
 ne:dx≠x
theorem vp {h:Heap} {dx:Addr} {mA:Str→Option Value} (n:h.Ns1 dx mA):∃ od,h.get? dx=some od∧∀ name,PySem.W.lookIn name od=some (mA name):=by
 obtain ⟨o,es,ep,ho,hd,hk,_,hm⟩:=n
 refine ⟨o,ho,fun name=>?_⟩
 have e:=hm name
 unfold nsFind findBy at e
 rw [← Array.find?_toList] at e
 unfold PySem.W.lookIn
 rw [hd]
 dsimp only
 split
 ·rename_i y q
  rw [q] at e
  exact congrArg some e
 ·rename_i q
  rw [q] at e
  have a:es.toList.any (·.refKey)=false:=by
   rw [List.any_eq_false]
   intro y hy
   obtain ⟨z,t,hkey⟩:=hk y (Array.mem_toList_iff.mp hy)
   simp [DictEntry.refKey,hkey]
  have a':¬ es.toList.any (·.refKey)=true:=by rw [a];exact Bool.false_ne_true
  rw [if_neg a']
  exact congrArg some e
theorem ObjM.look {h:Heap} {x dx C:Addr} {mA:Str→Option Value} (I:ObjM h x dx C mA):∃ od,PySem.W.InstAt h x (PySem.W.instObj C dx) C (some od)∧∀ name,PySem.W.lookIn name od=some (mA name) :=
 let ⟨od,ho,hl⟩:=vp I.ns
 ⟨od,⟨I.obj,rfl,rfl,ho⟩,hl⟩
section
variable {P:Program} {w:World} {H H':Hp} {h h':Heap} {a C dx:Addr} {fs fs':List (Str×V)}
theorem xP (hok:HOk P w H h) (e:H a=some (.ins C dx fs)):∃ mA,ObjM h a dx C mA∧(∀ f,RelO (fs.lookup f) (mA f))∧PySem.Within mA (fs.map (·.1))∧fs.length≤1000∧H dx=some (.own a):=by
 obtain ⟨d,z,ne,ob,mA,n,r,q⟩:=(show ObjOk P w H h a (.ins C dx fs) from hok a _ e)
 exact ⟨mA,⟨ob,n,ne⟩,r,q,z,d⟩
end
structure Cls (K:PySem.W.Frag) (C:Addr):Prop where
 pg:PySem.W.plainGet K C Str.empty=true
 hd:PySem.W.hasDictIn K C=true
 po:PySem.W.plainOver K C=true
 sa:PySem.W.findIn K (.ref C) "__setattr__"=some (some (.builtin "object.__setattr__"))
theorem Cls.get {K:PySem.W.Frag} {C:Addr} (c:Cls K C) (f:Str):PySem.W.plainGet K C f=true:=c.pg
section
variable {X:Cx} {pins:List (Addr×Obj)} {σ:St} {H:Hp} {s:Shared} {A:Around} {E:Value→Shared→Prop} {Q:Value→Shared→Prop} {c:Value} {b:Bool}
inductive TyOf (K:PySem.W.Frag) (H:Hp):V→Value→Prop where
 | non:TyOf K H .non (.type "NoneType")
 | bl (x:Bool):TyOf K H (.bl x) (.type "bool")
 | int (i:Int):TyOf K H (.int i) (.type "int")
 | str (x:Str):TyOf K H (.str x) (.type "str")
 | flt (x:UInt64):TyOf K H (.flt x) (.type "float")
 | lst {a:Addr} {xs:List V} (e:H a=some (.lst xs)):TyOf K H (.ref a) (.type "list")
 | frz {a:Addr} {o:Obj} {xs:List V} (e:H a=some (.frz o (.lst xs))):TyOf K H (.ref a) (.type "list")
 | tup {a:Addr} {xs:List V} (e:H a=some (.tup xs)):TyOf K H (.ref a) (.type "tuple")
 | dK {a:Addr} {kvs:List (Key×V)} (e:H a=some (.dK kvs)):TyOf K H (.ref a) (.type "dict")
 | dT {a:Addr} {kvs:List (List Key×V)} (e:H a=some (.dT kvs)):TyOf K H (.ref a) (.type "dict")
 | ins {a C dx:Addr} {fs:List (Str×V)} (e:H a=some (.ins C dx fs)) (cl:Cls K C) (ha:PySem.W.findIn K (.ref C) "__class__"=some (some (.builtin "object.__class__")))
   (hn:PySem.W.specialIn K (.builtin "object.__class__") "__get__"=some (some (.builtin "getset_descriptor.__get__"))) (htk:PySem.W.takesIn K (.builtin "object.__class__")=some true)
   (hm:PySem.W.mroIn K C (.type "object")=some true):TyOf K H (.ref a) (.ref C)
theorem fO {x:V} {u t:Value} (I:Inv X pins σ H s) (rx:RelV x u) (ty:TyOf X.K H x t) (e:PySem.W.kitOne X.K t c=some b) (h:∀ tk,Q (.bool b) { s with toks:=tk }) :
  wpAny (model X.prog X.w) A (call (.builtin "isinstance") [u,c]) Q E s:=by
 cases ty with
 | non=>cases (show u=Value.none from rx);exact PySem.W.kia_one PySem.W.kitx_none I.kIn True.intro e (fun z=>nomatch z) h
 | bl y=>cases (show u=Value.bool y from rx);exact PySem.W.kia_one PySem.W.kitx_bool I.kIn True.intro e (fun z=>nomatch z) h
 | int i=>obtain ⟨t,q⟩:=(show ∃ t,u=Value.int i t from rx);cases q;exact PySem.W.kia_one PySem.W.kitx_int I.kIn True.intro e (fun z=>nomatch z) h
 | str y=>obtain ⟨t,q⟩:=(show ∃ t,u=Value.str y t from rx);cases q;exact PySem.W.kia_one PySem.W.kitx_str I.kIn True.intro e (fun z=>nomatch z) h
 | flt y=>obtain ⟨t,q⟩:=(show ∃ t,u=Value.float y t from rx);cases q;exact PySem.W.kia_one PySem.W.kitx_float I.kIn True.intro e (fun z=>nomatch z) h
 | @lst a xs ea =>
  cases (show u=Value.ref a from rx)
  obtain ⟨_,_,n,_,h1⟩:=(show ObjOk X.prog X.w H s.heap a (.lst xs) from I.hok a _ ea)
  exact PySem.W.kia_one PySem.W.kitx_list I.kIn ⟨_,h1,rfl⟩ e (fun z=>nomatch z) h
 | @frz a ob xs ea =>
  cases (show u=Value.ref a from rx)
  obtain ⟨_,_,_,n,_,h1⟩:=(show ObjOk X.prog X.w H s.heap a (.frz ob (.lst xs)) from I.hok a _ ea)
  exact PySem.W.kia_one PySem.W.kitx_list I.kIn ⟨_,h1,rfl⟩ e (fun z=>nomatch z) h
 | @tup a xs ea =>
  cases (show u=Value.ref a from rx)
  obtain ⟨_,_,_,p⟩:=(show ObjOk X.prog X.w H s.heap a (.tup xs) from I.hok a _ ea)
  obtain ⟨o,h1,h2,_⟩:=p
  exact PySem.W.kia_one PySem.W.kitx_tuple I.kIn ⟨o,h1,h2⟩ e (fun z=>nomatch z) h
 | @dK a kvs ea =>
  cases (show u=Value.ref a from rx)
  obtain ⟨_,_,vs,_,p⟩:=(show ObjOk X.prog X.w H s.heap a (.dK kvs) from I.hok a _ ea)
  obtain ⟨o,es,ep,h1,h2,_⟩:=p
  exact PySem.W.kia_one PySem.W.kitx_dict I.kIn ⟨o,h1,h2.1⟩ e (fun z=>nomatch z) h
 | @dT a kvs ea =>
  cases (show u=Value.ref a from rx)
  obtain ⟨_,_,xs,_,o,es,ep,h1,h2,_⟩:=(show ObjOk X.prog X.w H s.heap a (.dT kvs) from I.hok a _ ea)
  exact PySem.W.kia_one PySem.W.kitx_dict I.kIn ⟨o,h1,h2.1⟩ e (fun z=>nomatch z) h
 | @ins a C dx fs ea cl ha hn htk hm =>
  cases (show u=Value.ref a from rx)
  obtain ⟨mA,O,_⟩:=xP I.hok ea
  obtain ⟨od,J,_⟩:=O.look
  exact PySem.W.kia_one (PySem.W.kitx_own (cl.get _) cl.hd ha hn htk hm) I.kIn J e (fun z=>nomatch z) h
end
structure Room (k:Nat) (A:Around):Prop where
 hd:A.handled=none
 dp:A.depth+3*k+5 < recursionLimit
 un:A.units+16*k+200 < cLine
theorem Room.mono {j k:Nat} {A:Around} (r:Room k A) (h:j≤k):Room j A:=⟨r.hd,by have:=r.dp;omega,by have:=r.un;omega⟩
theorem Room.deeper {k:Nat} {A:Around} (r:Room (k+1) A) (env:Env):Room k (A.deeper env) :=
 ⟨r.hd,by have:=r.dp;show A.depth+1+3*k+5 < _;omega,by have:=r.un;show A.units+3+16*k+200 < _;omega⟩
theorem Room.in1 {k:Nat} {A:Around} (r:Room (k+1) A):Room k A.in1 :=
 ⟨r.hd,by have:=r.dp;show A.depth+3*k+5 < _;omega,by have:=r.un;show A.units+1+16*k+200 < _;omega⟩
theorem Room.depth {k:Nat} {A:Around} (r:Room k A):A.depth < recursionLimit:=by have:=r.dp;omega
theorem Room.units {k:Nat} {A:Around} (r:Room k A):A.units+64 < cLine:=by have:=r.un;omega
def tNil:TA:=fun _ H Q=>Q [] H
def tCons (ta:TE) (tr:TA):TA:=fun σ H Q=>ta σ H fun x H1=>tr σ H1 fun xs H2=>Q (x::xs) H2
section
variable {X:Cx} {e:Expr} {es:List Expr} {te:TE} {t:TA} {pos:Pos}
theorem Al:PA X [] tNil:=fun _ _ _ _ H Q I h=>Calls.spliced_nil ⟨[],H,I,.nil,h⟩
theorem yn (ha:PE X e te) (hr:PA X es t) (hs:starEach (e::es) X.env=(false,eval e X.env)::starEach es X.env:=by rfl):PA X (e::es) (tCons te t):=by
 intro pos pins s σ H Q I h
 rw [hs]
 show wpAny _ _ (spliced ((false,eval e X.env)::backTo pos (starEach es X.env))) _ _ s
 refine Calls.spliced_cons (thn (ha pins s σ H _ I h) fun u s1 hh=>exF hh fun x H1 I1 r1 q1=>?_)
 exact thn (hr pos pins s1 σ H1 _ I1 q1) fun us s2 hh=>exF hh fun xs H2 I2 r2 q2=>⟨x::xs,H2,I2,.cons r1 r2,q2⟩
def tTup (t:TA):TE:=fun σ H Q=>t σ H fun xs H1=>xs.length≤sizeLine∧∀ p,H1 p=none→Q (.ref p) (upd H1 p (.tup xs))
def tLst (t:TA):TE:=fun σ H Q=>t σ H fun xs H1=>xs.length≤sizeLine∧∀ p,H1 p=none→Q (.ref p) (upd H1 p (.lst xs))
theorem zL {x1} (h:PA X es t):PE X (.Tuple es x1 pos) (tTup t):=by
 intro pins s σ H Q I hq
 refine wpAny_Tuple_spliced (thn (h pos pins s σ H _ I hq) fun us s1 ⟨xs,H1,I1,r,z,q⟩=>⟨by rw [← r.length];exact z,?_⟩)
 have hf:H1 s1.heap.objs.size=none:=I1.hok.fresh (Nat.le_refl _)
 refine ⟨.ref s1.heap.objs.size,upd H1 s1.heap.objs.size (.tup xs),I1.laid (t':=s1.toks) (fun b u e=>Heap.get?_push_of_some _ e) (Nat.le_refl _) ?_,rfl,q _ hf⟩
 exact ⟨z,us,r,⟨_,Heap.get?_push_size _ rfl,rfl,_,rfl⟩⟩
theorem zg (h:PA X es t):PE X (.List es pos) (tLst t):=by
 intro pins s σ H Q I hq
 refine wpAny_List_spliced (thn (h pos pins s σ H _ I hq) fun us s1 ⟨xs,H1,I1,r,z,q⟩=>⟨by rw [← r.length];exact z,?_⟩)
 have hf:H1 s1.heap.objs.size=none:=I1.hok.fresh (Nat.le_refl _)
 refine ⟨.ref s1.heap.objs.size,upd H1 s1.heap.objs.size (.lst xs),I1.laid (t':=s1.toks) (fun b u e=>Heap.get?_push_of_some _ e) (Nat.le_refl _) ?_,rfl,q _ hf⟩
 exact ⟨z,us,0,r,Heap.get?_push_size _ rfl⟩
end
abbrev Sp:=List V→Hp→VK→XK→Prop
abbrev CXT:=List Env→Hp→Shared→XK→Value→Shared→Prop
structure Env0 (P:Program) (w:World) (K:PySem.W.Frag) (mg:Str→Option Value) (base:Heap) (A:Around) (outer:List Env) (s:Shared) (H:Hp):Prop where
 frames:A.frames=some outer
 mod:Mod K mg base
 bs:∀ b o,base.get? b=some o→s.heap.get? b=some o∧H b=none
 bsz:base.objs.size≤s.heap.objs.size
 funs:s.heap.FunFrames base outer
 frf:∀ b∈frs outer,H b=none
 hok:HOk P w H s.heap
 bare:AllBare s.gens
def CE (outer:List Env) (P:Program) (w:World) (H:Hp) (s:Shared) (Q:VK) (u:Value) (s':Shared):Prop :=
 ∃ v H',s'.os=s.os∧AllBare s'.gens∧Un (frs outer) [] H H' s.heap s'.heap∧HOk P w H' s'.heap∧RelV v u∧Q v H'
def CR (CX:CXT) (outer:List Env) (P:Program) (w:World) (H:Hp) (s:Shared) (Q:VK) (E:XK) (r:Result) (s':Shared):Prop :=
 match r with
 | .ok (.ret u)=>CE outer P w H s Q u s'
 | .ok _=>False
 | .error e=>CX outer H s E e s'
structure FnOk (P:Program) (w:World) (K:PySem.W.Frag) (mg:Str→Option Value) (base:Heap) (CX:CXT) (k:Nat) (f:Addr) (fd:FuncData) (ps:List Str) (sp:Sp):Prop where
 len:∀ vs H Q E,sp vs H Q E→vs.length=ps.length
 run:∀ (A:Around) (outer:List Env) (s:Shared) (H:Hp) (args:Args) (us:List Value) (vs:List V) (Q:VK) (E:XK),Room k A→Env0 P w K mg base A outer s H→BindsTo s fd args (ps.zip us)→Vals vs us→sp vs H Q E →
  codeAny (model P w) A (.call (.ref f) args) (CR CX outer P w H s Q E) s
theorem FnOk.imp {P:Program} {w:World} {K:PySem.W.Frag} {mg:Str→Option Value} {base:Heap} {CX:CXT} {k:Nat} {f:Addr} {fd:FuncData} {ps:List Str} {sp sp':Sp} (F:FnOk P w K mg base CX k f fd ps sp)
  (h:∀ vs H Q E,sp' vs H Q E→sp vs H Q E):FnOk P w K mg base CX k f fd ps sp' :=
 ⟨fun vs H Q E q=>F.len vs H Q E (h _ _ _ _ q),fun A outer s H args us vs Q E hr he hb hv hs=>F.run A outer s H args us vs Q E hr he hb hv (h _ _ _ _ hs)⟩
theorem Env0.in1 {P:Program} {w:World} {K:PySem.W.Frag} {mg:Str→Option Value} {base:Heap} {A:Around} {outer:List Env} {s:Shared} {H:Hp} (e:Env0 P w K mg base A outer s H) :
  Env0 P w K mg base A.in1 outer s H:=⟨e.frames,e.mod,e.bs,e.bsz,e.funs,e.frf,e.hok,e.bare⟩
section
variable {X:Cx} {pins:List (Addr×Obj)} {σ:St} {H:Hp} {s s':Shared}
theorem Inv.env0 (I:Inv X pins σ H s):Env0 X.prog X.w X.K X.mg X.base X.A X.stack s H :=
 ⟨I.ok.frames,I.ok.mod,I.bs,Nat.le_trans I.ok.bsz I.sz,I.stack,I.stkFree,I.hok,I.bare⟩
theorem Inv.after {Q:VK} {u:Value} (I:Inv X pins σ H s) (h:CE X.stack X.prog X.w H s Q u s') (ht:X.tn≤s'.toks:=by walk_at "tok"):EP X pins σ Q u s':=by
 obtain ⟨v,H',os,bare,un,hok,r,q⟩:=h
 obtain ⟨hh,g,d,t,os'⟩:=s'
 obtain rfl:os'=s.os:=os
 exact ⟨v,H',I.call (h':=hh) (g':=g) (d':=d) (t':=t) (ch:=[]) un hok bare (fun b z=>absurd z (by simp)),r,q⟩
end
def Binds (K:PySem.W.Frag) (fd:FuncData) (ps:List Str) (ds:List Value):Prop :=
 ∀ (s:Shared) (us:List Value),K.In s.heap→(us++ds).length=ps.length→BindsTo s fd ⟨us,[]⟩ (ps.zip (us++ds))
theorem Binds.all {K:PySem.W.Frag} {fd:FuncData} {ps:List Str} (h:∀ us:List Value,us.length=ps.length→bindArgs fd ⟨us,[]⟩=pure (ps.zip us)):Binds K fd ps []:=fun s us _ hl=>by
 rw [List.append_nil] at hl ⊢
 exact .of_eq (h us hl)
def Passes (CX:CXT) (X:Cx) (E:XK):Prop:=∀ (pins:List (Addr×Obj)) (σ:St) (H:Hp) (s:Shared) (e:Value) (s':Shared),Inv X pins σ H s→CX X.stack H s E e s'→X.xe e s'
section
variable {X:Cx} {CX:CXT} {k:Nat} {f C:Addr} {fd:FuncData} {ps:List Str} {sp:Sp} {dvs:List V} {ds:List Value} {E:XK} {x m:Str} {p pos apos:Pos} {e o:Expr} {es:List Expr} {ta:TE} {t:TA}
theorem yR {pins:List (Addr×Obj)} {σ:St} {H:Hp} {s:Shared} {Q:VK} {us:List Value} {vs:List V} (F:FnOk X.prog X.w X.K X.mg X.base CX k f fd ps sp) (hr:Room k X.A) (hb:Binds X.K fd ps ds) (hd:Vals dvs ds) (hx:Passes CX X E)
  (I:Inv X pins σ H s) (r:Vals vs us) (h:sp (vs++dvs) H Q E):wpAny (model X.prog X.w) X.A (call (.ref f) us) (EP X pins σ Q) X.xe s:=by
 have r2:Vals (vs++dvs) (us++ds):=r.append hd
 have hl:(us++ds).length=ps.length:=by rw [← r2.length];exact F.len _ _ _ _ h
 refine wpAny_call (fH I.tk (codeAny_mono (F.run X.A X.stack s H ⟨us,[]⟩ (us++ds) (vs++dvs) Q E hr I.env0 (hb s us I.kIn hl) r2 h) fun r s' hq htk=>?_))
 cases r with
 | error e=>exact hx pins σ H s e s' I hq
 | ok fl =>
  cases fl with
  | ret u=>exact I.after hq
  | next=>exact False.elim hq
  | brk=>exact False.elim hq
  | cont=>exact False.elim hq
end
def PK (X:Cx) (kws:List Keyword) (t:TA):Prop :=
 ∀ (pos:Pos) (pins:List (Addr×Obj)) (s:Shared) (σ:St) (H:Hp) (Q:List V→Hp→Prop),Inv X pins σ H s→t σ H Q→wpAny (model X.prog X.w) X.A (evalAll ((backToKw pos (keywordEach kws X.env)).map (·.2))) (AP X pins σ Q) X.xe s
section
variable {X:Cx} {CX:CXT} {k:Nat} {f C:Addr} {fd:FuncData} {ps ks:List Str} {sp:Sp} {E:XK} {x m:Str} {p pos apos kpos:Pos} {e o:Expr} {es:List Expr} {kws:List Keyword} {te ta:TE} {t tk:TA} {nm:Option Str}
theorem y0:PK X [] tNil:=fun _ _ _ _ H Q I h=>wpAny_evalAll_nil ⟨[],H,I,.nil,h⟩
theorem xw (ha:PE X e te) (hr:PK X kws t):PK X (⟨nm,e,kpos⟩::kws) (tCons te t):=by
 intro pos pins s σ H Q I h
 show wpAny _ _ (evalAll ((do let v ← eval e X.env;standAt pos;pure v)::(backToKw pos (keywordEach kws X.env)).map (·.2))) _ _ s
 refine wpAny_evalAll_cons (wpAny_bind (thn (ha pins s σ H _ I h) fun u s1 hh=>exF hh fun x H1 I1 r1 q1=>wpAny_bind (wpAny_standAt (wpAny_pure ?_))))
 exact thn (hr pos pins s1 σ H1 _ I1 q1) fun us s2 hh=>exF hh fun xs H2 I2 r2 q2=>⟨x::xs,H2,I2,.cons r1 r2,q2⟩
variable {g:List Value→List Value→List Value} {gV:List V→List V→List V}
end
structure FnScope (N P:List Str) (sc:Scope):Prop where
 kind:sc.kind=.function
 co:sc.isCoroutine=false
 gen:sc.isGenerator=false
 nd:N.Nodup
 pre:N.take P.length=P
 par:∀ x∈P,sc.names.lookup x=some .local∨sc.names.lookup x=some .cell
 nofree:∀ y∈sc.names,y.2≠.free
theorem nj {kindOf:Str→Option NameKind} {x:Str}:∀ {binds:List (Str×Value)} {m:Str→Option Value},(∀ v,(x,v)∉binds)→bindL kindOf binds m x=m x
 | [],_,_=>rfl
 | (n,v)::r,m,h=>by
  unfold bindL
  rw [nj fun w hw=>h w (List.mem_cons_of_mem _ hw)]
  split
  ·have:x≠n:=by rintro rfl;exact h v List.mem_cons_self
   simp [this]
  ·rfl
theorem nh {kindOf:Str→Option NameKind} {x:Str}:∀ {binds:List (Str×Value)} {m:Str→Option Value},(∀ v,(x,v)∉binds)→bindC kindOf binds m x=m x
 | [],_,_=>rfl
 | (n,v)::r,m,h=>by
  unfold bindC
  rw [nh fun w hw=>h w (List.mem_cons_of_mem _ hw)]
  split
  ·rfl
  ·have:x≠n:=by rintro rfl;exact h v List.mem_cons_self
   simp [this]
theorem nu {kindOf:Str→Option NameKind} {x:Str} {v:Value}:∀ {P:List Str} {vs:List Value} {i:Nat} {m:Str→Option Value},P.Nodup→P[i]?=some x→vs[i]?=some v→kindOf x=some .local →
  bindL kindOf (P.zip vs) m x=some v
 | [],_,_,_,_,h,_,_=>by simp at h
 | _::_,[],_,_,_,_,h,_=>by simp at h
 | p::P,w::vs,0,m,nd,h1,h2,hk=>by
  simp at h1 h2;subst h1;subst h2
  show bindL kindOf ((p,w)::P.zip vs) m p=_
  unfold bindL
  rw [nj fun v hv=>(List.nodup_cons.mp nd).1 (List.of_mem_zip hv).1,if_pos hk]
  simp
 | p::P,w::vs,i+1,m,nd,h1,h2,hk=>by
  show bindL kindOf ((p,w)::P.zip vs) m x=_
  unfold bindL
  exact nu (i:=i) (List.nodup_cons.mp nd).2 (by simpa using h1) (by simpa using h2) hk
theorem nS {kindOf:Str→Option NameKind} {x:Str} {v:Value}:∀ {P:List Str} {vs:List Value} {i:Nat} {m:Str→Option Value},P.Nodup→P[i]?=some x→vs[i]?=some v→kindOf x≠some .local →
  bindC kindOf (P.zip vs) m x=some v
 | [],_,_,_,_,h,_,_=>by simp at h
 | _::_,[],_,_,_,_,h,_=>by simp at h
 | p::P,w::vs,0,m,nd,h1,h2,hk=>by
  simp at h1 h2;subst h1;subst h2
  show bindC kindOf ((p,w)::P.zip vs) m p=_
  unfold bindC
  rw [nh fun v hv=>(List.nodup_cons.mp nd).1 (List.of_mem_zip hv).1,if_neg hk]
  simp
 | p::P,w::vs,i+1,m,nd,h1,h2,hk=>by
  show bindC kindOf ((p,w)::P.zip vs) m x=_
  unfold bindC
  exact nS (i:=i) (List.nodup_cons.mp nd).2 (by simpa using h1) (by simpa using h2) hk
def start (N:List Str) (vs:List V):St:=vs.map some++List.replicate (N.length - vs.length) none
def cxOf (CX:CXT) (P:Program) (w:World) (K:PySem.W.Frag) (mg:Str→Option Value) (base:Heap) (N:List Str) (qual:Str) (scope:Scope) (f:Addr) (cd:Value) (A:Around) (outer:List Env) (s:Shared) (H:Hp) (E:XK):Cx where
 prog:=P
 w:=w
 K:=K
 mg:=mg
 base:=base
 A:=A.deeper (envOfC qual scope s.heap.objs.size f cd)
 N:=N
 s₀:=s
 H₀:=H
 env:=envOfC qual scope s.heap.objs.size f cd
 outer:=outer
 stack:=envOfC qual scope s.heap.objs.size f cd::outer
 ex:=[]
 calm:=true
 fn:=fun _=>true
 pn:=[]
 xe:=fun e s'=>wpAny (model P w) (A.deeper (envOfC qual scope s.heap.objs.size f cd)) (leaving (envOfC qual scope s.heap.objs.size f cd) e) (fun _ s''=>CX outer H s E e s'') (fun e' s''=>CX outer H s E e' s'') s'
theorem qM {sc:Scope} {n:Nat} {x:Str} (h:sc.names.lookup x=some .cell):∃ c,(cellsFrom n sc.names []).lookup x=some c:=by
 have q:=PySem.W.cellsFrom_some sc.names n [] (.inl h)
 exact Option.isSome_iff_exists.mp q
theorem uB {CX:CXT} {P:Program} {w:World} {K:PySem.W.Frag} {mg:Str→Option Value} {base:Heap} {N ps:List Str} {qual:Str} {scope:Scope} {f:Addr} {cd:Value} {A:Around} {outer:List Env} {s s1:Shared} {H:Hp} {E:XK} {us:List Value} {vs:List V}
  (S:FnScope N ps scope) (hd:A.handled=none) (e0:Env0 P w K mg base A outer s H) (hl:vs.length=ps.length) (r:Vals vs us)
  (x:InCallC s s.heap.objs.size (bindL (envOfC qual scope s.heap.objs.size f cd).kindOf (ps.zip us) fun _=>none) (cellsFrom (s.heap.objs.size+1) scope.names []) (bindC (envOfC qual scope s.heap.objs.size f cd).kindOf (ps.zip us) fun _=>none) s1) :
  Inv (cxOf CX P w K mg base N qual scope f cd A outer s H E) [] (start N vs) H s1:=by
 have hpl:ps.length≤N.length:=by have:=congrArg List.length S.pre;rw [List.length_take] at this;omega
 obtain ⟨h1,tk,rfl,hk⟩:=x.done
 have noA:∀ b:Addr,b∉(cxOf CX P w K mg base N qual scope f cd A outer s H E).ex:=fun b z=>absurd (show b∈([]:List Addr) from z) (by simp)
 refine ⟨⟨e0.mod,S.kind,rfl,rfl,Nat.le_refl _,fun y z c h1 h2=>?_,fun y hy=>?_,fun y c _ h=>?_,fun _=>hd,Around.frames_deeper e0.frames,.inr ⟨rfl,rfl⟩,fun b z=>absurd z (noA b),e0.bs,e0.bsz,fun b _ _=>noA b,fun b z=>absurd z (noA b),e0.funs,e0.frf⟩,
  rfl,e0.bare,Un.kept hk,⟨_,x.toInCall.ns,fun i y v h1 h2 h3=>?_⟩,fun y c h=>⟨_,x.cell y c h⟩,e0.hok.fresh (Nat.le_refl _),fun y c h=>?_,fun p hp=>absurd (show p∈([]:List (Addr×Obj)) from hp) (by simp),e0.hok.kept hk,?_,Nat.zero_le _⟩
 ·exact name_of_addr x.apart (PySem.mem_of_lookup h1) (PySem.mem_of_lookup h2)
 ·have hy:scope.names.lookup y=some .cell∨scope.names.lookup y=some .free:=hy
  rcases hy with hy|hy
  ·exact qM hy
  ·exact absurd rfl (S.nofree _ (PySem.mem_of_lookup hy))
 ·exact Nat.le_of_lt (x.above y c (PySem.mem_of_lookup h))
 ·have hi:i < vs.length:=by
   unfold start at h2
   by_cases hi:i < vs.length
   ·exact hi
   ·rw [List.getElem?_append_right (by simpa using hi)] at h2
    rw [List.getElem?_replicate] at h2
    split at h2 <;> cases h2
  have ha:vs[i]?=some v:=by
   unfold start at h2
   rw [List.getElem?_append_left (by simpa using hi),List.getElem?_map] at h2
   cases e:vs[i]? with
   | none=>rw [e] at h2;cases h2
   | some a=>rw [e] at h2;cases h2;rfl
  obtain ⟨u,hu,rv⟩:=r.get ha
  have hp:ps[i]?=some y:=by
   rw [← S.pre,List.getElem?_take_of_lt (by omega)];exact h1
  have ndP:ps.Nodup:=by rw [← S.pre];exact S.nd.sublist (List.take_sublist _ _)
  refine ⟨u,rv,?_⟩
  rcases S.par y (List.mem_of_getElem? hp) with k|k
  ·exact .inl ⟨k,nu ndP hp hu k⟩
  ·obtain ⟨c,e⟩:=qM (n:=s.heap.objs.size+1) k
   refine .inr ⟨.inl k,c,e,?_⟩
   have q:=x.cell y c e
   rw [nS ndP hp hu (by show scope.names.lookup y≠_;rw [k];decide)] at q
   exact q
 ·exact e0.hok.fresh (Nat.le_of_lt (x.above y c (PySem.mem_of_lookup h)))
 ·unfold start
  show _=N.length
  rw [List.length_append,List.length_map,List.length_replicate]
  omega
theorem B6 {CX:CXT} {P:Program} {w:World} {K:PySem.W.Frag} {mg:Str→Option Value} {base:Heap} {k:Nat} {f:Addr} {name qual:Str} {params:Arguments} {body:List Stmt} {scope:Scope} {dV kV doc pm cdv ct oc:Value} {an od:Option Addr}
  {osl:Array (Option Value)} {N ps:List Str} {sp:Sp} (lk:K.lookup f=some ⟨oc,od,.func (PySem.W.fnOf name qual params body scope dV kV doc pm an cdv ct),osl⟩) (hcd:PySem.W.codeIn K cdv qual=true) (S:FnScope N ps scope)
  (len:∀ vs H Q E,sp vs H Q E→vs.length=ps.length)
  (hbody:∀ (A:Around) (outer:List Env) (s:Shared) (H:Hp) (vs:List V) (Q:VK) (E:XK),Room k (A.deeper (envOfC qual scope s.heap.objs.size f cdv))→sp vs H Q E →
   ∃ t,PSs (cxOf CX P w K mg base N qual scope f cdv A outer s H E) body t∧t { nx:=fun _ H'=>Q .non H',rt:=Q } (start N vs) H) :
  FnOk P w K mg base CX (k+1) f (PySem.W.fnOf name qual params body scope dV kV doc pm an cdv ct) ps sp:=by
 refine ⟨len,fun A outer s H args us vs Q E hr e0 hb r hsp=>?_⟩
 have hl:=len _ _ _ _ hsp
 have KX:K.In s.heap:=e0.mod.kin.keeps fun b o e=>(e0.bs b o e).1
 have lim:s.heap.NoLimit:=e0.mod.nolimit.keeps fun b o e=>(e0.bs b o e).1
 have hkind:∀ y∈ps.zip us,scope.names.lookup y.1=some .local∨(scope.names.lookup y.1=some .cell∧((cellsFrom (s.heap.objs.size+1) scope.names []).lookup y.1).isSome=true):=fun ⟨n,v⟩ hy=>by
  rcases S.par n (List.of_mem_zip hy).1 with q|q
  ·exact .inl q
  ·exact .inr ⟨q,PySem.W.cellsFrom_some _ _ _ (.inl q)⟩
 refine codeAny_call_function hr.depth (KX _ _ lk) rfl S.co S.gen rfl (PySem.W.codeRec_of KX hcd) (hb _ _ _ _ ?_)
 refine wpAny_newFunctionEnv_cells S.kind hkind fun env he s1 x=>?_
 subst he
 refine ⟨lim.keeps x.toInCall.keep,codeAny_func ?_⟩
 obtain ⟨t,ht,hq⟩:=hbody A outer s H vs Q E (hr.deeper _) hsp
 have I:Inv (cxOf CX P w K mg base N qual scope f cdv A outer s H E) [] (start N vs) H s1:=uB S hr.hd e0 hl r x
 refine wpAny_mono (ht [] s1 (start N vs) H _ I hq) (fun fl s' hs=>?_) fun e s' hs=>hs
 have fin:∀ {σ':St} {H':Hp} {v:V} {u:Value},Inv (cxOf CX P w K mg base N qual scope f cdv A outer s H E) [] σ' H' s'→RelV v u→Q v H'→CE outer P w H s Q u s' :=
  fun {σ' H' v u} J rv q=>⟨v,H',J.os,J.bare,J.base,J.hok,rv,q⟩
 cases fl with
 | ret u =>
  obtain ⟨v,σ',H',J,rv,q⟩:=hs
  exact fin J rv q
 | next =>
  obtain ⟨σ',H',J,q⟩:=hs
  exact fin (v:=V.non) (u:=Value.none) J rfl q
 | brk =>
  obtain ⟨_,_,_,q⟩:=hs
  exact False.elim q
 | cont =>
  obtain ⟨_,_,_,q⟩:=hs
  exact False.elim q
section
variable {X:Cx} {x:Str} {p pos:Pos} {e:Expr} {es:List Expr} {t:TA} {id T:String} {r:List V→Hp→VK→Prop}
def tCB (r:List V→Hp→VK→Prop) (t:TA):TE:=fun σ H Q=>t σ H fun vs H1=>r vs H1 Q
theorem wb (hc:CallR X (.builtin id) r) (hg:Gl X x) (hm:X.mg x=none) (hv:bootBuiltins x=some (.builtin id)) (ha:PA X (e::es) t) (hn:x≠"__name__":=by decide) (hdb:(x==("__debug__":Str))=false:=by decide)
  (he:starEach (e::es) X.env=(false,eval e X.env)::starEach es X.env:=by rfl) (hpl:(backTo pos (starEach es X.env)).any (·.1)=false:=by rfl):PE X (.Call (.Name x p) (e::es) [] pos) (tCB r t):=by
 intro pins s σ H Q I h
 refine wpAny_Call_Name_kw (kK I hg hm hv ?_ hn hdb)
 exact PyProof.Rows.callWith_builtin1 (thn (ha pos pins s σ H _ I h) fun us s1 hh=>exF hh fun vs H1 I1 r1 q1=>hc pins s1 σ H1 vs us Q I1 r1 q1) he hpl
theorem uv (hc:CallR X (.type T) r) (hg:Gl X x) (hm:X.mg x=none) (hv:bootBuiltins x=some (.type T)) (ha:PA X (e::es) t) (hn:x≠"__name__":=by decide) (hdb:(x==("__debug__":Str))=false:=by decide)
  (he:starEach (e::es) X.env=(false,eval e X.env)::starEach es X.env:=by rfl) (hpl:(backTo pos (starEach es X.env)).any (·.1)=false:=by rfl):PE X (.Call (.Name x p) (e::es) [] pos) (tCB r t):=by
 intro pins s σ H Q I h
 refine wpAny_Call_Name_kw (kK I hg hm hv ?_ hn hdb)
 exact PyProof.Rows.callWith_type1 (thn (ha pos pins s σ H _ I h) fun us s1 hh=>exF hh fun vs H1 I1 r1 q1=>hc pins s1 σ H1 vs us Q I1 r1 q1) he hpl
end
end L2
namespace HT
open PySem PyProof.Rows
section
variable {prog:Program} {w:World} {A:Around} {E:Value→Shared→Prop} {s:Shared}
theorem yq {t b:Addr} {vs ws:List Value} {Q:Value→Shared→Prop} (ht:IsTup s.heap t vs.toArray) (hb:IsTup s.heap b ws.toArray) (hv:vs≠[])
  (h1:ws=[]→Q (.ref t) s) (h2:ws≠[]→Q (.ref s.heap.objs.size) { s with heap:=s.heap.push { cls:=.type "tuple",data:=.seq (vs++ws).toArray } })
  (hsz:vs.length+ws.length≤sizeLine):wpAny (model prog w) A (binaryOp .Add (.ref t) (.ref b)) Q E s:=by
 obtain ⟨⟨cls,dd,data,sl⟩,ho,hc,n,hd⟩:=id ht
 obtain ⟨⟨cls2,dd2,data2,sl2⟩,ho2,hc2,n2,hd2⟩:=id hb
 simp only at hc hd hc2 hd2
 subst hc hd hc2 hd2
 have e:vs.toArray++ws.toArray=(vs++ws).toArray:=by simp
 by_cases hw:ws=[]
 ·exact concat_meets ⟨_,ho,rfl⟩ ⟨_,ho2,rfl⟩ noFill_tuple_add seq_tuple_add PySem.F.slot_tuple_add PySem.F.entry_tuple_add (PySem.F.args_tuple_add_2 _ _)
   (tuple_addW1 t b vs.toArray ws.toArray n n2 dd dd2 sl sl2 (by simpa using hv) (by simp [hw])) ⟨ho,ho2,h1 hw⟩
 ·refine concat_meets ⟨_,ho,rfl⟩ ⟨_,ho2,rfl⟩ noFill_tuple_add seq_tuple_add PySem.F.slot_tuple_add PySem.F.entry_tuple_add (PySem.F.args_tuple_add_2 _ _)
   (tuple_addW2 t b vs.toArray ws.toArray n n2 dd dd2 sl sl2 (by simpa using hv) (by simpa using hw) (by rw [List.size_toArray,List.size_toArray];exact hsz)) ⟨ho,ho2,?_⟩
  rw [e]
  exact h2 hw
def sIx (n d:Nat):Option Int→Nat
 | none=>d
 | some v=>if v < 0 then (v+(n:Int)).toNat else min v.toNat n
theorem qt (n d:Nat):sIx n d none=d:=rfl
theorem lZ (n d k:Nat):sIx n d (some (k:Int))=min k n:=by
 show (if (k:Int) < 0 then ((k:Int)+(n:Int)).toNat else min (k:Int).toNat n)=min k n
 rw [if_neg (by omega),Int.toNat_natCast]
theorem sZ (n d:Nat) (hd:d≤n) (o:Option Int):sIx n d o≤n:=by
 cases o with
 | none=>exact hd
 | some v =>
  show (if v < 0 then (v+(n:Int)).toNat else min v.toNat n)≤n
  by_cases hv:v < 0
  ·rw [if_pos hv];omega
  ·rw [if_neg hv];exact Nat.min_le_right _ _
theorem t8 (v:Int) (n d:Nat):(if v < 0 then max (v+(n:Int)) 0 else min v (n:Int))=((sIx n d (some v):Nat):Int):=by
 show (if v < 0 then max (v+(n:Int)) 0 else min v (n:Int))=(((if v < 0 then (v+(n:Int)).toNat else min v.toNat n):Nat):Int)
 by_cases hv:v < 0
 ·simp only [if_pos hv];omega
 ·simp only [if_neg hv];omega
theorem qY (lo hi:Option Int) (n:Nat):Builtin.Slice.sliceAdjust lo hi 1 (n:Int)=(((sIx n 0 lo:Nat):Int),((sIx n n hi:Nat):Int)):=by
 have h1:¬ ((1:Int) < 0):=by omega
 unfold Builtin.Slice.sliceAdjust
 simp only [h1,if_false]
 refine Prod.ext ?_ ?_
 ·cases lo with
  | none=>rfl
  | some v=>exact t8 v n 0
 ·cases hi with
  | none=>rfl
  | some v=>exact t8 v n n
theorem qX (i j:Nat):Builtin.Slice.slicePlaces (i:Int) (j:Int) 1=j - i:=by
 unfold Builtin.Slice.slicePlaces
 have h1:(1:Int) > 0:=by omega
 simp only [h1,if_true,Int.ediv_one]
 split <;> omega
theorem lH {v:Value} {o:Option Int} {Q:Option Int→Shared→Prop} (p:IsPart v o) (h:Q o s):wpAny (model prog w) A (Builtin.Slice.slicePartIndex v) Q E s:=by
 cases p with
 | none=>exact slicePart_none h
 | int i t=>exact slicePart_int h
theorem fJ {sl:Addr} {vl vu:Value} {lo hi:Option Int} {n:Nat} {Q:Int×Int×Nat→Shared→Prop} (hs:s.heap.IsSliceOf sl vl vu .none) (pl:IsPart vl lo) (pu:IsPart vu hi)
  (h:Q (((sIx n 0 lo:Nat):Int),1,sIx n n hi - sIx n 0 lo) s):wpAny (model prog w) A (Builtin.Slice.sliceApplied (.ref sl) (pure (n:Int))) Q E s:=by
 obtain ⟨os,hos,hcs,hds⟩:=id hs
 unfold Builtin.Slice.sliceApplied Builtin.Slice.sliceFields
 refine wpAny_bind (wpAny_bind (wpAny_field hos hds (x:=vl) rfl (wpAny_bind (wpAny_field hos hds (x:=vu) rfl (wpAny_bind (wpAny_field hos hds (x:=.none) rfl (wpAny_pure ?_)))))))
 refine wpAny_bind (slicePart_none ?_)
 show wpAny _ _ (if ((1:Int)==0)=true then _ else _) _ _ s
 rw [if_neg (by decide)]
 refine wpAny_bind (lH pl (wpAny_bind (lH pu (wpAny_bind (wpAny_pure ?_)))))
 show wpAny _ _ (match Builtin.Slice.sliceAdjust lo hi 1 (n:Int) with|(lo,hi)=>pure (lo,(1:Int),Builtin.Slice.slicePlaces lo hi 1)) _ _ s
 rw [qY lo hi n]
 show wpAny _ _ (pure (((sIx n 0 lo:Nat):Int),(1:Int),Builtin.Slice.slicePlaces ((sIx n 0 lo:Nat):Int) ((sIx n n hi:Nat):Int) 1)) _ _ s
 rw [qX]
 exact wpAny_pure h
theorem v8 (xs:Array Value) (i k:Nat):((List.range k).filterMap fun (m:Nat)=>xs[((i:Int)+(m:Int)*1).toNat]?).toArray=((xs.toList.drop i).take k).toArray:=by
 have e:(fun (m:Nat)=>xs[((i:Int)+(m:Int)*1).toNat]?)=fun m=>xs[i+m]?:=by
  funext m
  have:((i:Int)+(m:Int)*1).toNat=i+m:=by omega
  rw [this]
 rw [e]
 have:=pick_run xs i k
 rw [List.filterMap_map] at this
 have e2:((fun x=>xs[x]?) ∘ fun x=>i+x)=fun m=>xs[i+m]?:=rfl
 rw [e2] at this
 rw [this]
theorem jg {t sl:Addr} {items:Array Value} {vl vu:Value} {lo hi:Option Int} {Q:Value→Shared→Prop} (ht:IsTup s.heap t items) (hs:s.heap.IsSliceOf sl vl vu .none) (pl:IsPart vl lo) (pu:IsPart vu hi)
  (hw:¬ (sIx items.size 0 lo=0∧sIx items.size items.size hi=items.size))
  (h:Q (.ref s.heap.objs.size) { s with heap:=s.heap.push { cls:=.type "tuple",data:=.seq ((items.toList.drop (sIx items.size 0 lo)).take (sIx items.size items.size hi - sIx items.size 0 lo)).toArray } })
  (hsz:items.size≤sizeLine):wpAny (model prog w) A (getItem (.ref t) (.ref sl)) Q E s:=by
 have htake:sizeOk (.seq ((items.toList.drop (sIx items.size 0 lo)).take (sIx items.size items.size hi - sIx items.size 0 lo)).toArray):=by
  show ((items.toList.drop (sIx items.size 0 lo)).take (sIx items.size items.size hi - sIx items.size 0 lo)).toArray.size≤sizeLine
  rw [List.size_toArray,List.length_take,List.length_drop,Array.length_toList]
  omega
 have hj:sIx items.size items.size hi≤items.size:=sZ _ _ (Nat.le_refl _) hi
 obtain ⟨os,hos,hcs,hds⟩:=id hs
 have hTs:s.TypeIs (.ref sl) "slice":=⟨os,hos,hcs⟩
 unfold getItem
 try with_reducible refine wpAny_holding ?_
 first|refine wpAny_bind (wpAny_pure ?_)|skip
 refine wpAny_bind (wpAny_sequenceKey ht.typeIs (by decide) ?_)
 refine wpAny_bind (wpAny_callSpecial?_slot (name:=Str.ofString "__getitem__") ht.typeIs PyProof.Rows.slot_tuple_getitem
  (wpAny_call_entry PyProof.Rows.slot_tuple_getitem ht.typeIs entry_tuple_getitem ?_ (args_tuple_getitem _ _)))
 show wpAny _ _ (Builtin.Tuple.tupleItemsOf (.ref t) >>= _) _ _ s
 refine wpAny_bind (tupleItemsOf_ ht ?_)
 refine wpAny_bind (wpAny_typeOf hTs ?_)
 rw [if_pos (by decide)]
 refine wpAny_bind (fJ hs pl pu ?_)
 have hno:¬ ((((sIx items.size 0 lo:Nat):Int)==0&&(1:Int)==1&&(sIx items.size items.size hi - sIx items.size 0 lo)==items.size)=true):=by
  intro q
  rw [Bool.and_eq_true,Bool.and_eq_true] at q
  have q1:((sIx items.size 0 lo:Nat):Int)=0:=eq_of_beq q.1.1
  have q2:sIx items.size items.size hi - sIx items.size 0 lo=items.size:=eq_of_beq q.2
  exact hw ⟨by omega,by omega⟩
 show wpAny _ _ (if (((sIx items.size 0 lo:Nat):Int)==0&&(1:Int)==1&&(sIx items.size items.size hi - sIx items.size 0 lo)==items.size)=true then _ else _) _ _ s
 rw [if_neg hno,v8]
 first
  | exact wpAny_bind (m:=Builtin.Tuple.tupleExact _) (wpAny_newObj_type (wpAny_pure ⟨_,rfl,wpAny_pure h⟩) htake)
  | exact wpAny_bind (m:=Builtin.Tuple.tupleExact _) (wpAny_newObj_type (wpAny_bind (wpAny_pure (wpAny_pure ⟨_,rfl,wpAny_pure h⟩))) htake)
  | exact wpAny_bind (wpAny_bind (m:=Builtin.Tuple.tupleExact _) (wpAny_newObj_type (wpAny_pure (wpAny_pure ⟨_,rfl,wpAny_pure h⟩)) htake))
  | exact wpAny_bind (wpAny_bind (m:=Builtin.Tuple.tupleExact _) (wpAny_newObj_type (wpAny_pure ⟨_,rfl,wpAny_pure h⟩) htake))
end
end HT
namespace L2
open PySem PySem.Spec PyProof.Rows
abbrev TO:=St→Hp→(Option Int→Hp→Prop)→Prop
def PO (X:Cx) (e:Option Expr) (t:TO):Prop :=
 ∀ (pins:List (Addr×Obj)) (s:Shared) (σ:St) (H:Hp) (Q:Option Int→Hp→Prop),Inv X pins σ H s→t σ H Q →
  wpAny (model X.prog X.w) X.A (evalPart e X.env) (fun u s'=>∃ o H',Inv X pins σ H' s'∧IsPart u o∧Q o H') X.xe s
def tNoPart:TO:=fun _ H Q=>Q none H
section
variable {X:Cx} {e:Expr} {te:TE} {lo hi:Option Expr} {tl th:TO} {pos p2:Pos}
theorem yE:PO X none tNoPart:=by
 intro pins s σ H Q I h
 rw [evalPart_none]
 exact wpAny_pure ⟨none,H,I,.none,h⟩
def SlR (X:Cx) (r:V→Option Int→Option Int→Hp→VK→Prop):Prop :=
 ∀ (pins:List (Addr×Obj)) (s:Shared) (σ:St) (H:Hp) (x:V) (v vl vu:Value) (lo hi:Option Int) (sl:Addr) (Q:VK),Inv X pins σ H s→RelV x v→s.heap.IsSliceOf sl vl vu .none→IsPart vl lo→IsPart vu hi→r x lo hi H Q →
  ∃ T id,typeLookup (.type T) "__getitem__"=pure (some (.builtin id))∧s.TypeIs v T∧wpAny (model X.prog X.w) X.A (getItem v (.ref sl)) (EP X pins σ Q) X.xe s
theorem SlR.or {r r':V→Option Int→Option Int→Hp→VK→Prop} (h:SlR X r) (h':SlR X r'):SlR X (fun x lo hi H Q=>r x lo hi H Q∨r' x lo hi H Q):=by
 intro pins s σ H x v vl vu lo hi sl Q I rx hs pl pu q
 rcases q with q|q
 ·exact h pins s σ H x v vl vu lo hi sl Q I rx hs pl pu q
 ·exact h' pins s σ H x v vl vu lo hi sl Q I rx hs pl pu q
def tSl (r:V→Option Int→Option Int→Hp→VK→Prop) (te:TE) (tl th:TO):TE:=fun σ H Q=>te σ H fun x H1=>tl σ H1 fun l H2=>th σ H2 fun u H3=>r x l u H3 Q
theorem vB {r:V→Option Int→Option Int→Hp→VK→Prop} (hr:SlR X r) (he:PE X e te) (hl:PO X lo tl) (hu:PO X hi th):PE X (.Subscript e (.Slice lo hi none p2) pos) (tSl r te tl th):=by
 intro pins s σ H Q I h
 refine Subscript_ (thn (he pins s σ H _ I h) fun v s1 hh=>exF hh fun x H1 I1 r1 q1=>?_)
 refine wpAny_Slice (thn (hl pins s1 σ H1 _ I1 q1) fun vl s2 ⟨l,H2,I2,pl,q2⟩=>thn (hu pins s2 σ H2 _ I2 q2) fun vu s3 ⟨u,H3,I3,pu,q3⟩=>?_)
 rw [evalPart_none]
 refine wpAny_pure ?_
 have I4:Inv X pins σ H3 { s3 with heap:=s3.heap.push { cls:=.type "slice",data:=.fields #[vl,vu,.none] } }:=I3.kept (t':=s3.toks) fun b ob q=>Heap.get?_push_of_some _ q
 obtain ⟨T,id,hT,ht,hg⟩:=hr pins { s3 with heap:=s3.heap.push { cls:=.type "slice",data:=.fields #[vl,vu,.none] } } σ H3 x v vl vu l u s3.heap.objs.size Q I4 r1 (Heap.IsSliceOf.new ..) pl pu q3
 show wpAny (model X.prog X.w) X.A (subscriptTail e (.Slice lo hi none p2) v (.ref s3.heap.objs.size)) (EP X pins σ Q) X.xe { s3 with heap:=s3.heap.push { cls:=.type "slice",data:=.fields #[vl,vu,.none] } }
 exact tail_any (ops:=[.ref s3.heap.objs.size,v]) ht hT hg (by with_unfolding_all rfl)
def cutV (xs:List V) (lo hi:Option Int):List V:=(xs.drop (HT.sIx xs.length 0 lo)).take (HT.sIx xs.length xs.length hi - HT.sIx xs.length 0 lo)
theorem kq (xs:List V) (lo hi:Option Int):(cutV xs lo hi).length≤xs.length:=by
 unfold cutV
 rw [List.length_take,List.length_drop]
 omega
def rSlT (K:PySem.W.Frag):V→Option Int→Option Int→Hp→VK→Prop:=fun x lo hi H Q=>∃ a xs,x=.ref a∧SqT K H a xs ∧
 ¬ (HT.sIx xs.length 0 lo=0∧HT.sIx xs.length xs.length hi=xs.length)∧∀ p,H p=none→Q (.ref p) (upd H p (.tup (cutV xs lo hi)))
theorem zP:SlR X (rSlT X.K):=by
 intro pins s σ H x v vl vu lo hi sl Q I rx hs pl pu h
 obtain ⟨a,xs,rfl,hx,hw,q⟩:=h
 cases rx
 obtain ⟨its,r,ht,hz⟩:=I.tuple hx
 have hlen:its.toArray.size=xs.length:=by rw [List.size_toArray];exact r.length.symm
 refine ⟨"tuple",_,PyProof.Rows.slot_tuple_getitem.lookup,ht.typeIs,?_⟩
 refine HT.jg ht hs pl pu (by rw [hlen];exact hw) ?_ (by rw [hlen];exact hz)
 rw [hlen]
 refine ⟨.ref s.heap.objs.size,_,I.laid (t':=s.toks) (o:=.tup (cutV xs lo hi)) (fun b ob q=>Heap.get?_push_of_some _ q) (Nat.le_refl _) ?_,rfl,q _ (I.hok.fresh (Nat.le_refl _))⟩
 exact ⟨Nat.le_trans (kq xs lo hi) hz,_,(r.drop (HT.sIx xs.length 0 lo)).take (HT.sIx xs.length xs.length hi - HT.sIx xs.length 0 lo),IsTup.new _ _⟩
def rCatT (K:PySem.W.Frag):R2:=fun x y H Q=>∃ a b xs ys,x=.ref a∧y=.ref b∧SqT K H a xs∧SqT K H b ys∧xs≠[]∧xs.length+ys.length≤sizeLine ∧
 (ys=[]→Q (.ref a) H)∧(ys≠[]→∀ p,H p=none→Q (.ref p) (upd H p (.tup (xs++ys))))
theorem Vals.nil_iff {xs:List V} {us:List Value} (r:Vals xs us):us=[] ↔ xs=[]:=by
 cases r with
 | nil=>simp
 | cons _ _=>simp
theorem xt:OpR X (binaryOp .Add) (rCatT X.K):=by
 intro pins s σ H x y v u Q I rx ry h
 obtain ⟨a,b,xs,ys,rfl,rfl,ha,hb,hx,hz,q1,q2⟩:=h
 cases rx
 cases ry
 obtain ⟨its,r1,p1,_⟩:=I.tuple ha
 obtain ⟨its2,r2,p2,_⟩:=I.tuple hb
 refine HT.yq p1 p2 (fun z=>hx (r1.nil_iff.mp z)) (fun z=>⟨.ref a,H,I,rfl,q1 (r2.nil_iff.mp z)⟩) (fun z=>?_) (by rw [← r1.length,← r2.length];exact hz)
 refine ⟨.ref s.heap.objs.size,_,I.laid (t':=s.toks) (o:=.tup (xs++ys)) (fun b ob q=>Heap.get?_push_of_some _ q) (Nat.le_refl _) ?_,rfl,q2 (fun w=>z (r2.nil_iff.mpr w)) _ (I.hok.fresh (Nat.le_refl _))⟩
 exact ⟨by rw [List.length_append];exact hz,_,r1.append r2,IsTup.new _ _⟩
end
def ixN (n:Nat) (i:Int):Option Nat:=if 0≤i then (if i < n then some i.toNat else none) else if -(n:Int)≤i then some (i+n).toNat else none
def atI {α:Type} (xs:List α) (i:Int):Option α:=(ixN xs.length i).bind fun j=>xs[j]?
theorem yB {n:Nat} {i:Int} {j:Nat} (h:ixN n i=some j):seqIndex? i n=some j∧j < n∧-(n:Int)≤i∧i < n:=by
 unfold ixN at h
 by_cases h0:0≤i
 ·rw [if_pos h0] at h
  by_cases h1:i < n
  ·rw [if_pos h1] at h
   have e:i.toNat=j:=Option.some.inj h
   exact ⟨by rw [seqIndex_of h0 h1,e],by omega,by omega,h1⟩
  ·rw [if_neg h1] at h;cases h
 ·rw [if_neg h0] at h
  by_cases h1:-(n:Int)≤i
  ·rw [if_pos h1] at h
   have e:(i+n).toNat=j:=Option.some.inj h
   exact ⟨by rw [seqIndex_neg (by omega) h1,e],by omega,h1,by omega⟩
  ·rw [if_neg h1] at h;cases h
theorem pv {α:Type} {xs:List α} {i:Int} {v:α} (h:atI xs i=some v):∃ j,seqIndex? i xs.length=some j∧xs[j]?=some v∧j < xs.length∧-(xs.length:Int)≤i∧i < xs.length:=by
 unfold atI at h
 cases e:ixN xs.length i with
 | none=>rw [e] at h;cases h
 | some j =>
  rw [e] at h
  obtain ⟨h1,h2,h3,h4⟩:=yB e
  exact ⟨j,h1,h,h2,h3,h4⟩
theorem ca {α:Type} {xs:List α} {j:Nat} {v:α} (h:xs[j]?=some v):atI xs (j:Int)=some v:=by
 have hj:j < xs.length:=(List.getElem?_eq_some_iff.mp h).1
 have e:ixN xs.length (j:Int)=some j:=by
  unfold ixN
  rw [if_pos (by omega),if_pos (by omega)];simp
 unfold atI;rw [e];exact h
theorem wg {α:Type} (xs:List α) (v:α):atI (xs++[v]) (-1)=some v:=by
 have hl:(xs++[v]).length=xs.length+1:=by simp
 have e:ixN (xs++[v]).length (-1)=some xs.length:=by
  unfold ixN
  rw [hl,if_neg (by decide),if_pos (by omega)]
  congr 1
  omega
 unfold atI
 rw [e]
 show (xs++[v])[xs.length]?=some v
 simp
def PlainIx (b:Expr):Prop:=∀ o i,subscripted b false o i=operate [o,i] (getItem o i)
def IxR (X:Cx) (r:R2):Prop :=
 ∀ (value slice:Expr) (pins:List (Addr×Obj)) (s:Shared) (σ:St) (H:Hp) (x y:V) (v u:Value) (Q:VK),Inv X pins σ H s→RelV x v→RelV y u→r x y H Q →
  subscripted slice false v u=operate [v,u] (getItem v u)→wpAny (model X.prog X.w) X.A (subscriptTail value slice v u) (EP X pins σ Q) X.xe s
def MtR (X:Cx) (id:String) (r:V→List V→Hp→VK→Prop):Prop :=
 ∀ (pins:List (Addr×Obj)) (s:Shared) (σ:St) (H:Hp) (x:V) (xs:List V) (v:Value) (us:List Value) (Q:VK),Inv X pins σ H s→RelV x v→Vals xs us→r x xs H Q →
  wpAny (model X.prog X.w) X.A (call (.builtin id) (v::us)) (EP X pins σ Q) X.xe s
section
variable {X:Cx} {a b:Expr} {ta tb:TE} {pos:Pos}
theorem IxR.or {r r':R2} (h:IxR X r) (h':IxR X r'):IxR X (fun x y H Q=>r x y H Q∨r' x y H Q):=by
 intro value slice pins s σ H x y v u Q I rx ry q hs
 rcases q with q|q
 ·exact h value slice pins s σ H x y v u Q I rx ry q hs
 ·exact h' value slice pins s σ H x y v u Q I rx ry q hs
theorem Cc {r:R2} (hr:IxR X r) (ha:PE X a ta) (hb:PE X b tb) (hs:PlainIx b):PE X (.Subscript a b pos) (tOp r ta tb):=by
 intro pins s σ H Q I h
 exact Subscript_ (binT ha hb I h fun v u s2 x y H2 I2 rx ry q=>hr a b pins s2 σ H2 x y v u Q I2 rx ry q (hs _ _))
def rIxL (K:PySem.W.Frag):R2:=fun x y H Q=>∃ p xs i v,x=.ref p∧y=.int i∧SqL K H p xs∧atI xs i=some v∧Q v H
def rIxT (K:PySem.W.Frag):R2:=fun x y H Q=>∃ p xs i v,x=.ref p∧y=.int i∧SqT K H p xs∧atI xs i=some v∧Q v H
def rIxS:R2:=fun x y H Q=>∃ z i c,x=.str z∧y=.int i∧z.length≤sizeLine∧atI z.cps.toList i=some c∧Q (.str ⟨#[c]⟩) H
theorem yo:IxR X (rIxL X.K):=by
 intro value slice pins s σ H x y v u Q I rx ry h hs
 obtain ⟨p,xs,i,z,rfl,rfl,hq,he,q⟩:=h
 cases rx
 obtain ⟨t,rfl⟩:=ry
 obtain ⟨its,r,pl,hz⟩:=I.list hq
 obtain ⟨j,h1,h2,h3,h4,h5⟩:=pv he
 obtain ⟨w,ew,rw'⟩:=r.get h2
 have hl:=r.length
 have hn:=line63
 have fin:EP X pins σ Q w s:=⟨z,H,I,rw',q⟩
 by_cases h0:0≤i
 ·have hj:i.toNat=j:=by
   rw [seqIndex_of h0 h5] at h1
   exact Option.some.inj h1
  exact item_listR pl.isList h0 (by omega) (by rw [hj];simpa using ew) fin hs
 ·have hj:(i+(its.toArray.size:Int)).toNat=j:=by
   rw [seqIndex_neg (by omega) h4] at h1
   rw [List.size_toArray,← hl]
   exact Option.some.inj h1
  exact subscriptTail_builtinR (x:=w) pl.isList.typeIs slot_list_getitem.lookup
   (wpAny_getItem_list_neg (Q:=fun r s'=>r=w∧EP X pins σ Q r s') pl.isList (by omega) (by rw [List.size_toArray] <;> omega) (by omega) (by rw [hj];simpa using ew) ⟨rfl,fin⟩) hs
theorem z6:IxR X (rIxT X.K):=by
 intro value slice pins s σ H x y v u Q I rx ry h hs
 obtain ⟨p,xs,i,z,rfl,rfl,hq,he,q⟩:=h
 cases rx
 obtain ⟨t,rfl⟩:=ry
 obtain ⟨its,r,pl,hz⟩:=I.tuple hq
 obtain ⟨j,h1,h2,h3,h4,h5⟩:=pv he
 obtain ⟨w,ew,rw'⟩:=r.get h2
 have hl:=r.length
 have hn:=line63
 have fin:EP X pins σ Q w s:=⟨z,H,I,rw',q⟩
 exact subscriptTail_builtinR (x:=w) pl.typeIs slot_tuple_getitem.lookup
  (getItem_tuple (j:=j) (Q:=fun r s'=>r=w∧EP X pins σ Q r s') pl (by omega) (by omega) (by rw [List.size_toArray,← hl];exact h1) (by simpa using ew) ⟨rfl,fin⟩) hs
theorem AJ:IxR X rIxS:=by
 intro value slice pins s σ H x y v u Q I rx ry h hs
 obtain ⟨z,i,c,rfl,rfl,hz,he,q⟩:=h
 obtain ⟨t,rfl⟩:=rx
 obtain ⟨t',rfl⟩:=ry
 obtain ⟨j,h1,h2,h3,h4,h5⟩:=pv he
 have hl:z.cps.toList.length=z.length:=by simp [Str.length]
 rw [hl] at h1 h4 h5
 have hn:=line63
 exact tail_any (typeIs_str s z t) slot_str_getitem.lookup (getItem_str (c:=c) (by
  have e1:decide (i < -(2 ^ 63:Int))=false:=decide_eq_false (by omega)
  have e2:decide (i ≥ 2 ^ 63)=false:=decide_eq_false (by omega)
  rw [e1,e2,Bool.or_false]) (by rw [h1];simpa using h2) ⟨.str ⟨#[c]⟩,H,I.tok _,⟨_,rfl⟩,q⟩) hs
def rIx (K:PySem.W.Frag):R2:=fun x y H Q=>rIxL K x y H Q∨rIxT K x y H Q∨rIxS x y H Q
theorem AA:IxR X (rIx X.K):=yo.or (z6.or AJ)
theorem Inv.lst {pins:List (Addr×Obj)} {σ:St} {H:Hp} {s:Shared} {p:Addr} {xs:List V} (I:Inv X pins σ H s) (h:H p=some (.lst xs)) :
  ∃ (its:List Value) (n:Nat),Vals xs its∧s.heap.get? p=some { cls:=.type "list",data:=.seq its.toArray n }∧xs.length≤sizeLine:=by
 obtain ⟨z,its,n,r,e⟩:=I.hok p _ h
 exact ⟨its,n,r,e,z⟩
theorem nV (lo hi:Option Int) (n:Nat):(sliceBounds lo hi none n).1=((HT.sIx n 0 lo:Nat):Int)∧(sliceBounds lo hi none n).2.1=((HT.sIx n n hi:Nat):Int)∧(sliceBounds lo hi none n).2.2=1:=by
 refine ⟨?_,?_,rfl⟩
 ·cases lo with
  | none=>simp [sliceBounds,HT.sIx]
  | some i =>
   simp only [sliceBounds,HT.sIx,Option.getD_none,show (1:Int) > 0 by decide,if_true]
   by_cases h:i < 0
   ·simp only [h,if_true] <;> omega
   ·simp only [h,if_false] <;> omega
 ·cases hi with
  | none=>simp [sliceBounds,HT.sIx]
  | some i =>
   simp only [sliceBounds,HT.sIx,Option.getD_none,show (1:Int) > 0 by decide,if_true]
   by_cases h:i < 0
   ·simp only [h,if_true] <;> omega
   ·simp only [h,if_false] <;> omega
theorem mx (its:List Value) (lo hi:Option Int):slicePick its.toArray lo hi none=((its.drop (HT.sIx its.length 0 lo)).take (HT.sIx its.length its.length hi - HT.sIx its.length 0 lo)).toArray:=by
 obtain ⟨h1,h2,h3⟩:=nV lo hi its.toArray.size
 unfold slicePick
 rw [h1,h2,h3]
 simp only [sliceRange_one,pick_run,List.size_toArray] <;> rfl
def rSlL (K:PySem.W.Frag):V→Option Int→Option Int→Hp→VK→Prop:=fun x lo hi H Q=>∃ a xs,x=.ref a∧SqL K H a xs∧∀ p,H p=none→Q (.ref p) (upd H p (.lst (cutV xs lo hi)))
theorem xm:SlR X (rSlL X.K):=by
 intro pins s σ H x v vl vu lo hi sl Q I rx hs pl pu h
 obtain ⟨a,xs,rfl,hx,q⟩:=h
 cases rx
 obtain ⟨its,r,ht,hz⟩:=I.list hx
 have hlen:=r.length
 refine ⟨"list",_,slot_list_getitem.lookup,ht.isList.typeIs,?_⟩
 refine wpAny_getItem_list_slice ht.isList hs pl pu .none (by simp) ?_ (by rw [List.size_toArray] <;> omega)
 rw [mx,← hlen]
 refine ⟨.ref s.heap.objs.size,_,I.laid (t':=s.toks) (o:=.lst (cutV xs lo hi)) (fun b ob q=>Heap.get?_push_of_some _ q) (Nat.le_refl _) ?_,rfl,q _ (I.hok.fresh (Nat.le_refl _))⟩
 exact ⟨Nat.le_trans (kq xs lo hi) hz,_,0,(r.drop (HT.sIx xs.length 0 lo)).take (HT.sIx xs.length xs.length hi - HT.sIx xs.length 0 lo),Heap.get?_push_size _ rfl⟩
def flatV:V→Bool
 | .non=>true
 | .bl _=>true
 | .int _=>true
 | .str _=>true
 | _=>false
def eqV:V→V→Bool
 | .non,.non=>true
 | .bl a,.bl b=>a==b
 | .bl a,.int b=>(if a then 1 else 0)==b
 | .int a,.bl b=>a==(if b then 1 else 0)
 | .int a,.int b=>a==b
 | .str a,.str b=>a==b
 | _,_=>false
theorem As {A:Around} {s:Shared} {y x:V} {u v:Value} (ry:RelV y u) (rx:RelV x v) (fy:flatV y=true) (fx:flatV x=true):SeqAt.EqAt A s u v (eqV y x):=by
 cases y with
 | non =>
  cases ry
  cases x with
  | non=>cases rx;exact SeqAt.EqAt.same _
  | bl b=>cases rx;exact SeqAt.EqAt.none_bool b
  | int b=>obtain ⟨t,rfl⟩:=rx;exact SeqAt.EqAt.none_int b t
  | str b=>obtain ⟨t,rfl⟩:=rx;exact SeqAt.EqAt.none_str b t
  | _=>exact absurd (show false=true from fx) Bool.false_ne_true
 | bl a =>
  cases ry
  cases x with
  | non=>cases rx;exact SeqAt.EqAt.bool_none a
  | bl b=>cases rx;exact SeqAt.EqAt.bool_bool a b
  | int b=>obtain ⟨t,rfl⟩:=rx;exact SeqAt.EqAt.bool_int a b t
  | str b=>obtain ⟨t,rfl⟩:=rx;exact SeqAt.EqAt.bool_str a b t
  | _=>exact absurd (show false=true from fx) Bool.false_ne_true
 | int a =>
  obtain ⟨t',rfl⟩:=ry
  cases x with
  | non=>cases rx;exact SeqAt.EqAt.int_none a t'
  | bl b=>cases rx;exact SeqAt.EqAt.int_bool a t' b
  | int b=>obtain ⟨t,rfl⟩:=rx;exact SeqAt.EqAt.int_int a t' b t
  | str b=>obtain ⟨t,rfl⟩:=rx;exact SeqAt.EqAt.int_str a t' b t
  | _=>exact absurd (show false=true from fx) Bool.false_ne_true
 | str a =>
  obtain ⟨t',rfl⟩:=ry
  cases x with
  | non=>cases rx;exact SeqAt.EqAt.str_none a t'
  | bl b=>cases rx;exact SeqAt.EqAt.str_bool a t' b
  | int b=>obtain ⟨t,rfl⟩:=rx;exact SeqAt.EqAt.str_int a t' b t
  | str b=>obtain ⟨t,rfl⟩:=rx;exact SeqAt.EqAt.str_str a t' b t
  | _=>exact absurd (show false=true from fx) Bool.false_ne_true
 | _=>exact absurd (show false=true from fy) Bool.false_ne_true
def eqU (x:V) (u:Value):Bool:=match u with
 | .none=>eqV .non x
 | .bool b=>eqV (.bl b) x
 | .int i _=>eqV (.int i) x
 | .str z _=>eqV (.str z) x
 | _=>false
theorem p6 {x y:V} {u:Value} (r:RelV y u) (f:flatV y=true):eqU x u=eqV y x:=by
 cases y with
 | non=>cases r;rfl
 | bl b=>cases r;rfl
 | int i=>obtain ⟨t,rfl⟩:=r;rfl
 | str z=>obtain ⟨t,rfl⟩:=r;rfl
 | _=>exact absurd (show false=true from f) Bool.false_ne_true
theorem pP {x:V}:∀ {xs:List V} {us:List Value},Vals xs us→xs.all flatV=true→us.any (eqU x)=xs.any fun y=>eqV y x
 | _,_,.nil,_=>rfl
 | y::xs,u::us,.cons r t,f=>by
  rw [List.all_cons,Bool.and_eq_true] at f
  rw [List.any_cons,List.any_cons,p6 r f.1,pP t f.2]
theorem jO {A:Around} {s:Shared} {x:V} {v:Value} (rx:RelV x v) (fx:flatV x=true):∀ {xs:List V} {us:List Value},Vals xs us→xs.all flatV=true→∀ u∈us,SeqAt.EqAt A s u v (eqU x u)
 | _,_,.nil,_=>fun u hu=>by cases hu
 | y::xs,u::us,.cons r t,f=>fun u' hu=>by
  rw [List.all_cons,Bool.and_eq_true] at f
  rcases List.mem_cons.mp hu with rfl|hu
  ·rw [p6 r f.1];exact As r rx f.1 fx
  ·exact jO rx fx t f.2 u' hu
def inV (x:V) (xs:List V):Bool:=xs.any fun y=>eqV y x
def rIn (K:PySem.W.Frag) (neg:Bool):R2:=fun x y H Q=>∃ p xs,y=.ref p∧(SqL K H p xs∨SqT K H p xs)∧flatV x=true∧xs.all flatV=true∧Q (.bl (if neg then !inV x xs else inV x xs)) H
theorem tf:OpR X (compareOp .In) (rIn X.K false):=by
 intro pins s σ H x y v u Q I rx ry h
 obtain ⟨p,xs,rfl,hq,fx,fs,q⟩:=h
 cases ry
 rcases hq with hq|hq
 ·obtain ⟨its,r,pl,hz⟩:=I.list hq
  refine SeqAt.in_listAt (eqU x) pl.isList (fun w hw=>jO rx fx r fs w (by simpa using hw)) ⟨.bl _,H,I,rfl,?_⟩
  rw [show its.toArray.any (eqU x)=its.any (eqU x) by simp,pP r fs]
  exact q
 ·obtain ⟨its,r,pl,hz⟩:=I.tuple hq
  refine SeqAt.in_tupleAt (eqU x) pl (fun w hw=>jO rx fx r fs w (by simpa using hw)) ⟨.bl _,H,I,rfl,?_⟩
  rw [show its.toArray.any (eqU x)=its.any (eqU x) by simp,pP r fs]
  exact q
theorem ng:CallR X (.builtin "len") (fun xs H Q=>∃ p ys,xs=[.ref p]∧(SqL X.K H p ys∨SqT X.K H p ys)∧Q (.int ys.length) H):=by
 intro pins s σ H xs us Q I r h
 obtain ⟨p,ys,rfl,hq,q⟩:=h
 obtain ⟨u,rfl,rx⟩:=vals1 r
 cases rx
 have hn:=line63
 rcases hq with hq|hq
 ·obtain ⟨its,r',pl,hz⟩:=I.list hq
  have hlen:=r'.length
  exact Calls.call_len_list pl.isList (by simp only [List.size_toArray] <;> omega) ⟨.int ys.length,H,I.tok _,⟨s.toks+1,by rw [List.size_toArray,hlen]⟩,q⟩
 ·obtain ⟨its,r',pl,hz⟩:=I.tuple hq
  have hlen:=r'.length
  exact len_tuple pl (by simp only [List.size_toArray] <;> omega) ⟨.int ys.length,H,I.tok _,⟨s.toks+1,by rw [List.size_toArray,hlen]⟩,q⟩
theorem nC:CallR X (.builtin "len") (fun xs H Q=>∃ z,xs=[.str z]∧z.length≤sizeLine∧Q (.int z.length) H):=by
 intro pins s σ H xs us Q I r h
 obtain ⟨z,rfl,hz,q⟩:=h
 obtain ⟨u,rfl,t,rfl⟩:=vals1 r
 have hn:=line63
 exact len_str (by omega) ⟨.int z.length,H,I.tok _,⟨_,rfl⟩,q⟩
theorem CallR.or {f:Value} {r r':List V→Hp→VK→Prop} (h:CallR X f r) (h':CallR X f r'):CallR X f (fun xs H Q=>r xs H Q∨r' xs H Q):=by
 intro pins s σ H xs us Q I rs q
 rcases q with q|q
 ·exact h pins s σ H xs us Q I rs q
 ·exact h' pins s σ H xs us Q I rs q
theorem nY:CallR X (.type "list") (fun xs H Q=>∃ p ys,xs=[.ref p]∧(SqL X.K H p ys∨SqT X.K H p ys)∧∀ l,H l=none→Q (.ref l) (upd H l (.lst ys))):=by
 intro pins s σ H xs us Q I r h
 obtain ⟨p,ys,rfl,hq,q⟩:=h
 obtain ⟨u,rfl,rx⟩:=vals1 r
 cases rx
 have fin:∀ (its:List Value),Vals ys its→ys.length≤sizeLine→∀ (h':Heap) (c':Nat),(∀ b o',s.heap.get? b=some o'→h'.get? b=some o') →
   h'.get? s.heap.objs.size=some { cls:=.type "list",dict:=none,data:=.seq its.toArray c',slots:=#[] }→EP X pins σ Q (.ref s.heap.objs.size) { s with heap:=h' }:=fun its r' hz h' c' kp e =>
  ⟨.ref s.heap.objs.size,_,I.laid (t':=s.toks) kp (Nat.le_refl _) (show ObjOk X.prog X.w _ h' _ (.lst ys) from ⟨hz,its,c',r',e⟩),rfl,q _ (I.hok.fresh (Nat.le_refl _))⟩
 rcases hq with hq|hq
 ·obtain ⟨its,r',pl,hz⟩:=I.list hq
  have hlen:=r'.length
  obtain ⟨o,ho,hc,n,hd⟩:=pl.isList
  exact call_list_seq p (.inl rfl) ho hc hd (fun h' c' kp e=>fin its r' hz h' c' kp e) (by simp only [List.size_toArray] <;> omega)
 ·obtain ⟨its,r',pl,hz⟩:=I.tuple hq
  have hlen:=r'.length
  obtain ⟨o,ho,hc,n,hd⟩:=pl
  exact call_list_seq p (.inr rfl) ho hc hd (fun h' c' kp e=>fin its r' hz h' c' kp e) (by simp only [List.size_toArray] <;> omega)
theorem my:CallR X (.type "tuple") (fun xs H Q=>∃ p ys,xs=[.ref p]∧((SqL X.K H p ys∧∀ l,H l=none→Q (.ref l) (upd H l (.tup ys)))∨(SqT X.K H p ys∧Q (.ref p) H))):=by
 intro pins s σ H xs us Q I r h
 obtain ⟨p,ys,rfl,h⟩:=h
 obtain ⟨u,rfl,rx⟩:=vals1 r
 cases rx
 rcases h with ⟨hq,q⟩|⟨hq,q⟩
 ·obtain ⟨its,r',pl,hz⟩:=I.list hq
  have hlen:=r'.length
  refine call_tuple_list pl.isList (fun h' kp=>?_) (by simp only [List.size_toArray] <;> omega)
  have I1:Inv X pins σ H { s with heap:=h' }:=I.kept (t':=s.toks) kp
  have I2:Inv X pins σ (upd H h'.objs.size (.tup ys)) { s with heap:=h'.push { cls:=.type "tuple",data:=.seq its.toArray } } :=
   I1.laid (t':=s.toks) (fun b o e=>Heap.get?_push_of_some _ e) (Nat.le_refl _) (show ObjOk X.prog X.w _ _ _ (.tup ys) from ⟨hz,its,r',IsTup.new _ _⟩)
  exact ⟨.ref h'.objs.size,_,I2,rfl,q _ (I1.hok.fresh (Nat.le_refl _))⟩
 ·obtain ⟨its,r',pl,hz⟩:=I.tuple hq
  exact call_tuple_same pl ⟨.ref p,H,I,rfl,q⟩
def tyV (K:PySem.W.Frag) (T:String) (x:V) (H:Hp):Prop:=match x with
 | .str _=>T="str"
 | .int _=>T="int"
 | .ref p=>(T="list"∧∃ xs,SqL K H p xs)∨(T="tuple"∧∃ o,K.lookup p=some o∧o.cls=.type "tuple"∧o.dict=none) ∨
   (T="dict"∧((∃ kvs,H p=some (.dK kvs))∨∃ kvs,H p=some (.dT kvs)))∨(T="set"∧∃ S n,H p=some (.set S n))
 | _=>False
theorem Ay {pins:List (Addr×Obj)} {σ:St} {H:Hp} {s:Shared} {T:String} {x:V} {v:Value} (I:Inv X pins σ H s) (r:RelV x v) (ty:tyV X.K T x H) :
  s.TypeIs v T∧∀ a,v=.ref a→∃ ob,s.heap.get? a=some ob∧ob.dict=none:=by
 cases x with
 | str z =>
  obtain ⟨t,rfl⟩:=r
  cases (show T="str" from ty)
  exact ⟨typeIs_str s z t,fun _ e=>nomatch e⟩
 | int i =>
  obtain ⟨t,rfl⟩:=r
  cases (show T="int" from ty)
  exact ⟨typeIs_int s i t,fun _ e=>nomatch e⟩
 | ref p =>
  cases r
  rcases ty with ⟨rfl,xs,hq⟩|⟨rfl,o,hk,hc,hd⟩|⟨rfl,hk⟩|⟨rfl,S,n,hk⟩
  ·obtain ⟨its,_,pl,_⟩:=I.list hq
   refine ⟨pl.isList.typeIs,fun a e=>?_⟩
   cases e
   obtain ⟨o,n,e,c,hd,_⟩:=pl
   exact ⟨o,e,hd⟩
  ·refine ⟨⟨o,I.kIn p o hk,hc⟩,fun a e=>?_⟩
   cases e
   exact ⟨o,I.kIn _ o hk,hd⟩
  ·have z:∃ o,s.heap.get? p=some o∧o.ExactDict:=by
    rcases hk with ⟨kvs,hk⟩|⟨kvs,hk⟩
    ·obtain ⟨_,_,_,_,o,_,_,e,ex,_⟩:=I.hok p _ hk
     exact ⟨o,e,ex⟩
    ·obtain ⟨_,_,_,_,o,_,_,e,ex,_⟩:=I.hok p _ hk
     exact ⟨o,e,ex⟩
   obtain ⟨o,e,ex⟩:=z
   refine ⟨⟨o,e,ex.1⟩,fun a e2=>?_⟩
   cases e2
   exact ⟨o,e,ex.2.1⟩
  ·obtain ⟨o,_,_,_,e,ex,_⟩:=I.hok p _ hk
   refine ⟨⟨o,e,ex.1⟩,fun a e2=>?_⟩
   cases e2
   exact ⟨o,e,ex.2.1⟩
 | _=>exact False.elim ty
def tBM (K:PySem.W.Frag) (T:String) (r:V→List V→Hp→VK→Prop) (to:TE) (t:TA):TE:=fun σ H Q=>to σ H fun x H1=>tyV K T x H1∧t σ H1 fun xs H2=>r x xs H2 Q
variable {o e:Expr} {es:List Expr} {to:TE} {t:TA} {name:Str} {apos cpos:Pos} {T id:String} {r:V→List V→Hp→VK→Prop}
theorem Cb (pa:PlainAttrs T) (slot:Slot T name id) (hty:typeOf (.builtin id)=pure (.type "method_descriptor")) (hm:MtR X id r) (ho:PE X o to) (ha:PA X (e::es) t)
  (hbase:attributeBase o name X.env (eval o X.env)=eval o X.env:=by rfl)
  (hfew:((backTo cpos (starEach (e::es) X.env)).all (fun x=>!x.1)&&(backToKw cpos (keywordEach [] X.env)).all (fun x=>x.1.isSome)
   && decide ((e::es).length+([]:List Keyword).length+(if ([]:List Keyword).isEmpty then 0 else 1) < 30))=true:=by rfl)
  (hline:(apos.endLine==cpos.line)=true:=by rfl) (hs:starEach (e::es) X.env=(false,eval e X.env)::starEach es X.env:=by rfl) (hplain:(backTo cpos (starEach es X.env)).any (·.1)=false:=by rfl) :
  PE X (.Call (.Attribute o name apos) (e::es) [] cpos) (tBM X.K T r to t):=by
 intro pins s σ H Q I h
 refine wpAny_Call_method_late hbase hfew hline rfl (thn (ho pins s σ H _ I h) fun v s1 ⟨x,H1,I1,r1,ty,q1⟩=>?_)
 obtain ⟨h1,h2⟩:=Ay I1 r1 ty
 refine ⟨T,id,pa,slot,hty,h1,h2,?_⟩
 have hA:=ha cpos pins s1 σ H1 _ I1 q1
 rw [hs] at hA ⊢
 refine Calls.callWith_builtin (by show (false||(backTo cpos (starEach es X.env)).any (·.1))=false;rw [hplain] <;> rfl) (Calls.evalArgs_plain ?_)
 exact thn hA fun us s2 hh=>exF hh fun vs H2 I2 r2 q2=>hm pins s2 σ H2 x vs v us Q I2 r1 r2 q2
end
def MtM (X:Cx) (id:String) (r:V→List V→Hp→VK→Prop):Prop :=
 ∀ (pins:List (Addr×Obj)) (s:Shared) (σ:St) (H:Hp) (x:V) (xs:List V) (v:Value) (us:List Value) (Q:VK),Inv X pins σ H s→RelV x v→Vals xs us→r x xs H Q →
  wpAny (model X.prog X.w) X.A (call (.builtin id) (v::us)) (EP X pins σ Q) X.xe s
theorem Vals.one:∀ {x:V} {us:List Value},Vals [x] us→∃ u,us=[u]∧RelV x u
 | _,_,.cons r .nil=>⟨_,rfl,r⟩
section
variable {X:Cx} {pins:List (Addr×Obj)} {σ:St} {H:Hp} {s:Shared} {l b:Addr} {xs ys zs:List V}
theorem Inv.lset {its its':List Value} {n:Nat} {f:Array Value→Array Value} {t':Nat} (I:Inv X pins σ H s) (hH:H l=some (.lst xs))
  (e:s.heap.get? l=some { cls:=.type "list",data:=.seq its.toArray n }) (hf:f its.toArray=its'.toArray) (hv:Vals ys its') (hz:ys.length≤sizeLine) (ht:X.tn≤t':=by walk_at "tok") :
  Inv X pins σ (upd H l (.lst ys)) { s with heap:=s.heap.update l (Obj.mapSeq f),toks:=t' }:=by
 have q:=PySem.IsL.update e f
 rw [hf] at q
 refine I.write (x:=l) (e:=l) (by rw [hH];exact trivial) (.inl rfl) (fun b' u hb hu=>(Heap.get?_update_other s.heap (Obj.mapSeq f) (Ne.symm hb)).trans hu) ⟨_,q⟩ ?_
 exact ⟨hz,its',_,hv,q⟩
theorem Inv.lnew {its:List Value} {t':Nat} (I:Inv X pins σ H s) (hv:Vals ys its) (hz:ys.length≤sizeLine) (ht:X.tn≤t':=by walk_at "tok") :
  Inv X pins σ (upd H s.heap.objs.size (.lst ys)) { s with heap:=s.heap.push { cls:=.type "list",data:=.seq its.toArray },toks:=t' } :=
 I.laid (fun _ _ q=>Heap.get?_push_of_some _ q) (Nat.le_refl _) ⟨hz,its,0,hv,Heap.get?_push_size _ rfl⟩
theorem Inv.fresh (I:Inv X pins σ H s):H s.heap.objs.size=none:=I.hok.fresh (Nat.le_refl _)
theorem Inv.lstM (I:Inv X pins σ H s) (hH:H l=some (.lst xs)):xs.length≤sizeLine∧∃ (its:List Value) (n:Nat),Vals xs its∧xs.length=its.length∧s.heap.get? l=some { cls:=.type "list",data:=.seq its.toArray n }:=by
 obtain ⟨z,its,n,r,e⟩:=I.hok l _ hH
 exact ⟨z,its,n,r,r.length,e⟩
theorem notLongL {n:Nat} (h:n≤sizeLine):Builtin.List.listTooLong n=false:=by
 unfold Builtin.List.listTooLong
 exact decide_eq_false (by omega)
end
section
variable {X:Cx}
def rAppend:V→List V→Hp→VK→Prop:=fun x vs H Q=>∃ l xs y,x=.ref l∧vs=[y]∧H l=some (.lst xs)∧xs.length < sizeLine∧Q .non (upd H l (.lst (xs++[y])))
theorem nW:MtM X "list.append" rAppend:=by
 intro pins s σ H x vs v us Q I rx rv h
 obtain ⟨l,xs,y,rfl,rfl,hH,hz,q⟩:=h
 cases rx
 obtain ⟨u,rfl,ru⟩:=rv.one
 obtain ⟨z,its,n,r,hl,e⟩:=I.lstM hH
 refine call_meets F.slot_list_append ⟨_,e,rfl⟩ F.entry_list_append (F.args_list_append_2 _ _) (PySem.list_append l its.toArray n u (by rw [List.size_toArray];omega)) ⟨e,?_⟩
 refine ⟨.non,_,I.lset (its':=its++[u]) hH e (by simp) (r.append (.cons ru .nil)) ?_,rfl,q⟩
 rw [List.length_append,List.length_singleton]
 omega
end
section
variable {prog:Program} {w:World} {A:Around} {E:Value→Shared→Prop} {s:Shared}
set_option maxRecDepth 100000 in
end
section
variable {κ:Type} [DecidableEq κ]
def valV (kvs:List (κ×V)) (k:κ):Option V:=(kvs.find? fun kv=>decide (kv.1=k)).map (·.2)
def putK (kvs:List (κ×V)) (k:κ) (v:V):List (κ×V) :=
 if (kvs.any fun kv=>decide (kv.1=k))=true then kvs.map (fun kv=>if kv.1=k then (kv.1,v) else kv) else kvs++[(k,v)]
def dropK (kvs:List (κ×V)) (k:κ):List (κ×V):=kvs.filter fun kv=>decide (kv.1≠k)
theorem KV.any {kvs:List (κ×V)} {vs:List (κ×Value)} (r:KV kvs vs) (k:κ):(kvs.any fun kv=>decide (kv.1=k))=vs.any fun kv=>decide (kv.1=k):=by
 unfold KV at r
 induction r with
 | nil=>rfl
 | cons h t ih=>rw [List.any_cons,List.any_cons,ih,h.1]
theorem KV.drop {kvs:List (κ×V)} {vs:List (κ×Value)} (r:KV kvs vs) (k:κ):KV (dropK kvs k) (without vs k):=by
 unfold KV at r ⊢
 unfold dropK without
 induction r with
 | nil=>exact .nil
 | @cons p q ps qs h t ih =>
  obtain ⟨h1,h2⟩:=h
  rw [List.filter_cons,List.filter_cons]
  by_cases e:p.1=k
  ·have a:¬ decide (p.1≠k)=true:=by simp [e]
   have b:¬ decide (q.1≠k)=true:=by simp [h1.symm.trans e]
   rw [if_neg a,if_neg b];exact ih
  ·have e':¬ q.1=k:=fun z=>e (h1.trans z)
   have a:decide (p.1≠k)=true:=by simp [e]
   have b:decide (q.1≠k)=true:=by simp [e']
   rw [if_pos a,if_pos b];exact .cons ⟨h1,h2⟩ ih
theorem KV.keys {kvs:List (κ×V)} {vs:List (κ×Value)} (r:KV kvs vs):kvs.map (·.1)=vs.map (·.1):=by
 unfold KV at r
 induction r with
 | nil=>rfl
 | cons h t ih=>rw [List.map_cons,List.map_cons,ih,h.1]
theorem KV.length {kvs:List (κ×V)} {vs:List (κ×Value)} (r:KV kvs vs):kvs.length=vs.length:=Paired.length r
end
def DGet (H:Hp) (a:Addr) (y:V) (r:Option V):Prop :=
 (∃ kvs k,Rd H a (.dK kvs)∧y=kV k∧r=valV kvs k)∨∃ kvs k b,Rd H a (.dT kvs)∧y=.ref b∧H b=some (.tup (k.map kV))∧r=valV kvs k
def DPut (H:Hp) (a:Addr) (y v:V) (H':Hp):Prop :=
 (∃ kvs k,H a=some (.dK kvs)∧y=kV k∧kvs.length < sizeLine∧H'=upd H a (.dK (putK kvs k v))) ∨
 ∃ kvs k b,H a=some (.dT kvs)∧y=.ref b∧H b=some (.tup (k.map kV))∧kvs.length < sizeLine∧H'=upd H a (.dT (putK kvs k v))
theorem DGet.k {H:Hp} {a:Addr} {kvs:List (Key×V)} {k:Key} (e:H a=some (.dK kvs)):DGet H a (kV k) (valV kvs k):=.inl ⟨kvs,k,.inl e,rfl,rfl⟩
theorem DGet.t {H:Hp} {a b:Addr} {kvs:List (List Key×V)} {k:List Key} (e:H a=some (.dT kvs)) (eb:H b=some (.tup (k.map kV))):DGet H a (.ref b) (valV kvs k):=.inr ⟨kvs,k,b,.inl e,rfl,eb,rfl⟩
theorem DPut.k {H:Hp} {a:Addr} {kvs:List (Key×V)} {k:Key} {v:V} (e:H a=some (.dK kvs)) (hl:kvs.length < sizeLine):DPut H a (kV k) v (upd H a (.dK (putK kvs k v))):=.inl ⟨kvs,k,e,rfl,hl,rfl⟩
theorem DPut.t {H:Hp} {a b:Addr} {kvs:List (List Key×V)} {k:List Key} {v:V} (e:H a=some (.dT kvs)) (eb:H b=some (.tup (k.map kV))) (hl:kvs.length < sizeLine) :
  DPut H a (.ref b) v (upd H a (.dT (putK kvs k v))):=.inr ⟨kvs,k,b,e,rfl,eb,hl,rfl⟩
end L2
namespace Att
open PySem PySem.W PySem.Calls PyProof.Rows
theorem la {P:Params} {h:Heap}:∀ (ns:List Int) (vs:List Value),WellAll P h vs (ns.map WData.int)→IntsAre vs ns:=by
 intro ns
 induction ns with
 | nil =>
  intro vs w
  rw [List.map_nil] at w
  cases w
  exact .nil
 | cons n ns ih =>
  intro vs w
  rw [List.map_cons] at w
  cases w with
  | cons a b =>
   cases a
   exact .cons _ _ (ih _ b)
theorem uY {l:OpenLaw} {n:Nat} (hn:l.most=some n) {P:Params} {h:Heap} {args:List WData} {vals:List Value}
  (hpre:l.row.toRowW.claim.pre args=true) (hwl:WellAll P h vals args) :
  ∃ a vs ns,vals=[Value.ref a]∧args=[WData.list (ns.map WData.int)]∧h.get? a=some { cls:=.type "list",data:=.seq vs.toArray }∧IntsAre vs ns∧ns.length≤n:=by
 have hsh:WShape.hasAll [] args [.list .int]=true:=(pre_splitW hpre).1
 have hc:l.pre.holds [] { args:=args }=true:=(pre_splitW hpre).2
 obtain ⟨d,r,rfl,h1,h2⟩:=hasAllW_cons hsh
 obtain rfl:=hasAllW_nil h2
 obtain ⟨xs,rfl,h3⟩:=hasW_list h1
 obtain ⟨ns,rfl⟩:=items_int h3
 have hlen:ns.length≤n:=by
  unfold OpenLaw.pre at hc
  have h4:(WTm.not (.lt (.lit (.int (n:Int))) (.len (.arg 0)))).holds [] { args:=[.list (ns.map .int)] }=true:=by
   have h4:=(holds_andW hc).1
   rw [hn] at h4
   exact h4
  have h5:=condW_of h4 (w_not (w_lt w_lit (w_len_list (w_arg rfl))))
  rw [List.length_map] at h5
  refine Nat.le_of_not_lt fun q=>?_
  have q':(n:Int) < ((ns.length:Nat):Int):=by omega
  first
   | (rw [decide_eq_true q'] at h5;exact absurd h5 (by decide))
   | (simp at h5;omega)
 cases hwl with
 | cons w1 w2 =>
  cases w2
  cases w1 with
  | list ho hall=>exact ⟨_,_,ns,rfl,rfl,ho,la ns _ hall,hlen⟩
theorem vf (l:OpenLaw) (args:List WData):l.row.toRowW.claim.post args (.bool true) args=true :=
 postW_of (r:=l.row.toRowW) (X:=(true==true))
  (show WShape.has [] (.bool true) .bool=true by first|rfl|decide|simp [WShape.has,WShape.arms,WShape.armsAll])
  (show (WTm.eq .res (.lit (.bool true))).value [] { args:=args,res:=some (.bool true),after:=args }=some (.bool (true==true)) from w_eq_bool (w_res rfl) w_lit) rfl
theorem oV {l:OpenLaw} {n:Nat} {q:Program} {loose:List Str} {XP:(Str→Option Value)→Heap→Prop} {YP:World→Heap→Prop} {d:DefRec}
  (hn:l.most=some n) (hdf:d.params.defaults=[])
  (call:∀ (w:World) (s₀ s₁:Shared) (mg mb:Str→Option Value) (fa:Addr) (o:Obj) (pm cd doc:Value) (a:Addr) (vs:List Value) (ns:List Int),
   Ground q loose [] XP w s₀ mg mb s₁.heap→YP w s₁.heap →
   s₁.heap.get? fa=some o→o.data=.func (docDef d.name d.params d.body d.scope pm cd doc)→s₁.heap.CodeRec cd d.name→mg d.name=some (.ref fa) →
   s₁.heap.get? a=some { cls:=.type "list",data:=.seq vs.toArray }→IntsAre vs ns→ns.length≤n→s₁.gens=#[] →
   codeAny (model l.prog w) callerA (.call (.ref fa) ⟨[.ref a],[]⟩) (fun r s'=>r=.ok (.ret (.bool true))∧OldK s₁.heap s'.heap∧s'.os=s₁.os∧AllBare s'.gens) s₁) :
  WalkO q loose XP YP l.row.toRowW d [] (fun f vs=>PySem.call f vs):=by
 intro w s₀ s₁ mg mb G Y fa o pm cd doc dV kV ho hd hcd hD hmg hg args vals as hpre hlay hrd hwl hlo
 obtain rfl:dV=.none:=Dflts.none hD hdf
 obtain rfl:kV=.none:=Dflts.noKw hD
 obtain ⟨a,vs,ns,rfl,rfl,hobj,hints,hlen⟩:=uY hn hpre hwl
 refine enter_call (codeAny_mono (call w s₀ s₁ mg mb fa o pm cd doc a vs ns G Y ho (fd_plain hd) hcd hmg hobj hints hlen hg) fun r s' hq=>?_)
 obtain ⟨rfl,h2,h3,h4⟩:=hq
 exact ⟨.inl ⟨.bool true,.bool true,[],rfl,fun _=>rfl,.bool true,vf l _,fun _=>⟨List.Pairwise.nil,fun _ hm=>(nomatch hm)⟩⟩,h2,h3,h4⟩
end Att
namespace L2
open PySem PySem.Spec PyProof.Rows
theorem oj:∀ {vs:List Value} {ns:List Int},IntsAre vs ns→Vals (ns.map V.int) vs
 | _,_,.nil=>.nil
 | _,_,.cons n t h=>.cons ⟨t,rfl⟩ (oj h)
def Only (H:Hp):Prop:=∀ b,H b=none∨∃ o xs,H b=some (.frz o (.lst xs))
theorem vG {P:Program} {w:World} {K:PySem.W.Frag} {mg mb:Str→Option Value} {CX:CXT} {k:Nat} {fa a:Addr} {fd:FuncData} {x:Str} {sp:Sp} {s₁:Shared} {vs:List Value} {ns:List Int}
  (KX:K.In s₁.heap) (hns:s₁.heap.Ns mainGlobals mg) (hb:s₁.heap.Ns builtinsNs mb) (hbb:∀ x:Str,x≠"__name__"→mb x=bootBuiltins x) (hlim:s₁.heap.NoLimit) (hg:s₁.gens=#[])
  (ha:s₁.heap.get? a=some { cls:=.type "list",data:=.seq vs.toArray }) (hi:IntsAre vs ns) (hl:ns.length≤sizeLine) (hr:Room k callerA)
  (F:∀ base:Heap,K.In base→base.Ns mainGlobals mg→FnOk P w K mg base CX k fa fd [x] sp) (hbind:∀ (s:Shared) (u:Value),BindsTo s fd ⟨[u],[]⟩ [(x,u)])
  (hsp:∀ H:Hp,Only H→SqL K H a (ns.map V.int)→sp [.ref a] H (fun v _=>v=.bl true) fun _ _ _=>False)
  (hCX:∀ H e s',CX [] H s₁ (fun _ _ _=>False) e s'→False) :
  codeAny (model P w) callerA (.call (.ref fa) ⟨[.ref a],[]⟩) (fun r s'=>r=.ok (.ret (.bool true))∧OldK s₁.heap s'.heap∧s'.os=s₁.os∧AllBare s'.gens) s₁:=by
 have rv:=oj hi
 have lenV:=hi.length
 -- from an abstract heap in which nothing but the script may be tracked
 have core:∀ H:Hp,Only H→SqL K H a (ns.map V.int)→HOk P w H s₁.heap→(∀ b,H b≠none→b=a)→(H a≠none→K.lookup a=none) →
   codeAny (model P w) callerA (.call (.ref fa) ⟨[.ref a],[]⟩) (fun r s'=>r=.ok (.ret (.bool true))∧OldK s₁.heap s'.heap∧s'.os=s₁.os∧AllBare s'.gens) s₁:=by
  intro H hO hS hok hA hK
  have base_of:∀ {b:Addr} {o:Obj},s₁.heap.get? b=some o→H b=none→(hidT s₁.heap H).get? b=some o:=fun e n=>vX e n
  have noA:∀ {b:Addr} {o:Obj} {es:Array DictEntry} {ep:Nat},s₁.heap.get? b=some o→o.data=.dict es ep→H b=none:=fun {b o es ep} e d=>by
   cases q:H b with
   | none=>rfl
   | some u =>
    have e':b=a:=hA b (by rw [q];simp)
    subst e'
    rw [ha] at e;cases e
    have d':Data.seq vs.toArray _=Data.dict es ep:=d
    cases d'
  have nsK:∀ {b:Addr} {m:Str→Option Value},s₁.heap.Ns b m→(hidT s₁.heap H).Ns b m:=fun {b m} ⟨o,es,ep,e,d,r⟩=>⟨o,es,ep,base_of e (noA e d),d,r⟩
  have hKb:K.In (hidT s₁.heap H):=fun b o e=>base_of (KX b o e) (by
   cases q:H b with
   | none=>rfl
   | some u =>
    have e':b=a:=hA b (by rw [q];simp)
    subst e'
    rw [hK (by rw [q];simp)] at e;cases e)
  have hM:Mod K mg (hidT s₁.heap H):=⟨hKb,nsK hns,⟨mb,nsK hb,hbb⟩,let ⟨mc,h1,h2⟩:=hlim;⟨mc,nsK h1,h2⟩⟩
  have e0:Env0 P w K mg (hidT s₁.heap H) callerA [] s₁ H:=⟨rfl,hM,fun b o e=>xg e,Nat.le_of_eq (uP _ _),trivial,fun b hb=>absurd (show b∈([]:List Addr) from hb) (by simp),hok,.of_eq hg⟩
  refine codeAny_mono ((F _ hKb (nsK hns)).run callerA [] s₁ H ⟨[.ref a],[]⟩ [.ref a] [.ref a] _ _ hr e0 (hbind s₁ (.ref a)) (.cons rfl .nil) (hsp H hO hS)) fun r s' h=>?_
  cases r with
  | error e=>exact (hCX H e s' h).elim
  | ok fl =>
   cases fl with
   | next=>exact False.elim h
   | brk=>exact False.elim h
   | cont=>exact False.elim h
   | ret u =>
    obtain ⟨v,H',os,bare,un,hok',r',q⟩:=h
    have q':v=.bl true:=q
    subst q'
    obtain rfl:u=Value.bool true:=r'
    refine ⟨rfl,OldK.of_keep fun b o e=>?_,os,bare⟩
    cases q:H b with
    | none=>exact un.keep b o e q (by intro z;exact absurd (show b∈([]:List Addr) from z) (by simp)) (by simp)
    | some u =>
     rcases hO b with z|⟨ob,xs,z⟩
     ·rw [q] at z;cases z
     ·have z2:=un.frzs b ob _ z
      obtain ⟨e1,_⟩:=hok b _ z
      obtain ⟨e2,_⟩:=hok' b _ z2
      rw [e] at e1;cases e1
      exact e2
 cases hk:K.lookup a with
 | some o =>
  -- the script is one of the module's own objects
  have e:=KX a o hk
  rw [ha] at e
  cases e
  refine core (fun _=>none) (fun _=>.inl rfl) (.inr ⟨_,vs.toArray,_,hk,rfl,rfl,rfl,by rw [List.size_toArray,lenV];exact hl,by simpa using rv⟩) (fun b u z=>by have z':(none:Option HO)=some u:=z;cases z') (fun b z=>absurd rfl z) fun z=>absurd rfl z
 | none =>
  refine core (fun b=>if b=a then some (.frz { cls:=.type "list",data:=.seq vs.toArray } (.lst (ns.map V.int))) else none) (fun b=>?_) (.inl (.inr ⟨{ cls:=.type "list",data:=.seq vs.toArray },if_pos rfl⟩)) (fun b u z=>?_) (fun b z=>?_) fun _=>hk
  ·by_cases hb:b=a
   ·exact .inr ⟨_,_,if_pos hb⟩
   ·exact .inl (if_neg hb)
  ·by_cases hb:b=a
   ·have z':=(if_pos hb).symm.trans z
    cases z'
    subst hb
    exact ⟨ha,by rw [List.length_map];exact hl,vs,_,rv,ha⟩
   ·have z':=(if_neg hb).symm.trans z
    cases z'
  ·by_cases hb:b=a
   ·exact hb
   ·exact absurd (if_neg hb) z
theorem x0 {l:PySem.W.OpenLaw} {n k:Nat} {q:Program} {loose:List Str} {XP:(Str→Option Value)→Heap→Prop} {YP:World→Heap→Prop} {d:DefRec} {K:Params→PySem.W.Frag} {CX:World→CXT} {sp:World→Sp} {x:Str}
  (hn:l.most=some n) (hn2:n≤sizeLine) (hdf:d.params.defaults=[]) (hr:Room k callerA)
  (hY:∀ (w:World) (h:Heap),YP w h→(K w.params).In h)
  (F:∀ (w:World) (mg:Str→Option Value) (fa:Addr) (h:Heap),(K w.params).In h→h.Ns mainGlobals mg→mg d.name=some (.ref fa) →
   ∃ fd:FuncData,(∀ (s:Shared) (u:Value),BindsTo s fd ⟨[u],[]⟩ [(x,u)]) ∧
    ∀ base:Heap,(K w.params).In base→base.Ns mainGlobals mg→FnOk l.prog w (K w.params) mg base (CX w) k fa fd [x] (sp w))
  (hsp:∀ (w:World) (H:Hp) (a:Addr) (ns:List Int),ns.length≤n→Only H→SqL (K w.params) H a (ns.map V.int)→sp w [.ref a] H (fun v _=>v=.bl true) fun _ _ _=>False)
  (hCX:∀ (w:World) (H:Hp) (s:Shared) (e:Value) (s':Shared),CX w [] H s (fun _ _ _=>False) e s'→False) :
  PySem.W.WalkO q loose XP YP l.row.toRowW d [] (fun f vs=>PySem.call f vs):=by
 refine Att.oV hn hdf fun w s₀ s₁ mg mb fa o pm cd doc a vs ns G Y ho hd hcd hmg hobj hints hlen hg=>?_
 have KX:=hY w _ Y
 obtain ⟨fd,hb,hF⟩:=F w mg fa _ KX G.T.g hmg
 exact vG KX G.T.g G.T.b G.T.builtins G.T.nolimit hg hobj hints (Nat.le_trans hlen hn2) hr hF hb (fun H hO hS=>hsp w H a ns hlen hO hS) fun H e s'=>hCX w H s₁ e s'
def fN (s:Stmt):Arguments:=match s with
 | .FunctionDef _ a _ _ _ _ _ _ _ _=>a
 | _=>{ posonlyargs:=[],args:=[],vararg:=none,kwonlyargs:=[],kw_defaults:=[],kwarg:=none,defaults:=[] }
def c8 (s:Stmt):List Stmt:=match s with
 | .FunctionDef _ _ b _ _ _ _ _ _ _=>b
 | _=>[]
def ap (s:Stmt):Scope:=match s with
 | .FunctionDef _ _ _ _ _ _ sc _ _ _=>sc
 | _=>{ kind:=.function,names:=[],isGenerator:=false,isCoroutine:=false }
abbrev CX0:CXT:=fun _ _ _ _ _ _=>False
abbrev E0:XK:=fun _ _ _=>False
theorem pass0 {X:Cx}:Passes CX0 X E0:=fun _ _ _ _ _ _ _ h=>h.elim
structure Fun (K:PySem.W.Frag) (x qual:Str) (st:Stmt) (f:Addr) (fd:FuncData):Prop where
 ex:∃ (oc:Value) (od:Option Addr) (kV doc pm:Value) (an:Option Addr) (cdv ct:Value) (osl:Array (Option Value)),
  fd=PySem.W.fnOf x qual (fN st) (c8 st) (ap st) .none kV doc pm an cdv ct∧K.lookup f=some ⟨oc,od,.func fd,osl⟩∧PySem.W.codeIn K cdv qual=true
 kp:PySem.W.keepIn K (.ref f)=true
section
variable {P:Program} {w:World} {K:PySem.W.Frag} {mg:Str→Option Value} {base:Heap}
theorem Fun.ok {x qual:Str} {st:Stmt} {f:Addr} {fd:FuncData} {N ps:List Str} {k:Nat} {sp:Sp} (F:Fun K x qual st f fd) (S:FnScope N ps (ap st)) (len:∀ vs H Q E,sp vs H Q E→vs.length=ps.length)
  (hbody:∀ (cdv:Value) (A:Around) (outer:List Env) (s:Shared) (H:Hp) (vs:List V) (Q:VK) (E:XK),Room k (A.deeper (envOfC qual (ap st) s.heap.objs.size f cdv))→sp vs H Q E →
   ∃ t,PSs (cxOf CX0 P w K mg base N qual (ap st) f cdv A outer s H E).nox (c8 st) t∧t { nx:=fun _ H'=>Q .non H',rt:=Q } (start N vs) H):FnOk P w K mg base CX0 (k+1) f fd ps sp:=by
 obtain ⟨oc,od,kV,doc,pm,an,cdv,ct,osl,rfl,lk,hcd⟩:=F.ex
 refine B6 lk hcd S len fun A outer s H vs Q E hr hsp=>?_
 obtain ⟨t,h,q⟩:=hbody cdv A outer s H vs Q E hr hsp
 exact ⟨t,h.nox,q⟩
theorem Fun.binds {x qual:Str} {st:Stmt} {f:Addr} {fd:FuncData} {ps:List Str} (F:Fun K x qual st f fd)
  (h:∀ (kV doc pm:Value) (an:Option Addr) (cdv ct:Value) (us:List Value),us.length=ps.length→bindArgs (PySem.W.fnOf x qual (fN st) (c8 st) (ap st) .none kV doc pm an cdv ct) ⟨us,[]⟩=pure (ps.zip us)):Binds K fd ps []:=by
 obtain ⟨oc,od,kV,doc,pm,an,cdv,ct,osl,rfl,lk,hcd⟩:=F.ex
 exact .all (h kV doc pm an cdv ct)
theorem zH {x qual:Str} {st:Stmt} {f:Addr} {oc:Value} {od an:Option Addr} {osl:Array (Option Value)} {kV doc pm cdv ct:Value} (l:K.lookup f=some ⟨oc,od,.func (PySem.W.fnOf x qual (fN st) (c8 st) (ap st) .none kV doc pm an cdv ct),osl⟩)
  (c:PySem.W.codeIn K cdv qual=true) (k:PySem.W.keepIn K (.ref f)=true):Fun K x qual st f (PySem.W.fnOf x qual (fN st) (c8 st) (ap st) .none kV doc pm an cdv ct):=⟨⟨oc,od,kV,doc,pm,an,cdv,ct,osl,rfl,l,c⟩,k⟩
end
def Same (H H':Hp):Prop:=∀ b o,H b=some o→H' b=some o
theorem Same.refl (H:Hp):Same H H:=fun _ _ h=>h
theorem Same.trans {H H1 H2:Hp} (a:Same H H1) (b:Same H1 H2):Same H H2:=fun c o h=>b c o (a c o h)
theorem Same.free {H H':Hp} (e:Same H H') {l:Addr} (h:H' l=Option.none):H l=Option.none:=by
 cases q:H l with
 | none=>rfl
 | some o =>
  rw [e l o q] at h
  cases h
theorem Same.seq {K:PySem.W.Frag} {H H':Hp} {a:Addr} {xs:List V} (e:Same H H') (h:SqL K H a xs):SqL K H' a xs:=by
 rcases h with (h|⟨o,h⟩)|h
 ·exact .inl (.inl (e _ _ h))
 ·exact .inl (.inr ⟨o,e _ _ h⟩)
 ·exact .inr h
end L2
namespace L2
open PySem PySem.W PySem.W.X PySem.W.ZRun
theorem walkX {q:Program} {loose:List Str} {XP:(Str→Option Value)→Heap→Prop} {K:Params→Frag} {as:List Addr} {n t:Nat} {r:RowW} {d:DefRec} {kwd:List (Str×Expr)} {run:Value→List Value→Sem Value}
  (e:∀ P,as=(K P).map (·.1)) (h:WalkO q loose XP (fun w h=>(K w.params).In h) r d kwd run):WalkX q loose XP (obsZ as) (valZ K n t) r d kwd run :=
 fun w s₀ s₁ mg mb G y a o pm cd doc dV kV h1 h2 h3 h4 h5 h6 args vals as L hp hl hr hw hs =>
  h w s₀ s₁ mg mb G (InK.keeps w s₀.heap s₁.heap (z_facts e y).2.1 L.keeps) a o pm cd doc dV kV h1 h2 h3 h4 h5 h6 args vals as hp hl hr hw hs
theorem ln1 {α:Type} {P:List α→Prop} (h:∀ a,P [a]):∀ us:List α,us.length=1→P us:=fun us e=>by
 obtain ⟨a,rfl⟩:=List.length_eq_one_iff.mp e;exact h a
theorem lnS {α:Type} {P:List α→Prop} {n:Nat} (h:∀ a us,us.length=n→P (a::us)):∀ us:List α,us.length=n+1→P us:=fun us e=>by
 cases us with
 | nil=>cases e
 | cons a us=>exact h a us (Nat.succ.inj e)
theorem ln2 {α:Type} {P:List α→Prop} (h:∀ a b,P [a,b]):∀ us:List α,us.length=2→P us:=lnS fun a=>ln1 fun b=>h a b
theorem ln3 {α:Type} {P:List α→Prop} (h:∀ a b c,P [a,b,c]):∀ us:List α,us.length=3→P us:=lnS fun a=>ln2 fun b c=>h a b c
theorem ln4 {α:Type} {P:List α→Prop} (h:∀ a b c d,P [a,b,c,d]):∀ us:List α,us.length=4→P us:=lnS fun a=>ln3 fun b c d=>h a b c d
end L2
namespace L2
open PySem PySem.Spec PyProof.Rows
def clGo (cells:List (Str×Addr)):List (Str×NameKind)→List (Str×Addr)→List (Str×Addr)
 | [],acc=>acc
 | (n,k)::r,acc=>if k=.free then clGo cells r ((n,(cells.lookup n).getD 0)::acc) else clGo cells r acc
theorem gk {scope:Scope} {env:Env} (h:∀ y∈scope.names,y.2=.free→∃ c,env.cells.lookup y.1=some c):closureFor scope env=pure (clGo env.cells scope.names []):=by
 simp only [closureFor]
 generalize ([]:List (Str×Addr))=acc
 revert h
 generalize scope.names=names
 intro h
 induction names generalizing acc with
 | nil=>rfl
 | cons y r ih =>
  obtain ⟨n,k⟩:=y
  have ih':=fun acc=>ih acc fun z hz=>h z (List.mem_cons_of_mem _ hz)
  by_cases hk:k=.free
  ·subst hk
   obtain ⟨c,hc⟩:=h (n,.free) List.mem_cons_self rfl
   have hc:env.cells.lookup n=some c:=hc
   have e1:cellOf env n=pure c:=by unfold cellOf;rw [hc]
   have e2:clGo env.cells ((n,.free)::r) acc=clGo env.cells r ((n,c)::acc):=by
    show (if NameKind.free=.free then _ else _)=_
    rw [if_pos rfl,hc];rfl
   rw [e2,← ih' ((n,c)::acc),List.forIn_cons]
   simp only [beq_self_eq_true,if_true,e1]
   rfl
  ·have hb:(k==NameKind.free)=false:=by simpa using hk
   have e2:clGo env.cells ((n,k)::r) acc=clGo env.cells r acc:=by
    show (if k=.free then _ else _)=_
    rw [if_neg hk]
   rw [e2,← ih' acc,List.forIn_cons]
   simp only [hb,Bool.false_eq_true,if_false]
   rfl
theorem oW {cells:List (Str×Addr)} {x:Str} {c:Addr}:∀ (names:List (Str×NameKind)) (acc:List (Str×Addr)),(∀ y∈names,y.2=.free→∃ c,cells.lookup y.1=some c) →
  (clGo cells names acc).lookup x=some c→cells.lookup x=some c∨acc.lookup x=some c
 | [],acc,_,e=>.inr e
 | (n,k)::r,acc,h,e=>by
  have hr:∀ y∈r,y.2=.free→∃ c,cells.lookup y.1=some c:=fun y hy=>h y (List.mem_cons_of_mem _ hy)
  by_cases hk:k=.free
  ·subst hk
   have e2:clGo cells ((n,.free)::r) acc=clGo cells r ((n,(cells.lookup n).getD 0)::acc):=by
    show (if NameKind.free=.free then _ else _)=_
    rw [if_pos rfl]
   rw [e2] at e
   rcases oW r _ hr e with z|z
   ·exact .inl z
   ·rw [List.lookup_cons] at z
    cases hx:x==n with
    | true =>
     rw [hx] at z
     have hxn:x=n:=eq_of_beq hx
     obtain ⟨c',hc⟩:=h (n,.free) List.mem_cons_self rfl
     have hc:cells.lookup n=some c':=hc
     rw [hc] at z
     left
     rw [hxn,hc]
     exact z
    | false =>
     rw [hx] at z
     exact .inr z
  ·have e2:clGo cells ((n,k)::r) acc=clGo cells r acc:=by
    show (if k=.free then _ else _)=_
    rw [if_neg hk]
   rw [e2] at e
   exact oW r acc hr e
theorem jU {cells:List (Str×Addr)} {x:Str}:∀ (names:List (Str×NameKind)) (acc:List (Str×Addr)),((x,NameKind.free)∈names∨∃ c,acc.lookup x=some c)→∃ c,(clGo cells names acc).lookup x=some c
 | [],acc,h=>by
  rcases h with h|h
  ·cases h
  ·exact h
 | (n,k)::r,acc,h=>by
  by_cases hk:k=.free
  ·subst hk
   have e2:clGo cells ((n,.free)::r) acc=clGo cells r ((n,(cells.lookup n).getD 0)::acc):=by
    show (if NameKind.free=.free then _ else _)=_
    rw [if_pos rfl]
   rw [e2]
   refine jU r _ ?_
   rcases h with h|⟨c,h⟩
   ·rcases List.mem_cons.mp h with h|h
    ·cases h
     exact .inr ⟨_,by rw [List.lookup_cons,beq_self_eq_true]⟩
    ·exact .inl h
   ·right
    rw [List.lookup_cons]
    cases x==n with
    | true=>exact ⟨_,rfl⟩
    | false=>exact ⟨c,h⟩
  ·have e2:clGo cells ((n,k)::r) acc=clGo cells r acc:=by
    show (if k=.free then _ else _)=_
    rw [if_neg hk]
   rw [e2]
   refine jU r acc ?_
   rcases h with h|h
   ·rcases List.mem_cons.mp h with h|h
    ·cases h
     exact absurd rfl hk
    ·exact .inl h
   ·exact .inr h
structure Bk where
 cl:List (Str×Addr)
 C:Addr
 s:Shared
 H:Hp
 fp:List Addr
 pins:List (Addr×Obj)
def blk (X:Cx) (N:List Str) (scope:Scope) (b:Bk):Cx :=
 { X with tn:=0,N:=N,s₀:=b.s,H₀:=b.H,env:=compEnvC scope b.cl b.C X.env,outer:=X.stack,stack:=X.stack,ex:=b.fp,fn:=fun _=>false,pn:=X.pn++b.pins,xe:=fun _ _=>False }
def capOk (ON:List Str) (names:List (Str×NameKind)):List (Option Nat)→List Str→Bool
 | [],[]=>true
 | none::r,_::n=>capOk ON names r n
 | some j::r,x::n=>decide (ON[j]?=some x)&&decide ((x,NameKind.free)∈names)&&capOk ON names r n
 | _,_=>false
def csOk (osc:Scope) (ON N:List Str) (ix:List (Option Nat)) (scope:Scope):Bool :=
 decide (scope.kind=.function)&&(scope.names.all fun y=>decide (y.2≠.cell))&&(scope.names.all fun y=>decide (y.2=.local→scope.names.lookup y.1=some .local)) &&
 (scope.names.all fun y=>decide (y.2=.free→osc.names.lookup y.1=some .cell∨osc.names.lookup y.1=some .free))&&(scope.names.all fun y=>decide (y.2=.local→(y.1,NameKind.free)∉scope.names))&&capOk ON scope.names ix N
structure CScope (osc:Scope) (ON N:List Str) (ix:List (Option Nat)) (scope:Scope):Prop where
 kind:scope.kind=.function
 nocell:∀ y∈scope.names,y.2≠.cell
 names:∀ y∈scope.names,y.2=.local→scope.names.lookup y.1=some .local
 outs:∀ y∈scope.names,y.2=.free→osc.names.lookup y.1=some .cell∨osc.names.lookup y.1=some .free
 nolf:∀ x,(x,NameKind.local)∈scope.names→(x,NameKind.free)∈scope.names→False
 len:ix.length=N.length
 cap:∀ (i j:Nat) (x:Str),ix[i]?=some (some j)→N[i]?=some x→ON[j]?=some x∧(x,NameKind.free)∈scope.names
theorem kL {ON:List Str} {names:List (Str×NameKind)}:∀ {ix:List (Option Nat)} {N:List Str},capOk ON names ix N=true→ix.length=N.length
 | [],[],_=>rfl
 | none::r,_::n,h=>congrArg Nat.succ (kL (ix:=r) (N:=n) h)
 | some j::r,x::n,h=>by
  have h':(decide (ON[j]?=some x)&&decide ((x,NameKind.free)∈names)&&capOk ON names r n)=true:=h
  rw [Bool.and_eq_true] at h'
  exact congrArg Nat.succ (kL h'.2)
 | [],_::_,h=>by cases h
 | none::_,[],h=>by cases h
 | some _::_,[],h=>by cases h
theorem lc {ON:List Str} {names:List (Str×NameKind)}:∀ {ix:List (Option Nat)} {N:List Str},capOk ON names ix N=true→∀ (i j:Nat) (x:Str),ix[i]?=some (some j)→N[i]?=some x→ON[j]?=some x∧(x,NameKind.free)∈names
 | [],_,_,i,j,x,h1,_=>by simp at h1
 | none::r,y::n,h,0,j,x,h1,_=>by simp at h1
 | none::r,y::n,h,i+1,j,x,h1,h2=>lc (ix:=r) (N:=n) h i j x (by simpa using h1) (by simpa using h2)
 | some k::r,y::n,h,i,j,x,h1,h2=>by
  have h':(decide (ON[k]?=some y)&&decide ((y,NameKind.free)∈names)&&capOk ON names r n)=true:=h
  rw [Bool.and_eq_true,Bool.and_eq_true] at h'
  cases i with
  | zero =>
   simp only [List.getElem?_cons_zero,Option.some.injEq] at h1 h2
   subst h1 h2
   exact ⟨of_decide_eq_true h'.1.1,of_decide_eq_true h'.1.2⟩
  | succ i=>exact lc h'.2 i j x (by simpa using h1) (by simpa using h2)
 | none::_,[],h,_,_,_,_,_=>by cases h
 | some _::_,[],h,_,_,_,_,_=>by cases h
theorem Ah {osc:Scope} {ON N:List Str} {ix:List (Option Nat)} {scope:Scope} (h:csOk osc ON N ix scope=true):CScope osc ON N ix scope:=by
 unfold csOk at h
 simp only [Bool.and_eq_true] at h
 obtain ⟨⟨⟨⟨⟨h1,h2⟩,h3⟩,h4⟩,h5⟩,h6⟩:=h
 exact ⟨of_decide_eq_true h1,fun y hy=>of_decide_eq_true (List.all_eq_true.mp h2 y hy),fun y hy=>of_decide_eq_true (List.all_eq_true.mp h3 y hy),fun y hy=>of_decide_eq_true (List.all_eq_true.mp h4 y hy),
  fun x hx hf=>of_decide_eq_true (List.all_eq_true.mp h5 (x,.local) hx) rfl hf,kL h6,lc h6⟩
def capt (ix:List (Option Nat)) (σ:St):St:=ix.map fun o=>o.bind fun j=>(σ[j]?).getD none
theorem cG {env:Env}:∀ {names:List (Str×NameKind)} {x:Str} {k:NameKind},(names.map fun (n,k)=>if (k==NameKind.free&&env.scope.kind==.function&&env.kindOf n==some .cell) then (n,NameKind.cell) else (n,k)).lookup x=some k →
  names.lookup x=some k∨(k=.cell∧names.lookup x=some .free∧env.kindOf x=some .cell)
 | [],_,_,h=>by cases h
 | (n,k')::r,x,k,h=>by
  have ih:=@cG env r x k
  have h:List.lookup x ((if (k'==NameKind.free&&env.scope.kind==.function&&env.kindOf n==some .cell)=true then (n,NameKind.cell) else (n,k'))::_)=some k:=h
  by_cases hc:(k'==NameKind.free&&env.scope.kind==.function&&env.kindOf n==some .cell)=true
  ·rw [if_pos hc] at h
   rw [List.lookup_cons] at h
   rw [List.lookup_cons]
   cases hx:x==n with
   | true =>
    rw [hx] at h
    cases h
    have hxn:x=n:=eq_of_beq hx
    simp only [Bool.and_eq_true,beq_iff_eq] at hc
    right
    exact ⟨rfl,by rw [hc.1.1],by rw [hxn];exact hc.2⟩
   | false =>
    rw [hx] at h
    exact ih h
  ·rw [if_neg hc] at h
   rw [List.lookup_cons] at h
   rw [List.lookup_cons]
   cases hx:x==n with
   | true =>
    rw [hx] at h
    cases h
    exact .inl rfl
   | false =>
    rw [hx] at h
    exact ih h
theorem mem_of_lookupK {x:Str} {k:NameKind}:∀ {names:List (Str×NameKind)},names.lookup x=some k→(x,k)∈names:=fun h=>PySem.mem_of_lookup h
theorem xr {X:Cx} {osc:Scope} {ON:List Str} {pins:List (Addr×Obj)} {σ:St} {H:Hp} {s s':Shared} {N:List Str} {ix:List (Option Nat)} {scope:Scope} {fp:List Addr} {h':Heap} {m:Str→Option Value} (I:Inv X pins σ H s) (hE:X.env.scope=osc) (hO:X.N=ON) (S:CScope osc ON N ix scope)
  (hfp:∀ b∈fp,FpOk X pins H b) (hfo:∀ b∈fp,∃ o,s.heap.get? b=some o) (hn:h'.Ns s.heap.objs.size m) (hk:∀ b o,s.heap.get? b=some o→h'.get? b=some o) (he:s'={ s with heap:=h',toks:=s'.toks }) :
  Inv (blk X N scope ⟨clGo X.env.cells scope.names [],s.heap.objs.size,s,H,fp,pins⟩) [] (capt ix σ) H s':=by
 subst hE hO
 have hcells:∀ y∈scope.names,y.2=.free→∃ c,X.env.cells.lookup y.1=some c:=fun y hy e=>I.ok.has y.1 (S.outs y hy e)
 have clin:∀ x c,(clGo X.env.cells scope.names []).lookup x=some c→X.env.cells.lookup x=some c:=fun x c e=>by
  rcases oW scope.names [] hcells e with z|z
  ·exact z
  ·cases z
 have old:∀ b o,s.heap.get? b=some o→b≠s.heap.objs.size:=fun b o e=>Nat.ne_of_lt (Heap.lt_size e)
 have hkind:∀ x,(compEnvC scope (clGo X.env.cells scope.names []) s.heap.objs.size X.env).kindOf x=some .cell∨(compEnvC scope (clGo X.env.cells scope.names []) s.heap.objs.size X.env).kindOf x=some .free→(x,NameKind.free)∈scope.names:=fun x hx=>by
  rcases hx with hx|hx
  ·rcases cG (env:=X.env) hx with z|⟨_,z,_⟩
   ·exact absurd rfl (S.nocell _ (mem_of_lookupK z))
   ·exact mem_of_lookupK z
  ·rcases cG (env:=X.env) hx with z|⟨z,_⟩
   ·exact mem_of_lookupK z
   ·cases z
 have cellK:∀ x c,X.env.cells.lookup x=some c→∀ v,s.heap.IsCell c v→h'.IsCell c v:=fun x c e v ⟨o,ho,hd⟩=>⟨o,hk c o ho,hd⟩
 rw [he]
 refine ⟨⟨I.ok.mod,S.kind,I.ok.glob,I.ok.blt,Nat.le_refl _,fun x y c h1 h2=>I.ok.inj x y c (clin x c h1) (clin y c h2),fun x hx=>jU _ _ (.inl (hkind x hx)),fun x c z _=>(nomatch z),I.ok.hd,I.ok.frames,.inl rfl,
  fun b hb=>?_,fun b o e=>I.bs b o e,Nat.le_trans I.ok.bsz I.sz,fun b o e hb=>?_,fun b hb hx=>?_,I.stack,fun b hb=>I.stkFree b hb⟩,
  rfl,I.bare,Un.kept hk,⟨m,hn,fun i x v h1 h2 h3=>?_⟩,fun x c e=>?_,I.hok.fresh (Nat.le_refl _),fun x c e=>I.freeC x c (clin x c e),fun p hp=>?_,I.hok.kept hk,?_,Nat.zero_le _⟩
 ·obtain ⟨o,ho⟩:=hfo b hb
  exact ⟨old b o ho,fun x c e=>(hfp b hb).2.2.2.2.1 x c (clin x c e)⟩
 ·rcases (hfp b hb).2.2.2.1 with z|z
  ·exact I.ok.noex b o e z
  ·exact absurd (Nat.lt_of_lt_of_le (Heap.lt_size e) (Nat.le_trans I.ok.bsz z)) (Nat.lt_irrefl _)
 ·rcases List.mem_cons.mp (I.stkSub b hx) with z|z
  ·exact (hfp b hb).2.1 z
  ·exact (hfp b hb).2.2.1 z
 ·-- a captured name
  have h2':(capt ix σ)[i]?=some (some v):=h2
  unfold capt at h2'
  rw [List.getElem?_map] at h2'
  cases e:ix[i]? with
  | none=>rw [e] at h2';cases h2'
  | some o =>
   rw [e] at h2'
   cases o with
   | none=>cases h2'
   | some j =>
    obtain ⟨c1,c2⟩:=S.cap i j x e h1
    have h2'':(σ[j]?).getD none=some v:=Option.some.inj h2'
    have ej:σ[j]?=some (some v):=by
     cases q:σ[j]? with
     | none=>rw [q] at h2'';cases h2''
     | some w'=>rw [q] at h2'';rw [← h2''];rfl
    have ko:=S.outs _ c2 rfl
    obtain ⟨mX,hnX,hl⟩:=I.loc
    have vis:Vis X.env.scope x:=by
     rcases ko with k|k
     ·exact .inr (.inl k)
     ·exact .inr (.inr k)
    obtain ⟨u,ru,lk⟩:=hl j x v c1 ej vis
    refine ⟨u,ru,.inr ?_⟩
    have hcel:∃ c,X.env.cells.lookup x=some c∧s.heap.IsCell c (some u):=by
     rcases lk with ⟨k,_⟩|⟨_,c,e1,e2⟩
     ·rcases ko with k'|k'
      ·have:X.env.kindOf x=some .cell:=k'
       rw [k] at this;cases this
      ·have:X.env.kindOf x=some .free:=k'
       rw [k] at this;cases this
     ·exact ⟨c,e1,e2⟩
    obtain ⟨c,e1,e2⟩:=hcel
    obtain ⟨c',e3⟩:=jU (cells:=X.env.cells) scope.names [] (.inl c2)
    have e4:=clin x c' e3
    rw [e1] at e4
    cases e4
    refine ⟨?_,c,e3,cellK x c e1 _ e2⟩
    rcases h3 with k|k|k
    ·rcases cG (env:=X.env) k with z|⟨z,_⟩
     ·exact (S.nolf x (mem_of_lookupK z) c2).elim
     ·cases z
    ·exact .inl k
    ·exact .inr k
 ·obtain ⟨v,z⟩:=I.cell x c (clin x c e)
  exact ⟨v,cellK x c (clin x c e) v z⟩
 ·have hp':p∈X.pn++pins:=by
   rcases List.mem_append.mp hp with z|z
   ·exact z
   ·cases z
  obtain ⟨e,n,ne,nf,d⟩:=I.pin p hp'
  refine ⟨hk _ _ e,n,old _ _ e,fun z=>?_,d⟩
  rcases List.mem_cons.mp (I.stkSub _ z) with q|q
  ·exact ne q
  ·exact nf q
 ·show (capt ix σ).length=N.length
  unfold capt
  rw [List.length_map]
  exact S.len
section
variable {prog:Program} {w:World} {A:Around} {R:Result→Shared→Prop} {s:Shared}
theorem nN {elt target iter:Expr} {ifs:List Expr} {scope:Scope} {pos:Pos} {it acc:Value} {env:Env} (I:Nat→Shared→Prop)
  (turn:∀ n s,I n s→wpAny (model prog w) A (pyNext it) (fun r s₁=>match r with
   | none=>R (.ok .next) s₁
   | some v=>wpAny (model prog w) A (letOwnedTupleGo target it v) (fun _ s₁'=>wpAny (model prog w) A (assign target env v) (fun _ s₂ =>
     wpAny (model prog w) A (forIn ifs true fun c r=>if r=true then do let ok ← isTrue c env (eval c env);pure (ForInStep.yield ok) else pure (ForInStep.yield r)) (fun ok s₃ =>
      if ok=true then wpAny (model prog w) A (eval elt env) (fun x s₄ =>
       wpAny (model prog w) A (call (.builtin "list.append") [acc,x]) (fun _ s₅=>∃ m,m < n∧I m s₅) (notedBy (model prog w) A env fun e s'=>R (.error e) s') s₄) (notedBy (model prog w) A env fun e s'=>R (.error e) s') s₃
      else ∃ m,m < n∧I m s₃) (notedBy (model prog w) A env fun e s'=>R (.error e) s') s₂) (notedBy (model prog w) A env fun e s'=>R (.error e) s') s₁') (notedBy (model prog w) A env fun e s'=>R (.error e) s') s₁) (notedBy (model prog w) A env fun e s'=>R (.error e) s') s)
  (n:Nat) (h:I n s) :
  codeAny (model prog w) A (.compLoop (.ListComp elt [⟨target,iter,ifs,0⟩] scope pos) 0 it acc env) R s:=by
 refine codeAny_loop rfl I (fun n s hI=>?_) n h
 show wpAny _ A ((compTurn (.ListComp elt [⟨target,iter,ifs,0⟩] scope pos) 0 it acc env).onRaise (fun x=>do noteFrame x env;theTreesLotGoes x)) _ _ s
 refine wpAny_noted ?_
 rw [compTurn_list]
 refine wpAny_bind (wpAny_standAt (wpAny_bind (wpAny_mono (turn n s hI) (fun r s₁ h₁=>?_) fun _ _ h'=>h')))
 cases r with
 | none=>exact wpAny_pure h₁
 | some v =>
  refine wpAny_bind (wpAny_mono h₁ (fun _ s₁' h₁'=>?_) fun _ _ h'=>h')
  refine wpAny_bind (wpAny_mono h₁' (fun _ s₂ h₂=>wpAny_bind (wpAny_mono h₂ (fun ok s₃ h₃=>?_) fun _ _ h'=>h')) fun _ _ h'=>h')
  cases ok with
  | false=>exact wpAny_pure ⟨rfl,h₃⟩
  | true =>
   exact wpAny_bind (wpAny_bind (wpAny_mono h₃ (fun x s₄ h₄=>wpAny_bind (wpAny_mono h₄ (fun _ s₅ h₅=>wpAny_pure (wpAny_pure ⟨rfl,h₅⟩)) fun _ _ h'=>h')) fun _ _ h'=>h'))
end
def PTs (X:Cx) (ifs:List Expr) (t:TT):Prop :=
 ∀ (pins:List (Addr×Obj)) (s:Shared) (σ:St) (H:Hp) (Q:Bool→Hp→Prop),Inv X pins σ H s→t σ H Q →
  wpAny (model X.prog X.w) X.A (forIn ifs true fun c r=>if r=true then do let ok ← isTrue c X.env (eval c X.env);pure (ForInStep.yield ok) else pure (ForInStep.yield r)) (TP X pins σ Q) X.xe s
def tYes:TT:=fun _ H Q=>Q true H
theorem xV {X:Cx}:PTs X [] tYes:=fun _ _ _ H _ I h=>wpAny_tests_nil ⟨H,I,h⟩
theorem x6 {X:Cx} {c:Expr} {t:TT} (h:PT X c t):PTs X [c] t:=fun pins s σ H Q I q=>wpAny_tests_one (h pins s σ H Q I q)
def compGo (g:TG) (tt:TT) (te:TE) (J:It) (σ0:St) (H1:Hp) (Q:VK):Prop:=∀ acc,H1 acc=none→∃ W:Nat→Nat→St→Hp→Prop,
 (∃ m,W 0 m σ0 (upd H1 acc (.lst [])))∧∀ i m σ' H',W i m σ' H' →
  (J.stop i H'∧Q (.ref acc) H')∨(J.go i H'∧∃ M:St→Hp→Prop,(∀ σ2 H2,M σ2 H2→∃ m',m' < m∧W (i+1) m' σ2 H2)∧∀ x H2,J.yld i H' x H2→g x σ' H2 fun σ3 H3=>tt σ3 H3 fun b H4 =>
   if b=true then te σ3 H4 fun v H5=>∃ xs,H5 acc=some (.lst xs)∧xs.length < sizeLine∧M σ3 (upd H5 acc (.lst (xs++[v]))) else M σ3 H4)
def tComp (ix:List (Option Nat)) (wi:TI) (g:TG) (tt:TT) (te:TE):TE:=fun σ H Q=>wi σ H fun J H1=>compGo g tt te J (capt ix σ) H1 Q
section
variable {X:Cx} {osc:Scope} {ON N:List Str} {ix:List (Option Nat)} {scope:Scope} {tg elt iter:Expr} {ifs:List Expr} {pos:Pos} {wi:TI} {g:TG} {tt:TT} {te:TE}
theorem vV {pins:List (Addr×Obj)} {σ σ':St} {H H':Hp} {s s':Shared} {fp:List Addr} {cl:List (Str×Addr)} (I:Inv X pins σ H s) (hfp:∀ b∈fp,FpOk X pins H b) (J:Inv (blk X N scope ⟨cl,s.heap.objs.size,s,H,fp,pins⟩) [] σ' H' s') (ht:X.tn≤s'.toks) :
  Inv X pins σ H' s'∧(∃ m,s'.heap.Ns s.heap.objs.size m)∧H' s.heap.objs.size=none∧FpOk X pins H' s.heap.objs.size:=by
 have u:Un (frs X.stack) fp H H' s.heap s'.heap:=J.base
 have I1:Inv X pins σ H' s':=I.call' J.os u J.hok J.bare fun b hb=>⟨(hfp b hb).2.2.2.1,(hfp b hb).2.1,(hfp b hb).2.2.2.2.1,(hfp b hb).2.2.2.2.2⟩
 obtain ⟨m,hn,_⟩:=J.loc
 exact ⟨I1,⟨m,hn⟩,J.free,I.fpOk (Nat.le_refl _) J.free⟩
theorem oq {pins:List (Addr×Obj)} {σ:St} {H:Hp} {s:Shared} {it:Addr} {fp:List Addr} {tn:Nat→Heap→Prop} {J:It} {Q:VK} {E:Value→Shared→Prop} {RR:Value→Addr→Result→Shared→Prop}
  (S:CScope osc ON N ix scope) (hE:X.env.scope=osc) (hO:X.N=ON) (hc:X.calm=true) (hg:∀ b,PG (blk X N scope b) tg g) (ht:∀ b,PTs (blk X N scope b) ifs tt) (he:∀ b,PE (blk X N scope b) elt te)
  (I:Inv X pins σ H s) (T:Turn X.prog X.w X.K tg J fp it tn) (st:tn 0 s.heap) (hfp:∀ b∈fp,FpOk X pins H b) (q:compGo g tt te J (capt ix σ) H Q)
  (hRR:∀ (acc C:Addr) (H':Hp) (s':Shared),Inv X pins σ H' s'→(∃ m,s'.heap.Ns C m)→H' C=none→FpOk X pins H' C→Q (.ref acc) H'→RR (.ref acc) C (.ok .next) s') :
  wpAny (model X.prog X.w) X.A (newList []) (fun acc s₃=>wpAny (model X.prog X.w) X.A (newFunctionEnv scope X.env.globals (clGo X.env.cells scope.names []) [] X.env.qual none .none (some X.env)) (fun cenv s₄ =>
   codeAny (model X.prog X.w) X.A (.compStart (.ListComp elt [⟨tg,iter,ifs,0⟩] scope pos) 0 (.ref it) acc { cenv with scope:=relabel scope X.env }) (RR acc cenv.locals) s₄) E s₃) E s:=by
 refine wpAny_newObj_type (wpAny_newFunctionEnv S.nocell (by intro y hy;simp at hy) (fun h₁ hns₁ hsb₁=>?_) S.kind)
 dsimp only at hns₁ hsb₁ ⊢
 -- the list,tracked
 have I3:Inv X pins σ (upd H s.heap.objs.size (.lst [])) { s with heap:=s.heap.push { cls:=.type "list",dict:=none,data:=.seq ([]:List Value).toArray } } :=
  I.laid (t':=s.toks) (fun b o e=>Heap.get?_push_of_some _ e) (Nat.le_refl _) (show ObjOk X.prog X.w _ _ _ (.lst []) from ⟨Nat.zero_le _,[],_,.nil,Heap.get?_push_size _ rfl⟩)
 have hacc:H s.heap.objs.size=none:=I.hok.fresh (Nat.le_refl _)
 have hfo:∀ b∈fp,∃ o,s.heap.get? b=some o:=fun b hb=>let ⟨o,e,_⟩:=T.obj 0 _ st b hb;⟨o,e⟩
 have fne:∀ b∈fp,b≠s.heap.objs.size:=fun b hb=>let ⟨o,e⟩:=hfo b hb;Nat.ne_of_lt (Heap.lt_size e)
 have hfp3:∀ b∈fp,FpOk X pins (upd H s.heap.objs.size (.lst [])) b:=fun b hb=>⟨by rw [a8 (fne b hb)];exact (hfp b hb).1,(hfp b hb).2⟩
 obtain ⟨W,⟨m0,w0⟩,turn⟩:=q s.heap.objs.size hacc
 generalize hH2:s.heap.push { cls:=.type "list",dict:=none,data:=.seq ([]:List Value).toArray }=h2 at *
 have hk1:∀ b o,h2.get? b=some o→h₁.get? b=some o:=fun b o e=>hsb₁.extBut b o (Nat.ne_of_lt (Heap.lt_size e)) (Heap.get?_push_of_some _ e)
 have old:∀ b o,s.heap.get? b=some o→h2.get? b=some o:=fun b o e=>by rw [← hH2];exact Heap.get?_push_of_some _ e
 have fin:∀ s₄:Shared,s₄={ s with heap:=h₁,toks:=s₄.toks }→X.tn≤s₄.toks→codeAny (model X.prog X.w) X.A (.compLoop (.ListComp elt [⟨tg,iter,ifs,0⟩] scope pos) 0 (.ref it) (.ref s.heap.objs.size) (compEnvC scope (clGo X.env.cells scope.names []) h2.objs.size X.env))
   (RR (.ref s.heap.objs.size) h2.objs.size) s₄:=by
  intro s₄ e4 ht4
  refine fH ht4 ?_
  have J0:Inv (blk X N scope ⟨clGo X.env.cells scope.names [],h2.objs.size,{ s with heap:=h2 },upd H s.heap.objs.size (.lst []),fp,pins⟩) [] (capt ix σ) (upd H s.heap.objs.size (.lst [])) s₄ :=
   xr (s:={ s with heap:=h2 }) I3 hE hO S hfp3 (fun b hb=>let ⟨o,e⟩:=hfo b hb;⟨o,old b o e⟩) hns₁ hk1 e4
  generalize hX:blk X N scope ⟨clGo X.env.cells scope.names [],h2.objs.size,{ s with heap:=h2 },upd H s.heap.objs.size (.lst []),fp,pins⟩=Y at J0
  have eE:compEnvC scope (clGo X.env.cells scope.names []) h2.objs.size X.env=Y.env:=by rw [← hX];rfl
  have eP:X.prog=Y.prog:=by rw [← hX];rfl
  have eW:X.w=Y.w:=by rw [← hX];rfl
  have eA:X.A=Y.A:=by rw [← hX];rfl
  have eK:X.K=Y.K:=by rw [← hX];rfl
  have eC:Y.calm=true:=by rw [← hX];exact hc
  have T':Turn Y.prog Y.w Y.K tg J fp it tn:=by rw [← eP,← eW,← eK];exact T
  have st0:tn 0 s₄.heap:=T.keep _ _ _ st fun b hb o e=>by rw [e4];exact hk1 b o (old b o e)
  have fpY:∀ {H':Hp},(∀ b∈fp,H' b=none)→∀ b∈fp,FpOk Y [] H' b:=fun {H'} hn b hb=>by
   rw [← hX]
   have f:=hfp b hb
   refine ⟨hn b hb,?_,?_,.inl hb,?_,?_⟩
   ·have:=J0.ok.exf b (by rw [← hX];exact hb)
    rw [← hX] at this
    exact this.1
   ·have:=J0.ok.exfs b (by rw [← hX];exact hb)
    rw [← hX] at this
    exact this
   ·have:=J0.ok.exf b (by rw [← hX];exact hb)
    rw [← hX] at this
    exact this.2
   ·intro p hp
    have hp':p∈X.pn++pins:=by
     rcases List.mem_append.mp hp with z|z
     ·exact z
     ·cases z
    exact f.2.2.2.2.2 p hp'
  have accne:s.heap.objs.size∉fp:=fun z=>fne _ z rfl
  have never:∀ e s',Y.xe e s'→False:=by rw [← hX];exact fun _ _ z=>z
  have hgY:PG Y tg g:=by rw [← hX];exact hg _
  have htY:PTs Y ifs tt:=by rw [← hX];exact ht _
  have heY:PE Y elt te:=by rw [← hX];exact he _
  rw [eE,eP,eW,eA]
  refine nN (fun n s'=>∃ i σ' H',Inv Y [] σ' H' s'∧tn i s'.heap∧(∀ b∈fp,H' b=none)∧W i n σ' H') ?_ m0 ⟨0,capt ix σ,_,J0,st0,fun b hb=>(hfp3 b hb).1,w0⟩
  rintro n s5 ⟨i,σ5,H5,I5,st5,fr5,w5⟩
  rcases turn i n σ5 H5 w5 with ⟨stop,qn⟩|⟨go,M,hM,step⟩
  ·refine thn (T'.done Y rfl rfl rfl eC i [] s5 σ5 H5 _ I5 (fpY fr5) st5 stop) fun r s6 ⟨hr,I6⟩=>?_
   subst hr
   have I6':=I6
   rw [← hX] at I6'
   intro htk
   obtain ⟨a1,a2,a3,a4⟩:=vV (s:={ s with heap:=h2 }) I3 hfp3 I6' htk
   exact hRR _ _ H5 s6 a1 a2 a3 a4 qn
  ·refine thn (T'.item Y rfl rfl rfl eC i [] s5 σ5 H5 _ I5 (fpY fr5) st5 go) fun r s6 ⟨u,hr,h6⟩=>?_
   subst hr
   refine thn h6 fun _ s7 ⟨x,H7,I7,r7,y7,st7,fr7⟩=>?_
   have I7':=I7.pinned (fpY fr7) (T.obj _ _ st7)
   refine wpAny_mono (hgY _ s7 σ5 H7 x u _ I7' r7 (step x H7 y7)) (fun _ s8 ⟨σ8,H8,I8,q8⟩=>?_) fun e s' z=>(never e s' z).elim
   refine wpAny_mono (htY _ s8 σ8 H8 _ I8 q8) (fun ok s9 ⟨H9,I9,q9⟩=>?_) fun e s' z=>(never e s' z).elim
   have again:∀ {σa:St} {Ha:Hp} {sa:Shared},Inv Y ([]++pinsAt fp s7.heap) σa Ha sa→M σa Ha→∃ m,m < n∧∃ i σ' H',Inv Y [] σ' H' sa∧tn i sa.heap∧(∀ b∈fp,H' b=none)∧W i m σ' H':=fun {σa Ha sa} Ia na=>by
    obtain ⟨m',hm,wa⟩:=hM σa Ha na
    refine ⟨m',hm,i+1,σa,Ha,Ia.unpinned,T.keep _ _ _ st7 fun b hb o e=>(Ia.pin (b,o) (List.mem_append_right _ (List.mem_append_right _ (eF hb e)))).1,fun b hb=>?_,wa⟩
    obtain ⟨o,e,d⟩:=T.obj _ _ st7 b hb
    exact (Ia.pin (b,o) (List.mem_append_right _ (List.mem_append_right _ (eF hb e)))).2.1
   cases ok with
   | false =>
    rw [if_neg Bool.false_ne_true] at q9 ⊢
    exact again I9 q9
   | true =>
    rw [if_pos rfl] at q9 ⊢
    refine wpAny_mono (heY _ s9 σ8 H9 _ I9 q9) (fun y sb ⟨vb,Hb,Ib,rb,xs,hx,hz,nb⟩=>?_) fun e s' z=>(never e s' z).elim
    refine wpAny_mono (nW (X:=Y) _ sb σ8 Hb (.ref s.heap.objs.size) [vb] (.ref s.heap.objs.size) [y] (fun v H'=>M σ8 H') Ib rfl (.cons rb .nil) ⟨s.heap.objs.size,xs,vb,rfl,rfl,hx,hz,nb⟩) (fun _ sc ⟨vc,Hc,Ic,rc,nc⟩=>?_) fun e s' z=>(never e s' z).elim
    exact again Ic nc
 exact codeAny_compStart_list (fin _ rfl (by walk_at "tok")) (T.self _ 0 _ _ _ (T.keep _ _ _ st fun b hb o e=>hk1 b o (old b o e)) (fin _ rfl (by walk_at "tok")))
theorem wm (S:CScope osc ON N ix scope) (hE:X.env.scope=osc) (hO:X.N=ON) (hc:X.calm=true) (hi:PI X tg iter wi) (hg:∀ b,PG (blk X N scope b) tg g) (ht:∀ b,PTs (blk X N scope b) ifs tt) (he:∀ b,PE (blk X N scope b) elt te)
  (hs:∀ x,foldedSetIterable iter X.env x=pure x:=by intro _;rfl):PE X (.ListComp elt [⟨tg,iter,ifs,0⟩] scope pos) (tComp ix wi g tt te):=by
 intro pins s σ H Q I h
 rw [eval_ListComp]
 have hcells:∀ y∈scope.names,y.2=.free→∃ c,X.env.cells.lookup y.1=some c:=fun y hy e=>I.ok.has y.1 (by subst hE;exact S.outs y hy e)
 refine wpAny_comprehension_free (use:=none) rfl hs (gk hcells) S.kind S.names (thn (hi pins s σ H _ I h) fun v s1 h1=>thn h1 fun itv s2 h2=>?_)
 obtain ⟨it,fp,tn,J,H2,e,I2,T,st2,f2,q⟩:=h2
 subst e
 refine oq (RR:=fun acc C=>compPost (model X.prog X.w) X.A X.xe none (EP X pins σ Q) acc C) S hE hO hc hg ht he I2 T st2 f2 q fun acc C H' s' I' hn hC fC q'=>?_
 obtain ⟨m,hn⟩:=hn
 refine ⟨m,hn,fun h' sb=>⟨.ref acc,H',?_,rfl,q'⟩⟩
 obtain ⟨f0,f1,f2',f3,f4,f5⟩:=fC
 exact I'.turned (t':=s'.toks) (fun b o hb e=>(sb.2 b hb).trans e) f0 f1 f3 f4 f5
theorem sn {i:Nat} {x:Str} {spos pos':Pos} (hN:X.N.Nodup) (hx:X.N[i]?=some x) (hl:Loc X.env.scope x) (S:CScope osc ON N ix scope) (hE:X.env.scope=osc) (hO:X.N=ON) (hc:X.calm=true) (hi:PI X tg iter wi) (hg:∀ b,PG (blk X N scope b) tg g) (ht:∀ b,PTs (blk X N scope b) ifs tt) (he:∀ b,PE (blk X N scope b) elt te)
  (hsw:swapsWith (.ListComp elt [⟨tg,iter,ifs,0⟩] scope pos) (some (.Name x pos')) spos.line X.env=pure true:=by rfl)
  (hf:X.fn x=true∨X.env.scope.names.lookup x=some .local:=by first|exact .inl rfl|exact .inr rfl|assumption)
  (hs:∀ x,foldedSetIterable iter X.env x=pure x:=by intro _;rfl):PS X (.Assign [.Name x pos'] (.ListComp elt [⟨tg,iter,ifs,0⟩] scope pos) spos) (tAsg (tComp ix wi g tt te) (gName i)):=by
 intro pins s σ H D I h
 rw [exec_Assign_Name_used _ _ _ _ hsw]
 refine wpAny_bind (wpAny_standAt (wpAny_bind ?_))
 have hcells:∀ y∈scope.names,y.2=.free→∃ c,X.env.cells.lookup y.1=some c:=fun y hy e=>I.ok.has y.1 (by subst hE;exact S.outs y hy e)
 show wpAny _ X.A (do let _ ← comprehension (.ListComp elt [⟨tg,iter,ifs,0⟩] scope pos) scope X.env _ (newList []) false (eval iter X.env) (some (assign (.Name x pos') X.env))) _ _ s
 refine wpAny_bind (wpAny_mono (wpAny_comprehension_free (use:=some (assign (.Name x pos') X.env)) (Q:=fun _ s'=>SP X pins D .next s') rfl hs (gk hcells) S.kind S.names
  (thn (hi pins s σ H _ I h) fun v s1 h1=>thn h1 fun itv s2 h2=>?_)) (fun _ s' hq=>wpAny_pure (wpAny_pure hq)) fun _ _ e=>e)
 obtain ⟨it,fp,tn,J,H2,e,I2,T,st2,f2,q⟩:=h2
 subst e
 refine oq (RR:=fun acc C=>compPost (model X.prog X.w) X.A X.xe (some (assign (.Name x pos') X.env)) (fun _ s'=>SP X pins D .next s') acc C) S hE hO hc hg ht he I2 T st2 f2 q fun acc C H' s' I' hn hC fC q'=>?_
 obtain ⟨m,hn⟩:=hn
 have hob:∃ o,s'.heap.get? C=some o∧∀ v,o.data≠.cell v:=by
  obtain ⟨o,es,ep,ho,hd,_⟩:=hn
  exact ⟨o,ho,fun v z=>by rw [hd] at z;cases z⟩
 have only:∀ b∈[C],b=C:=fun b hb=>by simpa using hb
 have I1:=I'.pinned (fp:=[C]) (fun b hb=>(only b hb) ▸ fC) (fun b hb=>(only b hb) ▸ hob)
 refine wpAny_mono (sT (pos:=pos') hN hx hl hf (pins++pinsAt [C] s'.heap) s' σ H' (.ref acc) (.ref acc) D.nx I1 rfl q') (fun _ s'' ⟨σ2,H2,I2',q2⟩=>?_) fun _ _ z=>z
 obtain ⟨o,ho,hd⟩:=hob
 have pn:=I2'.pin (C,o) (List.mem_append_right _ (List.mem_append_right _ (eF (by simp) ho)))
 refine ⟨m,hn.at' fun o' e=>by rw [ho] at e;cases e;exact pn.1,fun h' sb=>⟨σ2,H2,?_,q2⟩⟩
 obtain ⟨f0,f1,f2',f3,f4,f5⟩:=fC
 exact I2'.unpinned.turned (t':=s''.toks) (fun b o hb e=>(sb.2 b hb).trans e) pn.2.1 f1 f3 f4 f5
end
theorem lM {P:Program} {w:World} {K:PySem.W.Frag} {tg:Expr} {it:Addr} {n:Nat} {St:Nat→Heap→Prop} {Pv:Nat→Value→Prop} {J:It} (W:∀ A:Around,A.handled=none→Walks P w A it [it] [it] n Pv St)
  (ob:∀ i h,St i h→∃ (o:Obj) (nm:String) (vs:Array Value),h.get? it=some o∧o.cls=.type nm∧o.data=.fields vs∧["enumerate","zip","dict_itemiterator","dict_reverseitemiterator","odict_iterator","itertools.zip_longest","itertools.pairwise"].contains nm=false)
  (go:∀ i H,J.go i H→i < n) (yl:∀ i H u,J.go i H→Pv i u→∃ x,RelV x u∧J.yld i H x H) (dn:∀ i h H,J.stop i H→St i h→St n h)
  (self:∀ (A:Around) (i:Nat) (s:Shared) (Q:Value→Shared→Prop) (E:Value→Shared→Prop),St i s.heap→Q (.ref it) s→wpAny (model P w) A (pyIter (.ref it)) Q E s):Turn P w K tg J [it] it St where
 mem:=by simp
 obj:=fun i h st b hb=>by
  have e:b=it:=by simpa using hb
  subst e
  obtain ⟨o,nm,vs,h1,h2,h3,h4⟩:=ob i h st
  exact ⟨o,h1,fun v z=>by rw [h3] at z;cases z⟩
 keep:=fun i h h' st k=>(W {} rfl).frame i h h' st fun b hb o e=>k b hb o e
 item:=by
  intro X hP hw hK hc i pins s σ H E I hf st hg
  subst hP hw hK
  obtain ⟨f0,f1,f2,f3,f4,f5⟩:=hf it (by simp)
  refine bj I.tk ((W X.A (I.ok.hd hc)).item i s _ _ (go i H hg) st fun v h' tk hv st' kk htk=>?_)
  have I1:Inv X pins σ H { s with heap:=h',toks:=tk }:=I.turned (fun b o hb e=>kk b o (by simpa using hb) e) f0 f1 f3 f4 f5
  obtain ⟨x,rx,yx⟩:=yl i H v hg hv
  obtain ⟨o,nm,vs,h1,h2,h3,h4⟩:=ob (i+1) h' st'
  exact ⟨v,rfl,v9 (s:={ s with heap:=h',toks:=tk }) h1 h2 h3 h4 ⟨x,H,I1,rx,yx,st',fun b hb=>(hf b hb).1⟩⟩
 done:=by
  intro X hP hw hK hc i pins s σ H E I hf st hg
  subst hP hw hK
  obtain ⟨f0,f1,f2,f3,f4,f5⟩:=hf it (by simp)
  exact bj I.tk ((W X.A (I.ok.hd hc)).done s _ _ (dn i s.heap H hg st) fun h' tk kk htk=>⟨rfl,I.turned (fun b o hb e=>kk b o (by simpa using hb) e) f0 f1 f3 f4 f5⟩)
 self:=self
def Its (z:Str):It:=⟨fun i _=>i < z.length,fun i H x H'=>H'=H∧∃ c,z.cps[i]?=some c∧x=.str ⟨#[c]⟩,fun i _=>i=z.length⟩
theorem wP {z:Str} {i:Nat} {H:Hp} {u:Value} (h:SignAt z i u):∃ x,RelV x u∧(Its z).yld i H x H:=by
 obtain ⟨c,t,e1,rfl⟩:=h
 exact ⟨.str ⟨#[c]⟩,⟨t,rfl⟩,rfl,c,e1,rfl⟩
theorem rO {P:Program} {w:World} {K:PySem.W.Frag} {tg:Expr} (it:Addr) (z:Str) (t:Tok):Turn P w K tg (Its z) [it] it (fun i h=>h.IsStrIter it "str_ascii_iterator" z t i) :=
 lM (n:=z.cps.size) (Pv:=SignAt z) (fun A hA=>Walks.strAscii hA it z t) (fun i h ⟨o,e,c,d⟩=>⟨o,_,_,e,c,d,by decide⟩) (fun i H h=>h) (fun i H u _ h=>wP h) (fun i h H e st=>by
  have e':i=z.cps.size:=e
  rw [← e'];exact st) fun A i s Q E st h=>wpAny_pyIter_striter_ascii st h
theorem uy {P:Program} {w:World} {K:PySem.W.Frag} {tg:Expr} (it:Addr) (z:Str) (t:Tok):Turn P w K tg (Its z) [it] it (fun i h=>h.IsStrIter it "str_iterator" z t i) :=
 lM (n:=z.cps.size) (Pv:=SignAt z) (fun A hA=>Walks.strWide hA it z t) (fun i h ⟨o,e,c,d⟩=>⟨o,_,_,e,c,d,by decide⟩) (fun i H h=>h) (fun i H u _ h=>wP h) (fun i h H e st=>by
  have e':i=z.cps.size:=e
  rw [← e'];exact st) fun A i s Q E st h=>wpAny_pyIter_striter_wide st h
theorem yF (bs:List Bool):(List.range bs.length).all (fun i=>(bs[i]?).getD true)=bs.all id:=by
 rw [Bool.eq_iff_iff,List.all_eq_true,List.all_eq_true]
 constructor
 ·intro h b hb
  obtain ⟨i,hi,e⟩:=List.getElem_of_mem hb
  have:=h i (List.mem_range.mpr hi)
  rw [List.getElem?_eq_getElem hi,e] at this
  exact this
 ·intro h i hi
  have hi':=List.mem_range.mp hi
  rw [List.getElem?_eq_getElem hi']
  exact h _ (List.getElem_mem hi')
section
variable {X:Cx}
def uAll (K:PySem.W.Frag) (xs:List V) (H:Hp) (Q:VK):Prop:=match xs with
 | [.ref p]=>∃ bs:List Bool,SqL K H p (bs.map V.bl)∧Q (.bl (bs.all id)) H
 | _=>False
theorem fw (K:PySem.W.Frag) (hc:X.calm=true) (hK:X.K=K:=by rfl):CallR X (.builtin "all") (uAll K):=by
 subst hK
 intro pins s σ H xs us Q I r h
 unfold uAll at h
 split at h
 case h_2=>exact h.elim
 rename_i p
 obtain ⟨bs,hq,q⟩:=h
 obtain ⟨u,rfl,rx⟩:=vals1 r
 cases rx
 obtain ⟨its,rv,pl,hz⟩:=I.list hq
 have hh:X.A.in1.handled=none:=I.ok.hd hc
 refine bj I.tk (call_all_walk (wpAny_pyIter_list pl.isList ?_))
 have hne:p≠s.heap.objs.size:=by
  obtain ⟨o,ho,_⟩:=pl.isList
  exact Nat.ne_of_lt (Heap.lt_size ho)
 refine ⟨s.heap.objs.size,[s.heap.objs.size,p],[s.heap.objs.size],its.toArray.size,_,_,fun i=>(bs[i]?).getD true,rfl,Walks.list hh _ p hne its.toArray,⟨⟨_,Heap.get?_push_size _ rfl,rfl,rfl⟩,Heap.IsList.push pl.isList _⟩,?_,?_⟩
 ·intro i v s' Q' E' hv hQ'
  have hv':its[i]?=some v:=by simpa using hv
  have hi:i < its.length:=(List.getElem?_eq_some_iff.mp hv').1
  have hl:=rv.length
  rw [List.length_map] at hl
  have hb:(bs.map V.bl)[i]?=some (V.bl bs[i]):=by
   rw [List.getElem?_map,List.getElem?_eq_getElem (by omega)]
   rfl
  obtain ⟨u,hu,ru⟩:=rv.get hb
  rw [hv'] at hu
  cases hu
  cases ru
  have hQ2:Q' bs[i] s':=by
   have e:(bs[i]?).getD true=bs[i]:=by rw [List.getElem?_eq_getElem (by omega)];rfl
   rw [← e]
   exact hQ'
  exact wpAny_truthy_bool hQ2
 ·intro h' tk hk
  have I1:Inv X pins σ H { s with heap:=s.heap.push { cls:=.type "list_iterator",data:=.fields #[.ref p,.int 0 0] } }:=I.kept (t':=s.toks) fun b o e=>Heap.get?_push_of_some _ e
  have e1:(List.range its.toArray.size).all (fun i=>(bs[i]?).getD true)=bs.all id:=by
   have hl:=rv.length
   rw [List.length_map] at hl
   rw [List.size_toArray,← hl]
   exact yF bs
  rw [e1]
  obtain ⟨f0,f1,f2,f3,f4,f5⟩:=I.fpOk (b:=s.heap.objs.size) (Nat.le_refl _) (I.hok.fresh (Nat.le_refl _))
  exact fun htk=>⟨.bl (bs.all id),H,I1.turned (fun b o hb e=>hk b o (by simpa using hb) e) f0 f1 f3 f4 f5,rfl,q⟩
end
theorem PE.imp {X:Cx} {e:Expr} {t t':TE} (h:PE X e t) (i:∀ σ H Q,t' σ H Q→t σ H Q):PE X e t':=fun pins s σ H Q I q=>h pins s σ H Q I (i σ H Q q)
theorem OpR.imp {X:Cx} {f:Value→Value→Sem Value} {r r':R2} (h:OpR X f r) (i:∀ x y H Q,r' x y H Q→r x y H Q):OpR X f r':=fun pins s σ H x y v u Q I a b q=>h pins s σ H x y v u Q I a b (i x y H Q q)
theorem UnR.imp {X:Cx} {f:Value→Sem Value} {r r':V→Hp→VK→Prop} (h:UnR X f r) (i:∀ x H Q,r' x H Q→r x H Q):UnR X f r':=fun pins s σ H x v Q I a q=>h pins s σ H x v Q I a (i x H Q q)
theorem CallR.imp {X:Cx} {f:Value} {r r':List V→Hp→VK→Prop} (h:CallR X f r) (i:∀ xs H Q,r' xs H Q→r xs H Q):CallR X f r':=fun pins s σ H xs us Q I a q=>h pins s σ H xs us Q I a (i xs H Q q)
theorem IxR.imp {X:Cx} {r r':R2} (h:IxR X r) (i:∀ x y H Q,r' x y H Q→r x y H Q):IxR X r':=fun value slice pins s σ H x y v u Q I rx ry q hs=>h value slice pins s σ H x y v u Q I rx ry (i x y H Q q) hs
theorem SlR.imp {X:Cx} {r r':V→Option Int→Option Int→Hp→VK→Prop} (h:SlR X r) (i:∀ x l u H Q,r' x l u H Q→r x l u H Q):SlR X r':=fun pins s σ H x v vl vu lo hi sl Q I rx hs pl pu q=>h pins s σ H x v vl vu lo hi sl Q I rx hs pl pu (i x lo hi H Q q)
section
variable {X:Cx} {a b:Expr} {ta tb:TE} {pos:Pos} {rest:List Expr}
def kVar (o:Option (Option V)) (H:Hp) (Q:VK):Prop:=match o with
 | some (some v)=>Q v H
 | _=>False
def uVar (i:Nat):TE:=fun σ H Q=>kVar σ[i]? H Q
theorem qv (i:Nat) {x:Str} {pos:Pos} (hN:X.N[i]?=some x:=by rfl) (hv:Vis X.env.scope x:=by first|exact Or.inl rfl|exact Or.inr (Or.inl rfl)|exact Or.inr (Or.inr rfl)) (hd:(x==("__debug__":Str))=false:=by decide)
  (hcd:(x==("__classdict__":Str))=false:=by decide):PE X (.Name x pos) (uVar i):=(zm hN hv hd hcd).imp fun σ H Q q=>by
 unfold uVar kVar at q
 split at q
 ·rename_i v e
  exact ⟨v,e,q⟩
 ·exact q.elim
def kAnd (tb:TE) (σ:St) (Q:VK):VK:=fun x H1=>match x with
 | .bl c=>if c=true then tb σ H1 Q else Q (.bl false) H1
 | _=>False
def uAnd (ta tb:TE):TE:=fun σ H Q=>ta σ H (kAnd tb σ Q)
def kOr (tb:TE) (σ:St) (Q:VK):VK:=fun x H1=>match x with
 | .bl c=>if c=true then Q (.bl true) H1 else tb σ H1 Q
 | _=>False
def uOr (ta tb:TE):TE:=fun σ H Q=>ta σ H (kOr tb σ Q)
def kNot (Q:VK):VK:=fun x H1=>match x with
 | .bl c=>Q (.bl (!c)) H1
 | _=>False
def uNot (ta:TE):TE:=fun σ H Q=>ta σ H (kNot Q)
theorem zX (ha:PE X a ta) (hb:PE X (.BoolOp .And (b::rest) pos) tb):PE X (.BoolOp .And (a::b::rest) pos) (uAnd ta tb):=by
 intro pins s σ H Q I h
 refine BoolOp_and (thn (ha pins s σ H _ I h) fun v s1 hh=>exF hh fun x H1 I1 r1 q1=>?_)
 cases x with
 | bl c =>
  cases r1
  refine wpAny_truthy_bool ?_
  cases c with
  | true=>exact hb pins s1 σ H1 Q I1 q1
  | false=>exact ⟨.bl false,H1,I1,rfl,q1⟩
 | _=>exact q1.elim
theorem Ca (ha:PE X a ta) (hb:PE X (.BoolOp .Or (b::rest) pos) tb):PE X (.BoolOp .Or (a::b::rest) pos) (uOr ta tb):=by
 intro pins s σ H Q I h
 refine BoolOp_or (thn (ha pins s σ H _ I h) fun v s1 hh=>exF hh fun x H1 I1 r1 q1=>?_)
 cases x with
 | bl c =>
  cases r1
  refine wpAny_truthy_bool ?_
  cases c with
  | false=>exact hb pins s1 σ H1 Q I1 q1
  | true=>exact ⟨.bl true,H1,I1,rfl,q1⟩
 | _=>exact q1.elim
theorem AH (ha:PE X a ta):PE X (.UnaryOp .Not a pos) (uNot ta):=by
 intro pins s σ H Q I h
 refine UnaryOp_ (thn (ha pins s σ H _ I h) fun v s1 hh=>exF hh fun x H1 I1 r1 q1=>?_)
 cases x with
 | bl c =>
  cases r1
  exact not_of (wpAny_truthy_bool ⟨.bl (!c),H1,I1,rfl,q1⟩)
 | _=>exact q1.elim
def kTest (Q:Bool→Hp→Prop):VK:=fun x H'=>match x with
 | .bl k=>Q k H'
 | _=>False
def uTest (t:TE):TT:=fun σ H Q=>t σ H (kTest Q)
theorem yu {op:CmpOp} {r:R2} (ho:OpR X (compareOp op) r) (ha:PE X a ta) (hb:PE X b tb) (hm:behindInMarks op b=false):PT X (.Compare a [op] [b] pos) (uTest (tOp r ta tb)):=by
 intro pins s σ H Q I h
 refine wpAny_isTrue_Compare1 (thn (ha pins s σ H _ I h) fun v s1 hh=>exF hh fun x H1 I1 r1 q1=>thn (hb pins s1 σ H1 _ I1 q1) fun u s2 hh=>exF hh fun y H2 I2 r2 q2 =>
  thn (ho pins s2 σ H2 x y v u _ I2 r1 r2 q2) fun c s3 hh=>exF hh fun z H3 I3 r3 q3=>?_) hm
 cases z with
 | bl k =>
  cases r3
  exact wpAny_truthy_bool ⟨H3,I3,q3⟩
 | _=>exact q3.elim
def kTru (K:PySem.W.Frag) (Q:Bool→Hp→Prop):VK:=fun x H=>match x with
 | .non=>Q false H
 | .bl b=>Q b H
 | .int i=>Q (i != 0) H
 | .str y=>y.length≤sizeLine∧Q ((y.length:Int) != 0) H
 | .ref p=>((∃ xs,SqL K H p xs∧Q (!xs.isEmpty) H)∨(∃ xs,SqT K H p xs∧Q (!xs.isEmpty) H))∨∃ kvs,H p=some (.dK kvs)∧Q (!kvs.isEmpty) H
 | _=>False
def uTruth (K:PySem.W.Frag) (ta:TE):TT:=fun σ H Q=>ta σ H (kTru K Q)
theorem vM (K:PySem.W.Frag) (ha:PE X a ta) (he:∀ whole,isTrue a X.env whole=(do let v ← whole;standAt a.pos;holding [v] (truthy v))) (hK:X.K=K:=by rfl) :
  PT X a (uTruth K ta):=by
 subst hK
 intro pins s σ H Q I h
 refine isTrue_plain (thn (ha pins s σ H _ I h) fun v s1 hh=>exF hh fun x H1 I1 r1 q1=>zd pins s1 σ H1 x v Q I1 r1 ?_) (he _)
 cases x with
 | non=>exact ⟨_,rfl,q1⟩
 | bl b=>exact ⟨_,rfl,q1⟩
 | int i=>exact ⟨_,rfl,q1⟩
 | str y=>exact ⟨_,⟨q1.1,rfl⟩,q1.2⟩
 | ref p =>
  rcases q1 with (⟨xs,h1,h2⟩|⟨xs,h1,h2⟩)|⟨xs,h1,h2⟩
  ·exact ⟨_,.inl ⟨xs,h1,rfl⟩,h2⟩
  ·exact ⟨_,.inr (.inl ⟨xs,h1,rfl⟩),h2⟩
  ·exact ⟨_,.inr (.inr ⟨xs,h1,rfl⟩),h2⟩
 | _=>exact q1.elim
def uSub:R2:=fun x y H Q=>match x,y with
 | .int i,.int j=>Q (.int (i - j)) H
 | _,_=>False
theorem oSub:OpR X (binaryOp .Sub) uSub:=zI.imp fun x y H Q q=>by
 unfold uSub at q
 split at q
 ·exact ⟨_,_,rfl,rfl,q⟩
 ·exact q.elim
def uDiv:R2:=fun x y H Q=>match x,y with
 | .int i,.int j=>CDiv i j∧Q (.int (i/j)) H
 | _,_=>False
theorem oDiv:OpR X (binaryOp .FloorDiv) uDiv:=yD.imp fun x y H Q q=>by
 unfold uDiv at q
 split at q
 ·exact ⟨_,_,rfl,rfl,q.1,q.2⟩
 ·exact q.elim
def uMod:R2:=fun x y H Q=>match x,y with
 | .int i,.int j=>0 < j∧Q (.int (i % j)) H
 | _,_=>False
theorem oMod:OpR X (binaryOp .Mod) uMod:=An.imp fun x y H Q q=>by
 unfold uMod at q
 split at q
 ·exact ⟨_,_,rfl,rfl,q.1,q.2⟩
 ·exact q.elim
def uPow:R2:=fun x y H Q=>match x,y with
 | .int i,.int j=>CPow i j∧Q (.int (i ^ j.toNat)) H
 | _,_=>False
theorem oPow:OpR X (binaryOp .Pow) uPow:=AE.imp fun x y H Q q=>by
 unfold uPow at q
 split at q
 ·exact ⟨_,_,rfl,rfl,q.1,q.2⟩
 ·exact q.elim
def uNeg (x:V) (H:Hp) (Q:VK):Prop:=match x with
 | .int i=>Q (.int (-i)) H
 | _=>False
theorem oNeg:UnR X (unaryOp .USub) uNeg:=zU.imp fun x H Q q=>by
 unfold uNeg at q
 split at q
 ·exact ⟨_,rfl,q⟩
 ·exact q.elim
theorem ua:OpR X (compareOp .LtE) (fun x y H Q=>∃ i j,x=.str i∧y=.str j∧Q (.bl (!decide (j.cps.toList < i.cps.toList))) H):=by
 intro pins s σ H x y v u Q I rx ry h
 obtain ⟨i,j,rfl,rfl,q⟩:=h
 obtain ⟨t,rfl⟩:=rx
 obtain ⟨t',rfl⟩:=ry
 exact P.le_str (aM I q rfl)
theorem uD:OpR X (compareOp .GtE) (fun x y H Q=>∃ i j,x=.str i∧y=.str j∧Q (.bl (!decide (i.cps.toList < j.cps.toList))) H):=by
 intro pins s σ H x y v u Q I rx ry h
 obtain ⟨i,j,rfl,rfl,q⟩:=h
 obtain ⟨t,rfl⟩:=rx
 obtain ⟨t',rfl⟩:=ry
 exact P.ge_str (aM I q rfl)
theorem uU:OpR X (compareOp .Gt) (fun x y H Q=>∃ i j,x=.str i∧y=.str j∧Q (.bl (decide (j.cps.toList < i.cps.toList))) H):=by
 intro pins s σ H x y v u Q I rx ry h
 obtain ⟨i,j,rfl,rfl,q⟩:=h
 obtain ⟨t,rfl⟩:=rx
 obtain ⟨t',rfl⟩:=ry
 exact P.gt_str (aM I q rfl)
def uLt:R2:=fun x y H Q=>match x,y with
 | .int i,.int j=>Q (.bl (decide (i < j))) H
 | .str i,.str j=>Q (.bl (decide (i.cps.toList < j.cps.toList))) H
 | _,_=>False
def uLe:R2:=fun x y H Q=>match x,y with
 | .int i,.int j=>Q (.bl (decide (i≤j))) H
 | .str i,.str j=>Q (.bl (!decide (j.cps.toList < i.cps.toList))) H
 | _,_=>False
def uGt:R2:=fun x y H Q=>match x,y with
 | .int i,.int j=>Q (.bl (decide (j < i))) H
 | .str i,.str j=>Q (.bl (decide (j.cps.toList < i.cps.toList))) H
 | _,_=>False
def uGe:R2:=fun x y H Q=>match x,y with
 | .int i,.int j=>Q (.bl (decide (j≤i))) H
 | .str i,.str j=>Q (.bl (!decide (i.cps.toList < j.cps.toList))) H
 | _,_=>False
theorem oLt:OpR X (compareOp .Lt) uLt:=(BL.or uM).imp fun x y H Q q=>by
 unfold uLt at q
 split at q
 ·exact .inl ⟨_,_,rfl,rfl,q⟩
 ·exact .inr ⟨_,_,rfl,rfl,q⟩
 ·exact q.elim
theorem oLe:OpR X (compareOp .LtE) uLe:=(BH.or ua).imp fun x y H Q q=>by
 unfold uLe at q
 split at q
 ·exact .inl ⟨_,_,rfl,rfl,q⟩
 ·exact .inr ⟨_,_,rfl,rfl,q⟩
 ·exact q.elim
theorem oGt:OpR X (compareOp .Gt) uGt:=(BX.or uU).imp fun x y H Q q=>by
 unfold uGt at q
 split at q
 ·exact .inl ⟨_,_,rfl,rfl,q⟩
 ·exact .inr ⟨_,_,rfl,rfl,q⟩
 ·exact q.elim
theorem oGe:OpR X (compareOp .GtE) uGe:=(BC.or uD).imp fun x y H Q q=>by
 unfold uGe at q
 split at q
 ·exact .inl ⟨_,_,rfl,rfl,q⟩
 ·exact .inr ⟨_,_,rfl,rfl,q⟩
 ·exact q.elim
theorem we:OpR X (compareOp .Is) (fun x y H Q=>∃ j,y=.bl j∧Q (.bl (decide (x=.bl j))) H):=by
 intro pins s σ H x y v u Q I rx ry h
 obtain ⟨j,rfl,q⟩:=h
 cases ry
 cases x with
 | bl i=>cases rx;exact wpAny_is_plain rfl (aM I q (by cases i <;> cases j <;> rfl))
 | non=>cases rx;exact wpAny_is_plain rfl (aM I q (by simp))
 | int i=>obtain ⟨t,rfl⟩:=rx;exact wpAny_is_plain rfl (aM I q (by simp))
 | str i=>obtain ⟨t,rfl⟩:=rx;exact wpAny_is_plain rfl (aM I q (by simp))
 | byt i=>obtain ⟨t,rfl⟩:=rx;exact wpAny_is_plain rfl (aM I q (by simp))
 | flt i=>obtain ⟨t,rfl⟩:=rx;exact wpAny_is_plain rfl (aM I q (by simp))
 | ref i=>cases rx;exact wpAny_is_plain rfl (aM I q (by simp))
 | ty i=>cases rx;exact wpAny_is_plain rfl (aM I q (by simp))
theorem pF:OpR X (compareOp .IsNot) (fun x y H Q=>∃ j,y=.bl j∧Q (.bl (!decide (x=.bl j))) H):=by
 intro pins s σ H x y v u Q I rx ry h
 obtain ⟨j,rfl,q⟩:=h
 cases ry
 cases x with
 | bl i=>cases rx;exact wpAny_isNot_plain rfl (aM I q (by cases i <;> cases j <;> rfl))
 | non=>cases rx;exact wpAny_isNot_plain rfl (aM I q (by simp))
 | int i=>obtain ⟨t,rfl⟩:=rx;exact wpAny_isNot_plain rfl (aM I q (by simp))
 | str i=>obtain ⟨t,rfl⟩:=rx;exact wpAny_isNot_plain rfl (aM I q (by simp))
 | byt i=>obtain ⟨t,rfl⟩:=rx;exact wpAny_isNot_plain rfl (aM I q (by simp))
 | flt i=>obtain ⟨t,rfl⟩:=rx;exact wpAny_isNot_plain rfl (aM I q (by simp))
 | ref i=>cases rx;exact wpAny_isNot_plain rfl (aM I q (by simp))
 | ty i=>cases rx;exact wpAny_isNot_plain rfl (aM I q (by simp))
def isV:V→V→Bool
 | .non,.non=>true
 | .bl i,.bl j=>i==j
 | _,_=>false
def uIs:R2:=fun x y H Q=>match y with
 | .non=>Q (.bl (isV x .non)) H
 | .bl j=>Q (.bl (isV x (.bl j))) H
 | _=>False
def uIsNot:R2:=fun x y H Q=>match y with
 | .non=>Q (.bl (!isV x .non)) H
 | .bl j=>Q (.bl (!isV x (.bl j))) H
 | _=>False
theorem uT (x:V):decide (x=.non)=isV x .non:=by cases x <;> simp [isV]
theorem wF (x:V) (j:Bool):decide (x=.bl j)=isV x (.bl j):=by
 cases x with
 | bl i=>cases i <;> cases j <;> rfl
 | _=>simp [isV]
theorem oIs:OpR X (compareOp .Is) uIs:=(yP.or we).imp fun x y H Q q=>by
 unfold uIs at q
 split at q
 ·exact .inl ⟨rfl,by rw [uT];exact q⟩
 ·exact .inr ⟨_,rfl,by rw [wF];exact q⟩
 ·exact q.elim
theorem oIsNot:OpR X (compareOp .IsNot) uIsNot:=(xF.or pF).imp fun x y H Q q=>by
 unfold uIsNot at q
 split at q
 ·exact .inl ⟨rfl,by rw [uT];exact q⟩
 ·exact .inr ⟨_,rfl,by rw [wF];exact q⟩
 ·exact q.elim
def uIx (K:PySem.W.Frag):R2:=fun x y H Q=>match x,y with
 | .str z,.int i=>∃ c,z.length≤sizeLine∧atI z.cps.toList i=some c∧Q (.str ⟨#[c]⟩) H
 | .ref p,.int i=>∃ xs v,(SqL K H p xs∨SqT K H p xs)∧atI xs i=some v∧Q v H
 | _,_=>False
theorem oIx0:IxR X (uIx X.K):=AA.imp fun x y H Q q=>by
 unfold uIx at q
 split at q
 ·obtain ⟨c,h1,h2,h3⟩:=q
  exact .inr (.inr ⟨_,_,c,rfl,rfl,h1,h2,h3⟩)
 ·obtain ⟨xs,v,h1|h1,h2,h3⟩:=q
  ·exact .inl ⟨_,xs,_,v,rfl,rfl,h1,h2,h3⟩
  ·exact .inr (.inl ⟨_,xs,_,v,rfl,rfl,h1,h2,h3⟩)
 ·exact q.elim
theorem oIx (K:PySem.W.Frag) (hK:X.K=K:=by rfl):IxR X (uIx K):=by
 subst hK
 exact oIx0
def uLen (K:PySem.W.Frag) (xs:List V) (H:Hp) (Q:VK):Prop:=match xs with
 | [.str y]=>y.length≤sizeLine∧Q (.int y.length) H
 | [.ref p]=>∃ ys,(SqL K H p ys∨SqT K H p ys)∧Q (.int ys.length) H
 | _=>False
theorem qLen0:CallR X (.builtin "len") (uLen X.K):=(nC.or ng).imp fun xs H Q q=>by
 unfold uLen at q
 split at q
 ·exact .inl ⟨_,rfl,q.1,q.2⟩
 ·obtain ⟨ys,h1,h2⟩:=q
  exact .inr ⟨_,ys,rfl,h1,h2⟩
 ·exact q.elim
theorem qLen (K:PySem.W.Frag) (hK:X.K=K:=by rfl):CallR X (.builtin "len") (uLen K):=by
 subst hK
 exact qLen0
def uAbs (xs:List V) (H:Hp) (Q:VK):Prop:=match xs with
 | [.int i]=>Q (.int (if i < 0 then -i else i)) H
 | _=>False
theorem qAbs:CallR X (.builtin "abs") uAbs:=vF.imp fun xs H Q q=>by
 unfold uAbs at q
 split at q
 ·exact ⟨_,rfl,q⟩
 ·exact q.elim
def uMax (xs:List V) (H:Hp) (Q:VK):Prop:=match xs with
 | [.int i,.int j]=>Q (.int (if j > i then j else i)) H
 | _=>False
theorem qMax (hc:X.calm=true):CallR X (.builtin "max") uMax:=(uN hc).imp fun xs H Q q=>by
 unfold uMax at q
 split at q
 ·exact ⟨_,_,rfl,q⟩
 ·exact q.elim
end
def noStar:Expr→Bool
 | .Starred ..=>false
 | _=>true
theorem cH {e:Expr} {es:List Expr} {env:Env} (h:noStar e=true):starEach (e::es) env=(false,eval e env)::starEach es env:=by
 cases e <;> first|rfl|cases h
theorem cX {env:Env} {pos:Pos}:∀ {es:List Expr},es.all noStar=true→(backTo pos (starEach es env)).any (·.1)=false
 | [],_=>rfl
 | e::es,h=>by
  rw [List.all_cons,Bool.and_eq_true] at h
  rw [cH h.1]
  have ih:=cX (env:=env) (pos:=pos) h.2
  show (false||(backTo pos (starEach es env)).any (·.1))=false
  rw [ih]
  rfl
theorem yj {X:Cx} {e:Expr} {es:List Expr} {te:TE} {t:TA} (ha:PE X e te) (hr:PA X es t) (hn:noStar e=true:=by rfl):PA X (e::es) (tCons te t):=yn ha hr (cH hn)
section
variable {X:Cx} {x:Str} {p pos:Pos} {e:Expr} {es:List Expr} {t:TA} {id T:String} {r:List V→Hp→VK→Prop}
theorem qc_b (hc:CallR X (.builtin id) r) (hm:X.mg x=none) (hv:bootBuiltins x=some (.builtin id)) (ha:PA X (e::es) t) (hg:Gl X x:=by rfl) (h1:noStar e=true:=by rfl) (h2:es.all noStar=true:=by rfl) (hn:x≠"__name__":=by decide) (hdb:(x==("__debug__":Str))=false:=by decide) :
  PE X (.Call (.Name x p) (e::es) [] pos) (tCB r t):=wb hc hg hm hv ha hn hdb (cH h1) (cX h2)
theorem qc_t (hc:CallR X (.type T) r) (hm:X.mg x=none) (hv:bootBuiltins x=some (.type T)) (ha:PA X (e::es) t) (hg:Gl X x:=by rfl) (h1:noStar e=true:=by rfl) (h2:es.all noStar=true:=by rfl) (hn:x≠"__name__":=by decide) (hdb:(x==("__debug__":Str))=false:=by decide) :
  PE X (.Call (.Name x p) (e::es) [] pos) (tCB r t):=uv hc hg hm hv ha hn hdb (cH h1) (cX h2)
end
theorem bP:bootBuiltins "len"=some (.builtin "len"):=by decide +kernel
theorem ld:bootBuiltins "all"=some (.builtin "all"):=by decide +kernel
theorem y6:bootBuiltins "abs"=some (.builtin "abs"):=by decide +kernel
theorem aH:bootBuiltins "isinstance"=some (.builtin "isinstance"):=by decide +kernel
theorem zk:bootBuiltins "max"=some (.builtin "max"):=by decide +kernel
theorem ki:bootBuiltins "str"=some (.type "str"):=by decide +kernel
theorem uO:bootBuiltins "int"=some (.type "int"):=by decide +kernel
theorem me:bootBuiltins "bool"=some (.type "bool"):=by decide +kernel
theorem oH:bootBuiltins "list"=some (.type "list"):=by decide +kernel
theorem cW:bootBuiltins "tuple"=some (.type "tuple"):=by decide +kernel
theorem Aa:bootBuiltins "zip"=some (.type "zip"):=by decide +kernel
theorem BI {X:Cx} {x:Str} {n:String} {pos:Pos} (hm:X.mg x=none) (hv:bootBuiltins x=some (.type n)) (hg:Gl X x:=by rfl) (hn:x≠"__name__":=by decide) (hd:(x==("__debug__":Str))=false:=by decide):PE X (.Name x pos) (tC (.ty n)) :=
 yb (v:=.ty n) hg hm hv rfl hn hd
def subT (T C:String):Bool:=T==C||(T=="bool"&&C=="int")
def known (C:String):Bool:=C=="str"||C=="int"||C=="bool"||C=="list"||C=="tuple"||C=="dict"
theorem hU {K:PySem.W.Frag} {T C:String} (hT:T="NoneType"∨T="bool"∨T="int"∨T="str"∨T="list"∨T="tuple"∨T="dict") (hC:known C=true):PySem.W.kitOne K (.type T) (.type C)=some (subT T C):=by
 have hC':C="str"∨C="int"∨C="bool"∨C="list"∨C="tuple"∨C="dict":=by
  unfold known at hC
  simp only [Bool.or_eq_true,beq_iff_eq] at hC
  rcases hC with ((((h|h)|h)|h)|h)|h <;> simp [h]
 rcases hT with h|h|h|h|h|h|h <;> subst h <;> rcases hC' with h|h|h|h|h|h <;> subst h <;> first|rfl|decide +kernel
section
variable {X:Cx}
def kPart (Q:Option Int→Hp→Prop):VK:=fun x H1=>match x with
 | .int i=>Q (some i) H1
 | _=>False
def uPart (t:TE):TO:=fun σ H Q=>t σ H (kPart Q)
theorem xI {e:Expr} {te:TE} (h:PE X e te):PO X (some e) (uPart te):=by
 intro pins s σ H Q I hw
 rw [evalPart_some]
 refine thn (h pins s σ H _ I hw) fun u s1 hh=>exF hh fun x H1 I1 r1 q1=>?_
 cases x with
 | int i =>
  obtain ⟨t,rfl⟩:=r1
  exact ⟨some i,H1,I1,.int i t,q1⟩
 | _=>exact q1.elim
def cutS (z:Str) (lo hi:Option Int):Str:=⟨((z.cps.toList.drop (HT.sIx z.length 0 lo)).take (HT.sIx z.length z.length hi - HT.sIx z.length 0 lo)).toArray⟩
theorem clipS (v:Int) (n d:Nat):max 0 (min (if v < 0 then v+(n:Int) else v) (n:Int))=((HT.sIx n d (some v):Nat):Int):=by
 show _=(((if v < 0 then (v+(n:Int)).toNat else min v.toNat n):Nat):Int)
 by_cases hv:v < 0
 ·simp only [if_pos hv];omega
 ·simp only [if_neg hv];omega
theorem loS (lo:Option Int) (n:Nat):(match lo with|none=>(0:Int)|some i=>max 0 (min (if i < 0 then i+(n:Int) else i) (n:Int)))=((HT.sIx n 0 lo:Nat):Int):=by
 cases lo with
 | none=>rfl
 | some v=>exact clipS v n 0
theorem hiS (hi:Option Int) (n:Nat):(match hi with|none=>(n:Int)|some i=>max 0 (min (if i < 0 then i+(n:Int) else i) (n:Int)))=((HT.sIx n n hi:Nat):Int):=by
 cases hi with
 | none=>rfl
 | some v=>exact clipS v n n
theorem idxS (lo hi:Option Int) (n:Nat):Builtin.Str.strSliceIndices lo hi 1 n=sliceRange ((HT.sIx n 0 lo:Nat):Int) ((HT.sIx n n hi:Nat):Int) 1:=by
 have h1:((1:Int) > 0)=True:=by simp
 simp only [Builtin.Str.strSliceIndices,h1,if_true]
 rw [← loS,← hiS]
 cases lo <;> cases hi <;> rfl
theorem idxN (a b n:Nat) (ha:a≤n) (hb:b≤n):Builtin.Str.strSliceIndices (some (a:Int)) (some (b:Int)) 1 n=sliceRange (a:Int) (b:Int) 1:=by
 rw [idxS,HT.lZ,HT.lZ,Nat.min_eq_left ha,Nat.min_eq_left hb]
theorem sC (z:Str) (lo hi:Option Int):Txt.slice z lo hi=cutS z lo hi:=by
 have ha:=HT.sZ z.length 0 (Nat.zero_le _) lo
 have hb:=HT.sZ z.length z.length (Nat.le_refl _) hi
 unfold Txt.slice
 rw [idxS,← idxN _ _ _ ha hb]
 unfold cutS
 generalize HT.sIx z.length 0 lo=a at ha ⊢
 generalize HT.sIx z.length z.length hi=b at hb ⊢
 by_cases hab:a≤b
 ·exact StrLaws.sliceText_nat z hab hb
 ·have e:Builtin.Str.strSliceIndices (some (a:Int)) (some (b:Int)) 1 z.length=[]:=by
   have h1:((1:Int) > 0)=True:=by simp
   have n1:¬ ((a:Int) < 0):=by omega
   have n2:¬ ((b:Int) < 0):=by omega
   have e1:max (0:Int) (min (a:Int) (z.length:Int))=a:=by omega
   have e2:max (0:Int) (min (b:Int) (z.length:Int))=b:=by omega
   simp only [Builtin.Str.strSliceIndices,sliceRange,h1,if_true,if_neg n1,if_neg n2,e1,e2]
   rw [if_neg (by omega)]
   rfl
  have e0:b - a=0:=by omega
  rw [e,e0,List.take_zero]
  split
  ·rename_i h
   have hz:z.length=0:=by
    have h':0=z.length:=by simpa using h
    exact h'.symm
   apply Str.ext'
   show z.cps=#[]
   exact Array.eq_empty_of_size_eq_zero hz
  ·rfl
theorem yr (z:Str) (lo hi:Option Int):(cutS z lo hi).length≤z.length:=by
 unfold cutS
 show (Array.size _)≤_
 rw [List.size_toArray,List.length_take,List.length_drop]
 simp [Str.length]
 omega
theorem AQ:SlR X (fun x lo hi H Q=>∃ z,x=.str z∧z.length≤sizeLine∧Q (.str (cutS z lo hi)) H):=by
 intro pins s σ H x v vl vu lo hi sl Q I rx hs pl pu h
 obtain ⟨z,rfl,hz,q⟩:=h
 obtain ⟨t,rfl⟩:=rx
 have fin:∀ (l u:Option (Int×Tok)),l.map (·.1)=lo→u.map (·.1)=hi→s.heap.IsSlice sl l u none→wpAny (model X.prog X.w) X.A (getItem (.str z t) (.ref sl)) (EP X pins σ Q) X.xe s:=fun l u e1 e2 hs'=>by
  refine bj I.tk (wpAny_getItem_str_slice hs' rfl ?_)
  subst e1 e2
  refine post_val_or_str ?_
  have e:(if (((none:Option (Int×Tok)).map (·.1)).getD 1==1&&(slicePicked z l u none).length==z.length)=true then z else ⟨((slicePicked z l u none).filterMap (z.cps[·]?)).toArray⟩)=Txt.slice z (l.map (·.1)) (u.map (·.1)):=rfl
  rw [e,sC]
  exact ⟨Nat.le_trans (yr _ _ _) hz,fun t' k htk=>⟨.str _,H,I.tok _,⟨t',rfl⟩,q⟩⟩
 refine ⟨"str",_,F.slot_str_getitem.lookup,typeIs_str s z t,?_⟩
 cases pl with
 | none =>
  cases pu with
  | none=>exact fin none none rfl rfl hs
  | int j tj=>exact fin none (some (j,tj)) rfl rfl hs
 | int i ti =>
  cases pu with
  | none=>exact fin (some (i,ti)) none rfl rfl hs
  | int j tj=>exact fin (some (i,ti)) (some (j,tj)) rfl rfl hs
def uSl (K:PySem.W.Frag) (x:V) (lo hi:Option Int) (H:Hp) (Q:VK):Prop:=match x with
 | .str z=>z.length≤sizeLine∧Q (.str (cutS z lo hi)) H
 | .ref a=>(∃ xs,SqL K H a xs∧∀ p,H p=none→Q (.ref p) (upd H p (.lst (cutV xs lo hi)))) ∨
  ∃ xs,SqT K H a xs∧¬ (HT.sIx xs.length 0 lo=0∧HT.sIx xs.length xs.length hi=xs.length)∧∀ p,H p=none→Q (.ref p) (upd H p (.tup (cutV xs lo hi)))
 | _=>False
theorem oSl0:SlR X (uSl X.K):=(AQ.or (xm.or zP)).imp fun x lo hi H Q q=>by
 unfold uSl at q
 split at q
 ·exact .inl ⟨_,rfl,q.1,q.2⟩
 ·rcases q with ⟨xs,h1,h2⟩|⟨xs,h1,h2,h3⟩
  ·exact .inr (.inl ⟨_,xs,rfl,h1,h2⟩)
  ·exact .inr (.inr ⟨_,xs,rfl,h1,h2,h3⟩)
 ·exact q.elim
theorem oSl (K:PySem.W.Frag) (hK:X.K=K:=by rfl):SlR X (uSl K):=by
 subst hK
 exact oSl0
variable {tg:Expr}
def kIt (K:PySem.W.Frag) (R:It→Hp→Prop):VK:=fun x H1=>match x with
 | .str z=>R (Its z) H1
 | .ref a=>((∃ xs,SqL K H1 a xs)∧R (Itl K a) H1)∨((∃ xs,SqT K H1 a xs)∧R (Itt K a) H1)
 | _=>False
def uIt (K:PySem.W.Frag) (tl:TE):TI:=fun σ H R=>tl σ H (kIt K R)
theorem Ap (K:PySem.W.Frag) {l:Expr} {tl:TE} (hl:PE X l tl) (hK:X.K=K:=by rfl):PI X tg l (uIt K tl):=by
 subst hK
 intro pins s σ H R I h
 refine thn (hl pins s σ H _ I h) fun v s1 hh=>exF hh fun x H1 I1 r1 q1=>?_
 cases x with
 | str z =>
  obtain ⟨t,rfl⟩:=r1
  have fp1:∀ b∈[s1.heap.objs.size],FpOk X pins H1 b:=fun b hb=>by
   have e:b=s1.heap.objs.size:=by simpa using hb
   subst e
   exact I1.fpOk (Nat.le_refl _) (I1.hok.fresh (Nat.le_refl _))
  cases ha:z.cps.all (· < 128)
  ·refine wpAny_pyIter_wide ha ?_
   exact ⟨s1.heap.objs.size,[s1.heap.objs.size],_,_,H1,rfl,I1.kept (t':=s1.toks) fun b o e=>Heap.get?_push_of_some _ e,uy _ z t,⟨_,Heap.get?_push_size _ rfl,rfl,rfl⟩,fp1,q1⟩
  ·refine wpAny_pyIter_ascii ha ?_
   exact ⟨s1.heap.objs.size,[s1.heap.objs.size],_,_,H1,rfl,I1.kept (t':=s1.toks) fun b o e=>Heap.get?_push_of_some _ e,rO _ z t,⟨_,Heap.get?_push_size _ rfl,rfl,rfl⟩,fp1,q1⟩
 | ref a =>
  cases r1
  have fp1:∀ b∈[s1.heap.objs.size],FpOk X pins H1 b:=fun b hb=>by
   have e:b=s1.heap.objs.size:=by simpa using hb
   subst e
   exact I1.fpOk (Nat.le_refl _) (I1.hok.fresh (Nat.le_refl _))
  rcases q1 with ⟨⟨xs,hq⟩,q⟩|⟨⟨xs,hq⟩,q⟩
  ·obtain ⟨its,rv,p,hz⟩:=I1.list hq
   refine wpAny_pyIter_list p.isList ?_
   exact ⟨s1.heap.objs.size,[s1.heap.objs.size],_,_,H1,rfl,I1.kept (t':=s1.toks) fun b o e=>Heap.get?_push_of_some _ e,tz a _,⟨_,Heap.get?_push_size _ rfl,rfl,rfl⟩,fp1,q⟩
  ·obtain ⟨its,rv,p,hz⟩:=I1.tuple hq
   refine wpAny_pyIter_tuple (show s1.heap.IsTuple a its.toArray from p) ?_
   exact ⟨s1.heap.objs.size,[s1.heap.objs.size],_,_,H1,rfl,I1.kept (t':=s1.toks) fun b o e=>Heap.get?_push_of_some _ e,rC a _,⟨_,Heap.get?_push_size _ rfl,rfl,rfl⟩,fp1,q⟩
 | _=>exact q1.elim
def kRng1 (R:It→Hp→Prop):List V→Hp→Prop:=fun vs H1=>match vs with
 | [.int j]=>(-(2 ^ 62)≤j∧j < 2 ^ 62)∧R (Itr 0 j.toNat) H1
 | _=>False
def uRng1 (ta:TA):TI:=fun σ H R=>ta σ H (kRng1 R)
theorem sU {a:Expr} {ta:TA} {p pos:Pos} (hg:Gl X "range") (hm:X.mg "range"=none) (ha:PA X [a] ta) (hs:starEach [a] X.env=[(false,eval a X.env)]:=by rfl):PI X tg (.Call (.Name "range" p) [a] [] pos) (uRng1 ta):=by
 intro pins s σ H R I h
 refine Call_ (kK I hg hm boot_range (PyProof.Rows.callWith_type1 (thn (ha pos pins s σ H _ I h) fun us s1 hh=>exF hh fun vs H1 I1 r1 q1=>?_) hs rfl))
 unfold kRng1 at q1
 split at q1
 ·obtain ⟨⟨q2,q3⟩,q⟩:=q1
  cases r1 with
  | cons r rr =>
   cases rr
   obtain ⟨t,rfl⟩:=r
   exact call_range_1 (pT I1 (by omega) (by omega) q2 q3 (by simpa using q))
 ·exact q1.elim
def kSM2 (r:Str→List V→Hp→VK→Prop) (z:Str) (Q:VK):List V→Hp→Prop:=fun xs H2=>r z xs H2 Q
def kSM (r:Str→List V→Hp→VK→Prop) (t:TA) (σ:St) (Q:VK):VK:=fun x H1=>match x with
 | .str z=>t σ H1 (kSM2 r z Q)
 | _=>False
def uSM (r:Str→List V→Hp→VK→Prop) (to:TE) (t:TA):TE:=fun σ H Q=>to σ H (kSM r t σ Q)
def SmR (X:Cx) (id:String) (r:Str→List V→Hp→VK→Prop):Prop :=
 ∀ (pins:List (Addr×Obj)) (s:Shared) (σ:St) (H:Hp) (z:Str) (t:Tok) (xs:List V) (us:List Value) (Q:VK),Inv X pins σ H s→Vals xs us→r z xs H Q →
  wpAny (model X.prog X.w) X.A (call (.builtin id) (.str z t::us)) (EP X pins σ Q) X.xe s
theorem Bq {o e:Expr} {es:List Expr} {to:TE} {t:TA} {name:Str} {apos cpos:Pos} {id:String} {r:Str→List V→Hp→VK→Prop} (slot:Slot "str" name id) (hty:typeOf (.builtin id)=pure (.type "method_descriptor")) (hm:SmR X id r) (ho:PE X o to) (ha:PA X (e::es) t)
  (hbase:attributeBase o name X.env (eval o X.env)=eval o X.env:=by rfl)
  (hfew:((backTo cpos (starEach (e::es) X.env)).all (fun x=>!x.1)&&(backToKw cpos (keywordEach [] X.env)).all (fun x=>x.1.isSome)
   && decide ((e::es).length+([]:List Keyword).length+(if ([]:List Keyword).isEmpty then 0 else 1) < 30))=true:=by rfl)
  (hline:(apos.endLine==cpos.line)=true:=by rfl) (hs:starEach (e::es) X.env=(false,eval e X.env)::starEach es X.env:=by rfl) (hplain:(backTo cpos (starEach es X.env)).any (·.1)=false:=by rfl) :
  PE X (.Call (.Attribute o name apos) (e::es) [] cpos) (uSM r to t):=by
 intro pins s σ H Q I h
 refine wpAny_Call_method_late hbase hfew hline rfl (thn (ho pins s σ H _ I h) fun v s1 hh=>exF hh fun x H1 I1 r1 q1=>?_)
 cases x with
 | str z =>
  obtain ⟨tk,rfl⟩:=r1
  refine ⟨"str",id,PySem.F.plainAttrs_str,slot,hty,typeIs_str s1 z tk,(fun _ e=>nomatch e),?_⟩
  have hA:=ha cpos pins s1 σ H1 _ I1 q1
  rw [hs] at hA ⊢
  refine Calls.callWith_builtin (by show (false||(backTo cpos (starEach es X.env)).any (·.1))=false;rw [hplain] <;> rfl) (Calls.evalArgs_plain ?_)
  exact thn hA fun us s2 hh=>exF hh fun vs H2 I2 r2 q2=>hm pins s2 σ H2 z tk vs us Q I2 r2 q2
 | _=>exact q1.elim
def uJoin (K:PySem.W.Frag) (z:Str) (xs:List V) (H:Hp) (Q:VK):Prop:=match xs with
 | [.ref p]=>∃ ys:List Str,SqL K H p (ys.map V.str)∧(ys.map (·.length)).sum+ys.length*z.length≤16777216∧Q (.str (Txt.join z ys)) H
 | _=>False
theorem lC:∀ {ys:List Str} {us:List Value},Vals (ys.map V.str) us→StrsAre us ys
 | [],us,r=>by cases r;exact .nil
 | y::ys,us,r=>by
  cases r with
  | cons r rr =>
   obtain ⟨t,rfl⟩:=r
   exact .cons y t (lC rr)
theorem yC (K:PySem.W.Frag) (hK:X.K=K:=by rfl):SmR X "str.join" (uJoin K):=by
 subst hK
 intro pins s σ H z t xs us Q I r h
 unfold uJoin at h
 split at h
 ·obtain ⟨ys,hq,hz,q⟩:=h
  obtain ⟨u,rfl,rx⟩:=vals1 r
  cases rx
  obtain ⟨its,rv,p,hz'⟩:=I.list hq
  exact bj I.tk (join_list p.isList (by simpa using lC rv) hz fun t' k htk=>⟨.str (Txt.join z ys),H,I.tok _,⟨t',rfl⟩,q⟩)
 ·exact h.elim
end
structure Def (K:PySem.W.Frag) (mg:Str→Option Value) (x:Str) (st:Stmt) (ps:List Str) (f:Addr) (fd:FuncData):Prop where
 F:Fun K x x st f fd
 b:Binds K fd ps []
 m:mg x=some (.ref f)
section
variable {X:Cx} {x:Str} {st:Stmt} {ps:List Str} {f:Addr} {fd:FuncData} {j k:Nat} {sp:Sp} {p pos:Pos} {e:Expr} {es:List Expr} {t:TA}
def uCall (sp:Sp) (t:TA):TE:=fun σ H Q=>t σ H fun vs H1=>sp vs H1 Q E0
theorem pc (D:Def X.K X.mg x st ps f fd) (G:FnOk X.prog X.w X.K X.mg X.base CX0 j f fd ps sp) (hr:Room k X.A) (ha:PA X (e::es) t) (hj:j≤k:=by decide) (hg:Gl X x:=by rfl) (hdb:(x==("__debug__":Str))=false:=by decide)
  (h1:noStar e=true:=by rfl) (h2:es.all noStar=true:=by rfl):PE X (.Call (.Name x p) (e::es) [] pos) (uCall sp t):=by
 have he:starEach (e::es) X.env=(false,eval e X.env)::starEach es X.env:=cH h1
 have hpl:(backTo pos (starEach es X.env)).any (·.1)=false:=cX h2
 intro pins s σ H Q I h
 refine wpAny_Call_Name_kw (u5 I hg D.m ?_ hdb)
 refine PySem.W.callWith_K (h₀:=X.base) I.ok.mod.kin D.F.kp (thn (ha pos pins s σ H _ I h) fun us s1 hh=>exF hh fun vs H1 I1 r q=>⟨I1.kIn,?_⟩) he hpl
 exact yR (dvs:=[]) G (hr.mono hj) D.b .nil pass0 I1 r (by rw [List.append_nil];exact q)
end
theorem bg {H:Hp} {p:Addr} (h:H p=none) (o:HO):Same H (upd H p o):=fun b u q=>by rw [a8 (bq q h)];exact q
theorem Same.seqT {K:PySem.W.Frag} {H H':Hp} {a:Addr} {xs:List V} (e:Same H H') (h:SqT K H a xs):SqT K H' a xs:=by
 rcases h with (h|⟨o,h⟩)|h
 ·exact .inl (.inl (e _ _ h))
 ·exact .inl (.inr ⟨o,e _ _ h⟩)
 ·exact .inr h
abbrev signsV (z:Str):List V:=z.cps.toList.map fun c=>V.str ⟨#[c]⟩
theorem tZ (a b:Str):(a++b).cps.toList=a.cps.toList++b.cps.toList:=by
 show (a.cps++b.cps).toList=_
 exact Array.toList_append
theorem str_len (a:Str):a.length=a.cps.toList.length:=by simp [Str.length]
theorem joinL:∀ (sep:Str) (ys:List Str),(Str.join sep ys).cps.toList=((ys.map (fun y:Str=>y.cps.toList)).intersperse sep.cps.toList).flatten
 | _,[]=>rfl
 | _,[x]=>by simp [Str.join]
 | sep,x::y::r=>by
  have ih:=joinL sep (y::r)
  show ((x++sep)++Str.join sep (y::r)).cps.toList=_
  rw [tZ,tZ,ih]
  simp [List.append_assoc]
theorem sL (sep:Str) (ys:List Str):(Txt.join sep ys).cps.toList=((ys.map (fun y:Str=>y.cps.toList)).intersperse sep.cps.toList).flatten:=by
 show (Builtin.Str.glued sep ys).cps.toList=_
 rw [StrLaws.glued_eq_join,joinL]
theorem nP {α:Type}:∀ (xs:List (List α)),(xs.intersperse []).flatten=xs.flatten
 | []=>rfl
 | [x]=>rfl
 | x::y::r=>by
  have ih:=nP (y::r)
  rw [List.intersperse_cons_cons,List.flatten_cons,List.flatten_cons,ih]
  rfl
theorem rP (ys:List Str):(Txt.join (Str.ofString "") ys).cps.toList=(ys.map (fun y:Str=>y.cps.toList)).flatten:=by
 rw [sL]
 have e:(Str.ofString "").cps.toList=[]:=by decide +kernel
 rw [e,nP]
theorem lK (cs:List Nat):(Txt.join (Str.ofString "") (cs.map fun c=>(⟨#[c]⟩:Str))).cps.toList=cs:=by
 rw [rP,List.map_map]
 induction cs with
 | nil=>rfl
 | cons c r ih =>
  rw [List.map_cons,List.flatten_cons,ih]
  rfl
theorem ux (cs:List Nat):((cs.map fun c=>(⟨#[c]⟩:Str)).map (·.length)).sum=cs.length:=by
 induction cs with
 | nil=>rfl
 | cons c r ih =>
  rw [List.map_cons,List.map_cons,List.sum_cons,ih]
  show 1+r.length=r.length+1
  omega
structure JE (X:Cx) (e:Expr) (t:TE):Prop where
 out:PE X e t
structure JT (X:Cx) (e:Expr) (t:TT):Prop where
 out:PT X e t
structure JW (X:Cx) (e:Expr) (t:TT):Prop where
 out:PW X e t
structure JA (X:Cx) (es:List Expr) (t:TA):Prop where
 out:PA X es t
structure JS (X:Cx) (st:Stmt) (t:TS):Prop where
 out:PS X st t
structure JB (X:Cx) (st:List Stmt) (t:TS):Prop where
 out:PSs X st t
structure JG (X:Cx) (e:Expr) (t:TG):Prop where
 out:PG X e t
structure JGs (X:Cx) (es:List Expr) (t:TGs):Prop where
 out:PGs X es t
structure JI (X:Cx) (tg e:Expr) (t:TI):Prop where
 out:PI X tg e t
structure JO (X:Cx) (e:Option Expr) (t:TO):Prop where
 out:PO X e t
structure JTs (X:Cx) (es:List Expr) (t:TT):Prop where
 out:PTs X es t
section
variable {X:Cx} {a b c e:Expr} {ta tb tc te:TE} {tA tB':TT} {pos:Pos} {rest es:List Expr} {t:TA}
theorem jv (i:Nat) {x:Str} {pos:Pos} (hN:X.N[i]?=some x:=by rfl) (hv:Vis X.env.scope x:=by first|exact Or.inl rfl|exact Or.inr (Or.inl rfl)|exact Or.inr (Or.inr rfl)) (hd:(x==("__debug__":Str))=false:=by decide)
  (hcd:(x==("__classdict__":Str))=false:=by decide):JE X (.Name x pos) (uVar i):=⟨qv i hN hv hd hcd⟩
theorem Bt {i j pos}:JE X (.Constant (.int i) j pos) (tC (.int i)):=⟨Ab⟩
theorem j_bl {b j pos}:JE X (.Constant (.bool b) j pos) (tC (.bl b)):=⟨BV⟩
theorem BN {j pos}:JE X (.Constant .none j pos) (tC .non):=⟨Ag⟩
theorem Bi {x j pos}:JE X (.Constant (.str x) j pos) (tC (.str x)):=⟨Au⟩
theorem w4 {x:Str} {v:V} {u:Value} {pos:Pos} (hm:X.mg x=some u) (r:RelV v u) (hg:Gl X x:=by rfl) (hd:(x==("__debug__":Str))=false:=by decide):JE X (.Name x pos) (tC v):=⟨sQ hg hm r hd⟩
theorem j_ty {x:Str} {n:String} {pos:Pos} (hm:X.mg x=none) (hv:bootBuiltins x=some (.type n)) (hg:Gl X x:=by rfl) (hn:x≠"__name__":=by decide) (hd:(x==("__debug__":Str))=false:=by decide):JE X (.Name x pos) (tC (.ty n)):=⟨BI hm hv hg hn hd⟩
theorem j_op {op:Operator} {r:R2} (ho:OpR X (binaryOp op) r) (ha:JE X a ta) (hb:JE X b tb):JE X (.BinOp a op b pos) (tOp r ta tb):=⟨BJ ho ha.out hb.out⟩
theorem j_un {op:UnaryOp} {r:V→Hp→VK→Prop} (ho:UnR X (unaryOp op) r) (ha:JE X a ta):JE X (.UnaryOp op a pos) (tUn r ta):=⟨A7 ho ha.out⟩
theorem Bo (ha:JE X a ta):JE X (.UnaryOp .Not a pos) (uNot ta):=⟨AH ha.out⟩
theorem Bp {op} (h:JE X a ta):JE X (.BoolOp op [a] pos) ta:=⟨AB h.out⟩
theorem BZ (ha:JE X a ta) (hb:JE X (.BoolOp .And (b::rest) pos) tb):JE X (.BoolOp .And (a::b::rest) pos) (uAnd ta tb):=⟨zX ha.out hb.out⟩
theorem j_or (ha:JE X a ta) (hb:JE X (.BoolOp .Or (b::rest) pos) tb):JE X (.BoolOp .Or (a::b::rest) pos) (uOr ta tb):=⟨Ca ha.out hb.out⟩
theorem BE {op:CmpOp} {r:R2} (ho:OpR X (compareOp op) r) (ha:JE X a ta) (hb:JE X b tb) (hm:behindInMarks op b=false):JE X (.Compare a [op] [b] pos) (tOp r ta tb):=⟨xi ho ha.out hb.out hm⟩
theorem z8 {op:CmpOp} {r:R2} (ho:OpR X (compareOp op) r) (ha:JE X a ta) (hb:JE X b tb) (hm:behindInMarks op b=false):JT X (.Compare a [op] [b] pos) (uTest (tOp r ta tb)):=⟨yu ho ha.out hb.out hm⟩
theorem Bg (hc:JT X c tA) (ha:JE X a ta) (hb:JE X b tb):JE X (.IfExp c a b pos) (tIf tA ta tb):=⟨vW hc.out ha.out hb.out⟩
theorem xO (h:JW X a tA):JT X a tA:=⟨h.out.pt⟩
theorem xB (ha:JT X a tA):JW X (.BoolOp .And [a] pos) tA:=⟨xn ha.out⟩
theorem zi (ha:JT X a tA):JW X (.BoolOp .Or [a] pos) tA:=⟨zB ha.out⟩
theorem Ak (ha:JT X a tA) (hb:JW X (.BoolOp .And (b::rest) pos) tB'):JW X (.BoolOp .And (a::b::rest) pos) (tAnd tA tB'):=⟨yU ha.out hb.out⟩
theorem Bv (ha:JT X a tA) (hb:JW X (.BoolOp .Or (b::rest) pos) tB'):JW X (.BoolOp .Or (a::b::rest) pos) (tOr tA tB'):=⟨BB ha.out hb.out⟩
theorem zR (ha:JT X a tA):JT X (.UnaryOp .Not a pos) (tNot tA):=⟨zC ha.out⟩
theorem wf (K:PySem.W.Frag) (ha:JE X a ta) (he:∀ whole,isTrue a X.env whole=(do let v ← whole;standAt a.pos;holding [v] (truthy v)):=by exact fun _=>rfl) (hK:X.K=K:=by rfl):JT X a (uTruth K ta):=⟨vM K ha.out he hK⟩
theorem qF:JA X [] tNil:=⟨Al⟩
theorem mE (ha:JE X e te) (hr:JA X es t) (hn:noStar e=true:=by rfl):JA X (e::es) (tCons te t):=⟨yj ha.out hr.out hn⟩
theorem A3 (h:JA X es t):JE X (.List es pos) (tLst t):=⟨zg h.out⟩
theorem B5 {x1} (h:JA X es t):JE X (.Tuple es x1 pos) (tTup t):=⟨zL h.out⟩
theorem j_ix {r:R2} (hr:IxR X r) (ha:JE X a ta) (hb:JE X b tb) (hs:PlainIx b:=by exact fun _ _=>rfl):JE X (.Subscript a b pos) (tOp r ta tb):=⟨Cc hr ha.out hb.out hs⟩
theorem yz:JO X none tNoPart:=⟨yE⟩
theorem xG (h:JE X e te):JO X (some e) (uPart te):=⟨xI h.out⟩
theorem xS {r:V→Option Int→Option Int→Hp→VK→Prop} {lo hi:Option Expr} {tl th:TO} {p2:Pos} (hr:SlR X r) (he:JE X e te) (hl:JO X lo tl) (hu:JO X hi th):JE X (.Subscript e (.Slice lo hi none p2) pos) (tSl r te tl th):=⟨vB hr he.out hl.out hu.out⟩
end
section
variable {X:Cx} {x:Str} {st:Stmt} {ps:List Str} {f:Addr} {fd:FuncData} {j k:Nat} {sp:Sp} {p pos:Pos} {e:Expr} {es:List Expr} {t:TA} {id T:String} {r:List V→Hp→VK→Prop}
theorem ze (D:Def X.K X.mg x st ps f fd) (G:FnOk X.prog X.w X.K X.mg X.base CX0 j f fd ps sp) (hr:Room k X.A) (ha:JA X (e::es) t) (hj:j≤k:=by decide) (hg:Gl X x:=by rfl) (hdb:(x==("__debug__":Str))=false:=by decide)
  (h1:noStar e=true:=by rfl) (h2:es.all noStar=true:=by rfl):JE X (.Call (.Name x p) (e::es) [] pos) (uCall sp t):=⟨pc D G hr ha.out hj hg hdb h1 h2⟩
theorem x4 (hc:CallR X (.builtin id) r) (hm:X.mg x=none) (hv:bootBuiltins x=some (.builtin id)) (ha:JA X (e::es) t) (hg:Gl X x:=by rfl) (h1:noStar e=true:=by rfl) (h2:es.all noStar=true:=by rfl) (hn:x≠"__name__":=by decide) (hdb:(x==("__debug__":Str))=false:=by decide) :
  JE X (.Call (.Name x p) (e::es) [] pos) (tCB r t):=⟨qc_b hc hm hv ha.out hg h1 h2 hn hdb⟩
theorem ul (hc:CallR X (.type T) r) (hm:X.mg x=none) (hv:bootBuiltins x=some (.type T)) (ha:JA X (e::es) t) (hg:Gl X x:=by rfl) (h1:noStar e=true:=by rfl) (h2:es.all noStar=true:=by rfl) (hn:x≠"__name__":=by decide) (hdb:(x==("__debug__":Str))=false:=by decide) :
  JE X (.Call (.Name x p) (e::es) [] pos) (tCB r t):=⟨qc_t hc hm hv ha.out hg h1 h2 hn hdb⟩
end
section
variable {X:Cx} {o e:Expr} {es:List Expr} {to:TE} {t:TA} {name:Str} {apos cpos:Pos} {id:String}
theorem qq {env:Env} {pos:Pos} {es:List Expr} (h:es.all noStar=true) (hl:es.length < 29):((backTo pos (starEach es env)).all (fun x=>!x.1)&&(backToKw pos (keywordEach [] env)).all (fun x=>x.1.isSome)
   && decide (es.length+([]:List Keyword).length+(if ([]:List Keyword).isEmpty then 0 else 1) < 30))=true:=by
 have h1:(backTo pos (starEach es env)).all (fun x=>!x.1)=true:=by
  have:=cX (env:=env) (pos:=pos) h
  rw [List.any_eq_false] at this
  rw [List.all_eq_true]
  intro x hx
  have:=this x hx
  simpa using this
 rw [h1]
 show (true&&true&&decide (es.length+0+0 < 30))=true
 rw [decide_eq_true (by omega)]
 rfl
theorem j_sm {r:Str→List V→Hp→VK→Prop} (slot:Slot "str" name id) (hty:typeOf (.builtin id)=pure (.type "method_descriptor")) (hm:SmR X id r) (ho:JE X o to) (ha:JA X (e::es) t)
  (hbase:attributeBase o name X.env (eval o X.env)=eval o X.env:=by rfl) (hline:(apos.endLine==cpos.line)=true:=by rfl) (h1:(e::es).all noStar=true:=by rfl) (hl:(e::es).length < 29:=by decide) :
  JE X (.Call (.Attribute o name apos) (e::es) [] cpos) (uSM r to t):=by
 have h1':=h1
 rw [List.all_cons,Bool.and_eq_true] at h1'
 exact ⟨Bq slot hty hm ho.out ha.out hbase (qq h1 hl) hline (cH h1'.1) (cX h1'.2)⟩
end
section
variable {X:Cx} {osc:Scope} {ON N:List Str} {ix:List (Option Nat)} {scope:Scope} {tg elt iter:Expr} {ifs:List Expr} {pos:Pos} {wi:TI} {g:TG} {tt:TT} {te:TE}
theorem x3:JTs X [] tYes:=⟨xV⟩
theorem yp {c:Expr} (h:JT X c tt):JTs X [c] tt:=⟨x6 h.out⟩
theorem zt (hcs:csOk osc ON N ix scope=true) (hi:JI X tg iter wi) (hg:∀ b,JG (blk X N scope b) tg g) (ht:∀ b,JTs (blk X N scope b) ifs tt) (he:∀ b,JE (blk X N scope b) elt te)
  (hE:X.env.scope=osc:=by rfl) (hO:X.N=ON:=by rfl) (hc:X.calm=true:=by rfl) (hs:∀ x,foldedSetIterable iter X.env x=pure x:=by intro _;rfl):JE X (.ListComp elt [⟨tg,iter,ifs,0⟩] scope pos) (tComp ix wi g tt te) :=
 ⟨wm (Ah hcs) hE hO hc hi.out (fun b=>(hg b).out) (fun b=>(ht b).out) (fun b=>(he b).out) hs⟩
theorem rj {i:Nat} {x:Str} {spos pos':Pos} (hN:X.N.Nodup) (hl:Loc X.env.scope x) (hcs:csOk osc ON N ix scope=true) (hi:JI X tg iter wi) (hg:∀ b,JG (blk X N scope b) tg g) (ht:∀ b,JTs (blk X N scope b) ifs tt) (he:∀ b,JE (blk X N scope b) elt te)
  (hx:X.N[i]?=some x:=by rfl) (hE:X.env.scope=osc:=by rfl) (hO:X.N=ON:=by rfl) (hc:X.calm=true:=by rfl)
  (hsw:swapsWith (.ListComp elt [⟨tg,iter,ifs,0⟩] scope pos) (some (.Name x pos')) spos.line X.env=pure true:=by rfl)
  (hf:X.fn x=true∨X.env.scope.names.lookup x=some .local:=by first|exact .inl rfl|exact .inr rfl|assumption)
  (hs:∀ x,foldedSetIterable iter X.env x=pure x:=by intro _;rfl):JS X (.Assign [.Name x pos'] (.ListComp elt [⟨tg,iter,ifs,0⟩] scope pos) spos) (tAsg (tComp ix wi g tt te) (gName i)) :=
 ⟨sn hN hx hl (Ah hcs) hE hO hc hi.out (fun b=>(hg b).out) (fun b=>(ht b).out) (fun b=>(he b).out) hsw hf hs⟩
theorem zu (K:PySem.W.Frag) {l:Expr} {tl:TE} (hl:JE X l tl) (hK:X.K=K:=by rfl):JI X tg l (uIt K tl):=⟨Ap K hl.out hK⟩
theorem uZ {a:Expr} {ta:TA} {p pos:Pos} (hm:X.mg "range"=none) (ha:JA X [a] ta) (hg:Gl X "range":=by rfl) (hn:noStar a=true:=by rfl):JI X tg (.Call (.Name "range" p) [a] [] pos) (uRng1 ta):=⟨sU hg hm ha.out (cH hn)⟩
end
section
variable {X:Cx} {pos:Pos} {st:Stmt} {rest:List Stmt} {t u:TS} {e:Expr} {te:TE}
theorem xM {i:Nat} {x:Str} (hN:X.N.Nodup) (hi:X.N[i]?=some x) (hx:Loc X.env.scope x) (hf:X.fn x=true∨X.env.scope.names.lookup x=some .local:=by first|exact .inl rfl|exact .inr rfl|assumption):JG X (.Name x pos) (gName i):=⟨sT hN hi hx hf⟩
theorem yc:JGs X [] gNil:=⟨xx⟩
theorem wA {e:Expr} {es:List Expr} {t:TG} {u:TGs} (h1:JG X e t) (h2:JGs X es u)
  (hs:(assignEach (e::es) X.env).map (·.2)=assign e X.env::(assignEach es X.env).map (·.2):=by rfl):JGs X (e::es) (gCons t u):=⟨vL h1.out h2.out hs⟩
theorem yQ (K:PySem.W.Frag) {es:List Expr} {k:Nat} {t:TGs} {n:Nat} (h:JGs X es t) (hc:X.calm=true:=by rfl)
  (hn:(assignEach es X.env).length=n:=by rfl) (hst:(assignEach es X.env).findIdx? (·.1)=none:=by rfl) (hK:X.K=K:=by rfl):JG X (.Tuple es k pos) (gTup K n t):=by
 subst hK
 exact ⟨AO hc h.out hn hst⟩
theorem Ac:JB X [] tNext:=⟨xh⟩
theorem xX (h1:JS X st t) (h2:JB X rest u):JB X (st::rest) (tSeq t u):=⟨vH h1.out h2.out⟩
theorem zY (h1:JS X st t):JB X [st] t:=⟨yy h1.out⟩
theorem uV (he:JE X e te) (hs:swapsWith e none pos.line X.env=pure false:=by rfl):JS X (.Expr e pos) (tDrop te):=⟨xc he.out hs⟩
theorem zT (he:JE X e te):JS X (.Return (some e) pos) (tRet te):=⟨AM he.out⟩
theorem BR {c:Expr} {a b:List Stmt} {tc:TT} (hc:JT X c tc) (ha:JB X a t) (hb:JB X b u):JS X (.If c a b pos) (tIfS tc t u):=⟨BU hc.out ha.out hb.out⟩
theorem wW {i:Nat} {x:Str} {pos':Pos} (hN:X.N.Nodup) (hx:Loc X.env.scope x) (he:JE X e te) (hi:X.N[i]?=some x:=by rfl) (hs:swapsWith e (some (.Name x pos')) pos.line X.env=pure false:=by rfl) (hf:X.fn x=true∨X.env.scope.names.lookup x=some .local:=by first|exact .inl rfl|exact .inr rfl|assumption) :
  JS X (.Assign [.Name x pos'] e pos) (tAsg te (gName i)):=⟨Ai hN hi hx he.out hs hf⟩
theorem yW {tg:Expr} {g:TG} (he:JE X e te) (hg:JG X tg g) (hs:swapsWithSole [tg] e pos.line X.env=pure false:=by rfl) (hw:swappedStores [tg] e X.env=pure none:=by rfl)
  (h1:(assignEach [tg] X.env).map (·.2)=[assign tg X.env]:=by rfl):JS X (.Assign [tg] e pos) (tAsg te g):=⟨Af he.out hg.out hs hw h1⟩
theorem Aw {tg iter:Expr} {body:List Stmt} {wi:TI} {g:TG} {tb:TS} (hp:PassesOwn (model X.prog X.w) X.A X.env X.xe) (hi:JI X tg iter wi) (hg:JG X tg g) (hb:JB X body tb) (hc:X.calm=true:=by rfl)
  (hs:∀ x,foldedSetIterable iter X.env x=pure x:=by intro _;rfl):JS X (.For tg iter body [] pos) (tFor wi g tb):=⟨zv hp hc hi.out hg.out hb.out hs⟩
theorem vY {c:Expr} {body:List Stmt} {tc:TT} {tb:TS} (hp:PassesOwn (model X.prog X.w) X.A X.env X.xe) (hc:JT X c tc) (hb:JB X body tb):JS X (.While c body [] pos) (tWhile tc tb):=⟨wk hp hc.out hb.out⟩
end
section
variable {P:Program} {w:World} {K:PySem.W.Frag} {mg:Str→Option Value} {base:Heap}
theorem Fun.okJ {x qual:Str} {st:Stmt} {f:Addr} {fd:FuncData} {N ps:List Str} {k:Nat} {sp:Sp} (F:Fun K x qual st f fd) (S:FnScope N ps (ap st)) (len:∀ vs H Q E,sp vs H Q E→vs.length=ps.length)
  (hbody:∀ (cdv:Value) (A:Around) (outer:List Env) (s:Shared) (H:Hp) (vs:List V) (Q:VK) (E:XK),Room k (A.deeper (envOfC qual (ap st) s.heap.objs.size f cdv))→sp vs H Q E →
   ∃ t,JB (cxOf CX0 P w K mg base N qual (ap st) f cdv A outer s H E).nox (c8 st) t∧t { nx:=fun _ H'=>Q .non H',rt:=Q } (start N vs) H):FnOk P w K mg base CX0 (k+1) f fd ps sp :=
 F.ok S len fun cdv A outer s H vs Q E hr h=>let ⟨t,h1,h2⟩:=hbody cdv A outer s H vs Q E hr h;⟨t,h1.out,h2⟩
end
end L2
namespace L2
open PySem PySem.Builtin
section
variable {prog:Program} {w:World} {A:Around} {E:Value→Shared→Prop} {s:Shared}
theorem je {it l:Addr} {i:Nat} {items} {x:Value} {Q:Value→Shared→Prop} (hit:s.heap.IsTupleIter it l i)
  (hl:s.heap.IsTuple l items) (hx:items[i]?=some x)
  (hQ:∀ h',h'.IsTupleIter it l (i+1)→Heap.SameBut it s.heap h'→Q x { s with heap:=h' }) :
  wpAny (model prog w) A (Builtin.SmallTypes.nextOf (.ref it)) Q E s:=by
 obtain ⟨o,ho,hc,hd⟩:=id hit
 obtain ⟨ol,hol,_,nl,hdl⟩:=hl
 unfold Builtin.SmallTypes.nextOf
 refine wpAny_bind (wpAny_callSpecial?_slot (name:=Str.ofString "__next__") hit.typeIs F.slot_tuple_iterator_next
  (wpAny_call_entry F.slot_tuple_iterator_next hit.typeIs F.entry_tuple_iterator_next ?_ (F.args_tuple_iterator_next_1 _)))
 show wpAny _ _ (field (.ref it) 0 >>= _) _ _ s
 refine wpAny_bind (wpAny_field ho hd (x:=.ref l) rfl ?_)
 show wpAny _ _ (if (Value.ref l==Value.none)=true then _ else _) _ _ s
 rw [if_neg (show ¬ ((Value.ref l==Value.none)=true) from Bool.false_ne_true)]
 show wpAny _ _ (field (.ref it) 1 >>= _) _ _ s
 refine wpAny_bind (wpAny_field ho hd (x:=.int i 0) rfl ?_)
 show wpAny _ _ (seqItems? (.ref l) >>= _) _ _ s
 refine wpAny_bind (wpAny_seqItems hol hdl ?_)
 simp only [Int.toNat_natCast,hx]
 refine wpAny_bind (wpAny_setField ho hd (by simp) (wpAny_pure ⟨x,rfl,wpAny_pure (hQ _ ?_ (Heap.SameBut.update ..))⟩))
 exact ⟨_,Heap.get?_update_self _ ho (Obj.isFreed_of_fields (Obj.data_mapFields hd _)),(Obj.cls_mapFields ..).trans hc,by
  rw [Obj.data_mapFields hd];simp [rawInt]⟩
theorem jF {it l:Addr} {i:Nat} {items} {Q:Value→Shared→Prop} (hh:A.handled=none)
  (hit:s.heap.IsTupleIter it l i) (hl:s.heap.IsTuple l items) (hx:items[i]?=none)
  (hE:∀ h' e,Heap.ExtBut it s.heap h'→(∃ o,h'.get? e=some o∧o.cls=.type "StopIteration")→E (.ref e) { s with heap:=h' }) :
  wpAny (model prog w) A (Builtin.SmallTypes.nextOf (.ref it)) Q E s:=by
 obtain ⟨o,ho,hc,hd⟩:=id hit
 obtain ⟨ol,hol,_,nl,hdl⟩:=hl
 unfold Builtin.SmallTypes.nextOf
 refine wpAny_bind (wpAny_callSpecial?_slot (name:=Str.ofString "__next__") hit.typeIs F.slot_tuple_iterator_next
  (wpAny_call_entry F.slot_tuple_iterator_next hit.typeIs F.entry_tuple_iterator_next ?_ (F.args_tuple_iterator_next_1 _)))
 show wpAny _ _ (field (.ref it) 0 >>= _) _ _ s
 refine wpAny_bind (wpAny_field ho hd (x:=.ref l) rfl ?_)
 show wpAny _ _ (if (Value.ref l==Value.none)=true then _ else _) _ _ s
 rw [if_neg (show ¬ ((Value.ref l==Value.none)=true) from Bool.false_ne_true)]
 show wpAny _ _ (field (.ref it) 1 >>= _) _ _ s
 refine wpAny_bind (wpAny_field ho hd (x:=.int i 0) rfl ?_)
 show wpAny _ _ (seqItems? (.ref l) >>= _) _ _ s
 refine wpAny_bind (wpAny_seqItems hol hdl ?_)
 simp only [Int.toNat_natCast,hx]
 refine wpAny_bind (wpAny_rule (wpAny_bind (wpAny_setField ho hd (by simp) ?_)))
 show wpAny _ _ (newExc (.type "StopIteration") [] >>= _) _ _ _
 refine wpAny_bind ?_
 simp only [newExc,newTuple]
 refine wpAny_bind (wpAny_newObj_type ?_ (by size_fits))
 refine wpAny_bind (m:=firstArgMember _ _) (wpAny_of_eq (a:=Value.none) (by first|rfl|(simp only [firstArgMember];rfl)) ?_)
 refine wpAny_newObj_type ?_ (by size_fits)
 simp only [raiseNew]
 refine wpAny_bind (wpAny_handled ?_)
 first|rw [show A.in1.handled=none from hh]|rw [hh]
 refine wpAny_bind (wpAny_pure (wpAny_throw ?_))
 exact hE _ _ (((Heap.SameBut.update ..).extBut.push _).push _) ⟨_,Heap.get?_push_size _ rfl,rfl⟩
end
theorem o8 {prog:Program} {w:World} {A:Around} (hh:A.handled=none) (it l:Addr) (hne:l≠it) (items:Array Value) :
  Draws prog w A it [it,l] items.size (fun i v=>items[i]?=some v) (fun i h=>h.IsTupleIter it l i∧h.IsTuple l items) where
 live:=fun _ _ st=>let ⟨o,ho,_⟩:=st.1;⟨o,ho⟩
 frame:=fun _ _ _ st hk=>⟨(let ⟨o,e,r⟩:=st.1;⟨o,hk it (by simp) o e,r⟩),by
  obtain ⟨o,e,r⟩:=st.2
  exact ⟨o,hk l (by simp) o e,r⟩⟩
 item:=fun i s Q E hi st hQ=>by
  refine je st.1 st.2 (x:=items[i]) (by simp [hi]) fun h' hit' hs'=>?_
  refine hQ _ h' s.toks (by simp [hi]) ⟨hit',?_⟩ hs'
  obtain ⟨o,e,r⟩:=st.2
  exact ⟨o,hs'.extBut l o hne e,r⟩
 done:=fun s Q E st hE=>jF hh st.1 st.2 (by simp) hE
structure ZA (z TI TO i1 i2:Addr) (fp1 fp2:List Addr):Prop where
 TIz:TI≠z
 TOz:TO≠z
 TITO:TI≠TO
 TIi1:TI≠i1
 TIi2:TI≠i2
 TOi1:TO≠i1
 TOi2:TO≠i2
 i1z:i1≠z
 i2z:i2≠z
 i12:i1≠i2
 z1:z∉fp1
 z2:z∉fp2
 TO1:TO∉fp1
 TO2:TO∉fp2
 i1f:i1∉fp2
 i2f:i2∉fp1
section
variable {prog:Program} {w:World} {A:Around} {E:Value→Shared→Prop} {s:Shared} {z TI TO i1 i2:Addr} {fp1 fp2:List Addr} {n1 n2 k:Nat} {P1 P2:Nat→Value→Prop} {St1 St2:Nat→Heap→Prop}
theorem bH {St:Nat→Heap→Prop} {fp:List Addr} {n:Nat} {P:Nat→Value→Prop} {it c:Addr} {k:Nat} {h h':Heap} (D:Draws prog w A it fp n P St) (st:St k h) (sb:Heap.SameBut c h h') (hc:c∉fp):St k h' :=
 D.frame _ _ _ st fun b hb o e=>sb.extBut b o (fun q=>hc (q ▸ hb)) e
theorem vj {a b:Value} {Q:Value→Shared→Prop} (D1:Draws prog w A i1 fp1 n1 P1 St1) (D2:Draws prog w A i2 fp2 n2 P2 St2) (D:ZA z TI TO i1 i2 fp1 fp2)
  (hz:IsZip s.heap z TI TO .none) (hTI:IsPair s.heap TI (.ref i1) (.ref i2)) (hTO:IsPair s.heap TO a b) (h1:St1 k s.heap) (h2:St2 k s.heap) (l1:k < n1) (l2:k < n2)
  (hQ:∀ x y h' tk,P1 k x→P2 k y→IsZip h' z TI TO (rawInt s.heap.objs.size)→IsPair h' TO x y→St1 (k+1) h'→St2 (k+1) h'→IsPair h' s.heap.objs.size x y→h'.objs.size=s.heap.objs.size+1 →
   (∀ c o,c≠z→c≠TO→c≠i1→c≠i2→s.heap.get? c=some o→h'.get? c=some o)→Q (.ref s.heap.objs.size) { s with heap:=h',toks:=tk }) :
  wpAny (model prog w) A (Builtin.«zip.__next__» ⟨[.ref z],[]⟩) (fun fin s'=>∃ v,fin=.done (.ret v)∧Q v s') E s:=by
 obtain ⟨hp,g,d,tk0,os⟩:=s
 show wpAny _ _ (field (.ref z) 2 >>= _) _ _ _
 refine wpAny_bind (wpAny_field hz rfl (x:=.bool false) rfl ?_)
 show wpAny _ _ (field (.ref z) 3 >>= _) _ _ _
 refine wpAny_bind (wpAny_field hz rfl (x:=.ref TI) rfl ?_)
 refine wpAny_bind (wpAny_seqItems hTI rfl ?_)
 show wpAny _ _ (Builtin.SmallTypes.ownedTupleIsFree (.ref z) >>= _) _ _ _
 refine wpAny_bind ?_
 unfold Builtin.SmallTypes.ownedTupleIsFree
 refine wpAny_bind (wpAny_field hz rfl (x:=.none) rfl (wpAny_pure ?_))
 simp only [if_true]
 refine wpAny_bind (wpAny_rule ?_)
 refine wpAny_bind (wpAny_field hz rfl (x:=.ref TO) rfl ?_)
 refine wpAny_bind (wpAny_setField_rec hz (by simp) fun h₁ hz₁ hs₁=>?_)
 replace hz₁:IsZip h₁ z TI TO .ellipsis:=hz₁
 replace hs₁:Heap.SameBut z hp h₁:=hs₁
 refine wpAny_bind ?_
 simp only [List.zipIdx_cons,List.zipIdx_nil,List.forIn_cons,List.forIn_nil]
 refine wpAny_bind (wpAny_bind (wpAny_onRaise ?_))
 show wpAny _ _ (Builtin.SmallTypes.nextOf (.ref i1) >>= _) _ _ _
 refine wpAny_bind (D1.item k ⟨h₁,g,d,tk0,os⟩ _ _ l1 (bH D1 h1 hs₁ D.z1) fun x h₂ tk2 px h1₂ hs₂=>wpAny_pure ?_)
 replace hs₂:Heap.SameBut i1 h₁ h₂:=hs₂
 have hTO₂:IsPair h₂ TO a b:=hs₂.extBut _ _ D.TOi1 (hs₁.extBut _ _ D.TOz hTO)
 show wpAny _ _ _ _ _ ⟨h₂,g,d,tk2,os⟩
 refine wpAny_bind (wpAny_seqItems hTO₂ rfl ?_)
 refine wpAny_bind (wpAny_updateSeq_pair hTO₂ fun h₃ hTO₃ hs₃=>?_)
 replace hTO₃:IsPair h₃ TO x b:=hTO₃
 replace hs₃:Heap.SameBut TO h₂ h₃:=hs₃
 refine wpAny_bind (wpAny_letGo (wpAny_pure ?_))
 refine wpAny_bind (wpAny_bind (wpAny_onRaise ?_))
 show wpAny _ _ (Builtin.SmallTypes.nextOf (.ref i2) >>= _) _ _ _
 refine wpAny_bind (D2.item k ⟨h₃,g,d,tk2,os⟩ _ _ l2 (bH D2 (bH D2 (bH D2 h2 hs₁ D.z2) hs₂ D.i1f) hs₃ D.TO2) fun y h₄ tk4 py h2₄ hs₄=>wpAny_pure ?_)
 replace hs₄:Heap.SameBut i2 h₃ h₄:=hs₄
 have hTO₄:IsPair h₄ TO x b:=hs₄.extBut _ _ D.TOi2 hTO₃
 show wpAny _ _ _ _ _ ⟨h₄,g,d,tk4,os⟩
 refine wpAny_bind (wpAny_seqItems hTO₄ rfl ?_)
 refine wpAny_bind (wpAny_updateSeq_pair hTO₄ fun h₅ hTO₅ hs₅=>?_)
 replace hTO₅:IsPair h₅ TO x y:=hTO₅
 replace hs₅:Heap.SameBut TO h₄ h₅:=hs₅
 refine wpAny_bind (wpAny_letGo (wpAny_pure (wpAny_pure ?_)))
 refine wpAny_bind (wpAny_seqItems hTO₅ rfl ?_)
 refine wpAny_bind (wpAny_newTuple ?_)
 have hsz:h₅.objs.size=hp.objs.size:=by rw [hs₅.1,hs₄.1,hs₃.1,hs₂.1,hs₁.1]
 have hz₅:IsZip h₅ z TI TO .ellipsis:=hs₅.extBut _ _ D.TOz.symm (hs₄.extBut _ _ D.i2z.symm (hs₃.extBut _ _ D.TOz.symm (hs₂.extBut _ _ D.i1z.symm hz₁)))
 have hk₅:∀ c o,c≠z→c≠TO→c≠i1→c≠i2→hp.get? c=some o→h₅.get? c=some o:=fun c o c1 c2 c3 c4 e =>
  hs₅.extBut _ _ c2 (hs₄.extBut _ _ c4 (hs₃.extBut _ _ c2 (hs₂.extBut _ _ c3 (hs₁.extBut _ _ c1 e))))
 have h1₅:St1 (k+1) h₅:=bH D1 (bH D1 (bH D1 h1₂ hs₃ D.TO1) hs₄ D.i2f) hs₅ D.TO1
 have h2₅:St2 (k+1) h₅:=bH D2 h2₄ hs₅ D.TO2
 have hzlt:z < h₅.objs.size:=Heap.lt_size hz₅
 show wpAny _ _ (Builtin.SmallTypes.ownedTupleHandOut (.ref z) (.ref h₅.objs.size) >>= _) _ _ _
 refine wpAny_bind ?_
 unfold Builtin.SmallTypes.ownedTupleHandOut
 have hz₆:IsZip (h₅.push { cls:=.type "tuple",data:=.seq #[x,y] }) z TI TO .ellipsis:=Heap.get?_push_of_some _ hz₅
 refine wpAny_bind (wpAny_setField_rec hz₆ (by simp) fun h₇ hz₇ hs₇=>?_)
 replace hz₇:IsZip h₇ z TI TO (rawInt h₅.objs.size):=hz₇
 replace hs₇:Heap.SameBut z (h₅.push { cls:=.type "tuple",data:=.seq #[x,y] }) h₇:=hs₇
 refine wpAny_setField_rec hz₇ (by simp) fun h₈ hz₈ hs₈=>?_
 replace hz₈:IsZip h₈ z TI TO (rawInt h₅.objs.size):=hz₈
 replace hs₈:Heap.SameBut z h₇ h₈:=hs₈
 have up:∀ c o,c≠z→h₅.get? c=some o→h₈.get? c=some o:=fun c o c1 e=>hs₈.extBut _ _ c1 (hs₇.extBut _ _ c1 (Heap.get?_push_of_some _ e))
 have hT₈:IsPair h₈ h₅.objs.size x y:=hs₈.extBut _ _ (Nat.ne_of_gt hzlt) (hs₇.extBut _ _ (Nat.ne_of_gt hzlt) (Heap.get?_push_size _ rfl))
 have hz8:h₈.objs.size=h₅.objs.size+1:=by rw [hs₈.1,hs₇.1,Heap.size_push]
 rw [hsz] at hz₈ hT₈ hz8
 refine wpAny_pure ⟨_,rfl,?_⟩
 show Q (.ref h₅.objs.size) ⟨h₈,g,d,tk4,os⟩
 rw [hsz]
 exact hQ x y h₈ tk4 px py hz₈ (up _ _ D.TOz hTO₅) (D1.frame _ _ _ h1₅ fun b hb o e=>up b o (fun q=>D.z1 (q ▸ hb)) e) (D2.frame _ _ _ h2₅ fun b hb o e=>up b o (fun q=>D.z2 (q ▸ hb)) e) hT₈ hz8
  fun c o c1 c2 c3 c4 e=>up c o c1 (hk₅ c o c1 c2 c3 c4 e)
theorem wB {a b:Value} {Q:Fin→Shared→Prop} (D1:Draws prog w A i1 fp1 n1 P1 St1) (D2:Draws prog w A i2 fp2 n2 P2 St2) (D:ZA z TI TO i1 i2 fp1 fp2)
  (hz:IsZip s.heap z TI TO .none) (hTI:IsPair s.heap TI (.ref i1) (.ref i2)) (hTO:IsPair s.heap TO a b) (h1:St1 k s.heap) (h2:St2 k s.heap) (hend:k=n1∨(k < n1∧k=n2))
  (hE:∀ h' tk e,(∀ c o,c≠z→c≠TO→c≠i1→c≠i2→s.heap.get? c=some o→h'.get? c=some o)→(∃ o,h'.get? e=some o∧o.cls=.type "StopIteration")→E (.ref e) { s with heap:=h',toks:=tk }) :
  wpAny (model prog w) A (Builtin.«zip.__next__» ⟨[.ref z],[]⟩) Q E s:=by
 obtain ⟨hp,g,d,tk0,os⟩:=s
 show wpAny _ _ (field (.ref z) 2 >>= _) _ _ _
 refine wpAny_bind (wpAny_field hz rfl (x:=.bool false) rfl ?_)
 show wpAny _ _ (field (.ref z) 3 >>= _) _ _ _
 refine wpAny_bind (wpAny_field hz rfl (x:=.ref TI) rfl ?_)
 refine wpAny_bind (wpAny_seqItems hTI rfl ?_)
 show wpAny _ _ (Builtin.SmallTypes.ownedTupleIsFree (.ref z) >>= _) _ _ _
 refine wpAny_bind ?_
 unfold Builtin.SmallTypes.ownedTupleIsFree
 refine wpAny_bind (wpAny_field hz rfl (x:=.none) rfl (wpAny_pure ?_))
 simp only [if_true]
 refine wpAny_bind (wpAny_rule ?_)
 refine wpAny_bind (wpAny_field hz rfl (x:=.ref TO) rfl ?_)
 refine wpAny_bind (wpAny_setField_rec hz (by simp) fun h₁ hz₁ hs₁=>?_)
 replace hz₁:IsZip h₁ z TI TO .ellipsis:=hz₁
 replace hs₁:Heap.SameBut z hp h₁:=hs₁
 refine wpAny_bind ?_
 simp only [List.zipIdx_cons,List.zipIdx_nil,List.forIn_cons,List.forIn_nil]
 refine wpAny_bind (wpAny_bind (wpAny_onRaise ?_))
 show wpAny _ _ (Builtin.SmallTypes.nextOf (.ref i1) >>= _) _ _ _
 rcases hend with rfl|⟨l1,rfl⟩
 ·refine wpAny_bind (D1.done ⟨h₁,g,d,tk0,os⟩ _ _ (bH D1 h1 hs₁ D.z1) fun h₂ e hs₂ he=>?_)
  replace hs₂:Heap.ExtBut i1 h₁ h₂:=hs₂
  obtain ⟨oe,hoe,hce⟩:=he
  have hz₂:IsZip h₂ z TI TO .ellipsis:=hs₂ _ _ D.i1z.symm hz₁
  have hez:e≠z:=fun x=>by subst x;rw [hz₂] at hoe;cases hoe;simp at hce
  refine wpAny_setField_rec hz₂ (by simp) fun h₃ _ hs₃=>hE h₃ tk0 e (fun c o c1 _ c3 _ x=>hs₃.extBut _ _ c1 (hs₂ _ _ c3 (hs₁.extBut _ _ c1 x))) ⟨oe,hs₃.extBut _ _ hez hoe,hce⟩
 ·refine wpAny_bind (D1.item k ⟨h₁,g,d,tk0,os⟩ _ _ l1 (bH D1 h1 hs₁ D.z1) fun x h₂ tk2 px h1₂ hs₂=>wpAny_pure ?_)
  replace hs₂:Heap.SameBut i1 h₁ h₂:=hs₂
  have hTO₂:IsPair h₂ TO a b:=hs₂.extBut _ _ D.TOi1 (hs₁.extBut _ _ D.TOz hTO)
  show wpAny _ _ _ _ _ ⟨h₂,g,d,tk2,os⟩
  refine wpAny_bind (wpAny_seqItems hTO₂ rfl ?_)
  refine wpAny_bind (wpAny_updateSeq_pair hTO₂ fun h₃ hTO₃ hs₃=>?_)
  replace hs₃:Heap.SameBut TO h₂ h₃:=hs₃
  refine wpAny_bind (wpAny_letGo (wpAny_pure ?_))
  refine wpAny_bind (wpAny_bind (wpAny_onRaise ?_))
  show wpAny _ _ (Builtin.SmallTypes.nextOf (.ref i2) >>= _) _ _ _
  refine wpAny_bind (D2.done ⟨h₃,g,d,tk2,os⟩ _ _ (bH D2 (bH D2 (bH D2 h2 hs₁ D.z2) hs₂ D.i1f) hs₃ D.TO2) fun h₄ e hs₄ he=>?_)
  replace hs₄:Heap.ExtBut i2 h₃ h₄:=hs₄
  obtain ⟨oe,hoe,hce⟩:=he
  have hz₄:IsZip h₄ z TI TO .ellipsis:=hs₄ _ _ D.i2z.symm (hs₃.extBut _ _ D.TOz.symm (hs₂.extBut _ _ D.i1z.symm hz₁))
  have hez:e≠z:=fun x=>by subst x;rw [hz₄] at hoe;cases hoe;simp at hce
  refine wpAny_setField_rec hz₄ (by simp) fun h₅ _ hs₅=>hE h₅ tk2 e (fun c o c1 c2 c3 c4 x=>hs₅.extBut _ _ c1 (hs₄ _ _ c4 (hs₃.extBut _ _ c2 (hs₂.extBut _ _ c3 (hs₁.extBut _ _ c1 x))))) ⟨oe,hs₅.extBut _ _ hez hoe,hce⟩
end
theorem WalksT.zipD {prog:Program} {w:World} {A:Around} {z TI TO i1 i2:Addr} {fp1 fp2:List Addr} {n1 n2:Nat} {P1 P2:Nat→Value→Prop} {St1 St2:Nat→Heap→Prop}
  (D1:Draws prog w A.in1 i1 fp1 n1 P1 St1) (D2:Draws prog w A.in1 i2 fp2 n2 P2 St2) (D:ZA z TI TO i1 i2 fp1 fp2) (m1:i1∈fp1) (m2:i2∈fp2) :
  WalksT prog w A z (z::TI::TO::(fp1++fp2)) [z,TO,i1,i2] (min n1 n2)
   (fun i vals=>∃ x y,P1 i x∧P2 i y∧vals=#[x,y])
   (fun i h=>IsZip h z TI TO .none∧IsPair h TI (.ref i1) (.ref i2)∧(∃ a b,IsPair h TO a b)∧St1 i h∧St2 i h)
   (fun i T h=>IsZip h z TI TO (rawInt T)∧IsPair h TI (.ref i1) (.ref i2)∧(∃ a b,IsPair h TO a b)∧St1 (i+1) h∧St2 (i+1) h∧T≠z∧T≠TO∧T≠i1∧T≠i2) where
 sub:=fun c hc=>by simp at hc ⊢;rcases hc with rfl|rfl|rfl|rfl <;> simp [m1,m2]
 frame:=fun i h h' hst hk=>by
  obtain ⟨hz,hTI,⟨a,b,hTO⟩,h1,h2⟩:=hst
  exact ⟨hk z (by simp) _ hz,hk TI (by simp) _ hTI,⟨a,b,hk TO (by simp) _ hTO⟩,D1.frame _ _ _ h1 fun b hb o e=>hk b (by simp [hb]) o e,D2.frame _ _ _ h2 fun b hb o e=>hk b (by simp [hb]) o e⟩
 item:=fun i s Q E hi hst hQ=>by
  obtain ⟨hz,hTI,⟨a,b,hTO⟩,h1,h2⟩:=hst
  have hix:i < n1:=Nat.lt_of_lt_of_le hi (Nat.min_le_left ..)
  have hiy:i < n2:=Nat.lt_of_lt_of_le hi (Nat.min_le_right ..)
  have hT:s.TypeIs (.ref z) "zip":=⟨_,hz,rfl⟩
  unfold pyNext
  refine wpAny_bind (wpAny_attempt (wpAny_callSpecial?_slot (name:=Str.ofString "__next__") hT F.slot_zip_next
   (wpAny_call_entry F.slot_zip_next hT F.entry_zip_next (vj D1 D2 D hz hTI hTO h1 h2 hix hiy fun x y h' tk px py a1 a2 a3 a4 a5 a6 hk=>wpAny_pure ?_) (F.args_zip_next_1 _))))
  have lt:∀ {c o},s.heap.get? c=some o→s.heap.objs.size≠c:=fun e=>Nat.ne_of_gt (Heap.lt_size e)
  exact hQ s.heap.objs.size #[x,y] h' tk ⟨_,_,px,py,rfl⟩ (Nat.le_refl _) ⟨_,a5,rfl,_,rfl⟩
   ⟨a1,hk _ _ D.TIz D.TITO D.TIi1 D.TIi2 hTI,⟨_,_,a2⟩,a3,a4,lt hz,lt hTO,(by obtain ⟨_,e⟩:=D1.live _ _ h1;exact lt e),(by obtain ⟨_,e⟩:=D2.live _ _ h2;exact lt e)⟩
   fun c o hc e=>hk c o (fun x=>hc (by simp [x])) (fun x=>hc (by simp [x])) (fun x=>hc (by simp [x])) (fun x=>hc (by simp [x])) e
 go:=fun elts k pos i T s Q E hm hQ=>by
  obtain ⟨hz,hTI,⟨a,b,hTO⟩,h1,h2,_⟩:=hm
  refine wpAny_letOwnedTupleGo_zip hz fun h' hz' hs'=>hQ h' ⟨hz',hs'.extBut _ _ D.TIz hTI,⟨a,b,hs'.extBut _ _ D.TOz hTO⟩,bH D1 h1 hs' D.z1,bH D2 h2 hs' D.z2⟩ fun c o hc e=>hs'.extBut _ _ (fun x=>hc (by simp [x])) e
 apart:=fun i T h hm hT=>by
  obtain ⟨_,_,_,_,_,t1,t2,t3,t4⟩:=hm
  simp at hT
  rcases hT with rfl|rfl|rfl|rfl
  ·exact t1 rfl
  ·exact t2 rfl
  ·exact t3 rfl
  ·exact t4 rfl
 done:=fun s Q E hst hQ=>by
  obtain ⟨hz,hTI,⟨a,b,hTO⟩,h1,h2⟩:=hst
  have hend:min n1 n2=n1∨(min n1 n2 < n1∧min n1 n2=n2):=by omega
  have hT:s.TypeIs (.ref z) "zip":=⟨_,hz,rfl⟩
  unfold pyNext
  refine wpAny_bind (wpAny_attempt (wpAny_callSpecial?_slot (name:=Str.ofString "__next__") hT F.slot_zip_next
   (wpAny_call_entry F.slot_zip_next hT F.entry_zip_next (wB D1 D2 D hz hTI hTO h1 h2 hend fun h' tk e hk he=>?_) (F.args_zip_next_1 _))))
  obtain ⟨o,ho,hc⟩:=he
  refine wpAny_bind (wpAny_isInstance (T:="StopIteration") (b:=true) ⟨o,ho,hc⟩ isSubtype_stop ?_)
  exact wpAny_pure (hQ h' tk fun c o hc e=>hk c o (fun x=>hc (by simp [x])) (fun x=>hc (by simp [x])) (fun x=>hc (by simp [x])) (fun x=>hc (by simp [x])) e)
 self:=fun i s Q E hst hQ=>wpAny_pyIter_zip hst.1 hQ
def Iters (a:Value) (o:Obj) (h:Heap):Prop:=∀ (prog:Program) (w:World) (A:Around) (s:Shared) (Q:Value→Shared→Prop) (E:Value→Shared→Prop),(∀ b u,h.get? b=some u→s.heap.get? b=some u)→Q (.ref s.heap.objs.size) { s with heap:=s.heap.push o }→wpAny (model prog w) A (pyIter a) Q E s
abbrev zH3 (h:Heap) (o1 o2:Obj):Heap:=((h.push o1).push o2).push { cls:=.type "tuple",data:=.seq #[.ref h.objs.size,.ref (h.push o1).objs.size] }
abbrev zH4 (h:Heap) (o1 o2:Obj):Heap:=(zH3 h o1 o2).push { cls:=.type "tuple",data:=.seq #[.none,.none] }
abbrev zH5 (h:Heap) (o1 o2:Obj):Heap:=(zH4 h o1 o2).push { cls:=.type "zip",data:=.fields #[.none,.bool false,.bool false,.ref ((h.push o1).push o2).objs.size,.ref (zH3 h o1 o2).objs.size] }
theorem su (a b:Value) (o1 o2:Obj) :
  Meets (Builtin.«zip.__new__» ⟨[.type "zip",a,b],[]⟩) (fun _ R s=>Iters a o1 s.heap∧Iters b o2 s.heap∧R (.ok (.ret (.ref (zH4 s.heap o1 o2).objs.size))) { s with heap:=zH5 s.heap o1 o2 }) :=
 .of_wp fun prog w A R s h=>by
  obtain ⟨hp,g,d,tk,os⟩:=s;obtain ⟨hl1,hl2,h⟩:=h
  have hsub:=sub_zip
  have p1:∀ {A:Around} {Q:Value→Shared→Prop} {E:Value→Shared→Prop},Q (.ref hp.objs.size) ⟨hp.push o1,g,d,tk,os⟩→wpAny (model prog w) A (pyIter a) Q E ⟨hp,g,d,tk,os⟩:=fun {A Q E} q=>hl1 prog w A ⟨hp,g,d,tk,os⟩ Q E (fun _ _ e=>e) q
  have p2:∀ {A:Around} {Q:Value→Shared→Prop} {E:Value→Shared→Prop},Q (.ref (hp.push o1).objs.size) ⟨(hp.push o1).push o2,g,d,tk,os⟩→wpAny (model prog w) A (pyIter b) Q E ⟨hp.push o1,g,d,tk,os⟩:=fun {A Q E} q=>hl2 prog w A ⟨hp.push o1,g,d,tk,os⟩ Q E (fun _ _ e=>Heap.get?_push_of_some _ e) q
  wp_walk using p1,p2
  exact ⟨_,rfl,h⟩
section
variable {prog:Program} {w:World} {A:Around} {E:Value→Shared→Prop} {s:Shared}
theorem tF {a b:Value} {o1 o2:Obj} {Q:Value→Shared→Prop} (i1:Iters a o1 s.heap) (i2:Iters b o2 s.heap) (f1:o1.isFreed=false) (f2:o2.isFreed=false)
  (h:∀ h',IsZip h' (s.heap.objs.size+4) (s.heap.objs.size+2) (s.heap.objs.size+3) .none→IsPair h' (s.heap.objs.size+2) (.ref s.heap.objs.size) (.ref (s.heap.objs.size+1)) →
   IsPair h' (s.heap.objs.size+3) .none .none→h'.get? s.heap.objs.size=some o1→h'.get? (s.heap.objs.size+1)=some o2→h'.objs.size=s.heap.objs.size+5 →
   (∀ c o,s.heap.get? c=some o→h'.get? c=some o)→Q (.ref (s.heap.objs.size+4)) { s with heap:=h' }) :
  wpAny (model prog w) A (call (.type "zip") [a,b]) Q E s:=by
 refine callType_new F.called_zip (by decide) (F.typeCall_zip_2 _ _) (F.newCall_zip_2 _ _) (fun obj=>F.args_object_init_3 obj _ _) F.entry_zip_new
  (su a b o1 o2) ⟨i1,i2,?_⟩
 have z1:(s.heap.push o1).objs.size=s.heap.objs.size+1:=Heap.size_push ..
 have z2:((s.heap.push o1).push o2).objs.size=s.heap.objs.size+2:=by rw [Heap.size_push,z1]
 have z3:(zH3 s.heap o1 o2).objs.size=s.heap.objs.size+3:=by rw [Heap.size_push,z2]
 have z4:(zH4 s.heap o1 o2).objs.size=s.heap.objs.size+4:=by rw [Heap.size_push,z3]
 have z5:(zH5 s.heap o1 o2).objs.size=s.heap.objs.size+5:=by rw [Heap.size_push,z4]
 have g5:(zH5 s.heap o1 o2).get? (zH4 s.heap o1 o2).objs.size=some _:=Heap.get?_push_size _ rfl
 have g4:(zH5 s.heap o1 o2).get? (zH3 s.heap o1 o2).objs.size=some _:=Heap.get?_push_of_some _ (Heap.get?_push_size _ rfl)
 have g3:(zH5 s.heap o1 o2).get? ((s.heap.push o1).push o2).objs.size=some _:=Heap.get?_push_of_some _ (Heap.get?_push_of_some _ (Heap.get?_push_size _ rfl))
 have g2:(zH5 s.heap o1 o2).get? (s.heap.push o1).objs.size=some o2:=Heap.get?_push_of_some _ (Heap.get?_push_of_some _ (Heap.get?_push_of_some _ (Heap.get?_push_size _ f2)))
 have g1:(zH5 s.heap o1 o2).get? s.heap.objs.size=some o1:=Heap.get?_push_of_some _ (Heap.get?_push_of_some _ (Heap.get?_push_of_some _ (Heap.get?_push_of_some _ (Heap.get?_push_size _ f1))))
 show _∧_
 rw [z2,z3,z4] at g5
 rw [z1,z2] at g3
 rw [z3] at g4
 rw [z1] at g2
 rw [z4]
 exact ⟨⟨_,g5,rfl⟩,h _ g5 g3 g4 g1 g2 z5 fun c o x =>
  Heap.get?_push_of_some _ (Heap.get?_push_of_some _ (Heap.get?_push_of_some _ (Heap.get?_push_of_some _ (Heap.get?_push_of_some _ x))))⟩
end
end L2
namespace L2
open PySem PySem.Spec PyProof.Rows
theorem JE.imp {X:Cx} {e:Expr} {t t':TE} (h:JE X e t) (i:∀ σ H Q,t' σ H Q→t σ H Q):JE X e t':=⟨h.out.imp i⟩
theorem JT.imp {X:Cx} {e:Expr} {t t':TT} (h:JT X e t) (i:∀ σ H Q,t' σ H Q→t σ H Q):JT X e t':=⟨fun pins s σ H Q I q=>h.out pins s σ H Q I (i σ H Q q)⟩
theorem JW.imp {X:Cx} {e:Expr} {t t':TT} (h:JW X e t) (i:∀ σ H Q,t' σ H Q→t σ H Q):JW X e t':=⟨fun w pins s σ H Q I q=>h.out w pins s σ H Q I (i σ H Q q)⟩
theorem JA.imp {X:Cx} {es:List Expr} {t t':TA} (h:JA X es t) (i:∀ σ H Q,t' σ H Q→t σ H Q):JA X es t':=⟨fun pos pins s σ H Q I q=>h.out pos pins s σ H Q I (i σ H Q q)⟩
theorem JS.imp {X:Cx} {st:Stmt} {t t':TS} (h:JS X st t) (i:∀ D σ H,t' D σ H→t D σ H):JS X st t':=⟨fun pins s σ H D I q=>h.out pins s σ H D I (i D σ H q)⟩
theorem JB.imp {X:Cx} {st:List Stmt} {t t':TS} (h:JB X st t) (i:∀ D σ H,t' D σ H→t D σ H):JB X st t':=⟨fun pins s σ H D I q=>h.out pins s σ H D I (i D σ H q)⟩
theorem JG.imp {X:Cx} {e:Expr} {t t':TG} (h:JG X e t) (i:∀ v σ H Q,t' v σ H Q→t v σ H Q):JG X e t':=⟨fun pins s σ H v u Q I r q=>h.out pins s σ H v u Q I r (i v σ H Q q)⟩
theorem JGs.imp {X:Cx} {es:List Expr} {t t':TGs} (h:JGs X es t) (i:∀ v σ H Q,t' v σ H Q→t v σ H Q):JGs X es t':=⟨fun pins s σ H v u Q I r q=>h.out pins s σ H v u Q I r (i v σ H Q q)⟩
theorem JI.imp {X:Cx} {tg e:Expr} {t t':TI} (h:JI X tg e t) (i:∀ σ H R,t' σ H R→t σ H R):JI X tg e t':=⟨fun pins s σ H R I q=>h.out pins s σ H R I (i σ H R q)⟩
theorem JO.imp {X:Cx} {e:Option Expr} {t t':TO} (h:JO X e t) (i:∀ σ H Q,t' σ H Q→t σ H Q):JO X e t':=⟨fun pins s σ H Q I q=>h.out pins s σ H Q I (i σ H Q q)⟩
theorem JTs.imp {X:Cx} {es:List Expr} {t t':TT} (h:JTs X es t) (i:∀ σ H Q,t' σ H Q→t σ H Q):JTs X es t':=⟨fun pins s σ H Q I q=>h.out pins s σ H Q I (i σ H Q q)⟩
inductive D where
 | non|bl (b:Bool)|int (i:Int)|str (x:Str)|ty (n:String)
 | lst (xs:List D)|tup (xs:List D)|dct (kvs:List (Key×D))|obj (C:Addr) (fs:List (Str×D))
 /-- an exception that was caught,by its class's name;a class of the text -/
 | exn (x:Str)|cls (x:Str)
def ExcO (a C:Addr):HO:=.ext fun h=>∃ o vs,h.get? a=some o∧o.cls=.ref C∧o.dict=none∧o.data=.fields vs
section
variable (K:PySem.W.Frag) (H:Hp)
mutual
def Den:D→V→Prop
 | .non,v=>v=.non
 | .bl b,v=>v=.bl b
 | .int i,v=>v=.int i
 | .str x,v=>v=.str x
 | .ty n,v=>v=.ty n
 | .lst ds,v=>∃ a xs,v=.ref a∧SqL K H a xs∧Dens ds xs
 | .tup ds,v=>∃ a xs,v=.ref a∧SqT K H a xs∧Dens ds xs
 | .dct ds,v=>∃ a xs,v=.ref a∧H a=some (.dK xs)∧DenK ds xs
 | .obj C fs,v=>∃ a dx xs,v=.ref a∧H a=some (.ins C dx xs)∧DenF fs xs
 | .exn x,v=>∃ a C,v=.ref a∧PySem.W.nsIn K mainGlobals x=some (some (.ref C))∧H a=some (ExcO a C)
 | .cls x,v=>∃ C,v=.ref C∧PySem.W.nsIn K mainGlobals x=some (some (.ref C))
def Dens:List D→List V→Prop
 | [],xs=>xs=[]
 | d::ds,xs=>∃ v vs,xs=v::vs∧Den d v∧Dens ds vs
def DenK:List (Key×D)→List (Key×V)→Prop
 | [],xs=>xs=[]
 | (k,d)::ds,xs=>∃ v vs,xs=(k,v)::vs∧Den d v∧DenK ds vs
def DenF:List (Str×D)→List (Str×V)→Prop
 | [],xs=>xs=[]
 | (k,d)::ds,xs=>∃ v vs,xs=(k,v)::vs∧Den d v∧DenF ds vs
end
end
section
variable {K:PySem.W.Frag} {H H':Hp}
mutual
theorem Den.mono (s:Same H H'):∀ {d:D} {v:V},Den K H d v→Den K H' d v
 | .non,_,h=>h
 | .bl _,_,h=>h
 | .int _,_,h=>h
 | .str _,_,h=>h
 | .ty _,_,h=>h
 | .lst ds,_,⟨a,xs,e,h1,h2⟩=>⟨a,xs,e,s.seq h1,Dens.mono s h2⟩
 | .tup ds,_,⟨a,xs,e,h1,h2⟩=>⟨a,xs,e,s.seqT h1,Dens.mono s h2⟩
 | .dct ds,_,⟨a,xs,e,h1,h2⟩=>⟨a,xs,e,s _ _ h1,DenK.mono s h2⟩
 | .obj C ds,_,⟨a,dx,xs,e,h1,h2⟩=>⟨a,dx,xs,e,s _ _ h1,DenF.mono s h2⟩
 | .exn _,_,⟨a,C,e,h1,h2⟩=>⟨a,C,e,h1,s _ _ h2⟩
 | .cls _,_,h=>h
theorem Dens.mono (s:Same H H'):∀ {d:List D} {v:List V},Dens K H d v→Dens K H' d v
 | [],_,h=>h
 | d::ds,_,⟨v,vs,e,h1,h2⟩=>⟨v,vs,e,Den.mono s h1,Dens.mono s h2⟩
theorem DenK.mono (s:Same H H'):∀ {d:List (Key×D)} {v:List (Key×V)},DenK K H d v→DenK K H' d v
 | [],_,h=>h
 | (k,d)::ds,_,⟨v,vs,e,h1,h2⟩=>⟨v,vs,e,Den.mono s h1,DenK.mono s h2⟩
theorem DenF.mono (s:Same H H'):∀ {d:List (Str×D)} {v:List (Str×V)},DenF K H d v→DenF K H' d v
 | [],_,h=>h
 | (k,d)::ds,_,⟨v,vs,e,h1,h2⟩=>⟨v,vs,e,Den.mono s h1,DenF.mono s h2⟩
end
theorem Dens.len:∀ {ds:List D} {xs:List V},Dens K H ds xs→ds.length=xs.length
 | [],_,h=>by cases h;rfl
 | d::ds,_,⟨v,vs,e,h1,h2⟩=>by subst e;simp [Dens.len h2]
theorem Dens.get:∀ {ds:List D} {xs:List V} {i:Nat} {d:D},Dens K H ds xs→ds[i]?=some d→∃ v,xs[i]?=some v∧Den K H d v
 | [],_,_,_,_,e=>by simp at e
 | d::ds,_,0,_,⟨v,vs,e,h1,h2⟩,q=>by
  simp at q;subst q e;exact ⟨v,rfl,h1⟩
 | d::ds,_,i+1,_,⟨v,vs,e,h1,h2⟩,q=>by
  subst e
  obtain ⟨u,h3,h4⟩:=Dens.get (i:=i) h2 (by simpa using q)
  exact ⟨u,by simpa using h3,h4⟩
theorem Dens.got:∀ {ds:List D} {xs:List V} {i:Nat} {v:V},Dens K H ds xs→xs[i]?=some v→∃ d,ds[i]?=some d∧Den K H d v
 | [],_,_,_,h,e=>by cases h;simp at e
 | d::ds,_,0,_,⟨v,vs,e,h1,h2⟩,q=>by
  subst e;simp at q;subst q;exact ⟨d,rfl,h1⟩
 | d::ds,_,i+1,_,⟨v,vs,e,h1,h2⟩,q=>by
  subst e
  obtain ⟨u,h3,h4⟩:=Dens.got (i:=i) h2 (by simpa using q)
  exact ⟨u,by simpa using h3,h4⟩
theorem Dens.nil:Dens K H [] []:=rfl
theorem Dens.cons {d:D} {ds:List D} {v:V} {xs:List V} (h:Den K H d v) (t:Dens K H ds xs):Dens K H (d::ds) (v::xs):=⟨v,xs,rfl,h,t⟩
theorem Dens.append:∀ {ds es:List D} {xs ys:List V},Dens K H ds xs→Dens K H es ys→Dens K H (ds++es) (xs++ys)
 | [],_,_,_,h,t=>by cases h;exact t
 | d::ds,_,_,_,⟨v,vs,e,h1,h2⟩,t=>by subst e;exact ⟨v,_,rfl,h1,Dens.append h2 t⟩
theorem Dens.take:∀ {ds:List D} {xs:List V} (n:Nat),Dens K H ds xs→Dens K H (ds.take n) (xs.take n)
 | _,_,0,_=>by simp only [List.take_zero];exact rfl
 | [],_,n+1,h=>by cases h;exact rfl
 | d::ds,_,n+1,⟨v,vs,e,h1,h2⟩=>by subst e;exact ⟨v,_,rfl,h1,Dens.take n h2⟩
theorem Dens.drop:∀ {ds:List D} {xs:List V} (n:Nat),Dens K H ds xs→Dens K H (ds.drop n) (xs.drop n)
 | _,_,0,h=>h
 | [],_,n+1,h=>by cases h;exact rfl
 | d::ds,_,n+1,⟨v,vs,e,h1,h2⟩=>by subst e;exact Dens.drop n h2
end
def mask (as:List Addr) (H:Hp):Hp:=fun b=>if b∈as then none else H b
theorem dR {as:List Addr} {H:Hp} {b:Addr} (h:b∈as):mask as H b=none:=if_pos h
theorem a9 {as:List Addr} {H:Hp} {b:Addr} (h:b∉as):mask as H b=H b:=if_neg h
theorem wl {H:Hp}:mask [] H=H:=by funext b;exact if_neg (by simp)
theorem aC (as:List Addr) (H:Hp):Same (mask as H) H:=fun b o e=>by
 unfold mask at e
 split at e
 ·cases e
 ·exact e
theorem aW {as:List Addr} {H H':Hp} (s:Same H H'):Same (mask as H) (mask as H'):=fun b o e=>by
 unfold mask at e ⊢
 split at e
 ·cases e
 ·rename_i h;rw [if_neg h];exact s b o e
theorem mG (as bs:List Addr) (H:Hp):mask (as++bs) H=mask bs (mask as H):=by
 funext b
 unfold mask
 by_cases h1:b∈as <;> by_cases h2:b∈bs <;> simp [h1,h2]
theorem jZ {as bs:List Addr} {H:Hp} (h:∀ a∈bs,a∈as):Same (mask as H) (mask bs H):=fun b o e=>by
 by_cases hb:b∈as
 ·rw [dR hb] at e;cases e
 ·rw [a9 hb] at e
  rw [a9 fun z=>hb (h b z)]
  exact e
theorem uG {as:List Addr} {B H:Hp} (s:Same B H) (h:∀ a∈as,B a=none):Same B (mask as H):=fun b o e=>by
 have hb:b∉as:=fun z=>by rw [h b z] at e;cases e
 rw [a9 hb]
 exact s b o e
inductive R (α:Type) where
 | ok (a:α)
 | er (x:Str)
 | no
def R.bind {α β:Type} (r:R α) (f:α→R β):R β:=match r with
 | .ok a=>f a
 | .er x=>.er x
 | .no=>.no
theorem aD {α β:Type} {a:α} {f:α→R β}:(R.ok a).bind f=f a:=rfl
theorem bind_assoc {α β γ:Type} (r:R α) (f:α→R β) (g:β→R γ):(r.bind f).bind g=r.bind fun a=>(f a).bind g:=by cases r <;> rfl
structure Wd where
 K:PySem.W.Frag
 mg:Str→Option Value
 E:XK
abbrev Sd:=List (Option D)
def Fits (W:Wd) (as:List Addr) (H:Hp) (r:R D) (Q:VK):Prop:=match r with
 | .ok d=>∀ v H',Same H H'→Den W.K (mask as H') d v→Q v H'
 | .er x=>∀ e C H',Same H H'→W.mg x=some (.ref C)→W.E e (some C) H'
 | .no=>False
def FitsA (W:Wd) (as:List Addr) (H:Hp) (r:R (List D)) (Q:List V→Hp→Prop):Prop:=match r with
 | .ok d=>∀ v H',Same H H'→Dens W.K (mask as H') d v→Q v H'
 | .er x=>∀ e C H',Same H H'→W.mg x=some (.ref C)→W.E e (some C) H'
 | .no=>False
def FitsP {α:Type} (W:Wd) (H:Hp) (r:R α) (Q:α→Hp→Prop):Prop:=match r with
 | .ok b=>∀ H',Same H H'→Q b H'
 | .er x=>∀ e C H',Same H H'→W.mg x=some (.ref C)→W.E e (some C) H'
 | .no=>False
def OwnD (K:PySem.W.Frag) (H:Hp) (o:HO):D→Prop
 | .lst ds=>∃ xs,o=.lst xs∧Dens K H ds xs
 | .dct ds=>∃ xs,o=.dK xs∧DenK K H ds xs
 | .obj C ds=>∃ dx xs,o=.ins C dx xs∧DenF K H ds xs
 | _=>False
def FitsN (W:Wd) (as:List Addr) (H:Hp) (r:R D) (Q:VK):Prop:=match r with
 | .ok d=>∀ p o H',Same H H'→H p=none→H' p=some o→OwnD W.K (mask (p::as) H') o d→Q (.ref p) H'
 | .er x=>∀ e C H',Same H H'→W.mg x=some (.ref C)→W.E e (some C) H'
 | .no=>False
theorem Fits.mono {W:Wd} {as:List Addr} {H H':Hp} {r:R D} {Q:VK} (h:Fits W as H r Q) (s:Same H H'):Fits W as H' r Q:=by
 cases r with
 | ok d=>exact fun v H2 s2=>h v H2 (s.trans s2)
 | er x=>exact fun e C H2 s2=>h e C H2 (s.trans s2)
 | no=>exact h
theorem FitsN.mono {W:Wd} {as:List Addr} {H H':Hp} {r:R D} {Q:VK} (h:FitsN W as H r Q) (s:Same H H'):FitsN W as H' r Q:=by
 cases r with
 | ok d=>exact fun p o H2 s2 hp=>h p o H2 (s.trans s2) (s.free hp)
 | er x=>exact fun e C H2 s2=>h e C H2 (s.trans s2)
 | no=>exact h
theorem FitsA.mono {W:Wd} {as:List Addr} {H H':Hp} {r:R (List D)} {Q:List V→Hp→Prop} (h:FitsA W as H r Q) (s:Same H H'):FitsA W as H' r Q:=by
 cases r with
 | ok d=>exact fun v H2 s2=>h v H2 (s.trans s2)
 | er x=>exact fun e C H2 s2=>h e C H2 (s.trans s2)
 | no=>exact h
theorem FitsP.mono {α:Type} {W:Wd} {H H':Hp} {r:R α} {Q:α→Hp→Prop} (h:FitsP W H r Q) (s:Same H H'):FitsP W H' r Q:=by
 cases r with
 | ok d=>exact fun H2 s2=>h H2 (s.trans s2)
 | er x=>exact fun e C H2 s2=>h e C H2 (s.trans s2)
 | no=>exact h
theorem OwnD.den {K:PySem.W.Frag} {H:Hp} {p:Addr} {as:List Addr} {o:HO} {d:D} (hp:p∉as) (e:H p=some o) (h:OwnD K (mask (p::as) H) o d):Den K (mask as H) d (.ref p):=by
 have s:Same (mask (p::as) H) (mask as H):=jZ fun a ha=>List.mem_cons_of_mem _ ha
 have e':mask as H p=some o:=by rw [a9 hp];exact e
 cases d with
 | lst ds=>obtain ⟨xs,rfl,h⟩:=h;exact ⟨p,xs,rfl,.inl (.inl e'),h.mono s⟩
 | dct ds=>obtain ⟨xs,rfl,h⟩:=h;exact ⟨p,xs,rfl,e',h.mono s⟩
 | obj C ds=>obtain ⟨dx,xs,rfl,h⟩:=h;exact ⟨p,dx,xs,rfl,e',h.mono s⟩
 | _=>exact h.elim
structure DI (K:PySem.W.Frag) (as0:List Addr) (B:Hp) (O:List Nat) (own:List Addr) (σ:St) (δ:Sd) (H:Hp):Prop where
 len:δ.length=σ.length
 olen:own.length=O.length
 nd:own.Nodup
 ond:O.Nodup
 fresh:∀ a∈own,B a=none
 ex0:∀ a∈as0,B a≠none
 same:Same B H
 var:∀ i d,i∉O→δ[i]?=some (some d)→∃ v,σ[i]?=some (some v)∧Den K (mask (own++as0) H) d v
 owns:∀ i a,(i,a)∈O.zip own→∃ d o,δ[i]?=some (some d)∧σ[i]?=some (some (.ref a))∧H a=some o∧OwnD K (mask (own++as0) H) o d
section
variable {K:PySem.W.Frag} {as0 own:List Addr} {B H H':Hp} {O:List Nat} {σ:St} {δ:Sd}
theorem OwnD.mono {o:HO} {d:D} (s:Same H H') (h:OwnD K H o d):OwnD K H' o d:=by
 cases d with
 | lst ds=>obtain ⟨xs,rfl,h⟩:=h;exact ⟨xs,rfl,h.mono s⟩
 | dct ds=>obtain ⟨xs,rfl,h⟩:=h;exact ⟨xs,rfl,h.mono s⟩
 | obj C ds=>obtain ⟨dx,xs,rfl,h⟩:=h;exact ⟨dx,xs,rfl,h.mono s⟩
 | _=>exact h.elim
theorem nz:∀ {O:List Nat} {own:List Addr} {a:Addr},own.length=O.length→a∈own→∃ i,(i,a)∈O.zip own
 | [],[],_,_,h=>by cases h
 | i::O,b::own,a,l,h=>by
  rcases List.mem_cons.mp h with rfl|h
  ·exact ⟨i,List.mem_cons_self⟩
  ·obtain ⟨j,hj⟩:=nz (O:=O) (own:=own) (by simpa using l) h
   exact ⟨j,List.mem_cons_of_mem _ hj⟩
 | [],_::_,_,l,_=>by simp at l
 | _::_,[],_,_,h=>by cases h
theorem DI.exi (I:DI K as0 B O own σ δ H):∀ a∈own++as0,H a≠none:=fun a ha=>by
 rcases List.mem_append.mp ha with h|h
 ·obtain ⟨i,hi⟩:=nz I.olen h
  obtain ⟨d,o,_,_,e,_⟩:=I.owns i a hi
  rw [e];simp
 ·cases e:B a with
  | none=>exact absurd e (I.ex0 a h)
  | some o=>rw [I.same a o e];simp
theorem DI.new (I:DI K as0 B O own σ δ H) {p:Addr} (h:H p=none):p∉own++as0:=fun z=>I.exi p z h
theorem DI.mono (I:DI K as0 B O own σ δ H) (s:Same H H'):DI K as0 B O own σ δ H' :=
 ⟨I.len,I.olen,I.nd,I.ond,I.fresh,I.ex0,I.same.trans s,fun i d hi e=>let ⟨v,h1,h2⟩:=I.var i d hi e;⟨v,h1,h2.mono (aW s)⟩,
  fun i a hi=>let ⟨d,o,h1,h2,h3,h4⟩:=I.owns i a hi;⟨d,o,h1,h2,s a o h3,h4.mono (aW s)⟩⟩
theorem DI.base {B':Hp} (I:DI K as0 B' O own σ δ H) (s:Same B B') (h:∀ a∈as0,B a≠none):DI K as0 B O own σ δ H :=
 ⟨I.len,I.olen,I.nd,I.ond,fun a ha=>s.free (I.fresh a ha),h,s.trans I.same,I.var,I.owns⟩
theorem DI.rebase (I:DI K as0 B O own σ δ H) (h0:∀ a∈own,a∉as0):DI K as0 (mask own H) O own σ δ H :=
 ⟨I.len,I.olen,I.nd,I.ond,fun a ha=>dR ha,fun a ha=>(by
  rw [a9 fun z=>h0 a z ha]
  cases e:B a with
  | none=>exact absurd e (I.ex0 a ha)
  | some o=>rw [I.same a o e];simp),aC _ _,I.var,I.owns⟩
theorem DI.apart (I:DI K as0 B O own σ δ H):∀ a∈own,a∉as0:=fun a ha z=>I.ex0 a z (I.fresh a ha)
theorem DI.baseIn (I:DI K as0 B O own σ δ H):Same B (mask own H):=uG I.same I.fresh
end
abbrev FE:=Sd→R D
abbrev FT:=Sd→R Bool
abbrev FA:=Sd→R (List D)
def tD (W:Wd) (O:List Nat) (φ:FE):TE:=fun σ H Q=>∃ as0 B own δ,DI W.K as0 B O own σ δ H∧Fits W (own++as0) H (φ δ) Q
def tN (W:Wd) (O:List Nat) (φ:FE):TE:=fun σ H Q=>∃ as0 B own δ,DI W.K as0 B O own σ δ H∧FitsN W (own++as0) H (φ δ) Q
def tDT (W:Wd) (O:List Nat) (φ:FT):TT:=fun σ H Q=>∃ as0 B own δ,DI W.K as0 B O own σ δ H∧FitsP W H (φ δ) Q
def tDA (W:Wd) (O:List Nat) (φ:FA):TA:=fun σ H Q=>∃ as0 B own δ,DI W.K as0 B O own σ δ H∧FitsA W (own++as0) H (φ δ) Q
def tDO (W:Wd) (O:List Nat) (φ:Sd→R (Option Int)):TO:=fun σ H Q=>∃ as0 B own δ,DI W.K as0 B O own σ δ H∧FitsP W H (φ δ) Q
section
variable {W:Wd} {as:List Addr} {H:Hp} {Q:VK}
theorem bt {r:R D} {f:D→R D} {Q':VK} (h:Fits W as H (r.bind f) Q) (q:∀ d v H',Same H H'→Den W.K (mask as H') d v→Fits W as H' (f d) Q→Q' v H'):Fits W as H r Q':=by
 cases r with
 | ok d=>exact fun v H' s dv=>q d v H' s dv (Fits.mono h s)
 | er x=>exact h
 | no=>exact h
theorem c6 {r:R (List D)} {f:List D→R D} {Q':List V→Hp→Prop} (h:Fits W as H (r.bind f) Q) (q:∀ d v H',Same H H'→Dens W.K (mask as H') d v→Fits W as H' (f d) Q→Q' v H'):FitsA W as H r Q':=by
 cases r with
 | ok d=>exact fun v H' s dv=>q d v H' s dv (Fits.mono h s)
 | er x=>exact h
 | no=>exact h
theorem gY {r:R (List D)} {f:List D→R D} {Q':List V→Hp→Prop} (h:FitsN W as H (r.bind f) Q) (q:∀ d v H',Same H H'→Dens W.K (mask as H') d v→FitsN W as H' (f d) Q→Q' v H'):FitsA W as H r Q':=by
 cases r with
 | ok d=>exact fun v H' s dv=>q d v H' s dv (FitsN.mono h s)
 | er x=>exact h
 | no=>exact h
theorem jp {α:Type} {r:R α} {f:α→R D} {Q':α→Hp→Prop} (h:Fits W as H (r.bind f) Q) (q:∀ d H',Same H H'→Fits W as H' (f d) Q→Q' d H'):FitsP W H r Q':=by
 cases r with
 | ok d=>exact fun H' s=>q d H' s (Fits.mono h s)
 | er x=>exact h
 | no=>exact h
theorem cZ {α:Type} {r:R D} {f:D→R α} {Q:α→Hp→Prop} {Q':VK} (h:FitsP W H (r.bind f) Q) (q:∀ d v H',Same H H'→Den W.K (mask as H') d v→FitsP W H' (f d) Q→Q' v H'):Fits W as H r Q':=by
 cases r with
 | ok d=>exact fun v H' s dv=>q d v H' s dv (FitsP.mono h s)
 | er x=>exact h
 | no=>exact h
theorem ii {α β:Type} {r:R α} {f:α→R β} {Q:β→Hp→Prop} {Q':α→Hp→Prop} (h:FitsP W H (r.bind f) Q) (q:∀ d H',Same H H'→FitsP W H' (f d) Q→Q' d H'):FitsP W H r Q':=by
 cases r with
 | ok d=>exact fun H' s=>q d H' s (FitsP.mono h s)
 | er x=>exact h
 | no=>exact h
theorem re {r:R D} {f:D→R (List D)} {Q:List V→Hp→Prop} {Q':VK} (h:FitsA W as H (r.bind f) Q) (q:∀ d v H',Same H H'→Den W.K (mask as H') d v→FitsA W as H' (f d) Q→Q' v H'):Fits W as H r Q':=by
 cases r with
 | ok d=>exact fun v H' s dv=>q d v H' s dv (FitsA.mono h s)
 | er x=>exact h
 | no=>exact h
theorem pK {r:R (List D)} {f:List D→R (List D)} {Q Q':List V→Hp→Prop} (h:FitsA W as H (r.bind f) Q) (q:∀ d v H',Same H H'→Dens W.K (mask as H') d v→FitsA W as H' (f d) Q→Q' v H'):FitsA W as H r Q':=by
 cases r with
 | ok d=>exact fun v H' s dv=>q d v H' s dv (FitsA.mono h s)
 | er x=>exact h
 | no=>exact h
end
section
variable {X:Cx} {W:Wd} {O:List Nat} {a b c e:Expr} {φ ψ χ:FE} {pos:Pos} {rest es:List Expr} {α:FA}
def ai (i:Nat):FE:=fun δ=>match δ[i]? with
 | some (some d)=>.ok d
 | _=>.no
def vC (d:D):FE:=fun _=>.ok d
theorem ag (i:Nat) {x:Str} (hO:i∉O:=by decide) (hN:X.N[i]?=some x:=by rfl) (hv:Vis X.env.scope x:=by first|exact Or.inl rfl|exact Or.inr (Or.inl rfl)|exact Or.inr (Or.inr rfl)) (hd:(x==("__debug__":Str))=false:=by decide)
  (hcd:(x==("__classdict__":Str))=false:=by decide):JE X (.Name x pos) (tD W O (ai i)):=(jv i hN hv hd hcd).imp fun σ H Q hh=>exE hh fun as0 B own δ I h=>by
 unfold ai at h
 split at h
 ·rename_i d e
  obtain ⟨v,h1,h2⟩:=I.var i d hO e
  show kVar σ[i]? H Q
  rw [h1]
  exact h v H (Same.refl H) h2
 ·exact h.elim
theorem ah {i j}:JE X (.Constant (.int i) j pos) (tD W O (vC (.int i))):=Bt.imp fun σ H Q hh=>exE hh fun as0 B own δ I h=>h _ H (Same.refl H) rfl
theorem oz {b j}:JE X (.Constant (.bool b) j pos) (tD W O (vC (.bl b))):=j_bl.imp fun σ H Q hh=>exE hh fun as0 B own δ I h=>h _ H (Same.refl H) rfl
theorem eN {j}:JE X (.Constant .none j pos) (tD W O (vC .non)):=BN.imp fun σ H Q hh=>exE hh fun as0 B own δ I h=>h _ H (Same.refl H) rfl
theorem ba {x j}:JE X (.Constant (.str x) j pos) (tD W O (vC (.str x))):=Bi.imp fun σ H Q hh=>exE hh fun as0 B own δ I h=>h _ H (Same.refl H) rfl
theorem lQ {x:Str} {d:D} {v:V} {u:Value} (hm:X.mg x=some u) (r:RelV v u) (hd:∀ H,Den W.K H d v) (hg:Gl X x:=by rfl) (hdb:(x==("__debug__":Str))=false:=by decide):JE X (.Name x pos) (tD W O (vC d)) :=
 (w4 hm r hg hdb).imp fun σ H Q hh=>exE hh fun as0 B own δ I h=>h _ H (Same.refl H) (hd _)
theorem mj {x:Str} {n:String} (hm:X.mg x=none) (hv:bootBuiltins x=some (.type n)) (hg:Gl X x:=by rfl) (hn:x≠"__name__":=by decide) (hd:(x==("__debug__":Str))=false:=by decide):JE X (.Name x pos) (tD W O (vC (.ty n))) :=
 (j_ty hm hv hg hn hd).imp fun σ H Q hh=>exE hh fun as0 B own δ I h=>h _ H (Same.refl H) rfl
def OpD (W:Wd) (r:R2) (op:D→D→R D):Prop:=∀ (as:List Addr) (H:Hp) (x y:V) (a b:D) (Q:VK),(∀ p,H p=none→p∉as)→Den W.K (mask as H) a x→Den W.K (mask as H) b y→Fits W as H (op a b) Q→r x y H Q
def vOp (op:D→D→R D) (φ ψ:FE):FE:=fun δ=>(φ δ).bind fun x=>(ψ δ).bind fun y=>op x y
theorem xK {t:TE→TE→TE} {r:R2} {op:D→D→R D} (ht:∀ {ta tb:TE},JE X a ta→JE X b tb→JE X e (t ta tb)) (et:t=tOp r) (ho:OpD W r op) (ha:JE X a (tD W O φ)) (hb:JE X b (tD W O ψ)):JE X e (tD W O (vOp op φ ψ)):=by
 subst et
 refine (ht ha hb).imp fun σ H Q hh=>exE hh fun as0 B own δ I h=>⟨as0,B,own,δ,I,bt h fun x v H1 s1 d1 h1=>⟨as0,B,own,δ,I.mono s1,bt h1 fun y u H2 s2 d2 h2=>?_⟩⟩
 exact ho (own++as0) H2 v u x y Q (fun p hp=>((I.mono s1).mono s2).new hp) (d1.mono (aW s2)) d2 h2
theorem aO {op:Operator} {r:R2} {g:D→D→R D} (ho:OpR X (binaryOp op) r) (hd:OpD W r g) (ha:JE X a (tD W O φ)) (hb:JE X b (tD W O ψ)):JE X (.BinOp a op b pos) (tD W O (vOp g φ ψ)) :=
 xK (t:=tOp r) (fun h1 h2=>j_op ho h1 h2) rfl hd ha hb
theorem fz {op:CmpOp} {r:R2} {g:D→D→R D} (ho:OpR X (compareOp op) r) (hd:OpD W r g) (ha:JE X a (tD W O φ)) (hb:JE X b (tD W O ψ)) (hm:behindInMarks op b=false):JE X (.Compare a [op] [b] pos) (tD W O (vOp g φ ψ)) :=
 xK (t:=tOp r) (fun h1 h2=>BE ho h1 h2 hm) rfl hd ha hb
theorem bp {r:R2} {g:D→D→R D} (hr:IxR X r) (hd:OpD W r g) (ha:JE X a (tD W O φ)) (hb:JE X b (tD W O ψ)) (hs:PlainIx b:=by exact fun _ _=>rfl):JE X (.Subscript a b pos) (tD W O (vOp g φ ψ)) :=
 xK (t:=tOp r) (fun h1 h2=>j_ix hr h1 h2 hs) rfl hd ha hb
def UnD (W:Wd) (r:V→Hp→VK→Prop) (op:D→R D):Prop:=∀ (as:List Addr) (H:Hp) (x:V) (a:D) (Q:VK),Den W.K (mask as H) a x→Fits W as H (op a) Q→r x H Q
def vUn (op:D→R D) (φ:FE):FE:=fun δ=>(φ δ).bind op
theorem wU {op:UnaryOp} {r:V→Hp→VK→Prop} {g:D→R D} (ho:UnR X (unaryOp op) r) (hd:UnD W r g) (ha:JE X a (tD W O φ)):JE X (.UnaryOp op a pos) (tD W O (vUn g φ)) :=
 (j_un ho ha).imp fun σ H Q hh=>exE hh fun as0 B own δ I h=>⟨as0,B,own,δ,I,bt h fun x v H1 s1 d1 h1=>hd (own++as0) H1 v x Q d1 h1⟩
def blD {α:Type} (d:D) (f:Bool→R α):R α:=match d with
 | .bl b=>f b
 | _=>.no
def vNot (φ:FE):FE:=fun δ=>(φ δ).bind fun x=>blD x fun b=>.ok (.bl (!b))
def vAnd (φ ψ:FE):FE:=fun δ=>(φ δ).bind fun x=>blD x fun b=>if b=true then ψ δ else .ok (.bl false)
def vOr (φ ψ:FE):FE:=fun δ=>(φ δ).bind fun x=>blD x fun b=>if b=true then .ok (.bl true) else ψ δ
theorem Aq (ha:JE X a (tD W O φ)):JE X (.UnaryOp .Not a pos) (tD W O (vNot φ)) :=
 (Bo ha).imp fun σ H Q hh=>exE hh fun as0 B own δ I h=>⟨as0,B,own,δ,I,bt h fun x v H1 s1 d1 h1=>by
  cases x with
  | bl b=>cases d1;exact h1 _ H1 (Same.refl _) rfl
  | _=>exact h1.elim⟩
theorem gR {op} (h:JE X a (tD W O φ)):JE X (.BoolOp op [a] pos) (tD W O φ):=Bp h
theorem fG (ha:JE X a (tD W O φ)) (hb:JE X (.BoolOp .And (b::rest) pos) (tD W O ψ)):JE X (.BoolOp .And (a::b::rest) pos) (tD W O (vAnd φ ψ)) :=
 (BZ ha hb).imp fun σ H Q hh=>exE hh fun as0 B own δ I h=>⟨as0,B,own,δ,I,bt h fun x v H1 s1 d1 h1=>by
  cases x with
  | bl b =>
   cases d1
   cases b with
   | true=>exact ⟨as0,B,own,δ,I.mono s1,h1⟩
   | false=>exact h1 _ H1 (Same.refl _) rfl
  | _=>exact h1.elim⟩
theorem d_or (ha:JE X a (tD W O φ)) (hb:JE X (.BoolOp .Or (b::rest) pos) (tD W O ψ)):JE X (.BoolOp .Or (a::b::rest) pos) (tD W O (vOr φ ψ)) :=
 (j_or ha hb).imp fun σ H Q hh=>exE hh fun as0 B own δ I h=>⟨as0,B,own,δ,I,bt h fun x v H1 s1 d1 h1=>by
  cases x with
  | bl b =>
   cases d1
   cases b with
   | false=>exact ⟨as0,B,own,δ,I.mono s1,h1⟩
   | true=>exact h1 _ H1 (Same.refl _) rfl
  | _=>exact h1.elim⟩
variable {τ υ:FT}
def qBl (φ:FE):FT:=fun δ=>(φ δ).bind fun x=>blD x .ok
theorem aI {op:CmpOp} {r:R2} {g:D→D→R D} (ho:OpR X (compareOp op) r) (hd:OpD W r g) (ha:JE X a (tD W O φ)) (hb:JE X b (tD W O ψ)) (hm:behindInMarks op b=false):JT X (.Compare a [op] [b] pos) (tDT W O (qBl (vOp g φ ψ))):=by
 refine (z8 ho ha hb hm).imp fun σ H Q hh=>exE hh fun as0 B own δ I h=>?_
 have h':FitsP W H ((φ δ).bind fun x=>((ψ δ).bind fun y=>g x y).bind fun x=>blD x .ok) Q:=by
  have e:qBl (vOp g φ ψ) δ=(φ δ).bind fun x=>((ψ δ).bind fun y=>g x y).bind fun x=>blD x .ok:=by
   unfold qBl vOp;rw [bind_assoc]
  rw [e] at h
  exact h
 refine ⟨as0,B,own,δ,I,cZ h' fun x v H1 s1 d1 h1=>?_⟩
 have h1':FitsP W H1 ((ψ δ).bind fun y=>(g x y).bind fun x=>blD x .ok) Q:=by rw [← bind_assoc];exact h1
 refine ⟨as0,B,own,δ,I.mono s1,cZ h1' fun y u H2 s2 d2 h2=>?_⟩
 refine hd (own++as0) H2 v u x y _ (fun p hp=>((I.mono s1).mono s2).new hp) (d1.mono (aW s2)) d2 (cZ h2 fun z w H3 s3 d3 h3=>?_)
 cases z with
 | bl k=>cases d3;exact h3 H3 (Same.refl _)
 | _=>exact h3.elim
def truD:D→R Bool
 | .non=>.ok false
 | .bl b=>.ok b
 | .int i=>.ok (i != 0)
 | .str y=>if y.length≤1000000 then .ok (y.length != 0) else .no
 | .lst xs=>.ok (!xs.isEmpty)
 | .tup xs=>.ok (!xs.isEmpty)
 | .dct kvs=>.ok (!kvs.isEmpty)
 | _=>.no
theorem Dens.empty {K:PySem.W.Frag} {H:Hp} {ds:List D} {xs:List V} (h:Dens K H ds xs):xs.isEmpty=ds.isEmpty:=by
 cases ds with
 | nil=>cases h;rfl
 | cons d r=>obtain ⟨v,vs,rfl,_⟩:=h;rfl
theorem DenK.empty {K:PySem.W.Frag} {H:Hp} {ds:List (Key×D)} {xs:List (Key×V)} (h:DenK K H ds xs):xs.isEmpty=ds.isEmpty:=by
 cases ds with
 | nil=>cases h;rfl
 | cons d r=>obtain ⟨k,d⟩:=d;obtain ⟨v,vs,rfl,_⟩:=h;rfl
theorem million:(1000000:Nat)≤sizeLine:=by rw [sizeLine_eq];decide
def fK (φ:FE):FT:=fun δ=>(φ δ).bind truD
theorem a7 (K:PySem.W.Frag) (ha:JE X a (tD W O φ)) (he:∀ whole,isTrue a X.env whole=(do let v ← whole;standAt a.pos;holding [v] (truthy v)):=by exact fun _=>rfl) (hK:X.K=K:=by rfl) (hW:W.K=K:=by rfl):JT X a (tDT W O (fK φ)) :=
 (wf K ha he hK).imp fun σ H Q hh=>exE hh fun as0 B own δ I h=>⟨as0,B,own,δ,I,cZ h fun x v H1 s1 d1 h1=>by
  subst hW
  cases x with
  | non=>cases d1;exact h1 H1 (Same.refl _)
  | bl b=>cases d1;exact h1 H1 (Same.refl _)
  | int i=>cases d1;exact h1 H1 (Same.refl _)
  | str y =>
   cases d1
   have h2:FitsP W H1 (if y.length≤1000000 then R.ok (y.length != 0) else R.no) Q:=h1
   split at h2
   ·rename_i hl
    refine ⟨Nat.le_trans hl million,?_⟩
    have e:((y.length:Int) != 0)=(y.length != 0):=by
     cases hy:y.length with
     | zero=>rfl
     | succ n=>simp;omega
    rw [e]
    exact h2 H1 (Same.refl _)
   ·exact h2.elim
  | lst ds =>
   obtain ⟨p,xs,rfl,q1,q2⟩:=d1
   refine .inl (.inl ⟨xs,(aC _ _).seq q1,?_⟩)
   rw [q2.empty]
   exact h1 H1 (Same.refl _)
  | tup ds =>
   obtain ⟨p,xs,rfl,q1,q2⟩:=d1
   refine .inl (.inr ⟨xs,(aC _ _).seqT q1,?_⟩)
   rw [q2.empty]
   exact h1 H1 (Same.refl _)
  | dct ds =>
   obtain ⟨p,xs,rfl,q1,q2⟩:=d1
   refine .inr ⟨xs,aC _ _ _ _ q1,?_⟩
   rw [q2.empty]
   exact h1 H1 (Same.refl _)
  | _=>exact h1.elim⟩
def qAnd (τ υ:FT):FT:=fun δ=>(τ δ).bind fun b=>if b=true then υ δ else .ok false
def qOr (τ υ:FT):FT:=fun δ=>(τ δ).bind fun b=>if b=true then .ok true else υ δ
def dX (τ:FT):FT:=fun δ=>(τ δ).bind fun b=>.ok (!b)
theorem b7 (h:JW X a (tDT W O τ)):JT X a (tDT W O τ):=xO h
theorem jh (ha:JT X a (tDT W O τ)):JW X (.BoolOp .And [a] pos) (tDT W O τ):=xB ha
theorem gT (ha:JT X a (tDT W O τ)):JW X (.BoolOp .Or [a] pos) (tDT W O τ):=zi ha
theorem kD (ha:JT X a (tDT W O τ)) (hb:JW X (.BoolOp .And (b::rest) pos) (tDT W O υ)):JW X (.BoolOp .And (a::b::rest) pos) (tDT W O (qAnd τ υ)) :=
 (Ak ha hb).imp fun σ H Q hh=>exE hh fun as0 B own δ I h=>⟨as0,B,own,δ,I,ii h fun c H1 s1 h1=>by
  cases c with
  | true=>exact ⟨as0,B,own,δ,I.mono s1,h1⟩
  | false=>exact h1 H1 (Same.refl _)⟩
theorem io (ha:JT X a (tDT W O τ)) (hb:JW X (.BoolOp .Or (b::rest) pos) (tDT W O υ)):JW X (.BoolOp .Or (a::b::rest) pos) (tDT W O (qOr τ υ)) :=
 (Bv ha hb).imp fun σ H Q hh=>exE hh fun as0 B own δ I h=>⟨as0,B,own,δ,I,ii h fun c H1 s1 h1=>by
  cases c with
  | false=>exact ⟨as0,B,own,δ,I.mono s1,h1⟩
  | true=>exact h1 H1 (Same.refl _)⟩
theorem bX (ha:JT X a (tDT W O τ)):JT X (.UnaryOp .Not a pos) (tDT W O (dX τ)) :=
 (zR ha).imp fun σ H Q hh=>exE hh fun as0 B own δ I h=>⟨as0,B,own,δ,I,ii h fun c H1 s1 h1=>h1 H1 (Same.refl _)⟩
def vIf (τ:FT) (φ ψ:FE):FE:=fun δ=>(τ δ).bind fun b=>if b=true then φ δ else ψ δ
theorem vE (hc:JT X c (tDT W O τ)) (ha:JE X a (tD W O φ)) (hb:JE X b (tD W O ψ)):JE X (.IfExp c a b pos) (tD W O (vIf τ φ ψ)) :=
 (Bg hc ha hb).imp fun σ H Q hh=>exE hh fun as0 B own δ I h=>⟨as0,B,own,δ,I,jp h fun c H1 s1 h1=>by
  cases c with
  | true=>exact ⟨as0,B,own,δ,I.mono s1,h1⟩
  | false=>exact ⟨as0,B,own,δ,I.mono s1,h1⟩⟩
def aq:FA:=fun _=>.ok []
def ae (φ:FE) (α:FA):FA:=fun δ=>(φ δ).bind fun d=>(α δ).bind fun ds=>.ok (d::ds)
theorem af:JA X [] (tDA W O aq):=qF.imp fun σ H Q hh=>exE hh fun as0 B own δ I h=>h [] H (Same.refl _) rfl
theorem aa (ha:JE X e (tD W O φ)) (hr:JA X es (tDA W O α)) (hn:noStar e=true:=by rfl):JA X (e::es) (tDA W O (ae φ α)) :=
 (mE ha hr hn).imp fun σ H Q hh=>exE hh fun as0 B own δ I h=>⟨as0,B,own,δ,I,re h fun d v H1 s1 d1 h1=>⟨as0,B,own,δ,I.mono s1,pK h1 fun ds vs H2 s2 d2 h2 =>
  h2 (v::vs) H2 (Same.refl _) ⟨v,vs,rfl,d1.mono (aW s2),d2⟩⟩⟩
def mkLst (ds:List D):R D:=if ds.length≤1000000 then .ok (.lst ds) else .no
def mkTup (ds:List D):R D:=if ds.length≤1000000 then .ok (.tup ds) else .no
def dF (α:FA):FE:=fun δ=>(α δ).bind mkLst
def bh (α:FA):FE:=fun δ=>(α δ).bind mkTup
theorem vg {as:List Addr} {H:Hp} {ds:List D} {xs:List V} {Q:VK} (h:FitsN W as H (mkLst ds) Q) (hd:Dens W.K (mask as H) ds xs):xs.length≤sizeLine∧∀ p,H p=none→Q (.ref p) (upd H p (.lst xs)):=by
 unfold mkLst at h
 split at h
 ·rename_i hl
  refine ⟨by rw [← hd.len];exact Nat.le_trans hl million,fun p hp=>?_⟩
  refine h p (.lst xs) (upd H p (.lst xs)) (bg hp _) hp bm ⟨xs,rfl,hd.mono ?_⟩
  intro b o e
  have hb:b≠p:=fun z=>by
   subst z
   have:=aC _ _ _ _ e
   rw [hp] at this;cases this
  by_cases hm:b∈as
  ·rw [dR hm] at e;cases e
  ·rw [a9 hm] at e
   rw [a9 (by simp [hb,hm]),a8 hb]
   exact e
 ·exact h.elim
theorem cp (h:JA X es (tDA W O α)):JE X (.List es pos) (tN W O (dF α)) :=
 (A3 h).imp fun σ H Q hh=>exE hh fun as0 B own δ I h=>⟨as0,B,own,δ,I,gY h fun ds xs H1 s1 d1 h1=>vg h1 d1⟩
theorem bu (h:JE X e (tN W O φ)):JE X e (tD W O φ):=h.imp fun σ H Q hh=>exE hh fun as0 B own δ I q=>by
 refine ⟨as0,B,own,δ,I,?_⟩
 cases hr:φ δ with
 | ok d =>
  rw [hr] at q
  exact fun p o H' s hp e od=>q (.ref p) H' s (od.den (I.new hp) e)
 | er x=>rw [hr] at q;exact q
 | no=>rw [hr] at q;exact q
theorem aG {x1} (h:JA X es (tDA W O α)):JE X (.Tuple es x1 pos) (tD W O (bh α)) :=
 (B5 h).imp fun σ H Q hh=>exE hh fun as0 B own δ I h=>⟨as0,B,own,δ,I,c6 h fun ds xs H1 s1 d1 h1=>by
  unfold mkTup at h1
  split at h1
  ·rename_i hl
   refine ⟨by rw [← d1.len];exact Nat.le_trans hl million,fun p hp=>?_⟩
   have hn:=(I.mono s1).new hp
   refine h1 (.ref p) (upd H1 p (.tup xs)) (bg hp _) ⟨p,xs,rfl,.inl (.inl ?_),d1.mono (aW (bg hp _))⟩
   rw [a9 hn];exact bm
  ·exact h1.elim⟩
def CallD (W:Wd) (r:List V→Hp→VK→Prop) (g:List D→R D):Prop:=∀ (as:List Addr) (H:Hp) (xs:List V) (ds:List D) (Q:VK),(∀ a∈as,H a≠none)→Dens W.K (mask as H) ds xs→Fits W as H (g ds) Q→r xs H Q
def CallN (W:Wd) (r:List V→Hp→VK→Prop) (g:List D→R D):Prop:=∀ (as:List Addr) (H:Hp) (xs:List V) (ds:List D) (Q:VK),(∀ a∈as,H a≠none)→Dens W.K (mask as H) ds xs→FitsN W as H (g ds) Q→r xs H Q
def al (g:List D→R D) (α:FA):FE:=fun δ=>(α δ).bind g
section
variable {x:Str} {p:Pos} {id T:String} {r:List V→Hp→VK→Prop} {g:List D→R D}
theorem aE (hc:CallR X (.builtin id) r) (hd:CallD W r g) (hm:X.mg x=none) (hv:bootBuiltins x=some (.builtin id)) (ha:JA X (e::es) (tDA W O α)) (hg:Gl X x:=by rfl) (h1:noStar e=true:=by rfl) (h2:es.all noStar=true:=by rfl) (hn:x≠"__name__":=by decide) (hdb:(x==("__debug__":Str))=false:=by decide) :
  JE X (.Call (.Name x p) (e::es) [] pos) (tD W O (al g α)) :=
 (x4 hc hm hv ha hg h1 h2 hn hdb).imp fun σ H Q hh=>exE hh fun as0 B own δ I h=>⟨as0,B,own,δ,I,c6 h fun ds xs H1 s1 d1 h1=>hd (own++as0) H1 xs ds Q (I.mono s1).exi d1 h1⟩
theorem mL (hc:CallR X (.type T) r) (hd:CallD W r g) (hm:X.mg x=none) (hv:bootBuiltins x=some (.type T)) (ha:JA X (e::es) (tDA W O α)) (hg:Gl X x:=by rfl) (h1:noStar e=true:=by rfl) (h2:es.all noStar=true:=by rfl) (hn:x≠"__name__":=by decide) (hdb:(x==("__debug__":Str))=false:=by decide) :
  JE X (.Call (.Name x p) (e::es) [] pos) (tD W O (al g α)) :=
 (ul hc hm hv ha hg h1 h2 hn hdb).imp fun σ H Q hh=>exE hh fun as0 B own δ I h=>⟨as0,B,own,δ,I,c6 h fun ds xs H1 s1 d1 h1=>hd (own++as0) H1 xs ds Q (I.mono s1).exi d1 h1⟩
theorem oO (hc:CallR X (.type T) r) (hd:CallN W r g) (hm:X.mg x=none) (hv:bootBuiltins x=some (.type T)) (ha:JA X (e::es) (tDA W O α)) (hg:Gl X x:=by rfl) (h1:noStar e=true:=by rfl) (h2:es.all noStar=true:=by rfl) (hn:x≠"__name__":=by decide) (hdb:(x==("__debug__":Str))=false:=by decide) :
  JE X (.Call (.Name x p) (e::es) [] pos) (tN W O (al g α)) :=
 (ul hc hm hv ha hg h1 h2 hn hdb).imp fun σ H Q hh=>exE hh fun as0 B own δ I h=>⟨as0,B,own,δ,I,gY h fun ds xs H1 s1 d1 h1=>hd (own++as0) H1 xs ds Q (I.mono s1).exi d1 h1⟩
end
def cx:Sd→R (Option Int):=fun _=>.ok none
def bU (φ:FE):Sd→R (Option Int):=fun δ=>(φ δ).bind fun d=>match d with
 | .int i=>.ok (some i)
 | _=>.no
theorem bK:JO X none (tDO W O cx):=yz.imp fun σ H Q hh=>exE hh fun as0 B own δ I h=>h H (Same.refl _)
theorem bv (h:JE X e (tD W O φ)):JO X (some e) (tDO W O (bU φ)):=(xG h).imp fun σ H Q hh=>exE hh fun as0 B own δ I h=>⟨as0,B,own,δ,I,cZ h fun d v H1 s1 d1 h1=>by
  cases d with
  | int i=>cases d1;exact h1 H1 (Same.refl _)
  | _=>exact h1.elim⟩
def SlD (W:Wd) (r:V→Option Int→Option Int→Hp→VK→Prop) (g:D→Option Int→Option Int→R D):Prop :=
 ∀ (as:List Addr) (H:Hp) (x:V) (lo hi:Option Int) (a:D) (Q:VK),(∀ p,H p=none→p∉as)→Den W.K (mask as H) a x→Fits W as H (g a lo hi) Q→r x lo hi H Q
def vSl (g:D→Option Int→Option Int→R D) (φ:FE) (l u:Sd→R (Option Int)):FE:=fun δ=>(φ δ).bind fun x=>(l δ).bind fun lo=>(u δ).bind fun hi=>g x lo hi
theorem bx {r:V→Option Int→Option Int→Hp→VK→Prop} {g:D→Option Int→Option Int→R D} {lo hi:Option Expr} {l u:Sd→R (Option Int)} {p2:Pos} (hr:SlR X r) (hd:SlD W r g) (he:JE X e (tD W O φ)) (hl:JO X lo (tDO W O l)) (hu:JO X hi (tDO W O u)) :
  JE X (.Subscript e (.Slice lo hi none p2) pos) (tD W O (vSl g φ l u)) :=
 (xS hr he hl hu).imp fun σ H Q hh=>exE hh fun as0 B own δ I h=>⟨as0,B,own,δ,I,bt h fun x v H1 s1 d1 h1=>⟨as0,B,own,δ,I.mono s1,jp h1 fun lo H2 s2 h2=>⟨as0,B,own,δ,(I.mono s1).mono s2,jp h2 fun hi H3 s3 h3 =>
  hd (own++as0) H3 v lo hi x Q (fun p hp=>(((I.mono s1).mono s2).mono s3).new hp) (d1.mono (aW (s2.trans s3))) h3⟩⟩⟩
def SmD (W:Wd) (r:Str→List V→Hp→VK→Prop) (g:Str→List D→R D):Prop :=
 ∀ (as:List Addr) (H:Hp) (z:Str) (xs:List V) (ds:List D) (Q:VK),(∀ p,H p=none→p∉as)→Dens W.K (mask as H) ds xs→Fits W as H (g z ds) Q→r z xs H Q
def vSM (g:Str→List D→R D) (φ:FE) (α:FA):FE:=fun δ=>(φ δ).bind fun x=>match x with
 | .str z=>(α δ).bind fun ds=>g z ds
 | _=>.no
theorem d_sm {o:Expr} {name:Str} {apos cpos:Pos} {id:String} {r:Str→List V→Hp→VK→Prop} {g:Str→List D→R D} (slot:Slot "str" name id) (hty:typeOf (.builtin id)=pure (.type "method_descriptor")) (hm:SmR X id r) (hd:SmD W r g) (ho:JE X o (tD W O φ)) (ha:JA X (e::es) (tDA W O α))
  (hbase:attributeBase o name X.env (eval o X.env)=eval o X.env:=by rfl) (hline:(apos.endLine==cpos.line)=true:=by rfl) (h1:(e::es).all noStar=true:=by rfl) (hl:(e::es).length < 29:=by decide) :
  JE X (.Call (.Attribute o name apos) (e::es) [] cpos) (tD W O (vSM g φ α)) :=
 (j_sm slot hty hm ho ha hbase hline h1 hl).imp fun σ H Q hh=>exE hh fun as0 B own δ I h=>⟨as0,B,own,δ,I,bt h fun x v H1 s1 d1 h1=>by
  cases x with
  | str z =>
   cases d1
   exact ⟨as0,B,own,δ,I.mono s1,c6 h1 fun ds xs H2 s2 d2 h2=>hd (own++as0) H2 z xs ds Q (fun p hp=>((I.mono s1).mono s2).new hp) d2 h2⟩
  | _=>exact h1.elim⟩
end
inductive Fl where
 | nx (δ:Sd)|rt (d:D)|bk (δ:Sd)|ct (δ:Sd)
 /-- a return of what is laid anew,and nobody else's -/
 | rn (d:D)
abbrev FS:=Sd→R Fl
def FitsS (W:Wd) (as0:List Addr) (B:Hp) (Ob O':List Nat) (r:R Fl) (D:Ends):Prop:=match r with
 | .ok (.nx δ)=>∀ own σ H,DI W.K as0 B O' own σ δ H→D.nx σ H
 | .ok (.bk δ)=>∀ own σ H,DI W.K as0 B Ob own σ δ H→D.bk σ H
 | .ok (.ct δ)=>∀ own σ H,DI W.K as0 B Ob own σ δ H→D.ct σ H
 | .ok (.rt d)=>∀ v H,Same B H→Den W.K (mask as0 H) d v→D.rt v H
 | .ok (.rn d)=>∀ p o H,Same B H→B p=none→H p=some o→OwnD W.K (mask (p::as0) H) o d→D.rt (.ref p) H
 | .er x=>∀ e C H,Same B H→W.mg x=some (.ref C)→W.E e (some C) H
 | .no=>False
def sD (W:Wd) (Ob O O':List Nat) (φ:FS):TS:=fun D σ H=>∃ as0 B own δ,DI W.K as0 B O own σ δ H∧FitsS W as0 B Ob O' (φ δ) D
section
variable {W:Wd} {as0 own:List Addr} {B H:Hp} {Ob O O':List Nat} {σ:St} {δ:Sd} {D':Ends}
theorem eM {r:R D} {f:D→R Fl} {Q:VK} (I:DI W.K as0 B O own σ δ H) (h:FitsS W as0 B Ob O' (r.bind f) D') (q:∀ d v H',Same H H'→Den W.K (mask (own++as0) H') d v→FitsS W as0 B Ob O' (f d) D'→Q v H'):Fits W (own++as0) H r Q:=by
 cases r with
 | ok d=>exact fun v H' s dv=>q d v H' s dv h
 | er x=>exact fun e C H' s=>h e C H' (I.same.trans s)
 | no=>exact h
theorem kC {r:R D} {f:D→R Fl} {Q:VK} (I:DI W.K as0 B O own σ δ H) (h:FitsS W as0 B Ob O' (r.bind f) D') (q:∀ d p o H',Same H H'→H p=none→H' p=some o→OwnD W.K (mask (p::(own++as0)) H') o d→FitsS W as0 B Ob O' (f d) D'→Q (.ref p) H'):FitsN W (own++as0) H r Q:=by
 cases r with
 | ok d=>exact fun p o H' s h1 h2 h3=>q d p o H' s h1 h2 h3 h
 | er x=>exact fun e C H' s=>h e C H' (I.same.trans s)
 | no=>exact h
theorem ku {α:Type} {r:R α} {f:α→R Fl} {Q:α→Hp→Prop} (I:DI W.K as0 B O own σ δ H) (h:FitsS W as0 B Ob O' (r.bind f) D') (q:∀ d H',Same H H'→FitsS W as0 B Ob O' (f d) D'→Q d H'):FitsP W H r Q:=by
 cases r with
 | ok d=>exact fun H' s=>q d H' s h
 | er x=>exact fun e C H' s=>h e C H' (I.same.trans s)
 | no=>exact h
theorem FitsS.base {B':Hp} {r:R Fl} (h:FitsS W as0 B Ob O' r D') (s:Same B B') (h0:∀ a∈as0,B a≠none):FitsS W as0 B' Ob O' r D':=by
 cases r with
 | ok f =>
  cases f with
  | nx δ=>exact fun own σ H I=>h own σ H (I.base s h0)
  | bk δ=>exact fun own σ H I=>h own σ H (I.base s h0)
  | ct δ=>exact fun own σ H I=>h own σ H (I.base s h0)
  | rt d=>exact fun v H s'=>h v H (s.trans s')
  | rn d=>exact fun p o H s' hp=>h p o H (s.trans s') (s.free hp)
 | er x=>exact fun e C H s'=>h e C H (s.trans s')
 | no=>exact h
theorem getElem?_set' {α:Type} {l:List α} {i j:Nat} {x:α}:(l.set i x)[j]?=if i=j then (if i < l.length then some x else none) else l[j]?:=List.getElem?_set
theorem DI.set {i:Nat} {d:D} {v:V} (I:DI W.K as0 B O own σ δ H) (hO:i∉O) (h:Den W.K (mask (own++as0) H) d v):DI W.K as0 B O own (σ.set i (some v)) (δ.set i (some d)) H:=by
 refine ⟨by simp [I.len],I.olen,I.nd,I.ond,I.fresh,I.ex0,I.same,fun j e hj q=>?_,fun j a hj=>?_⟩
 ·rw [getElem?_set'] at q ⊢
  split at q
  ·rename_i hij
   rw [if_pos hij]
   split at q
   ·rename_i hl
    rw [if_pos (by rw [← I.len];exact hl)]
    cases q
    exact ⟨v,rfl,h⟩
   ·cases q
  ·rename_i hij
   rw [if_neg hij]
   exact I.var j e hj q
 ·have hji:i≠j:=fun z=>hO (by rw [z];exact (List.of_mem_zip hj).1)
  obtain ⟨d',o,h1,h2,h3,h4⟩:=I.owns j a hj
  exact ⟨d',o,by rw [getElem?_set',if_neg hji];exact h1,by rw [getElem?_set',if_neg hji];exact h2,h3,h4⟩
theorem zip_inj:∀ {O:List Nat} {own:List Addr} {i j:Nat} {a:Addr},own.Nodup→(i,a)∈O.zip own→(j,a)∈O.zip own→i=j
 | [],_,_,_,_,_,h,_=>by simp at h
 | _::_,[],_,_,_,_,h,_=>by simp at h
 | k::O,b::own,i,j,a,nd,h1,h2=>by
  rw [List.zip_cons_cons] at h1 h2
  rw [List.nodup_cons] at nd
  rcases List.mem_cons.mp h1 with e1|h1 <;> rcases List.mem_cons.mp h2 with e2|h2
  ·cases e1;cases e2;rfl
  ·cases e1;exact absurd (List.of_mem_zip h2).2 nd.1
  ·cases e2;exact absurd (List.of_mem_zip h1).2 nd.1
  ·exact zip_inj nd.2 h1 h2
theorem jM:∀ {O:List Nat} {own:List Addr} {i:Nat},own.length=O.length→i∈O→∃ a,(i,a)∈O.zip own
 | [],_,_,_,h=>by cases h
 | k::O,[],_,l,_=>by simp at l
 | k::O,b::own,i,l,h=>by
  rcases List.mem_cons.mp h with rfl|h
  ·exact ⟨b,List.mem_cons_self⟩
  ·obtain ⟨a,ha⟩:=jM (O:=O) (own:=own) (by simpa using l) h
   exact ⟨a,List.mem_cons_of_mem _ ha⟩
def keepOwn (p:Nat→Bool):List Nat→List Addr→List Addr
 | i::O,a::own=>if p i=true then a::keepOwn p O own else keepOwn p O own
 | _,_=>[]
theorem hJ {p:Nat→Bool}:∀ {O:List Nat} {own:List Addr},(keepOwn p O own).Sublist own
 | [],own=>by simp [keepOwn]
 | _::_,[]=>by simp [keepOwn]
 | i::O,a::own=>by
  unfold keepOwn
  split
  ·exact (hJ (O:=O)).cons_cons a
  ·exact (hJ (O:=O)).cons a
theorem kM {p:Nat→Bool}:∀ {O:List Nat} {own:List Addr},own.length=O.length→(keepOwn p O own).length=(O.filter p).length
 | [],[],_=>rfl
 | i::O,a::own,l=>by
  have ih:=kM (p:=p) (O:=O) (own:=own) (by simpa using l)
  unfold keepOwn
  rw [List.filter_cons]
  split
  ·simp [ih]
  ·exact ih
 | [],_::_,l=>by simp at l
 | _::_,[],l=>by simp at l
theorem dt {p:Nat→Bool}:∀ {O:List Nat} {own:List Addr} {i:Nat} {a:Addr},(i,a)∈(O.filter p).zip (keepOwn p O own)→(i,a)∈O.zip own∧p i=true
 | [],_,_,_,h=>by simp at h
 | _::_,[],_,_,h=>by simp [keepOwn] at h
 | k::O,b::own,i,a,h=>by
  unfold keepOwn at h
  rw [List.filter_cons] at h
  by_cases hp:p k=true
  ·rw [if_pos hp,if_pos hp,List.zip_cons_cons] at h
   rcases List.mem_cons.mp h with e|h
   ·cases e;exact ⟨List.mem_cons_self,hp⟩
   ·exact ⟨List.mem_cons_of_mem _ (dt h).1,(dt h).2⟩
  ·rw [if_neg hp,if_neg hp] at h
   exact ⟨List.mem_cons_of_mem _ (dt h).1,(dt h).2⟩
theorem im {p:Nat→Bool}:∀ {O:List Nat} {own:List Addr} {a:Addr},a∈keepOwn p O own→∃ i,(i,a)∈O.zip own∧p i=true
 | [],_,_,h=>by simp [keepOwn] at h
 | _::_,[],_,h=>by simp [keepOwn] at h
 | k::O,b::own,a,h=>by
  unfold keepOwn at h
  split at h
  ·rename_i hp
   rcases List.mem_cons.mp h with e|h
   ·subst e;exact ⟨k,List.mem_cons_self,hp⟩
   ·obtain ⟨i,h1,h2⟩:=im h;exact ⟨i,List.mem_cons_of_mem _ h1,h2⟩
  ·obtain ⟨i,h1,h2⟩:=im h;exact ⟨i,List.mem_cons_of_mem _ h1,h2⟩
theorem DI.freeze {O2:List Nat} (I:DI W.K as0 B O own σ δ H) (hO:O.filter (fun i=>decide (i∈O2))=O2):∃ own2,DI W.K as0 B O2 own2 σ δ H:=by
 generalize hp:(fun i=>decide (i∈O2))=p at hO
 have pi:∀ i,p i=decide (i∈O2):=fun i=>by rw [← hp]
 have sub:(keepOwn p O own).Sublist own:=hJ
 have mem:∀ a∈keepOwn p O own,a∈own:=fun a ha=>sub.mem ha
 have s:Same (mask (own++as0) H) (mask (keepOwn p O own++as0) H):=jZ fun a ha=>by
  rcases List.mem_append.mp ha with h|h
  ·exact List.mem_append_left _ (mem a h)
  ·exact List.mem_append_right _ h
 refine ⟨keepOwn p O own,I.len,by rw [kM I.olen,hO],I.nd.sublist sub,by rw [← hO];exact I.ond.sublist List.filter_sublist,fun a ha=>I.fresh a (mem a ha),I.ex0,I.same,fun i d hi q=>?_,fun i a hi=>?_⟩
 ·by_cases h:i∈O
  ·obtain ⟨a,ha⟩:=jM I.olen h
   obtain ⟨d',o,h1,h2,h3,h4⟩:=I.owns i a ha
   rw [q] at h1
   cases h1
   refine ⟨.ref a,h2,OwnD.den ?_ h3 (h4.mono (jZ fun b hb=>?_))⟩
   ·intro z
    rcases List.mem_append.mp z with z|z
    ·obtain ⟨j,h5,h6⟩:=im z
     have:=zip_inj I.nd ha h5
     subst this
     rw [pi] at h6
     exact hi (of_decide_eq_true h6)
    ·exact I.apart a (List.of_mem_zip ha).2 z
   ·rcases List.mem_cons.mp hb with rfl|hb
    ·exact List.mem_append_left _ (List.of_mem_zip ha).2
    ·rcases List.mem_append.mp hb with h|h
     ·exact List.mem_append_left _ (mem b h)
     ·exact List.mem_append_right _ h
  ·obtain ⟨v,h1,h2⟩:=I.var i d h q
   exact ⟨v,h1,h2.mono s⟩
 ·rw [← hO] at hi
  obtain ⟨d,o,h1,h2,h3,h4⟩:=I.owns i a (dt hi).1
  exact ⟨d,o,h1,h2,h3,h4.mono s⟩
theorem DI.own1 {i:Nat} {d:D} {p:Addr} {o:HO} (I:DI W.K as0 B O own σ δ H) (hO:i∉O) (hp:B p=none) (hn:p∉own++as0) (e:H p=some o) (h:OwnD W.K (mask (p::(own++as0)) H) o d) (hi:i < δ.length)
  (fr:∀ j d',j∉O→δ[j]?=some (some d')→∃ v,σ[j]?=some (some v)∧Den W.K (mask (p::(own++as0)) H) d' v)
  (fo:∀ j a,(j,a)∈O.zip own→∃ d o,δ[j]?=some (some d)∧σ[j]?=some (some (.ref a))∧H a=some o∧OwnD W.K (mask (p::(own++as0)) H) o d) :
  DI W.K as0 B (i::O) (p::own) (σ.set i (some (.ref p))) (δ.set i (some d)) H:=by
 refine ⟨by simp [I.len],by simp [I.olen],List.nodup_cons.mpr ⟨fun z=>hn (List.mem_append_left _ z),I.nd⟩,List.nodup_cons.mpr ⟨hO,I.ond⟩,fun a ha=>?_,I.ex0,I.same,fun j e hj q=>?_,fun j a hj=>?_⟩
 ·rcases List.mem_cons.mp ha with rfl|ha
  ·exact hp
  ·exact I.fresh a ha
 ·have hji:i≠j:=fun z=>hj (by rw [z];exact List.mem_cons_self)
  rw [getElem?_set',if_neg hji] at q ⊢
  exact fr j e (fun z=>hj (List.mem_cons_of_mem _ z)) q
 ·rw [List.zip_cons_cons] at hj
  rcases List.mem_cons.mp hj with z|hj
  ·cases z
   refine ⟨d,o,?_,?_,e,h⟩
   ·rw [getElem?_set',if_pos rfl,if_pos hi]
   ·rw [getElem?_set',if_pos rfl,if_pos (by rw [← I.len];exact hi)]
  ·have hji:i≠j:=fun z=>hO (by rw [z];exact (List.of_mem_zip hj).1)
   obtain ⟨d',o',h1,h2,h3,h4⟩:=fo j a hj
   exact ⟨d',o',by rw [getElem?_set',if_neg hji];exact h1,by rw [getElem?_set',if_neg hji];exact h2,h3,h4⟩
end
section
variable {X:Cx} {W:Wd} {Ob O O' O1 O2:List Nat} {e c:Expr} {φ ψ:FS} {ε:FE} {τ:FT} {pos:Pos} {st:Stmt} {sts rest:List Stmt}
def aV:FS:=fun δ=>.ok (.nx δ)
def aR (φ ψ:FS):FS:=fun δ=>(φ δ).bind fun f=>match f with
 | .nx δ'=>ψ δ'
 | f=>.ok f
theorem aJ:JB X [] (sD W Ob O O aV):=Ac.imp fun D σ H hh=>exE hh fun as0 B own δ I h=>h own σ H I
theorem ak (h1:JS X st (sD W Ob O O1 φ)) (h2:JB X rest (sD W Ob O1 O2 ψ)):JB X (st::rest) (sD W Ob O O2 (aR φ ψ)):=(xX h1 h2).imp fun D σ H hh=>exE hh fun as0 B own δ I h=>by
 refine ⟨as0,B,own,δ,I,?_⟩
 unfold aR at h
 cases hr:φ δ with
 | ok f =>
  rw [hr] at h
  cases f with
  | nx δ'=>exact fun own' σ' H' I'=>⟨as0,B,own',δ',I',h⟩
  | rt d=>exact h
  | rn d=>exact h
  | bk d=>exact h
  | ct d=>exact h
 | er x=>rw [hr] at h;exact h
 | no=>rw [hr] at h;exact h
theorem aw (h1:JS X st (sD W Ob O O1 φ)):JB X [st] (sD W Ob O O1 φ):=zY h1
theorem qy (h:JB X sts (sD W Ob O2 O' φ)) (hO:O.filter (fun i=>decide (i∈O2))=O2:=by decide):JB X sts (sD W Ob O O' φ):=h.imp fun D σ H hh=>exE hh fun as0 B own δ I h =>
 let ⟨own2,I2⟩:=I.freeze hO;⟨as0,B,own2,δ,I2,h⟩
def bo (ε:FE):FS:=fun δ=>(ε δ).bind fun d=>.ok (.rt d)
theorem ay (h:JE X e (tD W O ε)):JS X (.Return (some e) pos) (sD W Ob O O' (bo ε)):=(zT h).imp fun D σ H hh=>exE hh fun as0 B own δ I h =>
 ⟨as0,B,own,δ,I,eM I h fun d v H' s dv h'=>h' v H' (I.same.trans s) (dv.mono (jZ fun a ha=>List.mem_append_right _ ha))⟩
def sIf (τ:FT) (φ ψ:FS):FS:=fun δ=>(τ δ).bind fun b=>if b=true then φ δ else ψ δ
theorem bi {a b:List Stmt} (hc:JT X c (tDT W O τ)) (ha:JB X a (sD W Ob O O' φ)) (hb:JB X b (sD W Ob O O' ψ)):JS X (.If c a b pos) (sD W Ob O O' (sIf τ φ ψ)):=(BR hc ha hb).imp fun D σ H hh=>exE hh fun as0 B own δ I h =>
 ⟨as0,B,own,δ,I,ku I h fun b H' s h'=>by
  cases b with
  | true=>exact ⟨as0,B,own,δ,I.mono s,h'⟩
  | false=>exact ⟨as0,B,own,δ,I.mono s,h'⟩⟩
def bQ (i:Nat) (ε:FE):FS:=fun δ=>(ε δ).bind fun d=>.ok (.nx (δ.set i (some d)))
theorem aY {i:Nat} {x:Str} {pos':Pos} (hO:i∉O) (hN:X.N.Nodup) (hx:Loc X.env.scope x) (he:JE X e (tD W O ε)) (hi:X.N[i]?=some x:=by rfl) (hs:swapsWith e (some (.Name x pos')) pos.line X.env=pure false:=by rfl) (hf:X.fn x=true∨X.env.scope.names.lookup x=some .local:=by first|exact .inl rfl|exact .inr rfl|assumption) :
  JS X (.Assign [.Name x pos'] e pos) (sD W Ob O O (bQ i ε)):=(wW hN hx he hi hs hf).imp fun D σ H hh=>exE hh fun as0 B own δ I h =>
 ⟨as0,B,own,δ,I,eM I h fun d v H' s dv h'=>h' own _ H' ((I.mono s).set hO dv)⟩
def sOwn (i:Nat) (ε:FE):FS:=fun δ=>(ε δ).bind fun d=>if i < δ.length then .ok (.nx (δ.set i (some d))) else .no
theorem iG {as:List Addr} {H H':Hp} {p:Addr} (hp:H p=none) (s:Same H H'):Same (mask as H) (mask (p::as) H'):=fun b o e=>by
 by_cases hb:b∈as
 ·rw [dR hb] at e;cases e
 ·rw [a9 hb] at e
  have hbp:b≠p:=fun z=>by rw [z,hp] at e;cases e
  rw [a9 (by simp [hb,hbp])]
  exact s b o e
theorem vT {K:PySem.W.Frag} {as0 own:List Addr} {B H H':Hp} {σ:St} {δ:Sd} {i:Nat} {d:D} {p:Addr} {o:HO} (I:DI K as0 B O own σ δ H) (hO:i∉O) (s:Same H H') (hp:H p=none) (e:H' p=some o) (h:OwnD K (mask (p::(own++as0)) H') o d) (hi:i < δ.length) :
  DI K as0 B (i::O) (p::own) (σ.set i (some (.ref p))) (δ.set i (some d)) H':=by
 refine DI.own1 (W:=⟨K,fun _=>none,E0⟩) (I.mono s) hO (I.same.free hp) (I.new hp) e h hi (fun j d' hj q=>?_) fun j a hj=>?_
 ·obtain ⟨v,h1,h2⟩:=I.var j d' hj q
  exact ⟨v,h1,h2.mono (iG hp s)⟩
 ·obtain ⟨d',o',h1,h2,h3,h4⟩:=I.owns j a hj
  exact ⟨d',o',h1,h2,s a o' h3,h4.mono (iG hp s)⟩
theorem qz {i:Nat} {x:Str} {pos':Pos} (hO:i∉O) (hN:X.N.Nodup) (hx:Loc X.env.scope x) (he:JE X e (tN W O ε)) (hi:X.N[i]?=some x:=by rfl) (hs:swapsWith e (some (.Name x pos')) pos.line X.env=pure false:=by rfl) (hf:X.fn x=true∨X.env.scope.names.lookup x=some .local:=by first|exact .inl rfl|exact .inr rfl|assumption) :
  JS X (.Assign [.Name x pos'] e pos) (sD W Ob O (i::O) (sOwn i ε)):=(wW hN hx he hi hs hf).imp fun D σ H hh=>exE hh fun as0 B own δ I h =>
 ⟨as0,B,own,δ,I,kC I h fun d p o H' s hp e od h'=>by
  split at h'
  ·rename_i hl;exact h' _ _ H' (vT I hO s hp e od hl)
  ·exact h'.elim⟩
inductive TgD where
 | one (i:Nat)|tup (is:List Nat)
def setsD:List Nat→List D→Sd→Sd
 | i::is,d::ds,δ=>setsD is ds (δ.set i (some d))
 | _,_,δ=>δ
def bindD:TgD→D→Sd→R Sd
 | .one i,d,δ=>.ok (δ.set i (some d))
 | .tup is,.tup ds,δ=>if ds.length=is.length then .ok (setsD is ds δ) else .no
 | _,_,_=>.no
def gD (W:Wd) (O:List Nat) (tg:TgD):TG:=fun v σ H Q=>∃ as0 B own δ d,DI W.K as0 B O own σ δ H∧Den W.K (mask (own++as0) H) d v∧match bindD tg d δ with
 | .ok δ'=>∀ σ',DI W.K as0 B O own σ' δ' H→Q σ' H
 | _=>False
def gsD (W:Wd) (O:List Nat) (is:List Nat):TGs:=fun vs σ H Q=>∃ as0 B own δ ds,DI W.K as0 B O own σ δ H∧Dens W.K (mask (own++as0) H) ds vs∧ds.length=is.length∧∀ σ',DI W.K as0 B O own σ' (setsD is ds δ) H→Q σ' H
theorem bz {i:Nat} {x:Str} (hO:i∉O) (hN:X.N.Nodup) (hi:X.N[i]?=some x) (hx:Loc X.env.scope x) (hf:X.fn x=true∨X.env.scope.names.lookup x=some .local:=by first|exact .inl rfl|exact .inr rfl|assumption):JG X (.Name x pos) (gD W O (.one i)) :=
 (xM hN hi hx hf).imp fun v σ H Q ⟨as0,B,own,δ,d,I,dv,h⟩=>h _ (I.set hO dv)
theorem mU:JGs X [] (gsD W O []):=yc.imp fun vs σ H Q ⟨as0,B,own,δ,ds,I,dv,hl,h⟩=>by
 cases ds with
 | nil=>cases dv;exact ⟨rfl,h σ I⟩
 | cons _ _=>simp at hl
theorem dE {i:Nat} {is:List Nat} {e:Expr} {es:List Expr} (h1:JG X e (gD W O (.one i))) (h2:JGs X es (gsD W O is))
  (hs:(assignEach (e::es) X.env).map (·.2)=assign e X.env::(assignEach es X.env).map (·.2):=by rfl):JGs X (e::es) (gsD W O (i::is)):=(wA h1 h2 hs).imp fun vs σ H Q ⟨as0,B,own,δ,ds,I,dv,hl,h⟩=>by
 cases ds with
 | nil=>simp at hl
 | cons d ds =>
  obtain ⟨v,r,rfl,d1,d2⟩:=dv
  exact ⟨v,r,rfl,as0,B,own,δ,d,I,d1,fun σ' I'=>⟨as0,B,own,_,ds,I',d2,by simpa using hl,h⟩⟩
theorem qe (K:PySem.W.Frag) {es:List Expr} {k:Nat} {is:List Nat} {n:Nat} (h:JGs X es (gsD W O is)) (hl:is.length=n:=by rfl) (hc:X.calm=true:=by rfl)
  (hn:(assignEach es X.env).length=n:=by rfl) (hst:(assignEach es X.env).findIdx? (·.1)=none:=by rfl) (hK:X.K=K:=by rfl) (hW:W.K=K:=by rfl):JG X (.Tuple es k pos) (gD W O (.tup is)):=by
 refine (yQ K h hc hn hst hK).imp fun v σ H Q ⟨as0,B,own,δ,d,I,dv,h⟩=>?_
 cases d with
 | tup ds =>
  obtain ⟨a,xs,rfl,q1,q2⟩:=dv
  have h':(match (if ds.length=is.length then R.ok (setsD is ds δ) else .no) with|.ok δ'=>∀ σ',DI W.K as0 B O own σ' δ' H→Q σ' H|_=>False):=h
  by_cases hd:ds.length=is.length
  ·rw [if_pos hd] at h'
   subst hW
   exact ⟨a,xs,rfl,(aC _ _).seqT q1,by rw [← q2.len,hd,hl],as0,B,own,δ,ds,I,q2,hd,h'⟩
  ·rw [if_neg hd] at h'
   exact h'.elim
 | _=>exact h.elim
structure GivesD (K:PySem.W.Frag) (as0:List Addr) (B:Hp) (J:It) (xs:List D):Prop where
 go:∀ i H,Same B H→i < xs.length→J.go i H
 yl:∀ i H v H2 M,Same B H→(∀ a∈M,H a≠none)→(∀ a∈M,a∈as0∨B a=none)→i < xs.length→J.yld i H v H2→Same H H2∧∃ d,xs[i]?=some d∧Den K (mask M H2) d v
 stop:∀ H,Same B H→J.stop xs.length H
def FitsI (W:Wd) (as0 own:List Addr) (H:Hp) (r:R (List D)) (Q:It→Hp→Prop):Prop:=match r with
 | .ok xs=>∀ J H',Same H H'→GivesD W.K as0 (mask own H') J xs→Q J H'
 | .er x=>∀ e C H',Same H H'→W.mg x=some (.ref C)→W.E e (some C) H'
 | .no=>False
def iD (W:Wd) (O:List Nat) (ι:FA):TI:=fun σ H Q=>∃ as0 B own δ,DI W.K as0 B O own σ δ H∧FitsI W as0 own H (ι δ) Q
theorem ig {as0 M:List Addr} {B H:Hp} (s:Same B H) (h:∀ a∈M,a∈as0∨B a=none):Same (mask as0 B) (mask M H):=fun b o e=>by
 by_cases hb:b∈as0
 ·rw [dR hb] at e;cases e
 ·rw [a9 hb] at e
  have hm:b∉M:=fun z=>by
   rcases h b z with q|q
   ·exact hb q
   ·rw [q] at e;cases e
  rw [a9 hm]
  exact s b o e
theorem tE {K:PySem.W.Frag} {as0:List Addr} {B:Hp} {a:Addr} {xs:List V} {ds:List D} (h1:SqL K (mask as0 B) a xs) (h2:Dens K (mask as0 B) ds xs):GivesD K as0 B (Itl K a) ds where
 go:=fun i H s hi=>by
  have hi':i < xs.length:=by rw [← h2.len];exact hi
  exact ⟨xs,xs[i],((aC _ _).trans s).seq h1,by simp [hi']⟩
 yl:=fun i H v H2 M s _ hM hi ⟨e,y⟩=>by
  subst e
  obtain ⟨d,q1,q2⟩:=h2.got (y xs (((aC _ _).trans s).seq h1))
  exact ⟨Same.refl _,d,q1,q2.mono (ig s hM)⟩
 stop:=fun H s=>⟨xs,((aC _ _).trans s).seq h1,by rw [h2.len];exact Nat.le_refl _⟩
theorem vn {K:PySem.W.Frag} {as0:List Addr} {B:Hp} {a:Addr} {xs:List V} {ds:List D} (h1:SqT K (mask as0 B) a xs) (h2:Dens K (mask as0 B) ds xs):GivesD K as0 B (Itt K a) ds where
 go:=fun i H s hi=>by
  have hi':i < xs.length:=by rw [← h2.len];exact hi
  exact ⟨xs,xs[i],((aC _ _).trans s).seqT h1,by simp [hi']⟩
 yl:=fun i H v H2 M s _ hM hi ⟨e,y⟩=>by
  subst e
  obtain ⟨d,q1,q2⟩:=h2.got (y xs (((aC _ _).trans s).seqT h1))
  exact ⟨Same.refl _,d,q1,q2.mono (ig s hM)⟩
 stop:=fun H s=>⟨xs,((aC _ _).trans s).seqT h1,by rw [h2.len];exact Nat.le_refl _⟩
abbrev signsD (z:Str):List D:=z.cps.toList.map fun c=>D.str ⟨#[c]⟩
theorem rh {K:PySem.W.Frag} {as0:List Addr} {B:Hp} (z:Str):GivesD K as0 B (Its z) (signsD z) where
 go:=fun i H _ hi=>by
  rw [List.length_map] at hi
  simpa [Its,Str.length] using hi
 yl:=fun i H v H2 M _ _ _ hi ⟨e,c,h1,h2⟩=>by
  subst e
  refine ⟨Same.refl _,.str ⟨#[c]⟩,?_,h2⟩
  rw [List.getElem?_map,Array.getElem?_toList,h1]
  rfl
 stop:=fun H _=>by
  show _=z.length
  rw [List.length_map]
  simp [Str.length]
def cS (lo:Int) (n:Nat):List D:=(List.range n).map fun (k:Nat)=>D.int (lo+(k:Int))
theorem jz {K:PySem.W.Frag} {as0:List Addr} {B:Hp} (lo:Int) (n:Nat):GivesD K as0 B (Itr lo n) (cS lo n) where
 go:=fun i H _ hi=>by
  unfold cS at hi
  rw [List.length_map,List.length_range] at hi
  exact hi
 yl:=fun i H v H2 M _ _ _ hi ⟨e,h⟩=>by
  subst e
  unfold cS at hi ⊢
  rw [List.length_map,List.length_range] at hi
  refine ⟨Same.refl _,.int (lo+(i:Int)),?_,h⟩
  rw [List.getElem?_map,List.getElem?_range hi]
  rfl
 stop:=fun H _=>by
  unfold cS
  show n≤_
  rw [List.length_map,List.length_range]
  exact Nat.le_refl _
def i9:D→R (List D)
 | .lst xs=>.ok xs
 | .tup xs=>.ok xs
 | .str z=>.ok (signsD z)
 | _=>.no
def jE (ε:FE):FA:=fun δ=>(ε δ).bind i9
variable {tg:Expr}
theorem FitsI.mono {as0 own:List Addr} {H H':Hp} {r:R (List D)} {Q:It→Hp→Prop} (h:FitsI W as0 own H r Q) (s:Same H H'):FitsI W as0 own H' r Q:=by
 cases r with
 | ok d=>exact fun J H2 s2=>h J H2 (s.trans s2)
 | er x=>exact fun e C H2 s2=>h e C H2 (s.trans s2)
 | no=>exact h
theorem sw {as0 own:List Addr} {H:Hp} {r:R D} {f:D→R (List D)} {Q:It→Hp→Prop} {Q':VK} (h:FitsI W as0 own H (r.bind f) Q) (q:∀ d v H',Same H H'→Den W.K (mask (own++as0) H') d v→FitsI W as0 own H' (f d) Q→Q' v H'):Fits W (own++as0) H r Q':=by
 cases r with
 | ok d=>exact fun v H' s dv=>q d v H' s dv (FitsI.mono h s)
 | er x=>exact h
 | no=>exact h
theorem g7 {as0 own:List Addr} {H:Hp} {r:R (List D)} {f:List D→R (List D)} {Q:It→Hp→Prop} {Q':List V→Hp→Prop} (h:FitsI W as0 own H (r.bind f) Q) (q:∀ d v H',Same H H'→Dens W.K (mask (own++as0) H') d v→FitsI W as0 own H' (f d) Q→Q' v H'):FitsA W (own++as0) H r Q':=by
 cases r with
 | ok d=>exact fun v H' s dv=>q d v H' s dv (FitsI.mono h s)
 | er x=>exact h
 | no=>exact h
theorem de (K:PySem.W.Frag) {l:Expr} (h:JE X l (tD W O ε)) (hK:X.K=K:=by rfl) (hW:W.K=K:=by rfl):JI X tg l (iD W O (jE ε)):=(zu K h hK).imp fun σ H Q hh=>exE hh fun as0 B own δ I h =>
 ⟨as0,B,own,δ,I,sw h fun d v H' s dv h'=>by
  subst hW
  cases d with
  | lst ds =>
   obtain ⟨a,xs,rfl,q1,q2⟩:=dv
   refine .inl ⟨⟨xs,(aC _ _).seq q1⟩,h' _ H' (Same.refl _) ?_⟩
   rw [mG] at q1 q2
   exact tE q1 q2
  | tup ds =>
   obtain ⟨a,xs,rfl,q1,q2⟩:=dv
   refine .inr ⟨⟨xs,(aC _ _).seqT q1⟩,h' _ H' (Same.refl _) ?_⟩
   rw [mG] at q1 q2
   exact vn q1 q2
  | str z=>cases dv;exact h' _ H' (Same.refl _) (rh z)
  | _=>exact h'.elim⟩
def rng1:List D→R (List D)
 | [.int j]=>if -(2 ^ 62)≤j∧j < 2 ^ 62 then .ok (cS 0 j.toNat) else .no
 | _=>.no
def iRng1D (α:FA):FA:=fun δ=>(α δ).bind rng1
theorem lb {a:Expr} {α:FA} {p pos:Pos} (hm:X.mg "range"=none) (ha:JA X [a] (tDA W O α)) (hg:Gl X "range":=by rfl) (hn:noStar a=true:=by rfl):JI X tg (.Call (.Name "range" p) [a] [] pos) (iD W O (iRng1D α)):=(uZ hm ha hg hn).imp fun σ H Q hh=>exE hh fun as0 B own δ I h =>
 ⟨as0,B,own,δ,I,g7 h fun ds vs H' s dv h'=>by
  unfold rng1 at h'
  split at h'
  ·obtain ⟨v,r,rfl,d1,d2⟩:=dv
   cases d1
   cases d2
   split at h'
   ·rename_i hj;exact ⟨hj,h' _ H' (Same.refl _) (jz 0 _)⟩
   ·exact h'.elim
  ·exact h'.elim⟩
def forD (tg:TgD) (body:FS):List D→Sd→R Fl
 | [],δ=>.ok (.nx δ)
 | x::r,δ=>(bindD tg x δ).bind fun δ1=>(body δ1).bind fun f=>match f with
  | .nx δ2=>forD tg body r δ2
  | .ct δ2=>forD tg body r δ2
  | .bk δ2=>.ok (.nx δ2)
  | .rt d=>.ok (.rt d)
  | .rn d=>.ok (.rn d)
def sFor (ι:FA) (t:TgD) (body:FS):FS:=fun δ=>(ι δ).bind fun xs=>forD t body xs δ
theorem oN {as0 own:List Addr} {B H:Hp} {σ:St} {δ:Sd} {D':Ends} {r:R (List D)} {f:List D→R Fl} {Q:It→Hp→Prop} (I:DI W.K as0 B O own σ δ H) (h:FitsS W as0 B Ob O' (r.bind f) D')
  (q:∀ d J H',Same H H'→GivesD W.K as0 (mask own H') J d→FitsS W as0 B Ob O' (f d) D'→Q J H'):FitsI W as0 own H r Q:=by
 cases r with
 | ok d=>exact fun J H' s g=>q d J H' s g h
 | er x=>exact fun e C H' s=>h e C H' (I.same.trans s)
 | no=>exact h
theorem pR {iter:Expr} {body:List Stmt} {ι:FA} {t:TgD} (hp:PassesOwn (model X.prog X.w) X.A X.env X.xe) (hi:JI X tg iter (iD W O ι)) (hg:JG X tg (gD W O t)) (hb:JB X body (sD W O O O φ)) (hc:X.calm=true:=by rfl)
  (hs:∀ x,foldedSetIterable iter X.env x=pure x:=by intro _;rfl):JS X (.For tg iter body [] pos) (sD W Ob O O (sFor ι t φ)):=(Aw hp hi hg hb hc hs).imp fun D' σ H hh=>exE hh fun as0 B own δ I h=>by
 refine ⟨as0,B,own,δ,I,oN I h fun xs J H1 s1 G h1=>?_⟩
 have I1:=I.mono s1
 have I2:=I1.rebase I1.apart
 have sB:Same B (mask own H1):=I1.baseIn
 have h2:=h1.base sB I.ex0
 generalize hB':mask own H1=B' at I2 sB h2 G
 have ex':∀ a∈as0,B' a≠none:=I2.ex0
 refine ⟨fun i m σ H=>m=xs.length - i∧i≤xs.length∧∃ own δ,DI W.K as0 B' O own σ δ H∧FitsS W as0 B' Ob O (forD t φ (xs.drop i) δ) D',⟨xs.length,by simp,Nat.zero_le _,own,δ,I2,by simpa using h2⟩,?_⟩
 rintro i m σ3 H3 ⟨rfl,hi,own3,δ3,I3,h3⟩
 by_cases hlt:i < xs.length
 ·refine .inr ⟨G.go i H3 I3.same hlt,fun σ' H'=>∃ own δ,DI W.K as0 B' O own σ' δ H'∧FitsS W as0 B' Ob O (forD t φ (xs.drop (i+1)) δ) D',fun σ' H' ⟨own',δ',I',h'⟩=>⟨xs.length - (i+1),by omega,rfl,hlt,own',δ',I',h'⟩,fun v H4 y=>?_⟩
  obtain ⟨s4,d,hd,dv⟩:=G.yl i H3 v H4 (own3++as0) I3.same I3.exi (fun a ha=>by
   rcases List.mem_append.mp ha with z|z
   ·exact .inr (I3.fresh a z)
   ·exact .inl z) hlt y
  have ed:xs.drop i=d::xs.drop (i+1):=by
   rw [List.drop_eq_getElem_cons hlt]
   rw [List.getElem?_eq_getElem hlt] at hd
   cases hd
   rfl
  rw [ed] at h3
  refine ⟨as0,B',own3,δ3,d,I3.mono s4,dv,?_⟩
  have h3':FitsS W as0 B' Ob O ((bindD t d δ3).bind fun δ1=>(φ δ1).bind fun f=>match f with
   | .nx δ2=>forD t φ (xs.drop (i+1)) δ2
   | .ct δ2=>forD t φ (xs.drop (i+1)) δ2
   | .bk δ2=>.ok (.nx δ2)
   | .rt d=>.ok (.rt d)
   | .rn d=>.ok (.rn d)) D':=h3
  cases hb1:bindD t d δ3 with
  | ok δ1 =>
   rw [hb1] at h3'
   refine fun σ' I'=>⟨as0,B',own3,δ1,I',?_⟩
   have h3'':FitsS W as0 B' Ob O ((φ δ1).bind fun f=>match f with
    | .nx δ2=>forD t φ (xs.drop (i+1)) δ2
    | .ct δ2=>forD t φ (xs.drop (i+1)) δ2
    | .bk δ2=>.ok (.nx δ2)
    | .rt d=>.ok (.rt d)
    | .rn d=>.ok (.rn d)) D':=h3'
   cases hr:φ δ1 with
   | ok f =>
    rw [hr] at h3''
    cases f with
    | nx δ2=>exact fun own' σ' H' I'=>⟨own',δ2,I',h3''⟩
    | ct δ2=>exact fun own' σ' H' I'=>⟨own',δ2,I',h3''⟩
    | bk δ2=>exact h3''
    | rt d=>exact h3''
    | rn d=>exact h3''
   | er x=>rw [hr] at h3'';exact h3''
   | no=>rw [hr] at h3'';exact h3''
  | er x=>unfold bindD at hb1;split at hb1 <;> first|cases hb1|(split at hb1 <;> cases hb1)
  | no=>rw [hb1] at h3';exact h3'.elim
 ·have e:i=xs.length:=by omega
  subst e
  rw [List.drop_length] at h3
  exact .inl ⟨G.stop H3 I3.same,h3 own3 σ3 H3 I3⟩
def ck (τ:FT) (body:FS):Nat→Sd→R Fl
 | 0,_=>.no
 | n+1,δ=>(τ δ).bind fun b=>if b=true then (body δ).bind fun f=>match f with
  | .nx δ2=>ck τ body n δ2
  | .ct δ2=>ck τ body n δ2
  | .bk δ2=>.ok (.nx δ2)
  | .rt d=>.ok (.rt d)
  | .rn d=>.ok (.rn d)
  else .ok (.nx δ)
theorem mz {body:List Stmt} (n:Nat) (hp:PassesOwn (model X.prog X.w) X.A X.env X.xe) (hc:JT X c (tDT W O τ)) (hb:JB X body (sD W O O O φ)):JS X (.While c body [] pos) (sD W Ob O O (ck τ φ n)):=(vY hp hc hb).imp fun D' σ H hh=>exE hh fun as0 B own δ I h=>by
 refine ⟨fun m σ H=>∃ own δ,DI W.K as0 B O own σ δ H∧FitsS W as0 B Ob O (ck τ φ m δ) D',⟨n,own,δ,I,h⟩,?_⟩
 rintro m σ3 H3 ⟨own3,δ3,I3,h3⟩
 cases m with
 | zero=>exact h3.elim
 | succ m =>
  refine ⟨as0,B,own3,δ3,I3,ku I3 h3 fun b H4 s4 h4=>?_⟩
  cases b with
  | false=>exact h4 own3 σ3 H4 (I3.mono s4)
  | true =>
   refine ⟨fun σ' H'=>∃ own δ,DI W.K as0 B O own σ' δ H'∧FitsS W as0 B Ob O (ck τ φ m δ) D',fun σ' H' q=>⟨m,Nat.lt_succ_self m,q⟩,as0,B,own3,δ3,I3.mono s4,?_⟩
   have h4':FitsS W as0 B Ob O ((φ δ3).bind fun f=>match f with
    | .nx δ2=>ck τ φ m δ2
    | .ct δ2=>ck τ φ m δ2
    | .bk δ2=>.ok (.nx δ2)
    | .rt d=>.ok (.rt d)
    | .rn d=>.ok (.rn d)) D':=h4
   cases hr:φ δ3 with
   | ok f =>
    rw [hr] at h4'
    cases f with
    | nx δ2=>exact fun own' σ' H' I'=>⟨own',δ2,I',h4'⟩
    | ct δ2=>exact fun own' σ' H' I'=>⟨own',δ2,I',h4'⟩
    | bk δ2=>exact h4'
    | rt d=>exact h4'
    | rn d=>exact h4'
   | er x=>rw [hr] at h4';exact h4'
   | no=>rw [hr] at h4';exact h4'
end
theorem gG {α β:Type} {r:R α} {f:α→R β} {b:β} (h:r.bind f=.ok b):∃ a,r=.ok a∧f a=.ok b:=by
 cases r with
 | ok a=>exact ⟨a,rfl,h⟩
 | er x=>cases h
 | no=>cases h
def R.calm {α:Type}:R α→R α
 | .ok a=>.ok a
 | _=>.no
def captD (ix:List (Option Nat)) (δ:Sd):Sd:=ix.map fun o=>o.bind fun j=>(δ[j]?).getD none
def freeT:TgD→Sd→Bool
 | .one i,δ=>match δ[i]? with
  | some none=>true
  | _=>false
 | .tup is,δ=>is.all fun i=>match δ[i]? with
  | some none=>true
  | _=>false
def compD (tg:TgD) (τ:FT) (ε:FE) (δ0:Sd):List D→R (List D)
 | []=>.ok []
 | x::r=>(bindD tg x δ0).bind fun δ1=>(τ δ1).bind fun b=>if b=true then (ε δ1).bind fun y=>(compD tg τ ε δ0 r).bind fun ys=>.ok (y::ys) else compD tg τ ε δ0 r
def bE (tg:TgD) (τ:FT) (ε:FE) (δ0:Sd) (xs:List D):R D:=if freeT tg δ0=true∧xs.length≤1000000 then (compD tg τ ε δ0 xs).calm.bind fun ys=>.ok (.lst ys) else .no
def cC (ix:List (Option Nat)) (ι:FA) (tg:TgD) (τ:FT) (ε:FE):FE:=fun δ=>(ι δ).bind fun xs=>bE tg τ ε (captD ix δ) xs
def qYes:FT:=fun _=>.ok true
theorem lB:∀ (is:List Nat) (ds:List D) (δ0 δ:Sd),(∀ (i:Nat),i∈is→δ0[i]?=some none)→(∀ (i:Nat) (d:D),δ0[i]?=some (some d)→δ[i]?=some (some d))→∀ (i:Nat) (d:D),δ0[i]?=some (some d)→(setsD is ds δ)[i]?=some (some d)
 | [],_,_,_,_,h=>by intro i d e;unfold setsD;exact h i d e
 | _::_,[],_,_,_,h=>by intro i d e;unfold setsD;exact h i d e
 | j::is,x::ds,δ0,δ,hn,h=>by
  intro i d e
  unfold setsD
  refine lB is ds δ0 _ (fun i hi=>hn i (List.mem_cons_of_mem _ hi)) (fun i d e=>?_) i d e
  have hji:j≠i:=fun z=>by
   have:=hn j List.mem_cons_self
   rw [z,e] at this;cases this
  rw [getElem?_set',if_neg hji]
  exact h i d e
theorem tB {tg:TgD} {x:D} {δ0 δ1:Sd} (hf:freeT tg δ0=true) (h:bindD tg x δ0=.ok δ1):∀ (i:Nat) (d:D),δ0[i]?=some (some d)→δ1[i]?=some (some d):=by
 cases tg with
 | one j =>
  cases h
  intro i d e
  have hji:j≠i:=fun z=>by
   subst z
   have hf':(match δ0[j]? with|some none=>true|_=>false)=true:=hf
   rw [e] at hf'
   cases hf'
  rw [getElem?_set',if_neg hji]
  exact e
 | tup is =>
  cases x with
  | tup ds =>
   have h':(if ds.length=is.length then R.ok (setsD is ds δ0) else .no)=.ok δ1:=h
   split at h'
   ·cases h'
    refine lB is ds δ0 δ0 (fun i hi=>?_) fun i d e=>e
    have hf':(is.all fun i=>match δ0[i]? with|some none=>true|_=>false)=true:=hf
    have:=List.all_eq_true.mp hf' i hi
    split at this
    ·assumption
    ·cases this
   ·cases h'
  | _=>cases h
theorem nZ:∀ (is:List Nat) (ds:List D) (δ:Sd),(setsD is ds δ).length=δ.length
 | [],_,_=>by unfold setsD;rfl
 | _::_,[],_=>by unfold setsD;rfl
 | j::is,x::ds,δ=>by unfold setsD;rw [nZ is ds];simp
theorem vA {tg:TgD} {x:D} {δ0 δ1:Sd} (h:bindD tg x δ0=.ok δ1):δ1.length=δ0.length:=by
 cases tg with
 | one j=>cases h;simp
 | tup is =>
  cases x with
  | tup ds =>
   have h':(if ds.length=is.length then R.ok (setsD is ds δ0) else .no)=.ok δ1:=h
   split at h'
   ·cases h';exact nZ _ _ _
   ·cases h'
  | _=>cases h
theorem DI.plain {K:PySem.W.Frag} {M:List Addr} {H:Hp} {σ:St} {δ:Sd} (hl:δ.length=σ.length) (ex:∀ a∈M,H a≠none) (var:∀ (i:Nat) (d:D),δ[i]?=some (some d)→∃ v,σ[i]?=some (some v)∧Den K (mask M H) d v):DI K M H [] [] σ δ H :=
 ⟨hl,rfl,List.nodup_nil,List.nodup_nil,fun a ha=>(nomatch ha),ex,Same.refl _,fun i d _ e=>var i d e,fun i a h=>(by simp at h)⟩
section
variable {X:Cx} {W Wb:Wd} {O:List Nat} {osc:Scope} {ON N:List Str} {ix:List (Option Nat)} {scope:Scope} {tg elt iter:Expr} {ifs:List Expr} {pos:Pos} {ι:FA} {t:TgD} {τ:FT} {ε:FE}
theorem cD:JTs X [] (tDT W O qYes):=x3.imp fun σ H Q hh=>exE hh fun as0 B own δ I h=>h H (Same.refl _)
theorem oX {c:Expr} (h:JT X c (tDT W O τ)):JTs X [c] (tDT W O τ):=yp h
theorem ym {K:PySem.W.Frag} {as0 own:List Addr} {B H:Hp} {σ:St} {δ:Sd} (I:DI K as0 B O own σ δ H) (hO:∀ j∈ix,∀ k,j=some k→k∉O):∀ (i:Nat) (d:D),(captD ix δ)[i]?=some (some d)→∃ v,(capt ix σ)[i]?=some (some v)∧Den K (mask (own++as0) H) d v:=by
 intro i d e
 unfold captD at e
 unfold capt
 rw [List.getElem?_map] at e ⊢
 cases h:ix[i]? with
 | none=>rw [h] at e;cases e
 | some o =>
  rw [h] at e
  cases o with
  | none=>cases e
  | some j =>
   have e':(δ[j]?).getD none=some d:=Option.some.inj e
   have ej:δ[j]?=some (some d):=by
    cases q:δ[j]? with
    | none=>rw [q] at e';cases e'
    | some w=>rw [q] at e';rw [← e'];rfl
   obtain ⟨v,h1,h2⟩:=I.var j d (hO _ (List.mem_of_getElem? h) j rfl) ej
   exact ⟨v,by show some ((σ[j]?).getD none)=_;rw [h1];rfl,h2⟩
structure GivesC (K:PySem.W.Frag) (M:List Addr) (H:Hp) (J:It) (xs:List D):Prop where
 go:∀ i H1,Same H H1→i < xs.length→J.go i H1
 yl:∀ i H1 v H2 acc,Same H H1→H acc=none→(∀ a∈acc::M,H1 a≠none)→i < xs.length→J.yld i H1 v H2→Same H1 H2∧∃ d,xs[i]?=some d∧Den K (mask (acc::M) H2) d v
 stop:∀ H1,Same H H1→J.stop xs.length H1
theorem GivesD.comp {K:PySem.W.Frag} {as0 own:List Addr} {H:Hp} {J:It} {xs:List D} (G:GivesD K as0 (mask own H) J xs):GivesC K (own++as0) H J xs where
 go:=fun i H1 s hi=>G.go i H1 ((aC _ _).trans s) hi
 yl:=fun i H1 v H2 acc s hacc hex hi y=>G.yl i H1 v H2 (acc::(own++as0)) ((aC _ _).trans s) hex (fun a ha=>by
  rcases List.mem_cons.mp ha with rfl|ha
  ·right
   cases z:mask own H a with
   | none=>rfl
   | some u=>have:=aC _ _ _ _ z;rw [hacc] at this;cases this
  ·rcases List.mem_append.mp ha with z|z
   ·exact .inr (dR z)
   ·exact .inl z) hi y
 stop:=fun H1 s=>G.stop H1 ((aC _ _).trans s)
theorem bI {K:PySem.W.Frag} {as0 own:List Addr} {B H:Hp} {σ:St} {δ:Sd} {xs:List D} {J:It} {Q:VK} (hWb:Wb.K=K) (I:DI K as0 B O own σ δ H) (hO:∀ j∈ix,∀ k,j=some k→k∉O) (G:GivesC K (own++as0) H J xs)
  (hq:match bE t τ ε (captD ix δ) xs with
   | .ok d=>∀ p o H',Same H H'→H p=none→H' p=some o→OwnD K (mask (p::(own++as0)) H') o d→Q (.ref p) H'
   | _=>False):compGo (gD Wb [] t) (tDT Wb [] τ) (tD Wb [] ε) J (capt ix σ) H Q:=by
 intro acc hacc
 unfold bE at hq
 by_cases hc:freeT t (captD ix δ)=true∧xs.length≤1000000
 ·rw [if_pos hc] at hq
  obtain ⟨hf,hlen⟩:=hc
  cases hall:compD t τ ε (captD ix δ) xs with
  | er x=>rw [hall] at hq;exact hq.elim
  | no=>rw [hall] at hq;exact hq.elim
  | ok all =>
   rw [hall] at hq
   have hq':∀ p o H',Same H H'→H p=none→H' p=some o→OwnD K (mask (p::(own++as0)) H') o (.lst all)→Q (.ref p) H':=hq
   generalize hδ0:captD ix δ=δ0 at hf hall
   have cl:δ0.length=(capt ix σ).length:=by rw [← hδ0];unfold captD capt;simp
   have cv:∀ (i:Nat) (d:D),δ0[i]?=some (some d)→∃ v,(capt ix σ)[i]?=some (some v)∧Den K (mask (own++as0) H) d v:=by rw [← hδ0];exact ym I hO
   generalize capt ix σ=σ0 at cl cv
   have exM0:=I.exi
   generalize hM:own++as0=M at cv hq' G exM0
   have exM:∀ a∈M,H a≠none:=exM0
   have naM:acc∉M:=fun z=>exM acc z hacc
   -- heaps of the turns
   have exA:∀ {H':Hp},Same H H'→(∃ o,H' acc=some o)→∀ a∈acc::M,H' a≠none:=fun {H'} s ⟨o,e⟩ a ha=>by
    rcases List.mem_cons.mp ha with rfl|ha
    ·rw [e];simp
    ·cases q:H a with
     | none=>exact absurd q (exM a ha)
     | some u=>rw [s a u q];simp
   have s0:Same H (upd H acc (.lst [])):=bg hacc _
   refine ⟨fun i m σ' H'=>m=xs.length - i∧i≤xs.length∧∃ ys es rest,H' acc=some (.lst ys)∧ys.length≤i∧Same H H'∧Dens K (mask (acc::M) H') es ys∧compD t τ ε δ0 (xs.drop i)=.ok rest∧all=es++rest∧DI K (acc::M) H' [] [] σ' δ0 H',
    ⟨xs.length,by simp,Nat.zero_le _,[],[],all,bm,Nat.zero_le _,s0,rfl,by simpa using hall,rfl,DI.plain cl (exA s0 ⟨_,bm⟩) fun i d e=>let ⟨v,h1,h2⟩:=cv i d e;⟨v,h1,h2.mono (iG hacc s0)⟩⟩,?_⟩
   rintro i m σ1 H1 ⟨rfl,hi,ys,es,rest,e1,hl1,s1,d1,c1,a1,I1⟩
   have sB:Same H H1:=s1
   by_cases hlt:i < xs.length
   ·refine .inr ⟨G.go i H1 sB hlt,fun σ' H'=>∃ ys es rest,H' acc=some (.lst ys)∧ys.length≤i+1∧Same H H'∧Dens K (mask (acc::M) H') es ys∧compD t τ ε δ0 (xs.drop (i+1))=.ok rest∧all=es++rest∧DI K (acc::M) H' [] [] σ' δ0 H',
     fun σ' H' ⟨ys,es,rest,q⟩=>⟨xs.length - (i+1),by omega,rfl,hlt,ys,es,rest,q⟩,fun v H2 y=>?_⟩
    obtain ⟨s2,d,hd,dv⟩:=G.yl i H1 v H2 acc sB hacc (exA s1 ⟨_,e1⟩) hlt y
    have ed:xs.drop i=d::xs.drop (i+1):=by
     rw [List.drop_eq_getElem_cons hlt]
     rw [List.getElem?_eq_getElem hlt] at hd
     cases hd
     rfl
    rw [ed] at c1
    obtain ⟨δ1,b1,c2⟩:=gG (show (bindD t d δ0).bind (fun δ1=>(τ δ1).bind fun b=>if b=true then (ε δ1).bind fun y=>(compD t τ ε δ0 (xs.drop (i+1))).bind fun ys=>.ok (y::ys) else compD t τ ε δ0 (xs.drop (i+1)))=.ok rest from c1)
    obtain ⟨b,b2,c3⟩:=gG c2
    have I2:DI K (acc::M) H2 [] [] σ1 δ0 H2:=DI.plain I1.len (exA (s1.trans s2) ⟨_,s2 _ _ e1⟩) fun i d e=>let ⟨v,h1,h2⟩:=I1.var i d (by simp) e;⟨v,h1,h2.mono (aW s2)⟩
    -- behind the target,at any later heap in which acc's list may have grown
    have again:∀ {σ3:St} {H3 H4:Hp},DI K (acc::M) H2 [] [] σ3 δ1 H3→Same (mask (acc::M) H3) (mask (acc::M) H4)→(∀ a∈acc::M,H4 a≠none)→DI K (acc::M) H4 [] [] σ3 δ0 H4:=fun {σ3 H3 H4} I3 s34 ex4 =>
     DI.plain (by rw [← vA b1];exact I3.len) ex4 fun i d e=>let ⟨v,h1,h2⟩:=I3.var i d (by simp) (tB hf b1 i d e);⟨v,h1,h2.mono s34⟩
    refine ⟨acc::M,H2,[],δ0,d,by rw [hWb];exact I2,by rw [hWb];exact dv,?_⟩
    rw [b1]
    refine fun σ3 I3=>⟨acc::M,H2,[],δ1,I3,?_⟩
    rw [hWb] at I3
    rw [b2]
    refine fun H3 s3=>?_
    have I3':=I3.mono s3
    have s13:Same H1 H3:=s2.trans s3
    cases b with
    | false =>
     exact ⟨ys,es,rest,s13 _ _ e1,by omega,s1.trans s13,d1.mono (aW s13),c3,a1,again I3' (Same.refl _) (exA (s1.trans s13) ⟨_,s13 _ _ e1⟩)⟩
    | true =>
     obtain ⟨y',b3,c4⟩:=gG (show (ε δ1).bind (fun y=>(compD t τ ε δ0 (xs.drop (i+1))).bind fun ys=>.ok (y::ys))=.ok rest from c3)
     obtain ⟨r',b4,c5⟩:=gG c4
     cases c5
     refine ⟨acc::M,H2,[],δ1,by rw [hWb];exact I3',?_⟩
     rw [b3]
     refine fun v4 H4 s4 d4=>?_
     rw [hWb] at d4
     have s14:Same H1 H4:=s13.trans s4
     have e4:=s14 _ _ e1
     have hm:=million
     have same5:Same (mask (acc::M) H4) (mask (acc::M) (upd H4 acc (.lst (ys++[v4])))):=fun b o e=>by
      by_cases hb:b∈acc::M
      ·rw [dR hb] at e;cases e
      ·rw [a9 hb] at e ⊢
       rw [a8 (fun z=>hb (by rw [z];exact List.mem_cons_self))]
       exact e
     have s5:Same H (upd H4 acc (.lst (ys++[v4]))):=fun b o e=>by
      rw [a8 (bq e hacc)]
      exact (s1.trans s14) b o e
     refine ⟨ys,e4,by omega,ys++[v4],es++[y'],r',bm,by simp;omega,s5,?_,b4,by rw [a1];simp,again I3' ((aW s4).trans same5) (exA s5 ⟨_,bm⟩)⟩
     exact (Dens.append (d1.mono (aW s14)) (Dens.cons d4 Dens.nil)).mono same5
   ·have e':i=xs.length:=by omega
    subst e'
    rw [List.drop_length] at c1
    cases c1
    rw [List.append_nil] at a1
    subst a1
    exact .inl ⟨G.stop H1 sB,hq' acc _ H1 s1 hacc e1 ⟨ys,rfl,d1⟩⟩
 ·rw [if_neg hc] at hq
  exact hq.elim
theorem eZ (hcs:csOk osc ON N ix scope=true) (hi:JI X tg iter (iD W O ι)) (hg:∀ b,JG (blk X N scope b) tg (gD Wb [] t)) (ht:∀ b,JTs (blk X N scope b) ifs (tDT Wb [] τ)) (he:∀ b,JE (blk X N scope b) elt (tD Wb [] ε)) (hO:∀ j∈ix,∀ k,j=some k→k∉O)
  (hWb:Wb.K=W.K:=by rfl) (hE:X.env.scope=osc:=by rfl) (hON:X.N=ON:=by rfl) (hc:X.calm=true:=by rfl) (hs:∀ x,foldedSetIterable iter X.env x=pure x:=by intro _;rfl):JE X (.ListComp elt [⟨tg,iter,ifs,0⟩] scope pos) (tN W O (cC ix ι t τ ε)) :=
 (zt hcs hi hg ht he hE hON hc hs).imp fun σ H Q hh=>exE hh fun as0 B own δ I h=>⟨as0,B,own,δ,I,by
  unfold cC at h
  cases hr:ι δ with
  | no=>rw [hr] at h;exact h.elim
  | er x=>rw [hr] at h;exact h
  | ok xs =>
   rw [hr] at h
   refine fun J H1 s1 G=>bI hWb (I.mono s1) hO G.comp ?_
   have h':FitsN W (own++as0) H (bE t τ ε (captD ix δ) xs) Q:=h
   cases hq:bE t τ ε (captD ix δ) xs with
   | ok d=>rw [hq] at h';exact fun p o H' s hp=>h' p o H' (s1.trans s) (s1.free hp)
   | er x =>
    unfold bE at hq
    split at hq
    ·cases hc:compD t τ ε (captD ix δ) xs <;> rw [hc] at hq <;> cases hq
    ·cases hq
   | no=>rw [hq] at h';exact h'.elim⟩
theorem pN {i:Nat} {x:Str} {spos pos':Pos} (hN:X.N.Nodup) (hl:Loc X.env.scope x) (hcs:csOk osc ON N ix scope=true) (hi:JI X tg iter (iD W O ι)) (hg:∀ b,JG (blk X N scope b) tg (gD Wb [] t)) (ht:∀ b,JTs (blk X N scope b) ifs (tDT Wb [] τ)) (he:∀ b,JE (blk X N scope b) elt (tD Wb [] ε)) (hO:∀ j∈ix,∀ k,j=some k→k∉O)
  (hWb:Wb.K=W.K:=by rfl) (hx:X.N[i]?=some x:=by rfl) (hE:X.env.scope=osc:=by rfl) (hON:X.N=ON:=by rfl) (hc:X.calm=true:=by rfl)
  (hsw:swapsWith (.ListComp elt [⟨tg,iter,ifs,0⟩] scope pos) (some (.Name x pos')) spos.line X.env=pure true:=by rfl)
  (hf:X.fn x=true∨X.env.scope.names.lookup x=some .local:=by first|exact .inl rfl|exact .inr rfl|assumption)
  (hs:∀ x,foldedSetIterable iter X.env x=pure x:=by intro _;rfl):JS X (.Assign [.Name x pos'] (.ListComp elt [⟨tg,iter,ifs,0⟩] scope pos) spos) (tAsg (tN W O (cC ix ι t τ ε)) (gName i)) :=
 (rj hN hl hcs hi hg ht he hx hE hON hc hsw hf hs).imp fun D σ H hh=>exE hh fun as0 B own δ I h=>⟨as0,B,own,δ,I,by
  unfold cC at h
  cases hr:ι δ with
  | no=>rw [hr] at h;exact h.elim
  | er x=>rw [hr] at h;exact h
  | ok xs =>
   rw [hr] at h
   refine fun J H1 s1 G=>bI hWb (I.mono s1) hO G.comp ?_
   have h':FitsN W (own++as0) H (bE t τ ε (captD ix δ) xs) (fun x H1=>gName i x σ H1 D.nx):=h
   cases hq:bE t τ ε (captD ix δ) xs with
   | ok d=>rw [hq] at h';exact fun p o H' s hp=>h' p o H' (s1.trans s) (s1.free hp)
   | er x =>
    unfold bE at hq
    split at hq
    ·cases hc:compD t τ ε (captD ix δ) xs <;> rw [hc] at hq <;> cases hq
    ·cases hq
   | no=>rw [hq] at h';exact h'.elim⟩
theorem pL {Ob:List Nat} {i:Nat} {st:Stmt} (hO:i∉O) (h:JS X st (tAsg (tN W O ε) (gName i))):JS X st (sD W Ob O O (bQ i ε)):=h.imp fun D σ H hh=>exE hh fun as0 B own δ I h =>
 ⟨as0,B,own,δ,I,kC I h fun d p o H' s hp e od h'=>h' own _ H' ((I.mono s).set hO (od.den (I.new hp) e))⟩
end
def startD (N:List Str) (ds:List D):Sd:=ds.map some++List.replicate (N.length - ds.length) none
def runD (φ:FS) (N P:List Str) (ds:List D):R D:=if ds.length=P.length then (φ (startD N ds)).bind fun f=>match f with
 | .rt d=>.ok d
 | .rn d=>.ok d
 | .nx _=>.ok .non
 | _=>.no
 else .no
def spD (K:PySem.W.Frag) (mg:Str→Option Value) (F:List D→R D):Sp:=fun vs H Q _=>∃ as ds,(∀ a∈as,H a≠none)∧Dens K (mask as H) ds vs∧Fits ⟨K,mg,E0⟩ as H (F ds) Q
section
variable {P:Program} {w:World} {K:PySem.W.Frag} {mg:Str→Option Value} {base:Heap}
theorem rH {H:Hp}:∀ {ds:List D} {vs:List V} {i:Nat} {d:D},Dens K H ds vs→∀ {n:Nat},(ds.map some++List.replicate n none)[i]?=some (some d)→∃ v,(vs.map some++List.replicate n none)[i]?=some (some v)∧Den K H d v:=by
 intro ds vs i d h n e
 have hl:=h.len
 by_cases hi:i < ds.length
 ·rw [List.getElem?_append_left (by simpa using hi),List.getElem?_map] at e
  rw [List.getElem?_append_left (by rw [List.length_map,← hl];exact hi),List.getElem?_map]
  cases q:ds[i]? with
  | none=>rw [q] at e;cases e
  | some d' =>
   rw [q] at e
   cases e
   obtain ⟨v,h1,h2⟩:=h.get q
   exact ⟨v,by rw [h1];rfl,h2⟩
 ·rw [List.getElem?_append_right (by simpa using hi),List.getElem?_replicate] at e
  split at e <;> cases e
theorem Fun.okD {x qual:Str} {st:Stmt} {f:Addr} {fd:FuncData} {N ps:List Str} {k:Nat} {φ:FS} {O':List Nat} (F:Fun K x qual st f fd) (S:FnScope N ps (ap st))
  (hbody:∀ (cdv:Value) (A:Around) (outer:List Env) (s:Shared) (H:Hp) (E:XK),Room k (A.deeper (envOfC qual (ap st) s.heap.objs.size f cdv)) →
   JB (cxOf CX0 P w K mg base N qual (ap st) f cdv A outer s H E).nox (c8 st) (sD ⟨K,mg,E0⟩ [] [] O' φ)):FnOk P w K mg base CX0 (k+1) f fd ps (spD K mg (runD φ N ps)):=by
 refine F.okJ S (fun vs H Q E h=>?_) fun cdv A outer s H vs Q E hr h=>?_
 ·obtain ⟨as,ds,ex,dv,h⟩:=h
  unfold runD at h
  split at h
  ·rename_i hl;rw [← dv.len];exact hl
  ·exact h.elim
 ·obtain ⟨as,ds,ex,dv,h⟩:=h
  unfold runD at h
  split at h
  ·rename_i hl
   refine ⟨_,hbody cdv A outer s H E hr,as,H,[],startD N ds,⟨?_,rfl,List.nodup_nil,List.nodup_nil,fun a ha=>(nomatch ha),ex,Same.refl _,fun i d _ e=>?_,fun i a h=>(by simp at h)⟩,?_⟩
   ·unfold startD start
    simp [dv.len]
   ·unfold startD at e
    unfold start
    rw [← dv.len]
    exact rH dv e
   ·cases hr:φ (startD N ds) with
    | ok fl =>
     rw [hr] at h
     cases fl with
     | rt d=>exact fun v H' s dv'=>h v H' s dv'
     | rn d=>exact fun p o H' s hp e od=>h (.ref p) H' s (od.den (fun z=>ex p z hp) e)
     | nx δ=>exact fun own σ H' I=>h .non H' I.same rfl
     | bk δ=>exact h.elim
     | ct δ=>exact h.elim
    | er x=>rw [hr] at h;exact fun e C H' s=>h e C H' s
    | no=>rw [hr] at h;exact h.elim
  ·exact h.elim
section
variable {X:Cx} {O:List Nat} {x:Str} {st:Stmt} {ps:List Str} {f:Addr} {fd:FuncData} {j k:Nat} {F:List D→R D} {p pos:Pos} {e:Expr} {es:List Expr} {α:FA}
theorem aF (D:Def X.K X.mg x st ps f fd) (G:FnOk X.prog X.w X.K X.mg X.base CX0 j f fd ps (spD K mg F)) (hr:Room k X.A) (ha:JA X (e::es) (tDA ⟨K,mg,E0⟩ O α)) (hj:j≤k:=by decide) (hg:Gl X x:=by rfl) (hdb:(x==("__debug__":Str))=false:=by decide)
  (h1:noStar e=true:=by rfl) (h2:es.all noStar=true:=by rfl):JE X (.Call (.Name x p) (e::es) [] pos) (tD ⟨K,mg,E0⟩ O (al F α)) :=
 (ze D G hr ha hj hg hdb h1 h2).imp fun σ H Q hh=>exE hh fun as0 B own δ I h=>⟨as0,B,own,δ,I,c6 h fun ds vs H1 s1 d1 h1=>⟨own++as0,ds,(I.mono s1).exi,d1,h1⟩⟩
end
section
variable {K:PySem.W.Frag} {mg:Str→Option Value} {X:Cx} {O:List Nat} {x:Str} {st:Stmt} {ps:List Str} {f:Addr} {fd:FuncData} {j k:Nat} {F:List D→R D} {p pos:Pos} {e:Expr} {es:List Expr} {α:FA}
theorem pO {W:Wd} {as:List Addr} {H:Hp} {Q:VK} {r:R (List D)} {g:List D→R D} {Q':List V→Hp→Prop} (h:FitsN W as H (r.bind g) Q) (q:∀ d v H',Same H H'→Dens W.K (mask as H') d v→FitsN W as H' (g d) Q→Q' v H'):FitsA W as H r Q':=gY h q
end
theorem zV {a:Addr} {ns:List Int} {H:Hp} {F:List D→R D} {Q:VK} {E:XK} (hS:SqL K H a (ns.map V.int)) (h:F [.lst (ns.map D.int)]=.ok (.bl true)) (q:∀ H',Q (.bl true) H'):spD K mg F [.ref a] H Q E:=by
 refine ⟨[],[.lst (ns.map D.int)],fun a ha=>(nomatch ha),⟨.ref a,[],rfl,⟨a,ns.map V.int,rfl,by rw [wl];exact hS,?_⟩,rfl⟩,?_⟩
 ·clear h hS
  induction ns with
  | nil=>exact rfl
  | cons n r ih=>exact ⟨_,_,rfl,rfl,ih⟩
 ·rw [h]
  intro v H' s dv
  cases dv
  exact q H'
end
section
variable {W:Wd} {X:Cx}
theorem aQ {as:List Addr} {H:Hp} {d:D} {v:V} {Q:VK} (h:Fits W as H (.ok d) Q) (hd:Den W.K (mask as H) d v):Q v H:=h v H (Same.refl _) hd
theorem yt:OpR X (binaryOp .Add) (fun x y H Q=>∃ l b xs zs,x=.ref l∧y=.ref b∧SqL X.K H l xs∧SqL X.K H b zs∧xs.length+zs.length≤sizeLine∧∀ p,H p=none→Q (.ref p) (upd H p (.lst (xs++zs)))):=by
 intro pins s σ H x y v u Q I rx ry h
 obtain ⟨l,b,xs,zs,rfl,rfl,hH,hB,hz,q⟩:=h
 cases rx
 cases ry
 obtain ⟨its,r,pl,hl⟩:=I.list hH
 obtain ⟨its2,r2,pl2,hl2⟩:=I.list hB
 obtain ⟨⟨cls,dd,data,sl⟩,ho,hc,n,hd⟩:=pl.isList
 obtain ⟨⟨cls2,dd2,data2,sl2⟩,ho2,hc2,n2,hd2⟩:=pl2.isList
 simp only at hc hd hc2 hd2
 subst hc hd hc2 hd2
 have e:its.toArray++its2.toArray=(its++its2).toArray:=by simp
 refine concat_meets ⟨_,ho,rfl⟩ ⟨_,ho2,rfl⟩ noFill_list_add seq_list_add PySem.F.slot_list_add PySem.F.entry_list_add (PySem.F.args_list_add_2 _ _) (list_addW l b its.toArray its2.toArray n n2 dd dd2 sl sl2 (by rw [List.size_toArray,List.size_toArray,← r.length,← r2.length];exact hz)) ⟨ho,ho2,?_⟩
 rw [e]
 exact ⟨.ref _,_,I.lnew (t':=s.toks) (r.append r2) (by rw [List.length_append];exact hz),rfl,q _ I.fresh⟩
def uPlus (K:PySem.W.Frag):R2:=fun x y H Q=>match x,y with
 | .int i,.int j=>Q (.int (i+j)) H
 | .str i,.str j=>i.length+j.length≤sizeLine∧Q (.str (i++j)) H
 | .ref l,.ref b=>(∃ xs zs,SqL K H l xs∧SqL K H b zs∧xs.length+zs.length≤sizeLine∧∀ p,H p=none→Q (.ref p) (upd H p (.lst (xs++zs)))) ∨
   ∃ xs zs,SqT K H l xs∧SqT K H b zs∧xs≠[]∧xs.length+zs.length≤sizeLine∧(zs=[]→Q (.ref l) H)∧(zs≠[]→∀ p,H p=none→Q (.ref p) (upd H p (.tup (xs++zs))))
 | _,_=>False
theorem bG (K:PySem.W.Frag) (hK:X.K=K:=by rfl):OpR X (binaryOp .Add) (uPlus K):=by
 subst hK
 refine ((Ar.or sj).or (yt.or xt)).imp fun x y H Q q=>?_
 unfold uPlus at q
 split at q
 ·exact .inl (.inl ⟨_,_,rfl,rfl,q⟩)
 ·exact .inl (.inr ⟨_,_,rfl,rfl,q.1,q.2⟩)
 ·rcases q with ⟨xs,zs,h1,h2,h3,h4⟩|⟨xs,zs,h1,h2,h3,h4,h5,h6⟩
  ·exact .inr (.inl ⟨_,_,xs,zs,rfl,rfl,h1,h2,h3,h4⟩)
  ·exact .inr (.inr ⟨_,_,xs,zs,rfl,rfl,h1,h2,h3,h4,h5,h6⟩)
 ·exact q.elim
def addD (a b:D):R D:=match a,b with
 | .int i,.int j=>.ok (.int (i+j))
 | .str x,.str y=>if x.length+y.length≤1000000 then .ok (.str (x++y)) else .no
 | .lst xs,.lst ys=>if xs.length+ys.length≤1000000 then .ok (.lst (xs++ys)) else .no
 | .tup xs,.tup ys=>if xs.isEmpty=false∧xs.length+ys.length≤1000000 then .ok (.tup (xs++ys)) else .no
 | _,_=>.no
theorem pAdd (K:PySem.W.Frag) (hW:W.K=K:=by rfl):OpD W (uPlus K) addD:=by
 subst hW
 intro as H x y a b Q hn da db h
 unfold addD at h
 split at h
 ·cases da;cases db;exact aQ h rfl
 ·cases da;cases db
  split at h
  ·rename_i hl;exact ⟨Nat.le_trans hl million,aQ h rfl⟩
  ·exact h.elim
 ·rename_i xs ys
  obtain ⟨p,vs,rfl,q1,q2⟩:=da
  obtain ⟨p2,ws,rfl,q3,q4⟩:=db
  split at h
  ·rename_i hl
   rw [q2.len,q4.len] at hl
   refine .inl ⟨vs,ws,(aC _ _).seq q1,(aC _ _).seq q3,Nat.le_trans hl million,fun p hp=>?_⟩
   refine h _ _ (bg hp _) ⟨p,vs++ws,rfl,.inl (.inl (by rw [a9 (hn p hp)];exact bm)),(q2.append q4).mono (aW (bg hp _))⟩
  ·exact h.elim
 ·rename_i xs ys
  obtain ⟨p,vs,rfl,q1,q2⟩:=da
  obtain ⟨p2,ws,rfl,q3,q4⟩:=db
  split at h
  ·rename_i hl
   obtain ⟨he,hl⟩:=hl
   have he':vs≠[]:=fun z=>by
    have:=q2.empty
    rw [he,z] at this;cases this
   rw [q2.len,q4.len] at hl
   refine .inr ⟨vs,ws,(aC _ _).seqT q1,(aC _ _).seqT q3,he',Nat.le_trans hl million,fun z=>?_,fun z p hp=>?_⟩
   ·have:ys=[]:=by
     cases ys with
     | nil=>rfl
     | cons d r=>obtain ⟨_,_,e,_⟩:=q4;rw [z] at e;cases e
    subst this
    rw [List.append_nil] at h
    exact aQ h ⟨p,vs,rfl,q1,q2⟩
   ·exact h _ _ (bg hp _) ⟨p,vs++ws,rfl,.inl (.inl (by rw [a9 (hn p hp)];exact bm)),(q2.append q4).mono (aW (bg hp _))⟩
  ·exact h.elim
 ·exact h.elim
def subD (a b:D):R D:=match a,b with
 | .int i,.int j=>.ok (.int (i - j))
 | _,_=>.no
theorem pSub:OpD W uSub subD:=by
 intro as H x y a b Q hn da db h
 unfold subD at h
 split at h
 ·cases da;cases db;exact aQ h rfl
 ·exact h.elim
theorem qT:OpR X (binaryOp .Mult) (fun x y H Q=>∃ i n,x=.str i∧y=.int n∧MulOk i n∧Q (.str (Txt.mul i n)) H):=by
 intro pins s σ H x y v u Q I rx ry h
 obtain ⟨i,n,rfl,rfl,hm,q⟩:=h
 obtain ⟨t,rfl⟩:=rx
 obtain ⟨t',rfl⟩:=ry
 exact bj I.tk (SB.mul hm fun t' k htk=>⟨.str _,H,I.tok _,⟨t',rfl⟩,q⟩)
def uMulD:R2:=fun x y H Q=>match x,y with
 | .int i,.int j=>CMul i j∧Q (.int (i*j)) H
 | .str i,.int j=>MulOk i j∧Q (.str (Txt.mul i j)) H
 | _,_=>False
theorem oMulD:OpR X (binaryOp .Mult) uMulD:=(zA.or qT).imp fun x y H Q q=>by
 unfold uMulD at q
 split at q
 ·exact .inl ⟨_,_,rfl,rfl,q.1,q.2⟩
 ·exact .inr ⟨_,_,rfl,rfl,q.1,q.2⟩
 ·exact q.elim
instance (i j:Int):Decidable (CMul i j):=by unfold CMul;infer_instance
instance (i j:Int):Decidable (CDiv i j):=by unfold CDiv;infer_instance
instance (i j:Int):Decidable (CPow i j):=by unfold CPow;infer_instance
def mulD (a b:D):R D:=match a,b with
 | .int i,.int j=>if CMul i j then .ok (.int (i*j)) else .no
 | .str x,.int n=>if x.length≤1000∧-1000≤n∧n≤1000 then .ok (.str (Txt.mul x n)) else .no
 | _,_=>.no
theorem pMul:OpD W uMulD mulD:=by
 intro as H x y a b Q hn da db h
 unfold mulD at h
 split at h
 ·cases da;cases db
  split at h
  ·rename_i hl;exact ⟨hl,aQ h rfl⟩
  ·exact h.elim
 ·cases da;cases db
  split at h
  ·rename_i hl;exact ⟨mulOk_of 1000 1000 hl.1 (by omega) (by omega) (by decide) (by decide),aQ h rfl⟩
  ·exact h.elim
 ·exact h.elim
def divD (a b:D):R D:=match a,b with
 | .int i,.int j=>if CDiv i j then .ok (.int (i/j)) else .no
 | _,_=>.no
theorem pDiv:OpD W uDiv divD:=by
 intro as H x y a b Q hn da db h
 unfold divD at h
 split at h
 ·cases da;cases db
  split at h
  ·rename_i hl;exact ⟨hl,aQ h rfl⟩
  ·exact h.elim
 ·exact h.elim
def modD (a b:D):R D:=match a,b with
 | .int i,.int j=>if 0 < j then .ok (.int (i % j)) else .no
 | _,_=>.no
theorem pMod:OpD W uMod modD:=by
 intro as H x y a b Q hn da db h
 unfold modD at h
 split at h
 ·cases da;cases db
  split at h
  ·rename_i hl;exact ⟨hl,aQ h rfl⟩
  ·exact h.elim
 ·exact h.elim
def powD (a b:D):R D:=match a,b with
 | .int i,.int j=>if CPow i j then .ok (.int (i ^ j.toNat)) else .no
 | _,_=>.no
theorem pPow:OpD W uPow powD:=by
 intro as H x y a b Q hn da db h
 unfold powD at h
 split at h
 ·cases da;cases db
  split at h
  ·rename_i hl;exact ⟨hl,aQ h rfl⟩
  ·exact h.elim
 ·exact h.elim
def negD (a:D):R D:=match a with
 | .int i=>.ok (.int (-i))
 | _=>.no
theorem pNeg:UnD W uNeg negD:=by
 intro as H x a Q da h
 unfold negD at h
 split at h
 ·cases da;exact aQ h rfl
 ·exact h.elim
def ltD (a b:D):R D:=match a,b with
 | .int i,.int j=>.ok (.bl (decide (i < j)))
 | .str i,.str j=>.ok (.bl (decide (i.cps.toList < j.cps.toList)))
 | _,_=>.no
def leD (a b:D):R D:=match a,b with
 | .int i,.int j=>.ok (.bl (decide (i≤j)))
 | .str i,.str j=>.ok (.bl (!decide (j.cps.toList < i.cps.toList)))
 | _,_=>.no
def gtD (a b:D):R D:=match a,b with
 | .int i,.int j=>.ok (.bl (decide (j < i)))
 | .str i,.str j=>.ok (.bl (decide (j.cps.toList < i.cps.toList)))
 | _,_=>.no
def geD (a b:D):R D:=match a,b with
 | .int i,.int j=>.ok (.bl (decide (j≤i)))
 | .str i,.str j=>.ok (.bl (!decide (i.cps.toList < j.cps.toList)))
 | _,_=>.no
theorem pLt:OpD W uLt ltD:=by
 intro as H x y a b Q hn da db h
 unfold ltD at h
 split at h
 ·cases da;cases db;exact aQ h rfl
 ·cases da;cases db;exact aQ h rfl
 ·exact h.elim
theorem pLe:OpD W uLe leD:=by
 intro as H x y a b Q hn da db h
 unfold leD at h
 split at h
 ·cases da;cases db;exact aQ h rfl
 ·cases da;cases db;exact aQ h rfl
 ·exact h.elim
theorem pGt:OpD W uGt gtD:=by
 intro as H x y a b Q hn da db h
 unfold gtD at h
 split at h
 ·cases da;cases db;exact aQ h rfl
 ·cases da;cases db;exact aQ h rfl
 ·exact h.elim
theorem pGe:OpD W uGe geD:=by
 intro as H x y a b Q hn da db h
 unfold geD at h
 split at h
 ·cases da;cases db;exact aQ h rfl
 ·cases da;cases db;exact aQ h rfl
 ·exact h.elim
def isN:D→Bool
 | .non=>true
 | _=>false
def isB (j:Bool):D→Bool
 | .bl i=>i==j
 | _=>false
def isD (x:D) (y:D):R D:=match y with
 | .non=>.ok (.bl (isN x))
 | .bl j=>.ok (.bl (isB j x))
 | _=>.no
def isNotD (x:D) (y:D):R D:=match y with
 | .non=>.ok (.bl (!isN x))
 | .bl j=>.ok (.bl (!isB j x))
 | _=>.no
theorem nR {K:PySem.W.Frag} {H:Hp} {a:D} {x:V} (h:Den K H a x):isV x .non=isN a:=by
 cases a with
 | lst _=>obtain ⟨_,_,rfl,_⟩:=h;rfl
 | tup _=>obtain ⟨_,_,rfl,_⟩:=h;rfl
 | dct _=>obtain ⟨_,_,rfl,_⟩:=h;rfl
 | obj _ _=>obtain ⟨_,_,_,rfl,_⟩:=h;rfl
 | exn _=>obtain ⟨_,_,rfl,_⟩:=h;rfl
 | cls _=>obtain ⟨_,rfl,_⟩:=h;rfl
 | _=>cases h;rfl
theorem nQ {K:PySem.W.Frag} {H:Hp} {a:D} {x:V} {j:Bool} (h:Den K H a x):isV x (.bl j)=isB j a:=by
 cases a with
 | lst _=>obtain ⟨_,_,rfl,_⟩:=h;rfl
 | tup _=>obtain ⟨_,_,rfl,_⟩:=h;rfl
 | dct _=>obtain ⟨_,_,rfl,_⟩:=h;rfl
 | obj _ _=>obtain ⟨_,_,_,rfl,_⟩:=h;rfl
 | exn _=>obtain ⟨_,_,rfl,_⟩:=h;rfl
 | cls _=>obtain ⟨_,rfl,_⟩:=h;rfl
 | _=>cases h;rfl
theorem pIs:OpD W uIs isD:=by
 intro as H x y a b Q hn da db h
 unfold isD at h
 split at h
 ·cases db
  show Q (.bl (isV x .non)) H
  rw [nR da]
  exact aQ h rfl
 ·cases db
  show Q (.bl (isV x (.bl _))) H
  rw [nQ da]
  exact aQ h rfl
 ·exact h.elim
theorem pIsNot:OpD W uIsNot isNotD:=by
 intro as H x y a b Q hn da db h
 unfold isNotD at h
 split at h
 ·cases db
  show Q (.bl (!isV x .non)) H
  rw [nR da]
  exact aQ h rfl
 ·cases db
  show Q (.bl (!isV x (.bl _))) H
  rw [nQ da]
  exact aQ h rfl
 ·exact h.elim
mutual
def toPy:D→Option PyData
 | .non=>some .none
 | .bl b=>some (.bool b)
 | .int i=>some (.int i)
 | .str x=>some (.str x)
 | .lst xs=>(toPys xs).map .list
 | .tup xs=>(toPys xs).map .tuple
 | _=>none
def toPys:List D→Option (List PyData)
 | []=>some []
 | d::ds=>(toPy d).bind fun p=>(toPys ds).map (p::·)
end
mutual
theorem iR {pins:List (Addr×Obj)} {σ:St} {H:Hp} {s:Shared} (I:Inv X pins σ H s):∀ {d:D} {v:V} {u:Value} {p:PyData},Den X.K H d v→RelV v u→toPy d=some p→∃ as,Reads s.heap u p as
 | .non,_,_,_,h,r,e=>by cases h;cases r;cases e;exact ⟨_,.none⟩
 | .bl b,_,_,_,h,r,e=>by cases h;cases r;cases e;exact ⟨_,.bool b⟩
 | .int i,_,_,_,h,r,e=>by cases h;obtain ⟨t,rfl⟩:=r;cases e;exact ⟨_,.int i t⟩
 | .str x,_,_,_,h,r,e=>by cases h;obtain ⟨t,rfl⟩:=r;cases e;exact ⟨_,.str x t⟩
 | .lst ds,_,_,_,⟨a,xs,h0,h1,h2⟩,r,e=>by
  subst h0
  cases r
  unfold toPy at e
  cases q:toPys ds with
  | none=>rw [q] at e;cases e
  | some ps =>
   rw [q] at e
   cases e
   obtain ⟨its,rv,pl,hz⟩:=I.list h1
   obtain ⟨o,ho,hc,n,hd⟩:=pl.isList
   obtain ⟨as,ha⟩:=ic I h2 rv q
   exact ⟨_,.list ho hc hd (by simpa using ha)⟩
 | .tup ds,_,_,_,⟨a,xs,h0,h1,h2⟩,r,e=>by
  subst h0
  cases r
  unfold toPy at e
  cases q:toPys ds with
  | none=>rw [q] at e;cases e
  | some ps =>
   rw [q] at e
   cases e
   obtain ⟨its,rv,pl,hz⟩:=I.tuple h1
   obtain ⟨o,ho,hc,n,hd⟩:=pl
   obtain ⟨as,ha⟩:=ic I h2 rv q
   exact ⟨_,.tuple ho hc hd (by simpa using ha)⟩
 | .dct _,_,_,_,_,_,e=>by cases e
 | .obj _ _,_,_,_,_,_,e=>by cases e
 | .ty _,_,_,_,_,_,e=>by cases e
 | .exn _,_,_,_,_,_,e=>by cases e
 | .cls _,_,_,_,_,_,e=>by cases e
theorem ic {pins:List (Addr×Obj)} {σ:St} {H:Hp} {s:Shared} (I:Inv X pins σ H s):∀ {ds:List D} {vs:List V} {us:List Value} {ps:List PyData},Dens X.K H ds vs→Vals vs us→toPys ds=some ps→∃ as,ReadsAll s.heap us ps as
 | [],_,_,_,h,r,e=>by cases h;cases r;cases e;exact ⟨_,.nil⟩
 | d::ds,_,_,_,⟨v,vs,h0,h1,h2⟩,r,e=>by
  subst h0
  unfold toPys at e
  cases q:toPy d with
  | none=>rw [q] at e;cases e
  | some p =>
   rw [q] at e
   have e:(toPys ds).map (p::·)=some _:=e
   cases q2:toPys ds with
   | none=>rw [q2] at e;cases e
   | some ps =>
    rw [q2] at e
    cases e
    cases r with
    | cons r1 r2 =>
     obtain ⟨as,ha⟩:=iR I h1 r1 q
     obtain ⟨bs,hb⟩:=ic I h2 r2 q2
     exact ⟨_,.cons ha hb⟩
end
def scalD:D→Option V
 | .non=>some .non
 | .bl b=>some (.bl b)
 | .int i=>some (.int i)
 | .str x=>some (.str x)
 | _=>none
theorem dl {K:PySem.W.Frag} {H:Hp} {d:D} {v x:V} (h:Den K H d v) (e:scalD d=some x):v=x:=by
 cases d with
 | non=>cases e;exact h
 | bl b=>cases e;exact h
 | int b=>cases e;exact h
 | str b=>cases e;exact h
 | _=>cases e
def deepEq (a b:D):Option Bool:=match toPy a,toPy b with
 | some p,some q=>if SeqAt.shaped p=true∧SeqAt.shaped q=true then some (PyData.eqv p q) else none
 | _,_=>none
def eqO (a b:D):Option Bool:=match scalD a,scalD b with
 | some x,some y=>if scal x y=true then some (decide (x=y)) else none
 | _,_=>deepEq a b
def uEqD (K:PySem.W.Frag) (f:Bool→Bool):R2:=fun x y H Q=>∃ a b k,Den K H a x∧Den K H b y∧eqO a b=some k∧Q (.bl (f k)) H
theorem qB {a b:D} {k:Bool} (h:deepEq a b=some k):∃ p q,toPy a=some p∧toPy b=some q∧SeqAt.shaped p=true∧SeqAt.shaped q=true∧k=PyData.eqv p q:=by
 unfold deepEq at h
 split at h
 ·rename_i p q h1 h2
  split at h
  ·rename_i hs;cases h;exact ⟨p,q,h1,h2,hs.1,hs.2,rfl⟩
  ·cases h
 ·cases h
theorem oEqD (K:PySem.W.Frag) (hu:X.A.units+64 < cLine) (hK:X.K=K:=by rfl):OpR X (compareOp .Eq) (uEqD K fun k=>k):=by
 subst hK
 intro pins s σ H x y v u Q I rx ry h
 obtain ⟨a,b,k,da,db,e,q⟩:=h
 unfold eqO at e
 split at e
 ·rename_i x' y' e1 e2
  split at e
  ·rename_i hs
   cases e
   have:=dl da e1;subst this
   have:=dl db e2;subst this
   exact BQ pins s σ H _ _ v u Q I rx ry ⟨hs,q⟩
  ·cases e
 ·obtain ⟨p,p',h1,h2,h3,h4,rfl⟩:=qB e
  obtain ⟨as,ra⟩:=iR I da rx h1
  obtain ⟨bs,rb⟩:=iR I db ry h2
  exact eq_dataH ra rb h3 h4 hu ⟨.bl _,H,I,rfl,q⟩
theorem oNeD (K:PySem.W.Frag) (hu:X.A.units+64 < cLine) (hK:X.K=K:=by rfl):OpR X (compareOp .NotEq) (uEqD K fun k=>!k):=by
 subst hK
 intro pins s σ H x y v u Q I rx ry h
 obtain ⟨a,b,k,da,db,e,q⟩:=h
 unfold eqO at e
 split at e
 ·rename_i x' y' e1 e2
  split at e
  ·rename_i hs
   cases e
   have:=dl da e1;subst this
   have:=dl db e2;subst this
   exact A5 pins s σ H _ _ v u Q I rx ry ⟨hs,q⟩
  ·cases e
 ·obtain ⟨p,p',h1,h2,h3,h4,rfl⟩:=qB e
  obtain ⟨as,ra⟩:=iR I da rx h1
  obtain ⟨bs,rb⟩:=iR I db ry h2
  exact ne_dataH ra rb h3 h4 hu ⟨.bl _,H,I,rfl,q⟩
def optR (o:Option Bool) (f:Bool→Bool):R D:=match o with
 | some k=>.ok (.bl (f k))
 | none=>.no
def eqD (a b:D):R D:=optR (eqO a b) fun k=>k
def neD (a b:D):R D:=optR (eqO a b) fun k=>!k
theorem pEqs (K:PySem.W.Frag) (f:Bool→Bool) (hW:W.K=K:=by rfl):OpD W (uEqD K f) (fun a b=>optR (eqO a b) f):=by
 subst hW
 intro as H x y a b Q hn da db h
 have h:Fits W as H (optR (eqO a b) f) Q:=h
 cases e:eqO a b with
 | none=>rw [e] at h;exact h.elim
 | some k =>
  rw [e] at h
  exact ⟨a,b,k,da.mono (aC _ _),db.mono (aC _ _),e,aQ h rfl⟩
theorem pEq (K:PySem.W.Frag) (hW:W.K=K:=by rfl):OpD W (uEqD K fun k=>k) eqD:=pEqs K _ hW
theorem pNe (K:PySem.W.Frag) (hW:W.K=K:=by rfl):OpD W (uEqD K fun k=>!k) neD:=pEqs K _ hW
def scalsD:List D→Option (List V)
 | []=>some []
 | d::ds=>(scalD d).bind fun v=>(scalsD ds).map (v::·)
theorem ji {K:PySem.W.Frag} {H:Hp}:∀ {ds:List D} {vs xs:List V},Dens K H ds vs→scalsD ds=some xs→vs=xs∧xs.all flatV=true
 | [],_,_,h,e=>by cases h;cases e;exact ⟨rfl,rfl⟩
 | d::ds,_,_,⟨v,vs,h0,h1,h2⟩,e=>by
  subst h0
  unfold scalsD at e
  cases q:scalD d with
  | none=>rw [q] at e;cases e
  | some x =>
   rw [q] at e
   have e:(scalsD ds).map (x::·)=some _:=e
   cases q2:scalsD ds with
   | none=>rw [q2] at e;cases e
   | some xs =>
    rw [q2] at e
    cases e
    obtain ⟨h3,h4⟩:=ji h2 q2
    refine ⟨by rw [dl h1 q,h3],?_⟩
    rw [List.all_cons,h4,Bool.and_true]
    cases d <;> cases q <;> rfl
theorem lD {d:D} {x:V} (e:scalD d=some x):flatV x=true:=by cases d <;> cases e <;> rfl
def hasS (j i:Str):Bool:=!(Builtin.Str.occurrences j i 0 j.length 1).isEmpty
def uInD (K:PySem.W.Frag) (neg:Bool):R2:=fun x y H Q=>match x,y with
 | .str i,.str j=>Q (.bl (if neg=true then !hasS j i else hasS j i)) H
 | x,.ref p=>∃ xs,(SqL K H p xs∨SqT K H p xs)∧flatV x=true∧xs.all flatV=true∧Q (.bl (if neg=true then !inV x xs else inV x xs)) H
 | _,_=>False
theorem oInD (K:PySem.W.Frag) (hK:X.K=K:=by rfl):OpR X (compareOp .In) (uInD K false):=by
 subst hK
 refine (uK.or tf).imp fun x y H Q q=>?_
 unfold uInD at q
 split at q
 ·exact .inl ⟨_,_,rfl,rfl,q⟩
 ·obtain ⟨xs,h1,h2,h3,h4⟩:=q
  exact .inr ⟨_,xs,rfl,h1,h2,h3,h4⟩
 ·exact q.elim
def seqIn (x:D) (xs:List D):Option Bool:=match scalD x,scalsD xs with
 | some v,some vs=>some (inV v vs)
 | _,_=>none
def inO (x y:D):Option Bool:=match y with
 | .str j=>match x with
  | .str i=>some (hasS j i)
  | _=>none
 | .lst xs=>seqIn x xs
 | .tup xs=>seqIn x xs
 | _=>none
def inD (x y:D):R D:=optR (inO x y) fun k=>if false=true then !k else k
theorem pIns (K:PySem.W.Frag) (neg:Bool) (hW:W.K=K:=by rfl):OpD W (uInD K neg) (fun a b=>optR (inO a b) fun k=>if neg=true then !k else k):=by
 subst hW
 intro as H x y a b Q hn da db h
 have key:∀ (p:Addr) (ds:List D) (vs:List V),y=.ref p→(SqL W.K H p vs∨SqT W.K H p vs)→Dens W.K (mask as H) ds vs→Fits W as H (optR (seqIn a ds) fun k=>if neg=true then !k else k) Q→uInD W.K neg x y H Q:=by
  intro p ds vs hy hq hd h
  subst hy
  unfold seqIn at h
  cases e1:scalD a with
  | none=>rw [e1] at h;exact h.elim
  | some v =>
   rw [e1] at h
   cases e2:scalsD ds with
   | none=>rw [e2] at h;exact h.elim
   | some ws =>
    rw [e2] at h
    have:=dl da e1
    subst this
    obtain ⟨h3,h4⟩:=ji hd e2
    subst h3
    have fin:∃ xs,(SqL W.K H p xs∨SqT W.K H p xs)∧flatV x=true∧xs.all flatV=true∧Q (.bl (if neg=true then !inV x xs else inV x xs)) H:=⟨vs,hq,lD e1,h4,aQ h rfl⟩
    cases x <;> exact fin
 cases b with
 | str j =>
  cases a with
  | str i=>cases da;cases db;exact aQ h rfl
  | _=>exact h.elim
 | lst ds=>obtain ⟨p,vs,rfl,q1,q2⟩:=db;exact key p ds vs rfl (.inl ((aC _ _).seq q1)) q2 h
 | tup ds=>obtain ⟨p,vs,rfl,q1,q2⟩:=db;exact key p ds vs rfl (.inr ((aC _ _).seqT q1)) q2 h
 | _=>exact h.elim
theorem pIn (K:PySem.W.Frag) (hW:W.K=K:=by rfl):OpD W (uInD K false) inD:=pIns K false hW
def ixD (a b:D):R D:=match a,b with
 | .str z,.int i=>if z.length≤1000000 then (match atI z.cps.toList i with
  | some c=>.ok (.str ⟨#[c]⟩)
  | none=>.no) else .no
 | .lst xs,.int i=>match atI xs i with
  | some d=>.ok d
  | none=>.no
 | .tup xs,.int i=>match atI xs i with
  | some d=>.ok d
  | none=>.no
 | _,_=>.no
theorem Dens.atI {K:PySem.W.Frag} {H:Hp} {ds:List D} {xs:List V} {i:Int} {d:D} (h:Dens K H ds xs) (e:atI ds i=some d):∃ v,L2.atI xs i=some v∧Den K H d v:=by
 unfold L2.atI at e ⊢
 rw [h.len] at e
 cases q:ixN xs.length i with
 | none=>rw [q] at e;cases e
 | some j =>
  rw [q] at e
  exact h.get e
theorem pIx (K:PySem.W.Frag) (hW:W.K=K:=by rfl):OpD W (uIx K) ixD:=by
 subst hW
 intro as H x y a b Q hn da db h
 unfold ixD at h
 split at h
 ·cases da;cases db
  split at h
  ·rename_i hl
   split at h
   ·rename_i c e;exact ⟨c,Nat.le_trans hl million,e,aQ h rfl⟩
   ·exact h.elim
  ·exact h.elim
 ·obtain ⟨p,vs,rfl,q1,q2⟩:=da
  cases db
  split at h
  ·rename_i d e
   obtain ⟨v,h1,h2⟩:=q2.atI e
   exact ⟨vs,v,.inl ((aC _ _).seq q1),h1,aQ h h2⟩
  ·exact h.elim
 ·obtain ⟨p,vs,rfl,q1,q2⟩:=da
  cases db
  split at h
  ·rename_i d e
   obtain ⟨v,h1,h2⟩:=q2.atI e
   exact ⟨vs,v,.inr ((aC _ _).seqT q1),h1,aQ h h2⟩
  ·exact h.elim
 ·exact h.elim
def cutD (xs:List D) (lo hi:Option Int):List D:=(xs.drop (HT.sIx xs.length 0 lo)).take (HT.sIx xs.length xs.length hi - HT.sIx xs.length 0 lo)
theorem Dens.cut {K:PySem.W.Frag} {H:Hp} {ds:List D} {xs:List V} (h:Dens K H ds xs) (lo hi:Option Int):Dens K H (cutD ds lo hi) (cutV xs lo hi):=by
 unfold cutD cutV
 rw [h.len]
 exact (h.drop _).take _
def slD (a:D) (lo hi:Option Int):R D:=match a with
 | .str z=>if z.length≤1000000 then .ok (.str (cutS z lo hi)) else .no
 | .lst xs=>.ok (.lst (cutD xs lo hi))
 | .tup xs=>if HT.sIx xs.length 0 lo=0∧HT.sIx xs.length xs.length hi=xs.length then .no else .ok (.tup (cutD xs lo hi))
 | _=>.no
theorem pSl (K:PySem.W.Frag) (hW:W.K=K:=by rfl):SlD W (uSl K) slD:=by
 subst hW
 intro as H x lo hi a Q hn da h
 unfold slD at h
 split at h
 ·cases da
  split at h
  ·rename_i hl;exact ⟨Nat.le_trans hl million,aQ h rfl⟩
  ·exact h.elim
 ·obtain ⟨p,vs,rfl,q1,q2⟩:=da
  refine .inl ⟨vs,(aC _ _).seq q1,fun p hp=>h _ _ (bg hp _) ⟨p,_,rfl,.inl (.inl (by rw [a9 (hn p hp)];exact bm)),(q2.cut lo hi).mono (aW (bg hp _))⟩⟩
 ·obtain ⟨p,vs,rfl,q1,q2⟩:=da
  rename_i xs
  split at h
  ·exact h.elim
  ·rename_i hc
   rw [q2.len] at hc
   exact .inr ⟨vs,(aC _ _).seqT q1,hc,fun p hp=>h _ _ (bg hp _) ⟨p,_,rfl,.inl (.inl (by rw [a9 (hn p hp)];exact bm)),(q2.cut lo hi).mono (aW (bg hp _))⟩⟩
 ·exact h.elim
def lenD (ds:List D):R D:=match ds with
 | [.str z]=>if z.length≤1000000 then .ok (.int z.length) else .no
 | [.lst xs]=>.ok (.int xs.length)
 | [.tup xs]=>.ok (.int xs.length)
 | _=>.no
theorem dens1 {K:PySem.W.Frag} {H:Hp} {d:D} {xs:List V} (h:Dens K H [d] xs):∃ v,xs=[v]∧Den K H d v:=by
 obtain ⟨v,vs,rfl,h1,h2⟩:=h
 cases h2
 exact ⟨v,rfl,h1⟩
theorem dens2 {K:PySem.W.Frag} {H:Hp} {d e:D} {xs:List V} (h:Dens K H [d,e] xs):∃ v u,xs=[v,u]∧Den K H d v∧Den K H e u:=by
 obtain ⟨v,vs,rfl,h1,h2⟩:=h
 obtain ⟨u,rfl,h3⟩:=dens1 h2
 exact ⟨v,u,rfl,h1,h3⟩
theorem pLen (K:PySem.W.Frag) (hW:W.K=K:=by rfl):CallD W (uLen K) lenD:=by
 subst hW
 intro as H xs ds Q hn dv h
 unfold lenD at h
 split at h
 ·obtain ⟨v,rfl,d1⟩:=dens1 dv
  cases d1
  split at h
  ·rename_i hl;exact ⟨Nat.le_trans hl million,aQ h rfl⟩
  ·exact h.elim
 ·obtain ⟨v,rfl,d1⟩:=dens1 dv
  obtain ⟨p,vs,rfl,q1,q2⟩:=d1
  refine ⟨vs,.inl ((aC _ _).seq q1),?_⟩
  rw [← q2.len]
  exact aQ h rfl
 ·obtain ⟨v,rfl,d1⟩:=dens1 dv
  obtain ⟨p,vs,rfl,q1,q2⟩:=d1
  refine ⟨vs,.inr ((aC _ _).seqT q1),?_⟩
  rw [← q2.len]
  exact aQ h rfl
 ·exact h.elim
def absD (ds:List D):R D:=match ds with
 | [.int i]=>.ok (.int (if i < 0 then -i else i))
 | _=>.no
theorem pAbs:CallD W uAbs absD:=by
 intro as H xs ds Q hn dv h
 unfold absD at h
 split at h
 ·obtain ⟨v,rfl,d1⟩:=dens1 dv;cases d1;exact aQ h rfl
 ·exact h.elim
def maxD (ds:List D):R D:=match ds with
 | [.int i,.int j]=>.ok (.int (if j > i then j else i))
 | _=>.no
theorem pMax:CallD W uMax maxD:=by
 intro as H xs ds Q hn dv h
 unfold maxD at h
 split at h
 ·obtain ⟨v,u,rfl,d1,d2⟩:=dens2 dv;cases d1;cases d2;exact aQ h rfl
 ·exact h.elim
def blsD:List D→Option (List Bool)
 | []=>some []
 | .bl b::ds=>(blsD ds).map (b::·)
 | _=>none
theorem qi {K:PySem.W.Frag} {H:Hp}:∀ {ds:List D} {vs:List V} {bs:List Bool},Dens K H ds vs→blsD ds=some bs→vs=bs.map V.bl
 | [],_,_,h,e=>by cases h;cases e;rfl
 | d::ds,_,_,⟨v,vs,h0,h1,h2⟩,e=>by
  subst h0
  cases d with
  | bl b =>
   have e:(blsD ds).map (b::·)=some _:=e
   cases q2:blsD ds with
   | none=>rw [q2] at e;cases e
   | some xs =>
    rw [q2] at e
    cases e
    cases h1
    rw [qi h2 q2]
    rfl
  | _=>cases e
def allD (ds:List D):R D:=match ds with
 | [.lst xs]=>match blsD xs with
  | some bs=>.ok (.bl (bs.all id))
  | none=>.no
 | _=>.no
theorem pAll (K:PySem.W.Frag) (hW:W.K=K:=by rfl):CallD W (uAll K) allD:=by
 subst hW
 intro as H xs ds Q hn dv h
 unfold allD at h
 split at h
 ·obtain ⟨v,rfl,d1⟩:=dens1 dv
  obtain ⟨p,vs,rfl,q1,q2⟩:=d1
  split at h
  ·rename_i bs e
   refine ⟨bs,?_,aQ h rfl⟩
   rw [← qi q2 e]
   exact (aC _ _).seq q1
  ·exact h.elim
 ·exact h.elim
def uIsID (K:PySem.W.Frag) (xs:List V) (H:Hp) (Q:VK):Prop:=match xs with
 | [x,.ty C]=>known C=true∧(match x with
  | .non=>Q (.bl (subT "NoneType" C)) H
  | .bl _=>Q (.bl (subT "bool" C)) H
  | .int _=>Q (.bl (subT "int" C)) H
  | .str _=>Q (.bl (subT "str" C)) H
  | .ref a=>(∃ xs,SqL K H a xs∧Q (.bl (subT "list" C)) H)∨(∃ xs,SqT K H a xs∧Q (.bl (subT "tuple" C)) H)∨∃ kvs,H a=some (.dK kvs)∧Q (.bl (subT "dict" C)) H
  | _=>False)
 | _=>False
theorem qIsiD (K:PySem.W.Frag) (hK:X.K=K:=by rfl):CallR X (.builtin "isinstance") (uIsID K):=by
 subst hK
 intro pins s σ H xs us Q I r h
 unfold uIsID at h
 split at h
 ·rename_i x C
  obtain ⟨hC,h⟩:=h
  obtain ⟨u,c,rfl,rx,rc⟩:=vals2 r
  cases rc
  have fin:∀ (b:Bool),Q (.bl b) H→∀ tk,X.tn≤tk→EP X pins σ Q (.bool b) { s with toks:=tk }:=fun b q tk htk=>⟨.bl b,H,I.tok tk,rfl,q⟩
  refine bj I.tk ?_
  cases x with
  | non=>exact fO I rx .non (hU (.inl rfl) hC) (fin _ h)
  | bl b=>exact fO I rx (.bl b) (hU (.inr (.inl rfl)) hC) (fin _ h)
  | int b=>exact fO I rx (.int b) (hU (.inr (.inr (.inl rfl))) hC) (fin _ h)
  | str b=>exact fO I rx (.str b) (hU (.inr (.inr (.inr (.inl rfl)))) hC) (fin _ h)
  | ref a =>
   cases rx
   rcases h with ⟨xs,hq,q⟩|⟨xs,hq,q⟩|⟨kvs,hq,q⟩
   ·obtain ⟨its,rv,pl,hz⟩:=I.list hq
    obtain ⟨o,ho,hc,n,hd⟩:=pl.isList
    exact PySem.W.kia_one PySem.W.kitx_list I.kIn ⟨o,ho,hc⟩ (hU (.inr (.inr (.inr (.inr (.inl rfl))))) hC) (fun z=>nomatch z) (fin _ q)
   ·obtain ⟨its,rv,pl,hz⟩:=I.tuple hq
    obtain ⟨o,ho,hc,n,hd⟩:=pl
    exact PySem.W.kia_one PySem.W.kitx_tuple I.kIn ⟨o,ho,hc⟩ (hU (.inr (.inr (.inr (.inr (.inr (.inl rfl)))))) hC) (fun z=>nomatch z) (fin _ q)
   ·exact fO (x:=.ref a) I rfl (.dK hq) (hU (.inr (.inr (.inr (.inr (.inr (.inr rfl)))))) hC) (fin _ q)
  | _=>exact h.elim
 ·exact h.elim
def iq (ds:List D):R D:=match ds with
 | [x,.ty C]=>if known C=true then (match x with
  | .non=>.ok (.bl (subT "NoneType" C))
  | .bl _=>.ok (.bl (subT "bool" C))
  | .int _=>.ok (.bl (subT "int" C))
  | .str _=>.ok (.bl (subT "str" C))
  | .lst _=>.ok (.bl (subT "list" C))
  | .tup _=>.ok (.bl (subT "tuple" C))
  | .dct _=>.ok (.bl (subT "dict" C))
  | _=>.no) else .no
 | _=>.no
theorem pIsi (K:PySem.W.Frag) (hW:W.K=K:=by rfl):CallD W (uIsID K) iq:=by
 subst hW
 intro as H xs ds Q hn dv h
 unfold iq at h
 split at h
 ·obtain ⟨v,u,rfl,d1,d2⟩:=dens2 dv
  cases d2
  split at h
  ·rename_i hC
   split at h
   ·cases d1;exact ⟨hC,aQ h rfl⟩
   ·cases d1;exact ⟨hC,aQ h rfl⟩
   ·cases d1;exact ⟨hC,aQ h rfl⟩
   ·cases d1;exact ⟨hC,aQ h rfl⟩
   ·obtain ⟨p,vs,rfl,q1,q2⟩:=d1;exact ⟨hC,.inl ⟨vs,(aC _ _).seq q1,aQ h rfl⟩⟩
   ·obtain ⟨p,vs,rfl,q1,q2⟩:=d1;exact ⟨hC,.inr (.inl ⟨vs,(aC _ _).seqT q1,aQ h rfl⟩)⟩
   ·obtain ⟨p,vs,rfl,q1,q2⟩:=d1;exact ⟨hC,.inr (.inr ⟨vs,aC _ _ _ _ q1,aQ h rfl⟩)⟩
   ·exact h.elim
  ·exact h.elim
 ·exact h.elim
def uTupOf (K:PySem.W.Frag) (xs:List V) (H:Hp) (Q:VK):Prop:=match xs with
 | [.ref p]=>(∃ ys,SqL K H p ys∧∀ l,H l=none→Q (.ref l) (upd H l (.tup ys)))∨∃ ys,SqT K H p ys∧Q (.ref p) H
 | _=>False
theorem qTupOf (K:PySem.W.Frag) (hK:X.K=K:=by rfl):CallR X (.type "tuple") (uTupOf K):=by
 subst hK
 refine my.imp fun xs H Q q=>?_
 unfold uTupOf at q
 split at q
 ·rcases q with ⟨ys,h1,h2⟩|⟨ys,h1,h2⟩
  ·exact ⟨_,ys,rfl,.inl ⟨h1,h2⟩⟩
  ·exact ⟨_,ys,rfl,.inr ⟨h1,h2⟩⟩
 ·exact q.elim
def tupD (ds:List D):R D:=match ds with
 | [.lst xs]=>.ok (.tup xs)
 | [.tup xs]=>.ok (.tup xs)
 | _=>.no
theorem zj {as:List Addr} {H:Hp} (hn:∀ a∈as,H a≠none):∀ p,H p=none→p∉as:=fun p hp z=>hn p z hp
theorem pTup (K:PySem.W.Frag) (hW:W.K=K:=by rfl):CallD W (uTupOf K) tupD:=by
 subst hW
 intro as H xs ds Q hn dv h
 unfold tupD at h
 split at h
 ·obtain ⟨v,rfl,d1⟩:=dens1 dv
  obtain ⟨p,vs,rfl,q1,q2⟩:=d1
  exact .inl ⟨vs,(aC _ _).seq q1,fun l hl=>h _ _ (bg hl _) ⟨l,vs,rfl,.inl (.inl (by rw [a9 (zj hn l hl)];exact bm)),q2.mono (aW (bg hl _))⟩⟩
 ·obtain ⟨v,rfl,d1⟩:=dens1 dv
  obtain ⟨p,vs,rfl,q1,q2⟩:=d1
  exact .inr ⟨vs,(aC _ _).seqT q1,aQ h ⟨p,vs,rfl,q1,q2⟩⟩
 ·exact h.elim
def uLstOf (K:PySem.W.Frag) (xs:List V) (H:Hp) (Q:VK):Prop:=match xs with
 | [.ref p]=>∃ ys,(SqL K H p ys∨SqT K H p ys)∧∀ l,H l=none→Q (.ref l) (upd H l (.lst ys))
 | _=>False
theorem qLstOf (K:PySem.W.Frag) (hK:X.K=K:=by rfl):CallR X (.type "list") (uLstOf K):=by
 subst hK
 refine nY.imp fun xs H Q q=>?_
 unfold uLstOf at q
 split at q
 ·obtain ⟨ys,h1,h2⟩:=q;exact ⟨_,ys,rfl,h1,h2⟩
 ·exact q.elim
def lstD (ds:List D):R D:=match ds with
 | [.lst xs]=>.ok (.lst xs)
 | [.tup xs]=>.ok (.lst xs)
 | _=>.no
theorem pLst (K:PySem.W.Frag) (hW:W.K=K:=by rfl):CallN W (uLstOf K) lstD:=by
 subst hW
 intro as H xs ds Q hn dv h
 unfold lstD at h
 split at h
 ·obtain ⟨v,rfl,d1⟩:=dens1 dv
  obtain ⟨p,vs,rfl,q1,q2⟩:=d1
  exact ⟨vs,.inl ((aC _ _).seq q1),fun l hl=>h l _ _ (bg hl _) hl bm ⟨vs,rfl,q2.mono (iG hl (bg hl _))⟩⟩
 ·obtain ⟨v,rfl,d1⟩:=dens1 dv
  obtain ⟨p,vs,rfl,q1,q2⟩:=d1
  exact ⟨vs,.inr ((aC _ _).seqT q1),fun l hl=>h l _ _ (bg hl _) hl bm ⟨vs,rfl,q2.mono (iG hl (bg hl _))⟩⟩
 ·exact h.elim
def strsD:List D→Option (List Str)
 | []=>some []
 | .str b::ds=>(strsD ds).map (b::·)
 | _=>none
theorem ni {K:PySem.W.Frag} {H:Hp}:∀ {ds:List D} {vs:List V} {bs:List Str},Dens K H ds vs→strsD ds=some bs→vs=bs.map V.str
 | [],_,_,h,e=>by cases h;cases e;rfl
 | d::ds,_,_,⟨v,vs,h0,h1,h2⟩,e=>by
  subst h0
  cases d with
  | str b =>
   have e:(strsD ds).map (b::·)=some _:=e
   cases q2:strsD ds with
   | none=>rw [q2] at e;cases e
   | some xs =>
    rw [q2] at e
    cases e
    cases h1
    rw [ni h2 q2]
    rfl
  | _=>cases e
def joinD (z:Str) (ds:List D):R D:=match ds with
 | [.lst xs]=>match strsD xs with
  | some ys=>if (ys.map (·.length)).sum+ys.length*z.length≤1000000 then .ok (.str (Txt.join z ys)) else .no
  | none=>.no
 | _=>.no
theorem pJoin (K:PySem.W.Frag) (hW:W.K=K:=by rfl):SmD W (uJoin K) joinD:=by
 subst hW
 intro as H z xs ds Q hn dv h
 unfold joinD at h
 split at h
 ·obtain ⟨v,rfl,d1⟩:=dens1 dv
  obtain ⟨p,vs,rfl,q1,q2⟩:=d1
  split at h
  ·rename_i ys e
   split at h
   ·rename_i hl
    refine ⟨ys,?_,Nat.le_trans hl (by decide),aQ h rfl⟩
    rw [← ni q2 e]
    exact (aC _ _).seq q1
   ·exact h.elim
  ·exact h.elim
 ·exact h.elim
end
section
variable {X:Cx} {o e:Expr} {es:List Expr} {to:TE} {t:TA} {name:Str} {apos cpos:Pos} {T id:String} {r:V→List V→Hp→VK→Prop}
theorem AX (pa:PlainAttrs T) (slot:Slot T name id) (hty:typeOf (.builtin id)=pure (.type "method_descriptor")) (hm:MtR X id r) (ho:JE X o to) (ha:JA X (e::es) t)
  (hbase:attributeBase o name X.env (eval o X.env)=eval o X.env:=by rfl) (hline:(apos.endLine==cpos.line)=true:=by rfl) (h1:(e::es).all noStar=true:=by rfl) (hl:(e::es).length < 29:=by decide) :
  JE X (.Call (.Attribute o name apos) (e::es) [] cpos) (tBM X.K T r to t):=by
 have h1':=h1
 rw [List.all_cons,Bool.and_eq_true] at h1'
 exact ⟨Cb pa slot hty hm ho.out ha.out hbase (qq h1 hl) hline (cH h1'.1) (cX h1'.2)⟩
end
theorem uh:∀ {O:List Nat} {own:List Addr} {i:Nat} {a b:Addr},O.Nodup→(i,a)∈O.zip own→(i,b)∈O.zip own→a=b
 | [],_,_,_,_,_,h,_=>by simp at h
 | _::_,[],_,_,_,_,h,_=>by simp at h
 | k::O,c::own,i,a,b,nd,h1,h2=>by
  rw [List.zip_cons_cons] at h1 h2
  rw [List.nodup_cons] at nd
  rcases List.mem_cons.mp h1 with e1|h1 <;> rcases List.mem_cons.mp h2 with e2|h2
  ·cases e1;cases e2;rfl
  ·cases e1;exact absurd (List.of_mem_zip h2).1 nd.1
  ·cases e2;exact absurd (List.of_mem_zip h1).1 nd.1
  ·exact uh nd.2 h1 h2
theorem qh {as:List Addr} {H:Hp} {a:Addr} {o:HO} (h:a∈as):mask as (upd H a o)=mask as H:=by
 funext b
 unfold mask
 split
 ·rfl
 ·rename_i hb
  exact a8 fun z=>hb (by rw [z];exact h)
theorem DI.mutate {K:PySem.W.Frag} {as0 own:List Addr} {B H:Hp} {O:List Nat} {σ:St} {δ:Sd} {i:Nat} {a:Addr} {o':HO} {d':D} (I:DI K as0 B O own σ δ H) (hi:(i,a)∈O.zip own) (h:OwnD K (mask (own++as0) H) o' d') :
  DI K as0 B O own σ (δ.set i (some d')) (upd H a o'):=by
 have hm:a∈own++as0:=List.mem_append_left _ (List.of_mem_zip hi).2
 obtain ⟨d0,o0,h1,h2,h3,h4⟩:=I.owns i a hi
 have hil:i < δ.length:=(List.getElem?_eq_some_iff.mp h1).1
 refine ⟨by simp [I.len],I.olen,I.nd,I.ond,I.fresh,I.ex0,fun b u e=>?_,fun j e hj q=>?_,fun j b hj=>?_⟩
 ·have hb:b≠a:=fun z=>by
   have:=I.fresh a (List.of_mem_zip hi).2
   rw [z,this] at e;cases e
  rw [a8 hb]
  exact I.same b u e
 ·have hji:i≠j:=fun z=>hj (by rw [← z];exact (List.of_mem_zip hi).1)
  rw [getElem?_set',if_neg hji] at q
  rw [qh hm]
  exact I.var j e hj q
 ·rw [qh hm]
  by_cases hji:i=j
  ·subst hji
   have:=uh I.ond hi hj
   subst this
   exact ⟨d',o',by rw [getElem?_set',if_pos rfl,if_pos hil],h2,bm,h⟩
  ·obtain ⟨d,u,q1,q2,q3,q4⟩:=I.owns j b hj
   have hba:b≠a:=fun z=>hji (by rw [z] at hj;exact zip_inj I.nd hi hj)
   exact ⟨d,u,by rw [getElem?_set',if_neg hji];exact q1,q2,by rw [a8 hba];exact q3,q4⟩
section
variable {X:Cx} {W:Wd} {Ob O O':List Nat} {e:Expr} {ε ψ:FE} {pos p1 p2 apos cpos:Pos} {x:Str}
def dW (i:Nat) (ε:FE):FS:=fun δ=>match δ[i]? with
 | some (some (.lst xs))=>(ε δ).bind fun d=>if xs.length < 1000000 then .ok (.nx (δ.set i (some (.lst (xs++[d]))))) else .no
 | _=>.no
theorem kU {i:Nat} (hi:i∈O) (he:JE X e (tD W O ε)) (hN:X.N[i]?=some x:=by rfl) (hn:noStar e=true:=by rfl) (hline:(apos.endLine==cpos.line)=true:=by rfl) (hv:Vis X.env.scope x:=by first|exact Or.inl rfl|exact Or.inr (Or.inl rfl)|exact Or.inr (Or.inr rfl)) (hd:(x==("__debug__":Str))=false:=by decide)
  (hcd:(x==("__classdict__":Str))=false:=by decide) (hbase:attributeBase (.Name x p1) "append" X.env (eval (.Name x p1) X.env)=eval (.Name x p1) X.env:=by rfl)
  (hs:swapsWith (.Call (.Attribute (.Name x p1) "append" apos) [e] [] cpos) none pos.line X.env=pure false:=by rfl) (hW:W.K=X.K:=by rfl) :
  JS X (.Expr (.Call (.Attribute (.Name x p1) "append" apos) [e] [] cpos) pos) (sD W Ob O O (dW i ε)) :=
 (uV (AX PySem.F.plainAttrs_list PySem.F.slot_list_append PySem.F.type_list_append nW (jv i hN hv hd hcd) (mE he qF hn) hbase hline (by rw [List.all_cons,hn];rfl) (by show 1 < 29;decide)) hs).imp fun D σ H hh=>exE hh fun as0 B own δ I h=>by
  obtain ⟨a,ha⟩:=jM I.olen hi
  obtain ⟨d,o,h1,h2,h3,h4⟩:=I.owns i a ha
  have e0:tDrop (tBM X.K "list" rAppend (uVar i) (tCons (tD W O ε) tNil)) D σ H=kVar σ[i]? H (fun x H1=>tyV X.K "list" x H1∧tCons (tD W O ε) tNil σ H1 fun vs H2=>rAppend x vs H2 (fun _ H3=>D.nx σ H3)):=rfl
  rw [e0,h2]
  unfold dW at h
  rw [h1] at h
  cases d with
  | lst ds =>
   obtain ⟨xs,rfl,q⟩:=h4
   refine ⟨.inl ⟨rfl,xs,SqL.of h3⟩,as0,B,own,δ,I,eM I h fun y v H2 s2 d2 hq=>?_⟩
   split at hq
   ·rename_i hl
    refine ⟨a,xs,v,rfl,rfl,s2 _ _ h3,?_,?_⟩
    ·have:=million;rw [← q.len];omega
    ·exact hq own σ _ ((I.mono s2).mutate ha ⟨xs++[v],rfl,(q.mono (aW s2)).append (Dens.cons d2 Dens.nil)⟩)
   ·exact hq.elim
  | _=>exact h.elim
end
theorem bw {ix:List (Option Nat)} {O:List Nat} (h:(ix.all fun o=>match o with|some k=>decide (k∉O)|none=>true)=true):∀ j∈ix,∀ k,j=some k→k∉O:=fun j hj k e=>by
 have:=List.all_eq_true.mp h j hj
 subst e
 exact of_decide_eq_true this
theorem notFp {X:Cx} {pins:List (Addr×Obj)} {σ:St} {H:Hp} {s:Shared} {a:Addr} (I:Inv X pins σ H s) (h:H a≠none∨∃ o,X.K.lookup a=some o):¬ FpOk X pins H a:=fun f=>by
 rcases h with h|⟨o,h⟩
 ·exact h f.1
 ·have e:=I.ok.mod.kin a o h
  rcases f.2.2.2.1 with z|z
  ·exact I.ok.noex a o e z
  ·exact absurd (Nat.lt_of_lt_of_le (Heap.lt_size e) (Nat.le_trans I.ok.bsz z)) (Nat.lt_irrefl _)
theorem u6 {H:Hp} {a:Addr} {u:HO} (h:Rd H a u):H a≠none:=by
 rcases h with h|⟨o,h⟩ <;> rw [h] <;> simp
theorem tL {K:PySem.W.Frag} {H:Hp} {a:Addr} {xs:List V} (h:SqL K H a xs):H a≠none∨∃ o,K.lookup a=some o:=by
 rcases h with h|⟨o,_,_,h,_⟩
 ·exact .inl (u6 h)
 ·exact .inr ⟨o,h⟩
theorem tX {K:PySem.W.Frag} {H:Hp} {a:Addr} {xs:List V} (h:SqT K H a xs):H a≠none∨∃ o,K.lookup a=some o:=by
 rcases h with h|⟨o,_,_,h,_⟩
 ·exact .inl (u6 h)
 ·exact .inr ⟨o,h⟩
structure Src (K:PySem.W.Frag) (B:Hp) (xs:List V) (it:Addr) (S:Nat→Heap→Prop):Prop where
 obj:∀ i h,S i h→∃ o,h.get? it=some o∧∀ v,o.data≠.cell v
 keep:∀ i h h',S i h→(∀ o,h.get? it=some o→h'.get? it=some o)→S i h'
 draw:∀ (X:Cx) (pins:List (Addr×Obj)) (s:Shared) (σ:St) (H:Hp),Inv X pins σ H s→X.K=K→Same B H→FpOk X pins H it→∀ A:Around,A.handled=none→∀ i,S i s.heap →
  ∃ fp Pv St,Draws X.prog X.w A it fp xs.length Pv St∧St i s.heap∧it∈fp∧(∀ b∈fp,b=it∨¬ FpOk X pins H b)∧(∀ j u,Pv j u→∃ x,xs[j]?=some x∧RelV x u)∧∀ j h,St j h→S j h
theorem src_list {K:PySem.W.Frag} {B:Hp} {xs:List V} {a it:Addr} (hq:SqL K B a xs):Src K B xs it (fun i h=>h.IsListIter it a i) where
 obj:=fun i h ⟨o,e,c,d⟩=>⟨o,e,fun v z=>by rw [d] at z;cases z⟩
 keep:=fun i h h' ⟨o,e,r⟩ k=>⟨o,k o e,r⟩
 draw:=fun X pins s σ H I hK sB f A hA i st=>by
  subst hK
  obtain ⟨its,rv,pl,hz⟩:=I.list (sB.seq hq)
  have hne:a≠it:=fun z=>notFp I (tL (sB.seq hq)) (z ▸ f)
  have el:xs.length=its.toArray.size:=by rw [List.size_toArray];exact rv.length
  refine ⟨_,_,_,el ▸ Draws.list hA it a hne its.toArray,⟨st,pl.isList⟩,by simp,fun b hb=>?_,fun j u hu=>?_,fun j h st=>st.1⟩
  ·rcases List.mem_cons.mp hb with e|hb
   ·exact .inl e
   ·rw [List.mem_singleton.mp hb];exact .inr (notFp I (tL (sB.seq hq)))
  ·have hu':its[j]?=some u:=by simpa using hu
   have hj:j < its.length:=(List.getElem?_eq_some_iff.mp hu').1
   have hx:xs[j]?=some (xs[j]'(by rw [rv.length];exact hj)):=by rw [List.getElem?_eq_getElem]
   obtain ⟨u',h1,h2⟩:=rv.get hx
   rw [hu'] at h1;cases h1
   exact ⟨_,hx,h2⟩
theorem src_tuple {K:PySem.W.Frag} {B:Hp} {xs:List V} {a it:Addr} (hq:SqT K B a xs):Src K B xs it (fun i h=>h.IsTupleIter it a i) where
 obj:=fun i h ⟨o,e,c,d⟩=>⟨o,e,fun v z=>by rw [d] at z;cases z⟩
 keep:=fun i h h' ⟨o,e,r⟩ k=>⟨o,k o e,r⟩
 draw:=fun X pins s σ H I hK sB f A hA i st=>by
  subst hK
  obtain ⟨its,rv,pl,hz⟩:=I.tuple (sB.seqT hq)
  have hne:a≠it:=fun z=>notFp I (tX (sB.seqT hq)) (z ▸ f)
  have el:xs.length=its.toArray.size:=by rw [List.size_toArray];exact rv.length
  refine ⟨_,_,_,el ▸ o8 hA it a hne its.toArray,⟨st,pl⟩,by simp,fun b hb=>?_,fun j u hu=>?_,fun j h st=>st.1⟩
  ·rcases List.mem_cons.mp hb with e|hb
   ·exact .inl e
   ·rw [List.mem_singleton.mp hb];exact .inr (notFp I (tX (sB.seqT hq)))
  ·have hu':its[j]?=some u:=by simpa using hu
   have hj:j < its.length:=(List.getElem?_eq_some_iff.mp hu').1
   have hx:xs[j]?=some (xs[j]'(by rw [rv.length];exact hj)):=by rw [List.getElem?_eq_getElem]
   obtain ⟨u',h1,h2⟩:=rv.get hx
   rw [hu'] at h1;cases h1
   exact ⟨_,hx,h2⟩
theorem signs_get {z:Str} {j:Nat} {u:Value} (h:∃ c t,z.cps[j]?=some c∧u=.str ⟨#[c]⟩ t):∃ x,(signsV z)[j]?=some x∧RelV x u:=by
 obtain ⟨c,t,h1,rfl⟩:=h
 refine ⟨.str ⟨#[c]⟩,?_,⟨t,rfl⟩⟩
 rw [List.getElem?_map,Array.getElem?_toList,h1]
 rfl
theorem tW {K:PySem.W.Frag} {B:Hp} {z:Str} {t:Tok} {it:Addr}:Src K B (signsV z) it (fun i h=>h.IsStrIter it "str_ascii_iterator" z t i) where
 obj:=fun i h ⟨o,e,c,d⟩=>⟨o,e,fun v z=>by rw [d] at z;cases z⟩
 keep:=fun i h h' ⟨o,e,r⟩ k=>⟨o,k o e,r⟩
 draw:=fun X pins s σ H I hK sB f A hA i st=>by
  have el:(signsV z).length=z.cps.size:=by simp
  exact ⟨_,_,_,el ▸ Draws.strAscii hA it z t,st,by simp,fun b hb=>.inl (by simpa using hb),fun j u hu=>signs_get hu,fun j h st=>st⟩
theorem vw {K:PySem.W.Frag} {B:Hp} {z:Str} {t:Tok} {it:Addr}:Src K B (signsV z) it (fun i h=>h.IsStrIter it "str_iterator" z t i) where
 obj:=fun i h ⟨o,e,c,d⟩=>⟨o,e,fun v z=>by rw [d] at z;cases z⟩
 keep:=fun i h h' ⟨o,e,r⟩ k=>⟨o,k o e,r⟩
 draw:=fun X pins s σ H I hK sB f A hA i st=>by
  have el:(signsV z).length=z.cps.size:=by simp
  exact ⟨_,_,_,el ▸ Draws.strWide hA it z t,st,by simp,fun b hb=>.inl (by simpa using hb),fun j u hu=>signs_get hu,fun j h st=>st⟩
def SrcV (K:PySem.W.Frag) (H:Hp) (x:V) (xs:List V):Prop:=(∃ z,x=.str z∧xs=signsV z)∨(∃ a,x=.ref a∧SqL K H a xs)∨∃ a,x=.ref a∧SqT K H a xs
theorem w9 {X:Cx} {pins:List (Addr×Obj)} {σ:St} {H B:Hp} {s:Shared} {x:V} {u:Value} {xs:List V} (I:Inv X pins σ H s) (r:RelV x u) (sB:Same B H) (h:SrcV X.K B x xs) :
  ∃ (o:Obj) (S:Addr→Nat→Heap→Prop),Iters u o s.heap∧o.isFreed=false∧(∀ it h,h.get? it=some o→S it 0 h)∧∀ it,Src X.K B xs it (S it):=by
 rcases h with ⟨z,rfl,rfl⟩|⟨a,rfl,hq⟩|⟨a,rfl,hq⟩
 ·obtain ⟨t,rfl⟩:=r
  cases ha:z.cps.all (· < 128)
  ·exact ⟨{ cls:=.type "str_iterator",data:=.fields #[.str z t,.int 0 0] },fun it i h=>h.IsStrIter it "str_iterator" z t i,fun prog w A s Q E _ q=>wpAny_pyIter_wide ha q,rfl,fun it h e=>⟨_,e,rfl,rfl⟩,fun it=>vw⟩
  ·exact ⟨{ cls:=.type "str_ascii_iterator",data:=.fields #[.str z t,.int 0 0] },fun it i h=>h.IsStrIter it "str_ascii_iterator" z t i,fun prog w A s Q E _ q=>wpAny_pyIter_ascii ha q,rfl,fun it h e=>⟨_,e,rfl,rfl⟩,fun it=>tW⟩
 ·cases r
  obtain ⟨its,rv,pl,hz⟩:=I.list (sB.seq hq)
  exact ⟨{ cls:=.type "list_iterator",data:=.fields #[.ref a,.int 0 0] },fun it i h=>h.IsListIter it a i,fun prog w A s Q E k q=>wpAny_pyIter_list (pl.keeps k).isList q,rfl,fun it h e=>⟨_,e,rfl,rfl⟩,fun it=>src_list hq⟩
 ·cases r
  obtain ⟨its,rv,pl,hz⟩:=I.tuple (sB.seqT hq)
  refine ⟨{ cls:=.type "tuple_iterator",data:=.fields #[.ref a,.int 0 0] },fun it i h=>h.IsTupleIter it a i,fun prog w A s Q E k q=>?_,rfl,fun it h e=>⟨_,e,rfl,rfl⟩,fun it=>src_tuple hq⟩
  obtain ⟨o,e,r⟩:=pl
  exact wpAny_pyIter_tuple (items:=its.toArray) ⟨o,k _ _ e,r⟩ q
theorem Inv.turnedT {X:Cx} {pins:List (Addr×Obj)} {σ:St} {H:Hp} {s:Shared} {h':Heap} {t':Nat} {ch:List Addr} {T:Addr} {ys:List V} {us:List Value} (I:Inv X pins σ H s) (hf:∀ b∈ch,FpOk X pins H b) (k:∀ b o,b∉ch→s.heap.get? b=some o→h'.get? b=some o) (hT:s.heap.objs.size≤T)
  (hl:ys.length≤sizeLine) (rv:Vals ys us) (isT:IsTup h' T us.toArray) (ht:X.tn≤t':=by walk_at "tok"):Inv X pins σ (upd H T (.tup ys)) { s with heap:=h',toks:=t' }:=by
 have hn:H T=none:=I.hok.fresh hT
 have nch:∀ b u,H b=some u→b∉ch:=fun b u e z=>by rw [(hf b z).1] at e;cases e
 refine I.step (g':=s.gens) (d':=s.drawn) (ch:=ch) (fun b hb=>⟨(hf b hb).2.2.2.1,(hf b hb).2.1,(hf b hb).2.2.2.2.1,(hf b hb).2.2.2.2.2⟩) (fun b o _ _ hc e _=>k b o hc e) (fun b o _ _ hc e _=>⟨o.slots,k b o hc e⟩) (fun b o _ e n=>?_)
  (fun b o hc e=>⟨o,k b o hc e⟩) (fun b xs e=>?_) (fun b o u e=>?_) (fun b ps e=>⟨#[],?_⟩) (fun m hm=>?_) (fun b u e=>?_) I.bare
 ·rw [a8 (Nat.ne_of_lt (Nat.lt_of_lt_of_le (Heap.lt_size e) hT))];exact n
 ·rw [a8 (bq e hn)];exact e
 ·rw [a8 (bq e hn)];exact e
 ·rw [a8 (bq e hn),e];simp
 ·obtain ⟨o,es,ep,ho,r⟩:=hm
  exact ⟨o,es,ep,k _ o (fun z=>(hf _ z).2.1 rfl) ho,r⟩
 ·by_cases hb:b=T
  ·subst hb
   rw [bm] at e
   cases e
   exact ⟨hl,us,rv,isT⟩
  ·rw [a8 hb] at e
   refine (I.hok b u e).stay (fun c v hc q=>k c v ?_ q) (fun c q=>by rw [a8 (bq q hn)];exact q) fun c xs q=>by rw [a8 (bq q hn)];exact q
   rcases hc with z|z
   ·rw [z];exact nch b u e
   ·exact nch c _ z
def Jpair (B:Hp) (n:Nat) (Pv:Nat→V→V→Prop):It :=
 ⟨fun i H=>Same B H∧i < n,fun i H v H'=>∃ p x y,H p=none∧H'=upd H p (.tup [x,y])∧v=.ref p∧Pv i x y,fun i H=>Same B H∧i=n⟩
theorem wt {P:Program} {w:World} {K:PySem.W.Frag} {B:Hp} {xs ys:List V} {z TI TO i1 i2:Addr} {S1 S2:Nat→Heap→Prop} {elts:List Expr} {k:Nat} {pos:Pos} (s1:Src K B xs i1 S1) (s2:Src K B ys i2 S2) (nd:[z,TI,TO,i1,i2].Nodup) :
    Turn P w K (.Tuple elts k pos) (Jpair B (min xs.length ys.length) fun i x y=>xs[i]?=some x∧ys[i]?=some y) [z,TI,TO,i1,i2] z
      (fun i h=>IsZip h z TI TO .none∧IsPair h TI (.ref i1) (.ref i2)∧(∃ a b,IsPair h TO a b)∧S1 i h∧S2 i h):=by
  simp only [List.nodup_cons,List.mem_cons,List.not_mem_nil,or_false,not_or,List.nodup_nil,and_true,not_false_eq_true] at nd
  obtain ⟨⟨zTI,zTO,zi1,zi2⟩,⟨TITO,TIi1,TIi2⟩,⟨TOi1,TOi2⟩,i12⟩:=nd
  have za:∀ {X:Cx} {pins:List (Addr×Obj)} {H:Hp} {fp1 fp2:List Addr},(∀ b∈[z,TI,TO,i1,i2],FpOk X pins H b)→(∀ b∈fp1,b=i1∨¬ FpOk X pins H b)→(∀ b∈fp2,b=i2∨¬ FpOk X pins H b)→ZA z TI TO i1 i2 fp1 fp2:=fun {X pins H fp1 fp2} hf h1 h2 =>
    { TIz:=Ne.symm zTI,TOz:=Ne.symm zTO,TITO:=TITO,TIi1:=TIi1,TIi2:=TIi2,TOi1:=TOi1,TOi2:=TOi2,i1z:=Ne.symm zi1,i2z:=Ne.symm zi2,i12:=i12,
      z1:=fun m=>(h1 z m).elim zi1 fun q=>q (hf z (by simp)),z2:=fun m=>(h2 z m).elim zi2 fun q=>q (hf z (by simp)),TO1:=fun m=>(h1 TO m).elim TOi1 fun q=>q (hf TO (by simp)),TO2:=fun m=>(h2 TO m).elim TOi2 fun q=>q (hf TO (by simp)),
      i1f:=fun m=>(h2 i1 m).elim i12 fun q=>q (hf i1 (by simp)),i2f:=fun m=>(h1 i2 m).elim (Ne.symm i12) fun q=>q (hf i2 (by simp)) }
  refine ⟨by simp,fun i h st b hb=>?_,fun i h h' st kk=>?_,?_,?_,fun A i s Q E st q=>wpAny_pyIter_zip st.1 q⟩
  · obtain ⟨hz,hTI,⟨a,b',hTO⟩,h1,h2⟩:=st
    simp only [List.mem_cons,List.not_mem_nil,or_false] at hb
    rcases hb with rfl|rfl|rfl|rfl|rfl
    · exact ⟨_,hz,fun v q=>by cases q⟩
    · exact ⟨_,hTI,fun v q=>by cases q⟩
    · exact ⟨_,hTO,fun v q=>by cases q⟩
    · exact s1.obj i h h1
    · exact s2.obj i h h2
  · obtain ⟨hz,hTI,⟨a,b',hTO⟩,h1,h2⟩:=st
    exact ⟨kk z (by simp) _ hz,kk TI (by simp) _ hTI,⟨a,b',kk TO (by simp) _ hTO⟩,s1.keep i h h' h1 fun o e=>kk i1 (by simp) o e,s2.keep i h h' h2 fun o e=>kk i2 (by simp) o e⟩
  · intro X hP hw hK hc i pins s σ H E I hf st hg
    subst hP hw
    obtain ⟨hz,hTI,hTO,h1,h2⟩:=st
    obtain ⟨sB,hi⟩:=hg
    have hh:X.A.in1.handled=none:=I.ok.hd hc
    obtain ⟨fp1,P1,St1,D1,st1,m1,n1,p1,b1⟩:=s1.draw X pins s σ H I hK sB (hf i1 (by simp)) X.A.in1 hh i h1
    obtain ⟨fp2,P2,St2,D2,st2,m2,n2,p2,b2⟩:=s2.draw X pins s σ H I hK sB (hf i2 (by simp)) X.A.in1 hh i h2
    have W:=WalksT.zipD D1 D2 (za hf n1 n2) m1 m2
    refine bj I.tk (W.item i s _ _ hi ⟨hz,hTI,hTO,st1,st2⟩ fun T vals h' tk pt hT isT mid k1 htk=>⟨.ref T,rfl,W.go elts k pos i T { s with heap:=h',toks:=tk } _ _ mid fun h'' st'' k2=>?_⟩)
    obtain ⟨u1,u2,q1,q2,rfl⟩:=pt
    obtain ⟨x,hx,rx⟩:=p1 i u1 q1
    obtain ⟨y,hy,ry⟩:=p2 i u2 q2
    obtain ⟨hz',hTI',hTO',st1',st2'⟩:=st''
    have kk:∀ b o,b∉[z,TO,i1,i2]→s.heap.get? b=some o→h''.get? b=some o:=fun b o hb e=>k2 b o hb (k1 b o hb e)
    have hTn:H T=none:=I.hok.fresh hT
    have lt:∀ {b o},s.heap.get? b=some o→b≠T:=fun e=>Nat.ne_of_lt (Nat.lt_of_lt_of_le (Heap.lt_size e) hT)
    have isT':IsTup h'' T [u1,u2].toArray:=by
      obtain ⟨o,e,r⟩:=isT
      exact ⟨o,k2 T o (W.apart i T _ mid) e,r⟩
    refine ⟨.ref T,upd H T (.tup [x,y]),I.turnedT (t':=tk) (ch:=[z,TO,i1,i2]) (fun b hb=>hf b (by simp only [List.mem_cons,List.not_mem_nil,or_false] at hb ⊢;rcases hb with h|h|h|h <;> simp [h])) kk hT (by show 2≤sizeLine;decide) (.cons rx (.cons ry .nil)) isT',rfl,⟨T,x,y,hTn,rfl,rfl,hx,hy⟩,
      ⟨hz',hTI',hTO',b1 _ _ st1',b2 _ _ st2'⟩,fun b hb=>?_⟩
    have hbT:b≠T:=by
      simp only [List.mem_cons,List.not_mem_nil,or_false] at hb
      rcases hb with rfl|rfl|rfl|rfl|rfl
      · exact lt hz
      · exact lt hTI
      · obtain ⟨_,_,e⟩:=hTO;exact lt e
      · obtain ⟨_,e,_⟩:=s1.obj _ _ h1;exact lt e
      · obtain ⟨_,e,_⟩:=s2.obj _ _ h2;exact lt e
    rw [a8 hbT]
    exact (hf b hb).1
  · intro X hP hw hK hc i pins s σ H E I hf st hg
    subst hP hw
    obtain ⟨hz,hTI,hTO,h1,h2⟩:=st
    obtain ⟨sB,hi⟩:=hg
    have hh:X.A.in1.handled=none:=I.ok.hd hc
    obtain ⟨fp1,P1,St1,D1,st1,m1,n1,p1,b1⟩:=s1.draw X pins s σ H I hK sB (hf i1 (by simp)) X.A.in1 hh i h1
    obtain ⟨fp2,P2,St2,D2,st2,m2,n2,p2,b2⟩:=s2.draw X pins s σ H I hK sB (hf i2 (by simp)) X.A.in1 hh i h2
    have W:=WalksT.zipD D1 D2 (za hf n1 n2) m1 m2
    subst hi
    refine bj I.tk (W.done s _ _ ⟨hz,hTI,hTO,st1,st2⟩ fun h' tk kk htk=>⟨rfl,?_⟩)
    -- the records have turned,nothing new is tracked
    have nch:∀ b u,H b=some u→b∉[z,TO,i1,i2]:=fun b u e q=>by
      have:=(hf b (by simp only [List.mem_cons,List.not_mem_nil,or_false] at q ⊢;rcases q with h|h|h|h <;> simp [h])).1
      rw [this] at e;cases e
    refine I.step (g':=s.gens) (d':=s.drawn) (ch:=[z,TO,i1,i2]) (fun b hb=>?_) (fun b o _ _ hc e _=>kk b o hc e) (fun b o _ _ hc e _=>⟨o.slots,kk b o hc e⟩) (fun _ _ _ _ n=>n)
      (fun b o hc e=>⟨o,kk b o hc e⟩) (fun _ _ e=>e) (fun _ _ _ e=>e) (fun b ps e=>⟨#[],by rw [e];simp⟩) (fun m hm=>?_) (fun b u e=>?_) I.bare
    · have f:=hf b (by simp only [List.mem_cons,List.not_mem_nil,or_false] at hb ⊢;rcases hb with h|h|h|h <;> simp [h])
      exact ⟨f.2.2.2.1,f.2.1,f.2.2.2.2.1,f.2.2.2.2.2⟩
    · obtain ⟨o,es,ep,ho,r⟩:=hm
      refine ⟨o,es,ep,kk _ o (fun q=>?_) ho,r⟩
      exact (hf _ (by simp only [List.mem_cons,List.not_mem_nil,or_false] at q ⊢;rcases q with h|h|h|h <;> simp [h])).2.1 rfl
    · refine (I.hok b u e).stay (fun c v hc q=>kk c v ?_ q) (fun _ q=>q) fun _ _ q=>q
      rcases hc with z|z
      · rw [z];exact nch b u e
      · exact nch c _ z
theorem rJ {K:PySem.W.Frag} {as0:List Addr} {B:Hp} {n:Nat} {Pv:Nat→V→V→Prop} {zs:List D} (hn:n=zs.length) (h:∀ i x y,i < n→Pv i x y→∃ dx dy,zs[i]?=some (.tup [dx,dy])∧Den K (mask as0 B) dx x∧Den K (mask as0 B) dy y):GivesD K as0 B (Jpair B n Pv) zs where
 go:=fun i H s hi=>⟨s,by rw [hn];exact hi⟩
 yl:=fun i H v H2 M s hM hM2 hi ⟨p,x,y,hp,e,ev,hv⟩=>by
  subst e ev
  obtain ⟨dx,dy,e1,d1,d2⟩:=h i x y (by rw [hn];exact hi) hv
  have hpM:p∉M:=fun z=>hM p z hp
  have s2:Same (mask as0 B) (mask M (upd H p (.tup [x,y]))):=(ig s hM2).trans (aW (bg hp _))
  exact ⟨bg hp _,_,e1,p,[x,y],rfl,.inl (.inl (by rw [a9 hpM];exact bm)),Dens.cons (d1.mono s2) (Dens.cons (d2.mono s2) Dens.nil)⟩
 stop:=fun H s=>⟨s,hn.symm⟩
theorem tG {K:PySem.W.Frag} {H:Hp} {d:D} {v:V} {xs:List D} (h:Den K H d v) (e:i9 d=.ok xs):∃ vs,SrcV K H v vs∧Dens K H xs vs:=by
 cases d with
 | lst ds=>cases e;obtain ⟨a,vs,rfl,q1,q2⟩:=h;exact ⟨vs,.inr (.inl ⟨a,rfl,q1⟩),q2⟩
 | tup ds=>cases e;obtain ⟨a,vs,rfl,q1,q2⟩:=h;exact ⟨vs,.inr (.inr ⟨a,rfl,q1⟩),q2⟩
 | str z =>
  cases e
  cases h
  refine ⟨signsV z,.inl ⟨z,rfl,rfl⟩,?_⟩
  show Dens K H (z.cps.toList.map fun c=>D.str ⟨#[c]⟩) (z.cps.toList.map fun c=>V.str ⟨#[c]⟩)
  generalize z.cps.toList=cs
  induction cs with
  | nil=>exact rfl
  | cons c r ih=>exact ⟨_,_,rfl,rfl,ih⟩
 | _=>cases e
theorem SrcV.mono {K:PySem.W.Frag} {H H':Hp} {v:V} {vs:List V} (s:Same H H') (h:SrcV K H v vs):SrcV K H' v vs:=by
 rcases h with h|⟨a,e,h⟩|⟨a,e,h⟩
 ·exact .inl h
 ·exact .inr (.inl ⟨a,e,s.seq h⟩)
 ·exact .inr (.inr ⟨a,e,s.seqT h⟩)
def zipTup (xs ys:List D):List D:=List.zipWith (fun x y=>D.tup [x,y]) xs ys
def zipR (ds:List D):R (List D):=match ds with
 | [a,b]=>(i9 a).bind fun xs=>(i9 b).bind fun ys=>.ok (zipTup xs ys)
 | _=>.no
def iZip (α:FA):FA:=fun δ=>(α δ).bind zipR
section
variable {X:Cx} {W:Wd} {O:List Nat} {α:FA} {elts:List Expr} {k:Nat} {p pos tpos:Pos}
theorem yO {a b:Expr} (hm:X.mg "zip"=none) (ha:JA X [a,b] (tDA W O α)) (hg:Gl X "zip":=by rfl) (h1:noStar a=true:=by rfl) (h2:noStar b=true:=by rfl) (hW:W.K=X.K:=by rfl) :
  JI X (.Tuple elts k tpos) (.Call (.Name "zip" p) [a,b] [] pos) (iD W O (iZip α)):=⟨fun pins s σ H R I ⟨as0,B,own,δ,DIh,h⟩=>by
 refine wpAny_Call_Name_kw (kK I hg hm Aa ?_ (by decide) (by decide))
 refine PyProof.Rows.callWith_type1 (thn (ha.out pos pins s σ H (fun vs H1=>Same H H1∧∃ ds,Dens W.K (mask (own++as0) H1) ds vs∧FitsI W as0 own H1 (zipR ds) R) I ⟨as0,B,own,δ,DIh,g7 h fun ds vs H1 s1 d1 hq=>⟨s1,ds,d1,hq⟩⟩) fun us s1 hh=>exF hh fun vs H1 I1 r1 q1=>?_) (cH h1) (cX (by rw [List.all_cons,h2];rfl))
 obtain ⟨sH,ds,dv,hq⟩:=q1
 unfold zipR at hq
 split at hq
 ·rename_i da db
  obtain ⟨va,vb,rfl,den1,den2⟩:=dens2 dv
  cases e1:i9 da with
  | no=>rw [e1] at hq;exact hq.elim
  | er x=>cases da <;> cases e1
  | ok xs =>
   rw [e1] at hq
   have hq:FitsI W as0 own H1 ((i9 db).bind fun ys=>.ok (zipTup xs ys)) R:=hq
   cases e2:i9 db with
   | no=>rw [e2] at hq;exact hq.elim
   | er x=>cases db <;> cases e2
   | ok ys =>
    rw [e2] at hq
    have hq:∀ J H',Same H1 H'→GivesD W.K as0 (mask own H') J (zipTup xs ys)→R J H':=hq
    obtain ⟨u1,u2,rfl,ru1,ru2⟩:=vals2 r1
    rw [mG] at den1 den2
    obtain ⟨xv,sv1,dn1⟩:=tG den1 e1
    obtain ⟨yv,sv2,dn2⟩:=tG den2 e2
    rw [hW] at sv1 sv2 dn1 dn2
    have sB:Same (mask own H1) H1:=aC _ _
    obtain ⟨o1,S1,it1,fr1,st1,src1⟩:=w9 I1 ru1 sB (sv1.mono (aC _ _))
    obtain ⟨o2,S2,it2,fr2,st2,src2⟩:=w9 I1 ru2 sB (sv2.mono (aC _ _))
    refine tF it1 it2 fr1 fr2 fun h' hz hTI hTO g1 g2 hsz kp=>?_
    refine wpAny_pyIter_zip hz ?_
    have nw:∀ j,j < 5→H1 (s1.heap.objs.size+j)=none:=fun j _=>I1.hok.fresh (Nat.le_add_right _ _)
    refine ⟨s1.heap.objs.size+4,_,_,_,H1,rfl,I1.kept (t':=s1.toks) kp,wt (P:=X.prog) (w:=X.w) (src1 s1.heap.objs.size) (src2 (s1.heap.objs.size+1)) (z:=s1.heap.objs.size+4) (TI:=s1.heap.objs.size+2) (TO:=s1.heap.objs.size+3) ?_,⟨hz,hTI,⟨_,_,hTO⟩,st1 _ _ g1,st2 _ _ g2⟩,fun b hb=>?_,hq _ H1 (Same.refl _) ?_⟩
    ·simp only [List.nodup_cons,List.mem_cons,List.not_mem_nil,or_false,not_or,List.nodup_nil,and_true,not_false_eq_true]
     refine ⟨⟨?_,?_,?_,?_⟩,⟨?_,?_,?_⟩,⟨?_,?_⟩,?_⟩ <;> (intro q;have q':(_:Nat)=_:=q;omega)
    ·have hb':s1.heap.objs.size≤b:=by
      simp only [List.mem_cons,List.not_mem_nil,or_false] at hb
      rcases hb with rfl|rfl|rfl|rfl|rfl <;> first|exact Nat.le_add_right _ _|exact Nat.le_refl _
     exact I1.fpOk hb' (I1.hok.fresh hb')
    ·rw [hW]
     refine rJ ?_ fun i x y hi hv=>?_
     ·unfold zipTup
      rw [List.length_zipWith,dn1.len,dn2.len]
     ·obtain ⟨dx,q1,q2⟩:=dn1.got hv.1
      obtain ⟨dy,q3,q4⟩:=dn2.got hv.2
      refine ⟨dx,dy,?_,q2,q4⟩
      unfold zipTup
      rw [List.getElem?_zipWith,q1,q3]
 ·exact hq.elim⟩
end
def spLaw (K:PySem.W.Frag) (F:List D→R D):Sp:=fun vs H Q E=>∀ mg,spD K mg F vs H Q E
theorem xU {P:Program} {w:World} {K:PySem.W.Frag} {mg:Str→Option Value} {k:Nat} {fa:Addr} {ps:List Str} {F:List D→R D} {C:FuncData→Prop}
  (h:∃ fd:FuncData,C fd∧∀ base:Heap,K.In base→base.Ns mainGlobals mg→FnOk P w K mg base CX0 k fa fd ps (spD K mg F)) :
  ∃ fd:FuncData,C fd∧∀ base:Heap,K.In base→base.Ns mainGlobals mg→FnOk P w K mg base CX0 k fa fd ps (spLaw K F):=by
 obtain ⟨fd,h1,h2⟩:=h
 exact ⟨fd,h1,fun base h3 h4=>(h2 base h3 h4).imp fun vs H Q E q=>q mg⟩
theorem x8 {K:PySem.W.Frag} {a:Addr} {ns:List Int} {H:Hp} {F:List D→R D} {Q:VK} {E:XK} (hS:SqL K H a (ns.map V.int)) (h:F [.lst (ns.map D.int)]=.ok (.bl true)) (q:∀ H',Q (.bl true) H'):spLaw K F [.ref a] H Q E :=
 fun mg=>zV hS h q
def fin (r:R Fl):R D:=r.bind fun f=>match f with
 | .rt d=>.ok d
 | .rn d=>.ok d
 | .nx _=>.ok .non
 | _=>.no
section
variable {δ:Sd} {d e:D} {x y:Str} {i j:Int} {b c:Bool} {φ ψ:FE} {τ υ:FT} {α:FA} {S T:FS}
def seqK (T:FS) (f:Fl):R Fl:=match f with
 | .nx δ'=>T δ'
 | f=>.ok f
theorem vD:aR S T δ=(S δ).bind (seqK T):=by
 unfold aR seqK
 cases S δ with
 | ok f=>cases f <;> rfl
 | er x=>rfl
 | no=>rfl
theorem zQ:seqK T (.nx δ)=T δ:=rfl
def retK (d:D):R Fl:=.ok (.rt d)
theorem A8:bo φ δ=(φ δ).bind retK:=rfl
def ifK (S T:FS) (δ:Sd) (b:Bool):R Fl:=if b=true then S δ else T δ
theorem Ch:sIf τ S T δ=(τ δ).bind (ifK S T δ):=rfl
theorem Ci:ifK S T δ b=if b=true then S δ else T δ:=rfl
def setK (k:Nat) (δ:Sd) (d:D):R Fl:=.ok (.nx (δ.set k (some d)))
theorem BK {k:Nat}:bQ k φ δ=(φ δ).bind (setK k δ):=rfl
def ownK (k:Nat) (δ:Sd) (d:D):R Fl:=if k < δ.length then .ok (.nx (δ.set k (some d))) else .no
theorem BA {k:Nat}:sOwn k φ δ=(φ δ).bind (ownK k δ):=rfl
theorem AZ {k:Nat}:ownK k δ d=if k < δ.length then .ok (.nx (δ.set k (some d))) else .no:=rfl
def forK (t:TgD) (S:FS) (δ:Sd) (xs:List D):R Fl:=forD t S xs δ
theorem yS {t:TgD}:sFor α t S δ=(α δ).bind (forK t S δ):=rfl
theorem yV {t:TgD} {xs:List D}:forK t S δ xs=forD t S xs δ:=rfl
def loopK (t:TgD) (S:FS) (r:List D) (f:Fl):R Fl:=match f with
 | .nx δ2=>forD t S r δ2
 | .ct δ2=>forD t S r δ2
 | .bk δ2=>.ok (.nx δ2)
 | .rt d=>.ok (.rt d)
 | .rn d=>.ok (.rn d)
def turnK (t:TgD) (S:FS) (r:List D) (δ1:Sd):R Fl:=(S δ1).bind (loopK t S r)
theorem tI {t:TgD}:forD t S [] δ=.ok (.nx δ):=rfl
theorem qE {t:TgD} {r:List D}:forD t S (d::r) δ=(bindD t d δ).bind (turnK t S r):=by
 show (bindD t d δ).bind _=_
 congr 1
theorem wL {t:TgD} {r:List D}:turnK t S r δ=(S δ).bind (loopK t S r):=rfl
theorem xu {t:TgD} {r:List D}:loopK t S r (.nx δ)=forD t S r δ:=rfl
theorem xT {t:TgD} {r:List D}:loopK t S r (.rt d)=.ok (.rt d):=rfl
def opK (op:D→D→R D) (ψ:FE) (δ:Sd) (x:D):R D:=(ψ δ).bind (op x)
theorem v_op {op:D→D→R D}:vOp op φ ψ δ=(φ δ).bind (opK op ψ δ):=rfl
theorem op_k {op:D→D→R D}:opK op ψ δ d=(ψ δ).bind (op d):=rfl
def notK (d:D):R D:=blD d fun b=>.ok (.bl (!b))
theorem v_not:vNot φ δ=(φ δ).bind notK:=rfl
def andK (ψ:FE) (δ:Sd) (d:D):R D:=blD d fun b=>if b=true then ψ δ else .ok (.bl false)
theorem v_and:vAnd φ ψ δ=(φ δ).bind (andK ψ δ):=rfl
theorem BP:andK ψ δ (.bl b)=if b=true then ψ δ else .ok (.bl false):=rfl
def orK (ψ:FE) (δ:Sd) (d:D):R D:=blD d fun b=>if b=true then .ok (.bl true) else ψ δ
theorem v_or:vOr φ ψ δ=(φ δ).bind (orK ψ δ):=rfl
theorem or_k:orK ψ δ (.bl b)=if b=true then .ok (.bl true) else ψ δ:=rfl
def blK (d:D):R Bool:=blD d .ok
theorem q_bl:qBl φ δ=(φ δ).bind blK:=rfl
theorem Bs:fK φ δ=(φ δ).bind truD:=rfl
def qandK (υ:FT) (δ:Sd) (b:Bool):R Bool:=if b=true then υ δ else .ok false
theorem Ad:qAnd τ υ δ=(τ δ).bind (qandK υ δ):=rfl
theorem Av:qandK υ δ b=if b=true then υ δ else .ok false:=rfl
def qorK (υ:FT) (δ:Sd) (b:Bool):R Bool:=if b=true then .ok true else υ δ
theorem Cj:qOr τ υ δ=(τ δ).bind (qorK υ δ):=rfl
theorem BW:qorK υ δ b=if b=true then .ok true else υ δ:=rfl
def qnotK (b:Bool):R Bool:=.ok (!b)
theorem Bh:dX τ δ=(τ δ).bind qnotK:=rfl
def ifEK (φ ψ:FE) (δ:Sd) (b:Bool):R D:=if b=true then φ δ else ψ δ
theorem yZ:vIf τ φ ψ δ=(τ δ).bind (ifEK φ ψ δ):=rfl
theorem yN:ifEK φ ψ δ b=if b=true then φ δ else ψ δ:=rfl
theorem A9:dF α δ=(α δ).bind mkLst:=rfl
theorem Be:bh α δ=(α δ).bind mkTup:=rfl
theorem zZ {ds:List D}:mkLst ds=if ds.length≤1000000 then .ok (.lst ds) else .no:=rfl
theorem zO {ds:List D}:mkTup ds=if ds.length≤1000000 then .ok (.tup ds) else .no:=rfl
theorem zc {g:List D→R D}:al g α δ=(α δ).bind g:=rfl
def oK (d:D):R (Option Int):=match d with
 | .int i=>.ok (some i)
 | _=>.no
theorem zq:bU φ δ=(φ δ).bind oK:=rfl
def sl2K (g:D→Option Int→Option Int→R D) (d:D) (lo hi:Option Int):R D:=g d lo hi
def sl1K (g:D→Option Int→Option Int→R D) (u:Sd→R (Option Int)) (δ:Sd) (d:D) (lo:Option Int):R D:=(u δ).bind (sl2K g d lo)
def sl0K (g:D→Option Int→Option Int→R D) (l u:Sd→R (Option Int)) (δ:Sd) (d:D):R D:=(l δ).bind (sl1K g u δ d)
theorem Ck {g:D→Option Int→Option Int→R D} {l u:Sd→R (Option Int)}:vSl g φ l u δ=(φ δ).bind (sl0K g l u δ):=rfl
theorem zG {g:D→Option Int→Option Int→R D} {l u:Sd→R (Option Int)}:sl0K g l u δ d=(l δ).bind (sl1K g u δ d):=rfl
theorem zJ {g:D→Option Int→Option Int→R D} {u:Sd→R (Option Int)} {lo:Option Int}:sl1K g u δ d lo=(u δ).bind (sl2K g d lo):=rfl
theorem zD {g:D→Option Int→Option Int→R D} {lo hi:Option Int}:sl2K g d lo hi=g d lo hi:=rfl
def smK (g:Str→List D→R D) (α:FA) (δ:Sd) (d:D):R D:=match d with
 | .str z=>(α δ).bind fun ds=>g z ds
 | _=>.no
theorem v_sm {g:Str→List D→R D}:vSM g φ α δ=(φ δ).bind (smK g α δ):=rfl
theorem sm_k {g:Str→List D→R D}:smK g α δ (.str x)=(α δ).bind (g x):=rfl
theorem zb {ix:List (Option Nat)} {t:TgD}:cC ix α t τ φ δ=(α δ).bind (bE t τ φ (captD ix δ)):=rfl
theorem Bd:jE φ δ=(φ δ).bind i9:=rfl
theorem AN:iRng1D α δ=(α δ).bind rng1:=rfl
theorem Bb (h:-(2 ^ 62)≤i∧i < 2 ^ 62):rng1 [.int i]=.ok (cS 0 i.toNat):=if_pos h
theorem AR:iZip α δ=(α δ).bind zipR:=rfl
theorem BO:addD (.str x) (.str y)=if x.length+y.length≤1000000 then .ok (.str (x++y)) else .no:=rfl
theorem add_l {xs ys:List D}:addD (.lst xs) (.lst ys)=if xs.length+ys.length≤1000000 then .ok (.lst (xs++ys)) else .no:=rfl
theorem AY:mulD (.str x) (.int j)=if x.length≤1000∧-1000≤j∧j≤1000 then .ok (.str (Txt.mul x j)) else .no:=rfl
theorem mul_r (h:-(2 ^ 64) < j∧j < 2 ^ 64):mulD (.int i) (.int j)=.ok (.int (i*j)):=if_pos (.inr h)
theorem Bm (h:-(2 ^ 64) < i∧i < 2 ^ 64):mulD (.int i) (.int j)=.ok (.int (i*j)):=if_pos (.inl h)
theorem Bj (h:0 < j∧j < 1073741824):divD (.int i) (.int j)=.ok (.int (i/j)):=if_pos h
theorem B7 (h:0 < j):modD (.int i) (.int j)=.ok (.int (i % j)):=if_pos h
theorem ye (h:0≤j∧j≤1000000∧-(2 ^ 64) < i∧i < 2 ^ 64):powD (.int i) (.int j)=.ok (.int (i ^ j.toNat)):=if_pos ⟨h.1,h.2.1,by omega⟩
theorem sv:ltD (.int i) (.int j)=.ok (.bl (decide (i < j))):=rfl
theorem zF:leD (.int i) (.int j)=.ok (.bl (decide (i≤j))):=rfl
theorem AV:gtD (.int i) (.int j)=.ok (.bl (decide (j < i))):=rfl
theorem ge_i:geD (.int i) (.int j)=.ok (.bl (decide (j≤i))):=rfl
theorem Cl:ltD (.str x) (.str y)=.ok (.bl (decide (x.cps.toList < y.cps.toList))):=rfl
theorem nJ:eqD (.int i) (.int j)=.ok (.bl (decide (i=j))):=by simp [eqD,eqO,scalD,scal,optR]
theorem lq:eqD (.str x) (.str y)=.ok (.bl (decide (x=y))):=by simp [eqD,eqO,scalD,scal,optR]
theorem Bn:eqD (.bl b) (.bl c)=.ok (.bl (decide (b=c))):=by simp [eqD,eqO,scalD,scal,optR]
theorem Cd:eqD .non .non=.ok (.bl true):=by simp [eqD,eqO,scalD,scal,optR]
theorem yY:neD (.int i) (.int j)=.ok (.bl (!decide (i=j))):=by simp [neD,eqO,scalD,scal,optR]
theorem xo:neD (.str x) (.str y)=.ok (.bl (!decide (x=y))):=by simp [neD,eqO,scalD,scal,optR]
theorem Bx:neD (.bl b) (.bl c)=.ok (.bl (!decide (b=c))):=by simp [neD,eqO,scalD,scal,optR]
theorem ix_s (h:x.length≤1000000) {k:Nat} (hk:atI x.cps.toList i=some k):ixD (.str x) (.int i)=.ok (.str ⟨#[k]⟩):=by simp only [ixD,if_pos h,hk]
theorem sG {xs:List D} (hk:atI xs i=some d):ixD (.lst xs) (.int i)=.ok d:=by simp only [ixD,hk]
theorem B2 {xs:List D} (hk:atI xs i=some d):ixD (.tup xs) (.int i)=.ok d:=by simp only [ixD,hk]
theorem bW {r:List D}:ixD (.tup (d::r)) (.int 0)=.ok d:=B2 (ca (j:=0) rfl)
theorem cb {a:D} {r:List D}:ixD (.tup (a::d::r)) (.int 1)=.ok d:=B2 (ca (j:=1) rfl)
theorem pC {r:List D}:ixD (.lst (d::r)) (.int 0)=.ok d:=sG (ca (j:=0) rfl)
theorem wd {a:D} {r:List D}:ixD (.lst (a::d::r)) (.int 1)=.ok d:=sG (ca (j:=1) rfl)
theorem xL {a b:D} {r:List D}:ixD (.lst (a::b::d::r)) (.int 2)=.ok d:=sG (ca (j:=2) rfl)
theorem zr {a b c:D} {r:List D}:ixD (.lst (a::b::c::d::r)) (.int 3)=.ok d:=sG (ca (j:=3) rfl)
theorem B0 {a0 a1 a2 a3:D} {r:List D}:ixD (.lst (a0::a1::a2::a3::d::r)) (.int 4)=.ok d:=sG (ca (j:=4) rfl)
theorem Bc {a0 a1 a2 a3 a4:D} {r:List D}:ixD (.lst (a0::a1::a2::a3::a4::d::r)) (.int 5)=.ok d:=sG (ca (j:=5) rfl)
theorem BS {a0 a1 a2 a3 a4 a5:D} {r:List D}:ixD (.lst (a0::a1::a2::a3::a4::a5::d::r)) (.int 6)=.ok d:=sG (ca (j:=6) rfl)
theorem A6 {a0 a1 a2 a3 a4 a5 a6:D} {r:List D}:ixD (.lst (a0::a1::a2::a3::a4::a5::a6::d::r)) (.int 7)=.ok d:=sG (ca (j:=7) rfl)
theorem yJ {xs:List D} {lo hi:Option Int}:slD (.lst xs) lo hi=.ok (.lst (cutD xs lo hi)):=rfl
theorem wv {xs:List D}:lenD [.lst xs]=.ok (.int xs.length):=rfl
theorem kG {xs:List D}:lenD [.tup xs]=.ok (.int xs.length):=rfl
theorem B9:maxD [.int i,.int j]=.ok (.int (if j > i then j else i)):=rfl
theorem xD {xs:List D}:tupD [.lst xs]=.ok (.tup xs):=rfl
theorem wu {xs:List D}:lstD [.tup xs]=.ok (.lst xs):=rfl
theorem B3 {C:String}:iq [.non,.ty C]=if known C=true then .ok (.bl (subT "NoneType" C)) else .no:=rfl
theorem Am {C:String}:iq [.bl b,.ty C]=if known C=true then .ok (.bl (subT "bool" C)) else .no:=rfl
theorem yi {C:String}:iq [.int i,.ty C]=if known C=true then .ok (.bl (subT "int" C)) else .no:=rfl
theorem xC {C:String}:iq [.str x,.ty C]=if known C=true then .ok (.bl (subT "str" C)) else .no:=rfl
theorem BG {C:String} {xs:List D}:iq [.lst xs,.ty C]=if known C=true then .ok (.bl (subT "list" C)) else .no:=rfl
theorem B1 {C:String} {xs:List D}:iq [.tup xs,.ty C]=if known C=true then .ok (.bl (subT "tuple" C)) else .no:=rfl
theorem pE {xs:List D} {bs:List Bool} (h:blsD xs=some bs):allD [.lst xs]=.ok (.bl (bs.all id)):=by simp only [allD,h]
theorem fW {β:Type} (f:β→Bool):∀ xs:List β,blsD (xs.map fun a=>D.bl (f a))=some (xs.map f)
 | []=>rfl
 | a::r=>by simp only [List.map_cons,blsD,fW f r,Option.map_some]
theorem strs_map {β:Type} (f:β→Str):∀ xs:List β,strsD (xs.map fun a=>D.str (f a))=some (xs.map f)
 | []=>rfl
 | a::r=>by simp only [List.map_cons,strsD,strs_map f r,Option.map_some]
theorem AK {z:Str} {xs:List D} {ys:List Str} (h:strsD xs=some ys) (hl:(ys.map (·.length)).sum+ys.length*z.length≤1000000):joinD z [.lst xs]=.ok (.str (Txt.join z ys)):=by simp only [joinD,h,if_pos hl]
theorem qm {t:TgD} {τ:FT} {ε:FE} {δ0:Sd} (f:D→D) (g:D→Sd):∀ xs:List D,(∀ x∈xs,bindD t x δ0=.ok (g x)∧τ (g x)=.ok true∧ε (g x)=.ok (f x))→compD t τ ε δ0 xs=.ok (xs.map f)
 | [],_=>rfl
 | x::r,h=>by
  obtain ⟨h1,h2,h3⟩:=h x List.mem_cons_self
  have ih:=qm (t:=t) (τ:=τ) (ε:=ε) (δ0:=δ0) f g r fun y hy=>h y (List.mem_cons_of_mem _ hy)
  show (bindD t x δ0).bind _=_
  rw [h1]
  show (τ (g x)).bind _=_
  rw [h2]
  simp only [aD,if_true,h3,ih,List.map_cons]
theorem jj {t:TgD} {τ:FT} {ε:FE} {δ0:Sd} {xs ys:List D} (hf:freeT t δ0=true) (hl:xs.length≤1000000) (h:compD t τ ε δ0 xs=.ok ys):bE t τ ε δ0 xs=.ok (.lst ys):=by
 unfold bE
 rw [if_pos ⟨hf,hl⟩,h]
 rfl
theorem wG {k:Nat} {ε:FE} {δ0:Sd} {xs:List D} (f:D→D) (hf:freeT (.one k) δ0=true) (hl:xs.length≤1000000) (h:∀ x∈xs,ε (δ0.set k (some x))=.ok (f x)):bE (.one k) qYes ε δ0 xs=.ok (.lst (xs.map f)) :=
 jj hf hl (qm f (fun x=>δ0.set k (some x)) xs fun x hx=>⟨rfl,rfl,h x hx⟩)
theorem cg {β:Type} {k:Nat} {ε:FE} {δ0:Sd} {as:List β} (u:β→D) (f:β→D) (hf:freeT (.one k) δ0=true) (hl:as.length≤1000000) (h:∀ a∈as,ε (δ0.set k (some (u a)))=.ok (f a)):bE (.one k) qYes ε δ0 (as.map u)=.ok (.lst (as.map f)):=by
 refine jj hf (by rw [List.length_map];exact hl) ?_
 clear hl
 induction as with
 | nil=>rfl
 | cons a r ih =>
  have h1:=h a List.mem_cons_self
  have ih:=ih fun b hb=>h b (List.mem_cons_of_mem _ hb)
  show (ε (δ0.set k (some (u a)))).bind _=_
  rw [h1]
  show (compD (.one k) qYes ε δ0 (r.map u)).bind _=_
  rw [ih]
  rfl
end
theorem pD {β:Type} {M:Model} {A:Around} {E:Value→Shared→Prop} {s:Shared} {b:Nat} (f:Nat→β→Sem (ForInStep β)) (I:Nat→β→Shared→Prop) (Q:β→Shared→Prop)
  (turn:∀ i c s,i < b→I i c s→wpAny M A (f i c) (fun r s'=>match r with|.yield b'=>I (i+1) b' s'|.done b'=>Q b' s') E s)
  (fin:∀ c s,I b c s→Q c s) (c:β) (h:I 0 c s):wpAny M A (forIn [0:b] c f) Q E s:=by
 rw [Std.Legacy.Range.forIn_eq_forIn_range']
 have hsz:([0:b]:Std.Legacy.Range).size=b:=by simp [Std.Legacy.Range.size]
 show wpAny M A (forIn (List.range' 0 ([0:b]:Std.Legacy.Range).size 1) c f) Q E s
 rw [hsz]
 refine wpAny_forIn_list f (fun l c st=>∃ i,i≤b∧l=List.range' i (b - i) 1∧I i c st) Q ?_ ?_ _ c ⟨0,Nat.zero_le _,rfl,h⟩
 ·rintro x rest c st ⟨i,hib,hl,hI⟩
  have hlt:i < b:=by
   rcases Nat.lt_or_ge i b with h'|h'
   ·exact h'
   ·rw [show b - i=0 by omega] at hl;simp at hl
  obtain ⟨n,hn⟩:∃ n,b - i=n+1:=⟨b - i - 1,by omega⟩
  rw [hn,List.range'_succ] at hl
  obtain ⟨rfl,rfl⟩:=List.cons.inj hl
  refine wpAny_mono (turn x c st (by omega) hI) (fun r st' h'=>?_) fun _ _ z=>z
  cases r with
  | done c'=>exact h'
  | yield c'=>exact ⟨x+1,by omega,by congr 1;omega,h'⟩
 ·rintro c st ⟨i,hib,hl,hI⟩
  have:i=b:=by
   rcases Nat.lt_or_ge i b with h'|h'
   ·obtain ⟨n,hn⟩:∃ n,b - i=n+1:=⟨b - i - 1,by omega⟩
    rw [hn,List.range'_succ] at hl;simp at hl
   ·omega
  subst this;exact fin _ _ hI
theorem l0 (l:Addr) (items:List Value) (n:Nat) (dd:Option Addr) (sl:Array (Option Value)) (x:Value) (e:Value→Bool) (k:Nat) :
  Meets (Builtin.«tuple.index» ⟨[.ref l,x],[]⟩)
   (fun A R s=>s.heap.get? l=some { cls:=.type "tuple",dict:=dd,data:=.seq items.toArray n,slots:=sl }∧(∀ y,y∈items→SeqAt.EqAt A.in1 s y x (e y))∧(k < items.length∧(∀ y,items[k]?=some y→e y=true)∧∀ j y,j < k→items[j]?=some y→e y=false)∧R (.ok (.ret (.int (k:Nat) s.toks))) { s with toks:=s.toks+1 }) :=
 .of_wp fun prog w A R s h=>by
  obtain ⟨hp,g,d,tk,os⟩:=s;obtain ⟨hl,he,⟨hk0,hk1,hk2⟩,h⟩:=h
  wp_walk using wpAny_loadPart' hl,pD _ (fun i b s'=>b.1=none∧s'=⟨hp,g,d,tk,os⟩∧i≤k) _
  case turn =>
   rintro i b s' hi ⟨hb,rfl,hik⟩
   have hi':i < items.length:=by omega
   have e1:items.toArray[i]?=some items[i]:=by simp [hi']
   simp only [e1]
   refine wpAny_bind (he _ (List.getElem_mem hi') prog w _ _ ?_)
   by_cases hki:i=k
   ·subst hki
    rw [hk1 _ (List.getElem?_eq_getElem hi')]
    wp_walk
    exact ⟨_,rfl,h⟩
   ·rw [hk2 i _ (by omega) (List.getElem?_eq_getElem hi')]
    wp_walk
    exact ⟨rfl,rfl,by omega⟩
  case fin =>
   rintro ⟨b1,b2⟩ s' ⟨hb,rfl,hik⟩
   simp at hik
   omega
  case h =>
   exact ⟨rfl,rfl,Nat.zero_le _⟩
section
variable {X:Cx} {W:Wd} {O:List Nat}
def posV (x:V):List V→Option Nat
 | []=>none
 | y::ys=>if eqV y x=true then some 0 else (posV x ys).map (·+1)
theorem nD {x:V}:∀ {xs:List V} {us:List Value} {k:Nat},Vals xs us→xs.all flatV=true→posV x xs=some k→k < us.length∧(∀ y,us[k]?=some y→eqU x y=true)∧∀ j y,j < k→us[j]?=some y→eqU x y=false
 | _,_,_,.nil,_,h=>by cases h
 | y::xs,u::us,k,.cons r t,f,h=>by
  rw [List.all_cons,Bool.and_eq_true] at f
  unfold posV at h
  split at h
  ·rename_i e
   cases h
   refine ⟨by simp,fun y' h'=>?_,fun j _ hj _=>absurd hj (Nat.not_lt_zero _)⟩
   simp only [List.getElem?_cons_zero,Option.some.injEq] at h'
   subst h'
   rw [p6 r f.1];exact e
  ·rename_i e
   cases q:posV x xs with
   | none=>rw [q] at h;cases h
   | some k' =>
    rw [q] at h
    cases h
    obtain ⟨h1,h2,h3⟩:=nD t f.2 q
    refine ⟨by simpa using h1,fun y' h'=>h2 y' (by simpa using h'),fun j y' hj h'=>?_⟩
    cases j with
    | zero =>
     simp only [List.getElem?_cons_zero,Option.some.injEq] at h'
     subst h'
     rw [p6 r f.1];simpa using e
    | succ j=>exact h3 j y' (Nat.lt_of_succ_lt_succ hj) (by simpa using h')
def rTIx (K:PySem.W.Frag) (x:V) (xs:List V) (H:Hp) (Q:VK):Prop:=∃ p vs y k,x=.ref p∧xs=[y]∧SqT K H p vs∧flatV y=true∧vs.all flatV=true∧posV y vs=some k∧Q (.int (k:Nat)) H
theorem uQ:MtR X "tuple.index" (rTIx X.K):=by
 intro pins s σ H x xs v us Q I rx r h
 obtain ⟨p,vs,y,k,rfl,rfl,hq,fy,fs,e,q⟩:=h
 cases rx
 obtain ⟨u,rfl,ry⟩:=vals1 r
 obtain ⟨its,rv,pl,hz⟩:=I.tuple hq
 obtain ⟨⟨cls,dd,data,sl⟩,ho,hc,n,hd⟩:=id pl
 simp only at hc hd
 subst hc hd
 exact call_meets PySem.F.slot_tuple_index ⟨_,ho,rfl⟩ PySem.F.entry_tuple_index (PySem.F.args_tuple_index_2 _ _) (l0 p its n dd sl u (eqU y) k) ⟨ho,fun z hz=>jO ry fy rv fs z hz,nD rv fs e,⟨.int _,H,I.tok _,⟨_,rfl⟩,q⟩⟩
def tIxD (k:D) (ds:List D):R D:=match k,ds with
 | .tup xs,[d]=>match scalD d,scalsD xs with
  | some v,some vs=>match posV v vs with
   | some k=>.ok (.int (k:Nat))
   | none=>.no
  | _,_=>.no
 | _,_=>.no
def vTIx (k:D) (α:FA):FE:=fun δ=>(α δ).bind fun ds=>tIxD k ds
theorem A4 {k:D} {α:FA} {δ:Sd}:vTIx k α δ=(α δ).bind (tIxD k):=rfl
theorem qP {x:Str} {d:D} {p:Addr} {e:Expr} {α:FA} {apos cpos pos:Pos} (hm:X.mg x=some (.ref p)) (hd:∀ H,Den W.K H d (.ref p)) (hl:∃ ob,W.K.lookup p=some ob∧ob.cls=.type "tuple"∧ob.dict=none) (ha:JA X [e] (tDA W O α)) (hK:X.K=W.K:=by rfl) (hg:Gl X x:=by rfl) (hdb:(x==("__debug__":Str))=false:=by decide)
  (hbase:attributeBase (.Name x pos) "index" X.env (eval (.Name x pos) X.env)=eval (.Name x pos) X.env:=by rfl) (hline:(apos.endLine==cpos.line)=true:=by rfl) (h1:[e].all noStar=true:=by rfl) (hfew:[e].length < 29:=by decide) :
  JE X (.Call (.Attribute (.Name x pos) "index" apos) [e] [] cpos) (tD W O (vTIx d α)) :=
 (AX PySem.F.plainAttrs_tuple PySem.F.slot_tuple_index PySem.F.type_tuple_index uQ (w4 (v:=.ref p) hm rfl hg hdb) ha hbase hline h1 hfew).imp fun σ H Q hh=>exE hh fun as0 B own δ I h=>by
  obtain ⟨ob,hl,hc,hdn⟩:=hl
  refine ⟨.inr (.inl ⟨rfl,ob,by rw [hK];exact hl,hc,hdn⟩),as0,B,own,δ,I,c6 h fun ds xs H2 s2 d2 h2=>?_⟩
  have dp:=hd (mask (own++as0) H2)
  unfold tIxD at h2
  split at h2
  ·rename_i ks d'
   obtain ⟨v,rfl,dv⟩:=dens1 d2
   obtain ⟨p',vs,e0,q1,q2⟩:=dp
   cases e0
   split at h2
   ·rename_i w ws e1 e2
    split at h2
    ·rename_i k e3
     have:=dl dv e1
     subst this
     obtain ⟨h3,h4⟩:=ji q2 e2
     subst h3
     exact ⟨p,vs,v,k,rfl,rfl,by rw [hK];exact (aC _ _).seqT q1,lD e1,h4,e3,aQ h2 rfl⟩
    ·exact h2.elim
   ·exact h2.elim
  ·exact h2.elim
end
section
variable {X:Cx} {W:Wd} {O O' Ob:List Nat}
def uStrI (xs:List V) (H:Hp) (Q:VK):Prop:=match xs with
 | [.int i]=>i.natAbs < 10 ^ 30∧Q (.str (Str.ofString (toString i))) H
 | _=>False
theorem qStrI:CallR X (.type "str") uStrI:=by
 intro pins s σ H xs us Q I r h
 unfold uStrI at h
 split at h
 ·rename_i i
  obtain ⟨u,rfl,t,rfl⟩:=vals1 r
  refine PySem.P.str_of_int ?_ ⟨.str _,H,I.tok _,⟨_,rfl⟩,h.2⟩
  rcases Nat.eq_zero_or_pos i.natAbs with e|e
  ·rw [e];decide
  ·rw [Nat.log2_lt (by omega)]
   exact Nat.lt_of_lt_of_le h.1 (Nat.le_trans (by decide:10 ^ 30≤2 ^ 100) (Nat.pow_le_pow_right (by decide) (by decide)))
 ·exact h.elim
def strID (ds:List D):R D:=match ds with
 | [.int i]=>if i.natAbs < 10 ^ 30 then .ok (.str (Str.ofString (toString i))) else .no
 | _=>.no
theorem pStrI:CallD W uStrI strID:=by
 intro as H xs ds Q hn dv h
 unfold strID at h
 split at h
 ·obtain ⟨v,rfl,d1⟩:=dens1 dv;cases d1
  split at h
  ·rename_i hl;exact ⟨hl,aQ h rfl⟩
  ·exact h.elim
 ·exact h.elim
end
end L2
namespace LT
open PySem PyProof.Rows PySem.SeqAt
open PySem.AutoSeq1 (wpAny_loadPart')
open PySem.MeetsSeq PySem.MeetsSeq2 PySem.MeetsSeq3
def LtAt (A:Around) (s:Shared) (y x:Value) (b:Bool):Prop :=
 ∀ (prog:Program) (w:World) (E:Value→Shared→Prop) (Q:Value→Shared→Prop),Q (.bool b) s→wpAny (model prog w) A (richCompare .Lt y x) Q E s
inductive Lx (A:Around) (s:Shared):List Value→List Value→Bool→Prop
 | nn:Lx A s [] [] false
 | nc {y:Value} {ys:List Value}:Lx A s [] (y::ys) true
 | cn {x:Value} {xs:List Value}:Lx A s (x::xs) [] false
 | eq {x y:Value} {xs ys:List Value} {b:Bool} (h:EqAt A s x y true) (t:Lx A s xs ys b):Lx A s (x::xs) (y::ys) b
 | ne {x y:Value} {xs ys:List Value} {b:Bool} (h:EqAt A s x y false) (t:LtAt A s x y b):Lx A s (x::xs) (y::ys) b
theorem vU (l b:Addr) (items items2:Array Value) (n n2:Nat) (dd dd2:Option Addr) (sl sl2:Array (Option Value)) (r:Bool) :
  Meets (Builtin.«tuple.__lt__» ⟨[.ref l,.ref b],[]⟩)
   (fun A R s=>s.heap.get? l=some { cls:=.type "tuple",dict:=dd,data:=.seq items n,slots:=sl }∧s.heap.get? b=some { cls:=.type "tuple",dict:=dd2,data:=.seq items2 n2,slots:=sl2 } ∧
    Lx A.in1 s items.toList items2.toList r∧R (.ok (.ret (.bool r))) s) :=
 .of_wp fun prog w A R s h=>by
  obtain ⟨hp,g,d,tk,os⟩:=s;obtain ⟨hl,hb,hx,h⟩:=h
  have f2:=AutoSeq1.sub_tuple_tuple
  wp_walk using wpAny_loadPart' hl,wpAny_loadPart' hb,wpAny_forIn_list _ (fun rest b s'=>b.1=none∧s'=⟨hp,g,d,tk,os⟩∧∃ (vs ws:List Value) , rest=vs.zip ws ∧
   Lx A.in1 ⟨hp,g,d,tk,os⟩ vs ws r∧vs.length+items2.size=ws.length+items.size) _
  case turn =>
   rintro ⟨y,x⟩ rest b s' ⟨hb',rfl,vs,ws,hz,hx,hlen⟩
   cases hx with
   | nn=>cases hz
   | nc=>cases hz
   | cn=>rw [List.zip_nil_right] at hz;cases hz
   | eq he ht =>
    rw [List.zip_cons_cons] at hz
    injection hz with hyx hrest
    injection hyx with hy hx
    subst hy hx
    simp only [List.length_cons] at hlen
    refine wpAny_bind (he prog w _ _ ?_)
    wp_walk
    exact ⟨rfl,rfl,_,_,hrest,ht,by omega⟩
   | ne he ht =>
    rw [List.zip_cons_cons] at hz
    injection hz with hyx hrest
    injection hyx with hy hx
    subst hy hx
    refine wpAny_bind (he prog w _ _ ?_)
    have hri:=ht prog w
    wp_walk using hri
    exact ⟨_,rfl,by simpa using h⟩
  case fin =>
   rintro ⟨b1,b2⟩ s' ⟨hb',rfl,vs,ws,hz,hx,hlen⟩
   simp only at hb'
   subst hb'
   have hv:r=decide (items.size < items2.size):=by
    cases hx with
    | nn=>simp only [List.length_nil] at hlen;exact (decide_eq_false (by omega)).symm
    | nc=>simp only [List.length_nil,List.length_cons] at hlen;exact (decide_eq_true (by omega)).symm
    | cn=>simp only [List.length_nil,List.length_cons] at hlen;exact (decide_eq_false (by omega)).symm
    | eq he ht=>rw [List.zip_cons_cons] at hz;cases hz
    | ne he ht=>rw [List.zip_cons_cons] at hz;cases hz
   rw [hv] at h
   wp_walk
   exact ⟨_,rfl,by simpa [Builtin.Tuple.tupleCompareSizes] using h⟩
  case h =>
   exact ⟨rfl,rfl,items.toList,items2.toList,rfl,hx,by simp;omega⟩
theorem LtAt.tup {A:Around} {s:Shared} {l b:Addr} {items items2:Array Value} {r:Bool} (hl:IsTup s.heap l items) (hb:IsTup s.heap b items2) (hx:Lx A.in1 s items.toList items2.toList r) (hu:A.units < cLine):LtAt A s (.ref l) (.ref b) r:=fun prog w E Q h=>by
 obtain ⟨⟨cls,dd,data,sl⟩,ho,hc,n,hd⟩:=id hl
 obtain ⟨⟨cls2,dd2,data2,sl2⟩,ho2,hc2,n2,hd2⟩:=id hb
 simp only at hc hd hc2 hd2
 subst hc hd hc2 hd2
 exact richCompare_meets_room (op:=.Lt) ⟨_,ho,rfl⟩ ⟨_,ho2,rfl⟩ PySem.F.slot_tuple_lt PySem.F.entry_tuple_lt (PySem.F.args_tuple_lt_2 _ _) (vU l b items items2 n n2 dd dd2 sl sl2 r)
  ⟨ho,ho2,hx,show Value.bool r≠Value.notImplemented∧Q (.bool r) s from ⟨(fun x=>nomatch x),h⟩⟩ hu
theorem LtAt.int {A:Around} {s:Shared} (a:Int) (t:Tok) (c:Int) (u:Tok):LtAt A s (.int a t) (.int c u) (decide (a < c)):=fun prog w E Q h=>(PyProof.Rows.lt_int h:wpAny (model prog w) A (compareOp .Lt (.int a t) (.int c u)) Q E s)
theorem LtAt.str {A:Around} {s:Shared} (a:Str) (t:Tok) (c:Str) (u:Tok):LtAt A s (.str a t) (.str c u) (decide (a.cps.toList < c.cps.toList)):=fun prog w E Q h=>(PyProof.Rows.lt_str h:wpAny (model prog w) A (compareOp .Lt (.str a t) (.str c u)) Q E s)
end LT
namespace L2
open PySem PySem.Spec PyProof.Rows
abbrev Cx.up (X:Cx) (n:Nat):Cx:={ X with tn:=n }
theorem Cx.Ok.up {X:Cx} {n:Nat} (ok:X.Ok):(X.up n).Ok :=
 ⟨ok.mod,ok.kind,ok.glob,ok.blt,ok.above,ok.inj,ok.has,ok.cab,ok.hd,ok.frames,ok.stk,ok.exf,ok.bs,ok.bsz,ok.noex,ok.exfs,ok.funs,ok.frf⟩
theorem Inv.up {X:Cx} {pins:List (Addr×Obj)} {σ:St} {H:Hp} {s:Shared} {n:Nat} (I:Inv X pins σ H s) (h:n≤s.toks):Inv (X.up n) pins σ H s:=⟨I.ok.up,I.os,I.bare,I.base,I.loc,I.cell,I.free,I.freeC,I.pin,I.hok,I.len,h⟩
theorem FnOk.void {P:Program} {w:World} {K:PySem.W.Frag} {mg:Str→Option Value} {base:Heap} {k:Nat} {f:Addr} {fd:FuncData} {ps:List Str}:FnOk P w K mg base CX0 k f fd ps (spD K mg fun _=>.no) :=
 ⟨fun vs H Q E ⟨_,_,_,_,h⟩=>h.elim,fun A outer s H args us vs Q E hr e0 hb r ⟨_,_,_,_,h⟩=>h.elim⟩
end L2
namespace LX
open PySem PySem.AutoSeq1
open PySem.MeetsSeq PySem.MeetsSeq2 PySem.MeetsSeq3
theorem extend_list (l:Addr) (items:Array Value) (n:Nat) (b:Addr) (items2:Array Value) (n2:Nat) (dd:Option Addr) (sl:Array (Option Value)) (hc0:¬(!items.isEmpty&&Builtin.List.listTooLong (items.size+items2.size))=true) (hc1:items.size≤sizeLine) (hs2:items.size+items2.size≤sizeLine+1) :
  Meets (Builtin.«list.extend» ⟨[.ref l,.ref b],[]⟩) (fun _ R s=>s.heap.get? l=some { cls:=.type "list",dict:=none,data:=.seq items n,slots:=#[] }∧s.heap.get? b=some { cls:=.type "list",dict:=dd,data:=.seq items2 n2,slots:=sl }∧R (.ok (.ret Value.none)) { s with heap:=s.heap.update l (Obj.mapSeq fun x=>x++items2),toks:=s.toks }) :=
 .of_wp fun prog w A R s h=>by
  obtain ⟨hp,g,d,tk,os⟩:=s;obtain ⟨hl,hb,h⟩:=h;have f1:=idx_int;have f2:=sub_tuple_tuple;have f3:=sub_list_list;have f4:=sub_tuple_list;have f5:=sub_list_tuple;
  have hz':(items++items2).size≤sizeLine+1:=by rw [Array.size_append];exact hs2
  wp_walk using (wpAny_updateSeq hl rfl (hz:=hc1) (_hz':=hz')),wpAny_loadPart' hl,wpAny_loadPart' hb;exact ⟨_,rfl,h⟩
theorem ot (l:Addr) (items:Array Value) (n:Nat) (b:Addr) (items2:Array Value) (n2:Nat) (dd:Option Addr) (sl:Array (Option Value)) (hc0:¬(!items.isEmpty&&Builtin.List.listTooLong (items.size+items2.size))=true) (hc1:items.size≤sizeLine) (hs2:items.size+items2.size≤sizeLine+1) :
  Meets (Builtin.«list.extend» ⟨[.ref l,.ref b],[]⟩) (fun _ R s=>s.heap.get? l=some { cls:=.type "list",dict:=none,data:=.seq items n,slots:=#[] }∧s.heap.get? b=some { cls:=.type "tuple",dict:=dd,data:=.seq items2 n2,slots:=sl }∧R (.ok (.ret Value.none)) { s with heap:=s.heap.update l (Obj.mapSeq fun x=>x++items2),toks:=s.toks }) :=
 .of_wp fun prog w A R s h=>by
  obtain ⟨hp,g,d,tk,os⟩:=s;obtain ⟨hl,hb,h⟩:=h;have f1:=idx_int;have f2:=sub_tuple_tuple;have f3:=sub_list_list;have f4:=sub_tuple_list;have f5:=sub_list_tuple;
  have hz':(items++items2).size≤sizeLine+1:=by rw [Array.size_append];exact hs2
  wp_walk using (wpAny_updateSeq hl rfl (hz:=hc1) (_hz':=hz')),wpAny_loadPart' hl,wpAny_loadPart' hb;exact ⟨_,rfl,h⟩
end LX
namespace L2
open PySem PySem.Spec PyProof.Rows
section
variable {X:Cx}
def rExtendA (K:PySem.W.Frag):V→List V→Hp→VK→Prop:=fun x vs H Q=>∃ l b xs zs,x=.ref l∧vs=[.ref b]∧H l=some (.lst xs)∧(SqL K H b zs∨SqT K H b zs)∧xs.length+zs.length≤sizeLine∧Q .non (upd H l (.lst (xs++zs)))
theorem rL:MtM X "list.extend" (rExtendA X.K):=by
 intro pins s σ H x vs v us Q I rx rv h
 obtain ⟨l,b,xs,zs,rfl,rfl,hH,hB,hz,q⟩:=h
 cases rx
 obtain ⟨u,rfl,ru⟩:=rv.one
 cases ru
 obtain ⟨z,its,n,r,hl,e⟩:=I.lstM hH
 rcases hB with hB|hB
 ·obtain ⟨its2,r2,pl,hz2⟩:=I.list hB
  obtain ⟨⟨cls,dd,data,sl⟩,ho,hc,n2,hd⟩:=pl.isList
  simp only at hc hd
  subst hc hd
  have hl2:=r2.length
  have hsz:its.toArray.size+its2.toArray.size≤sizeLine:=by rw [List.size_toArray,List.size_toArray];omega
  have hlong:¬ (!its.toArray.isEmpty&&Builtin.List.listTooLong (its.toArray.size+its2.toArray.size))=true:=by
   rw [notLongL hsz,Bool.and_false]
   exact Bool.false_ne_true
  refine call_meets F.slot_list_extend ⟨_,e,rfl⟩ F.entry_list_extend (F.args_list_extend_2 _ _) (LX.extend_list l its.toArray n b its2.toArray n2 dd sl hlong (by rw [List.size_toArray];omega) (by omega)) ⟨e,ho,?_⟩
  refine ⟨.non,_,I.lset (its':=its++its2) hH e (by simp) (r.append r2) ?_,rfl,q⟩
  rw [List.length_append]
  omega
 ·obtain ⟨its2,r2,pl,hz2⟩:=I.tuple hB
  obtain ⟨⟨cls,dd,data,sl⟩,ho,hc,n2,hd⟩:=pl
  simp only at hc hd
  subst hc hd
  have hl2:=r2.length
  have hsz:its.toArray.size+its2.toArray.size≤sizeLine:=by rw [List.size_toArray,List.size_toArray];omega
  have hlong:¬ (!its.toArray.isEmpty&&Builtin.List.listTooLong (its.toArray.size+its2.toArray.size))=true:=by
   rw [notLongL hsz,Bool.and_false]
   exact Bool.false_ne_true
  refine call_meets F.slot_list_extend ⟨_,e,rfl⟩ F.entry_list_extend (F.args_list_extend_2 _ _) (LX.ot l its.toArray n b its2.toArray n2 dd sl hlong (by rw [List.size_toArray];omega) (by omega)) ⟨e,ho,?_⟩
  refine ⟨.non,_,I.lset (its':=its++its2) hH e (by simp) (r.append r2) ?_,rfl,q⟩
  rw [List.length_append]
  omega
end
section
variable {X:Cx} {W:Wd} {Ob O:List Nat} {e f:Expr} {ε φ ψ:FE} {pos p1 p2 apos cpos:Pos} {x:Str}
def seqOf (d:D):Option (List D):=match d with
 | .lst ys=>some ys
 | .tup ys=>some ys
 | _=>none
def jx (i:Nat) (ε:FE):FS:=fun δ=>match δ[i]? with
 | some (some (.lst xs))=>(ε δ).bind fun d=>match seqOf d with
  | some ys=>if xs.length+ys.length≤1000000 then .ok (.nx (δ.set i (some (.lst (xs++ys))))) else .no
  | none=>.no
 | _=>.no
theorem t7 {K:PySem.W.Frag} {H:Hp} {d:D} {ys:List D} {v:V} (h:Den K H d v) (e:seqOf d=some ys):∃ b zs,v=.ref b∧(SqL K H b zs∨SqT K H b zs)∧Dens K H ys zs:=by
 cases d with
 | lst xs=>cases e;obtain ⟨a,vs,rfl,h1,h2⟩:=h;exact ⟨a,vs,rfl,.inl h1,h2⟩
 | tup xs=>cases e;obtain ⟨a,vs,rfl,h1,h2⟩:=h;exact ⟨a,vs,rfl,.inr h1,h2⟩
 | _=>cases e
theorem vo {i:Nat} (hi:i∈O) (he:JE X e (tD W O ε)) (hN:X.N[i]?=some x:=by rfl) (hn:noStar e=true:=by rfl) (hline:(apos.endLine==cpos.line)=true:=by rfl) (hv:Vis X.env.scope x:=by first|exact Or.inl rfl|exact Or.inr (Or.inl rfl)|exact Or.inr (Or.inr rfl)) (hd:(x==("__debug__":Str))=false:=by decide)
  (hcd:(x==("__classdict__":Str))=false:=by decide) (hbase:attributeBase (.Name x p1) "extend" X.env (eval (.Name x p1) X.env)=eval (.Name x p1) X.env:=by rfl)
  (hs:swapsWith (.Call (.Attribute (.Name x p1) "extend" apos) [e] [] cpos) none pos.line X.env=pure false:=by rfl) (hW:W.K=X.K:=by rfl) :
  JS X (.Expr (.Call (.Attribute (.Name x p1) "extend" apos) [e] [] cpos) pos) (sD W Ob O O (jx i ε)) :=
 (uV (AX PySem.F.plainAttrs_list PySem.F.slot_list_extend PySem.F.type_list_extend rL (jv i hN hv hd hcd) (mE he qF hn) hbase hline (by rw [List.all_cons,hn];rfl) (by show 1 < 29;decide)) hs).imp fun D σ H hh=>exE hh fun as0 B own δ I h=>by
  obtain ⟨a,ha⟩:=jM I.olen hi
  obtain ⟨d,o,h1,h2,h3,h4⟩:=I.owns i a ha
  show kVar σ[i]? H (fun x H1=>tyV X.K "list" x H1∧tD W O ε σ H1 fun v H2=>rExtendA X.K x [v] H2 (fun _ H3=>D.nx σ H3))
  rw [h2]
  unfold jx at h
  rw [h1] at h
  cases d with
  | lst ds =>
   obtain ⟨xs,rfl,q⟩:=h4
   refine ⟨.inl ⟨rfl,xs,SqL.of h3⟩,as0,B,own,δ,I,eM I h fun y v H2 s2 d2 hq=>?_⟩
   cases ey:seqOf y with
   | none=>rw [ey] at hq;exact hq.elim
   | some ys =>
    rw [ey] at hq
    have hq:FitsS W as0 B Ob O (if ds.length+ys.length≤1000000 then .ok (.nx (δ.set i (some (.lst (ds++ys))))) else .no) D:=hq
    split at hq
    ·rename_i hl
     obtain ⟨b,zs,rfl,hb,hz⟩:=t7 d2 ey
     have hm:=million
     refine ⟨a,b,xs,zs,rfl,rfl,s2 _ _ h3,?_,?_,?_⟩
     ·rw [hW] at hb
      exact hb.imp (fun z=>(aC _ _).seq z) fun z=>(aC _ _).seqT z
     ·have:=q.len;have:=hz.len;omega
     ·exact hq own σ _ ((I.mono s2).mutate ha ⟨xs++zs,rfl,(q.mono (aW s2)).append hz⟩)
    ·exact hq.elim
  | _=>exact h.elim
end
section
variable {X:Cx} {W:Wd} {O:List Nat}
def bZ (z:Str) (ds:List D):R D:=match ds with
 | [.str y]=>if (y.length==0)=false∧z.length≤1000000 then .ok (.tup [.str (Txt.partition z y).1,.str (Txt.partition z y).2.1,.str (Txt.partition z y).2.2]) else .no
 | _=>.no
end
end L2
namespace L2
open PySem PySem.NumText
def dg (n:Nat):List Nat:=if h:n < 10 then [48+n] else dg (n/10)++[48+n % 10]
termination_by n
decreasing_by omega
theorem jQ {n:Nat} (h:n < 10):dg n=[48+n]:=by rw [dg,dif_pos h]
theorem vi {n:Nat} (h:¬ n < 10):dg n=dg (n/10)++[48+n % 10]:=by rw [dg,dif_neg h]
theorem lU:∀ {d:Nat},d < 10→(Nat.digitChar d).toNat=48+d:=by decide
theorem kN:∀ (n:Nat),(Nat.toDigits 10 n).map Char.toNat=dg n:=by
 intro n
 induction n using Nat.strongRecOn with
 | ind n ih =>
  by_cases h:n < 10
  ·rw [Nat.toDigits_of_lt_base h,jQ h,List.map_cons,List.map_nil,lU h]
  ·rw [Nat.toDigits_of_base_le (by decide) (by omega),vi h,List.map_append,ih (n/10) (by omega),List.map_cons,List.map_nil,lU (by omega)]
theorem xJ (n:Nat):(Str.ofString (toString ((n:Nat):Int))).cps.toList=dg n:=by
 rw [Str.ofString_eq_toList]
 show List.map Char.toNat (String.ofList (Nat.toDigits 10 n)).toList=_
 rw [String.toList_ofList,kN]
theorem x9 (n:Nat):(Str.ofString (toString (Int.negSucc n))).cps.toList=45::dg (n+1):=by
 rw [Str.ofString_eq_toList]
 show List.map Char.toNat ("-"++String.ofList (Nat.toDigits 10 (n+1))).toList=_
 rw [String.toList_append,List.map_append]
 show [45]++List.map Char.toNat (String.ofList (Nat.toDigits 10 (n+1))).toList=_
 rw [String.toList_ofList,kN]
 rfl
def figs (i:Int):List Nat:=if i < 0 then 45::dg i.natAbs else dg i.natAbs
theorem str_int (i:Int):(Str.ofString (toString i)).cps.toList=figs i:=by
 cases i with
 | ofNat n=>unfold figs;rw [if_neg (by simp)];exact xJ n
 | negSucc n=>unfold figs;rw [if_pos (Int.negSucc_lt_zero n)];exact x9 n
theorem w8:∀ {n c:Nat},c∈dg n→48≤c∧c≤57:=by
 intro n
 induction n using Nat.strongRecOn with
 | ind n ih =>
  intro c hc
  by_cases h:n < 10
  ·rw [jQ h] at hc;simp at hc;omega
  ·rw [vi h] at hc
   rcases List.mem_append.mp hc with z|z
   ·exact ih _ (by omega) z
   ·simp at z;omega
theorem wS:∀ (k n:Nat),n < 10 ^ (k+1)→(dg n).length≤k+1
 | 0,n,h=>by rw [jQ (by omega)];simp
 | k+1,n,h=>by
  by_cases q:n < 10
  ·rw [jQ q];simp
  ·rw [vi q]
   have:=wS k (n/10) (by rw [Nat.pow_succ] at h;omega)
   simp;omega
theorem vN {i:Int} {c:Nat} (h:c∈figs i):45≤c∧c≤57:=by
 unfold figs at h
 split at h
 ·rcases List.mem_cons.mp h with z|z
  ·omega
  ·have:=w8 z;omega
 ·have:=w8 h;omega
end L2
namespace L2
open PySem PySem.Spec PyProof.Rows
structure Nw (X:Cx) (pins:List (Addr×Obj)) (b:Addr):Prop where
 base:X.s₀.heap.get? b=none
 loc:b≠X.env.locals
 fs:b∉X.fs
 cell:∀ x c,X.env.cells.lookup x=some c→c≠b
 pin:∀ p∈X.pn++pins,p.1≠b
section
variable {X:Cx} {pins:List (Addr×Obj)} {σ:St} {H:Hp} {s:Shared}
def ExPn (X:Cx):Prop:=∀ b∈X.ex,∃ o,(b,o)∈X.pn
theorem ExPn.nil (h:X.ex=[]):ExPn X:=fun b z=>by rw [h] at z;cases z
end
section
variable {X:Cx} {pins:List (Addr×Obj)} {σ:St} {H:Hp} {s:Shared}
theorem Inv.track {y:Addr} {o:HO} (I:Inv X pins σ H s) (n:Nw X pins y) (hy:H y=none) (new:ObjOk X.prog X.w (upd H y o) s.heap y o):Inv X pins σ (upd H y o) s:=by
 have hs:Same H (upd H y o):=bg hy o
 refine ⟨I.ok,I.os,I.bare,⟨I.base.keep,I.base.slot,fun b ob e n0 hx=>?_,I.base.there,fun b xs e=>hs _ _ (I.base.tups b xs e),fun b ob u e=>hs _ _ (I.base.frzs b ob u e),fun b ps e=>?_⟩,I.loc,I.cell,?_,fun x c e=>?_,fun p hp=>?_,fun a u e=>?_,I.len,I.tk⟩
 ·have:b≠y:=fun z=>by rw [z,n.base] at e;cases e
  rw [a8 this];exact I.base.free b ob e n0 hx
 ·obtain ⟨more,q⟩:=I.base.tbls b ps e;exact ⟨more,hs _ _ q⟩
 ·rw [a8 (Ne.symm n.loc)];exact I.free
 ·rw [a8 (n.cell x c e)];exact I.freeC x c e
 ·obtain ⟨h1,h2,h3⟩:=I.pin p hp
  exact ⟨h1,by rw [a8 (n.pin p hp)];exact h2,h3⟩
 ·by_cases ha:a=y
  ·subst ha
   have e':u=o:=by unfold upd at e;rw [if_pos rfl] at e;exact (Option.some.inj e).symm
   rw [e'];exact new
  ·rw [a8 ha] at e
   exact (I.hok a u e).stay (fun _ _ _ q=>q) (fun b q=>hs _ _ q) fun b xs q=>hs _ _ q
end
end L2
namespace L2
open PySem PySem.Spec PySem.W PyProof.Rows
structure ExcC (K:Frag) (C:Addr):Prop where
 ga:findIn K (.ref C) "__getattribute__"=some (some (.builtin "BaseException.__getattribute__"))
 gh:findIn K (.ref C) "__getattr__"=some none
 cl:findIn K (.ref C) "__class__"=some (some (.builtin "object.__class__"))
 sp:specialIn K (.builtin "object.__class__") "__get__"=some (some (.builtin "getset_descriptor.__get__"))
 tk:takesIn K (.builtin "object.__class__")=some true
 ob:mroIn K C (.type "object")=some true
 be:mroIn K C (.type "BaseException")=some true
section
variable {prog:Program} {w:World} {A:Around} {E:Value→Shared→Prop} {s:Shared} {K:Frag} {x C:Addr} {ox:Obj}
theorem ExcC.cls (c:ExcC K C):∃ cd,clsIn K C=some cd:=by
 obtain ⟨cd,h,_⟩:=Option.bind_eq_some_iff.mp c.ob
 exact ⟨cd,h⟩
end
end L2
namespace L2
open PySem PySem.Spec PyProof.Rows
structure RoomU (k:Nat) (A:Around):Prop where
 dp:A.depth+3*k+5 < recursionLimit
 un:A.units+16*k+200 < cLine
theorem RoomU.depth {k:Nat} {A:Around} (r:RoomU k A):A.depth < recursionLimit:=by have:=r.dp;omega
theorem RoomU.units {k:Nat} {A:Around} (r:RoomU k A):A.units+64 < cLine:=by have:=r.un;omega
theorem Room.u {k:Nat} {A:Around} (r:Room k A) (e:Value):RoomU k (A.mark (some e)):=⟨r.dp,r.un⟩
end L2
namespace TS
open PySem PyProof.Rows
theorem ar {m q:Nat} (h:1≤m):m - (q+1)+m - 1 - (m - 1)≤m - 1:=by
 rw [Nat.add_sub_assoc h,Nat.add_sub_cancel]
 exact Nat.sub_le_sub_left (Nat.succ_le_succ (Nat.zero_le q)) m
local macro_rules|`(tactic|walk_at "ja")=>`(tactic|first|exact ar (by lia)|lia)
theorem bC {k x l r m:Nat} (h:r - l≤k - x) (hm:l≤m):r - (m+1)≤k - (x+1):=Nat.le_trans (Nat.sub_le_sub_left (Nat.add_le_add_right hm 1) r) (by rw [← Nat.sub_sub r l 1,← Nat.sub_sub k x 1];exact Nat.sub_le_sub_right h 1)
theorem bA {k x l r m:Nat} (h:r - l≤k - x) (hm:m < r):m - l≤k - (x+1):=Nat.le_trans (Nat.sub_le_sub_right (Nat.le_pred_of_lt hm) l) (by rw [Nat.pred_eq_sub_one,Nat.sub_right_comm,← Nat.sub_sub k x 1];exact Nat.sub_le_sub_right h 1)
local macro_rules|`(tactic|walk_at "jb")=>`(tactic|first|exact bC (by assumption) (by lia)|exact bA (by assumption) (by lia)|lia)
theorem bn {o t l:Nat} (h:l < o) (g:l≤t):t+1 - min o (t+1)≤t - l:=Nat.le_trans (Nat.sub_le_sub_left (Nat.le_min.mpr ⟨h,Nat.succ_le_succ g⟩) _) (Nat.le_of_eq (Nat.add_sub_add_right t 1 l))
local macro_rules|`(tactic|walk_at "jc")=>`(tactic|first|exact bn (by assumption) (by assumption)|lia)
def gallopP:Bool→Keyed→Array Keyed→Nat→Nat→Nat→StateT SortSt Sem (Option Nat):=sortPriv% PySem.Builtin.gallop
structure Orc (M:Model) (A:Around) (E:Value→Shared→Prop) (s:Shared) (blt:Keyed→Keyed→Bool) (k₀:SortKind) (In:Keyed→Prop):Prop where
 asymm:∀ x y,blt x y=true→blt y x=false
 trans:∀ x y z,blt y x=false→blt z y=false→blt z x=false
 ask:∀ (x y:Keyed) (st:SortSt) (Q:Option Bool→SortSt→Prop),In x→In y→kindOf st=k₀→Q (some (blt x y)) st→wpS M A E s (lt' x y) Q st
section
variable {M:Model} {A:Around} {E:Value→Shared→Prop} {s:Shared} {blt:Keyed→Keyed→Bool} {k₀:SortKind} {In:Keyed→Prop}
theorem Orc.lt_le (O:Orc M A E s blt k₀ In) {x y z:Keyed} (h1:blt y x=false) (h2:blt y z=true):blt x z=true:=by
 cases e:blt x z with
 | true=>rfl
 | false=>rw [O.trans z x y e h1] at h2;cases h2
theorem Orc.le_lt (O:Orc M A E s blt k₀ In) {x y z:Keyed} (h1:blt x y=true) (h2:blt z y=false):blt x z=true:=by
 cases e:blt x z with
 | true=>rfl
 | false=>rw [O.trans y z x h2 e] at h1;cases h1
theorem Orc.refl (O:Orc M A E s blt k₀ In) (x:Keyed):blt x x=false:=by
 cases e:blt x x with
 | false=>rfl
 | true=>rw [O.asymm x x e] at e;cases e
theorem aX {arr:Array Keyed} {i:Nat} {Q:Keyed→SortSt→Prop} {st:SortSt} (h:i < arr.size) (hq:Q arr[i] st):wpS M A E s (elem' arr i) Q st:=by
 rw [elem'_eq,getElem?_pos arr i h]
 exact wpS_pure hq
def bey (blt:Keyed→Keyed→Bool) (left:Bool) (key x:Keyed):Bool:=if left=true then blt x key else !(blt key x)
def Seg (blt:Keyed→Keyed→Bool) (arr:Array Keyed) (lo hi:Nat):Prop:=∀ i j (hi':i < arr.size) (hj:j < arr.size),lo≤i→i≤j→j < hi→blt arr[j] arr[i]=false
theorem wz (O:Orc M A E s blt k₀ In) {left:Bool} {key x y:Keyed} (h:blt y x=false) (hy:bey blt left key y=true):bey blt left key x=true:=by
 unfold bey at hy ⊢
 cases left with
 | true=>rw [if_pos rfl] at hy ⊢;exact O.lt_le h hy
 | false =>
  rw [if_neg Bool.false_ne_true] at hy ⊢
  have hy:blt key y=false:=by cases e:blt key y <;> rw [e] at hy <;> first|rfl|cases hy
  rw [O.trans x y key h hy];rfl
theorem nK (O:Orc M A E s blt k₀ In) {left:Bool} {key:Keyed} {arr:Array Keyed} {i:Nat} {Q:Option Bool→SortSt→Prop} {st:SortSt} (hi:i < arr.size) (hk:In key) (ha:∀ j (h:j < arr.size),In arr[j]) (hs:kindOf st=k₀) (hq:Q (some (bey blt left key arr[i])) st) :
  wpS M A E s (do let x ← elem' arr i;if left=true then lt' x key else do let r ← lt' key x;pure (r.map fun x=>!x)) Q st:=by
 refine wpS_bind (aX hi ?_)
 cases left with
 | true =>
  rw [if_pos rfl]
  exact O.ask _ _ _ _ (ha i hi) hk hs hq
 | false =>
  rw [if_neg Bool.false_ne_true]
  exact wpS_bind (O.ask _ _ _ _ hk (ha i hi) hs (wpS_pure hq))
theorem cK (O:Orc M A E s blt k₀ In) {left:Bool} {key:Keyed} {arr:Array Keyed} {base n hint:Nat} {Q:Option Nat→SortSt→Prop} {st:SortSt} (hb:base+n≤arr.size) (hh:hint < n) (hk:In key) (ha:∀ j (h:j < arr.size),In arr[j]) (hst:kindOf st=k₀) (hsg:Seg blt arr base (base+n))
  (hq:∀ k,k≤n→(∀ i (h:base+i < arr.size),i < k→bey blt left key arr[base+i]=true)→(∀ i (h:base+i < arr.size),k≤i→i < n→bey blt left key arr[base+i]=false)→Q (some k) st) :
  wpS M A E s (gallopP left key arr base n hint) Q st:=by
 have up:∀ i j (h1:base+i < arr.size) (h2:base+j < arr.size),i≤j→j < n→bey blt left key arr[base+j]=true→bey blt left key arr[base+i]=true:=fun i j h1 h2 hij hj h=>wz O (hsg _ _ h1 h2 (by walk_at "jc") (by walk_at "jc") (by walk_at "jc")) h
 have dn:∀ i j (h1:base+i < arr.size) (h2:base+j < arr.size),i≤j→j < n→bey blt left key arr[base+i]=false→bey blt left key arr[base+j]=false:=fun i j h1 h2 hij hj h=>by
  cases e:bey blt left key arr[base+j] with
  | false=>rfl
  | true=>rw [up i j h1 h2 hij hj e] at h;cases h
 -- the last search
 have last:∀ (lo hi:Nat),lo≤hi→hi≤n→(∀ i (h:base+i < arr.size),i < lo→bey blt left key arr[base+i]=true)→(∀ i (h:base+i < arr.size),hi≤i→i < n→bey blt left key arr[base+i]=false) →
   ∀ (f:Nat→Option (Option Nat)×Nat×Nat→StateT SortSt Sem (ForInStep (Option (Option Nat)×Nat×Nat))),
   (∀ (x lo hi:Nat) (R:ForInStep (Option (Option Nat)×Nat×Nat)→SortSt→Prop),hi≤n→(lo ≥ hi→R (.done (none,lo,hi)) st) →
    (∀ hm:base+(lo+(hi - lo)/2) < arr.size,lo < hi→bey blt left key arr[base+(lo+(hi - lo)/2)]=true→R (.yield (none,lo+(hi - lo)/2+1,hi)) st) →
    (∀ hm:base+(lo+(hi - lo)/2) < arr.size,lo < hi→bey blt left key arr[base+(lo+(hi - lo)/2)]=false→R (.yield (none,lo,lo+(hi - lo)/2)) st)→wpS M A E s (f x (none,lo,hi)) R st) →
   ∀ g:Option (Option Nat)×Nat×Nat→StateT SortSt Sem (Option Nat),(∀ lo hi,g (none,lo,hi)=pure (some hi))→wpS M A E s (forIn [0:n] (none,lo,hi) f >>= g) Q st:=by
  intro lo hi hlh hin hlo hhi f hf g hg
  refine wpS_bind (wpS_mono (wpS_forRange (I:=fun x c st'=>st'=st∧∃ lo hi,c=(none,lo,hi)∧lo≤hi∧hi≤n∧hi - lo≤n - x∧(∀ i (h:base+i < arr.size),i < lo→bey blt left key arr[base+i]=true)∧(∀ i (h:base+i < arr.size),hi≤i→i < n→bey blt left key arr[base+i]=false))
   (Q:=fun c st'=>st'=st∧∃ lo hi,c=(none,lo,hi)∧lo=hi∧hi≤n∧(∀ i (h:base+i < arr.size),i < lo→bey blt left key arr[base+i]=true)∧(∀ i (h:base+i < arr.size),hi≤i→i < n→bey blt left key arr[base+i]=false)) ?step ?fin ⟨rfl,lo,hi,rfl,hlh,hin,by walk_at "jc",hlo,hhi⟩) ?post)
  case fin =>
   rintro c st' ⟨rfl,lo,hi,rfl,h1,h2,h3,h4,h5⟩
   exact ⟨rfl,lo,hi,rfl,by walk_at "jc",h2,h4,h5⟩
  case post =>
   rintro c st' ⟨rfl,lo,hi,rfl,rfl,h2,h4,h5⟩
   rw [hg]
   exact wpS_pure (hq lo h2 h4 h5)
  case step =>
   rintro x c st' _ hx ⟨rfl,lo,hi,rfl,h1,h2,h3,h4,h5⟩
   refine hf x lo hi _ h2 (fun hge=>⟨rfl,lo,hi,rfl,by walk_at "jc",h2,h4,h5⟩) (fun hm hl e=>?_) fun hm hl e=>?_
   ·exact ⟨rfl,lo+(hi - lo)/2+1,hi,rfl,by walk_at "jc",h2,by walk_at "jc",fun i h hi'=>up i _ h hm (by walk_at "jc") (by walk_at "jc") e,h5⟩
   ·exact ⟨rfl,lo,lo+(hi - lo)/2,rfl,by walk_at "jc",by walk_at "jc",by walk_at "jc",h4,fun i h h1' h2'=>dn _ i hm h h1' h2' e⟩
 refine wpS_bind (nK O (i:=base+hint) (by walk_at "jc") hk ha hst ?_)
 dsimp only
 cases e:bey blt left key arr[base+hint] with
 | true =>
  rw [if_pos rfl]
  refine wpS_bind (wpS_mono (wpS_forRange (I:=fun x c st'=>st'=st∧∃ lastofs ofs,c=(none,lastofs,ofs)∧lastofs < ofs∧x+1≤ofs∧hint+lastofs < n∧(∀ h:base+(hint+lastofs) < arr.size,bey blt left key arr[base+(hint+lastofs)]=true))
   (Q:=fun c st'=>st'=st∧∃ lastofs ofs,c=(none,lastofs,ofs)∧lastofs < ofs∧hint+lastofs < n∧(∀ h:base+(hint+lastofs) < arr.size,bey blt left key arr[base+(hint+lastofs)]=true)∧(n - hint≤ofs∨∀ h:base+(hint+ofs) < arr.size,bey blt left key arr[base+(hint+ofs)]=false)) ?step ?fin ⟨rfl,0,1,rfl,by walk_at "jc",by walk_at "jc",by walk_at "jc",fun _=>e⟩) ?post)
  case fin =>
   rintro c st' ⟨rfl,l,o,rfl,h1,h2,h3,h4⟩
   exact ⟨rfl,l,o,rfl,h1,h3,h4,.inl (by walk_at "jc")⟩
  case step =>
   rintro x c st' _ hx ⟨rfl,l,o,rfl,h1,h2,h3,h4⟩
   dsimp only
   by_cases hge:o ≥ n - hint
   ·rw [if_pos hge]
    exact wpS_pure ⟨rfl,l,o,rfl,h1,h3,h4,.inl hge⟩
   ·rw [if_neg hge]
    have hm:base+(hint+o) < arr.size:=by walk_at "jc"
    refine wpS_bind (nK O hm hk ha hst ?_)
    cases e2:bey blt left key arr[base+(hint+o)] with
    | true =>
     simp only [Bool.not_true,Bool.false_eq_true,if_false]
     exact wpS_pure ⟨rfl,o,2*o+1,rfl,by walk_at "jc",by walk_at "jc",by walk_at "jc",fun _=>e2⟩
    | false =>
     simp only [Bool.not_false,if_true]
     exact wpS_pure ⟨rfl,l,o,rfl,h1,h3,h4,.inr fun _=>e2⟩
  case post =>
   rintro c st' ⟨rfl,l,o,rfl,h1,h3,h4,h5⟩
   dsimp only
   refine last (hint+l+1) (hint+min o (n - hint)) (by walk_at "jc") (by walk_at "jc") (fun i h hi=>up i (hint+l) h (by walk_at "jc") (by walk_at "jc") h3 (h4 (by walk_at "jc"))) (fun i h h1' h2'=>?_) _ ?hf _ ?hg
   case hf =>
    intro x lo hi R hin h1 h2 h3
    dsimp only
    by_cases hge:lo ≥ hi
    ·rw [if_pos hge];exact wpS_pure (h1 hge)
    ·rw [if_neg hge]
     have hm:base+(lo+(hi - lo)/2) < arr.size:=by walk_at "jc"
     refine wpS_bind (nK O hm hk ha hst ?_)
     cases e:bey blt left key arr[base+(lo+(hi - lo)/2)] with
     | true=>simp only [if_true];exact wpS_pure (h2 hm (by walk_at "jc") e)
     | false=>simp only [Bool.false_eq_true,if_false];exact wpS_pure (h3 hm (by walk_at "jc") e)
   case hg=>intro lo hi;rfl
   rcases h5 with h5|h5
   ·lia
   ·by_cases ho:o≤n - hint
    ·exact dn (hint+o) i (by walk_at "jc") h (by walk_at "jc") h2' (h5 (by walk_at "jc"))
    ·lia
 | false =>
  rw [if_neg Bool.false_ne_true]
  refine wpS_bind (wpS_mono (wpS_forRange (I:=fun x c st'=>st'=st∧∃ lastofs ofs,c=(none,lastofs,ofs)∧lastofs < ofs∧x+1≤ofs∧lastofs≤hint∧(∀ h:base+(hint - lastofs) < arr.size,bey blt left key arr[base+(hint - lastofs)]=false))
   (Q:=fun c st'=>st'=st∧∃ lastofs ofs,c=(none,lastofs,ofs)∧lastofs < ofs∧lastofs≤hint∧(∀ h:base+(hint - lastofs) < arr.size,bey blt left key arr[base+(hint - lastofs)]=false)∧(hint+1≤ofs∨∀ h:base+(hint - ofs) < arr.size,bey blt left key arr[base+(hint - ofs)]=true)) ?step2 ?fin2 ⟨rfl,0,1,rfl,by walk_at "jc",by walk_at "jc",by walk_at "jc",fun _=>e⟩) ?post2)
  case fin2 =>
   rintro c st' ⟨rfl,l,o,rfl,h1,h2,h3,h4⟩
   exact ⟨rfl,l,o,rfl,h1,h3,h4,.inl (by walk_at "jc")⟩
  case step2 =>
   rintro x c st' _ hx ⟨rfl,l,o,rfl,h1,h2,h3,h4⟩
   dsimp only
   by_cases hge:o ≥ hint+1
   ·rw [if_pos hge]
    exact wpS_pure ⟨rfl,l,o,rfl,h1,h3,h4,.inl hge⟩
   ·rw [if_neg hge]
    have hm:base+(hint - o) < arr.size:=by walk_at "jc"
    refine wpS_bind (nK O hm hk ha hst ?_)
    cases e2:bey blt left key arr[base+(hint - o)] with
    | true =>
     simp only [if_true]
     exact wpS_pure ⟨rfl,l,o,rfl,h1,h3,h4,.inr fun _=>e2⟩
    | false =>
     simp only [Bool.false_eq_true,if_false]
     exact wpS_pure ⟨rfl,o,2*o+1,rfl,by walk_at "jc",by walk_at "jc",by walk_at "jc",fun _=>e2⟩
  case post2 =>
   rintro c st' ⟨rfl,l,o,rfl,h1,h3,h4,h5⟩
   dsimp only
   refine last (hint+1 - min o (hint+1)) (hint - l) (by walk_at "jc") (by walk_at "jc") (fun i h hi=>?_) (fun i h h1' h2'=>dn (hint - l) i (by walk_at "jc") h h1' h2' (h4 (by walk_at "jc"))) _ ?hf2 _ ?hg2
   case hf2 =>
    intro x lo hi R hin h1 h2 h3
    dsimp only
    by_cases hge:lo ≥ hi
    ·rw [if_pos hge];exact wpS_pure (h1 hge)
    ·rw [if_neg hge]
     have hm:base+(lo+(hi - lo)/2) < arr.size:=by walk_at "jc"
     refine wpS_bind (nK O hm hk ha hst ?_)
     cases e:bey blt left key arr[base+(lo+(hi - lo)/2)] with
     | true=>simp only [if_true];exact wpS_pure (h2 hm (by walk_at "jc") e)
     | false=>simp only [Bool.false_eq_true,if_false];exact wpS_pure (h3 hm (by walk_at "jc") e)
   case hg2=>intro lo hi;rfl
   rcases h5 with h5|h5
   ·lia
   ·by_cases ho:o≤hint
    ·exact up i (hint - o) h (by walk_at "jc") (by walk_at "jc") (by walk_at "jc") (h5 (by walk_at "jc"))
    ·lia
end
structure MI (le:Keyed→Keyed→Prop) (tot o ra rb:List Keyed):Prop where
 perm:(o++(ra++rb)).Perm tot
 so:o.Pairwise le
 sa:ra.Pairwise le
 sb:rb.Pairwise le
 bel:∀ x∈o,∀ y,y∈ra∨y∈rb→le x y
def Res (le:Keyed→Keyed→Prop) (tot r:List Keyed):Prop:=r.Perm tot∧r.Pairwise le
section
variable {le:Keyed→Keyed→Prop} {tot o ra rb:List Keyed}
theorem uS {xs:List Keyed} (h:xs.Pairwise le) (k:Nat):(xs.take k).Pairwise le∧(xs.drop k).Pairwise le∧∀ x∈xs.take k,∀ y∈xs.drop k,le x y:=by
 have e:=List.take_append_drop k xs
 rw [← e,List.pairwise_append] at h
 exact h
theorem MI.takeA (h:MI le tot o ra rb) (k:Nat) (hk:∀ x∈ra.take k,∀ y∈rb,le x y):MI le tot (o++ra.take k) (ra.drop k) rb:=by
 obtain ⟨p1,p2,p3⟩:=uS h.sa k
 refine ⟨?_,?_,p2,h.sb,fun x hx y hy=>?_⟩
 ·refine List.Perm.trans ?_ h.perm
  rw [List.append_assoc,← List.append_assoc (ra.take k),List.take_append_drop]
 ·rw [List.pairwise_append]
  exact ⟨h.so,p1,fun x hx y hy=>h.bel x hx y (.inl (List.mem_of_mem_take hy))⟩
 ·rcases List.mem_append.mp hx with hx|hx
  ·exact h.bel x hx y (hy.imp List.mem_of_mem_drop id)
  ·rcases hy with hy|hy
   ·exact p3 x hx y hy
   ·exact hk x hx y hy
theorem MI.swap (h:MI le tot o ra rb):MI le tot o rb ra:=⟨(List.perm_append_comm.append_left o).trans h.perm,h.so,h.sb,h.sa,fun x hx y hy=>h.bel x hx y hy.symm⟩
theorem MI.takeB (h:MI le tot o ra rb) (k:Nat) (hk:∀ x∈rb.take k,∀ y∈ra,le x y):MI le tot (o++rb.take k) ra (rb.drop k):=(h.swap.takeA k hk).swap
theorem MI.join (h:MI le tot o ra rb) (hab:∀ x∈ra,∀ y∈rb,le x y):Res le tot (o++ra++rb):=by
 refine ⟨by rw [List.append_assoc];exact h.perm,?_⟩
 rw [List.append_assoc,List.pairwise_append,List.pairwise_append]
 exact ⟨h.so,⟨h.sa,h.sb,hab⟩,fun x hx y hy=>h.bel x hx y (List.mem_append.mp hy)⟩
end
theorem fg (a:Array Keyed) (i j:Nat):(a.extract i j).toList=(a.toList.drop i).take (j - i):=by
 rw [Array.toList_extract,List.extract_eq_drop_take]
theorem jR (a:Array Keyed) (i:Nat):(a.extract i a.size).toList=a.toList.drop i:=by
 rw [fg,List.take_of_length_le (by simp)]
theorem xj (a:Array Keyed) {i:Nat} (h:i < a.size):a.toList.drop i=a[i]::a.toList.drop (i+1):=by
 rw [List.drop_eq_getElem_cons (by simpa using h)];simp
theorem iU (a:Array Keyed) {i:Nat} (h:i < a.size):(a.toList.drop i).take 1=[a[i]]:=by rw [xj a h];rfl
theorem gE (a:Array Keyed) (i k:Nat):(a.toList.drop i).drop k=a.toList.drop (i+k):=by rw [List.drop_drop]
theorem bT {a:Array Keyed} {i:Nat} {x:Keyed} (h:x∈a.toList.drop i):∃ j,∃ hj:j < a.size,i≤j∧a[j]=x:=by
 obtain ⟨j,hj,e⟩:=List.getElem_of_mem h
 rw [List.length_drop,Array.length_toList] at hj
 refine ⟨i+j,by omega,by omega,?_⟩
 rw [← e,List.getElem_drop];simp
theorem fh {a:Array Keyed} {i k:Nat} {x:Keyed} (h:x∈(a.toList.drop i).take k):∃ j,∃ hj:j < a.size,i≤j∧j < i+k∧a[j]=x:=by
 obtain ⟨j,hj,e⟩:=List.getElem_of_mem h
 rw [List.length_take,List.length_drop,Array.length_toList] at hj
 refine ⟨i+j,by omega,by omega,by omega,?_⟩
 rw [← e,List.getElem_take,List.getElem_drop];simp
theorem qQ {blt:Keyed→Keyed→Bool} {a:Array Keyed} (h:Seg blt a 0 a.size):a.toList.Pairwise fun x y=>blt y x=false:=by
 rw [List.pairwise_iff_getElem]
 intro i j hi hj hij
 rw [Array.length_toList] at hi hj
 simpa using h i j hi hj (by omega) (by omega) hj
def mergeLoP:Array Keyed→Array Keyed→StateT SortSt Sem (Array Keyed):=sortPriv% PySem.Builtin.mergeLo
def mergeHiP:Array Keyed→Array Keyed→StateT SortSt Sem (Array Keyed):=sortPriv% PySem.Builtin.mergeHi
structure SG (st st':SortSt):Prop where
 kind:kindOf st'=kindOf st
 arr:arrOf st'=arrOf st
 pend:pendingOf st'=pendingOf st
 failed:failedOf st'=failedOf st
theorem SG.refl (st:SortSt):SG st st:=⟨rfl,rfl,rfl,rfl⟩
theorem SG.gal {st st':SortSt} (h:SG st st') (g:Nat):SG st (SortSt.mk' (kindOf st') (arrOf st') (pendingOf st') g (failedOf st')):=⟨h.kind,h.arr,h.pend,h.failed⟩
section
variable {M:Model} {A:Around} {E:Value→Shared→Prop} {s:Shared} {blt:Keyed→Keyed→Bool} {k₀:SortKind} {In:Keyed→Prop}
abbrev leB (blt:Keyed→Keyed→Bool):Keyed→Keyed→Prop:=fun x y=>blt y x=false
theorem join_list (out x y:Array Keyed):(out++x++y).toList=out.toList++x.toList++y.toList:=by simp
section
variable {a b:Array Keyed}
theorem pushB {out:Array Keyed} {ia ib:Nat} {tot:List Keyed} (h:MI (leB blt) tot out.toList (a.toList.drop ia) (b.toList.drop ib)) (hb:ib < b.size) (hx:∀ j (hj:j < a.size),ia≤j→blt a[j] b[ib]=false) :
  MI (leB blt) tot (out.push b[ib]).toList (a.toList.drop ia) (b.toList.drop (ib+1)):=by
 have:=h.takeB 1 (fun x hx' y hy=>by
  rw [iU b hb] at hx'
  obtain ⟨j,hj,hij,rfl⟩:=bT hy
  rw [List.mem_singleton.mp hx']
  exact hx j hj hij)
 rw [iU b hb,gE] at this
 simpa using this
theorem pushA {out:Array Keyed} {ia ib:Nat} {tot:List Keyed} (h:MI (leB blt) tot out.toList (a.toList.drop ia) (b.toList.drop ib)) (ha:ia < a.size) (hx:∀ j (hj:j < b.size),ib≤j→blt b[j] a[ia]=false) :
  MI (leB blt) tot (out.push a[ia]).toList (a.toList.drop (ia+1)) (b.toList.drop ib):=by
 have:=h.takeA 1 (fun x hx' y hy=>by
  rw [iU a ha] at hx'
  obtain ⟨j,hj,hij,rfl⟩:=bT hy
  rw [List.mem_singleton.mp hx']
  exact hx j hj hij)
 rw [iU a ha,gE] at this
 simpa using this
theorem chunkA {out:Array Keyed} {ia ib k:Nat} {tot:List Keyed} (h:MI (leB blt) tot out.toList (a.toList.drop ia) (b.toList.drop ib)) (hx:∀ i (hi:i < a.size) j (hj:j < b.size),ia≤i→i < ia+k→ib≤j→blt b[j] a[i]=false) :
  MI (leB blt) tot (out++a.extract ia (ia+k)).toList (a.toList.drop (ia+k)) (b.toList.drop ib):=by
 have:=h.takeA k (fun x hx' y hy=>by
  obtain ⟨i,hi,h1,h2,rfl⟩:=fh hx'
  obtain ⟨j,hj,h3,rfl⟩:=bT hy
  exact hx i hi j hj h1 h2 h3)
 rw [gE] at this
 rw [Array.toList_append,fg,show ia+k - ia=k by lia]
 exact this
theorem chunkB {out:Array Keyed} {ia ib k:Nat} {tot:List Keyed} (h:MI (leB blt) tot out.toList (a.toList.drop ia) (b.toList.drop ib)) (hx:∀ i (hi:i < b.size) j (hj:j < a.size),ib≤i→i < ib+k→ia≤j→blt a[j] b[i]=false) :
  MI (leB blt) tot (out++b.extract ib (ib+k)).toList (a.toList.drop ia) (b.toList.drop (ib+k)):=by
 have:=h.takeB k (fun x hx' y hy=>by
  obtain ⟨i,hi,h1,h2,rfl⟩:=fh hx'
  obtain ⟨j,hj,h3,rfl⟩:=bT hy
  exact hx i hi j hj h1 h2 h3)
 rw [gE] at this
 rw [Array.toList_append,fg,show ib+k - ib=k by lia]
 exact this
end
theorem aA {α:Type} {c:Prop} [Decidable c] {x y:StateT SortSt Sem α} {Q:α→SortSt→Prop} {st:SortSt} (h1:c→wpS M A E s x Q st) (h2:¬ c→wpS M A E s y Q st):wpS M A E s (if c then x else y) Q st:=by
 by_cases h:c
 ·rw [if_pos h];exact h1 h
 ·rw [if_neg h];exact h2 h
theorem qW {key x:Keyed} {r:Bool} (h:bey blt false key x=r):blt key x=!r:=by
 unfold bey at h
 rw [if_neg Bool.false_ne_true] at h
 rw [← h,Bool.not_not]
theorem ln {key x:Keyed} {r:Bool} (h:bey blt true key x=r):blt x key=r:=by
 unfold bey at h
 rw [if_pos rfl] at h
 exact h
theorem sd (O:Orc M A E s blt k₀ In) {a b:Array Keyed} {Q:Array Keyed→SortSt→Prop} {st:SortSt} (hst:kindOf st=k₀) (hA:∀ j (h:j < a.size),In a[j]) (hB:∀ j (h:j < b.size),In b[j]) (sa:Seg blt a 0 a.size) (sb:Seg blt b 0 b.size)
  (ha:0 < a.size) (hb:0 < b.size) (h0:blt b[0] a[0]=true) (hlast:∀ j (h:j < b.size),blt b[j] a[a.size - 1]=true)
  (hq:∀ (r:Array Keyed) st',SG st st'→Res (leB blt) (a.toList++b.toList) r.toList→Q r st'):wpS M A E s (mergeLoP a b) Q st:=by
 have fin1:∀ (out:Array Keyed) (ia ib:Nat),MI (leB blt) (a.toList++b.toList) out.toList (a.toList.drop ia) (b.toList.drop ib)→(ib=b.size∨ia=a.size)→Res (leB blt) (a.toList++b.toList) (out++a.extract ia a.size++b.extract ib b.size).toList:=by
  intro out ia ib h he
  rw [join_list,jR,jR]
  refine h.join fun x hx y hy=>?_
  obtain ⟨i,hi,h1,_⟩:=bT hx
  obtain ⟨j,hj,h2,_⟩:=bT hy
  lia
 have fin2:∀ (out:Array Keyed) (ia ib:Nat),MI (leB blt) (a.toList++b.toList) out.toList (a.toList.drop ia) (b.toList.drop ib)→ia+1=a.size→Res (leB blt) (a.toList++b.toList) (out++b.extract ib b.size++a.extract ia a.size).toList:=by
  intro out ia ib h he
  rw [join_list,jR,jR]
  refine h.swap.join fun x hx y hy=>?_
  obtain ⟨i,hi,h1,rfl⟩:=bT hx
  obtain ⟨j,hj,h2,rfl⟩:=bT hy
  have:j=a.size - 1:=by lia
  subst this
  exact O.asymm _ _ (hlast i hi)
 have mi0:MI (leB blt) (a.toList++b.toList) (#[b[0]]:Array Keyed).toList (a.toList.drop 0) (b.toList.drop (0+1)):=by
  have z:MI (leB blt) (a.toList++b.toList) (#[]:Array Keyed).toList (a.toList.drop 0) (b.toList.drop 0):=⟨List.Perm.refl _,List.Pairwise.nil,qQ sa,qQ sb,fun x hx=>by cases hx⟩
  have:=pushB z hb (fun j hj _=>O.asymm _ _ (O.le_lt h0 (sa 0 j ha hj (by lia) (by lia) hj)))
  simpa using this
 refine wpS_bind (wpS_lift (wpAny_rule ⟨rfl,?_⟩))
 dsimp only
 refine wpS_bind (aX hb ?_)
 by_cases hb1:1=b.size
 ·rw [if_pos (by simpa using hb1)]
  exact wpS_pure (hq _ _ (SG.refl st) (fin1 _ _ _ mi0 (.inl hb1)))
 rw [if_neg (by simpa using hb1)]
 by_cases ha1:0+1=a.size
 ·rw [if_pos (by simpa using ha1)]
  exact wpS_pure (hq _ _ (SG.refl st) (fin2 _ _ _ mi0 ha1))
 rw [if_neg (by simpa using ha1)]
 refine wpS_bind (wpS_get ?_)
 refine wpS_bind (wpS_mono (wpS_forRange (I:=fun x c st'=>SG st st'∧∃ out ia ib mg,c=(none,out,ia,ib,mg)∧MI (leB blt) (a.toList++b.toList) out.toList (a.toList.drop ia) (b.toList.drop ib)∧ia+1 < a.size∧ib < b.size∧x≤ia+ib)
  (Q:=fun c st'=>SG st st'∧∃ r rest,c=(some r,rest)∧Res (leB blt) (a.toList++b.toList) r.toList) ?step ?fin ⟨SG.refl st,_,0,1,_,rfl,mi0,by lia,by lia,by lia⟩) ?post)
 case post =>
  rintro c st' ⟨hg,r,rest,rfl,hr⟩
  exact wpS_pure (hq r st' hg hr)
 case fin =>
  rintro c st' ⟨hg,out,ia,ib,mg,rfl,hm,h1,h2,h3⟩
  lia
 case step =>
  rintro x c st1 _ hx ⟨hg,out,ia,ib,mg,rfl,hm,h1,h2,h3⟩
  dsimp only
  refine wpS_bind (wpS_mono (wpS_forRange (I:=fun y c st'=>SG st st'∧∃ out ia' ib' ac bc,c=(none,out,ia',ib',ac,bc)∧MI (leB blt) (a.toList++b.toList) out.toList (a.toList.drop ia') (b.toList.drop ib')∧ia'+1 < a.size∧ib' < b.size∧ia+ib+y≤ia'+ib')
   (Q:=fun c st'=>SG st st'∧((∃ r rest,c=(some r,rest)∧Res (leB blt) (a.toList++b.toList) r.toList)∨∃ out ia' ib' ac bc,c=(none,out,ia',ib',ac,bc)∧MI (leB blt) (a.toList++b.toList) out.toList (a.toList.drop ia') (b.toList.drop ib')∧ia'+1 < a.size∧ib' < b.size∧ia+ib+1≤ia'+ib')) ?step1 ?fin1 ⟨hg,out,ia,ib,0,0,rfl,hm,h1,h2,by lia⟩) ?post1)
  case fin1 =>
   rintro c st' ⟨hg,out,ia',ib',ac,bc,rfl,hm,h1,h2,h3⟩
   lia
  case step1 =>
   rintro y c st2 _ hy ⟨hg,out,ia',ib',ac,bc,rfl,hm,h1,h2,h3⟩
   dsimp only
   refine wpS_bind (aX h2 (wpS_bind (aX (show ia' < a.size by lia) ?_)))
   refine wpS_bind (O.ask _ _ _ _ (hB _ _) (hA _ _) (hg.kind.trans hst) ?_)
   dsimp only
   cases e:blt b[ib'] a[ia'] with
   | true =>
    rw [if_pos rfl]
    refine wpS_bind (aX h2 ?_)
    have hm':=pushB hm h2 (fun j hj hij=>O.asymm _ _ (O.le_lt e (sa ia' j (by lia) hj (by lia) hij hj)))
    by_cases hbe:ib'+1=b.size
    ·rw [if_pos (by simpa using hbe)]
     exact wpS_pure ⟨hg,.inl ⟨_,_,rfl,fin1 _ _ _ hm' (.inl hbe)⟩⟩
    ·rw [if_neg (by simpa using hbe)]
     split
     ·exact wpS_pure ⟨hg,.inr ⟨_,_,_,_,_,rfl,hm',h1,by lia,by lia⟩⟩
     ·exact wpS_pure ⟨hg,_,_,_,_,_,rfl,hm',h1,by lia,by lia⟩
   | false =>
    rw [if_neg Bool.false_ne_true]
    refine wpS_bind (aX (show ia' < a.size by lia) ?_)
    have hm':=pushA hm (show ia' < a.size by lia) (fun j hj hij=>O.trans _ _ _ e (sb ib' j h2 hj (by lia) hij hj))
    by_cases hae:ia'+1+1=a.size
    ·rw [if_pos (by simpa using hae)]
     exact wpS_pure ⟨hg,.inl ⟨_,_,rfl,fin2 _ _ _ hm' hae⟩⟩
    ·rw [if_neg (by simpa using hae)]
     split
     ·exact wpS_pure ⟨hg,.inr ⟨_,_,_,_,_,rfl,hm',by lia,h2,by lia⟩⟩
     ·exact wpS_pure ⟨hg,_,_,_,_,_,rfl,hm',by lia,h2,by lia⟩
  case post1 =>
   rintro c st2 ⟨hg,h⟩
   rcases h with ⟨r,rest,rfl,hr⟩|⟨out,ia',ib',ac,bc,rfl,hm,h1,h2,h4⟩
   ·exact wpS_pure ⟨hg,r,_,rfl,hr⟩
   dsimp only
   refine wpS_bind (wpS_lift (wpAny_rule ⟨rfl,?_⟩))
   refine wpS_bind (wpS_mono (wpS_forRange (I:=fun y c st'=>SG st st'∧∃ out ia2 ib2 mg ac bc,c=(none,out,ia2,ib2,mg,ac,bc)∧MI (leB blt) (a.toList++b.toList) out.toList (a.toList.drop ia2) (b.toList.drop ib2)∧ia2+1 < a.size∧ib2 < b.size∧ia'+ib'+y≤ia2+ib2)
    (Q:=fun c st'=>SG st st'∧((∃ r rest,c=(some r,rest)∧Res (leB blt) (a.toList++b.toList) r.toList)∨∃ out ia2 ib2 mg ac bc,c=(none,out,ia2,ib2,mg,ac,bc)∧MI (leB blt) (a.toList++b.toList) out.toList (a.toList.drop ia2) (b.toList.drop ib2)∧ia2+1 < a.size∧ib2 < b.size∧ia'+ib'≤ia2+ib2)) ?step2 ?fin2 ⟨hg,out,ia',ib',_,ac,bc,rfl,hm,h1,h2,by lia⟩) ?post2)
   case fin2 =>
    rintro c st' ⟨hg,out,ia2,ib2,mg,ac,bc,rfl,hm,h1,h2,h3⟩
    lia
   case post2 =>
    rintro c st3 ⟨hg,h⟩
    rcases h with ⟨r,rest,rfl,hr⟩|⟨out,ia2,ib2,mg,ac,bc,rfl,hm,h1,h2,h5⟩
    ·exact wpS_pure ⟨hg,r,_,rfl,hr⟩
    ·dsimp only
     exact wpS_bind (wpS_modify (wpS_pure ⟨hg.gal _,out,ia2,ib2,_,rfl,hm,h1,h2,by lia⟩))
   case step2 =>
    rintro y c st3 _ hy ⟨hg,out,ia2,ib2,mg,ac,bc,rfl,hm,h1,h2,h5⟩
    refine aA (fun _=>?_) (fun _=>?_)
    all_goals
     refine wpS_bind (wpS_modify ?_)
     refine wpS_bind (aX h2 ?_)
     refine wpS_bind (cK O (base:=ia2) (n:=a.size - ia2) (hint:=0) (by lia) (by lia) (hB _ _) hA ((hg.gal _).kind.trans hst) (fun i j hi hj p1 p2 p3=>sa i j hi hj (by lia) p2 hj) fun k hk u1 u2=>?_)
     have hm1:=chunkA (k:=k) hm (fun i hi j hj p1 p2 p3=>O.trans _ _ _ (qW (by have:=u1 (i - ia2) (by lia) (by lia);simpa only [show ia2+(i - ia2)=i by lia] using this)) (sb ib2 j h2 hj (by lia) p3 hj))
     have u3:∀ j (hj:j < a.size),ia2+k≤j→blt b[ib2] a[j]=true:=fun j hj hij=>qW (by have:=u2 (j - ia2) (by lia) (by lia) (by lia);simpa only [show ia2+(j - ia2)=j by lia] using this)
     refine aA (fun hk0=>?_) (fun hk0=>?_)
     ·refine aA (fun hc=>wpS_pure ⟨hg.gal _,.inl ⟨_,_,rfl,fin2 _ _ _ hm1 (by simpa using hc)⟩⟩) (fun hc=>?_)
      refine aA (fun hd=>wpS_pure ⟨hg.gal _,.inl ⟨_,_,rfl,fin1 _ _ _ hm1 (.inr (by simpa using hd))⟩⟩) (fun hd=>?_)
      have hc:ia2+k+1≠a.size:=by simpa using hc
      have hd:ia2+k≠a.size:=by simpa using hd
      have hm3:=hm1
      have u4:=u3
      have h3a:ia2+k < a.size:=by lia
      refine wpS_bind (aX h2 ?_)
      have hm4:=pushB hm3 h2 (fun j hj hij=>O.asymm _ _ (u4 j hj hij))
      refine aA (fun hc=>wpS_pure ⟨hg.gal _,.inl ⟨_,_,rfl,fin1 _ _ _ hm4 (.inl (by simpa using hc))⟩⟩) (fun hc=>?_)
      have hc:ib2+1≠b.size:=by simpa using hc
      refine wpS_bind (aX h3a ?_)
      refine wpS_bind (cK O (base:=ib2+1) (n:=b.size - (ib2+1)) (hint:=0) (by lia) (by lia) (hA _ _) hB ((hg.gal _).kind.trans hst) (fun i j hi hj p1 p2 p3=>sb i j hi hj (by lia) p2 hj) fun k2 hk2 v1 v2=>?_)
      have hm5:=chunkB (k:=k2) hm4 (fun i hi j hj p1 p2 p3=>O.asymm _ _ (O.le_lt (ln (by have:=v1 (i - (ib2+1)) (by lia) (by lia);simpa only [show ib2+1+(i - (ib2+1))=i by lia] using this)) (sa _ j h3a hj (by lia) p3 hj)))
      have v3:∀ j (hj:j < b.size),ib2+1+k2≤j→blt b[j] (a[ia2+k]'h3a)=false:=fun j hj hij=>ln (by have:=v2 (j - (ib2+1)) (by lia) (by lia) (by lia);simpa only [show ib2+1+(j - (ib2+1))=j by lia] using this)
      refine aA (fun hk1=>?_) (fun hk1=>?_)
      ·refine aA (fun hd=>wpS_pure ⟨hg.gal _,.inl ⟨_,_,rfl,fin1 _ _ _ hm5 (.inl (by simpa using hd))⟩⟩) (fun hd=>?_)
       have hd:ib2+1+k2≠b.size:=by simpa using hd
       refine wpS_bind (aX h3a ?_)
       have hm6:=pushA hm5 h3a v3
       refine aA (fun he=>wpS_pure ⟨hg.gal _,.inl ⟨_,_,rfl,fin2 _ _ _ hm6 (by simpa using he)⟩⟩) (fun he=>?_)
       have he:(ia2+k)+1+1≠a.size:=by simpa using he
       exact aA (fun hf=>wpS_pure ⟨hg.gal _,.inr ⟨_,(ia2+k)+1,(ib2+1+k2),_,_,_,rfl,hm6,by lia,by lia,by lia⟩⟩) (fun hf=>wpS_pure ⟨hg.gal _,_,(ia2+k)+1,(ib2+1+k2),_,_,_,rfl,hm6,by lia,by lia,by lia⟩)
      ·refine wpS_bind (aX h3a ?_)
       have hm6:=pushA hm4 h3a (fun j hj hij=>v3 j hj (by lia))
       refine aA (fun he=>wpS_pure ⟨hg.gal _,.inl ⟨_,_,rfl,fin2 _ _ _ hm6 (by simpa using he)⟩⟩) (fun he=>?_)
       have he:(ia2+k)+1+1≠a.size:=by simpa using he
       exact aA (fun hf=>wpS_pure ⟨hg.gal _,.inr ⟨_,(ia2+k)+1,(ib2+1),_,_,_,rfl,hm6,by lia,by lia,by lia⟩⟩) (fun hf=>wpS_pure ⟨hg.gal _,_,(ia2+k)+1,(ib2+1),_,_,_,rfl,hm6,by lia,by lia,by lia⟩)
     ·have hm3:=hm
      have u4:∀ j (hj:j < a.size),ia2≤j→blt b[ib2] a[j]=true:=fun j hj hij=>u3 j hj (by lia)
      have h3a:ia2 < a.size:=by lia
      refine wpS_bind (aX h2 ?_)
      have hm4:=pushB hm3 h2 (fun j hj hij=>O.asymm _ _ (u4 j hj hij))
      refine aA (fun hc=>wpS_pure ⟨hg.gal _,.inl ⟨_,_,rfl,fin1 _ _ _ hm4 (.inl (by simpa using hc))⟩⟩) (fun hc=>?_)
      have hc:ib2+1≠b.size:=by simpa using hc
      refine wpS_bind (aX h3a ?_)
      refine wpS_bind (cK O (base:=ib2+1) (n:=b.size - (ib2+1)) (hint:=0) (by lia) (by lia) (hA _ _) hB ((hg.gal _).kind.trans hst) (fun i j hi hj p1 p2 p3=>sb i j hi hj (by lia) p2 hj) fun k2 hk2 v1 v2=>?_)
      have hm5:=chunkB (k:=k2) hm4 (fun i hi j hj p1 p2 p3=>O.asymm _ _ (O.le_lt (ln (by have:=v1 (i - (ib2+1)) (by lia) (by lia);simpa only [show ib2+1+(i - (ib2+1))=i by lia] using this)) (sa _ j h3a hj (by lia) p3 hj)))
      have v3:∀ j (hj:j < b.size),ib2+1+k2≤j→blt b[j] (a[ia2]'h3a)=false:=fun j hj hij=>ln (by have:=v2 (j - (ib2+1)) (by lia) (by lia) (by lia);simpa only [show ib2+1+(j - (ib2+1))=j by lia] using this)
      refine aA (fun hk1=>?_) (fun hk1=>?_)
      ·refine aA (fun hd=>wpS_pure ⟨hg.gal _,.inl ⟨_,_,rfl,fin1 _ _ _ hm5 (.inl (by simpa using hd))⟩⟩) (fun hd=>?_)
       have hd:ib2+1+k2≠b.size:=by simpa using hd
       refine wpS_bind (aX h3a ?_)
       have hm6:=pushA hm5 h3a v3
       refine aA (fun he=>wpS_pure ⟨hg.gal _,.inl ⟨_,_,rfl,fin2 _ _ _ hm6 (by simpa using he)⟩⟩) (fun he=>?_)
       have he:ia2+1+1≠a.size:=by simpa using he
       exact aA (fun hf=>wpS_pure ⟨hg.gal _,.inr ⟨_,ia2+1,(ib2+1+k2),_,_,_,rfl,hm6,by lia,by lia,by lia⟩⟩) (fun hf=>wpS_pure ⟨hg.gal _,_,ia2+1,(ib2+1+k2),_,_,_,rfl,hm6,by lia,by lia,by lia⟩)
      ·refine wpS_bind (aX h3a ?_)
       have hm6:=pushA hm4 h3a (fun j hj hij=>v3 j hj (by lia))
       refine aA (fun he=>wpS_pure ⟨hg.gal _,.inl ⟨_,_,rfl,fin2 _ _ _ hm6 (by simpa using he)⟩⟩) (fun he=>?_)
       have he:ia2+1+1≠a.size:=by simpa using he
       exact aA (fun hf=>wpS_pure ⟨hg.gal _,.inr ⟨_,ia2+1,(ib2+1),_,_,_,rfl,hm6,by lia,by lia,by lia⟩⟩) (fun hf=>wpS_pure ⟨hg.gal _,_,ia2+1,(ib2+1),_,_,_,rfl,hm6,by lia,by lia,by lia⟩)
end
structure MJ (le:Keyed→Keyed→Prop) (tot o ra rb:List Keyed):Prop where
 perm:(ra++rb++o).Perm tot
 so:o.Pairwise le
 sa:ra.Pairwise le
 sb:rb.Pairwise le
 bel:∀ y∈o,∀ x,x∈ra∨x∈rb→le x y
section
variable {le:Keyed→Keyed→Prop} {tot o ra rb:List Keyed}
theorem MJ.swap (h:MJ le tot o ra rb):MJ le tot o rb ra:=⟨(List.perm_append_comm.append_right o).trans h.perm,h.so,h.sb,h.sa,fun x hx y hy=>h.bel x hx y hy.symm⟩
theorem MJ.takeA (h:MJ le tot o ra rb) (k:Nat) (hk:∀ x∈ra.drop k,∀ y∈rb,le y x):MJ le tot (ra.drop k++o) (ra.take k) rb:=by
 obtain ⟨p1,p2,p3⟩:=uS h.sa k
 refine ⟨?_,?_,p1,h.sb,fun y hy x hx=>?_⟩
 ·refine List.Perm.trans ?_ h.perm
  rw [List.append_assoc,List.append_assoc ra]
  have e:ra++(rb++o)=ra.take k++(ra.drop k++(rb++o)):=by rw [← List.append_assoc (ra.take k),List.take_append_drop]
  rw [e,← List.append_assoc rb,← List.append_assoc (ra.drop k)]
  exact ((List.perm_append_comm.append_right o)).append_left _
 ·rw [List.pairwise_append]
  exact ⟨p2,h.so,fun x hx y hy=>h.bel y hy x (.inl (List.mem_of_mem_drop hx))⟩
 ·rcases List.mem_append.mp hy with hy|hy
  ·rcases hx with hx|hx
   ·exact p3 x hx y hy
   ·exact hk y hy x hx
  ·exact h.bel y hy x (hx.imp List.mem_of_mem_take id)
theorem MJ.takeB (h:MJ le tot o ra rb) (k:Nat) (hk:∀ x∈rb.drop k,∀ y∈ra,le y x):MJ le tot (rb.drop k++o) ra (rb.take k):=(h.swap.takeA k hk).swap
theorem MJ.join (h:MJ le tot o ra rb) (hab:∀ x∈ra,∀ y∈rb,le x y):Res le tot (ra++rb++o):=by
 refine ⟨h.perm,?_⟩
 rw [List.pairwise_append,List.pairwise_append]
 exact ⟨⟨h.sa,h.sb,hab⟩,h.so,fun x hx y hy=>h.bel y hy x (List.mem_append.mp hx)⟩
end
theorem iY (a:Array Keyed) (n:Nat):(a.extract 0 n).toList=a.toList.take n:=by
 rw [fg,List.drop_zero,Nat.sub_zero]
theorem cJ {a:Array Keyed} {n:Nat} {x:Keyed} (h:x∈a.toList.take n):∃ j,∃ hj:j < a.size,j < n∧a[j]=x:=by
 obtain ⟨j,hj,h1,h2,e⟩:=fh (i:=0) (k:=n) (by rw [List.drop_zero];exact h)
 exact ⟨j,hj,by lia,e⟩
theorem mem_mid {a:Array Keyed} {n k:Nat} {x:Keyed} (h:x∈(a.toList.take n).drop k):∃ j,∃ hj:j < a.size,k≤j∧j < n∧a[j]=x:=by
 obtain ⟨j,hj,e⟩:=List.getElem_of_mem h
 rw [List.length_drop,List.length_take,Array.length_toList] at hj
 refine ⟨k+j,by lia,by lia,by lia,?_⟩
 rw [← e,List.getElem_drop,List.getElem_take];simp
theorem qo (a:Array Keyed) (i j:Nat):(a.extract i j).toList=(a.toList.take j).drop i:=by
 rw [fg,List.drop_take]
theorem jT (a:Array Keyed) {n:Nat} (h:n < a.size):(a.toList.take (n+1)).drop n=[a[n]]:=by
 rw [List.drop_take,show n+1 - n=1 by lia,iU a h]
theorem gO (a:Array Keyed) {n k:Nat} (h:k≤n):(a.toList.take n).take k=a.toList.take k:=by rw [List.take_take,show min k n=k by lia]
section
variable {M:Model} {A:Around} {E:Value→Shared→Prop} {s:Shared} {blt:Keyed→Keyed→Bool} {k₀:SortKind} {In:Keyed→Prop} {a b:Array Keyed}
theorem hPushA {out:Array Keyed} {na nb:Nat} {tot:List Keyed} (h:MJ (leB blt) tot out.toList.reverse (a.toList.take (na+1)) (b.toList.take nb)) (ha:na < a.size) (hx:∀ j (hj:j < b.size),j < nb→blt a[na] b[j]=false) :
  MJ (leB blt) tot (out.push a[na]).toList.reverse (a.toList.take na) (b.toList.take nb):=by
 have:=h.takeA na (fun x hx' y hy=>by
  rw [jT a ha] at hx'
  obtain ⟨j,hj,hij,rfl⟩:=cJ hy
  rw [List.mem_singleton.mp hx']
  exact hx j hj hij)
 rw [jT a ha,gO a (by lia)] at this
 simpa using this
theorem hPushB {out:Array Keyed} {na nb:Nat} {tot:List Keyed} (h:MJ (leB blt) tot out.toList.reverse (a.toList.take na) (b.toList.take (nb+1))) (hb:nb < b.size) (hx:∀ j (hj:j < a.size),j < na→blt b[nb] a[j]=false) :
  MJ (leB blt) tot (out.push b[nb]).toList.reverse (a.toList.take na) (b.toList.take nb):=by
 have:=h.takeB nb (fun x hx' y hy=>by
  rw [jT b hb] at hx'
  obtain ⟨j,hj,hij,rfl⟩:=cJ hy
  rw [List.mem_singleton.mp hx']
  exact hx j hj hij)
 rw [jT b hb,gO b (by lia)] at this
 simpa using this
theorem hChunkA {out:Array Keyed} {na nb k:Nat} {tot:List Keyed} (h:MJ (leB blt) tot out.toList.reverse (a.toList.take na) (b.toList.take nb)) (hk:k≤na) (hx:∀ i (hi:i < a.size) j (hj:j < b.size),k≤i→i < na→j < nb→blt a[i] b[j]=false) :
  MJ (leB blt) tot (out++(a.extract k na).reverse).toList.reverse (a.toList.take k) (b.toList.take nb):=by
 have:=h.takeA k (fun x hx' y hy=>by
  obtain ⟨i,hi,h1,h2,rfl⟩:=mem_mid hx'
  obtain ⟨j,hj,h3,rfl⟩:=cJ hy
  exact hx i hi j hj h1 h2 h3)
 rw [gO a hk] at this
 rw [Array.toList_append,Array.toList_reverse,List.reverse_append,List.reverse_reverse,qo]
 exact this
theorem hChunkB {out:Array Keyed} {na nb k:Nat} {tot:List Keyed} (h:MJ (leB blt) tot out.toList.reverse (a.toList.take na) (b.toList.take nb)) (hk:k≤nb) (hx:∀ i (hi:i < b.size) j (hj:j < a.size),k≤i→i < nb→j < na→blt b[i] a[j]=false) :
  MJ (leB blt) tot (out++(b.extract k nb).reverse).toList.reverse (a.toList.take na) (b.toList.take k):=by
 have:=h.takeB k (fun x hx' y hy=>by
  obtain ⟨i,hi,h1,h2,rfl⟩:=mem_mid hx'
  obtain ⟨j,hj,h3,rfl⟩:=cJ hy
  exact hx i hi j hj h1 h2 h3)
 rw [gO b hk] at this
 rw [Array.toList_append,Array.toList_reverse,List.reverse_append,List.reverse_reverse,qo]
 exact this
theorem hPushA' {out:Array Keyed} {na nb:Nat} {tot:List Keyed} (h:MJ (leB blt) tot out.toList.reverse (a.toList.take na) (b.toList.take nb)) (hp:0 < na) (ha:na - 1 < a.size) (hx:∀ j (hj:j < b.size),j < nb→blt a[na - 1] b[j]=false) :
  MJ (leB blt) tot (out.push a[na - 1]).toList.reverse (a.toList.take (na - 1)) (b.toList.take nb):=by
 obtain ⟨m,rfl⟩:∃ m,na=m+1:=⟨na - 1,by lia⟩
 exact hPushA h ha hx
theorem hPushB' {out:Array Keyed} {na nb:Nat} {tot:List Keyed} (h:MJ (leB blt) tot out.toList.reverse (a.toList.take na) (b.toList.take nb)) (hp:0 < nb) (hb:nb - 1 < b.size) (hx:∀ j (hj:j < a.size),j < na→blt b[nb - 1] a[j]=false) :
  MJ (leB blt) tot (out.push b[nb - 1]).toList.reverse (a.toList.take na) (b.toList.take (nb - 1)):=by
 obtain ⟨m,rfl⟩:∃ m,nb=m+1:=⟨nb - 1,by lia⟩
 exact hPushB h hb hx
theorem pQ (x y out:Array Keyed):(x++y++out.reverse).toList=x.toList++y.toList++out.toList.reverse:=by simp
theorem ro (O:Orc M A E s blt k₀ In) {Q:Array Keyed→SortSt→Prop} {st:SortSt} (hst:kindOf st=k₀) (hA:∀ j (h:j < a.size),In a[j]) (hB:∀ j (h:j < b.size),In b[j]) (sa:Seg blt a 0 a.size) (sb:Seg blt b 0 b.size)
  (ha:0 < a.size) (hb:0 < b.size) (h0:blt b[0] a[0]=true) (hlast:∀ j (h:j < b.size),blt b[j] a[a.size - 1]=true)
  (hq:∀ (r:Array Keyed) st',SG st st'→Res (leB blt) (a.toList++b.toList) r.toList→Q r st'):wpS M A E s (mergeHiP a b) Q st:=by
 have fin1:∀ (out:Array Keyed) (na nb:Nat),MJ (leB blt) (a.toList++b.toList) out.toList.reverse (a.toList.take na) (b.toList.take nb)→(na=0∨nb=0)→Res (leB blt) (a.toList++b.toList) (a.extract 0 na++b.extract 0 nb++out.reverse).toList:=by
  intro out na nb h he
  rw [pQ,iY,iY]
  refine h.join fun x hx y hy=>?_
  obtain ⟨i,hi,h1,_⟩:=cJ hx
  obtain ⟨j,hj,h2,_⟩:=cJ hy
  lia
 have fin2:∀ (out:Array Keyed) (na nb:Nat),MJ (leB blt) (a.toList++b.toList) out.toList.reverse (a.toList.take na) (b.toList.take nb)→nb=1→Res (leB blt) (a.toList++b.toList) (b.extract 0 nb++a.extract 0 na++out.reverse).toList:=by
  intro out na nb h he
  rw [pQ,iY,iY]
  refine h.swap.join fun x hx y hy=>?_
  obtain ⟨i,hi,h1,rfl⟩:=cJ hx
  obtain ⟨j,hj,h2,rfl⟩:=cJ hy
  have:i=0:=by lia
  subst this
  exact O.asymm _ _ (O.le_lt h0 (sa 0 j ha hj (by lia) (by lia) hj))
 have hna:a.size - 1 < a.size:=by lia
 have mi0:MJ (leB blt) (a.toList++b.toList) (#[a[a.size - 1]]:Array Keyed).toList.reverse (a.toList.take (a.size - 1)) (b.toList.take b.size):=by
  have z:MJ (leB blt) (a.toList++b.toList) (#[]:Array Keyed).toList.reverse (a.toList.take (a.size - 1+1)) (b.toList.take b.size):=by
   rw [show a.size - 1+1=a.size by lia,List.take_of_length_le (by simp),List.take_of_length_le (by simp)]
   exact ⟨by simp,List.Pairwise.nil,qQ sa,qQ sb,fun x hx=>by cases hx⟩
  have:=hPushA z hna (fun j hj _=>O.asymm _ _ (hlast j hj))
  simpa using this
 refine wpS_bind (wpS_lift (wpAny_rule ⟨rfl,?_⟩))
 refine wpS_bind (aX hna ?_)
 refine aA (fun h=>wpS_pure (hq _ _ (SG.refl st) (fin1 _ _ _ mi0 (.inl (by simpa using h))))) (fun hn0=>?_)
 refine aA (fun h=>wpS_pure (hq _ _ (SG.refl st) (fin2 _ _ _ mi0 (by simpa using h)))) (fun hn1=>?_)
 have hn0:a.size - 1≠0:=by simpa using hn0
 have hn1:b.size≠1:=by simpa using hn1
 refine wpS_bind (wpS_get ?_)
 refine wpS_bind (wpS_mono (wpS_forRange (I:=fun x c st'=>SG st st'∧∃ out na nb mg,c=(none,na,nb,out,mg)∧MJ (leB blt) (a.toList++b.toList) out.toList.reverse (a.toList.take na) (b.toList.take nb)∧0 < na∧na < a.size∧1 < nb∧nb≤b.size∧x+na+nb≤a.size+b.size)
  (Q:=fun c st'=>SG st st'∧∃ r rest,c=(some r,rest)∧Res (leB blt) (a.toList++b.toList) r.toList) ?step ?fin ⟨SG.refl st,_,_,_,_,rfl,mi0,by lia,by lia,by lia,by lia,by lia⟩) ?post)
 case post =>
  rintro c st' ⟨hg,r,rest,rfl,hr⟩
  exact wpS_pure (hq r st' hg hr)
 case fin =>
  rintro c st' ⟨hg,out,na,nb,mg,rfl,hm,h1,h2,h3,h4,h5⟩
  lia
 case step =>
  rintro x c st1 _ hx ⟨hg,out,na,nb,mg,rfl,hm,h1,h2,h3,h4,h5⟩
  refine wpS_bind (wpS_mono (wpS_forRange (I:=fun y c st'=>SG st st'∧∃ out na' nb' ac bc,c=(none,na',nb',out,ac,bc)∧MJ (leB blt) (a.toList++b.toList) out.toList.reverse (a.toList.take na') (b.toList.take nb')∧0 < na'∧na' < a.size∧1 < nb'∧nb'≤b.size∧y+na'+nb'≤na+nb)
   (Q:=fun c st'=>SG st st'∧((∃ r rest,c=(some r,rest)∧Res (leB blt) (a.toList++b.toList) r.toList)∨∃ out na' nb' ac bc,c=(none,na',nb',out,ac,bc)∧MJ (leB blt) (a.toList++b.toList) out.toList.reverse (a.toList.take na') (b.toList.take nb')∧0 < na'∧na' < a.size∧1 < nb'∧nb'≤b.size∧1+na'+nb'≤na+nb)) ?step1 ?fin1 ⟨hg,out,na,nb,0,0,rfl,hm,h1,h2,h3,h4,by lia⟩) ?post1)
  case fin1 =>
   rintro c st' ⟨hg,out,na',nb',ac,bc,rfl,hm,h1,h2,h3,h4,h5⟩
   lia
  case step1 =>
   rintro y c st2 _ hy ⟨hg,out,na',nb',ac,bc,rfl,hm,h1,h2,h3,h4,h5⟩
   have i1:nb' - 1 < b.size:=by lia
   have i2:na' - 1 < a.size:=by lia
   refine wpS_bind (aX i1 (wpS_bind (aX i2 ?_)))
   refine wpS_bind (O.ask _ _ _ _ (hB _ _) (hA _ _) (hg.kind.trans hst) ?_)
   cases e:blt b[nb' - 1] a[na' - 1] with
   | true =>
    refine wpS_bind (aX i2 ?_)
    have hm':=hPushA' hm (by lia) i2 (fun j hj hij=>O.asymm _ _ (O.lt_le (sb j (nb' - 1) hj i1 (by lia) (by lia) i1) e))
    refine aA (fun hz=>wpS_pure ⟨hg,.inl ⟨_,_,rfl,fin1 _ _ _ hm' (.inl (by simpa using hz))⟩⟩) (fun hz=>?_)
    have hz:na' - 1≠0:=by simpa using hz
    exact aA (fun _=>wpS_pure ⟨hg,.inr ⟨_,na' - 1,nb',_,_,rfl,hm',by lia,by lia,by lia,by lia,by lia⟩⟩) (fun _=>wpS_pure ⟨hg,_,na' - 1,nb',_,_,rfl,hm',by lia,by lia,by lia,by lia,by lia⟩)
   | false =>
    refine wpS_bind (aX i1 ?_)
    have hm':=hPushB' hm (by lia) i1 (fun j hj hij=>O.trans _ _ _ (sa j (na' - 1) hj i2 (by lia) (by lia) i2) e)
    refine aA (fun hz=>wpS_pure ⟨hg,.inl ⟨_,_,rfl,fin2 _ _ _ hm' (by simpa using hz)⟩⟩) (fun hz=>?_)
    have hz:nb' - 1≠1:=by simpa using hz
    exact aA (fun _=>wpS_pure ⟨hg,.inr ⟨_,na',nb' - 1,_,_,rfl,hm',by lia,by lia,by lia,by lia,by lia⟩⟩) (fun _=>wpS_pure ⟨hg,_,na',nb' - 1,_,_,rfl,hm',by lia,by lia,by lia,by lia,by lia⟩)
  case post1 =>
   rintro c st2 ⟨hg,h⟩
   rcases h with ⟨r,rest,rfl,hr⟩|⟨out,na',nb',ac,bc,rfl,hm,h1,h2,h3,h4,h6⟩
   ·exact wpS_pure ⟨hg,r,_,rfl,hr⟩
   refine wpS_bind (wpS_lift (wpAny_rule ⟨rfl,?_⟩))
   refine wpS_bind (wpS_mono (wpS_forRange (I:=fun y c st'=>SG st st'∧∃ out na2 nb2 mg ac bc,c=(none,na2,nb2,out,mg,ac,bc)∧MJ (leB blt) (a.toList++b.toList) out.toList.reverse (a.toList.take na2) (b.toList.take nb2)∧0 < na2∧na2 < a.size∧1 < nb2∧nb2≤b.size∧y+na2+nb2≤na'+nb')
    (Q:=fun c st'=>SG st st'∧((∃ r rest,c=(some r,rest)∧Res (leB blt) (a.toList++b.toList) r.toList)∨∃ out na2 nb2 mg ac bc,c=(none,na2,nb2,out,mg,ac,bc)∧MJ (leB blt) (a.toList++b.toList) out.toList.reverse (a.toList.take na2) (b.toList.take nb2)∧0 < na2∧na2 < a.size∧1 < nb2∧nb2≤b.size∧na2+nb2≤na'+nb')) ?step2 ?fin2 ⟨hg,out,na',nb',_,ac,bc,rfl,hm,h1,h2,h3,h4,by lia⟩) ?post2)
   case fin2 =>
    rintro c st' ⟨hg,out,na2,nb2,mg,ac,bc,rfl,hm,h1,h2,h3,h4,h5⟩
    lia
   case post2 =>
    rintro c st3 ⟨hg,h⟩
    rcases h with ⟨r,rest,rfl,hr⟩|⟨out,na2,nb2,mg,ac,bc,rfl,hm,h1,h2,h3,h4,h7⟩
    ·exact wpS_pure ⟨hg,r,_,rfl,hr⟩
    ·exact wpS_bind (wpS_modify (wpS_pure ⟨hg.gal _,out,na2,nb2,_,rfl,hm,h1,h2,h3,h4,by lia⟩))
   case step2 =>
    rintro y c st3 _ hy ⟨hg,out,na2,nb2,mg,ac,bc,rfl,hm,h1,h2,h3,h4,h7⟩
    refine aA (fun _=>?_) (fun _=>?_)
    all_goals
     have i1:nb2 - 1 < b.size:=by lia
     refine wpS_bind (wpS_modify ?_)
     refine wpS_bind (aX i1 ?_)
     refine wpS_bind (cK O (base:=0) (n:=na2) (hint:=na2 - 1) (by lia) (by lia) (hB _ _) hA ((hg.gal _).kind.trans hst) (fun i j hi hj p1 p2 p3=>sa i j hi hj (by lia) p2 hj) fun k hk u1 u2=>?_)
     have u1':∀ j (hj:j < a.size),j < k→blt b[nb2 - 1] a[j]=false:=fun j hj hij=>qW (by have:=u1 j (by lia) hij;simpa only [Nat.zero_add] using this)
     have u2':∀ j (hj:j < a.size),k≤j→j < na2→blt b[nb2 - 1] a[j]=true:=fun j hj hij hjn=>qW (by have:=u2 j (by lia) hij hjn;simpa only [Nat.zero_add] using this)
     have hm1:=hChunkA (k:=k) hm hk (fun i hi j hj p1 p2 p3=>O.asymm _ _ (O.lt_le (sb j (nb2 - 1) hj i1 (by lia) (by lia) i1) (u2' i hi p1 p2)))
     refine aA (fun hk0=>?_) (fun hk0=>?_)
     ·refine aA (fun hc=>wpS_pure ⟨hg.gal _,.inl ⟨_,_,rfl,fin1 _ _ _ hm1 (.inl (by simpa using hc))⟩⟩) (fun hc=>?_)
      have hc0:k≠0:=by simpa using hc
      have hm3:=hm1
      have u4:=u1'
      have h3a:k - 1 < a.size:=by lia
      have hb1:nb2 - 1 < b.size:=by lia
      refine wpS_bind (aX hb1 ?_)
      have hm4:=hPushB' hm3 (by lia) hb1 (fun j hj hij=>u4 j hj hij)
      refine aA (fun hc=>wpS_pure ⟨hg.gal _,.inl ⟨_,_,rfl,fin2 _ _ _ hm4 (by simpa using hc)⟩⟩) (fun hc=>?_)
      have hc:nb2 - 1≠1:=by simpa using hc
      refine wpS_bind (aX h3a ?_)
      refine wpS_bind (cK O (base:=0) (n:=nb2 - 1) (hint:=nb2 - 1 - 1) (by lia) (by lia) (hA _ _) hB ((hg.gal _).kind.trans hst) (fun i j hi hj p1 p2 p3=>sb i j hi hj (by lia) p2 hj) fun k2 hk2 v1 v2=>?_)
      have v1':∀ j (hj:j < b.size),j < k2→blt b[j] (a[k - 1]'h3a)=true:=fun j hj hij=>ln (by have:=v1 j (by lia) hij;simpa only [Nat.zero_add] using this)
      have v2':∀ j (hj:j < b.size),k2≤j→j < nb2 - 1→blt b[j] (a[k - 1]'h3a)=false:=fun j hj hij hjn=>ln (by have:=v2 j (by lia) hij hjn;simpa only [Nat.zero_add] using this)
      have hm5:=hChunkB (k:=k2) hm4 hk2 (fun i hi j hj p1 p2 p3=>O.trans _ _ _ (sa j (k - 1) hj h3a (by lia) (by lia) h3a) (v2' i hi p1 p2))
      refine aA (fun hk1=>?_) (fun hk1=>?_)
      ·refine aA (fun hd=>wpS_pure ⟨hg.gal _,.inl ⟨_,_,rfl,fin2 _ _ _ hm5 (by simpa using hd)⟩⟩) (fun hd=>?_)
       refine aA (fun hd'=>wpS_pure ⟨hg.gal _,.inl ⟨_,_,rfl,fin1 _ _ _ hm5 (.inr (by simpa using hd'))⟩⟩) (fun hd'=>?_)
       have hd:k2≠1:=by simpa using hd
       have hd':k2≠0:=by simpa using hd'
       refine wpS_bind (aX h3a ?_)
       have hm6:=hPushA' hm5 (by lia) h3a (fun j hj hij=>O.asymm _ _ (v1' j hj hij))
       refine aA (fun he=>wpS_pure ⟨hg.gal _,.inl ⟨_,_,rfl,fin1 _ _ _ hm6 (.inl (by simpa using he))⟩⟩) (fun he=>?_)
       have he:k - 1≠0:=by simpa using he
       exact aA (fun hf=>wpS_pure ⟨hg.gal _,.inr ⟨_,k - 1,k2,_,_,_,rfl,hm6,by lia,by lia,by lia,by lia,by lia⟩⟩) (fun hf=>wpS_pure ⟨hg.gal _,_,k - 1,k2,_,_,_,rfl,hm6,by lia,by lia,by lia,by lia,by lia⟩)
      ·refine wpS_bind (aX h3a ?_)
       have hkk:k2=nb2 - 1:=by have hk1:¬ (nb2 - 1 - k2 > 0):=hk1;lia
       have hm6:=hPushA' hm4 (by lia) h3a (fun j hj hij=>O.asymm _ _ (v1' j hj (by lia)))
       refine aA (fun he=>wpS_pure ⟨hg.gal _,.inl ⟨_,_,rfl,fin1 _ _ _ hm6 (.inl (by simpa using he))⟩⟩) (fun he=>?_)
       have he:k - 1≠0:=by simpa using he
       exact aA (fun hf=>wpS_pure ⟨hg.gal _,.inr ⟨_,k - 1,nb2 - 1,_,_,_,rfl,hm6,by lia,by lia,by lia,by lia,by lia⟩⟩) (fun hf=>wpS_pure ⟨hg.gal _,_,k - 1,nb2 - 1,_,_,_,rfl,hm6,by lia,by lia,by lia,by lia,by lia⟩)
     ·have hkn:k=na2:=by have hk0:¬ (na2 - k > 0):=hk0;lia
      have hm3:=hm
      have u4:∀ j (hj:j < a.size),j < na2→blt b[nb2 - 1] a[j]=false:=fun j hj hij=>u1' j hj (by lia)
      have h3a:na2 - 1 < a.size:=by lia
      have hb1:nb2 - 1 < b.size:=by lia
      refine wpS_bind (aX hb1 ?_)
      have hm4:=hPushB' hm3 (by lia) hb1 (fun j hj hij=>u4 j hj hij)
      refine aA (fun hc=>wpS_pure ⟨hg.gal _,.inl ⟨_,_,rfl,fin2 _ _ _ hm4 (by simpa using hc)⟩⟩) (fun hc=>?_)
      have hc:nb2 - 1≠1:=by simpa using hc
      refine wpS_bind (aX h3a ?_)
      refine wpS_bind (cK O (base:=0) (n:=nb2 - 1) (hint:=nb2 - 1 - 1) (by lia) (by lia) (hA _ _) hB ((hg.gal _).kind.trans hst) (fun i j hi hj p1 p2 p3=>sb i j hi hj (by lia) p2 hj) fun k2 hk2 v1 v2=>?_)
      have v1':∀ j (hj:j < b.size),j < k2→blt b[j] (a[na2 - 1]'h3a)=true:=fun j hj hij=>ln (by have:=v1 j (by lia) hij;simpa only [Nat.zero_add] using this)
      have v2':∀ j (hj:j < b.size),k2≤j→j < nb2 - 1→blt b[j] (a[na2 - 1]'h3a)=false:=fun j hj hij hjn=>ln (by have:=v2 j (by lia) hij hjn;simpa only [Nat.zero_add] using this)
      have hm5:=hChunkB (k:=k2) hm4 hk2 (fun i hi j hj p1 p2 p3=>O.trans _ _ _ (sa j (na2 - 1) hj h3a (by lia) (by lia) h3a) (v2' i hi p1 p2))
      refine aA (fun hk1=>?_) (fun hk1=>?_)
      ·refine aA (fun hd=>wpS_pure ⟨hg.gal _,.inl ⟨_,_,rfl,fin2 _ _ _ hm5 (by simpa using hd)⟩⟩) (fun hd=>?_)
       refine aA (fun hd'=>wpS_pure ⟨hg.gal _,.inl ⟨_,_,rfl,fin1 _ _ _ hm5 (.inr (by simpa using hd'))⟩⟩) (fun hd'=>?_)
       have hd:k2≠1:=by simpa using hd
       have hd':k2≠0:=by simpa using hd'
       refine wpS_bind (aX h3a ?_)
       have hm6:=hPushA' hm5 (by lia) h3a (fun j hj hij=>O.asymm _ _ (v1' j hj hij))
       refine aA (fun he=>wpS_pure ⟨hg.gal _,.inl ⟨_,_,rfl,fin1 _ _ _ hm6 (.inl (by simpa using he))⟩⟩) (fun he=>?_)
       have he:na2 - 1≠0:=by simpa using he
       exact aA (fun hf=>wpS_pure ⟨hg.gal _,.inr ⟨_,na2 - 1,k2,_,_,_,rfl,hm6,by lia,by lia,by lia,by lia,by lia⟩⟩) (fun hf=>wpS_pure ⟨hg.gal _,_,na2 - 1,k2,_,_,_,rfl,hm6,by lia,by lia,by lia,by lia,by lia⟩)
      ·refine wpS_bind (aX h3a ?_)
       have hkk:k2=nb2 - 1:=by have hk1:¬ (nb2 - 1 - k2 > 0):=hk1;lia
       have hm6:=hPushA' hm4 (by lia) h3a (fun j hj hij=>O.asymm _ _ (v1' j hj (by lia)))
       refine aA (fun he=>wpS_pure ⟨hg.gal _,.inl ⟨_,_,rfl,fin1 _ _ _ hm6 (.inl (by simpa using he))⟩⟩) (fun he=>?_)
       have he:na2 - 1≠0:=by simpa using he
       exact aA (fun hf=>wpS_pure ⟨hg.gal _,.inr ⟨_,na2 - 1,nb2 - 1,_,_,_,rfl,hm6,by lia,by lia,by lia,by lia,by lia⟩⟩) (fun hf=>wpS_pure ⟨hg.gal _,_,na2 - 1,nb2 - 1,_,_,_,rfl,hm6,by lia,by lia,by lia,by lia,by lia⟩)
end
def G (xs:Array Keyed) (i:Nat):Keyed:=(xs[i]?).getD (.none,.none)
theorem mq {xs:Array Keyed} {i:Nat} (h:i < xs.size):G xs i=xs[i]:=by unfold G;rw [getElem?_pos xs i h];rfl
theorem cA {xs:Array Keyed} {i j:Nat} (hj:j≤xs.size) (k:Nat):G (mirror xs i j ((j - i)/2)) k=if i≤k∧k < j then G xs (i+j - 1 - k) else G xs k:=by
 unfold G
 rw [getElem?_mirror_all hj]
 split <;> rfl
theorem ms {xs:Array Keyed} {src d:Nat} (hs:src < xs.size) (hd:d≤src) (k:Nat):G (bubble xs src d) k=if k=src - d then G xs src else if src - d < k∧k≤src then G xs (k - 1) else G xs k:=by
 unfold G
 rw [getElem?_bubble hs d hd]
 repeat' split
 all_goals rfl
structure SA (lo:Nat) (st st':SortSt):Prop where
 kind:kindOf st'=kindOf st
 pend:pendingOf st'=pendingOf st
 failed:failedOf st'=failedOf st
 perm:(arrOf st').Perm (arrOf st)
 pre:∀ i,i < lo→G (arrOf st') i=G (arrOf st) i
theorem SA.refl (lo:Nat) (st:SortSt):SA lo st st:=⟨rfl,rfl,rfl,Array.Perm.refl _,fun _ _=>rfl⟩
theorem SA.trans {lo:Nat} {a b c:SortSt} (h:SA lo a b) (g:SA lo b c):SA lo a c:=⟨g.kind.trans h.kind,g.pend.trans h.pend,g.failed.trans h.failed,g.perm.trans h.perm,fun i hi=>(g.pre i hi).trans (h.pre i hi)⟩
theorem SA.size {lo:Nat} {a b:SortSt} (h:SA lo a b):(arrOf b).size=(arrOf a).size:=h.perm.size_eq
section
variable {M:Model} {A:Around} {E:Value→Shared→Prop} {s:Shared} {blt:Keyed→Keyed→Bool} {k₀:SortKind} {In:Keyed→Prop}
def AllIn (In:Keyed→Prop) (st:SortSt):Prop:=∀ x,x∈(arrOf st).toList→In x
theorem AllIn.sa {lo:Nat} {st st':SortSt} (h:AllIn In st) (g:SA lo st st'):AllIn In st':=fun x hx=>h x ((Array.perm_iff_toList_perm.mp g.perm).mem_iff.mp hx)
theorem AllIn.at {st:SortSt} (h:AllIn In st) {i:Nat} (hi:i < (arrOf st).size):In (arrOf st)[i]:=h _ (by simp)
theorem dj (O:Orc M A E s blt k₀ In) {st:SortSt} {i j:Nat} {Q:Option Bool→SortSt→Prop} (hk:kindOf st=k₀) (hI:AllIn In st) (hi:i < (arrOf st).size) (hj:j < (arrOf st).size) (h:Q (some (blt (G (arrOf st) i) (G (arrOf st) j))) st):wpS M A E s (ltAt' i j) Q st:=by
 rw [ltAt'_eq]
 refine wpS_bind (wpS_get ?_)
 refine wpS_bind (aX hi (wpS_bind (aX hj ?_)))
 rw [mq hi,mq hj] at h
 exact O.ask _ _ _ _ (hI.at hi) (hI.at hj) hk h
theorem iK {st:SortSt} {i j:Nat} {Q:PUnit→SortSt→Prop} (h:Q ⟨⟩ (setArr st (mirror (arrOf st) i j ((j - i)/2)))):wpS M A E s (reverseSlice' i j) Q st:=by
 rw [reverseSlice'_eq]
 exact wpS_modify h
theorem iS {lo:Nat} {st:SortSt} {i j:Nat} (hi:lo≤i) (hj:j≤(arrOf st).size):SA lo st (setArr st (mirror (arrOf st) i j ((j - i)/2))) :=
 ⟨rfl,rfl,rfl,mirror_perm _ _ _ _,fun k hk=>by
  show G (mirror (arrOf st) i j ((j - i)/2)) k=_
  rw [cA hj,if_neg (by lia)]⟩
def SegG (blt:Keyed→Keyed→Bool) (xs:Array Keyed) (lo hi:Nat):Prop:=∀ i j,lo≤i→i≤j→j < hi→blt (G xs j) (G xs i)=false
def NI (blt:Keyed→Keyed→Bool) (xs:Array Keyed) (lo hi:Nat):Prop:=∀ i j,lo≤i→i≤j→j < hi→blt (G xs i) (G xs j)=false
theorem SegG.seg {xs:Array Keyed} {lo hi:Nat} (h:SegG blt xs lo hi):Seg blt xs lo hi:=fun i j hi' hj a b c=>by
 have:=h i j a b c
 rwa [mq hi',mq hj] at this
theorem wy (O:Orc M A E s blt k₀ In) {xs:Array Keyed} {lo hi:Nat} (h:SegG blt xs lo hi) (hl:lo < hi) (hx:blt (G xs hi) (G xs (hi - 1))=false):SegG blt xs lo (hi+1):=fun i j a b c=>by
 by_cases hj:j < hi
 ·exact h i j a b hj
 ·have:j=hi:=by lia
  subst this
  by_cases hi':i=j
  ·subst hi';exact O.refl _
  ·exact O.trans _ _ _ (h i (j - 1) a (by lia) (by lia)) hx
theorem fU (O:Orc M A E s blt k₀ In) {xs:Array Keyed} {lo hi:Nat} (h:NI blt xs lo hi) (hl:lo < hi) (hx:blt (G xs (hi - 1)) (G xs hi)=false):NI blt xs lo (hi+1):=fun i j a b c=>by
 by_cases hj:j < hi
 ·exact h i j a b hj
 ·have:j=hi:=by lia
  subst this
  by_cases hi':i=j
  ·subst hi';exact O.refl _
  ·exact O.trans _ _ _ hx (h i (j - 1) a (by lia) (by lia))
theorem kR (O:Orc M A E s blt k₀ In) {st:SortSt} {lo n nrem:Nat} {Q:Option (Option Nat)×Nat→SortSt→Prop} {f:Nat→Option (Option Nat)×Nat→StateT SortSt Sem (ForInStep (Option (Option Nat)×Nat))} (hk:kindOf st=k₀) (hI:AllIn In st) (hn:lo+nrem≤(arrOf st).size) (h1:1≤n) (hnn:n≤nrem) (hs:SegG blt (arrOf st) lo (lo+n))
  (hf:∀ x n (R:ForInStep (Option (Option Nat)×Nat)→SortSt→Prop),1≤n→n < nrem→(blt (G (arrOf st) (lo+n)) (G (arrOf st) (lo+n - 1))=true→R (.done (none,n)) st)→(blt (G (arrOf st) (lo+n)) (G (arrOf st) (lo+n - 1))=false→R (.yield (none,n+1)) st)→wpS M A E s (f x (none,n)) R st)
  (h:∀ m,n≤m→m≤nrem→SegG blt (arrOf st) lo (lo+m)→(m=nrem∨blt (G (arrOf st) (lo+m)) (G (arrOf st) (lo+m - 1))=true)→Q (none,m) st):wpS M A E s (forIn [n:nrem] (none,n) f) Q st:=by
 refine wpS_forRange (I:=fun x c st'=>st'=st∧c=(none,x)∧n≤x∧SegG blt (arrOf st) lo (lo+x)) ?step ?fin ⟨rfl,rfl,Nat.le_refl _,hs⟩
 case fin =>
  rintro c st' ⟨rfl,rfl,h2,h3⟩
  rw [show max n nrem=nrem by lia] at h3 ⊢
  exact h nrem hnn (Nat.le_refl _) h3 (.inl rfl)
 case step =>
  rintro x c st' hx1 hx2 ⟨rfl,rfl,h2,h3⟩
  refine hf x x _ (by lia) hx2 (fun e=>h x h2 (by lia) h3 (.inr e)) fun e=>⟨rfl,rfl,by lia,?_⟩
  have:=wy O h3 (by lia) e
  rwa [show lo+x+1=lo+(x+1) by lia] at this
theorem qR {st:SortSt} {lo hi:Nat} (hs:hi≤(arrOf st).size) (h:NI blt (arrOf st) lo hi):SegG blt (mirror (arrOf st) lo hi ((hi - lo)/2)) lo hi:=fun i j a b c=>by
 rw [cA hs,cA hs,if_pos (by lia),if_pos (by lia)]
 exact h _ _ (by lia) (by lia) (by lia)
theorem t6 {xs:Array Keyed} {lo p hi:Nat} (hs:hi≤xs.size) (hp:lo≤p) (h:NI blt xs lo hi) (he:∀ i j,p≤i→i < hi→p≤j→j < hi→blt (G xs i) (G xs j)=false):NI blt (mirror xs p hi ((hi - p)/2)) lo hi:=fun i j a b c=>by
 rw [cA hs,cA hs]
 by_cases hi':p≤i∧i < hi
 ·rw [if_pos hi',if_pos (by lia)]
  exact he _ _ (by lia) (by lia) (by lia) (by lia)
 ·rw [if_neg hi']
  by_cases hj:p≤j∧j < hi
  ·rw [if_pos hj]
   exact h _ _ a (by lia) (by lia)
  ·rw [if_neg hj]
   exact h _ _ a b c
end
section
variable {M:Model} {A:Around} {E:Value→Shared→Prop} {s:Shared} {blt:Keyed→Keyed→Bool} {k₀:SortKind} {In:Keyed→Prop}
theorem oP (O:Orc M A E s blt k₀ In) {st:SortSt} {lo nrem:Nat} {Q:Option Nat→SortSt→Prop} (hk:kindOf st=k₀) (hI:AllIn In st) (hn:lo+nrem≤(arrOf st).size) (h1:1≤nrem)
  (h:∀ m st',SA lo st st'→1≤m→m≤nrem→SegG blt (arrOf st') lo (lo+m)→Q (some m) st'):wpS M A E s (countRun' lo nrem) Q st:=by
 have s1:SegG blt (arrOf st) lo (lo+1):=fun i j a b c=>by
  have:i=j:=by walk_at "ja"
  rw [this];exact O.refl _
 refine wpS_bind (kR O (lo:=lo) hk hI hn (Nat.le_refl 1) h1 s1 ?hf ?_)
 case hf =>
  intro x n R hn1 hn2 r1 r2
  refine wpS_bind (dj O hk hI (by walk_at "ja") (by walk_at "ja") ?_)
  cases e:blt (G (arrOf st) (lo+n)) (G (arrOf st) (lo+n - 1)) with
  | true=>exact wpS_pure (r1 e)
  | false=>exact wpS_pure (r2 e)
 intro n hn1 hn2 hs hor
 refine aA (fun hq=>wpS_pure (h n st (SA.refl lo st) hn1 hn2 hs)) (fun hne=>?_)
 have hne:n≠nrem:=by simpa using hne
 have hlt:=hor.resolve_left hne
 refine aA (fun hgt=>?_) (fun hgt=>?_)
 ·refine wpS_bind (dj O hk hI (show lo < _ by walk_at "ja") (show lo+n - 1 < _ by walk_at "ja") ?_)
  cases hrose:blt (G (arrOf st) lo) (G (arrOf st) (lo+n - 1)) with
  | true=>exact aA (fun _=>wpS_pure (h n st (SA.refl lo st) hn1 hn2 hs)) (fun z=>absurd rfl z)
  | false =>
   refine aA (fun z=>absurd z Bool.false_ne_true) (fun _=>?_)
   refine wpS_bind (iK ?_)
   have hsa1:=iS (lo:=lo) (st:=st) (i:=lo) (j:=lo+n) (Nat.le_refl _) (by walk_at "ja")
   have hall:∀ i j,lo≤i→i < lo+n→lo≤j→j < lo+n→blt (G (arrOf st) i) (G (arrOf st) j)=false:=fun i j a b c d =>
    O.trans _ _ _ (O.trans _ _ _ (hs j (lo+n - 1) c (by walk_at "ja") (by walk_at "ja")) hrose) (hs lo i (Nat.le_refl _) a b)
   have hni1:NI blt (mirror (arrOf st) lo (lo+n) ((lo+n - lo)/2)) lo (lo+(n+1)):=by
    have n3:=t6 (xs:=arrOf st) (p:=lo) (hi:=lo+n) (by walk_at "ja") (Nat.le_refl _) (fun i j a b c=>hall i j a (by walk_at "ja") (by walk_at "ja") c) hall
    have n4:=fU O n3 (by walk_at "ja") (by
     rw [cA (by walk_at "ja"),cA (by walk_at "ja"),if_pos (by walk_at "ja"),if_neg (by walk_at "ja")]
     exact O.trans _ _ _ (O.asymm _ _ hlt) (hall _ _ (by walk_at "ja") (by walk_at "ja") (by walk_at "ja") (by walk_at "ja")))
    rwa [show lo+n+1=lo+(n+1) by walk_at "ja"] at n4
   have hN:n+1≤nrem:=by walk_at "ja"
   refine wpS_bind (wpS_lift (wpAny_rule ⟨rfl,?_⟩))
   refine wpS_bind (wpS_mono (wpS_forRange (I:=fun x c st'=>SA lo st st'∧∃ neq,c=(none,x,neq)∧n+1≤x∧NI blt (arrOf st') lo (lo+x)∧neq+1≤x∧(∀ i j,lo+x - (neq+1)≤i→i < lo+x→lo+x - (neq+1)≤j→j < lo+x→blt (G (arrOf st') i) (G (arrOf st') j)=false))
    (Q:=fun c st'=>SA lo st st'∧∃ m neq,c=(none,m,neq)∧n+1≤m∧m≤nrem∧NI blt (arrOf st') lo (lo+m)∧neq+1≤m∧(∀ i j,lo+m - (neq+1)≤i→i < lo+m→lo+m - (neq+1)≤j→j < lo+m→blt (G (arrOf st') i) (G (arrOf st') j)=false)) ?step ?fin ⟨hsa1,0,rfl,by walk_at "ja",hni1,by walk_at "ja",fun i j a b c d=>by rw [show i=j by walk_at "ja"];exact O.refl _⟩) ?post)
   case fin =>
    rintro c st' ⟨hsa',neq,rfl,h2,h3,h4,h5⟩
    rw [show max (_+1) nrem=nrem by walk_at "ja"] at *
    exact ⟨hsa',nrem,neq,rfl,by walk_at "ja",Nat.le_refl _,h3,h4,h5⟩
   case post =>
    rintro c st' ⟨hsa',m,neq,rfl,hm1,hm2,hni',hq1,heq⟩
    dsimp only
    have sz:=hsa'.size
    refine aA (fun hneq=>?_) (fun hneq=>?_)
    ·refine wpS_bind (iK ?_)
     have hsa3:=hsa'.trans (iS (lo:=lo) (i:=lo+m - (neq+1)) (j:=lo+m) (by walk_at "ja") (by walk_at "ja"))
     have hni3:=t6 (xs:=arrOf st') (p:=lo+m - (neq+1)) (by walk_at "ja") (by walk_at "ja") hni' (fun i j a b c d=>heq i j a b c d)
     have sz3:=hsa3.size
     refine wpS_bind (iK ?_)
     have hsa4:=hsa3.trans (iS (lo:=lo) (i:=lo) (j:=lo+m) (Nat.le_refl _) (by walk_at "ja"))
     have sg4:=qR (st:=setArr st' (mirror (arrOf st') (lo+m - (neq+1)) (lo+m) ((lo+m - (lo+m - (neq+1)))/2))) (by walk_at "ja") hni3
     have sz4:=hsa4.size
     refine wpS_bind (kR O (lo:=lo) (n:=m) (hsa4.kind.trans hk) (hI.sa hsa4) (by walk_at "ja") (by walk_at "ja") hm2 sg4 ?hf ?_)
     case hf =>
      intro x n' R hn1' hn2' r1 r2
      refine wpS_bind (dj O (hsa4.kind.trans hk) (hI.sa hsa4) (by walk_at "ja") (by walk_at "ja") ?_)
      split
      ·rename_i smaller heq'
       have heq':blt _ _=smaller:=Option.some.inj heq'
       cases smaller with
       | true=>exact wpS_pure (r1 heq')
       | false=>exact wpS_pure (r2 heq')
      ·rename_i hno
       exact absurd rfl (hno _)
     intro m' h1' h2' h3' _
     exact wpS_pure (h m' _ hsa4 (by walk_at "ja") h2' h3')
    ·have hsa3:=hsa'
     have hni3:=hni'
     have sz3:=hsa3.size
     refine wpS_bind (iK ?_)
     have hsa4:=hsa3.trans (iS (lo:=lo) (i:=lo) (j:=lo+m) (Nat.le_refl _) (by walk_at "ja"))
     have sg4:=qR (st:=st') (by walk_at "ja") hni3
     have sz4:=hsa4.size
     refine wpS_bind (kR O (lo:=lo) (n:=m) (hsa4.kind.trans hk) (hI.sa hsa4) (by walk_at "ja") (by walk_at "ja") hm2 sg4 ?hf2 ?_)
     case hf2 =>
      intro x n' R hn1' hn2' r1 r2
      refine wpS_bind (dj O (hsa4.kind.trans hk) (hI.sa hsa4) (by walk_at "ja") (by walk_at "ja") ?_)
      split
      ·rename_i smaller heq'
       have heq':blt _ _=smaller:=Option.some.inj heq'
       cases smaller with
       | true=>exact wpS_pure (r1 heq')
       | false=>exact wpS_pure (r2 heq')
      ·rename_i hno
       exact absurd rfl (hno _)
     intro m' h1' h2' h3' _
     exact wpS_pure (h m' _ hsa4 (by walk_at "ja") h2' h3')
   case step =>
    rintro x c st' hx1 hx2 ⟨hsa',neq,rfl,h2,hni',hq1,heq⟩
    have sz:=hsa'.size
    refine wpS_bind (dj O (hsa'.kind.trans hk) (hI.sa hsa') (show lo+x < _ by walk_at "ja") (show lo+x - 1 < _ by walk_at "ja") ?_)
    cases e:blt (G (arrOf st') (lo+x)) (G (arrOf st') (lo+x - 1)) with
    | true =>
     have up:=fU O hni' (by walk_at "ja") (O.asymm _ _ e)
     refine aA (fun _=>?_) (fun z=>absurd rfl z)
     refine aA (fun hneq=>?_) (fun hneq=>?_)
     ·refine wpS_bind (iK ?_)
      refine wpS_pure ⟨hsa'.trans (iS (i:=lo+x - (neq+1)) (j:=lo+x) (by walk_at "ja") (by walk_at "ja")),0,rfl,by walk_at "ja",?_,by walk_at "ja",fun i j a b c d=>by rw [show i=j by walk_at "ja"];exact O.refl _⟩
      have n3:=t6 (xs:=arrOf st') (p:=lo+x - (neq+1)) (hi:=lo+x) (by walk_at "ja") (by walk_at "ja") hni' (fun i j a b c d=>heq i j a b c d)
      have n4:=fU O n3 (by walk_at "ja") (by
       rw [cA (by walk_at "ja"),cA (by walk_at "ja"),if_pos (by walk_at "ja"),if_neg (by walk_at "ja")]
       exact O.trans _ _ _ (O.asymm _ _ e) (hni' _ _ (by walk_at "ja") (by walk_at "ja") (by walk_at "ja")))
      rwa [show lo+x+1=lo+(x+1) by walk_at "ja"] at n4
     ·refine wpS_pure ⟨hsa',0,rfl,by walk_at "ja",?_,by walk_at "ja",fun i j a b c d=>by rw [show i=j by walk_at "ja"];exact O.refl _⟩
      rwa [show lo+x+1=lo+(x+1) by walk_at "ja"] at up
    | false =>
     refine aA (fun z=>absurd z Bool.false_ne_true) (fun _=>?_)
     refine wpS_bind (dj O (hsa'.kind.trans hk) (hI.sa hsa') (show lo+x - 1 < _ by walk_at "ja") (show lo+x < _ by walk_at "ja") ?_)
     cases e2:blt (G (arrOf st') (lo+x - 1)) (G (arrOf st') (lo+x)) with
     | true=>exact aA (fun _=>wpS_pure ⟨hsa',x,neq,rfl,by walk_at "ja",by walk_at "ja",hni',hq1,heq⟩) (fun z=>absurd rfl z)
     | false =>
      refine aA (fun z=>absurd z Bool.false_ne_true) (fun _=>wpS_pure ⟨hsa',neq+1,rfl,by walk_at "ja",?_,by walk_at "ja",fun i j a b c d=>?_⟩)
      ·have up:=fU O hni' (by walk_at "ja") e2
       rwa [show lo+x+1=lo+(x+1) by walk_at "ja"] at up
      ·have q1:∀ k,lo+x - (neq+1)≤k→k < lo+x→blt (G (arrOf st') k) (G (arrOf st') (lo+x))=false∧blt (G (arrOf st') (lo+x)) (G (arrOf st') k)=false:=fun k k1 k2 =>
        ⟨O.trans _ _ _ e2 (heq k (lo+x - 1) k1 k2 (by walk_at "ja") (by walk_at "ja")),O.trans _ _ _ (heq (lo+x - 1) k (by walk_at "ja") (by walk_at "ja") k1 k2) e⟩
       by_cases hi':i=lo+x
       ·by_cases hj':j=lo+x
        ·rw [hi',hj'];exact O.refl _
        ·rw [hi'];exact (q1 j (by walk_at "ja") (by walk_at "ja")).2
       ·by_cases hj':j=lo+x
        ·rw [hj'];exact (q1 i (by walk_at "ja") (by walk_at "ja")).1
        ·exact heq i j (by walk_at "ja") (by walk_at "ja") (by walk_at "ja") (by walk_at "ja")
 ·have hgt:¬ (n > 1):=hgt
  have n1:n=1:=by walk_at "ja"
  have hni1:NI blt (arrOf st) lo (lo+(n+1)):=by
   have:=fU O (lo:=lo) (hi:=lo+n) (xs:=arrOf st) (fun i j a b c=>by
    have:i=j:=by walk_at "ja"
    rw [this];exact O.refl _) (by walk_at "ja") (O.asymm _ _ hlt)
   rwa [show lo+n+1=lo+(n+1) by walk_at "ja"] at this
  have hsa1:=SA.refl lo st
  have hN:n+1≤nrem:=by walk_at "ja"
  refine wpS_bind (wpS_lift (wpAny_rule ⟨rfl,?_⟩))
  refine wpS_bind (wpS_mono (wpS_forRange (I:=fun x c st'=>SA lo st st'∧∃ neq,c=(none,x,neq)∧n+1≤x∧NI blt (arrOf st') lo (lo+x)∧neq+1≤x∧(∀ i j,lo+x - (neq+1)≤i→i < lo+x→lo+x - (neq+1)≤j→j < lo+x→blt (G (arrOf st') i) (G (arrOf st') j)=false))
   (Q:=fun c st'=>SA lo st st'∧∃ m neq,c=(none,m,neq)∧n+1≤m∧m≤nrem∧NI blt (arrOf st') lo (lo+m)∧neq+1≤m∧(∀ i j,lo+m - (neq+1)≤i→i < lo+m→lo+m - (neq+1)≤j→j < lo+m→blt (G (arrOf st') i) (G (arrOf st') j)=false)) ?step ?fin ⟨hsa1,0,rfl,by walk_at "ja",hni1,by walk_at "ja",fun i j a b c d=>by rw [show i=j by walk_at "ja"];exact O.refl _⟩) ?post)
  case fin =>
   rintro c st' ⟨hsa',neq,rfl,h2,h3,h4,h5⟩
   rw [show max (_+1) nrem=nrem by walk_at "ja"] at *
   exact ⟨hsa',nrem,neq,rfl,by walk_at "ja",Nat.le_refl _,h3,h4,h5⟩
  case post =>
   rintro c st' ⟨hsa',m,neq,rfl,hm1,hm2,hni',hq1,heq⟩
   dsimp only
   have sz:=hsa'.size
   refine aA (fun hneq=>?_) (fun hneq=>?_)
   ·refine wpS_bind (iK ?_)
    have hsa3:=hsa'.trans (iS (lo:=lo) (i:=lo+m - (neq+1)) (j:=lo+m) (by walk_at "ja") (by walk_at "ja"))
    have hni3:=t6 (xs:=arrOf st') (p:=lo+m - (neq+1)) (by walk_at "ja") (by walk_at "ja") hni' (fun i j a b c d=>heq i j a b c d)
    have sz3:=hsa3.size
    refine wpS_bind (iK ?_)
    have hsa4:=hsa3.trans (iS (lo:=lo) (i:=lo) (j:=lo+m) (Nat.le_refl _) (by walk_at "ja"))
    have sg4:=qR (st:=setArr st' (mirror (arrOf st') (lo+m - (neq+1)) (lo+m) ((lo+m - (lo+m - (neq+1)))/2))) (by walk_at "ja") hni3
    have sz4:=hsa4.size
    refine wpS_bind (kR O (lo:=lo) (n:=m) (hsa4.kind.trans hk) (hI.sa hsa4) (by walk_at "ja") (by walk_at "ja") hm2 sg4 ?hf ?_)
    case hf =>
     intro x n' R hn1' hn2' r1 r2
     refine wpS_bind (dj O (hsa4.kind.trans hk) (hI.sa hsa4) (by walk_at "ja") (by walk_at "ja") ?_)
     split
     ·rename_i smaller heq'
      have heq':blt _ _=smaller:=Option.some.inj heq'
      cases smaller with
      | true=>exact wpS_pure (r1 heq')
      | false=>exact wpS_pure (r2 heq')
     ·rename_i hno
      exact absurd rfl (hno _)
    intro m' h1' h2' h3' _
    exact wpS_pure (h m' _ hsa4 (by walk_at "ja") h2' h3')
   ·have hsa3:=hsa'
    have hni3:=hni'
    have sz3:=hsa3.size
    refine wpS_bind (iK ?_)
    have hsa4:=hsa3.trans (iS (lo:=lo) (i:=lo) (j:=lo+m) (Nat.le_refl _) (by walk_at "ja"))
    have sg4:=qR (st:=st') (by walk_at "ja") hni3
    have sz4:=hsa4.size
    refine wpS_bind (kR O (lo:=lo) (n:=m) (hsa4.kind.trans hk) (hI.sa hsa4) (by walk_at "ja") (by walk_at "ja") hm2 sg4 ?hf2 ?_)
    case hf2 =>
     intro x n' R hn1' hn2' r1 r2
     refine wpS_bind (dj O (hsa4.kind.trans hk) (hI.sa hsa4) (by walk_at "ja") (by walk_at "ja") ?_)
     split
     ·rename_i smaller heq'
      have heq':blt _ _=smaller:=Option.some.inj heq'
      cases smaller with
      | true=>exact wpS_pure (r1 heq')
      | false=>exact wpS_pure (r2 heq')
     ·rename_i hno
      exact absurd rfl (hno _)
    intro m' h1' h2' h3' _
    exact wpS_pure (h m' _ hsa4 (by walk_at "ja") h2' h3')
  case step =>
   rintro x c st' hx1 hx2 ⟨hsa',neq,rfl,h2,hni',hq1,heq⟩
   have sz:=hsa'.size
   refine wpS_bind (dj O (hsa'.kind.trans hk) (hI.sa hsa') (show lo+x < _ by walk_at "ja") (show lo+x - 1 < _ by walk_at "ja") ?_)
   cases e:blt (G (arrOf st') (lo+x)) (G (arrOf st') (lo+x - 1)) with
   | true =>
    have up:=fU O hni' (by walk_at "ja") (O.asymm _ _ e)
    refine aA (fun _=>?_) (fun z=>absurd rfl z)
    refine aA (fun hneq=>?_) (fun hneq=>?_)
    ·refine wpS_bind (iK ?_)
     refine wpS_pure ⟨hsa'.trans (iS (i:=lo+x - (neq+1)) (j:=lo+x) (by walk_at "ja") (by walk_at "ja")),0,rfl,by walk_at "ja",?_,by walk_at "ja",fun i j a b c d=>by rw [show i=j by walk_at "ja"];exact O.refl _⟩
     have n3:=t6 (xs:=arrOf st') (p:=lo+x - (neq+1)) (hi:=lo+x) (by walk_at "ja") (by walk_at "ja") hni' (fun i j a b c d=>heq i j a b c d)
     have n4:=fU O n3 (by walk_at "ja") (by
      rw [cA (by walk_at "ja"),cA (by walk_at "ja"),if_pos (by walk_at "ja"),if_neg (by walk_at "ja")]
      exact O.trans _ _ _ (O.asymm _ _ e) (hni' _ _ (by walk_at "ja") (by walk_at "ja") (by walk_at "ja")))
     rwa [show lo+x+1=lo+(x+1) by walk_at "ja"] at n4
    ·refine wpS_pure ⟨hsa',0,rfl,by walk_at "ja",?_,by walk_at "ja",fun i j a b c d=>by rw [show i=j by walk_at "ja"];exact O.refl _⟩
     rwa [show lo+x+1=lo+(x+1) by walk_at "ja"] at up
   | false =>
    refine aA (fun z=>absurd z Bool.false_ne_true) (fun _=>?_)
    refine wpS_bind (dj O (hsa'.kind.trans hk) (hI.sa hsa') (show lo+x - 1 < _ by walk_at "ja") (show lo+x < _ by walk_at "ja") ?_)
    cases e2:blt (G (arrOf st') (lo+x - 1)) (G (arrOf st') (lo+x)) with
    | true=>exact aA (fun _=>wpS_pure ⟨hsa',x,neq,rfl,by walk_at "ja",by walk_at "ja",hni',hq1,heq⟩) (fun z=>absurd rfl z)
    | false =>
     refine aA (fun z=>absurd z Bool.false_ne_true) (fun _=>wpS_pure ⟨hsa',neq+1,rfl,by walk_at "ja",?_,by walk_at "ja",fun i j a b c d=>?_⟩)
     ·have up:=fU O hni' (by walk_at "ja") e2
      rwa [show lo+x+1=lo+(x+1) by walk_at "ja"] at up
     ·have q1:∀ k,lo+x - (neq+1)≤k→k < lo+x→blt (G (arrOf st') k) (G (arrOf st') (lo+x))=false∧blt (G (arrOf st') (lo+x)) (G (arrOf st') k)=false:=fun k k1 k2 =>
       ⟨O.trans _ _ _ e2 (heq k (lo+x - 1) k1 k2 (by walk_at "ja") (by walk_at "ja")),O.trans _ _ _ (heq (lo+x - 1) k (by walk_at "ja") (by walk_at "ja") k1 k2) e⟩
      by_cases hi':i=lo+x
      ·by_cases hj':j=lo+x
       ·rw [hi',hj'];exact O.refl _
       ·rw [hi'];exact (q1 j (by walk_at "ja") (by walk_at "ja")).2
      ·by_cases hj':j=lo+x
       ·rw [hj'];exact (q1 i (by walk_at "ja") (by walk_at "ja")).1
       ·exact heq i j (by walk_at "ja") (by walk_at "ja") (by walk_at "ja") (by walk_at "ja")
end
section
variable {M:Model} {A:Around} {E:Value→Shared→Prop} {s:Shared} {blt:Keyed→Keyed→Bool} {k₀:SortKind} {In:Keyed→Prop}
theorem Aj {lo:Nat} {st:SortSt} {src d:Nat} (h:lo≤src - d) (hd:d≤src) (hs:src < (arrOf st).size):SA lo st (setArr st (bubble (arrOf st) src d)) :=
 ⟨rfl,rfl,rfl,bubble_perm _ _ _,fun k hk=>by
  show G (bubble (arrOf st) src d) k=_
  rw [ms hs hd,if_neg (by walk_at "jb"),if_neg (by walk_at "jb")]⟩
theorem uR (O:Orc M A E s blt k₀ In) {st:SortSt} {lo n ok:Nat} {Q:Bool→SortSt→Prop} (hk:kindOf st=k₀) (hI:AllIn In st) (hn:lo+n≤(arrOf st).size) (hok:ok≤n) (h1:1≤ok) (hs:SegG blt (arrOf st) lo (lo+ok))
  (h:∀ st',SA lo st st'→SegG blt (arrOf st') lo (lo+n)→Q true st'):wpS M A E s (binarySort' lo n ok) Q st:=by
 refine wpS_bind (wpS_mono (wpS_forRange (I:=fun k c st'=>c=(none,())∧SA lo st st'∧SegG blt (arrOf st') lo (lo+k))
  (Q:=fun c st'=>c=(none,())∧SA lo st st'∧SegG blt (arrOf st') lo (lo+n)) ?step ?fin ⟨rfl,SA.refl lo st,by rw [show max ok 1=ok by walk_at "jb"];exact hs⟩) ?post)
 case post =>
  rintro c st' ⟨rfl,hsa,hsg⟩
  exact wpS_pure (h st' hsa hsg)
 case fin =>
  rintro c st' ⟨rfl,hsa,hsg⟩
  rw [show max (max ok 1) n=n by walk_at "jb"] at hsg
  exact ⟨rfl,hsa,hsg⟩
 case step =>
  rintro k c st1 hk1 hk2 ⟨rfl,hsa,hsg⟩
  have sz:=hsa.size
  have hk':lo+k < (arrOf st1).size:=by walk_at "jb"
  refine wpS_bind (wpS_mono (wpS_forRange (I:=fun x c st'=>st'=st1∧∃ l r,c=(none,l,r)∧l≤r∧r≤k∧r - l≤k - x∧(∀ i,lo≤i→i < lo+l→blt (G (arrOf st1) (lo+k)) (G (arrOf st1) i)=false)∧(∀ i,lo+r≤i→i < lo+k→blt (G (arrOf st1) (lo+k)) (G (arrOf st1) i)=true))
   (Q:=fun c st'=>st'=st1∧∃ l r,c=(none,l,r)∧l=r∧r≤k∧(∀ i,lo≤i→i < lo+l→blt (G (arrOf st1) (lo+k)) (G (arrOf st1) i)=false)∧(∀ i,lo+r≤i→i < lo+k→blt (G (arrOf st1) (lo+k)) (G (arrOf st1) i)=true)) ?step1 ?fin1 ⟨rfl,0,k,rfl,by walk_at "jb",by walk_at "jb",by walk_at "jb",fun i a b=>by walk_at "jb",fun i a b=>by walk_at "jb"⟩) ?post1)
  case fin1 =>
   rintro c st' ⟨rfl,l,r,rfl,a1,a2,a3,a4,a5⟩
   exact ⟨rfl,l,r,rfl,by walk_at "jb",a2,a4,a5⟩
  case step1 =>
   rintro x c st' _ hx ⟨rfl,l,r,rfl,a1,a2,a3,a4,a5⟩
   refine aA (fun hge=>?_) (fun hge=>?_)
   ·have hge:l ≥ r:=hge
    exact wpS_pure ⟨rfl,l,r,rfl,by walk_at "jb",a2,a4,a5⟩
   ·have hge:¬ (l ≥ r):=hge
    have hm:lo+(l+r)/2 < (arrOf st').size:=by walk_at "jb"
    refine wpS_bind (dj O (hsa.kind.trans hk) (hI.sa hsa) hk' hm ?_)
    cases e:blt (G (arrOf st') (lo+k)) (G (arrOf st') (lo+(l+r)/2)) with
    | true =>
     refine aA (fun _=>wpS_pure ⟨rfl,l,(l+r)/2,rfl,by walk_at "jb",by walk_at "jb",by walk_at "jb",a4,fun i b1 b2=>?_⟩) (fun z=>absurd rfl z)
     exact O.le_lt e (hsg (lo+(l+r)/2) i (by walk_at "jb") (by walk_at "jb") (by walk_at "jb"))
    | false =>
     refine aA (fun z=>absurd z Bool.false_ne_true) (fun _=>wpS_pure ⟨rfl,(l+r)/2+1,r,rfl,by walk_at "jb",by walk_at "jb",by walk_at "jb",fun i b1 b2=>?_,a5⟩)
     exact O.trans _ _ _ (hsg i (lo+(l+r)/2) b1 (by walk_at "jb") (by walk_at "jb")) e
  case post1 =>
   rintro c st' ⟨rfl,l,r,rfl,rfl,a2,a4,a5⟩
   have e:(lo+k) - (lo+l)=k - l:=by walk_at "jb"
   have md:∀ (R:PUnit→SortSt→Prop),R ⟨⟩ (setArr st' (bubble (arrOf st') (lo+k) (lo+k - (lo+l))))→wpS M A E s (moveDown' (lo+k) (lo+l)) R st':=fun R hr=>by
    rw [moveDown'_eq];exact wpS_modify hr
   refine wpS_bind (md _ (wpS_pure ⟨rfl,hsa.trans (Aj (by walk_at "jb") (by walk_at "jb") hk'),fun i j b1 b2 b3=>?_⟩))
   show blt (G (bubble (arrOf st') (lo+k) (lo+k - (lo+l))) j) (G (bubble (arrOf st') (lo+k) (lo+k - (lo+l))) i)=false
   rw [ms hk' (by walk_at "jb"),ms hk' (by walk_at "jb"),show lo+k - (lo+k - (lo+l))=lo+l by walk_at "jb"]
   repeat' split
   all_goals first
    | (exfalso;lia)
    | exact O.refl _
    | exact a4 _ (by walk_at "jb") (by walk_at "jb")
    | exact O.asymm _ _ (a5 _ (by walk_at "jb") (by walk_at "jb"))
    | exact hsg _ _ (by walk_at "jb") (by walk_at "jb") (by walk_at "jb")
def splice (xs:Array Keyed) (off:Nat) (l:List Keyed) (n:Nat):Array Keyed:=(l.zipIdx n).foldl (fun a (p,j)=>a.setIfInBounds (off+j) p) xs
theorem g8:∀ (l:List Keyed) (xs:Array Keyed) (off n:Nat),off+n+l.length≤xs.size→(splice xs off l n).toList=xs.toList.take (off+n)++l++xs.toList.drop (off+n+l.length)
 | [],xs,off,n,h=>by
  show xs.toList=_
  simp
 | x::r,xs,off,n,h=>by
  rw [List.length_cons] at h
  have ih:=g8 r (xs.setIfInBounds (off+n) x) off (n+1) (by simp;lia)
  show (splice (xs.setIfInBounds (off+n) x) off r (n+1)).toList=_
  rw [ih]
  have hs:off+n < xs.toList.length:=by rw [Array.length_toList];lia
  have e:(xs.setIfInBounds (off+n) x).toList=xs.toList.take (off+n)++x::xs.toList.drop (off+n+1):=by
   rw [Array.toList_setIfInBounds,List.set_eq_take_append_cons_drop,if_pos hs]
  have hl:(xs.toList.take (off+n)).length=off+n:=by rw [List.length_take];lia
  rw [e,show off+(n+1)=(xs.toList.take (off+n)).length+1 by walk_at "jb",List.take_length_add_append,List.length_cons]
  rw [show (xs.toList.take (off+n)).length+1+r.length=(xs.toList.take (off+n)).length+(1+r.length) by walk_at "jb",List.drop_length_add_append]
  rw [List.take_succ_cons,List.take_zero,show 1+r.length=r.length+1 by walk_at "jb",List.drop_succ_cons,List.drop_drop]
  simp [show off+n+1+r.length=off+n+(r.length+1) by walk_at "jb"]
end
theorem tq (xs:Array Keyed) (i:Nat):G xs i=(xs.toList[i]?).getD (.none,.none):=by unfold G;rw [Array.getElem?_toList]
theorem mH {xs:Array Keyed} {off:Nat} {l:List Keyed} (h:off+l.length≤xs.size) (i:Nat):G (splice xs off l 0) i=if off≤i∧i < off+l.length then (l[i - off]?).getD (.none,.none) else G xs i:=by
 rw [tq,g8 l xs off 0 (by lia),Nat.add_zero]
 have hl:(xs.toList.take off).length=off:=by rw [List.length_take,Array.length_toList];lia
 by_cases h1:i < off
 ·rw [if_neg (by lia),List.append_assoc,List.getElem?_append_left (by lia),List.getElem?_take_of_lt h1,← tq]
 ·by_cases h2:i < off+l.length
  ·rw [if_pos (by lia),List.getElem?_append_left (by rw [List.length_append];lia),List.getElem?_append_right (by lia),hl]
  ·rw [if_neg (by lia),List.getElem?_append_right (by rw [List.length_append];lia),List.length_append,hl,List.getElem?_drop,show off+l.length+(i - (off+l.length))=i by lia,← tq]
theorem pJ {xs:Array Keyed} {off:Nat} {l:List Keyed} (h:off+l.length≤xs.size) (hp:l.Perm ((xs.toList.drop off).take l.length)):(splice xs off l 0).Perm xs:=by
 rw [Array.perm_iff_toList_perm,g8 l xs off 0 (by lia),Nat.add_zero]
 have e:xs.toList=xs.toList.take off++(xs.toList.drop off).take l.length++xs.toList.drop (off+l.length):=by
  rw [List.append_assoc,← List.drop_drop,List.take_append_drop,List.take_append_drop]
 refine List.Perm.trans ?_ (List.Perm.of_eq e.symm)
 exact ((hp.append_left _)).append_right _
section
variable {M:Model} {A:Around} {E:Value→Shared→Prop} {s:Shared} {blt:Keyed→Keyed→Bool} {k₀:SortKind} {In:Keyed→Prop}
theorem z9 {x:SortSt} {Q:PUnit→SortSt→Prop} {st:SortSt} (h:Q ⟨⟩ x):wpS M A E s (set x:StateT SortSt Sem PUnit) Q st:=by
 unfold wpS;rw [StateT.run_set];exact wpAny_pure ⟨rfl,h⟩
structure MA (sa hi:Nat) (P:Array (Nat×Nat×Nat)) (blt:Keyed→Keyed→Bool) (st st':SortSt):Prop where
 kind:kindOf st'=kindOf st
 pend:pendingOf st'=P
 failed:failedOf st'=failedOf st
 perm:(arrOf st').Perm (arrOf st)
 out:∀ k,k < sa∨hi≤k→G (arrOf st') k=G (arrOf st) k
 seg:SegG blt (arrOf st') sa hi
theorem tS {xs:Array Keyed} {lo hi i j:Nat} (h:SegG blt xs lo hi) (hi':hi≤xs.size) (h1:lo≤i) (h2:j≤hi):Seg blt (xs.extract i j) 0 (xs.extract i j).size:=fun p q hp hq _ hpq _=>by
 rw [Array.size_extract] at hp hq
 rw [Array.getElem_extract,Array.getElem_extract]
 have:=h (i+p) (i+q) (by lia) (by lia) (by lia)
 rwa [mq (by lia),mq (by lia)] at this
theorem sF (O:Orc M A E s blt k₀ In) {st:SortSt} {i sa na pw sb nb qw:Nat} {Q:Bool→SortSt→Prop} (h1:(pendingOf st)[i]?=some (sa,na,pw)) (h2:(pendingOf st)[i+1]?=some (sb,nb,qw)) (hk:kindOf st=k₀) (hI:AllIn In st) (hf:failedOf st=none)
  (ha:1≤na) (hb:1≤nb) (hab:sb=sa+na) (hz:sb+nb≤(arrOf st).size) (sga:SegG blt (arrOf st) sa sb) (sgb:SegG blt (arrOf st) sb (sb+nb))
  (hq:∀ st',MA sa (sb+nb) (((pendingOf st).setIfInBounds i (sa,na+nb,pw)).eraseIdxIfInBounds (i+1)) blt st st'→Q true st'):wpS M A E s (mergeAt' i) Q st:=by
 have hA:∀ j (h:j < (arrOf st).size),In (arrOf st)[j]:=fun j h=>hI.at h
 refine wpS_bind (wpS_get ?_)
 rw [h1,h2]
 refine wpS_bind (z9 ?_)
 have ib:sb < (arrOf st).size:=by lia
 refine wpS_bind (aX ib ?_)
 refine wpS_bind (cK O (arr:=arrOf st) (base:=sa) (n:=na) (hint:=0) (by lia) (by lia) (hA _ _) hA hk (by rw [← hab];exact sga.seg) fun k hkn u1 u2=>?_)
 have u1':∀ j,sa≤j→j < sa+k→blt (G (arrOf st) sb) (G (arrOf st) j)=false:=fun j a b=>by
  rw [mq ib,mq (show j < _ by lia)]
  exact qW (by have:=u1 (j - sa) (by lia) (by lia);simpa only [show sa+(j - sa)=j by lia] using this)
 have u2':∀ j,sa+k≤j→j < sb→blt (G (arrOf st) sb) (G (arrOf st) j)=true:=fun j a b=>by
  rw [mq ib,mq (show j < _ by lia)]
  exact qW (by have:=u2 (j - sa) (by lia) (by lia) (by lia);simpa only [show sa+(j - sa)=j by lia] using this)
 have same:∀ (sg:SegG blt (arrOf st) sa (sb+nb)),MA sa (sb+nb) (((pendingOf st).setIfInBounds i (sa,na+nb,pw)).eraseIdxIfInBounds (i+1)) blt st (SortSt.mk' (kindOf st) (arrOf st) (((pendingOf st).setIfInBounds i (sa,na+nb,pw)).eraseIdxIfInBounds (i+1)) (gallopOf st) (failedOf st)):=fun sg=>⟨rfl,rfl,rfl,Array.Perm.refl _,fun _ _=>rfl,sg⟩
 refine aA (fun hn0=>wpS_pure (hq _ (same fun p q a b c=>?_))) (fun hn0=>?_)
 ·have hn0:na - k=0:=by simpa using hn0
  by_cases hp:p < sb
  ·by_cases hq':q < sb
   ·exact sga p q a b hq'
   ·exact O.trans _ _ _ (u1' p a (by lia)) (sgb sb q (Nat.le_refl _) (by lia) c)
  ·exact sgb p q (by lia) b c
 have hn0:na - k≠0:=by simpa using hn0
 have il:sa+k+(na - k) - 1 < (arrOf st).size:=by lia
 refine wpS_bind (aX il ?_)
 refine wpS_bind (cK O (arr:=arrOf st) (base:=sb) (n:=nb) (hint:=nb - 1) (by lia) (by lia) (hA _ _) hA hk sgb.seg fun m hmn v1 v2=>?_)
 have el:sa+k+(na - k) - 1=sb - 1:=by lia
 have v1':∀ j,sb≤j→j < sb+m→blt (G (arrOf st) j) (G (arrOf st) (sb - 1))=true:=fun j a b=>by
  rw [← el,mq il,mq (show j < _ by lia)]
  exact ln (by have:=v1 (j - sb) (by lia) (by lia);simpa only [show sb+(j - sb)=j by lia] using this)
 have v2':∀ j,sb+m≤j→j < sb+nb→blt (G (arrOf st) j) (G (arrOf st) (sb - 1))=false:=fun j a b=>by
  rw [← el,mq il,mq (show j < _ by lia)]
  exact ln (by have:=v2 (j - sb) (by lia) (by lia) (by lia);simpa only [show sb+(j - sb)=j by lia] using this)
 refine aA (fun hm0=>wpS_pure (hq _ (same fun p q a b c=>?_))) (fun hm0=>?_)
 ·have hm0:m=0:=by simpa using hm0
  by_cases hp:p < sb
  ·by_cases hq':q < sb
   ·exact sga p q a b hq'
   ·exact O.trans _ _ _ (sga p (sb - 1) a (by lia) (by lia)) (v2' q (by lia) c)
  ·exact sgb p q (by lia) b c
 have hm0:m≠0:=by simpa using hm0
 -- the two stretches
 have zx:((arrOf st).extract (sa+k) sb).size=na - k:=by rw [Array.size_extract];lia
 have zy:((arrOf st).extract sb (sb+m)).size=m:=by rw [Array.size_extract];lia
 have gx:∀ j (h:j < ((arrOf st).extract (sa+k) sb).size),((arrOf st).extract (sa+k) sb)[j]=G (arrOf st) (sa+k+j):=fun j h=>by rw [Array.getElem_extract,mq]
 have gy:∀ j (h:j < ((arrOf st).extract sb (sb+m)).size),((arrOf st).extract sb (sb+m))[j]=G (arrOf st) (sb+j):=fun j h=>by rw [Array.getElem_extract,mq]
 have inx:∀ j (h:j < ((arrOf st).extract (sa+k) sb).size),In ((arrOf st).extract (sa+k) sb)[j]:=fun j h=>by rw [Array.getElem_extract];exact hA _ _
 have iny:∀ j (h:j < ((arrOf st).extract sb (sb+m)).size),In ((arrOf st).extract sb (sb+m))[j]:=fun j h=>by rw [Array.getElem_extract];exact hA _ _
 have sx:=tS sga (by lia) (show sa≤sa+k by lia) (Nat.le_refl sb)
 have sy:=tS sgb hz (Nat.le_refl sb) (show sb+m≤sb+nb by lia)
 have b0:blt (((arrOf st).extract sb (sb+m))[0]'(by lia)) (((arrOf st).extract (sa+k) sb)[0]'(by lia))=true:=by
  rw [gx,gy]
  exact u2' _ (by lia) (by lia)
 have bl:∀ j (h:j < ((arrOf st).extract sb (sb+m)).size),blt ((arrOf st).extract sb (sb+m))[j] (((arrOf st).extract (sa+k) sb)[((arrOf st).extract (sa+k) sb).size - 1]'(by lia))=true:=fun j h=>by
  rw [gx,gy,zx,show sa+k+(na - k - 1)=sb - 1 by lia]
  exact v1' _ (by lia) (by lia)
 have lx:((arrOf st).extract (sa+k) sb).toList++((arrOf st).extract sb (sb+m)).toList=((arrOf st).toList.drop (sa+k)).take (na - k+m):=by
  rw [fg,fg,show na - k+m=(sb - (sa+k))+m by lia,List.take_add,List.drop_drop,show sa+k+(sb - (sa+k))=sb by lia,show sb+m - sb=m by lia]
 have fin:∀ (r:Array Keyed) (st2:SortSt),SG (SortSt.mk' (kindOf st) (arrOf st) (((pendingOf st).setIfInBounds i (sa,na+nb,pw)).eraseIdxIfInBounds (i+1)) (gallopOf st) (failedOf st)) st2→Res (leB blt) (((arrOf st).extract (sa+k) sb).toList++((arrOf st).extract sb (sb+m)).toList) r.toList →
   MA sa (sb+nb) (((pendingOf st).setIfInBounds i (sa,na+nb,pw)).eraseIdxIfInBounds (i+1)) blt st (SortSt.mk' (kindOf st2) (splice (arrOf st2) (sa+k) r.toList 0) (pendingOf st2) (gallopOf st2) (failedOf st2)):=by
  intro r st2 g ⟨rp,rs⟩
  have ga:arrOf st2=arrOf st:=g.arr
  have rl:r.toList.length=na - k+m:=by rw [rp.length_eq,List.length_append,Array.length_toList,Array.length_toList,zx,zy]
  have hz2:sa+k+r.toList.length≤(arrOf st).size:=by lia
  rw [lx] at rp
  refine ⟨g.kind,g.pend,g.failed,?_,fun p hp=>?_,fun p q a b c=>?_⟩
  ·show (splice (arrOf st2) (sa+k) r.toList 0).Perm _
   rw [ga]
   exact pJ hz2 (by rw [rl];exact rp)
  ·show G (splice (arrOf st2) (sa+k) r.toList 0) p=_
   rw [ga,mH hz2,if_neg (by lia)]
  ·show blt (G (splice (arrOf st2) (sa+k) r.toList 0) q) (G (splice (arrOf st2) (sa+k) r.toList 0) p)=false
   rw [ga,mH hz2,mH hz2,rl]
   -- a thing of the merged stretch is one of the old
   have old:∀ x,sa+k≤x→x < sa+k+(na - k+m)→∃ y,sa+k≤y∧y < sb+m∧(r.toList[x - (sa+k)]?).getD (.none,.none)=G (arrOf st) y:=fun x x1 x2=>by
    have hx:x - (sa+k) < r.toList.length:=by lia
    rw [List.getElem?_eq_getElem hx]
    obtain ⟨j,hj,j1,j2,e⟩:=fh (rp.mem_iff.mp (List.getElem_mem hx))
    exact ⟨j,j1,by lia,by rw [mq hj,e];rfl⟩
   by_cases hp:sa+k≤p∧p < sa+k+(na - k+m)
   ·rw [if_pos hp]
    by_cases hq':sa+k≤q∧q < sa+k+(na - k+m)
    ·rw [if_pos hq',List.getElem?_eq_getElem (show p - (sa+k) < _ by lia),List.getElem?_eq_getElem (show q - (sa+k) < _ by lia)]
     by_cases hpq:p=q
     ·subst hpq;exact O.refl _
     ·exact (List.pairwise_iff_getElem.mp rs) _ _ _ _ (by lia)
    ·rw [if_neg hq']
     obtain ⟨y,y1,y2,e⟩:=old p hp.1 hp.2
     rw [e]
     by_cases hy:y < sb
     ·exact O.trans _ _ _ (sga y (sb - 1) (by lia) (by lia) (by lia)) (v2' q (by lia) c)
     ·exact sgb y q (by lia) (by lia) c
   ·rw [if_neg hp]
    by_cases hq':sa+k≤q∧q < sa+k+(na - k+m)
    ·rw [if_pos hq']
     obtain ⟨y,y1,y2,e⟩:=old q hq'.1 hq'.2
     rw [e]
     by_cases hy:y < sb
     ·exact sga p y a (by lia) hy
     ·exact O.trans _ _ _ (u1' p a (by lia)) (sgb sb y (Nat.le_refl _) (by lia) (by lia))
    ·rw [if_neg hq']
     by_cases hps:p < sb
     ·by_cases hqs:q < sb
      ·exact sga p q a b hqs
      ·exact O.trans _ _ _ (u1' p a (by lia)) (sgb sb q (Nat.le_refl _) (by lia) c)
     ·exact sgb p q (by lia) b c
 refine aA (fun _=>?_) (fun _=>?_)
 ·refine wpS_bind (sd O (a:=(arrOf st).extract (sa+k) sb) (b:=(arrOf st).extract sb (sb+m)) (st:=SortSt.mk' (kindOf st) (arrOf st) (((pendingOf st).setIfInBounds i (sa,na+nb,pw)).eraseIdxIfInBounds (i+1)) (gallopOf st) (failedOf st)) hk inx iny sx sy (by lia) (by lia) b0 bl fun r st2 g hr=>?_)
  refine wpS_bind (wpS_modify (wpS_bind (wpS_get ?_)))
  have hfn:(failedOf st2).isNone=true:=by rw [show failedOf st2=none from g.failed.trans hf];rfl
  exact wpS_pure (by
   show Q (failedOf st2).isNone _
   rw [hfn]
   exact hq _ (fin r st2 g hr))
 ·refine wpS_bind (ro O (a:=(arrOf st).extract (sa+k) sb) (b:=(arrOf st).extract sb (sb+m)) (st:=SortSt.mk' (kindOf st) (arrOf st) (((pendingOf st).setIfInBounds i (sa,na+nb,pw)).eraseIdxIfInBounds (i+1)) (gallopOf st) (failedOf st)) hk inx iny sx sy (by lia) (by lia) b0 bl fun r st2 g hr=>?_)
  refine wpS_bind (wpS_modify (wpS_bind (wpS_get ?_)))
  have hfn:(failedOf st2).isNone=true:=by rw [show failedOf st2=none from g.failed.trans hf];rfl
  exact wpS_pure (by
   show Q (failedOf st2).isNone _
   rw [hfn]
   exact hq _ (fin r st2 g hr))
end
def Runs (blt:Keyed→Keyed→Bool) (xs:Array Keyed):List (Nat×Nat×Nat)→Nat→Nat→Prop
 | [],lo,hi=>lo=hi
 | t::r,lo,hi=>t.1=lo∧1≤t.2.1∧SegG blt xs lo (lo+t.2.1)∧Runs blt xs r (lo+t.2.1) hi
section
variable {blt:Keyed→Keyed→Bool} {xs ys:Array Keyed}
theorem Runs.le:∀ {p:List (Nat×Nat×Nat)} {lo hi:Nat},Runs blt xs p lo hi→lo+p.length≤hi
 | [],lo,hi,h=>by
  have h:lo=hi:=h
  simp [h]
 | t::r,lo,hi,⟨h1,h2,h3,h4⟩=>by
  have:=Runs.le h4
  rw [List.length_cons];lia
theorem Runs.congr:∀ {p:List (Nat×Nat×Nat)} {lo hi:Nat},Runs blt xs p lo hi→(∀ k,lo≤k→k < hi→G ys k=G xs k)→Runs blt ys p lo hi
 | [],lo,hi,h,_=>h
 | t::r,lo,hi,⟨h1,h2,h3,h4⟩,e=>by
  have hle:=Runs.le h4
  refine ⟨h1,h2,fun i j a b c=>?_,Runs.congr h4 fun k a b=>e k (by lia) b⟩
  rw [e i a (by lia),e j (by lia) (by lia)]
  exact h3 i j a b c
theorem Runs.snoc:∀ {p:List (Nat×Nat×Nat)} {lo hi n w:Nat},Runs blt xs p lo hi→1≤n→SegG blt xs hi (hi+n)→Runs blt xs (p++[(hi,n,w)]) lo (hi+n)
 | [],lo,hi,n,w,h,h1,h2=>by
  have h:lo=hi:=h
  subst h
  exact ⟨rfl,h1,h2,rfl⟩
 | t::r,lo,hi,n,w,⟨a,b,c,d⟩,h1,h2=>⟨a,b,c,Runs.snoc d h1 h2⟩
theorem Runs.map {f:Nat×Nat×Nat→Nat×Nat×Nat} (hf:∀ t,(f t).1=t.1∧(f t).2.1=t.2.1):∀ {p:List (Nat×Nat×Nat)} {lo hi i:Nat},Runs blt xs p lo hi→Runs blt xs (p.modify i f) lo hi
 | [],lo,hi,i,h=>by rw [List.modify_nil];exact h
 | t::r,lo,hi,0,⟨a,b,c,d⟩=>by
  rw [List.modify_zero_cons]
  exact ⟨(hf t).1.trans a,by rw [(hf t).2];exact b,by rw [(hf t).2];exact c,by rw [(hf t).2];exact d⟩
 | t::r,lo,hi,i+1,⟨a,b,c,d⟩=>by
  rw [List.modify_succ_cons]
  exact ⟨a,b,c,Runs.map hf d⟩
theorem Runs.two:∀ {pre post:List (Nat×Nat×Nat)} {x y:Nat×Nat×Nat} {lo hi:Nat},Runs blt xs (pre++x::y::post) lo hi →
  1≤x.2.1∧1≤y.2.1∧y.1=x.1+x.2.1∧lo≤x.1∧y.1+y.2.1≤hi∧SegG blt xs x.1 y.1∧SegG blt xs y.1 (y.1+y.2.1) ∧
  ∀ (ys:Array Keyed) (w:Nat),(∀ k,k < x.1∨y.1+y.2.1≤k→G ys k=G xs k)→SegG blt ys x.1 (y.1+y.2.1)→Runs blt ys (pre++(x.1,x.2.1+y.2.1,w)::post) lo hi
 | [],post,x,y,lo,hi,⟨a,b,c,a2,b2,c2,d2⟩=>by
  have hle:=Runs.le d2
  subst a
  refine ⟨b,b2,a2,Nat.le_refl _,by lia,by rw [a2];exact c,by rw [a2];exact c2,fun ys w out sg=>?_⟩
  refine ⟨rfl,by show 1≤x.2.1+y.2.1;lia,?_,?_⟩
  ·show SegG blt ys x.1 (x.1+(x.2.1+y.2.1))
   rwa [show x.1+(x.2.1+y.2.1)=y.1+y.2.1 by lia]
  ·show Runs blt ys post (x.1+(x.2.1+y.2.1)) hi
   rw [show x.1+(x.2.1+y.2.1)=x.1+x.2.1+y.2.1 by lia]
   exact d2.congr fun k k1 k2=>out k (by lia)
 | t::pre,post,x,y,lo,hi,⟨a,b,c,d⟩=>by
  obtain ⟨e1,e2,e3,e4,e5,e6,e7,e8⟩:=Runs.two d
  refine ⟨e1,e2,e3,by lia,e5,e6,e7,fun ys w out sg=>⟨a,b,fun i j p q r=>?_,e8 ys w out sg⟩⟩
  rw [out i (by lia),out j (by lia)]
  exact c i j p q r
end
theorem qA {α:Type}:∀ {l:List α} {i:Nat},i+1 < l.length→∃ pre x y post,l=pre++x::y::post∧pre.length=i
 | a::b::r,0,_=>⟨[],a,b,r,rfl,rfl⟩
 | a::r,i+1,h=>by
  rw [List.length_cons] at h
  obtain ⟨pre,x,y,post,e,hl⟩:=qA (l:=r) (i:=i) (by lia)
  exact ⟨a::pre,x,y,post,by rw [e];rfl,by rw [List.length_cons,hl]⟩
theorem oD {p:Array (Nat×Nat×Nat)} {pre post:List (Nat×Nat×Nat)} {x y t:Nat×Nat×Nat} (e:p.toList=pre++x::y::post):((p.setIfInBounds pre.length t).eraseIdxIfInBounds (pre.length+1)).toList=pre++t::post:=by
 have hs:pre.length+1 < p.size:=by
  rw [← Array.length_toList,e];simp
 rw [Array.eraseIdxIfInBounds_eq,dif_pos (by rw [Array.size_setIfInBounds];exact hs),Array.toList_eraseIdx,Array.toList_setIfInBounds,e]
 rw [List.set_append_right _ _ (Nat.le_refl _),Nat.sub_self,List.set_cons_zero,List.eraseIdx_append_of_length_le (by lia)]
 rw [show pre.length+1 - pre.length=1 by lia]
 rfl
structure SR (blt:Keyed→Keyed→Bool) (st st':SortSt) (lo:Nat):Prop where
 kind:kindOf st'=kindOf st
 failed:failedOf st'=failedOf st
 perm:(arrOf st').Perm (arrOf st)
 runs:Runs blt (arrOf st') (pendingOf st').toList 0 lo
section
variable {M:Model} {A:Around} {E:Value→Shared→Prop} {s:Shared} {blt:Keyed→Keyed→Bool} {k₀:SortKind} {In:Keyed→Prop}
theorem AllIn.perm {st st':SortSt} (h:AllIn In st) (g:(arrOf st').Perm (arrOf st)):AllIn In st':=fun x hx=>h x ((Array.perm_iff_toList_perm.mp g).mem_iff.mp hx)
theorem ky (O:Orc M A E s blt k₀ In) {st st1:SortSt} {i lo:Nat} {Q:Bool→SortSt→Prop} (hk:kindOf st=k₀) (hI:AllIn In st) (hf:failedOf st=none) (h:SR blt st st1 lo) (hl:lo≤(arrOf st).size) (hi:i+1 < (pendingOf st1).size)
  (hq:∀ st2,SR blt st st2 lo→(pendingOf st2).size+1=(pendingOf st1).size→(∀ k,lo≤k→G (arrOf st2) k=G (arrOf st1) k)→Q true st2):wpS M A E s (mergeAt' i) Q st1:=by
 obtain ⟨pre,x,y,post,e,el⟩:=qA (l:=(pendingOf st1).toList) (i:=i) (by rw [Array.length_toList];exact hi)
 subst el
 have hr:=h.runs
 rw [e] at hr
 obtain ⟨e1,e2,e3,e4,e5,e6,e7,e8⟩:=hr.two
 have gx:(pendingOf st1)[pre.length]?=some x:=by rw [← Array.getElem?_toList,e];simp
 have gy:(pendingOf st1)[pre.length+1]?=some y:=by rw [← Array.getElem?_toList,e];simp
 have sz:(arrOf st1).size=(arrOf st).size:=h.perm.size_eq
 refine sF O (sa:=x.1) (na:=x.2.1) (pw:=x.2.2) (sb:=y.1) (nb:=y.2.1) (qw:=y.2.2) gx gy (h.kind.trans hk) (hI.perm h.perm) (h.failed.trans hf) e1 e2 e3 (by lia) e6 e7 fun st2 m=>?_
 have el:(pendingOf st2).toList=pre++(x.1,x.2.1+y.2.1,x.2.2)::post:=by rw [m.pend];exact oD e
 refine hq st2 ⟨m.kind.trans h.kind,m.failed.trans h.failed,m.perm.trans h.perm,by rw [el];exact e8 _ _ m.out m.seg⟩ ?_ fun k hk'=>m.out k (.inr (by lia))
 rw [← Array.length_toList,← Array.length_toList,el,e]
 simp
 lia
end
section
variable {M:Model} {A:Around} {E:Value→Shared→Prop} {s:Shared} {blt:Keyed→Keyed→Bool} {k₀:SortKind} {In:Keyed→Prop}
theorem pB (O:Orc M A E s blt k₀ In) {st:SortSt} {Q:Unit→SortSt→Prop} (hk:kindOf st=k₀) (hI:AllIn In st) (hf:failedOf st=none) (hp:pendingOf st=#[]) (h2:2≤(arrOf st).size)
  (hq:∀ st',(arrOf st').Perm (arrOf st)→failedOf st'=none→SegG blt (arrOf st') 0 (arrOf st).size→Q () st'):wpS M A E s sortRuns' Q st:=by
 refine wpS_bind (wpS_get ?_)
 have r0:SR blt st st 0:=⟨rfl,rfl,Array.Perm.refl _,by rw [hp];rfl⟩
 refine wpS_bind (wpS_mono (wpS_forRange (a:=0) (b:=(arrOf st).size) (I:=fun x c st'=>∃ lo,c=(none,lo)∧SR blt st st' lo∧lo≤(arrOf st).size∧min x (arrOf st).size≤lo)
  (Q:=fun c st'=>c=(none,(arrOf st).size)∧SR blt st st' (arrOf st).size) ?step ?fin ⟨0,rfl,r0,Nat.zero_le _,by lia⟩) ?post)
 case fin =>
  rintro c st' ⟨lo,rfl,h,a,b⟩
  have:lo=(arrOf st).size:=by lia
  subst this
  exact ⟨rfl,h⟩
 case post =>
  rintro c st' ⟨rfl,h⟩
  have h0:=h.runs.le
  rw [Array.length_toList] at h0
  refine wpS_bind (wpS_mono (wpS_forRange (a:=0) (b:=(arrOf st).size) (I:=fun x c st'=>c=(none,())∧SR blt st st' (arrOf st).size∧(pendingOf st').size≤max 1 ((arrOf st).size - x))
   (Q:=fun c st'=>c=(none,())∧SR blt st st' (arrOf st).size∧(pendingOf st').size≤1) ?stepf ?finf ⟨rfl,h,by lia⟩) ?postf)
  case finf =>
   rintro c st1 ⟨rfl,h1,e1⟩
   exact ⟨rfl,h1,by lia⟩
  case stepf =>
   rintro x c st1 _ hx ⟨rfl,h1,e1⟩
   refine wpS_bind (wpS_get ?_)
   refine aA (fun hle=>wpS_pure ⟨rfl,h1,hle⟩) (fun hle=>?_)
   have hle:¬ ((pendingOf st1).size≤1):=hle
   refine wpS_bind (ky O hk hI hf h1 (Nat.le_refl _) ?_ fun st5 h5 e5 _=>?_)
   ·have ix:∀ (c:Prop) [Decidable c],(if c then (pendingOf st1).size - 2 - 1 else (pendingOf st1).size - 2)+1 < (pendingOf st1).size:=by
     intro c _
     split <;> lia
    exact ix _
   ·exact aA (fun z=>by cases z) (fun _=>wpS_pure ⟨rfl,h5,by lia⟩)
  case postf =>
   rintro c st1 ⟨rfl,h1,e1⟩
   refine wpS_pure (hq st1 h1.perm (h1.failed.trans hf) ?_)
   have hr:=h1.runs
   rw [← Array.length_toList] at e1
   generalize (pendingOf st1).toList=l at hr e1
   match l,hr,e1 with
   | [],hr,_ =>
    have hr:0=(arrOf st).size:=hr
    lia
   | [t],⟨_,_,sg,e⟩,_ =>
    have e:0+t.2.1=(arrOf st).size:=e
    rw [e] at sg
    exact sg
   | _::_::_,_,e1=>simp at e1
 case step =>
  rintro x c st1 _ hx ⟨lo,rfl,h,a,b⟩
  refine aA (fun hge=>?_) (fun hge=>?_)
  ·have hge:lo ≥ (arrOf st).size:=hge
   have:lo=(arrOf st).size:=by lia
   subst this
   exact wpS_pure ⟨rfl,h⟩
  ·have hge:¬ (lo ≥ (arrOf st).size):=hge
   have sz:(arrOf st1).size=(arrOf st).size:=h.perm.size_eq
   refine wpS_bind (oP O (lo:=lo) (nrem:=(arrOf st).size - lo) (h.kind.trans hk) (hI.perm h.perm) (by lia) (by lia) fun m st2 sa m1 m2 sg=>?_)
   have sz2:=sa.size
   refine aA (fun hlt=>?_) (fun hlt=>?_)
   ·have hlt:m < minRun' (arrOf st).size (arrOf st).size 0:=hlt
    refine wpS_bind (wpS_lift (wpAny_rule ⟨rfl,?_⟩))
    refine wpS_bind (uR O (lo:=lo) (n:=min ((arrOf st).size - lo) (minRun' (arrOf st).size (arrOf st).size 0)) (ok:=m) (sa.kind.trans (h.kind.trans hk)) ((hI.perm h.perm).sa sa) (by lia) (by lia) m1 sg fun st3 sb sg3=>?_)
    refine aA (fun z=>by cases z) (fun _=>?_)
    have sa3:=sa.trans sb
    have n1':1≤min ((arrOf st).size - lo) (minRun' (arrOf st).size (arrOf st).size 0):=by lia
    have n2':min ((arrOf st).size - lo) (minRun' (arrOf st).size (arrOf st).size 0)≤(arrOf st).size - lo:=by lia
    have hr3:SR blt st st3 lo:=⟨sa3.kind.trans h.kind,sa3.failed.trans h.failed,sa3.perm.trans h.perm,by
     rw [sa3.pend]
     exact h.runs.congr fun k _ k2=>sa3.pre k k2⟩
    refine wpS_bind (wpS_get ?_)
    cases hb:(pendingOf st3).back? with
    | none =>
     refine wpS_bind (wpS_modify (wpS_pure ⟨lo+min ((arrOf st).size - lo) (minRun' (arrOf st).size (arrOf st).size 0),rfl,⟨hr3.kind,hr3.failed,hr3.perm,?_⟩,by lia,by lia⟩))
     show Runs blt (arrOf st3) ((pendingOf st3).push (lo,min ((arrOf st).size - lo) (minRun' (arrOf st).size (arrOf st).size 0),0)).toList 0 (lo+min ((arrOf st).size - lo) (minRun' (arrOf st).size (arrOf st).size 0))
     rw [Array.toList_push]
     exact hr3.runs.snoc n1' sg3
    | some t =>
     obtain ⟨s1,n1,w1⟩:=t
     refine wpS_bind (wpS_mono (wpS_forRange (I:=fun _ c st'=>c=(none,())∧SR blt st st' lo∧∀ k,lo≤k→G (arrOf st') k=G (arrOf st3) k) (Q:=fun c st'=>c=(none,())∧SR blt st st' lo∧∀ k,lo≤k→G (arrOf st') k=G (arrOf st3) k) ?step1 (fun _ _ z=>z) ⟨rfl,hr3,fun _ _=>rfl⟩) ?post1)
     case step1 =>
      rintro y c st4 _ hy ⟨rfl,h4,g4⟩
      refine wpS_bind (wpS_get ?_)
      dsimp only
      by_cases hp1:(pendingOf st4).size > 1
      ·rw [if_pos hp1,getElem?_pos (pendingOf st4) ((pendingOf st4).size - 2) (by lia)]
       refine aA (fun _=>wpS_pure ⟨rfl,h4,g4⟩) (fun _=>?_)
       refine wpS_bind (ky O hk hI hf h4 a (show (pendingOf st4).size - 2+1 < _ by lia) fun st5 h5 _ g5=>?_)
       exact aA (fun z=>by cases z) (fun _=>wpS_pure ⟨rfl,h5,fun k hk=>(g5 k hk).trans (g4 k hk)⟩)
      ·rw [if_neg hp1]
       exact wpS_pure ⟨rfl,h4,g4⟩
     case post1 =>
      rintro c st4 ⟨rfl,h4,g4⟩
      refine wpS_bind (wpS_modify (wpS_bind (wpS_modify (wpS_pure ⟨lo+min ((arrOf st).size - lo) (minRun' (arrOf st).size (arrOf st).size 0),rfl,⟨h4.kind,h4.failed,h4.perm,?_⟩,by lia,by lia⟩))))
      show Runs blt (arrOf st4) (((pendingOf st4).modify ((pendingOf st4).size - 1) _).push (lo,min ((arrOf st).size - lo) (minRun' (arrOf st).size (arrOf st).size 0),0)).toList 0 (lo+min ((arrOf st).size - lo) (minRun' (arrOf st).size (arrOf st).size 0))
      rw [Array.toList_push,Array.toList_modify]
      refine Runs.snoc (Runs.map ?_ h4.runs) n1' (fun i j p q r=>?_)
      ·rintro ⟨u1,u2,u3⟩
       exact ⟨rfl,rfl⟩
      rw [g4 i p,g4 j (by lia)]
      exact sg3 i j p q r
   ·have sa3:=sa
    have sg3:=sg
    have n1':=m1
    have hr3:SR blt st st2 lo:=⟨sa3.kind.trans h.kind,sa3.failed.trans h.failed,sa3.perm.trans h.perm,by
     rw [sa3.pend]
     exact h.runs.congr fun k _ k2=>sa3.pre k k2⟩
    refine wpS_bind (wpS_get ?_)
    cases hb:(pendingOf st2).back? with
    | none =>
     refine wpS_bind (wpS_modify (wpS_pure ⟨lo+m,rfl,⟨hr3.kind,hr3.failed,hr3.perm,?_⟩,by lia,by lia⟩))
     show Runs blt (arrOf st2) ((pendingOf st2).push (lo,m,0)).toList 0 (lo+m)
     rw [Array.toList_push]
     exact hr3.runs.snoc n1' sg3
    | some t =>
     obtain ⟨s1,n1,w1⟩:=t
     refine wpS_bind (wpS_mono (wpS_forRange (I:=fun _ c st'=>c=(none,())∧SR blt st st' lo∧∀ k,lo≤k→G (arrOf st') k=G (arrOf st2) k) (Q:=fun c st'=>c=(none,())∧SR blt st st' lo∧∀ k,lo≤k→G (arrOf st') k=G (arrOf st2) k) ?step2 (fun _ _ z=>z) ⟨rfl,hr3,fun _ _=>rfl⟩) ?post2)
     case step2 =>
      rintro y c st4 _ hy ⟨rfl,h4,g4⟩
      refine wpS_bind (wpS_get ?_)
      dsimp only
      by_cases hp1:(pendingOf st4).size > 1
      ·rw [if_pos hp1,getElem?_pos (pendingOf st4) ((pendingOf st4).size - 2) (by lia)]
       refine aA (fun _=>wpS_pure ⟨rfl,h4,g4⟩) (fun _=>?_)
       refine wpS_bind (ky O hk hI hf h4 a (show (pendingOf st4).size - 2+1 < _ by lia) fun st5 h5 _ g5=>?_)
       exact aA (fun z=>by cases z) (fun _=>wpS_pure ⟨rfl,h5,fun k hk=>(g5 k hk).trans (g4 k hk)⟩)
      ·rw [if_neg hp1]
       exact wpS_pure ⟨rfl,h4,g4⟩
     case post2 =>
      rintro c st4 ⟨rfl,h4,g4⟩
      refine wpS_bind (wpS_modify (wpS_bind (wpS_modify (wpS_pure ⟨lo+m,rfl,⟨h4.kind,h4.failed,h4.perm,?_⟩,by lia,by lia⟩))))
      show Runs blt (arrOf st4) (((pendingOf st4).modify ((pendingOf st4).size - 1) _).push (lo,m,0)).toList 0 (lo+m)
      rw [Array.toList_push,Array.toList_modify]
      refine Runs.snoc (Runs.map ?_ h4.runs) n1' (fun i j p q r=>?_)
      ·rintro ⟨u1,u2,u3⟩
       exact ⟨rfl,rfl⟩
      rw [g4 i p,g4 j (by lia)]
      exact sg3 i j p q r
end
structure TO {α:Type} (lt:α→α→Prop):Prop where
 irr:∀ a,¬ lt a a
 tr:∀ a b c,lt a b→lt b c→lt a c
 tri:∀ a b,lt a b∨a=b∨lt b a
theorem TO.lex {α β:Type} {l1:α→α→Prop} {l2:β→β→Prop} (h1:TO l1) (h2:TO l2):TO fun x y:α×β=>l1 x.1 y.1∨(x.1=y.1∧l2 x.2 y.2):=by
 refine ⟨fun a h=>?_,fun a b c h g=>?_,fun a b=>?_⟩
 ·rcases h with h|⟨_,h⟩
  ·exact h1.irr _ h
  ·exact h2.irr _ h
 ·rcases h with h|⟨e,h⟩ <;> rcases g with g|⟨f,g⟩
  ·exact .inl (h1.tr _ _ _ h g)
  ·exact .inl (f ▸ h)
  ·exact .inl (e ▸ g)
  ·exact .inr ⟨e.trans f,h2.tr _ _ _ h g⟩
 ·rcases h1.tri a.1 b.1 with h|h|h
  ·exact .inl (.inl h)
  ·rcases h2.tri a.2 b.2 with g|g|g
   ·exact .inl (.inr ⟨h,g⟩)
   ·exact .inr (.inl (Prod.ext h g))
   ·exact .inr (.inr (.inr ⟨h.symm,g⟩))
  ·exact .inr (.inr (.inl h))
theorem ve:TO (fun a b:Int=>a < b):=⟨fun a=>Int.lt_irrefl a,fun a b c=>Int.lt_trans,fun a b=>by lia⟩
theorem ub:TO (fun a b:List Nat=>a < b):=⟨fun a=>List.lt_irrefl a,fun a b c=>List.lt_trans,fun a b=>by
 by_cases h:a < b
 ·exact .inl h
 ·by_cases g:b < a
  ·exact .inr (.inr g)
  ·exact .inr (.inl (List.le_antisymm (List.not_lt.mp g) (List.not_lt.mp h)))⟩
abbrev K4:Type:=Int×Int×List Nat×Int
def Lt4 (x y:K4):Prop:=x.1 < y.1∨(x.1=y.1∧(x.2.1 < y.2.1∨(x.2.1=y.2.1∧(x.2.2.1 < y.2.2.1∨(x.2.2.1=y.2.2.1∧x.2.2.2 < y.2.2.2)))))
theorem to4:TO Lt4:=ve.lex (ve.lex (ub.lex ve))
instance (x y:K4):Decidable (Lt4 x y):=by unfold Lt4;infer_instance
def blt4 (kd:Value→K4) (x y:Keyed):Bool:=decide (Lt4 (kd x.1) (kd y.1))
def In4 (s:Shared) (kd:Value→K4) (x:Keyed):Prop:=∃ p o xs n a t1 b t2 z t3 c t4,x.1=.ref p∧s.heap.get? p=some o∧o.data=.seq xs n∧xs.toList=[.int a t1,.int b t2,.str z t3,.int c t4]∧kd x.1=(a,b,z.cps.toList,c)
section
variable {prog:Program} {w:World} {A:Around} {E:Value→Shared→Prop} {s:Shared} {kd:Value→K4}
theorem ui {i j:Int} {t u:Tok} {Q:Bool→Shared→Prop} (h:Q (decide (i < j)) s):wpAny (model prog w) A (oneLt' false (.int i t) (.int j u)) Q E s :=
 PySem.W.kat_one _ _ (lt_int (show PySem.W.BoolBack Q (.bool (decide (i < j))) s from h))
theorem ya {x y:Str} {t u:Tok} {Q:Bool→Shared→Prop} (h:Q (decide (x.cps.toList < y.cps.toList)) s):wpAny (model prog w) A (oneLt' false (.str x t) (.str y u)) Q E s :=
 PySem.W.kat_one _ _ (lt_str (show PySem.W.BoolBack Q (.bool (decide (x.cps.toList < y.cps.toList))) s from h))
theorem t9 {x y:Str} (h:x≠y):x.cps.toList≠y.cps.toList:=fun z=>h (by cases x;cases y;congr 1;exact Array.toList_inj.mp z)
theorem l1 {a a':Int} {k l:Int×List Nat×Int} (h:a≠a'):Lt4 (a,k) (a',l) ↔ a < a':=by simp [Lt4,h]
theorem l2 {a b b':Int} {k l:List Nat×Int} (h:b≠b'):Lt4 (a,b,k) (a,b',l) ↔ b < b':=by simp [Lt4,h]
theorem l3 {a b c c':Int} {m n:List Nat} (h:m≠n):Lt4 (a,b,m,c) (a,b,n,c') ↔ m < n:=by simp [Lt4,h]
theorem l4 {a b c c':Int} {m:List Nat}:Lt4 (a,b,m,c) (a,b,m,c') ↔ c < c':=by simp [Lt4,List.lt_irrefl]
theorem orc4:Orc (model prog w) A E s (blt4 kd) (tuples' true) (In4 s kd):=by
 refine ⟨fun x y h=>?_,fun x y z h g=>?_,fun x y st Q hx hy hk hq=>?_⟩
 ·have h:=of_decide_eq_true h
  exact decide_eq_false fun g=>to4.irr _ (to4.tr _ _ _ h g)
 ·have h:=of_decide_eq_false h
  have g:=of_decide_eq_false g
  refine decide_eq_false fun e=>?_
  rcases to4.tri (kd y.1) (kd x.1) with q|q|q
  ·exact h q
  ·exact g (q ▸ e)
  ·exact g (to4.tr _ _ _ e q)
 ·obtain ⟨p,o,xs,n,a,t1,b,t2,z,t3,c,t4,e1,e2,e3,e4,e5⟩:=hx
  obtain ⟨p',o',xs',n',a',t1',b',t2',z',t3',c',t4',f1,f2,f3,f4,f5⟩:=hy
  rw [lt'_eq]
  refine wpS_bind (wpS_get ?_)
  rw [hk,e1,f1]
  have hb:blt4 kd x y=decide (Lt4 (a,b,z.cps.toList,c) (a',b',z'.cps.toList,c')):=by unfold blt4;rw [e5,f5]
  rw [hb] at hq
  have fin:∀ r:Bool,r=decide (Lt4 (a,b,z.cps.toList,c) (a',b',z'.cps.toList,c'))→(fun v s'=>s'=s∧(fun (u:Except Value Bool) (st':SortSt)=>wpS (model prog w) A E s (match u with|.ok b=>pure (some b)|.error e=>do modify (fun s=>SortSt.mk' (kindOf s) (arrOf s) (pendingOf s) (gallopOf s) (some e));pure none) Q st') (.ok v) st) r s:=fun r hr=>⟨rfl,by subst hr;exact wpS_pure hq⟩
  refine wpS_bind (wpS_lift (wpAny_attempt (PySem.W.kat_lt e2 e3 f2 f3 ?_)))
  rw [e4,f4]
  refine PySem.W.kat_cons (wpAny_eqBool_int (PySem.W.kat_go (fun q1=>PySem.W.kat_yes ?_) fun q1=>PySem.W.kat_no (oneLt_int (fin _ ?_))))
  ·refine PySem.W.kat_cons (wpAny_eqBool_int (PySem.W.kat_go (fun q2=>PySem.W.kat_yes ?_) fun q2=>PySem.W.kat_no (ui (fin _ ?_))))
   ·refine PySem.W.kat_cons (wpAny_eqBool_str (PySem.W.kat_go (fun q3=>PySem.W.kat_yes ?_) fun q3=>PySem.W.kat_no (ya (fin _ ?_))))
    ·refine PySem.W.kat_cons (wpAny_eqBool_int (PySem.W.kat_go (fun q4=>PySem.W.kat_yes ?_) fun q4=>PySem.W.kat_no (ui (fin _ ?_))))
     ·have z1:xs.size=4:=by rw [← Array.length_toList,e4];rfl
      have z2:xs'.size=4:=by rw [← Array.length_toList,f4];rfl
      refine PySem.W.kat_nil (fin _ ?_)
      have q1:a=a':=by simpa using q1
      have q2:b=b':=by simpa using q2
      have q3:z=z':=by simpa using q3
      have q4:c=c':=by simpa using q4
      subst q1;subst q2;subst q3;subst q4
      rw [z1,z2,decide_eq_false (to4.irr _)]
      rfl
     ·have q1:a=a':=by simpa using q1
      have q2:b=b':=by simpa using q2
      have q3:z=z':=by simpa using q3
      subst q1;subst q2;subst q3
      exact decide_eq_decide.mpr l4.symm
    ·have q1:a=a':=by simpa using q1
     have q2:b=b':=by simpa using q2
     have q3:z≠z':=by simpa using q3
     subst q1;subst q2
     exact decide_eq_decide.mpr (l3 (t9 q3)).symm
   ·have q1:a=a':=by simpa using q1
    have q2:b≠b':=by simpa using q2
    subst q1
    exact decide_eq_decide.mpr (l2 q2).symm
  ·have q1:a≠a':=by simpa using q1
   exact decide_eq_decide.mpr (l1 q1).symm
end
section
variable {prog:Program} {w:World} {A:Around} {E:Value→Shared→Prop} {s:Shared} {kd:Value→K4} {a kS:Addr} {ks vs:List Value}
def behind (h:Heap) (kS a:Addr) (out:List Value):Heap:=(h.update kS (Obj.mapSeq fun _=>(#[]:Array Value))).update a (Obj.mapSeq fun _=>out.toArray)
theorem ut {st:SortSt} {e e1:Nat} {out:List Value} {P:PySem.Fin→Shared→Prop} (na:s.heap.get? a=some (seqObj "list" #[] e1)) (nk:s.heap.get? kS=some (seqObj "list" ks.toArray e)) (hne:a≠kS)
  (hout:(arrOf st).map (·.2)=out.toArray) (hz:out.length≤1000000) (hkz:ks.length≤1000000) (hf:failedOf st=none) (h:P (.done (.ret .none)) { s with heap:=behind s.heap kS a out }):wpAny (model prog w) A (ksk_tail a false e1 (.ref kS) st) P E s:=by
 have na':(s.heap.update kS (Obj.mapSeq fun _=>(#[]:Array Value))).get? a=some (seqObj "list" #[] e1):=((Heap.SameBut.update s.heap kS (Obj.mapSeq fun _=>(#[]:Array Value))).2 a hne).trans na
 unfold ksk_tail
 try dsimp only
 rw [hout]
 refine wpAny_bind (listUpdate_at nk rfl ?_ (by rw [List.size_toArray,sizeLine_eq];omega) (Nat.zero_le _))
 refine wpAny_bind (wpAny_letGo ?_)
 refine wpAny_bind (seqEpoch_at na' rfl ?_)
 refine wpAny_bind (listUpdate_at na' rfl ?_ (Nat.zero_le _) (by simp only [Bool.false_eq_true,if_false,List.size_toArray,sizeLine_eq];omega))
 rw [hf]
 simp only [bne_self_eq_false,Bool.false_eq_true,if_false]
 exact wpAny_pure h
def Key4 (s:Shared) (kd:Value→K4) (k:Value):Prop:=∃ p o xs n a t1 b t2 z t3 c t4,k=.ref p∧s.heap.get? p=some o∧o.cls=.type "tuple"∧o.data=.seq xs n∧xs.toList=[.int a t1,.int b t2,.str z t3,.int c t4]∧kd k=(a,b,z.cps.toList,c)
theorem firsts4:∀ {ks:List Value},(∀ k∈ks,Key4 s kd k)→∃ fs,PySem.W.KatTups s.heap ks fs∧fs.length=ks.length∧∀ v∈fs,∃ a t,v=Value.int a t
 | [],_=>⟨[],PySem.W.KatTups.nil,rfl,fun v hv=>nomatch hv⟩
 | k::r,h=>by
  obtain ⟨p,o,xs,n,a,t1,b,t2,z,t3,c,t4,rfl,e1,e2,e3,e4,_⟩:=h k (by simp)
  obtain ⟨fs,f1,f2,f3⟩:=firsts4 (ks:=r) fun x hx=>h x (List.mem_cons_of_mem _ hx)
  refine ⟨.int a t1::fs,PySem.W.KatTups.cons e1 e2 e3 (by rw [← Array.getElem?_toList,e4];rfl) f1,by simp [f2],fun v hv=>?_⟩
  rcases List.mem_cons.mp hv with rfl|hv
  ·exact ⟨a,t1,rfl⟩
  ·exact f3 v hv
theorem y3 {e e1:Nat} {P:PySem.Fin→Shared→Prop} (hl:ks.length=vs.length) (h2:2≤vs.length) (hz:vs.length≤1000000) (na:s.heap.get? a=some (seqObj "list" #[] e1)) (nk:s.heap.get? kS=some (seqObj "list" ks.toArray e)) (hne:a≠kS) (hkeys:∀ k∈ks,Key4 s kd k)
  (h:∀ ps:List Keyed,ps.Perm (ks.zip vs)→ps.Pairwise (fun x y=>¬ Lt4 (kd y.1) (kd x.1))→P (.done (.ret .none)) { s with heap:=behind s.heap kS a (ps.map (·.2)) }) :
  wpAny (model prog w) A (ksk_end a false vs.toArray e1 (.ref kS) ks.toArray) P E s:=by
 obtain ⟨fs,f1,f2,f3⟩:=firsts4 hkeys
 have hn2:¬ vs.toArray.size < 2:=by rw [List.size_toArray];omega
 unfold ksk_end
 try dsimp only
 rw [if_neg Bool.false_ne_true,if_neg hn2,if_neg hn2]
 refine wpAny_bind (PySem.W.kat_kind (T:=.type "int") f1 (by omega) (fun v hv=>?_) (by decide +kernel) ?_)
 ·obtain ⟨x,t,rfl⟩:=f3 v hv
  exact PySem.W.Looks.of_pure rfl
 rw [if_neg Bool.false_ne_true]
 have zl:(ks.toArray.zip vs.toArray).toList=ks.zip vs:=by simp
 have zs:(ks.toArray.zip vs.toArray).size=vs.length:=by rw [← Array.length_toList,zl,List.length_zip];omega
 have ek:tuples' ((Value.type "int") != Value.type "tuple")=tuples' true:=by rfl
 rw [ek]
 refine wpAny_bind (wpAny_mono (pB (orc4 (kd:=kd)) (st:=SortSt.mk' (tuples' true) (ks.toArray.zip vs.toArray) #[] 7 none)
  (Q:=fun _ st'=>(arrOf st').Perm (ks.toArray.zip vs.toArray)∧failedOf st'=none∧SegG (blt4 kd) (arrOf st') 0 (ks.toArray.zip vs.toArray).size) rfl (fun x hx=>?_) rfl rfl (by show 2≤(ks.toArray.zip vs.toArray).size;omega) fun st' a1 a2 a3=>⟨a1,a2,a3⟩) ?_ fun _ _ z=>z)
 ·have hx:x∈ks.zip vs:=by rw [← zl];exact hx
  obtain ⟨p,o,xs,n,a,t1,b,t2,z,t3,c,t4,e0,e1,e2,e3,e4,e5⟩:=hkeys x.1 (List.of_mem_zip hx).1
  exact ⟨p,o,xs,n,a,t1,b,t2,z,t3,c,t4,e0,e1,e3,e4,e5⟩
 rintro ⟨⟨⟩,st'⟩ s' ⟨rfl,hp,hf,hs⟩
 have hpl:(arrOf st').toList.Perm (ks.zip vs):=by rw [← zl];exact Array.perm_iff_toList_perm.mp hp
 refine ut (out:=(arrOf st').toList.map (·.2)) na nk hne (by apply Array.toList_inj.mp;rw [Array.toList_map]) (by rw [List.length_map,hpl.length_eq,List.length_zip];omega) (by omega) hf (h _ hpl ?_)
 rw [List.pairwise_iff_getElem]
 intro i j hi hj hij
 rw [Array.length_toList] at hi hj
 have:=hs i j (by omega) (by omega) (by rw [← hp.size_eq];exact hj)
 rw [mq hi,mq hj] at this
 simpa using of_decide_eq_false this
end
end TS
namespace L2
open PySem PySem.Spec PyProof.Rows
open TS (K4 Lt4)
theorem qI {α:Type} {a:α} {P:Prop} (h:(none:Option α)=some a):P:=by cases h
def asI:D→Option Int
 | .int n=>some n
 | _=>none
def asS:D→Option Str
 | .str z=>some z
 | _=>none
theorem jm {d:D} {n:Int} (h:asI d=some n):d=.int n:=by
 cases d with
 | int i=>exact congrArg D.int (Option.some.inj h)
 | _=>exact qI (a:=n) h
theorem yf {d:D} {z:Str} (h:asS d=some z):d=.str z:=by
 cases d with
 | str i=>exact congrArg D.str (Option.some.inj h)
 | _=>exact qI (a:=z) h
def entV (v:D) (n:Int):Option K4:=match v with
 | .non=>some (0,0,[],n)
 | .int i=>some (1,i,[],n)
 | .str z=>some (2,0,z.cps.toList,n)
 | _=>none
def entL (xs:List D):Option K4:=match xs with
 | [v,w]=>(asI w).bind (entV v)
 | _=>none
def entKey (d:D):Option K4:=match d with
 | .tup xs=>entL xs
 | _=>none
def av (k:K4):D:=if k.1=0 then .tup [.non,.int k.2.2.2] else if k.1=1 then .tup [.int k.2.1,.int k.2.2.2] else .tup [.str ⟨k.2.2.1.toArray⟩,.int k.2.2.2]
theorem iW {d:D} {k:K4} (h:entKey d=some k):av k=d:=by
 cases d with
 | tup xs =>
  match xs,h with
  | [],h=>exact qI (a:=k) h
  | [v],h=>exact qI (a:=k) h
  | [v,w],h =>
   have h:(asI w).bind (entV v)=some k:=h
   obtain ⟨n,e1,e2⟩:=Option.bind_eq_some_iff.mp h
   rw [jm e1]
   cases v with
   | non=>cases e2;rfl
   | int i=>cases e2;rfl
   | str z=>cases e2;rfl
   | _=>exact qI (a:=k) e2
  | v::w::u::r,h=>exact qI (a:=k) h
 | _=>exact qI (a:=k) h
def keyL (xs:List D):Option K4:=match xs with
 | [a,b,z,c]=>(asI a).bind fun a=>(asI b).bind fun b=>(asS z).bind fun z=>(asI c).bind fun c=>some (a,b,z.cps.toList,c)
 | _=>none
def keyD (d:D):Option K4:=match d with
 | .tup xs=>keyL xs
 | _=>none
def keyK (r:R D):Option K4:=match r with
 | .ok d=>keyD d
 | _=>none
theorem jW {r:R D} {k:K4} (h:keyK r=some k):∃ a b z c,r=.ok (.tup [.int a,.int b,.str z,.int c])∧k=(a,b,z.cps.toList,c):=by
 cases r with
 | ok d =>
  cases d with
  | tup xs =>
   match xs,h with
   | [],h=>exact qI (a:=k) h
   | [_],h=>exact qI (a:=k) h
   | [_,_],h=>exact qI (a:=k) h
   | [_,_,_],h=>exact qI (a:=k) h
   | [a,b,z,c],h =>
    have h:((asI a).bind fun a=>(asI b).bind fun b=>(asS z).bind fun z=>(asI c).bind fun c=>some (a,b,z.cps.toList,c))=some k:=h
    obtain ⟨a',e1,h⟩:=Option.bind_eq_some_iff.mp h
    obtain ⟨b',e2,h⟩:=Option.bind_eq_some_iff.mp h
    obtain ⟨z',e3,h⟩:=Option.bind_eq_some_iff.mp h
    obtain ⟨c',e4,h⟩:=Option.bind_eq_some_iff.mp h
    rw [jm e1,jm e2,yf e3,jm e4]
    exact ⟨_,_,_,_,rfl,(Option.some.inj h).symm⟩
   | _::_::_::_::_::_,h=>exact qI (a:=k) h
  | _=>exact qI (a:=k) h
 | _=>exact qI (a:=k) h
def keysG (κ:R D→Option K4) (F:List D→R D):List D→Option (List K4)
 | []=>some []
 | d::r=>match entKey d,keysG κ F r with
  | some k,some ks=>if κ (F [d])=some k then some (k::ks) else none
  | _,_=>none
theorem lJ {κ:R D→Option K4} {F:List D→R D} {d:D} {r:List D} {l:List K4} (h:keysG κ F (d::r)=some l):∃ k ks,l=k::ks∧entKey d=some k∧κ (F [d])=some k∧keysG κ F r=some ks:=by
 unfold keysG at h
 split at h
 ·rename_i k ks h1 h2
  split at h
  ·rename_i h3;cases h;exact ⟨k,ks,rfl,h1,h3,h2⟩
  ·cases h
 ·cases h
theorem nq {κ:R D→Option K4} {F:List D→R D}:∀ {xs:List D} {l:List K4},keysG κ F xs=some l→∀ d∈xs,∃ k,entKey d=some k∧κ (F [d])=some k
 | [],_,_,_,h=>by cases h
 | d::r,l,h,x,hx=>by
  obtain ⟨k,ks,_,h1,h2,h3⟩:=lJ h
  rcases List.mem_cons.mp hx with rfl|hx
  ·exact ⟨k,h1,h2⟩
  ·exact nq h3 x hx
def le4 (a b:K4):Bool:=!decide (Lt4 b a)
def sortG (κ:R D→Option K4) (F:List D→R D) (ds:List D):R D:=match ds with
 | [.lst xs]=>if xs.length≤1000000 then (match keysG κ F xs with
  | some ks=>.ok (.lst ((ks.mergeSort le4).map av))
  | none=>.no) else .no
 | _=>.no
abbrev sortD (F:List D→R D):List D→R D:=sortG keyK F
def kdat (F:List D→R D) (d:D):D:=match F [d] with
 | .ok k=>k
 | _=>.non
theorem pj {α β:Type} {f:α→β} {l m:List β} (h:l.Perm m):∀ {xs:List α},m=xs.map f→∃ ys:List α,ys.Perm xs∧l=ys.map f:=by
 induction h with
 | nil=>intro xs e;cases xs with
  | nil=>exact ⟨[],.nil,rfl⟩
  | cons _ _=>cases e
 | cons x _ ih=>intro xs e;cases xs with
  | nil=>cases e
  | cons a as =>
   rw [List.map_cons] at e
   obtain ⟨e1,e2⟩:=List.cons.inj e
   obtain ⟨ys,h1,h2⟩:=ih e2
   exact ⟨a::ys,.cons _ h1,by rw [List.map_cons,h2,e1]⟩
 | swap x y l=>intro xs e;cases xs with
  | nil=>cases e
  | cons a as=>cases as with
   | nil=>cases e
   | cons b bs =>
    rw [List.map_cons,List.map_cons] at e
    obtain ⟨e1,e2⟩:=List.cons.inj e
    obtain ⟨e3,e4⟩:=List.cons.inj e2
    exact ⟨b::a::bs,.swap _ _ _,by rw [List.map_cons,List.map_cons,e1,e3,e4]⟩
 | trans _ _ ih1 ih2 =>
  intro xs e
  obtain ⟨ys,h1,h2⟩:=ih2 e
  obtain ⟨zs,h3,h4⟩:=ih1 h2
  exact ⟨zs,h3.trans h1,h4⟩
theorem lW (m:List K4):(m.mergeSort le4).Pairwise fun x y=>¬ Lt4 y x:=by
 have:=List.pairwise_mergeSort (le:=le4) (fun a b c h1 h2=>?_) (fun a b=>?_) m
 ·exact this.imp fun h=>by unfold le4 at h;simpa using h
 ·unfold le4 at h1 h2 ⊢
  rw [Bool.not_eq_true',decide_eq_false_iff_not] at h1 h2 ⊢
  intro q
  rcases TS.to4.tri a b with z|z|z
  ·exact h2 (TS.to4.tr _ _ _ q z)
  ·exact h2 (z ▸ q)
  ·exact h1 z
 ·unfold le4
  by_cases h1:Lt4 b a
  ·have h2:¬ Lt4 a b:=fun z=>TS.to4.irr _ (TS.to4.tr _ _ _ h1 z)
   simp [h2]
  ·simp [h1]
theorem uF {l m:List K4} (h:l.Perm m) (hs:l.Pairwise fun x y=>¬ Lt4 y x):l=m.mergeSort le4:=by
 refine List.Perm.eq_of_pairwise (le:=fun x y=>¬ Lt4 y x) (fun a b _ _ h1 h2=>?_) hs ?_ (h.trans (List.mergeSort_perm _ _).symm)
 ·rcases TS.to4.tri a b with q|q|q
  ·exact absurd q h2
  ·exact q
  ·exact absurd q h1
 ·exact lW m
def kdOf (h:Heap) (v:Value):K4:=match v with
 | .ref p=>(match h.get? p with
  | some o=>(match o.data with
   | .seq xs _=>(match xs.toList with
    | [.int a _,.int b _,.str z _,.int c _]=>(a,b,z.cps.toList,c)
    | _=>(0,0,[],0))
   | _=>(0,0,[],0))
  | none=>(0,0,[],0))
 | _=>(0,0,[],0)
structure It4 where
 k:Value
 u:Value
 x:V
 d:D
theorem items4 {K:PySem.W.Frag} {H:Hp} {kd:Value→K4}:∀ {ks us:List Value} {xs:List V} {ds:List D},Vals xs us→Dens K H ds xs→Paired (fun k d=>entKey d=some (kd k)) ks ds →
  ∃ m:List It4,m.map (fun q=>(q.k,q.u))=ks.zip us∧m.map It4.d=ds∧∀ q∈m,RelV q.x q.u∧Den K H q.d q.x∧entKey q.d=some (kd q.k)
 | _,_,_,[],r,dn,p=>by
  cases dn;cases r;cases p
  exact ⟨[],rfl,rfl,fun q hq=>nomatch hq⟩
 | _,_,_,d::ds,r,⟨v,vs,e,d1,d2⟩,p=>by
  subst e
  cases r with
  | @cons _ u _ us r1 r2 =>
   cases p with
   | @cons k _ ks _ p1 p2 =>
    obtain ⟨m,h1,h2,h3⟩:=items4 r2 d2 p2
    refine ⟨⟨k,u,v,d⟩::m,by rw [List.map_cons,h1];rfl,by rw [List.map_cons,h2],fun q hq=>?_⟩
    rcases List.mem_cons.mp hq with rfl|hq
    ·exact ⟨r1,d1,p1⟩
    ·exact h3 q hq
theorem lS {K:PySem.W.Frag} {H:Hp}:∀ {m:List It4},(∀ q∈m,RelV q.x q.u∧Den K H q.d q.x)→Vals (m.map It4.x) (m.map It4.u)∧Dens K H (m.map It4.d) (m.map It4.x)
 | [],_=>⟨.nil,Dens.nil⟩
 | q::m,h=>by
  obtain ⟨h1,h2⟩:=lS (m:=m) fun z hz=>h z (List.mem_cons_of_mem _ hz)
  obtain ⟨h3,h4⟩:=h q List.mem_cons_self
  exact ⟨.cons h3 h1,Dens.cons h4 h2⟩
theorem BM {K:PySem.W.Frag} {H:Hp} {i:Int} {ds:List D} {vs:List V} {us:List Value} (dn:Dens K H (.int i::ds) vs) (r:Vals vs us):∃ t vs' us',us=.int i t::us'∧Dens K H ds vs'∧Vals vs' us':=by
 obtain ⟨v,vs',rfl,d1,d2⟩:=dn
 cases d1
 cases r with
 | cons r1 r2=>obtain ⟨t,rfl⟩:=r1;exact ⟨t,_,_,rfl,d2,r2⟩
theorem dv_s {K:PySem.W.Frag} {H:Hp} {i:Str} {ds:List D} {vs:List V} {us:List Value} (dn:Dens K H (.str i::ds) vs) (r:Vals vs us):∃ t vs' us',us=.str i t::us'∧Dens K H ds vs'∧Vals vs' us':=by
 obtain ⟨v,vs',rfl,d1,d2⟩:=dn
 cases d1
 cases r with
 | cons r1 r2=>obtain ⟨t,rfl⟩:=r1;exact ⟨t,_,_,rfl,d2,r2⟩
theorem tJ {K:PySem.W.Frag} {H:Hp} {a b c:Int} {z:Str} {vs:List V} {us:List Value} (dn:Dens K H [.int a,.int b,.str z,.int c] vs) (r:Vals vs us):∃ t1 t2 t3 t4,us=[.int a t1,.int b t2,.str z t3,.int c t4]:=by
 obtain ⟨t1,_,_,rfl,dn,r⟩:=BM dn r
 obtain ⟨t2,_,_,rfl,dn,r⟩:=BM dn r
 obtain ⟨t3,_,_,rfl,dn,r⟩:=dv_s dn r
 obtain ⟨t4,_,_,rfl,dn,r⟩:=BM dn r
 cases dn
 cases r
 exact ⟨t1,t2,t3,t4,rfl⟩
section
variable {X:Cx} {pins:List (Addr×Obj)} {σ:St} {κ:R D→Option K4} {F:List D→R D} {k:Nat} {f a kS:Addr} {fd:FuncData} {ps:List Str} {mg:Str→Option Value} {E:Value→Shared→Prop}
theorem xz {H:Hp} {s:Shared} {Q:VK} {us:List Value} {vs:List V} {sp:Sp} (G:FnOk X.prog X.w X.K X.mg X.base CX0 k f fd ps sp) (hr:Room k X.A.in1.in1) (hb:Binds X.K fd ps [])
  (I:Inv X pins σ H s) (r:Vals vs us) (h:sp vs H Q E0):wpAny (model X.prog X.w) X.A.in1.in1 (call (.ref f) us) (EP X pins σ Q) E s:=by
 have hl:(us++[]).length=ps.length:=by rw [List.append_nil,← r.length];exact G.len _ _ _ _ h
 have b:=hb s us I.kIn hl
 rw [List.append_nil] at b
 refine wpAny_call (fH I.tk (codeAny_mono (G.run X.A.in1.in1 X.stack s H ⟨us,[]⟩ us vs Q E0 hr I.env0.in1.in1 b r h) fun r s' hq htk=>?_))
 cases r with
 | error e=>exact False.elim hq
 | ok fl =>
  cases fl with
  | ret u=>exact I.after hq
  | next=>exact False.elim hq
  | brk=>exact False.elim hq
  | cont=>exact False.elim hq
def But (kS:Addr) (H H':Hp):Prop:=∀ b o,b≠kS→H b=some o→H' b=some o
theorem But.masked {H H':Hp} {as:List Addr} (h:But kS H H'):Same (mask (kS::as) H) (mask (kS::as) H'):=fun b o e=>by
 by_cases hb:b∈kS::as
 ·rw [dR hb] at e;cases e
 ·rw [a9 hb] at e ⊢
  exact h b o (fun z=>hb (z ▸ List.mem_cons_self)) e
theorem But.upd {H:Hp} {o:HO}:But kS H (upd H kS o):=fun b u hb e=>by rw [a8 hb];exact e
theorem But.trans {H H1 H2:Hp} (h:But kS H H1) (g:But kS H1 H2):But kS H H2:=fun b o hb e=>g b o hb (h b o hb e)
def Keys (X:Cx) (pins:List (Addr×Obj)) (σ:St) (kS:Addr) (as:List Addr) (H:Hp) (ks:List D) (s':Shared):Prop :=
 ∃ H' kvs,Inv X pins σ H' s'∧But kS H H'∧H' kS=some (.lst kvs)∧Dens X.K (mask (kS::as) H') ks kvs
theorem tQ {H:Hp} {s:Shared} {as:List Addr} {us:List Value} {xs:List V} {ds:List D} {l:List K4} {e1:Nat} {P:PySem.Fin→Shared→Prop}
  (G:FnOk X.prog X.w X.K X.mg X.base CX0 k f fd ps (spD X.K mg F)) (hr:Room k X.A.in1.in1) (hb:Binds X.K fd ps []) (I:Inv X pins σ H s) (hk:H kS=some (.lst [])) (has:∀ b∈as,H b≠none) (hks:kS∉as)
  (r:Vals xs us) (dn:Dens X.K (mask (kS::as) H) ds xs) (hv:∀ r k,κ r=some k→∃ d,r=.ok d) (hl:keysG κ F ds=some l) (hz:ds.length≤1000000)
  (h:∀ H' kvs its n s',Inv X pins σ H' s'→But kS H H'→H' kS=some (.lst kvs)→Dens X.K (mask (kS::as) H') (ds.map (kdat F)) kvs→Vals kvs its→s'.heap.get? kS=some (seqObj "list" its.toArray n) →
   wpAny (model X.prog X.w) X.A.in1.in1 (ksk_end a false us.toArray e1 (.ref kS) its.toArray) P E s') :
  wpAny (model X.prog X.w) X.A.in1.in1 (ksk_rest a (.ref f) false us.toArray e1 (.ref kS)) P E s:=by
 have hlen:ds.length=us.length:=dn.len.trans r.length
 unfold ksk_rest
 refine wpAny_bind (wpAny_rule ?_)
 rw [List.forIn_toArray]
 refine wpAny_bind (ksk_fold (fun j s'=>Keys X pins σ kS as H ((ds.map (kdat F)).take j) s') us 0 s ⟨H,[],I,fun b o _ e=>e,hk,by rw [List.take_zero];exact Dens.nil⟩ (fun j x s' hx hI=>?_) fun s' hd=>?_)
 ·obtain ⟨H1,kvs,I1,b1,k1,d1⟩:=hI
  rw [Nat.zero_add] at d1 ⊢
  have hj:j < us.length:=by
   have:=List.getElem?_eq_some_iff.mp hx
   exact this.1
  have hjx:j < xs.length:=by rw [r.length];exact hj
  obtain ⟨u,hu,ru⟩:=r.get (i:=j) (List.getElem?_eq_getElem hjx)
  rw [hx] at hu
  cases hu
  obtain ⟨d,hd,dd⟩:=dn.got (i:=j) (List.getElem?_eq_getElem hjx)
  obtain ⟨kk,q1,q2⟩:=nq hl d (List.mem_of_getElem? hd)
  obtain ⟨kk',q3⟩:=hv _ _ q2
  have ekd:kdat F d=kk':=by unfold kdat;rw [q3]
  have hkl:kvs.length≤j:=by rw [← d1.len,List.length_take];omega
  refine wpAny_bind (wpAny_attempt (wpAny_mono (xz (us:=[x]) (vs:=[xs[j]]) (Q:=fun v H2=>Same H1 H2∧Den X.K (mask (kS::as) H2) (kdat F d) v) (E:=fun _ _=>False) G hr hb I1 (.cons ru .nil) ⟨kS::as,[d],fun b hb=>?_,Dens.cons (dd.mono b1.masked) Dens.nil,?_⟩) (fun u s2 hq=>?_) fun _ _ hF=>hF.elim))
  ·rcases List.mem_cons.mp hb with rfl|hb
   ·rw [k1];simp
   ·cases e:H b with
    | none=>exact absurd e (has b hb)
    | some o=>rw [b1 b o (fun z=>hks (z ▸ hb)) e];simp
  ·rw [q3]
   exact fun v H' s dv=>⟨s,by rw [ekd];exact dv⟩
  ·obtain ⟨v,H2,I2,rv,s12,dv⟩:=hq
   have k2:=s12 _ _ k1
   obtain ⟨z2,its,n,ri,hil,e2⟩:=I2.lstM k2
   try dsimp only
   refine wpAny_bind (listUpdate_at e2 rfl ?_ (by rw [List.size_toArray,← hil,sizeLine_eq];omega) (Nat.le_trans (Nat.le_of_eq (Array.size_push ..)) (by rw [List.size_toArray,← hil,sizeLine_eq];omega)))
   refine wpAny_pure ⟨rfl,?_⟩
   have I3:=I2.lset (its':=its++[u]) (f:=(·.push u)) (t':=s2.toks) k2 e2 (by simp) (ri.append (.cons rv .nil)) (by rw [List.length_append,List.length_singleton,sizeLine_eq];omega) (by walk_at "tok")
   refine ⟨_,_,I3,(b1.trans fun b o _ e=>s12 b o e).trans But.upd,bm,?_⟩
   have e:(ds.map (kdat F)).take (j+1)=(ds.map (kdat F)).take j++[kdat F d]:=by
    rw [List.take_add_one,List.getElem?_map,hd];rfl
   rw [e]
   refine ((d1.mono (aW s12)).append (Dens.cons dv Dens.nil)).mono (But.upd (kS:=kS) (H:=H2)).masked
 ·obtain ⟨H1,kvs,I1,b1,k1,d1⟩:=hd
  have e:(ds.map (kdat F)).take (0+us.length)=ds.map (kdat F):=by rw [Nat.zero_add];exact List.take_of_length_le (by rw [List.length_map,hlen];exact Nat.le_refl _)
  rw [e] at d1
  obtain ⟨z2,its,n,ri,hil,e2⟩:=I1.lstM k1
  refine wpAny_bind (listItems_at e2 rfl ?_)
  exact h H1 kvs its n s' I1 b1 k1 d1 ri e2
end
end L2
namespace TS
open PySem PyProof.Rows
section
variable {prog:Program} {w:World} {A:Around} {E:Value→Shared→Prop} {s:Shared} {kd:Value→K4} {a kS:Addr} {ks vs:List Value}
theorem xN {e e1:Nat} {P:PySem.Fin→Shared→Prop} (hl:ks.length=vs.length) (h2:vs.length < 2) (na:s.heap.get? a=some (seqObj "list" #[] e1)) (nk:s.heap.get? kS=some (seqObj "list" ks.toArray e)) (hne:a≠kS)
  (h:∀ ps:List Keyed,ps.Perm (ks.zip vs)→ps.Pairwise (fun x y=>¬ Lt4 (kd y.1) (kd x.1))→P (.done (.ret .none)) { s with heap:=behind s.heap kS a (ps.map (·.2)) }) :
  wpAny (model prog w) A (ksk_end a false vs.toArray e1 (.ref kS) ks.toArray) P E s:=by
 have hn2:vs.toArray.size < 2:=by rw [List.size_toArray];omega
 unfold ksk_end
 try dsimp only
 rw [if_neg Bool.false_ne_true,if_pos hn2,if_pos hn2]
 refine wpAny_bind (wpAny_pure ?_)
 rw [if_neg Bool.false_ne_true]
 have zl:(ks.toArray.zip vs.toArray).toList=ks.zip vs:=by simp
 have hlen:(ks.zip vs).length < 2:=by rw [List.length_zip];omega
 refine wpAny_bind (wpAny_pure ?_)
 refine ut (st:=SortSt.mk' general' (ks.toArray.zip vs.toArray) #[] 7 none) (out:=(ks.zip vs).map (·.2)) na nk hne ?_ (by rw [List.length_map];omega) (by omega) rfl (h _ (List.Perm.refl _) ?_)
 ·show (ks.toArray.zip vs.toArray).map (·.2)=_
  apply Array.toList_inj.mp
  rw [Array.toList_map,zl]
 ·match hq:ks.zip vs with
  | []=>exact List.Pairwise.nil
  | [x]=>exact List.pairwise_singleton _ _
  | x::y::r=>rw [hq] at hlen;simp at hlen;omega
end
end TS
namespace L2
open PySem PySem.Spec PyProof.Rows
open TS (K4 Lt4)
section
variable {X:Cx} {pins:List (Addr×Obj)} {σ:St} {F:List D→R D} {k:Nat} {f a kS:Addr} {fd:FuncData} {ps:List Str} {mg:Str→Option Value} {E:Value→Shared→Prop}
structure KF (κ:R D→Option K4) where
 kd:Heap→Value→K4
 At:Shared→Value→Prop
 val:∀ r k,κ r=some k→∃ d,r=.ok d
 laid:∀ {X:Cx} {pins:List (Addr×Obj)} {σ:St} {H Hm:Hp} {s:Shared} {d:D} {k:K4} {v:V} {u:Value},Inv X pins σ H s→Same Hm H→κ (.ok d)=some k→Den X.K Hm d v→RelV v u→At s u∧kd s.heap u=k
 fin:∀ {prog:Program} {w:World} {A:Around} {E:Value→Shared→Prop} {s:Shared} {a kS:Addr} {ks vs:List Value} {e e1:Nat} {P:PySem.Fin→Shared→Prop},A.units+2 < cLine→ks.length=vs.length→2≤vs.length→vs.length≤1000000→s.heap.get? a=some (seqObj "list" #[] e1)→s.heap.get? kS=some (seqObj "list" ks.toArray e)→a≠kS→(∀ k∈ks,At s k) →
  (∀ ps:List Keyed,ps.Perm (ks.zip vs)→ps.Pairwise (fun x y=>¬ Lt4 (kd s.heap y.1) (kd s.heap x.1))→P (.done (.ret .none)) { s with heap:=TS.behind s.heap kS a (ps.map (·.2)) }) →
  wpAny (model prog w) A (ksk_end a false vs.toArray e1 (.ref kS) ks.toArray) P E s
def kf4:KF keyK where
 kd:=kdOf
 At:=fun s v=>TS.Key4 s (kdOf s.heap) v
 val:=fun r k h=>by
  obtain ⟨a,b,z,c,e,_⟩:=jW h
  exact ⟨_,e⟩
 laid:=fun {X pins σ H Hm s d k v u} I hm h dn ru=>by
  obtain ⟨ka,kb,kz,kc,q3,q4⟩:=jW h
  cases q3
  obtain ⟨p,ys,rfl,hq,dy⟩:=dn
  cases ru
  obtain ⟨its2,ri,⟨o,e1,e2,n,e3⟩,_⟩:=I.tuple (hm.seqT hq)
  obtain ⟨t1,t2,t3,t4,rfl⟩:=tJ dy ri
  have ek:kdOf s.heap (.ref p)=(ka,kb,kz.cps.toList,kc):=by
   unfold kdOf
   dsimp only
   rw [e1]
   dsimp only
   rw [e3]
  exact ⟨⟨p,o,_,n,ka,t1,kb,t2,kz,t3,kc,t4,rfl,e1,e2,e3,rfl,ek⟩,by rw [ek,q4]⟩
 fin:=fun _ hl h2 hz na nk hne hk h=>TS.y3 hl h2 hz na nk hne hk h
theorem KF.finA {κ:R D→Option K4} (C:KF κ) {prog:Program} {w:World} {A:Around} {E:Value→Shared→Prop} {s:Shared} {a kS:Addr} {ks vs:List Value} {e e1:Nat} {P:PySem.Fin→Shared→Prop} (hu:A.units+2 < cLine) (hl:ks.length=vs.length) (hz:vs.length≤1000000)
  (na:s.heap.get? a=some (seqObj "list" #[] e1)) (nk:s.heap.get? kS=some (seqObj "list" ks.toArray e)) (hne:a≠kS) (hk:∀ k∈ks,C.At s k)
  (h:∀ ps:List Keyed,ps.Perm (ks.zip vs)→ps.Pairwise (fun x y=>¬ Lt4 (C.kd s.heap y.1) (C.kd s.heap x.1))→P (.done (.ret .none)) { s with heap:=TS.behind s.heap kS a (ps.map (·.2)) }) :
  wpAny (model prog w) A (ksk_end a false vs.toArray e1 (.ref kS) ks.toArray) P E s:=by
 by_cases h2:vs.length < 2
 ·exact TS.xN (kd:=C.kd s.heap) hl h2 na nk hne h
 ·exact C.fin hu hl (by omega) hz na nk hne hk h
theorem keys4 {κ:R D→Option K4} (C:KF κ) {H Hm:Hp} {s:Shared} (I:Inv X pins σ H s) (hm:Same Hm H):∀ {ds:List D} {kvs:List V} {its:List Value} {l:List K4},Dens X.K Hm (ds.map (kdat F)) kvs→Vals kvs its→keysG κ F ds=some l →
  (∀ v∈its,C.At s v)∧Paired (fun v d=>entKey d=some (C.kd s.heap v)) its ds∧its.map (C.kd s.heap)=l
 | [],_,_,_,dn,r,h=>by cases dn;cases r;cases h;exact ⟨fun v hv=>(nomatch hv),.nil,rfl⟩
 | d::ds,_,_,_,⟨v,vs,e,d1,d2⟩,r,h=>by
  subst e
  obtain ⟨q,qs,rfl,h1,h2,h3⟩:=lJ h
  cases r with
  | @cons _ u _ us r1 r2 =>
   obtain ⟨i1,i2,i3⟩:=keys4 C I hm d2 r2 h3
   obtain ⟨kk,q3⟩:=C.val _ _ h2
   have ekd:kdat F d=kk:=by unfold kdat;rw [q3]
   rw [ekd] at d1
   rw [q3] at h2
   obtain ⟨a1,a2⟩:=C.laid I hm h2 d1 r1
   refine ⟨fun v hv=>?_,.cons (by rw [h1,a2]) i2,by rw [List.map_cons,i3,a2]⟩
   rcases List.mem_cons.mp hv with rfl|hv
   ·exact a1
   ·exact i1 v hv
theorem sR {κ:R D→Option K4} (C:KF κ) {H0 H H':Hp} {s':Shared} {as:List Addr} {us its:List Value} {xs kvs:List V} {ds:List D} {l:List K4} {e1 n:Nat} {P:PySem.Fin→Shared→Prop} {oa:Obj}
  (I:Inv X (pins++[(a,seqObj "list" #[] e1)]) σ H' s') (fa:FpOk X pins H' a) (h0:Same H0 H) (h0k:H0 kS=none) (h0a:H0 a=none) (b:But kS H H') (hk:H' kS=some (.lst kvs)) (dk:Dens X.K (mask (kS::as) H') (ds.map (kdat F)) kvs) (rk:Vals kvs its)
  (ek:s'.heap.get? kS=some (seqObj "list" its.toArray n)) (has:a∉as) (hks:kS∉as) (hne:a≠kS)
  (r:Vals xs us) (dn:Dens X.K (mask (kS::as) H) ds xs) (hl:keysG κ F ds=some l) (hu:X.A.in1.in1.units+2 < cLine) (hz:ds.length≤1000000) (hbase:X.s₀.heap.get? a=none)
  (h:∀ H'' s'' outV,Inv X pins σ H'' s''→Same H0 H''→H'' a=some (.lst outV)→Dens X.K (mask (a::as) H'') ((l.mergeSort le4).map av) outV→P (.done (.ret .none)) s'') :
  wpAny (model X.prog X.w) X.A.in1.in1 (ksk_end a false us.toArray e1 (.ref kS) its.toArray) P E s':=by
 have pa:=I.pin (a,seqObj "list" #[] e1) (by simp)
 have hlu:ds.length=us.length:=dn.len.trans r.length
 have hlk:its.length=us.length:=by rw [← rk.length,← dk.len,List.length_map,hlu]
 obtain ⟨k1,k2,k3⟩:=keys4 C I (aC _ _) dk rk hl
 refine C.finA hu hlk (by omega) pa.1 ek hne k1 fun qs hp hs=>?_
 obtain ⟨m,m1,m2,m3⟩:=items4 r (dn.mono b.masked) k2
 rw [← m1] at hp
 obtain ⟨m',p1,p2⟩:=pj hp rfl
 subst p2
 have m3':∀ q∈m',RelV q.x q.u∧Den X.K (mask (kS::as) H') q.d q.x∧entKey q.d=some (C.kd s'.heap q.k):=fun q hq=>m3 q (p1.mem_iff.mp hq)
 obtain ⟨v1,v2⟩:=lS (m:=m') fun q hq=>⟨(m3' q hq).1,(m3' q hq).2.1⟩
 have eo:(m'.map fun q=>(q.k,q.u)).map (·.2)=m'.map It4.u:=by rw [List.map_map];rfl
 rw [eo]
 have ed:m'.map It4.d=(l.mergeSort le4).map av:=by
  have e1:m'.map It4.d=(m'.map fun q=>C.kd s'.heap q.k).map av:=by
   rw [List.map_map]
   exact List.map_congr_left fun q hq=>(iW (m3' q hq).2.2).symm
  have e2:m'.map (fun q=>C.kd s'.heap q.k)=l.mergeSort le4:=by
   refine uF ?_ ?_
   ·have e3:m.map (fun q=>C.kd s'.heap q.k)=l:=by
     rw [← k3]
     have:m.map (fun q=>q.k)=its:=by
      have:=congrArg (List.map Prod.fst) m1
      rw [List.map_map,List.map_fst_zip (by omega)] at this
      exact this
     rw [← this,List.map_map];rfl
    rw [← e3]
    exact p1.map _
   ·rw [List.pairwise_map] at hs ⊢
    exact hs
  rw [e1,e2]
 rw [ed] at v2
 have hol:(m'.map It4.x).length≤sizeLine:=by
  rw [v1.length,List.length_map,p1.length_eq,← List.length_map (as:=m) (f:=It4.d),m2,sizeLine_eq];omega
 -- the keys go
 have I1:=I.lset (its':=[]) (ys:=[]) (f:=fun _=>(#[]:Array Value)) (t':=s'.toks) hk ek rfl .nil (Nat.zero_le _) (by walk_at "tok")
 have I2:Inv X pins σ (upd H' kS (.lst [])) { s' with heap:=s'.heap.update kS (Obj.mapSeq fun _=>(#[]:Array Value)) }:=I1.unpinned
 obtain ⟨f0,f1,f2,f3,f4,f5⟩:=fa
 have f0':upd H' kS (.lst []) a=none:=by rw [a8 hne];exact f0
 have na:(s'.heap.update kS (Obj.mapSeq fun _=>(#[]:Array Value))).get? a=some (seqObj "list" #[] e1):=((Heap.SameBut.update s'.heap kS (Obj.mapSeq fun _=>(#[]:Array Value))).2 a hne).trans pa.1
 have I3:=I2.turned (t':=s'.toks) (h':=(s'.heap.update kS (Obj.mapSeq fun _=>(#[]:Array Value))).update a (Obj.mapSeq fun _=>(m'.map It4.u).toArray)) (it:=a) (fun b' u hb hu=>(Heap.get?_update_other _ _ (Ne.symm hb)).trans hu) f0' f1 f3 f4 f5 (by walk_at "tok")
 have I4:=I3.track (y:=a) (o:=.lst (m'.map It4.x)) ⟨hbase,f1,f2,f4,f5⟩ f0' ⟨hol,_,_,v1,PySem.IsL.update na _⟩
 refine h _ _ (m'.map It4.x) I4 (fun b' o e=>?_) bm (v2.mono fun b' o e=>?_)
 ·have n1:b'≠a:=fun z=>by rw [z,h0a] at e;cases e
  have n2:b'≠kS:=fun z=>by rw [z,h0k] at e;cases e
  rw [a8 n1,a8 n2]
  exact b b' o n2 (h0 b' o e)
 ·by_cases hb:b'∈kS::as
  ·rw [dR hb] at e;cases e
  ·rw [a9 hb] at e
   have n1:b'≠a:=fun z=>by rw [z,f0] at e;cases e
   have n2:b'≠kS:=fun z=>hb (z ▸ List.mem_cons_self)
   rw [a9 (fun z=>(List.mem_cons.mp z).elim n1 fun z=>hb (List.mem_cons_of_mem _ z)),a8 n1,a8 n2]
   exact e
end
section
variable {X:Cx} {pins:List (Addr×Obj)} {σ:St} {F:List D→R D} {k:Nat} {f a:Addr} {fd:FuncData} {ps:List Str} {mg:Str→Option Value} {E:Value→Shared→Prop}
theorem sY {κ:R D→Option K4} (C:KF κ) {H:Hp} {s:Shared} {as:List Addr} {us:List Value} {xs:List V} {ds:List D} {l:List K4} {n:Nat} {P:PySem.Fin→Shared→Prop}
  (G:FnOk X.prog X.w X.K X.mg X.base CX0 k f fd ps (spD X.K mg F)) (hr:Room k X.A.in1.in1) (hb:Binds X.K fd ps []) (I:Inv X pins σ H s) (fa:FpOk X pins H a) (ho:s.heap.get? a=some (seqObj "list" us.toArray n)) (has:∀ b∈as,H b≠none)
  (r:Vals xs us) (dn:Dens X.K (mask as H) ds xs) (hl:keysG κ F ds=some l) (hz:ds.length≤1000000) (hbase:X.s₀.heap.get? a=none)
  (h:∀ H'' s'' outV,Inv X pins σ H'' s''→Same H H''→H'' a=some (.lst outV)→Dens X.K (mask (a::as) H'') ((l.mergeSort le4).map av) outV→P (.done (.ret .none)) s'') :
  wpAny (model X.prog X.w) X.A.in1.in1 (ksk_tree a (.ref f) false) P E s:=by
 have hlu:ds.length=us.length:=dn.len.trans r.length
 have ha:a < s.heap.objs.size:=Heap.lt_size ho
 obtain ⟨e1,ho1⟩:∃ e1,(s.heap.update a (Obj.mapSeq fun _=>(#[]:Array Value))).get? a=some (seqObj "list" #[] e1):=⟨_,get?_update_seq ho fun _=>#[]⟩
 obtain ⟨f0,f1,f2,f3,f4,f5⟩:=id fa
 have I1:=I.turned (t':=s.toks) (h':=s.heap.update a (Obj.mapSeq fun _=>(#[]:Array Value))) (it:=a) (fun b' u hb hu=>(Heap.get?_update_other _ _ (Ne.symm hb)).trans hu) f0 f1 f3 f4 f5 (by walk_at "tok")
 have I2:=I1.kept (t':=s.toks) (h':=(s.heap.update a (Obj.mapSeq fun _=>(#[]:Array Value))).push (seqObj "tuple" us.toArray 0)) (fun _ _ q=>Heap.get?_push_of_some _ q) (by walk_at "tok")
 have I3:=I2.lnew (its:=[]) (ys:=[]) (t':=s.toks) .nil (Nat.zero_le _) (by walk_at "tok")
 have hkS:((s.heap.update a (Obj.mapSeq fun _=>(#[]:Array Value))).push (seqObj "tuple" us.toArray 0)).objs.size=s.heap.objs.size+1:=by rw [size_push',Heap.size_update]
 have hkn:H ((s.heap.update a (Obj.mapSeq fun _=>(#[]:Array Value))).push (seqObj "tuple" us.toArray 0)).objs.size=none:=I2.fresh
 have ho3:(((s.heap.update a (Obj.mapSeq fun _=>(#[]:Array Value))).push (seqObj "tuple" us.toArray 0)).push (seqObj "list" #[] 0)).get? a=some (seqObj "list" #[] e1):=Heap.get?_push_of_some _ (Heap.get?_push_of_some _ ho1)
 unfold ksk_tree
 refine wpAny_bind (listItems_at ho rfl ?_)
 refine wpAny_bind (listUpdate_at ho rfl ?_ (by rw [List.size_toArray,sizeLine_eq];omega) (Nat.zero_le _))
 refine wpAny_bind (seqEpoch_at ho1 rfl ?_)
 refine wpAny_bind (wpAny_newTuple ?_ (by show us.length≤_;rw [sizeLine_eq];omega))
 refine wpAny_bind (wpAny_newList ?_ (Nat.zero_le _))
 refine wpAny_holding ?_
 have hne:a≠((s.heap.update a (Obj.mapSeq fun _=>(#[]:Array Value))).push (seqObj "tuple" us.toArray 0)).objs.size:=by rw [hkS];exact Nat.ne_of_lt (Nat.lt_succ_of_lt ha)
 generalize hq:((s.heap.update a (Obj.mapSeq fun _=>(#[]:Array Value))).push (seqObj "tuple" us.toArray 0)).objs.size=kS at *
 have hkas:kS∉as:=fun z=>has _ z hkn
 have haas:a∉as:=fun z=>has _ z f0
 have I4:Inv X (pins++[(a,seqObj "list" #[] e1)]) σ (upd H kS (.lst [])) { s with heap:=((s.heap.update a (Obj.mapSeq fun _=>(#[]:Array Value))).push (seqObj "tuple" us.toArray 0)).push (seqObj "list" #[] 0) }:=by
  have I3':Inv X pins σ (upd H kS (.lst [])) { s with heap:=((s.heap.update a (Obj.mapSeq fun _=>(#[]:Array Value))).push (seqObj "tuple" us.toArray 0)).push (seqObj "list" #[] 0) }:=I3
  refine I3'.pins_of fun p hp=>?_
  rcases List.mem_append.mp hp with hp|hp
  ·exact I3'.pin p (List.mem_append_right _ hp)
  ·obtain rfl:p=_:=by simpa using hp
   exact ⟨ho3,by rw [a8 hne];exact f0,f1,f2,fun v z=>by cases z⟩
 have up:Same H (upd H kS (.lst [])):=bg hkn _
 have dn':Dens X.K (mask (kS::as) (upd H kS (.lst []))) ds xs:=dn.mono fun b o e=>by
  by_cases hb:b∈as
  ·rw [dR hb] at e;cases e
  ·rw [a9 hb] at e
   have n1:b≠kS:=fun z=>by rw [z,hkn] at e;cases e
   rw [a9 (fun z=>(List.mem_cons.mp z).elim n1 hb)]
   exact up b o e
 refine tQ (a:=a) (kS:=kS) (as:=as) (mg:=mg) (F:=F) G hr hb I4 bm (fun b hb=>by
  cases e:H b with
  | none=>exact absurd e (has b hb)
  | some o=>rw [up b o e];simp) hkas r dn' C.val hl hz fun H' kvs its n' s' I' b' k' d' r' e'=>?_
 have pa:=I'.pin (a,seqObj "list" #[] e1) (by simp)
 exact sR C (oa:=seqObj "list" #[] e1) (F:=F) (as:=as) (n:=n') (H0:=H) I' ⟨pa.2.1,f1,f2,f3,f4,f5⟩ up hkn f0 b' k' d' r' e' haas hkas hne r dn' hl (by have:=hr.un;omega) hz hbase h
theorem oI {κ:R D→Option K4} (C:KF κ) {H:Hp} {s:Shared} {as:List Addr} {us:List Value} {xs:List V} {ds:List D} {l:List K4} {lA:Addr} {Q:VK}
  (G:FnOk X.prog X.w X.K X.mg X.base CX0 k f fd ps (spD X.K mg F)) (hr:Room k X.A.in1.in1) (hb:Binds X.K fd ps []) (I:Inv X pins σ H s) (hp:s.heap.IsList lA us.toArray) (has:∀ b∈as,H b≠none)
  (r:Vals xs us) (dn:Dens X.K (mask as H) ds xs) (hl:keysG κ F ds=some l) (hz:ds.length≤1000000)
  (h:∀ p H' outV,Same H H'→H p=none→H' p=some (.lst outV)→Dens X.K (mask (p::as) H') ((l.mergeSort le4).map av) outV→Q (.ref p) H') :
  wpAny (model X.prog X.w) X.A (call (.builtin "sorted") [.ref lA] [(Str.ofString "key",.ref f)]) (EP X pins σ Q) E s:=by
 have hlu:ds.length=us.length:=dn.len.trans r.length
 refine call_function_entry_kw kind_sorted plain_sorted entry_sorted (ksk_s1 _ _) ?_
 unfold Builtin.«sorted»
 refine wpAny_bind (m:=checkCount "sorted" 1 1 _) (wpAny_pure ?_)
 refine wpAny_bind (collect_list hp ?_ (by rw [sizeLine_eq];omega))
 refine wpAny_bind (wpAny_newList ?_ (by rw [sizeLine_eq];omega))
 have hsz:((s.heap.push (seqObj "list" #[] 0)).update s.heap.objs.size (Obj.mapSeq (·++us.toArray))).objs.size=s.heap.objs.size+1:=by
  rw [Heap.size_update,size_push']
 have hoL:(((s.heap.push (seqObj "list" #[] 0)).update s.heap.objs.size (Obj.mapSeq (·++us.toArray))).push (seqObj "list" us.toArray 0)).get? (s.heap.objs.size+1)=some (seqObj "list" us.toArray 0):=by
  rw [← hsz];exact Heap.get?_push_size _ rfl
 have keep:∀ b o,s.heap.get? b=some o→(((s.heap.push (seqObj "list" #[] 0)).update s.heap.objs.size (Obj.mapSeq (·++us.toArray))).push (seqObj "list" us.toArray 0)).get? b=some o:=fun b o q=>by
  have hlt:b < s.heap.objs.size:=Heap.lt_size q
  rw [Heap.get?_push_ne _ _ _ (by rw [hsz];exact Nat.ne_of_lt (Nat.lt_succ_of_lt hlt)),Heap.get?_update_ne _ _ _ _ (Nat.ne_of_lt hlt),Heap.get?_push_ne _ _ _ (Nat.ne_of_lt hlt)]
  exact q
 have hfr:H (s.heap.objs.size+1)=none:=I.hok.fresh (Nat.le_succ _)
 have I1:=I.kept (t':=s.toks) keep (by walk_at "tok")
 show wpAny _ _ _ _ _ { s with heap:=((s.heap.push (seqObj "list" #[] 0)).update s.heap.objs.size (Obj.mapSeq (·++us.toArray))).push (seqObj "list" us.toArray 0) }
 rw [hsz]
 refine wpAny_bind (wpAny_holding (wpAny_call_entry_kw slot_list_sort ⟨_,hoL,rfl⟩ entry_list_sort ?body (ksk_l1 _ _)))
 show wpAny (model X.prog X.w) X.A.in1.in1 (Builtin.«list.sort» ⟨[.ref (s.heap.objs.size+1)],[(Str.ofString "key",.ref f)]⟩) _ _ _
 rw [ksk_t1]
 refine sY C (a:=s.heap.objs.size+1) (mg:=mg) (F:=F) (as:=as) G hr hb I1 (I.fpOk (Nat.le_succ _) hfr) hoL has r dn hl hz (Heap.get?_none_of_le (Nat.le_trans I.sz (Nat.le_succ _))) fun H'' s'' outV I'' s0 e'' d''=>⟨_,rfl,?_⟩
 exact wpAny_pure ⟨_,rfl,.ref (s.heap.objs.size+1),H'',I'',rfl,h _ H'' outV s0 hfr e'' d''⟩
end
theorem u9 {κ:R D→Option K4} (C:KF κ) {X:Cx} {K:PySem.W.Frag} {mg:Str→Option Value} {O:List Nat} {F:List D→R D} {x:Str} {st:Stmt} {ps:List Str} {f:Addr} {fd:FuncData} {j k:Nat} {e:Expr} {φ:FE} {p p2 p3 pos:Pos}
  (Df:Def X.K X.mg x st ps f fd) (G:FnOk X.prog X.w X.K X.mg X.base CX0 j f fd ps (spD K mg F)) (hr:Room k X.A) (hm:X.mg "sorted"=none) (ha:JE X e (tD ⟨K,mg,E0⟩ O φ)) (hj:j+1≤k:=by decide) (hg:Gl X "sorted":=by rfl) (hgx:Gl X x:=by rfl) (hdb:(x==("__debug__":Str))=false:=by decide)
  (h1:noStar e=true:=by rfl) (hK:X.K=K:=by rfl):JE X (.Call (.Name "sorted" p) [e] [⟨some "key",.Name x p2,p3⟩] pos) (tN ⟨K,mg,E0⟩ O (al (sortG κ F) (ae φ aq))):=by
 subst hK
 refine ⟨fun pins s σ H Q I h=>?_⟩
 obtain ⟨as0,B,own,δ,J,h⟩:=h
 have hA:JA X [e] (tDA ⟨X.K,mg,E0⟩ O (ae φ aq)):=aa ha af (hn:=h1)
 refine wpAny_Call_Name_kw (kK I hg hm (u:=.builtin "sorted") (by with_unfolding_all rfl) ?_ (by decide) (by decide))
 have he:backTo pos (starEach [e] X.env)=(false,eval e X.env)::backTo pos (starEach [] X.env):=by rw [cH h1];rfl
 refine callWith_kw (thn (hA.out pos pins s σ H (fun vs H1=>Same H H1∧∃ ds,Dens X.K (mask (own++as0) H1) ds vs∧FitsN ⟨X.K,mg,E0⟩ (own++as0) H1 (sortG κ F ds) Q) I ⟨as0,B,own,δ,J,pO h fun ds vs H1 s1 d1 h1=>⟨s1,ds,d1,h1⟩⟩) fun us s1 ⟨vs,H1,I1,r,sm,ds,dn,q⟩ =>
  thn (xw (nm:=some "key") (kpos:=p3) (sQ (pos:=p2) (v:=.ref f) hgx Df.m rfl hdb) y0 pos pins s1 σ H1 (fun zs H2=>zs=[.ref f]∧H2=H1) I1 ⟨rfl,rfl⟩) fun ws s2 ⟨zs,H2,I2,rz,e1,e2⟩=>?_) he ?_ rfl rfl
 ·subst e1 e2
  obtain ⟨w0,rfl,rw0⟩:=rz.one
  cases rw0
  have exi:∀ b∈own++as0,H2 b≠none:=(J.mono sm).exi
  unfold sortG at q
  split at q
  ·rename_i ys
   split at q
   ·rename_i hz
    split at q
    ·rename_i l hl
     obtain ⟨v0,_,rfl,d0,d00⟩:=dn
     cases d00
     obtain ⟨lA,xs,rfl,hS,dx⟩:=d0
     obtain ⟨u0,rfl,ru⟩:=r.one
     cases ru
     obtain ⟨its,ri,hp,_⟩:=I2.list ((aC _ _).seq hS)
     have rm:Room j X.A.in1.in1:=⟨hr.hd,by have:=hr.dp;show X.A.depth+3*j+5 < _;omega,by have:=hr.un;show X.A.units+1+1+16*j+200 < _;omega⟩
     refine oI C (mg:=mg) (F:=F) (as:=own++as0) G rm Df.b I2 hp.isList exi ri dx hl hz fun p H' outV s' hn hp' dd=>?_
     exact q p _ H' s' hn hp' ⟨outV,rfl,dd⟩
    ·exact q.elim
   ·exact q.elim
  ·exact q.elim
 ·exact cX (es:=[e]) (by rw [List.all_cons,h1];rfl)
theorem wx {X:Cx} {K:PySem.W.Frag} {mg:Str→Option Value} {O:List Nat} {F:List D→R D} {x:Str} {st:Stmt} {ps:List Str} {f:Addr} {fd:FuncData} {j k:Nat} {e:Expr} {φ:FE} {p p2 p3 pos:Pos}
  (Df:Def X.K X.mg x st ps f fd) (G:FnOk X.prog X.w X.K X.mg X.base CX0 j f fd ps (spD K mg F)) (hr:Room k X.A) (hm:X.mg "sorted"=none) (ha:JE X e (tD ⟨K,mg,E0⟩ O φ)) (hj:j+1≤k:=by decide) (hg:Gl X "sorted":=by rfl) (hgx:Gl X x:=by rfl) (hdb:(x==("__debug__":Str))=false:=by decide)
  (h1:noStar e=true:=by rfl) (hK:X.K=K:=by rfl):JE X (.Call (.Name "sorted" p) [e] [⟨some "key",.Name x p2,p3⟩] pos) (tN ⟨K,mg,E0⟩ O (al (sortD F) (ae φ aq))) :=
 u9 kf4 Df G hr hm ha hj hg hgx hdb h1 hK
end L2
namespace HT
open PySem PySem.Spec PyProof.Rows L2
section
variable {prog:Program} {w:World} {A:Around} {E:Value→Shared→Prop} {s:Shared}
theorem gZ {t sl:Addr} {items:Array Value} {vl vu:Value} {lo hi:Option Int} {Q:Value→Shared→Prop} (ht:IsTup s.heap t items) (hs:s.heap.IsSliceOf sl vl vu .none) (pl:IsPart vl lo) (pu:IsPart vu hi)
  (hw:sIx items.size 0 lo=0∧sIx items.size items.size hi=items.size) (h:Q (.ref t) s):wpAny (model prog w) A (getItem (.ref t) (.ref sl)) Q E s:=by
 obtain ⟨os,hos,hcs,hds⟩:=id hs
 have hTs:s.TypeIs (.ref sl) "slice":=⟨os,hos,hcs⟩
 unfold getItem
 try with_reducible refine wpAny_holding ?_
 first|refine wpAny_bind (wpAny_pure ?_)|skip
 refine wpAny_bind (wpAny_sequenceKey ht.typeIs (by decide) ?_)
 refine wpAny_bind (wpAny_callSpecial?_slot (name:=Str.ofString "__getitem__") ht.typeIs PyProof.Rows.slot_tuple_getitem
  (wpAny_call_entry PyProof.Rows.slot_tuple_getitem ht.typeIs entry_tuple_getitem ?_ (args_tuple_getitem _ _)))
 show wpAny _ _ (Builtin.Tuple.tupleItemsOf (.ref t) >>= _) _ _ s
 refine wpAny_bind (tupleItemsOf_ ht ?_)
 refine wpAny_bind (wpAny_typeOf hTs ?_)
 rw [if_pos (by decide)]
 refine wpAny_bind (fJ hs pl pu ?_)
 have hyes:(((sIx items.size 0 lo:Nat):Int)==0&&(1:Int)==1&&(sIx items.size items.size hi - sIx items.size 0 lo)==items.size)=true:=by
  rw [hw.1,hw.2];simp
 show wpAny _ _ (if (((sIx items.size 0 lo:Nat):Int)==0&&(1:Int)==1&&(sIx items.size items.size hi - sIx items.size 0 lo)==items.size)=true then _ else _) _ _ s
 rw [if_pos hyes]
 refine wpAny_bind (m:=Builtin.Tuple.tupleIsExact (.ref t)) ?_
 unfold Builtin.Tuple.tupleIsExact
 refine wpAny_bind (wpAny_typeOf ht.typeIs (wpAny_pure ?_))
 rw [if_pos (by decide)]
 first
  | exact wpAny_pure ⟨_,rfl,wpAny_pure h⟩
  | exact wpAny_bind (wpAny_pure (wpAny_pure ⟨_,rfl,wpAny_pure h⟩))
  | exact wpAny_bind (m:=rule _) (wpAny_pure (wpAny_pure ⟨_,rfl,wpAny_pure h⟩))
  | exact wpAny_bind (wpAny_rule (wpAny_pure ⟨_,rfl,wpAny_pure h⟩))
end
end HT
namespace L2
open PySem PySem.Spec PyProof.Rows
section
variable {X:Cx} {W:Wd}
def rSlW (K:PySem.W.Frag):V→Option Int→Option Int→Hp→VK→Prop:=fun x lo hi H Q=>∃ a xs,x=.ref a∧SqT K H a xs∧(HT.sIx xs.length 0 lo=0∧HT.sIx xs.length xs.length hi=xs.length)∧Q (.ref a) H
theorem vI:SlR X (rSlW X.K):=by
 intro pins s σ H x v vl vu lo hi sl Q I rx hs pl pu h
 obtain ⟨a,xs,rfl,hx,hw,q⟩:=h
 cases rx
 obtain ⟨its,r,ht,hz⟩:=I.tuple hx
 have hlen:its.toArray.size=xs.length:=by rw [List.size_toArray];exact r.length.symm
 refine ⟨"tuple",_,PyProof.Rows.slot_tuple_getitem.lookup,ht.typeIs,?_⟩
 exact HT.gZ ht hs pl pu (by rw [hlen];exact hw) ⟨.ref a,H,I,rfl,q⟩
def uSlW (K:PySem.W.Frag) (x:V) (lo hi:Option Int) (H:Hp) (Q:VK):Prop:=uSl K x lo hi H Q∨rSlW K x lo hi H Q
theorem oSlW (K:PySem.W.Frag) (hK:X.K=K:=by rfl):SlR X (uSlW K):=by
 subst hK
 exact oSl0.or vI
def m6 (a:D) (lo hi:Option Int):R D:=match a with
 | .tup xs=>if HT.sIx xs.length 0 lo=0∧HT.sIx xs.length xs.length hi=xs.length then .ok (.tup xs) else .ok (.tup (cutD xs lo hi))
 | d=>slD d lo hi
theorem pSlW (K:PySem.W.Frag) (hW:W.K=K:=by rfl):SlD W (uSlW K) m6:=by
 subst hW
 intro as H x lo hi a Q hn da h
 unfold m6 at h
 split at h
 ·rename_i xs
  split at h
  ·rename_i hc
   have hd:=da
   obtain ⟨p,vs,rfl,q1,q2⟩:=da
   rw [q2.len] at hc
   exact .inr ⟨p,vs,rfl,(aC _ _).seqT q1,hc,aQ h hd⟩
  ·rename_i hc
   refine .inl (pSl W.K rfl as H x lo hi _ Q hn da ?_)
   unfold slD
   dsimp only
   rw [if_neg hc]
   exact h
 ·exact .inl (pSl W.K rfl as H x lo hi _ Q hn da h)
end
end L2
namespace L2
open PySem PySem.Spec PyProof.Rows
open TS (K4 Lt4 l1 l2 l3 l4 t9)
section
variable {A:Around} {s:Shared} {a b c a' b' c':Int} {x y:Str} {t1 t2 t3 t4 u1 u2 u3 u4:Tok}
theorem yK {i j:Int} {t u:Tok} {r:Bool} (h:(i==j)=r):SeqAt.EqAt A s (.int i t) (.int j u) r:=fun prog w E Q q=>wpAny_eqBool_int (by rw [h];exact q)
theorem Cg {i j:Str} {t u:Tok} {r:Bool} (h:decide (i=j)=r):SeqAt.EqAt A s (.str i t) (.str j u) r:=fun prog w E Q q=>wpAny_eqBool_str (by rw [h];exact q)
theorem lx4:LT.Lx A s [.int a t1,.int b t2,.str x t3,.int c t4] [.int a' u1,.int b' u2,.str y u3,.int c' u4] (decide (Lt4 (a,b,x.cps.toList,c) (a',b',y.cps.toList,c'))):=by
 by_cases h1:a=a'
 ·subst h1
  refine .eq (yK (beq_self_eq_true a)) ?_
  by_cases h2:b=b'
  ·subst h2
   refine .eq (yK (beq_self_eq_true b)) ?_
   by_cases h3:x=y
   ·subst h3
    refine .eq (Cg (decide_eq_true rfl)) ?_
    rw [decide_eq_decide.mpr l4]
    by_cases h4:c=c'
    ·subst h4
     rw [decide_eq_false (Int.lt_irrefl c)]
     exact .eq (yK (beq_self_eq_true c)) .nn
    ·exact .ne (yK (beq_eq_false_iff_ne.mpr h4)) (LT.LtAt.int _ _ _ _)
   ·rw [decide_eq_decide.mpr (l3 (t9 h3))]
    exact .ne (Cg (decide_eq_false h3)) (LT.LtAt.str _ _ _ _)
  ·rw [decide_eq_decide.mpr (l2 h2)]
   exact .ne (yK (beq_eq_false_iff_ne.mpr h2)) (LT.LtAt.int _ _ _ _)
 ·rw [decide_eq_decide.mpr (l1 h1)]
  exact .ne (yK (beq_eq_false_iff_ne.mpr h1)) (LT.LtAt.int _ _ _ _)
end
section
variable {X:Cx} {W:Wd}
theorem tup4 {pins:List (Addr×Obj)} {σ:St} {H:Hp} {s:Shared} (I:Inv X pins σ H s) {d:D} {x:V} {v:Value} {k:K4} (hd:Den X.K H d x) (rx:RelV x v) (hk:keyD d=some k) :
  ∃ p a t1 b t2 z t3 c t4,v=.ref p∧IsTup s.heap p [Value.int a t1,.int b t2,.str z t3,.int c t4].toArray∧k=(a,b,z.cps.toList,c):=by
 obtain ⟨a,b,z,c,e1,e2⟩:=jW (r:=.ok d) hk
 cases e1
 obtain ⟨p,vs,rfl,h1,h2⟩:=hd
 cases rx
 obtain ⟨its,r,ht,_⟩:=I.tuple h1
 obtain ⟨t1,t2,t3,t4,rfl⟩:=tJ h2 r
 exact ⟨p,a,t1,b,t2,z,t3,c,t4,rfl,ht,e2⟩
def uLtK (K:PySem.W.Frag):R2:=fun x y H Q=>∃ a b k l,Den K H a x∧Den K H b y∧keyD a=some k∧keyD b=some l∧Q (.bl (decide (Lt4 k l))) H
theorem oLtK (K:PySem.W.Frag) (hu:X.A.units+64 < cLine) (hK:X.K=K:=by rfl):OpR X (compareOp .Lt) (uLtK K):=by
 subst hK
 intro pins s σ H x y v u Q I rx ry h
 obtain ⟨a,b,k,l,da,db,e1,e2,q⟩:=h
 obtain ⟨p,a1,t1,a2,t2,a3,t3,a4,t4,rfl,ha,rfl⟩:=tup4 I da rx e1
 obtain ⟨p',b1,u1,b2,u2,b3,u3,b4,u4,rfl,hb,rfl⟩:=tup4 I db ry e2
 exact LT.LtAt.tup ha hb lx4 (by lia) X.prog X.w X.xe _ ⟨.bl _,H,I,rfl,q⟩
def optK (o:Option K4) (f:K4→R D):R D:=match o with
 | some k=>f k
 | none=>.no
def ltK (a b:D):R D:=optK (keyD a) fun k=>optK (keyD b) fun l=>.ok (.bl (decide (Lt4 k l)))
theorem pLtK (K:PySem.W.Frag) (hW:W.K=K:=by rfl):OpD W (uLtK K) ltK:=by
 subst hW
 intro as H x y a b Q hn da db h
 unfold ltK at h
 cases e1:keyD a with
 | none=>rw [e1] at h;exact h.elim
 | some k =>
  cases e2:keyD b with
  | none=>rw [e1,e2] at h;exact h.elim
  | some l=>rw [e1,e2] at h;exact ⟨a,b,k,l,da.mono (aC _ _),db.mono (aC _ _),e1,e2,aQ h rfl⟩
end
end L2
namespace L2
open PySem PySem.Spec PyProof.Rows
section
variable {X:Cx} {W:Wd} {Ob O O2:List Nat} {e ie:Expr} {φ ε:FE} {pos p1 spos:Pos} {x:Str}
abbrev FG:Type:=D→Sd→R Sd
def gF (W:Wd) (O:List Nat) (f:FG):TG:=fun v σ H Q=>∃ as0 B own δ d,DI W.K as0 B O own σ δ H∧Den W.K (mask (own++as0) H) d v∧match f d δ with
 | .ok δ'=>∀ σ' H',Same (mask (own++as0) H) (mask (own++as0) H')→DI W.K as0 B O own σ' δ' H'→Q σ' H'
 | _=>False
theorem tM {t:Expr} {tg:TgD} (h:JG X t (gD W O tg)):JG X t (gF W O (bindD tg)):=h.imp fun v σ H Q ⟨as0,B,own,δ,d,I,dv,h⟩=>by
 refine ⟨as0,B,own,δ,d,I,dv,?_⟩
 cases q:bindD tg d δ with
 | ok δ'=>rw [q] at h;exact fun σ' I'=>h σ' H (fun _ _ e=>e) I'
 | er y=>rw [q] at h;exact h
 | no=>rw [q] at h;exact h
def sUnp (f:FG) (ε:FE):FS:=fun δ=>(ε δ).bind fun d=>match f d δ with
 | .ok δ'=>.ok (.nx δ')
 | _=>.no
theorem uo {t:Expr} {f:FG} (he:JE X e (tD W O ε)) (hg:JG X t (gF W O f)) (hs:swapsWithSole [t] e pos.line X.env=pure false:=by rfl) (hw:swappedStores [t] e X.env=pure none:=by rfl)
  (h1:(assignEach [t] X.env).map (·.2)=[assign t X.env]:=by rfl):JS X (.Assign [t] e pos) (sD W Ob O O (sUnp f ε)):=(yW he hg hs hw h1).imp fun D σ H hh=>exE hh fun as0 B own δ I h =>
 ⟨as0,B,own,δ,I,eM I h fun d v H' s dv h'=>by
  refine ⟨as0,B,own,δ,d,I.mono s,dv,?_⟩
  cases e1:f d δ with
  | ok δ'=>rw [e1] at h';exact fun σ' H2 _ I2=>h' own σ' H2 I2
  | er y=>rw [e1] at h';exact h'
  | no=>rw [e1] at h';exact h'⟩
theorem qf {f:FG} {ε:FE} {δ δ':Sd} {d:D} (h:ε δ=.ok d) (hf:f d δ=.ok δ'):sUnp f ε δ=.ok (.nx δ'):=by
 unfold sUnp;rw [h];show (match f d δ with|.ok δ'=>R.ok (Fl.nx δ')|_=>.no)=_;rw [hf]
end
section
variable {X:Cx} {W:Wd} {O:List Nat} {a b c:Expr} {φ ψ χ:FE} {pos:Pos}
def vChain (g g':D→D→R D) (φ ψ χ:FE):FE:=fun δ=>(φ δ).bind fun x=>(ψ δ).bind fun y=>(g x y).bind fun z=>blD z fun b=>if b=true then (χ δ).bind fun w=>g' y w else .ok (.bl false)
theorem oo {r r':R2} {g g':D→D→R D} (hd:OpD W r g) (hd':OpD W r' g') {as0 own:List Addr} {B H:Hp} {σ:St} {δ:Sd} {Q:VK} (I:DI W.K as0 B O own σ δ H) (h:Fits W (own++as0) H (vChain g g' φ ψ χ δ) Q):tChain r r' (tD W O φ) (tD W O ψ) (tD W O χ) σ H Q:=by
 refine ⟨as0,B,own,δ,I,bt h fun x v H1 s1 d1 h1=>⟨as0,B,own,δ,I.mono s1,bt h1 fun y u H2 s2 d2 h2=>?_⟩⟩
 refine hd (own++as0) H2 v u x y _ (fun p hp=>((I.mono s1).mono s2).new hp) (d1.mono (aW s2)) d2 (bt h2 fun z w H3 s3 d3 h3=>?_)
 cases z with
 | bl k =>
  cases d3
  refine ⟨k,rfl,?_⟩
  cases k with
  | true =>
   rw [if_pos rfl]
   have I3:=((I.mono s1).mono s2).mono s3
   exact ⟨as0,B,own,δ,I3,bt (show Fits W (own++as0) H3 ((χ δ).bind fun w=>g' y w) Q from h3) fun w0 u4 H4 s4 d4 h4=>hd' (own++as0) H4 u u4 y w0 Q (fun p hp=>(I3.mono s4).new hp) (d2.mono (aW (s3.trans s4))) d4 h4⟩
  | false =>
   rw [if_neg Bool.false_ne_true]
   exact h3 _ H3 (Same.refl _) rfl
 | _=>exact h3.elim
theorem uI {op op':CmpOp} {r r':R2} {g g':D→D→R D} (ho:OpR X (compareOp op) r) (hd:OpD W r g) (ho':OpR X (compareOp op') r') (hd':OpD W r' g') (ha:JE X a (tD W O φ)) (hb:JE X b (tD W O ψ)) (hc:JE X c (tD W O χ)) (hm:lastMarks [op,op'] [b,c]=false:=by with_unfolding_all rfl) :
  JE X (.Compare a [op,op'] [b,c] pos) (tD W O (vChain g g' φ ψ χ)) :=
 (⟨vR ho ho' ha.out hb.out hc.out hm⟩:JE X (.Compare a [op,op'] [b,c] pos) (tChain r r' (tD W O φ) (tD W O ψ) (tD W O χ))).imp fun σ H Q hh=>exE hh fun as0 B own δ I h=>oo hd hd' I h
theorem mQ {op op':CmpOp} {r r':R2} {g g':D→D→R D} (ho:OpR X (compareOp op) r) (hd:OpD W r g) (ho':OpR X (compareOp op') r') (hd':OpD W r' g') (ha:JE X a (tD W O φ)) (hb:JE X b (tD W O ψ)) (hc:JE X c (tD W O χ)) (hm:lastMarks [op,op'] [b,c]=false:=by with_unfolding_all rfl) :
  JT X (.Compare a [op,op'] [b,c] pos) (tDT W O (qBl (vChain g g' φ ψ χ))) :=
 (⟨vS ho ho' ha.out hb.out hc.out hm⟩:JT X (.Compare a [op,op'] [b,c] pos) (tTest (tChain r r' (tD W O φ) (tD W O ψ) (tD W O χ)))).imp fun σ H Q hh=>exE hh fun as0 B own δ I h=>oo hd hd' I (cZ h fun d v H' s dv h'=>by
  cases d with
  | bl k=>cases dv;exact ⟨k,rfl,h' H' (Same.refl _)⟩
  | _=>exact h'.elim)
end
section
variable {X:Cx} {W:Wd} {O:List Nat} {tg:Expr}
def rng2:List D→R (List D)
 | [.int i,.int j]=>if -(2 ^ 62)≤i∧i < 2 ^ 62∧-(2 ^ 62)≤j∧j < 2 ^ 62 then .ok (cS i (j - i).toNat) else .no
 | _=>.no
def iRng2D (α:FA):FA:=fun δ=>(α δ).bind rng2
theorem sS {a b:Expr} {α:FA} {p pos:Pos} (hm:X.mg "range"=none) (ha:JA X [a,b] (tDA W O α)) (hg:Gl X "range":=by rfl) (hs:starEach [a,b] X.env=[(false,eval a X.env),(false,eval b X.env)]:=by rfl) (hs2:starEach [b] X.env=[(false,eval b X.env)]:=by rfl):JI X tg (.Call (.Name "range" p) [a,b] [] pos) (iD W O (iRng2D α)) :=
 (⟨vt hg hm ha.out hs hs2⟩:JI X tg (.Call (.Name "range" p) [a,b] [] pos) (iRng2 (tDA W O α))).imp fun σ H Q hh=>exE hh fun as0 B own δ I h =>
 ⟨as0,B,own,δ,I,g7 h fun ds vs H' s dv h'=>by
  unfold rng2 at h'
  split at h'
  ·obtain ⟨v,r,rfl,d1,v2,r2,rfl,d2,d3⟩:=dv
   cases d1
   cases d2
   cases d3
   split at h'
   ·rename_i hj;exact ⟨_,_,rfl,hj,h' _ H' (Same.refl _) (jz _ _)⟩
   ·exact h'.elim
  ·exact h'.elim⟩
theorem v7 {prog:Program} {w:World} {A:Around} {E:Value→Shared→Prop} {s:Shared} {t b:Addr} {ws:List Value} {Q:Value→Shared→Prop} (ht:IsTup s.heap t #[]) (hb:IsTup s.heap b ws.toArray) (h:Q (.ref b) s):wpAny (model prog w) A (binaryOp .Add (.ref t) (.ref b)) Q E s:=by
 obtain ⟨⟨cls,dd,data,sl⟩,ho,hc,n,hd⟩:=id ht
 obtain ⟨⟨cls2,dd2,data2,sl2⟩,ho2,hc2,n2,hd2⟩:=id hb
 simp only at hc hd hc2 hd2
 subst hc hd hc2 hd2
 exact concat_meets ⟨_,ho,rfl⟩ ⟨_,ho2,rfl⟩ noFill_tuple_add seq_tuple_add PySem.F.slot_tuple_add PySem.F.entry_tuple_add (PySem.F.args_tuple_add_2 _ _) (tuple_addW0 t b #[] ws.toArray n n2 dd dd2 sl sl2 rfl) ⟨ho,ho2,h⟩
def uPlusT (K:PySem.W.Frag):R2:=fun x y H Q=>uPlus K x y H Q∨∃ l b zs,x=.ref l∧y=.ref b∧SqT K H l []∧SqT K H b zs∧Q (.ref b) H
theorem oPlusT (K:PySem.W.Frag) (hK:X.K=K:=by rfl):OpR X (binaryOp .Add) (uPlusT K):=by
 subst hK
 refine (bG X.K).or ?_
 intro pins s σ H x y v u Q I rx ry h
 obtain ⟨l,b,zs,rfl,rfl,h1,h2,q⟩:=h
 cases rx
 cases ry
 obtain ⟨its,r1,p1,_⟩:=I.tuple h1
 obtain ⟨its2,r2,p2,_⟩:=I.tuple h2
 cases r1
 exact v7 p1 p2 ⟨.ref b,H,I,rfl,q⟩
def addTD (a b:D):R D:=match a with
 | .tup []=>(match b with
  | .tup ys=>.ok (.tup ys)
  | _=>.no)
 | a=>addD a b
theorem pAddT (K:PySem.W.Frag) (hW:W.K=K:=by rfl):OpD W (uPlusT K) addTD:=by
 intro as H x y a b Q hn da db h
 unfold addTD at h
 split at h
 ·split at h
  ·obtain ⟨p,vs,rfl,q1,q2⟩:=da
   cases q2
   obtain ⟨p2,ws,rfl,q3,q4⟩:=db
   subst hW
   exact .inr ⟨p,p2,ws,rfl,rfl,(aC _ _).seqT q1,(aC _ _).seqT q3,aQ h ⟨p2,ws,rfl,q3,q4⟩⟩
  ·exact h.elim
 ·exact .inl (pAdd K hW as H x y a b Q hn da db h)
def allI:List D→Option (List Int)
 | []=>some []
 | d::r=>(asI d).bind fun i=>(allI r).bind fun is=>some (i::is)
def eqI (j:Int) (v:Value):Bool:=match v with
 | .int i _=>i==j
 | _=>false
def rLCt (K:PySem.W.Frag):V→List V→Hp→VK→Prop:=fun x vs H Q=>∃ (p:Addr) (is:List Int) (j:Int),x=.ref p∧vs=[.int j]∧SqL K H p (is.map V.int)∧Q (.int ((is.count j:Nat):Int)) H
theorem wX {j:Int}:∀ {is:List Int} {its:List Value},Vals (is.map V.int) its→its.countP (eqI j)=is.count j∧∀ y∈its,∃ i t,y=.int i t
 | [],_,r=>by cases r;exact ⟨rfl,fun y hy=>nomatch hy⟩
 | i::is,_,r=>by
  cases r with
  | cons r1 r2 =>
   obtain ⟨t,rfl⟩:=r1
   obtain ⟨h1,h2⟩:=wX (j:=j) r2
   refine ⟨?_,fun y hy=>?_⟩
   ·rw [List.countP_cons,List.count_cons,h1]
    rfl
   ·rcases List.mem_cons.mp hy with rfl|hy
    ·exact ⟨i,t,rfl⟩
    ·exact h2 y hy
theorem wc (K:PySem.W.Frag) (hK:X.K=K:=by rfl):MtR X "list.count" (rLCt K):=by
 subst hK
 intro pins s σ H x vs v us Q I rx rv h
 obtain ⟨p,is,j,rfl,rfl,hl,q⟩:=h
 cases rx
 obtain ⟨u,rfl,ru⟩:=vals1 rv
 obtain ⟨tj,rfl⟩:=ru
 obtain ⟨its,r,⟨ob,n,e,hc,hd,hs⟩,hz⟩:=I.list hl
 obtain ⟨c,dd,da,sl⟩:=ob
 cases hc;cases hd;cases hs
 obtain ⟨c1,c2⟩:=wX (j:=j) r
 refine call_meets PySem.F.slot_list_count ⟨_,e,rfl⟩ PySem.F.entry_list_count (PySem.F.args_list_count_2 _ _) (SeqAt.list_countAt p its.toArray n _ _ (.int j tj) (eqI j)) ⟨e,fun y hy=>?_,?_⟩
 ·obtain ⟨i,t,rfl⟩:=c2 y (by simpa using hy)
  exact SeqAt.EqAt.int_int _ _ _ _
 ·have e2:(its.toArray.toList.countP (eqI j))=is.count j:=by simpa using c1
  rw [e2]
  exact ⟨.int _,H,I.tok _ (by walk_at "tok"),⟨_,rfl⟩,q⟩
def lctD (x y:D):R D:=match x with
 | .lst xs=>(match allI xs,asI y with
  | some is,some j=>.ok (.int ((is.count j:Nat):Int))
  | _,_=>.no)
 | _=>.no
theorem qH {K:PySem.W.Frag} {H:Hp}:∀ {ds:List D} {vs:List V} {is:List Int},Dens K H ds vs→allI ds=some is→vs=is.map V.int
 | [],_,_,dn,h=>by cases dn;cases h;rfl
 | d::ds,_,_,⟨v,vs,e,d1,d2⟩,h=>by
  obtain ⟨i,e1,h⟩:=Option.bind_eq_some_iff.mp h
  obtain ⟨is,e2,h⟩:=Option.bind_eq_some_iff.mp h
  cases h
  rw [jm e1] at d1
  cases d1
  rw [e,qH d2 e2];rfl
def vLCt (φ ψ:FE):FE:=fun δ=>(φ δ).bind fun x=>match x with
 | .lst ds=>(ψ δ).bind fun y=>lctD (.lst ds) y
 | _=>.no
variable {o e:Expr} {φ ψ:FE} {apos cpos:Pos}
theorem wo (K:PySem.W.Frag) (ho:JE X o (tD W O φ)) (ha:JE X e (tD W O ψ)) (hK:X.K=K:=by rfl) (hW:W.K=K:=by rfl) (hbase:attributeBase o "count" X.env (eval o X.env)=eval o X.env:=by rfl) (hline:(apos.endLine==cpos.line)=true:=by rfl) (hn:noStar e=true:=by rfl) :
  JE X (.Call (.Attribute o "count" apos) [e] [] cpos) (tD W O (vLCt φ ψ)) :=
 (AX PySem.F.plainAttrs_list PySem.F.slot_list_count PySem.F.type_list_count (wc K hK) ho (mE ha qF hn) hbase hline (by rw [List.all_cons,hn];rfl) (by show 1 < 29;decide)).imp fun σ H Q hh=>exE hh fun as0 B own δ I h=>⟨as0,B,own,δ,I,bt h fun x v H1 s1 d1 h1=>by
  subst hK
  cases x with
  | lst ds =>
   obtain ⟨p,xs,rfl,q1,q2⟩:=d1
   have q1':SqL X.K H1 p xs:=by rw [← hW];exact (aC _ _).seq q1
   refine ⟨.inl ⟨rfl,xs,q1'⟩,?_⟩
   refine ⟨as0,B,own,δ,I.mono s1,bt h1 fun y u H2 s2 d2 h2=>?_⟩
   unfold lctD at h2
   dsimp only at h2
   cases e1:allI ds with
   | none=>rw [e1] at h2;exact h2.elim
   | some is =>
    cases e2:asI y with
    | none=>rw [e1,e2] at h2;exact h2.elim
    | some j =>
     rw [e1,e2] at h2
     rw [jm e2] at d2
     cases d2
     rw [qH q2 e1] at q1'
     exact ⟨p,is,j,rfl,rfl,s2.seq q1',aQ h2 rfl⟩
  | _=>exact h1.elim⟩
end
end L2
namespace T23
open PySem L2
def lY:D:=(.tup [(.str "none"),(.str "number"),(.str "text")])
def fX:D:=(.int 40)
def iL:D:=(.int 4)
def wZ:D:=(.int 8)
def cP:D:=(.int 2)
def dY:D:=(.int 1000000000)
abbrev nM:List Str:=["sign"]
abbrev fQ:List Str:=["sign"]
def iJ:FS:=(bo (vAnd (vOp geD (ai 0) (vC (.str " "))) (vOp leD (ai 0) (vC (.str "~")))))
def fY:List D→R D:=runD iJ nM fQ
theorem tK (a0:D):fY [a0]=fin (iJ [some a0]):=rfl
abbrev jl:List Str:=["thing"]
abbrev eY:List Str:=["thing"]
abbrev w25x:FT:=(fK (al iq (ae (ai 0) (ae (vC (.ty "str")) aq))))
def gu:FS:=(aR (sIf w25x (bo (vAnd (vOp leD (al lenD (ae (ai 0) aq)) (vC fX)) (al allD (ae (cC [none] (jE (ai 0)) (.one 0) qYes (al fY (ae (ai 0) aq))) aq)))) aV) (aR (sIf (qAnd (fK (al iq (ae (ai 0) (ae (vC (.ty "int")) aq)))) (dX (fK (al iq (ae (ai 0) (ae (vC (.ty "bool")) aq)))))) (bo (vOp ltD (al absD (ae (ai 0) aq)) (vOp powD (vC (.int 10)) (vC (.int 18))))) aV) (bo (vOp isD (ai 0) (vC .non)))))
def gt:List D→R D:=runD gu jl eY
theorem qU (a0:D):gt [a0]=fin (gu [some a0]):=rfl
abbrev on:List Str:=["value"]
abbrev fL:List Str:=["value"]
def i7:FS:=(aR (sIf (qBl (vOp isD (ai 0) (vC .non))) (bo (vC (.str "none"))) aV) (bo (vIf w25x (vC (.str "text")) (vC (.str "number")))))
def cu:List D→R D:=runD i7 on fL
theorem tm (a0:D):cu [a0]=fin (i7 [some a0]):=rfl
abbrev nH:List Str:=["one","other"]
abbrev ge:List Str:=["one","other"]
abbrev w22x:FE:=(vOp ltD (vTIx lY (ae (al cu (ae (ai 0) aq)) aq)) (vTIx lY (ae (al cu (ae (ai 1) aq)) aq)))
def iz:FS:=(aR (sIf (qBl (vOp neD (al cu (ae (ai 0) aq)) (al cu (ae (ai 1) aq)))) (bo (vIf (qBl w22x) (vUn negD (vC (.int 1))) (vC (.int 1)))) aV) (aR (sIf (qBl (vOp eqD (ai 0) (ai 1))) (bo (vC (.int 0))) aV) (bo (vIf (qBl (vOp ltD (ai 0) (ai 1))) (vUn negD (vC (.int 1))) (vC (.int 1))))))
def jc:List D→R D:=runD iz nH ge
theorem ug (a0 a1:D):jc [a0,a1]=fin (iz [some a0,some a1]):=rfl
abbrev jb:List Str:=["one","other","told"]
abbrev cy:List Str:=["one","other"]
def cV:FS:=(aR (bQ 2 (al jc (ae (vOp ixD (ai 0) (vC (.int 0))) (ae (vOp ixD (ai 1) (vC (.int 0))) aq)))) (bo (vOr (vOp ltD (ai 2) (vC (.int 0))) (vAnd (vOp eqD (ai 2) (vC (.int 0))) (vOp ltD (vOp ixD (ai 0) (vC (.int 1))) (vOp ixD (ai 1) (vC (.int 1))))))))
def bL:List D→R D:=runD cV jb cy
theorem mm (a0 a1:D):bL [a0,a1]=fin (cV [some a0,some a1,none]):=rfl
abbrev lf:List Str:=["cells","things","cell"]
abbrev c9:List Str:=["cells"]
def fk:FS:=(aR (sOwn 1 (dF aq)) (aR (sFor (jE (ai 0)) (.one 2) (jx 1 (vOp ixD (ai 2) (vC (.int 1))))) (bo (ai 1))))
def bF:List D→R D:=runD fk lf c9
theorem ph (a0:D):bF [a0]=fin (fk [some a0,none,none]):=rfl
abbrev lO:List Str:=["cell"]
abbrev eD:List Str:=["cell"]
abbrev w27x:FE:=(vOp eqD (vOp ixD (ai 0) (vC (.int 0))) (vC (.str "leaf")))
def fe:FS:=(bo (vIf (qBl w27x) (vOp ixD (vOp ixD (ai 0) (vC (.int 1))) (vC (.int 0))) (vOp ixD (vOp ixD (vOp ixD (ai 0) (vC (.int 1))) (vC (.int 0))) (vC (.int 0)))))
def eR:List D→R D:=runD fe lO eD
theorem lL (a0:D):eR [a0]=fin (fe [some a0]):=rfl
abbrev pW:List Str:=["thing"]
abbrev iw:List Str:=["thing"]
def jP:FS:=(bo (vAnd (al iq (ae (ai 0) (ae (vC (.ty "tuple")) aq))) (vOp eqD (al lenD (ae (ai 0) aq)) (vC (.int 2)))))
def cU:List D→R D:=runD jP pW iw
theorem vQ (a0:D):cU [a0]=fin (jP [some a0]):=rfl
abbrev om:List Str:=["thing","word","fewest"]
abbrev fP:List Str:=["thing","word","fewest"]
abbrev w16x:FT:=(fK (al iq (ae (vOp ixD (ai 0) (vC (.int 0))) (ae (vC (.ty "str")) aq))))
def iP:FS:=(aR (sIf (qOr (dX (fK (al cU (ae (ai 0) aq)))) (qOr (dX w16x) (qBl (vOp neD (vOp ixD (ai 0) (vC (.int 0))) (ai 1))))) (bo (vC (.bl false))) aV) (bo (vAnd (al iq (ae (vOp ixD (ai 0) (vC (.int 1))) (ae (vC (.ty "tuple")) aq))) (vAnd (vOp geD (al lenD (ae (vOp ixD (ai 0) (vC (.int 1))) aq)) (ai 2)) (vOp leD (al lenD (ae (vOp ixD (ai 0) (vC (.int 1))) aq)) (vC wZ))))))
def dr:List D→R D:=runD iP om fP
theorem t5 (a0 a1 a2:D):dr [a0,a1,a2]=fin (iP [some a0,some a1,some a2]):=rfl
abbrev oF:List Str:=["entries"]
abbrev kJ:List Str:=["entries"]
def mF:FS:=(bo (al allD (ae (cC [none,none] (iZip (ae (ai 0) (ae (vSl m6 (ai 0) (bU (vC (.int 1))) cx) aq))) (.tup [0,1]) qYes (al bL (ae (ai 0) (ae (ai 1) aq)))) aq)))
def hV:List D→R D:=runD mF oF kJ
theorem yA (a0:D):hV [a0]=fin (mF [some a0]):=rfl
abbrev gb:List Str:=["thing"]
abbrev bS:List Str:=["thing"]
def cz:FS:=(bo (vAnd (al iq (ae (ai 0) (ae (vC (.ty "int")) aq))) (vAnd (vNot (al iq (ae (ai 0) (ae (vC (.ty "bool")) aq)))) (vAnd (vOp geD (ai 0) (vC (.int 1))) (vOp leD (ai 0) (vC dY))))))
def cw:List D→R D:=runD cz gb bS
theorem kI (a0:D):cw [a0]=fin (cz [some a0]):=rfl
abbrev lP:List Str:=["thing"]
abbrev eO:List Str:=["thing"]
def gN:FS:=(bo (vAnd (al cU (ae (ai 0) aq)) (vAnd (al gt (ae (vOp ixD (ai 0) (vC (.int 0))) aq)) (al cw (ae (vOp ixD (ai 0) (vC (.int 1))) aq)))))
def eJ:List D→R D:=runD gN lP eO
theorem rG (a0:D):eJ [a0]=fin (gN [some a0]):=rfl
abbrev kQ:List Str:=["thing","fewest"]
abbrev fR:List Str:=["thing","fewest"]
abbrev w32x:FE:=(cC [none] (jE (vOp ixD (ai 0) (vC (.int 1)))) (.one 0) qYes (al eJ (ae (ai 0) aq)))
def iu:FS:=(aR (sIf (dX (fK (al dr (ae (ai 0) (ae (vC (.str "leaf")) (ae (ai 1) aq)))))) (bo (vC (.bl false))) aV) (bo (vAnd (al allD (ae w32x aq)) (al hV (ae (vOp ixD (ai 0) (vC (.int 1))) aq)))))
def du:List D→R D:=runD iu kQ fR
theorem tR (a0 a1:D):du [a0,a1]=fin (iu [some a0,some a1]):=rfl
abbrev nt:List Str:=["thing"]
abbrev gf:List Str:=["thing"]
def iM:FS:=(bo (vAnd (al cU (ae (ai 0) aq)) (al eJ (ae (vOp ixD (ai 0) (vC (.int 0))) aq))))
def iV:List D→R D:=runD iM nt gf
theorem uz (a0:D):iV [a0]=fin (iM [some a0]):=rfl
abbrev g6:List Str:=["thing","fewest"]
abbrev dC:List Str:=["thing","fewest"]
abbrev w33x:FE:=(cC [none] (jE (vOp ixD (ai 0) (vC (.int 1)))) (.one 0) qYes (al iV (ae (ai 0) aq)))
def ft:FS:=(bo (vAnd (al dr (ae (ai 0) (ae (vC (.str "branch")) (ae (ai 1) aq)))) (al allD (ae w33x aq))))
def b9:List D→R D:=runD ft g6 dC
theorem oE (a0 a1:D):b9 [a0,a1]=fin (ft [some a0,some a1]):=rfl
abbrev cF:List Str:=["thing","parts","cells","leaves"]
abbrev eT:List Str:=["thing"]
abbrev w0x:FE:=(vOp eqD (vOp ixD (ai 0) (vC (.int 0))) (al eR (ae (vOp ixD (ai 0) (vC (.int 1))) aq)))
abbrev w4x:FT:=(dX (fK (al allD (ae (cC [none] (jE (ai 2)) (.one 0) qYes (al b9 (ae (ai 0) (ae (vC iL) aq)))) aq))))
abbrev w12x:FE:=(cC [none] (jE (ai 2)) (.one 0) qYes (al du (ae (ai 0) (ae (vC iL) aq))))
abbrev w20x:FE:=(cC [none] (jE (ai 1)) (.one 0) qYes (vOp ixD (ai 0) (vC (.int 1))))
abbrev w29x:FT:=(fK (al hV (ae (cC [none] (jE (ai 1)) (.one 0) qYes (vOp ixD (ai 0) (vC (.int 0)))) aq)))
def gw:FS:=(aR (sIf (fK (al du (ae (ai 0) (ae (vC (.int 0)) aq)))) (bo (vC (.bl true))) aV) (aR (sIf (dX (fK (al b9 (ae (ai 0) (ae (vC cP) aq))))) (bo (vC (.bl false))) aV) (aR (bQ 1 (al lstD (ae (vOp ixD (ai 0) (vC (.int 1))) aq))) (aR (ck w29x (aR (bQ 2 w20x) (aR (bQ 3 (al allD (ae w12x aq))) (aR (sIf (qAnd (dX (fK (ai 3))) w4x) (bo (vC (.bl false))) aV) (aR (sIf (dX (fK (al allD (ae (cC [none] (jE (ai 1)) (.one 0) qYes w0x) aq)))) (bo (vC (.bl false))) aV) (aR (sIf (fK (ai 3)) (bo (al hV (ae (al bF (ae (ai 2) aq)) aq))) aV) (bQ 1 (al bF (ae (ai 2) aq)))))))) 1000) (bo (vC (.bl false)))))))
def c7:List D→R D:=runD gw cF eT
theorem rR (a0:D):c7 [a0]=fin (gw [some a0,none,none,none]):=rfl
abbrev kj:List Str:=["_law_script","_law_k"]
abbrev dz:List Str:=["_law_script","_law_k"]
def fI:FS:=(aR (sIf (qBl (vOp ltD (ai 1) (al lenD (ae (ai 0) aq)))) (bo (vOp ixD (ai 0) (ai 1))) aV) (bo (vC (.int 0))))
def cc:List D→R D:=runD fI kj dz
theorem oC (a0 a1:D):cc [a0,a1]=fin (fI [some a0,some a1]):=rfl
abbrev oi:List Str:=["_law_found"]
abbrev fM:List Str:=["_law_found"]
def i8:FS:=(bo (vAnd (al iq (ae (ai 0) (ae (vC (.ty "int")) aq))) (vNot (al iq (ae (ai 0) (ae (vC (.ty "bool")) aq))))))
def dq:List D→R D:=runD i8 oi fM
theorem uA (a0:D):dq [a0]=fin (i8 [some a0]):=rfl
abbrev lG:List Str:=["_law_cell","_law_many","_law_found","_law_number","_law_k"]
abbrev ei:List Str:=["_law_cell","_law_many"]
abbrev w14x:FE:=(vOp addD (vOp mulD (ai 3) (vC (.int 48271))) (vC (.int 11)))
def gp:FS:=(aR (sOwn 2 (dF aq)) (aR (bQ 3 (vOp modD (ai 0) (vC (.int 2147483647)))) (aR (sFor (iRng1D (ae (ai 1) aq)) (.one 4) (aR (bQ 3 (vOp modD (vOp addD w14x (ai 4)) (vC (.int 2147483647)))) (dW 2 (ai 3)))) (bo (ai 2)))))
def dZ:List D→R D:=runD gp lG ei
theorem rQ (a0 a1:D):dZ [a0,a1]=fin (gp [some a0,some a1,none,none,none]):=rfl
abbrev j6:List Str:=["_law_x","_law_some","_law_way"]
abbrev fV:List Str:=["_law_x"]
abbrev w6x:FE:=(vOp ixD (ai 1) (vOp modD (vOp addD (vOp divD (vOp divD (ai 2) (vC (.int 8))) (vOp addD (ai 0) (vC (.int 1)))) (ai 0)) (vC (.int 94))))
def iv:FS:=(aR (bQ 1 (vC (.str " !\"#$&'()*+,-./0123456789:;<=>?@ABCDEFGHIJKLMNOPQRSTUVWXYZ[\\]^_`"))) (aR (bQ 1 (vOp addD (ai 1) (vC (.str "abcdefghijklmnopqrstuvwxyz{|}~")))) (aR (bQ 2 (vOp modD (ai 0) (vC (.int 8)))) (aR (sIf (qBl (vOp eqD (ai 2) (vC (.int 0)))) (bo (vC .non)) aV) (aR (sIf (qBl (vOp ltD (ai 2) (vC (.int 4)))) (bo (vOp subD (vOp modD (vOp divD (ai 0) (vC (.int 8))) (vC (.int 7))) (vC (.int 3)))) aV) (aR (sIf (qBl (vOp eqD (ai 2) (vC (.int 4)))) (bo (vOp ixD (dF (ae (vOp subD (vOp powD (vC (.int 10)) (vC (.int 18))) (vC (.int 1))) (ae (vOp subD (vC (.int 1)) (vOp powD (vC (.int 10)) (vC (.int 18)))) (ae (vOp powD (vC (.int 10)) (vC (.int 9))) (ae (vUn negD (vC (.int 10))) aq))))) (vOp modD (vOp divD (ai 0) (vC (.int 8))) (vC (.int 4))))) aV) (aR (sIf (qBl (vOp eqD (ai 2) (vC (.int 5)))) (bo (vOp subD (vOp modD (vOp mulD (vOp mulD (ai 0) (ai 0)) (vC (.int 48271))) (vOp subD (vOp mulD (vC (.int 2)) (vOp powD (vC (.int 10)) (vC (.int 18)))) (vC (.int 1)))) (vOp subD (vOp powD (vC (.int 10)) (vC (.int 18))) (vC (.int 1))))) aV) (aR (sIf (qBl (vOp eqD (ai 2) (vC (.int 6)))) (bo (vOp ixD (dF (ae (vC (.str "")) (ae (vC (.str "a")) (ae (vC (.str "ab")) (ae (vC (.str "b")) (ae (vC (.str "aB")) (ae (vC (.str " ")) (ae (vC (.str "~")) (ae (vC (.str "a ")) aq))))))))) (vOp modD (vOp divD (ai 0) (vC (.int 8))) (vC (.int 8))))) aV) (bo (vSM joinD (vC (.str "")) (ae (cC [none,some 1,some 0] (iRng1D (ae (vOp modD (vOp divD (ai 0) (vC (.int 64))) (vC (.int 41))) aq)) (.one 0) qYes w6x) aq)))))))))))
def iX:List D→R D:=runD iv j6 fV
theorem uE (a0:D):iX [a0]=fin (iv [some a0,none,none]):=rfl
abbrev tH:List Str:=["_law_entry_here"]
abbrev jd:List Str:=["_law_entry_here"]
def mv:FS:=(aR (sIf (qBl (vOp isD (vOp ixD (ai 0) (vC (.int 0))) (vC .non))) (bo (bh (ae (vC (.int 0)) (ae (vC (.int 0)) (ae (vC (.str "")) (ae (vOp ixD (ai 0) (vC (.int 1))) aq)))))) aV) (aR (sIf w16x (bo (bh (ae (vC (.int 2)) (ae (vC (.int 0)) (ae (vOp ixD (ai 0) (vC (.int 0))) (ae (vOp ixD (ai 0) (vC (.int 1))) aq)))))) aV) (bo (bh (ae (vC (.int 1)) (ae (vOp ixD (ai 0) (vC (.int 0))) (ae (vC (.str "")) (ae (vOp ixD (ai 0) (vC (.int 1))) aq))))))))
def b8:List D→R D:=runD mv tH jd
theorem x5 (a0:D):b8 [a0]=fin (mv [some a0]):=rfl
abbrev m7:List Str:=["_law_x"]
abbrev eH:List Str:=["_law_x"]
def iZ:FS:=(bo (bh (ae (al iX (ae (vOp divD (ai 0) (vC (.int 3))) aq)) (ae (vOp addD (vC (.int 1)) (vOp modD (vOp modD (vOp mulD (ai 0) (vC (.int 69621))) (vC (.int 2147483647))) (vOp ixD (dF (ae (vC (.int 9)) (ae (vC (.int 60)) (ae (vOp powD (vC (.int 10)) (vC (.int 9))) aq)))) (vOp modD (ai 0) (vC (.int 3)))))) aq))))
def cr:List D→R D:=runD iZ m7 eH
theorem tw (a0:D):cr [a0]=fin (iZ [some a0]):=rfl
abbrev mS:List Str:=["_law_entries","_law_rows_here"]
abbrev iA:List Str:=["_law_entries"]
def jV:FS:=(aR (bQ 1 (al (sortD b8) (ae (ai 0) aq))) (bo (cC [none,some 1] (iRng1D (ae (al lenD (ae (ai 1) aq)) aq)) (.one 0) (qOr (qBl (vOp eqD (ai 0) (vC (.int 0)))) (qBl (vOp neD (vOp ixD (ai 1) (ai 0)) (vOp ixD (ai 1) (vOp subD (ai 0) (vC (.int 1))))))) (vOp ixD (ai 1) (ai 0)))))
def jJ:List D→R D:=runD jV mS iA
theorem vv (a0:D):jJ [a0]=fin (jV [some a0,none]):=rfl
abbrev mW:List Str:=["_law_cell","_law_many","_law_rows_here"]
abbrev i4:List Str:=["_law_cell"]
abbrev w17x:FE:=(vOp modD (vOp divD (ai 0) (vC (.int 9))) (vC (.int 6)))
def jN:FS:=(aR (bQ 1 (vOp modD (ai 0) (vC (.int 9)))) (aR (sIf (qBl (vOp eqD (vOp modD (vOp divD (ai 0) (vC (.int 9))) (vC (.int 3))) (vC (.int 1)))) (bQ 1 (vOp addD (vC (.int 9)) (vOp modD (vOp divD (ai 0) (vC (.int 27))) (vC (.int 52))))) aV) (aR (sIf (qBl (vOp eqD w17x (vC (.int 2)))) (bQ 1 (vOp addD (vC (.int 60)) (vOp modD (vOp divD (ai 0) (vC (.int 54))) (vC (.int 60))))) aV) (aR (sIf (qBl (vOp eqD w17x (vC (.int 5)))) (bQ 1 (vOp ixD (dF (ae (vC (.int 48)) (ae (vC (.int 170)) aq))) (vOp modD (vOp divD (ai 0) (vC (.int 54))) (vC (.int 2))))) aV) (aR (sIf (qBl (vOp eqD (vOp modD (vOp divD (ai 0) (vC (.int 9))) (vC (.int 24))) (vC (.int 21)))) (bQ 1 (vOp addD (vC (.int 300)) (vOp modD (vOp divD (ai 0) (vC (.int 216))) (vC (.int 300))))) aV) (aR (bQ 2 (al jJ (ae (cC [none] (jE (al dZ (ae (ai 0) (ae (ai 1) aq)))) (.one 0) qYes (al cr (ae (ai 0) aq))) aq))) (aR (sIf (qBl (vOp eqD w17x (vC (.int 5)))) (bo (vSl slD (ai 2) cx (bU (vOp ixD (dF (ae (vC (.int 32)) (ae (vC (.int 128)) aq))) (vOp modD (vOp divD (ai 0) (vC (.int 54))) (vC (.int 2))))))) aV) (bo (ai 2)))))))))
def j5:List D→R D:=runD jN mW i4
theorem vK (a0:D):j5 [a0]=fin (jN [some a0,none,none]):=rfl
abbrev u8:List Str:=["_law_row","_law_least","_law_most","_law_x","_law_runs","_law_many"]
abbrev kO:List Str:=["_law_row","_law_least","_law_most","_law_x"]
abbrev w13x:FE:=(vOp addD (ai 1) (vOp modD (ai 3) (vOp addD (vOp subD (ai 2) (ai 1)) (vC (.int 1)))))
abbrev w23x:FE:=(vOp ltD (vOp subD (al lenD (ae (ai 0) aq)) (ai 5)) (ai 1))
def mI:FS:=(aR (sOwn 4 (dF aq)) (aR (ck (qBl (vOp gtD (al lenD (ae (ai 0) aq)) (ai 2))) (aR (bQ 5 w13x) (aR (sIf (qBl w23x) (bQ 5 (vOp subD (al lenD (ae (ai 0) aq)) (ai 1))) aV) (aR (dW 4 (al tupD (ae (vSl slD (ai 0) cx (bU (ai 5))) aq))) (aR (bQ 0 (vSl slD (ai 0) (bU (ai 5)) cx)) (bQ 3 (vOp modD w14x (vC (.int 2147483647)))))))) 1000) (bo (vOp addD (ai 4) (dF (ae (al tupD (ae (ai 0) aq)) aq))))))
def gX:List D→R D:=runD mI u8 kO
theorem yw (a0 a1 a2 a3:D):gX [a0,a1,a2,a3]=fin (mI [some a0,some a1,some a2,some a3,none,none]):=rfl
abbrev iI:List Str:=["_law_rows_here","_law_least","_law_most","_law_x","_law_parts"]
abbrev gg:List Str:=["_law_rows_here","_law_least","_law_most","_law_x"]
abbrev w7x:FE:=(cC [none] (jE (al gX (ae (ai 4) (ae (vC (.int 4)) (ae (vC (.int 8)) (ae (ai 3) aq)))))) (.one 0) qYes (bh (ae (vOp ixD (vOp ixD (ai 0) (vC (.int 0))) (vC (.int 0))) (ae (bh (ae (vC (.str "branch")) (ae (ai 0) aq))) aq))))
abbrev w28x:FE:=(bh (ae (vOp ixD (ai 0) (vC (.int 0))) (ae (bh (ae (vC (.str "leaf")) (ae (ai 0) aq))) aq)))
abbrev w39x:FE:=(vOp modD (vOp addD (vOp mulD (ai 3) (vC (.int 69621))) (vC (.int 7))) (vC (.int 2147483647)))
def gj:FS:=(aR (sIf (qBl (vOp eqD (ai 0) (dF aq))) (bo (bh (ae (vC (.str "leaf")) (ae (bh aq) aq)))) aV) (aR (bQ 4 (cC [none] (jE (al gX (ae (ai 0) (ae (ai 1) (ae (ai 2) (ae (ai 3) aq)))))) (.one 0) qYes w28x)) (aR (ck (qBl (vOp gtD (al lenD (ae (ai 4) aq)) (ai 2))) (aR (bQ 3 w39x) (bQ 4 w7x)) 1000) (aR (sIf (qBl (vOp eqD (al lenD (ae (ai 4) aq)) (vC (.int 1)))) (bo (vOp ixD (vOp ixD (ai 4) (vC (.int 0))) (vC (.int 1)))) aV) (bo (bh (ae (vC (.str "branch")) (ae (al tupD (ae (ai 4) aq)) aq))))))))
def bR:List D→R D:=runD gj iI gg
theorem oh (a0 a1 a2 a3:D):bR [a0,a1,a2,a3]=fin (gj [some a0,some a1,some a2,some a3,none]):=rfl
abbrev gc:List Str:=["_law_thing_here"]
abbrev cM:List Str:=["_law_thing_here"]
def dM:FS:=(aR (sIf (qBl (vOp isD (ai 0) (vC .non))) (bo (vC (.bl true))) aV) (aR (sIf w25x (bo (vAnd (vOp leD (al lenD (ae (ai 0) aq)) (vC (.int 40))) (vOp eqD (cC [none] (jE (ai 0)) (.one 0) (dX (qBl (vChain leD leD (vC (.str " ")) (ai 0) (vC (.str "~"))))) (ai 0)) (dF aq)))) aV) (bo (vAnd (al dq (ae (ai 0) aq)) (vChain ltD ltD (vUn negD (vOp powD (vC (.int 10)) (vC (.int 18)))) (ai 0) (vOp powD (vC (.int 10)) (vC (.int 18))))))))
def cI:List D→R D:=runD dM gc cM
theorem ov (a0:D):cI [a0]=fin (dM [some a0]):=rfl
abbrev jC:List Str:=["_law_thing_here"]
abbrev ci:List Str:=["_law_thing_here"]
abbrev w18x:FE:=(vOp neD (al lenD (ae (ai 0) aq)) (vC (.int 2)))
abbrev w21x:FT:=(dX (fK (al iq (ae (ai 0) (ae (vC (.ty "tuple")) aq)))))
def dQ:FS:=(aR (sIf (qOr w21x (qOr (qBl w18x) (dX (fK (al cI (ae (vOp ixD (ai 0) (vC (.int 0))) aq)))))) (bo (vC (.bl false))) aV) (bo (vAnd (al dq (ae (vOp ixD (ai 0) (vC (.int 1))) aq)) (vChain leD leD (vC (.int 1)) (vOp ixD (ai 0) (vC (.int 1))) (vOp powD (vC (.int 10)) (vC (.int 9)))))))
def bD:List D→R D:=runD dQ jC ci
theorem nX (a0:D):bD [a0]=fin (dQ [some a0]):=rfl
abbrev mO:List Str:=["_law_row","_law_fewest","_law_k"]
abbrev gQ:List Str:=["_law_row","_law_fewest"]
abbrev w3x:FT:=(qBl (vOp ltK (al b8 (ae (vOp ixD (ai 0) (vOp subD (ai 2) (vC (.int 1)))) aq)) (al b8 (ae (vOp ixD (ai 0) (ai 2)) aq))))
abbrev w26x:FE:=(vOp neD (cC [none] (jE (ai 0)) (.one 0) (dX (fK (al bD (ae (ai 0) aq)))) (ai 0)) (dF aq))
def jI:FS:=(aR (sIf (qOr (dX (qBl (vChain leD leD (ai 1) (al lenD (ae (ai 0) aq)) (vC (.int 8))))) (qBl w26x)) (bo (vC .non)) aV) (aR (sFor (iRng2D (ae (vC (.int 1)) (ae (al lenD (ae (ai 0) aq)) aq))) (.one 2) (sIf (dX w3x) (bo (vC .non)) aV)) (bo (bh (ae (vC (.int 0)) (ae (al lstD (ae (ai 0) aq)) aq))))))
def dD:List D→R D:=runD jI mO gQ
theorem vP (a0 a1:D):dD [a0,a1]=fin (jI [some a0,some a1,none]):=rfl
abbrev pZ:List Str:=["_law_cell","_law_fewest","_law_least","_law_depths","_law_entries","_law_part","_law_beneath"]
abbrev fm:List Str:=["_law_cell","_law_fewest","_law_least"]
abbrev w34x:FE:=(vOp ixD (vOp ixD (ai 6) (vC (.int 1))) (vC (.int 0)))
abbrev w1x:FT:=(dX (qBl (vOp ltK (al b8 (ae (vOp ixD (ai 4) (vUn negD (vC (.int 1)))) aq)) (al b8 (ae w34x aq)))))
abbrev w2x:FT:=(qBl (vOp neD (al b8 (ae (vOp ixD (ai 5) (vC (.int 0))) aq)) (al b8 (ae w34x aq))))
abbrev w8x:FT:=(qOr (qBl w18x) (qOr (dX w16x) (dX (fK (al iq (ae (vOp ixD (ai 0) (vC (.int 1))) (ae (vC (.ty "tuple")) aq)))))))
abbrev w11x:FT:=(qOr (dX (fK (al iq (ae (ai 5) (ae (vC (.ty "tuple")) aq))))) (qOr (qBl (vOp neD (al lenD (ae (ai 5) aq)) (vC (.int 2)))) (dX (fK (al bD (ae (vOp ixD (ai 5) (vC (.int 0))) aq))))))
abbrev w35x:FT:=(qBl (vChain leD leD (ai 2) (al lenD (ae (vOp ixD (ai 0) (vC (.int 1))) aq)) (vC (.int 8))))
abbrev w40x:FE:=(vOp ltD (vLCt (ai 3) (vOp ixD (ai 3) (vC (.int 0)))) (al lenD (ae (ai 3) aq)))
def gr (gq:List D→R D):FS:=(aR (sIf (qOr w21x w8x) (bo (vC .non)) aV) (aR (sIf (qBl w27x) (bo (al dD (ae (vOp ixD (ai 0) (vC (.int 1))) (ae (ai 1) aq)))) aV) (aR (sIf (qOr (qBl (vOp neD (vOp ixD (ai 0) (vC (.int 0))) (vC (.str "branch")))) (dX w35x)) (bo (vC .non)) aV) (aR (sOwn 3 (dF aq)) (aR (bQ 4 (dF aq)) (aR (sFor (jE (vOp ixD (ai 0) (vC (.int 1)))) (.one 5) (aR (sIf w11x (bo (vC .non)) aV) (aR (bQ 6 (al gq (ae (vOp ixD (ai 5) (vC (.int 1))) (ae (vC (.int 4)) (ae (vC (.int 4)) aq))))) (aR (sIf (qOr (qBl (vOp isD (ai 6) (vC .non))) w2x) (bo (vC .non)) aV) (aR (sIf (qAnd (qBl (vOp neD (ai 4) (dF aq))) w1x) (bo (vC .non)) aV) (aR (dW 3 (vOp ixD (ai 6) (vC (.int 0)))) (bQ 4 (vOp addD (ai 4) (vOp ixD (ai 6) (vC (.int 1))))))))))) (aR (sIf (qBl w40x) (bo (vC .non)) aV) (bo (bh (ae (vOp addD (vOp ixD (ai 3) (vC (.int 0))) (vC (.int 1))) (ae (ai 4) aq)))))))))))
def dL:Nat→(List D→R D)
 | 0=>(fun _=>.no)
 | n+1=>(runD (gr ((dL n))) pZ fm)
def gq:List D→R D:=(dL 20)
theorem qK (n:Nat) (a0 a1 a2:D):(dL (n+1)) [a0,a1,a2]=fin (gr ((dL n)) [some a0,some a1,some a2,none,none,none,none]):=rfl
abbrev uX:List Str:=["_law_x","_law_one","_law_four","_law_more","_law_some"]
abbrev kE:List Str:=["_law_x"]
abbrev w15x:FE:=(bh (ae (bh (ae (vC (.int 1)) (ae (vC (.int 1)) aq))) (ae (ai 2) aq)))
def mM:FS:=(aR (bQ 1 (bh (ae (vC (.int 5)) (ae (vC (.int 1)) aq)))) (aR (bQ 2 (bh (ae (vC (.str "leaf")) (ae (bh (ae (bh (ae (vC (.int 1)) (ae (vC (.int 1)) aq))) (ae (bh (ae (vC (.int 1)) (ae (vC (.int 2)) aq))) (ae (bh (ae (vC (.int 2)) (ae (vC (.int 1)) aq))) (ae (bh (ae (vC (.str "a")) (ae (vC (.int 1)) aq))) aq))))) aq)))) (aR (bQ 3 (bh (ae (vC (.str "leaf")) (ae (bh (ae (bh (ae (vC (.int 2)) (ae (vC (.int 2)) aq))) (ae (bh (ae (vC (.int 3)) (ae (vC (.int 2)) aq))) (ae (bh (ae (vC (.int 3)) (ae (vC (.int 3)) aq))) (ae (bh (ae (vC (.int 3)) (ae (vC (.int 4)) aq))) aq))))) aq)))) (aR (bQ 4 (dF (ae (vC .non) (ae (vC (.str "leaf")) (ae (bh aq) (ae (bh (ae (vC (.str "leaf")) aq)) (ae (bh (ae (vC (.str "leaf")) (ae (dF aq) aq))) (ae (bh (ae (vC (.str "leaf")) (ae (bh (ae (ai 1) aq)) (ae (vC (.int 0)) aq)))) (ae (dF (ae (vC (.str "leaf")) (ae (bh (ae (ai 1) aq)) aq))) (ae (bh (ae (vC (.str "branch")) (ae (bh aq) aq))) aq)))))))))) (aR (bQ 4 (vOp addD (ai 4) (dF (ae (bh (ae (vC (.str "leaf")) (ae (bh (ae (bh (ae (vC .non) (ae (vC (.int 1)) aq))) aq)) aq))) (ae (bh (ae (vC (.str "leaf")) (ae (bh (ae (ai 1) (ae (ai 1) aq))) aq))) (ae (bh (ae (vC (.str "branch")) (ae (bh (ae w15x aq)) aq))) (ae (dF (ae (vC (.str "leaf")) (ae (bh aq) aq))) (ae (vC (.bl true)) aq)))))))) (aR (bQ 4 (vOp addD (ai 4) (dF (ae (bh (ae (vC (.str "branch")) (ae (bh (ae w15x (ae (bh (ae (bh (ae (vC (.int 2)) (ae (vC (.int 2)) aq))) (ae (ai 3) aq))) aq))) aq))) (ae (bh (ae (vC (.str "branch")) (ae (bh (ae w15x (ae (bh (ae (bh (ae (vC (.int 9)) (ae (vC (.int 9)) aq))) (ae (ai 2) aq))) aq))) aq))) aq))))) (bo (vOp ixD (vOp addD (ai 4) (dF (ae (bh (ae (vC (.str "leaf")) (ae (bh (ae (bh (ae (vC (.bl true)) (ae (vC (.int 1)) aq))) aq)) aq))) (ae (bh (ae (vC (.str "leaf")) (ae (bh (ae (bh (ae (vC (.int 1)) (ae (vC (.bl true)) aq))) aq)) aq))) (ae (bh (ae (vC (.str "leaf")) (ae (bh (ae (bh (ae (vUn negD (vC (.int 3))) (ae (vOp powD (vC (.int 10)) (vC (.int 9))) aq))) (ae (bh (ae (vC (.str "~")) (ae (vC (.int 1)) aq))) aq))) aq))) aq))))) (vOp modD (ai 0) (vC (.int 18)))))))))))
def mN:List D→R D:=runD mM uX kE
theorem xE (a0:D):mN [a0]=fin (mM [some a0,none,none,none,none]):=rfl
abbrev lV:List Str:=["_law_entry_here","_law_x","_law_value_here","_law_number","_law_some"]
abbrev fc:List Str:=["_law_entry_here","_law_x"]
def gL:FS:=(aR (sUnp (bindD (.tup [2,3])) (ai 0)) (aR (sIf (qBl (vOp eqD (vOp modD (ai 1) (vC (.int 2))) (vC (.int 0)))) (bo (vOp ixD (dF (ae (bh (ae (ai 2) (ae (vC (.int 0)) aq))) (ae (bh (ae (ai 2) (ae (vOp addD (vOp addD (vOp powD (vC (.int 10)) (vC (.int 9))) (vC (.int 1))) (vOp modD (ai 1) (vC (.int 9)))) aq))) (ae (bh (ae (ai 2) (ae (vUn negD (vC (.int 1))) aq))) (ae (bh (ae (ai 2) (ae (vC (.bl true)) aq))) (ae (bh (ae (ai 2) (ae (vOp powD (vC (.int 10)) (vC (.int 9))) aq))) aq)))))) (vOp modD (vOp divD (ai 1) (vC (.int 9))) (vC (.int 5))))) aV) (aR (bQ 4 (dF (ae (bh (ae (vOp powD (vC (.int 10)) (vC (.int 18))) (ae (ai 3) aq))) (ae (bh (ae (vOp subD (vUn negD (vOp powD (vC (.int 10)) (vC (.int 18)))) (vOp modD (ai 1) (vC (.int 9)))) (ae (ai 3) aq))) (ae (bh (ae (vOp mulD (vC (.str "x")) (vC (.int 41))) (ae (ai 3) aq))) (ae (bh (ae (vC (.str "a\n")) (ae (ai 3) aq))) (ae (bh (ae (vC (.bl true)) (ae (ai 3) aq))) aq))))))) (bo (vOp ixD (vOp addD (ai 4) (dF (ae (bh (ae (ai 2) (ae (ai 3) (ae (vC (.int 0)) aq)))) (ae (bh (ae (ai 2) (ae (al strID (ae (ai 3) aq)) aq))) aq)))) (vOp modD (vOp divD (ai 1) (vC (.int 9))) (vC (.int 7))))))))
def eh:List D→R D:=runD gL lV fc
theorem sA (a0 a1:D):eh [a0,a1]=fin (gL [some a0,some a1,none,none,none]):=rfl
abbrev lr:List Str:=["_law_rows_here","_law_way","_law_x","_law_k"]
abbrev eI:List Str:=["_law_rows_here","_law_way","_law_x"]
abbrev w36x:FE:=(vOp inD (ai 1) (bh (ae (vC (.int 2)) (ae (vC (.int 15)) (ae (vC (.int 16)) aq)))))
def gm:FS:=(aR (sIf (qBl (vOp ltD (al lenD (ae (ai 0) aq)) (vC (.int 2)))) (bo (ai 0)) aV) (aR (bQ 3 (vOp modD (ai 2) (vOp subD (al lenD (ae (ai 0) aq)) (vC (.int 1))))) (aR (sIf (qBl w36x) (bo (vOp addD (vOp addD (vSl slD (ai 0) cx (bU (ai 3))) (dF (ae (vOp ixD (ai 0) (vOp addD (ai 3) (vC (.int 1)))) (ae (vOp ixD (ai 0) (ai 3)) aq)))) (vSl slD (ai 0) (bU (vOp addD (ai 3) (vC (.int 2)))) cx))) aV) (aR (sIf (qBl (vOp eqD (ai 1) (vC (.int 3)))) (bo (vOp addD (vOp addD (vSl slD (ai 0) cx (bU (ai 3))) (vSl slD (ai 0) (bU (ai 3)) (bU (vOp addD (ai 3) (vC (.int 1)))))) (vSl slD (ai 0) (bU (ai 3)) cx))) aV) (bo (vOp addD (vOp addD (vSl slD (ai 0) cx (bU (ai 3))) (dF (ae (al eh (ae (vOp ixD (ai 0) (ai 3)) (ae (vOp divD (ai 2) (vC (.int 7))) aq))) aq))) (vSl slD (ai 0) (bU (vOp addD (ai 3) (vC (.int 1)))) cx)))))))
def gz:List D→R D:=runD gm lr eI
theorem se (a0 a1 a2:D):gz [a0,a1,a2]=fin (gm [some a0,some a1,some a2,none]):=rfl
abbrev lw:List Str:=["_law_rows_here","_law_x","_law_low","_law_high"]
abbrev eV:List Str:=["_law_rows_here","_law_x"]
abbrev w19x:FE:=(vOp addD (vC (.int 4)) (vOp modD (ai 1) (vC (.int 5))))
abbrev w9x:FE:=(bh (ae (vC (.str "branch")) (ae (bh (ae (bh (ae (vOp ixD (ai 0) (vC (.int 0))) (ae (ai 2) aq))) (ae (bh (ae (vOp ixD (ai 0) w19x) (ae (ai 3) aq))) aq))) aq)))
def gn:FS:=(aR (bQ 2 (al bR (ae (vSl slD (ai 0) cx (bU w19x)) (ae (vC (.int 4)) (ae (vC (.int 8)) (ae (ai 1) aq)))))) (aR (bQ 3 (al bR (ae (vSl slD (ai 0) (bU w19x) cx) (ae (vC (.int 4)) (ae (vC (.int 8)) (ae (ai 1) aq)))))) (bo w9x)))
def gA:List D→R D:=runD gn lw eV
theorem rY (a0 a1:D):gA [a0,a1]=fin (gn [some a0,some a1,none,none]):=rfl
abbrev sI:List Str:=["_law_cell","_law_way","_law_xs","_law_word","_law_row","_law_k","_law_value_here","_law_number","_law_some","_law_first"]
abbrev g9:List Str:=["_law_cell","_law_way","_law_xs"]
abbrev w5x:FE:=(bh (ae (vOp ixD (dF (ae (vC (.str "Leaf")) (ae (vC (.str "leaf ")) (ae (vC (.str "")) (ae (vC (.int 5)) (ae (vC .non) (ae (vC (.str "branch")) (ae (vC (.str "leaf")) aq)))))))) (vOp modD (vOp ixD (ai 2) (vC (.int 1))) (vC (.int 7)))) (ae (ai 4) aq)))
abbrev w30x:FE:=(vOp eqD (vOp ixD (vOp ixD (vOp ixD (ai 4) (vC (.int 0))) (vC (.int 1))) (vC (.int 0))) (vC (.str "branch")))
abbrev w10x:FT:=(qAnd (qBl (vOp gtD (vOp modD (vOp ixD (ai 2) (vC (.int 0))) (vC (.int 3))) (vC (.int 0)))) (qOr (qBl (vOp ltD (ai 1) (vC (.int 9)))) (qBl w30x)))
abbrev w24x:FE:=(vSl m6 (ai 4) (bU (vOp addTD (ai 5) (vC (.int 1)))) cx)
abbrev w31x:FE:=(vOp modD (vOp ixD (ai 2) (vC (.int 1))) (vC (.int 9)))
abbrev w37x:FE:=(vOp ixD (vOp ixD (ai 4) (ai 5)) (vC (.int 0)))
abbrev w38x:FE:=(vOp ixD (vOp ixD (ai 4) (ai 5)) (vC (.int 1)))
def kA (ll:List D→R D):FS:=(aR (sUnp (bindD (.tup [3,4])) (ai 0)) (aR (sIf (qAnd (qBl (vOp eqD (ai 3) (vC (.str "branch")))) w10x) (aR (bQ 5 (vOp modD (vOp ixD (ai 2) (vC (.int 1))) (al lenD (ae (ai 4) aq)))) (bo (bh (ae (ai 3) (ae (vOp addTD (vOp addTD (vSl m6 (ai 4) cx (bU (ai 5))) (bh (ae (bh (ae w37x (ae (al ll (ae w38x (ae (ai 1) (ae (vSl m6 (ai 2) (bU (vC (.int 2))) cx) aq)))) aq))) aq))) w24x) aq))))) aV) (aR (sIf (qBl (vOp eqD (ai 1) (vC (.int 7)))) (bo w5x) aV) (aR (sIf (qBl (vOp eqD (ai 1) (vC (.int 8)))) (bo (bh (ae (ai 3) (ae (al lstD (ae (ai 4) aq)) aq)))) aV) (aR (sIf (qBl (vOp eqD (ai 3) (vC (.str "leaf")))) (bo (bh (ae (ai 3) (ae (vOp addTD (vSl m6 (ai 4) cx (bU w31x)) (vSl m6 (ai 4) (bU (vOp addTD w31x (vC (.int 1)))) cx)) aq)))) aV) (aR (bQ 5 (vOp modD (vOp ixD (ai 2) (vC (.int 1))) (al lenD (ae (ai 4) aq)))) (aR (sUnp (bindD (.tup [6,7])) w37x) (aR (bQ 8 (dF (ae (al cr (ae (vOp ixD (ai 2) (vC (.int 2))) aq)) (ae (bh (ae (ai 6) (ae (vOp addTD (ai 7) (vC (.int 1))) aq))) (ae (bh (ae (ai 6) (ae (al maxD (ae (vC (.int 1)) (ae (vOp subD (ai 7) (vC (.int 1))) aq))) aq))) (ae (vC .non) (ae (bh (ae (ai 6) aq)) (ae (bh (ae (vC .non) (ae (vC (.int 1)) aq))) aq)))))))) (aR (bQ 9 (vOp ixD (ai 8) (vOp modD (vOp ixD (ai 2) (vC (.int 3))) (vC (.int 6))))) (bo (bh (ae (ai 3) (ae (vOp addTD (vOp addTD (vSl m6 (ai 4) cx (bU (ai 5))) (bh (ae (bh (ae (ai 9) (ae w38x aq))) aq))) w24x) aq)))))))))))))
def fA:Nat→(List D→R D)
 | 0=>(fun _=>.no)
 | n+1=>(runD (kA ((fA n))) sI g9)
def ll:List D→R D:=(fA 20)
theorem sX (n:Nat) (a0 a1 a2:D):(fA (n+1)) [a0,a1,a2]=fin (kA ((fA n)) [some a0,some a1,some a2,none,none,none,none,none,none,none]):=rfl
abbrev nG:List Str:=["_law_rows_here","_law_index","_law_way","_law_x"]
abbrev fT:List Str:=["_law_rows_here","_law_index","_law_way","_law_x"]
def iC:FS:=(aR (sIf (qBl (vOp eqD (ai 2) (vC (.int 1)))) (bo (al bR (ae (ai 0) (ae (vOp addD (vC (.int 3)) (vOp modD (ai 3) (vC (.int 2)))) (ae (vOp addD (vC (.int 8)) (vOp modD (ai 3) (vC (.int 2)))) (ae (ai 3) aq)))))) aV) (aR (sIf (qBl (vOp inD (ai 2) (bh (ae (vC (.int 2)) (ae (vC (.int 3)) (ae (vC (.int 4)) (ae (vC (.int 12)) (ae (vC (.int 13)) (ae (vC (.int 15)) (ae (vC (.int 16)) aq)))))))))) (bo (al bR (ae (al gz (ae (ai 0) (ae (ai 2) (ae (ai 3) aq)))) (ae (vC (.int 4)) (ae (vC (.int 8)) (ae (ai 3) aq)))))) aV) (aR (sIf (qAnd (qBl (vOp eqD (ai 2) (vC (.int 5)))) (qBl (vOp gtD (al lenD (ae (ai 0) aq)) (vC (.int 24))))) (bo (al gA (ae (ai 0) (ae (ai 3) aq)))) aV) (aR (sIf (qBl (vOp inD (ai 2) (bh (ae (vC (.int 6)) (ae (vC (.int 7)) (ae (vC (.int 8)) (ae (vC (.int 10)) (ae (vC (.int 11)) aq)))))))) (bo (al ll (ae (ai 1) (ae (ai 2) (ae (al dZ (ae (ai 3) (ae (vC (.int 16)) aq))) aq))))) aV) (aR (sIf (qBl (vOp eqD (ai 2) (vC (.int 9)))) (bo (al mN (ae (ai 3) aq))) aV) (aR (sIf (qAnd (qBl (vOp eqD (ai 2) (vC (.int 14)))) (qBl (vOp neD (ai 0) (dF aq)))) (bo (bh (ae (vC (.str "branch")) (ae (bh (ae (bh (ae (vOp ixD (ai 0) (vC (.int 0))) (ae (ai 1) aq))) aq)) aq)))) aV) (bo (ai 1))))))))
def ir:List D→R D:=runD iC nG fT
theorem uH (a0 a1 a2 a3:D):ir [a0,a1,a2,a3]=fin (iC [some a0,some a1,some a2,some a3]):=rfl
abbrev yX:List Str:=["_law_script","_law_rows_here","_law_index","_law_x","_law_thing_here","_law_due","_law_found"]
abbrev pA:List Str:=["_law_script"]
def vZ:FS:=(aR (bQ 1 (al j5 (ae (vOp modD (al cc (ae (ai 0) (ae (vC (.int 0)) aq))) (vOp powD (vC (.int 10)) (vC (.int 12)))) aq))) (aR (bQ 2 (al bR (ae (ai 1) (ae (vC (.int 4)) (ae (vC (.int 8)) (ae (vOp modD (al cc (ae (ai 0) (ae (vC (.int 1)) aq))) (vOp powD (vC (.int 10)) (vC (.int 12)))) aq)))))) (aR (bQ 3 (vOp modD (vOp addD (vOp mulD (al cc (ae (ai 0) (ae (vC (.int 3)) aq))) (vC (.int 48271))) (vC (.int 12345))) (vC (.int 2147483647)))) (aR (bQ 4 (al ir (ae (ai 1) (ae (ai 2) (ae (vOp modD (al cc (ae (ai 0) (ae (vC (.int 2)) aq))) (vC (.int 17))) (ae (ai 3) aq)))))) (aR (bQ 5 (vOp isNotD (al gq (ae (ai 4) (ae (vC (.int 0)) (ae (vC (.int 2)) aq)))) (vC .non))) (aR (bQ 6 (al c7 (ae (ai 4) aq))) (aR (sIf (qOr (dX (fK (al iq (ae (ai 6) (ae (vC (.ty "bool")) aq))))) (qBl (vOp neD (ai 6) (ai 5)))) (bo (vC (.bl false))) aV) (bo (vAnd (vOp isD (al c7 (ae (ai 2) aq)) (vC (.bl true))) (vOp eqD (al c7 (ae (ai 4) aq)) (ai 6)))))))))))
def rd:List D→R D:=runD vZ yX pA
theorem Bw (a0:D):rd [a0]=fin (vZ [some a0,none,none,none,none,none,none]):=rfl
def top (i:Nat):Stmt:=PySem.Challenge.pw_tablestore_k23_what_is_an_index.main.body.getD i (.Pass ⟨0,0,0,0⟩)
abbrev j8:Stmt:=top 4
local macro_rules | `(tactic| walk_at "sc") => `(tactic| exact ⟨rfl, rfl, rfl, by decide +kernel, rfl, by decide +kernel, by decide +kernel⟩)
theorem rK:FnScope nM fQ (ap j8):=by walk_at "sc"
abbrev gC:Stmt:=top 3
theorem pp:FnScope jl eY (ap gC):=by walk_at "sc"
abbrev lj:Stmt:=top 5
theorem sr:FnScope on fL (ap lj):=by walk_at "sc"
abbrev kn:Stmt:=top 6
theorem rf:FnScope nH ge (ap kn):=by walk_at "sc"
abbrev fE:Stmt:=top 12
theorem gS:FnScope jb cy (ap fE):=by walk_at "sc"
abbrev gW:Stmt:=top 13
theorem fS:FnScope lf c9 (ap gW):=by walk_at "sc"
abbrev jw:Stmt:=top 14
theorem oY:FnScope lO eD (ap jw):=by walk_at "sc"
abbrev mh:Stmt:=top 21
theorem tP:FnScope pW iw (ap mh):=by walk_at "sc"
abbrev kW:Stmt:=top 18
theorem qV:FnScope om fP (ap kW):=by walk_at "sc"
abbrev mP:Stmt:=top 23
theorem vO:FnScope oF kJ (ap mP):=by walk_at "sc"
abbrev df:Stmt:=top 22
theorem jH:FnScope gb bS (ap df):=by walk_at "sc"
abbrev jr:Stmt:=top 20
theorem oZ:FnScope lP eO (ap jr):=by walk_at "sc"
abbrev ja:Stmt:=top 16
theorem sq:FnScope kQ fR (ap ja):=by walk_at "sc"
abbrev kg:Stmt:=top 19
theorem rg:FnScope nt gf (ap kg):=by walk_at "sc"
abbrev fj:Stmt:=top 17
theorem nA:FnScope g6 dC (ap fj):=by walk_at "sc"
abbrev cj:Stmt:=top 15
theorem dm:FnScope cF eT (ap cj):=by walk_at "sc"
abbrev ij:Stmt:=top 25
theorem og:FnScope kj dz (ap ij):=by walk_at "sc"
abbrev kl:Stmt:=top 26
theorem rN:FnScope oi fM (ap kl):=by walk_at "sc"
abbrev jf:Stmt:=top 27
theorem dw:FnScope lG ei (ap jf):=by walk_at "sc"
abbrev i0:Stmt:=top 28
theorem gK:FnScope j6 fV (ap i0):=by walk_at "sc"
abbrev oU:Stmt:=top 29
theorem vz:FnScope tH jd (ap oU):=by walk_at "sc"
abbrev kF:Stmt:=top 30
theorem rT:FnScope m7 eH (ap kF):=by walk_at "sc"
abbrev jX:Stmt:=top 31
theorem m9:FnScope mS iA (ap jX):=by walk_at "sc"
abbrev jL:Stmt:=top 32
theorem dc:FnScope mW i4 (ap jL):=by walk_at "sc"
abbrev pM:Stmt:=top 33
theorem gP:FnScope u8 kO (ap pM):=by walk_at "sc"
abbrev gl:Stmt:=top 34
theorem gM:FnScope iI gg (ap gl):=by walk_at "sc"
abbrev dI:Stmt:=top 35
theorem mZ:FnScope gc cM (ap dI):=by walk_at "sc"
abbrev fZ:Stmt:=top 36
theorem mR:FnScope jC ci (ap fZ):=by walk_at "sc"
abbrev j0:Stmt:=top 37
theorem nT:FnScope mO gQ (ap j0):=by walk_at "sc"
abbrev ml:Stmt:=top 38
theorem eU:FnScope pZ fm (ap ml):=by walk_at "sc"
abbrev pH:Stmt:=top 39
theorem fF:FnScope uX kE (ap pH):=by walk_at "sc"
abbrev jo:Stmt:=top 40
theorem fB:FnScope lV fc (ap jo):=by walk_at "sc"
abbrev jq:Stmt:=top 41
theorem kB:FnScope lr eI (ap jq):=by walk_at "sc"
abbrev jt:Stmt:=top 42
theorem ik:FnScope lw eV (ap jt):=by walk_at "sc"
abbrev oT:Stmt:=top 43
theorem cY:FnScope sI g9 (ap oT):=by walk_at "sc"
abbrev lh:Stmt:=top 44
theorem rX:FnScope nG fT (ap lh):=by walk_at "sc"
abbrev rD:Stmt:=top 45
theorem kX:FnScope yX pA (ap rD):=by walk_at "sc"
structure Txt (w:World) (K:PySem.W.Frag) (mg:Str→Option Value) (f1 f2 f3 f4 f5 f6 f7 f8 f9 f10 f11 f12 f13 f14 f15 f16 f17 f18 f19 f20 f21 f22 f23 f24 f25 f26 f27 f28 f29 f30 f31 f32 f33 f34 f35 f36 f37:Addr) (d1 d2 d3 d4 d5 d6 d7 d8 d9 d10 d11 d12 d13 d14 d15 d16 d17 d18 d19 d20 d21 d22 d23 d24 d25 d26 d27 d28 d29 d30 d31 d32 d33 d34 d35 d36 d37:FuncData) (a_KINDS:Addr) (tk_MOST_SIGNS:Tok) (tk_FEWEST:Tok) (tk_MOST:Tok) (tk_FEWEST_OF_ROOT:Tok) (tk_MOST_ROW_NUMBER:Tok):Prop where
 D_is_sign:Def K mg "is_sign" j8 fQ f1 d1
 D_is_value:Def K mg "is_value" gC eY f2 d2
 D_kind_of:Def K mg "kind_of" lj fL f3 d3
 D_compare:Def K mg "compare" kn ge f4 d4
 D_comes_ahead:Def K mg "comes_ahead" fE cy f5 d5
 D_things_in:Def K mg "things_in" gW c9 f6 d6
 D_first_of:Def K mg "first_of" jw eD f7 d7
 D_is_two:Def K mg "is_two" mh iw f8 d8
 D_is_cell:Def K mg "is_cell" kW fP f9 d9
 D_rises:Def K mg "rises" mP kJ f10 d10
 D_is_row_number:Def K mg "is_row_number" df bS f11 d11
 D_is_entry:Def K mg "is_entry" jr eO f12 d12
 D_is_leaf:Def K mg "is_leaf" ja fR f13 d13
 D_is_part:Def K mg "is_part" kg gf f14 d14
 D_is_branch:Def K mg "is_branch" fj dC f15 d15
 D_is_index:Def K mg "is_index" cj eT f16 d16
 D_l_cell_at:Def K mg "_law_cell_at" ij dz f17 d17
 D_l_whole:Def K mg "_law_whole" kl fM f18 d18
 D_l_stream:Def K mg "_law_stream" jf ei f19 d19
 D_l_value:Def K mg "_law_value" i0 fV f20 d20
 D_l_key:Def K mg "_law_key" oU jd f21 d21
 D_l_entry:Def K mg "_law_entry" kF eH f22 d22
 D_l_once:Def K mg "_law_once" jX iA f23 d23
 D_l_rows:Def K mg "_law_rows" jL i4 f24 d24
 D_l_cut:Def K mg "_law_cut" pM kO f25 d25
 D_l_loose:Def K mg "_law_loose" gl gg f26 d26
 D_l_is_value:Def K mg "_law_is_value" dI cM f27 d27
 D_l_is_entry:Def K mg "_law_is_entry" fZ ci f28 d28
 D_l_leaf:Def K mg "_law_leaf" j0 gQ f29 d29
 D_l_good:Def K mg "_law_good" ml fm f30 d30
 D_l_odd:Def K mg "_law_odd" pH kE f31 d31
 D_l_spoilt:Def K mg "_law_spoilt" jo fc f32 d32
 D_l_turned:Def K mg "_law_turned" jq eI f33 d33
 D_l_uneven:Def K mg "_law_uneven" jt eV f34 d34
 D_l_put:Def K mg "_law_put" oT g9 f35 d35
 D_l_thing:Def K mg "_law_thing" lh fT f36 d36
 D_law:Def K mg "law" rD pA f37 d37
 o_KINDS:∃ ob,K.lookup a_KINDS=some ob∧ob.cls=.type "tuple"∧ob.dict=none
 c_KINDS:mg "KINDS"=some (.ref a_KINDS)
 r_KINDS:RelV (.ref a_KINDS) (.ref a_KINDS)
 e_KINDS:∀ H,Den K H lY (.ref a_KINDS)
 c_MOST_SIGNS:mg "MOST_SIGNS"=some (.int 40 tk_MOST_SIGNS)
 r_MOST_SIGNS:RelV (.int 40) (.int 40 tk_MOST_SIGNS)
 e_MOST_SIGNS:∀ H,Den K H fX (.int 40)
 c_FEWEST:mg "FEWEST"=some (.int 4 tk_FEWEST)
 r_FEWEST:RelV (.int 4) (.int 4 tk_FEWEST)
 e_FEWEST:∀ H,Den K H iL (.int 4)
 c_MOST:mg "MOST"=some (.int 8 tk_MOST)
 r_MOST:RelV (.int 8) (.int 8 tk_MOST)
 e_MOST:∀ H,Den K H wZ (.int 8)
 c_FEWEST_OF_ROOT:mg "FEWEST_OF_ROOT"=some (.int 2 tk_FEWEST_OF_ROOT)
 r_FEWEST_OF_ROOT:RelV (.int 2) (.int 2 tk_FEWEST_OF_ROOT)
 e_FEWEST_OF_ROOT:∀ H,Den K H cP (.int 2)
 c_MOST_ROW_NUMBER:mg "MOST_ROW_NUMBER"=some (.int 1000000000 tk_MOST_ROW_NUMBER)
 r_MOST_ROW_NUMBER:RelV (.int 1000000000) (.int 1000000000 tk_MOST_ROW_NUMBER)
 e_MOST_ROW_NUMBER:∀ H,Den K H dY (.int 1000000000)
 z_isinstance:mg "isinstance"=none
 z_str:mg "str"=none
 z_all:mg "all"=none
 z_len:mg "len"=none
 z_bool:mg "bool"=none
 z_int:mg "int"=none
 z_abs:mg "abs"=none
 z_list:mg "list"=none
 z_tuple:mg "tuple"=none
 z_zip:mg "zip"=none
 z_range:mg "range"=none
 z_sorted:mg "sorted"=none
 z_max:mg "max"=none
section
variable {P:Program} {w:World} {K:PySem.W.Frag} {mg:Str→Option Value} {base:Heap} {f1 f2 f3 f4 f5 f6 f7 f8 f9 f10 f11 f12 f13 f14 f15 f16 f17 f18 f19 f20 f21 f22 f23 f24 f25 f26 f27 f28 f29 f30 f31 f32 f33 f34 f35 f36 f37:Addr} {d1 d2 d3 d4 d5 d6 d7 d8 d9 d10 d11 d12 d13 d14 d15 d16 d17 d18 d19 d20 d21 d22 d23 d24 d25 d26 d27 d28 d29 d30 d31 d32 d33 d34 d35 d36 d37:FuncData} {a_KINDS:Addr} {tk_MOST_SIGNS:Tok} {tk_FEWEST:Tok} {tk_MOST:Tok} {tk_FEWEST_OF_ROOT:Tok} {tk_MOST_ROW_NUMBER:Tok}
variable (T:Txt w K mg f1 f2 f3 f4 f5 f6 f7 f8 f9 f10 f11 f12 f13 f14 f15 f16 f17 f18 f19 f20 f21 f22 f23 f24 f25 f26 f27 f28 f29 f30 f31 f32 f33 f34 f35 f36 f37 d1 d2 d3 d4 d5 d6 d7 d8 d9 d10 d11 d12 d13 d14 d15 d16 d17 d18 d19 d20 d21 d22 d23 d24 d25 d26 d27 d28 d29 d30 d31 d32 d33 d34 d35 d36 d37 a_KINDS tk_MOST_SIGNS tk_FEWEST tk_MOST tk_FEWEST_OF_ROOT tk_MOST_ROW_NUMBER)
include T
theorem rM:FnOk P w K mg base CX0 1 f1 d1 fQ (spD K mg fY):=by
 exact T.D_is_sign.F.okD (φ:=iJ) (O':=[]) rK (fun cdv A outer s H E hr=>(aw (ay (fG (fz oGe pGe (ag 0) ba (az _)) (gR (fz oLe pLe (ag 0) ba (az _)))))))
theorem oS:FnOk P w K mg base CX0 2 f2 d2 eY (spD K mg gt):=by
 exact T.D_is_value.F.okD (φ:=gu) (O':=[]) pp (fun cdv A outer s H E hr=>(ak (bi (a7 K (aE (qIsiD K) (pIsi K) T.z_isinstance aH (aa (ag 0) (aa (mj T.z_str ki) af)))) (aw (ay (fG (fz oLe pLe (aE (qLen K) (pLen K) T.z_len bP (aa (ag 0) af)) (lQ T.c_MOST_SIGNS T.r_MOST_SIGNS T.e_MOST_SIGNS) (az _)) (gR (aE (fw K rfl) (pAll K) T.z_all ld (aa (bu (eZ (Wb:=⟨K,mg,E0⟩) (osc:=ap gC) (ON:=jl) (N:=["sign"]) (ix:=[none]) (by decide +kernel) (de K (ag 0)) (fun _=>(bz (i:=0) (by decide) (by decide +kernel:(["sign"]:List Str).Nodup) rfl (Or.inl rfl))) (fun _=>cD) (fun _=>(aF T.D_is_sign (rM T) hr (aa (ag 0) af))) (bw (by decide)))) af)))))) aJ) (ak (bi (b7 (kD (a7 K (aE (qIsiD K) (pIsi K) T.z_isinstance aH (aa (ag 0) (aa (mj T.z_int uO) af)))) (jh (bX (a7 K (aE (qIsiD K) (pIsi K) T.z_isinstance aH (aa (ag 0) (aa (mj T.z_bool me) af)))))))) (aw (ay (fz oLt pLt (aE qAbs pAbs T.z_abs y6 (aa (ag 0) af)) (aO oPow pPow ah ah) (az _)))) aJ) (aw (ay (fz oIs pIs (ag 0) eN (az _)))))))
theorem gH:FnOk P w K mg base CX0 1 f3 d3 fL (spD K mg cu):=by
 exact T.D_kind_of.F.okD (φ:=i7) (O':=[]) sr (fun cdv A outer s H E hr=>(ak (bi (aI oIs pIs (ag 0) eN (az _)) (aw (ay ba)) aJ) (aw (ay (vE (a7 K (aE (qIsiD K) (pIsi K) T.z_isinstance aH (aa (ag 0) (aa (mj T.z_str ki) af)))) ba ba)))))
theorem rE:FnOk P w K mg base CX0 2 f4 d4 ge (spD K mg jc):=by
 exact T.D_compare.F.okD (φ:=iz) (O':=[]) rf (fun cdv A outer s H E hr=>(ak (bi (aI (oNeD K hr.units) (pNe K) (aF T.D_kind_of (gH T) hr (aa (ag 0) af)) (aF T.D_kind_of (gH T) hr (aa (ag 1) af)) (az _)) (aw (ay (vE (aI oLt pLt (qP T.c_KINDS T.e_KINDS T.o_KINDS (aa (aF T.D_kind_of (gH T) hr (aa (ag 0) af)) af)) (qP T.c_KINDS T.e_KINDS T.o_KINDS (aa (aF T.D_kind_of (gH T) hr (aa (ag 1) af)) af)) (az _)) (wU oNeg pNeg ah) ah))) aJ) (ak (bi (aI (oEqD K hr.units) (pEq K) (ag 0) (ag 1) (az _)) (aw (ay ah)) aJ) (aw (ay (vE (aI oLt pLt (ag 0) (ag 1) (az _)) (wU oNeg pNeg ah) ah))))))
theorem lp:FnOk P w K mg base CX0 3 f5 d5 cy (spD K mg bL):=by
 exact T.D_comes_ahead.F.okD (φ:=cV) (O':=[]) gS (fun cdv A outer s H E hr=>(ak (aY (i:=2) (by decide) gS.nd (Or.inl rfl) (aF T.D_compare (rE T) hr (aa (bp (oIx K) (pIx K) (ag 0) ah) (aa (bp (oIx K) (pIx K) (ag 1) ah) af)))) (aw (ay (d_or (fz oLt pLt (ag 2) ah (az _)) (gR (fG (fz (oEqD K hr.units) (pEq K) (ag 2) ah (az _)) (gR (fz oLt pLt (bp (oIx K) (pIx K) (ag 0) ah) (bp (oIx K) (pIx K) (ag 1) ah) (az _))))))))))
theorem jB:FnOk P w K mg base CX0 1 f6 d6 c9 (spD K mg bF):=by
 exact T.D_things_in.F.okD (φ:=fk) (O':=[]) fS (fun cdv A outer s H E hr=>(ak (qz (i:=1) (by decide) fS.nd (Or.inl rfl) (cp af)) (ak (pR PassesOwn.never (de K (ag 0)) (bz (i:=2) (by decide) fS.nd rfl (Or.inl rfl)) (aw (vo (i:=1) (by decide) (bp (oIx K) (pIx K) (ag 2) ah)))) (qy (O:=[1]) (O2:=[]) (aw (ay (ag 1)))))))
theorem pG:FnOk P w K mg base CX0 1 f7 d7 eD (spD K mg eR):=by
 exact T.D_first_of.F.okD (φ:=fe) (O':=[]) oY (fun cdv A outer s H E hr=>(aw (ay (vE (aI (oEqD K hr.units) (pEq K) (bp (oIx K) (pIx K) (ag 0) ah) ba (az _)) (bp (oIx K) (pIx K) (bp (oIx K) (pIx K) (ag 0) ah) ah) (bp (oIx K) (pIx K) (bp (oIx K) (pIx K) (bp (oIx K) (pIx K) (ag 0) ah) ah) ah)))))
theorem li:FnOk P w K mg base CX0 1 f8 d8 iw (spD K mg cU):=by
 exact T.D_is_two.F.okD (φ:=jP) (O':=[]) tP (fun cdv A outer s H E hr=>(aw (ay (fG (aE (qIsiD K) (pIsi K) T.z_isinstance aH (aa (ag 0) (aa (mj T.z_tuple cW) af))) (gR (fz (oEqD K hr.units) (pEq K) (aE (qLen K) (pLen K) T.z_len bP (aa (ag 0) af)) ah (az _)))))))
theorem lI:FnOk P w K mg base CX0 2 f9 d9 fP (spD K mg dr):=by
 exact T.D_is_cell.F.okD (φ:=iP) (O':=[]) qV (fun cdv A outer s H E hr=>(ak (bi (b7 (io (bX (a7 K (aF T.D_is_two (li T) hr (aa (ag 0) af)))) (io (bX (a7 K (aE (qIsiD K) (pIsi K) T.z_isinstance aH (aa (bp (oIx K) (pIx K) (ag 0) ah) (aa (mj T.z_str ki) af))))) (gT (aI (oNeD K hr.units) (pNe K) (bp (oIx K) (pIx K) (ag 0) ah) (ag 1) (az _)))))) (aw (ay oz)) aJ) (aw (ay (fG (aE (qIsiD K) (pIsi K) T.z_isinstance aH (aa (bp (oIx K) (pIx K) (ag 0) ah) (aa (mj T.z_tuple cW) af))) (fG (fz oGe pGe (aE (qLen K) (pLen K) T.z_len bP (aa (bp (oIx K) (pIx K) (ag 0) ah) af)) (ag 2) (az _)) (gR (fz oLe pLe (aE (qLen K) (pLen K) T.z_len bP (aa (bp (oIx K) (pIx K) (ag 0) ah) af)) (lQ T.c_MOST T.r_MOST T.e_MOST) (az _)))))))))
theorem mJ:FnOk P w K mg base CX0 4 f10 d10 kJ (spD K mg hV):=by
 exact T.D_rises.F.okD (φ:=mF) (O':=[]) vO (fun cdv A outer s H E hr=>(aw (ay (aE (fw K rfl) (pAll K) T.z_all ld (aa (bu (eZ (Wb:=⟨K,mg,E0⟩) (osc:=ap mP) (ON:=oF) (N:=["one","other"]) (ix:=[none,none]) (by decide +kernel) (yO T.z_zip (aa (ag 0) (aa (bx (oSlW K) (pSlW K) (ag 0) (bv ah) bK) af))) (fun _=>(qe K (dE (bz (i:=0) (by decide) (by decide +kernel:(["one","other"]:List Str).Nodup) rfl (Or.inl rfl)) (dE (bz (i:=1) (by decide) (by decide +kernel:(["one","other"]:List Str).Nodup) rfl (Or.inl rfl)) mU)))) (fun _=>cD) (fun _=>(aF T.D_comes_ahead (lp T) hr (aa (ag 0) (aa (ag 1) af)))) (bw (by decide)))) af)))))
theorem jG:FnOk P w K mg base CX0 1 f11 d11 bS (spD K mg cw):=by
 exact T.D_is_row_number.F.okD (φ:=cz) (O':=[]) jH (fun cdv A outer s H E hr=>(aw (ay (fG (aE (qIsiD K) (pIsi K) T.z_isinstance aH (aa (ag 0) (aa (mj T.z_int uO) af))) (fG (Aq (aE (qIsiD K) (pIsi K) T.z_isinstance aH (aa (ag 0) (aa (mj T.z_bool me) af)))) (fG (fz oGe pGe (ag 0) ah (az _)) (gR (fz oLe pLe (ag 0) (lQ T.c_MOST_ROW_NUMBER T.r_MOST_ROW_NUMBER T.e_MOST_ROW_NUMBER) (az _)))))))))
theorem kh:FnOk P w K mg base CX0 3 f12 d12 eO (spD K mg eJ):=by
 exact T.D_is_entry.F.okD (φ:=gN) (O':=[]) oZ (fun cdv A outer s H E hr=>(aw (ay (fG (aF T.D_is_two (li T) hr (aa (ag 0) af)) (fG (aF T.D_is_value (oS T) hr (aa (bp (oIx K) (pIx K) (ag 0) ah) af)) (gR (aF T.D_is_row_number (jG T) hr (aa (bp (oIx K) (pIx K) (ag 0) ah) af))))))))
theorem lR:FnOk P w K mg base CX0 5 f13 d13 fR (spD K mg du):=by
 exact T.D_is_leaf.F.okD (φ:=iu) (O':=[]) sq (fun cdv A outer s H E hr=>(ak (bi (bX (a7 K (aF T.D_is_cell (lI T) hr (aa (ag 0) (aa ba (aa (ag 1) af)))))) (aw (ay oz)) aJ) (aw (ay (fG (aE (fw K rfl) (pAll K) T.z_all ld (aa (bu (eZ (Wb:=⟨K,mg,E0⟩) (osc:=ap ja) (ON:=kQ) (N:=["entry"]) (ix:=[none]) (by decide +kernel) (de K (bp (oIx K) (pIx K) (ag 0) ah)) (fun _=>(bz (i:=0) (by decide) (by decide +kernel:(["entry"]:List Str).Nodup) rfl (Or.inl rfl))) (fun _=>cD) (fun _=>(aF T.D_is_entry (kh T) hr (aa (ag 0) af))) (bw (by decide)))) af)) (gR (aF T.D_rises (mJ T) hr (aa (bp (oIx K) (pIx K) (ag 0) ah) af))))))))
theorem r8:FnOk P w K mg base CX0 4 f14 d14 gf (spD K mg iV):=by
 exact T.D_is_part.F.okD (φ:=iM) (O':=[]) rg (fun cdv A outer s H E hr=>(aw (ay (fG (aF T.D_is_two (li T) hr (aa (ag 0) af)) (gR (aF T.D_is_entry (kh T) hr (aa (bp (oIx K) (pIx K) (ag 0) ah) af)))))))
theorem jA:FnOk P w K mg base CX0 5 f15 d15 dC (spD K mg b9):=by
 exact T.D_is_branch.F.okD (φ:=ft) (O':=[]) nA (fun cdv A outer s H E hr=>(aw (ay (fG (aF T.D_is_cell (lI T) hr (aa (ag 0) (aa ba (aa (ag 1) af)))) (gR (aE (fw K rfl) (pAll K) T.z_all ld (aa (bu (eZ (Wb:=⟨K,mg,E0⟩) (osc:=ap fj) (ON:=g6) (N:=["part"]) (ix:=[none]) (by decide +kernel) (de K (bp (oIx K) (pIx K) (ag 0) ah)) (fun _=>(bz (i:=0) (by decide) (by decide +kernel:(["part"]:List Str).Nodup) rfl (Or.inl rfl))) (fun _=>cD) (fun _=>(aF T.D_is_part (r8 T) hr (aa (ag 0) af))) (bw (by decide)))) af)))))))
theorem hZ:FnOk P w K mg base CX0 6 f16 d16 eT (spD K mg c7):=by
 exact T.D_is_index.F.okD (φ:=gw) (O':=[]) dm (fun cdv A outer s H E hr=>(ak (bi (a7 K (aF T.D_is_leaf (lR T) hr (aa (ag 0) (aa ah af)))) (aw (ay oz)) aJ) (ak (bi (bX (a7 K (aF T.D_is_branch (jA T) hr (aa (ag 0) (aa (lQ T.c_FEWEST_OF_ROOT T.r_FEWEST_OF_ROOT T.e_FEWEST_OF_ROOT) af))))) (aw (ay oz)) aJ) (ak (aY (i:=1) (by decide) dm.nd (Or.inl rfl) (bu (oO (qLstOf K) (pLst K) T.z_list oH (aa (bp (oIx K) (pIx K) (ag 0) ah) af)))) (ak (mz 1000 PassesOwn.never (a7 K (aF T.D_rises (mJ T) hr (aa (bu (eZ (Wb:=⟨K,mg,E0⟩) (osc:=ap cj) (ON:=cF) (N:=["part"]) (ix:=[none]) (by decide +kernel) (de K (ag 1)) (fun _=>(bz (i:=0) (by decide) (by decide +kernel:(["part"]:List Str).Nodup) rfl (Or.inl rfl))) (fun _=>cD) (fun _=>(bp (oIx K) (pIx K) (ag 0) ah)) (bw (by decide)))) af))) (ak (pL (by decide) (pN (i:=2) dm.nd (Or.inl rfl) (Wb:=⟨K,mg,E0⟩) (osc:=ap cj) (ON:=cF) (N:=["part"]) (ix:=[none]) (by decide +kernel) (de K (ag 1)) (fun _=>(bz (i:=0) (by decide) (by decide +kernel:(["part"]:List Str).Nodup) rfl (Or.inl rfl))) (fun _=>cD) (fun _=>(bp (oIx K) (pIx K) (ag 0) ah)) (bw (by decide)))) (ak (aY (i:=3) (by decide) dm.nd (Or.inl rfl) (aE (fw K rfl) (pAll K) T.z_all ld (aa (bu (eZ (Wb:=⟨K,mg,E0⟩) (osc:=ap cj) (ON:=cF) (N:=["cell"]) (ix:=[none]) (by decide +kernel) (de K (ag 2)) (fun _=>(bz (i:=0) (by decide) (by decide +kernel:(["cell"]:List Str).Nodup) rfl (Or.inl rfl))) (fun _=>cD) (fun _=>(aF T.D_is_leaf (lR T) hr (aa (ag 0) (aa (lQ T.c_FEWEST T.r_FEWEST T.e_FEWEST) af)))) (bw (by decide)))) af))) (ak (bi (b7 (kD (bX (a7 K (ag 3))) (jh (bX (a7 K (aE (fw K rfl) (pAll K) T.z_all ld (aa (bu (eZ (Wb:=⟨K,mg,E0⟩) (osc:=ap cj) (ON:=cF) (N:=["cell"]) (ix:=[none]) (by decide +kernel) (de K (ag 2)) (fun _=>(bz (i:=0) (by decide) (by decide +kernel:(["cell"]:List Str).Nodup) rfl (Or.inl rfl))) (fun _=>cD) (fun _=>(aF T.D_is_branch (jA T) hr (aa (ag 0) (aa (lQ T.c_FEWEST T.r_FEWEST T.e_FEWEST) af)))) (bw (by decide)))) af))))))) (aw (ay oz)) aJ) (ak (bi (bX (a7 K (aE (fw K rfl) (pAll K) T.z_all ld (aa (bu (eZ (Wb:=⟨K,mg,E0⟩) (osc:=ap cj) (ON:=cF) (N:=["part"]) (ix:=[none]) (by decide +kernel) (de K (ag 1)) (fun _=>(bz (i:=0) (by decide) (by decide +kernel:(["part"]:List Str).Nodup) rfl (Or.inl rfl))) (fun _=>cD) (fun _=>(fz (oEqD K hr.units) (pEq K) (bp (oIx K) (pIx K) (ag 0) ah) (aF T.D_first_of (pG T) hr (aa (bp (oIx K) (pIx K) (ag 0) ah) af)) (az _))) (bw (by decide)))) af)))) (aw (ay oz)) aJ) (ak (bi (a7 K (ag 3)) (aw (ay (aF T.D_rises (mJ T) hr (aa (aF T.D_things_in (jB T) hr (aa (ag 2) af)) af)))) aJ) (aw (aY (i:=1) (by decide) dm.nd (Or.inl rfl) (aF T.D_things_in (jB T) hr (aa (ag 2) af)))))))))) (aw (ay oz)))))))
theorem dH:FnOk P w K mg base CX0 1 f17 d17 dz (spD K mg cc):=by
 exact T.D_l_cell_at.F.okD (φ:=fI) (O':=[]) og (fun cdv A outer s H E hr=>(ak (bi (aI oLt pLt (ag 1) (aE (qLen K) (pLen K) T.z_len bP (aa (ag 0) af)) (az _)) (aw (ay (bp (oIx K) (pIx K) (ag 0) (ag 1)))) aJ) (aw (ay ah))))
theorem lz:FnOk P w K mg base CX0 1 f18 d18 fM (spD K mg dq):=by
 exact T.D_l_whole.F.okD (φ:=i8) (O':=[]) rN (fun cdv A outer s H E hr=>(aw (ay (fG (aE (qIsiD K) (pIsi K) T.z_isinstance aH (aa (ag 0) (aa (mj T.z_int uO) af))) (gR (Aq (aE (qIsiD K) (pIsi K) T.z_isinstance aH (aa (ag 0) (aa (mj T.z_bool me) af)))))))))
theorem j9:FnOk P w K mg base CX0 1 f19 d19 ei (spD K mg dZ):=by
 exact T.D_l_stream.F.okD (φ:=gp) (O':=[]) dw (fun cdv A outer s H E hr=>(ak (qz (i:=2) (by decide) dw.nd (Or.inl rfl) (cp af)) (ak (aY (i:=3) (by decide) dw.nd (Or.inl rfl) (aO oMod pMod (ag 0) ah)) (ak (pR PassesOwn.never (lb T.z_range (aa (ag 1) af)) (bz (i:=4) (by decide) dw.nd rfl (Or.inl rfl)) (ak (aY (i:=3) (by decide) dw.nd (Or.inl rfl) (aO oMod pMod (aO (bG K) (pAdd K) (aO (bG K) (pAdd K) (aO oMulD pMul (ag 3) ah) ah) (ag 4)) ah)) (aw (kU (i:=2) (by decide) (ag 3))))) (qy (O:=[2]) (O2:=[]) (aw (ay (ag 2))))))))
theorem si:FnOk P w K mg base CX0 1 f20 d20 fV (spD K mg iX):=by
 exact T.D_l_value.F.okD (φ:=iv) (O':=[]) gK (fun cdv A outer s H E hr=>(ak (aY (i:=1) (by decide) gK.nd (Or.inr rfl) ba) (ak (aY (i:=1) (by decide) gK.nd (Or.inr rfl) (aO (bG K) (pAdd K) (ag 1) ba)) (ak (aY (i:=2) (by decide) gK.nd (Or.inl rfl) (aO oMod pMod (ag 0) ah)) (ak (bi (aI (oEqD K hr.units) (pEq K) (ag 2) ah (az _)) (aw (ay eN)) aJ) (ak (bi (aI oLt pLt (ag 2) ah (az _)) (aw (ay (aO oSub pSub (aO oMod pMod (aO oDiv pDiv (ag 0) ah) ah) ah))) aJ) (ak (bi (aI (oEqD K hr.units) (pEq K) (ag 2) ah (az _)) (aw (ay (bp (oIx K) (pIx K) (bu (cp (aa (aO oSub pSub (aO oPow pPow ah ah) ah) (aa (aO oSub pSub ah (aO oPow pPow ah ah)) (aa (aO oPow pPow ah ah) (aa (wU oNeg pNeg ah) af)))))) (aO oMod pMod (aO oDiv pDiv (ag 0) ah) ah)))) aJ) (ak (bi (aI (oEqD K hr.units) (pEq K) (ag 2) ah (az _)) (aw (ay (aO oSub pSub (aO oMod pMod (aO oMulD pMul (aO oMulD pMul (ag 0) (ag 0)) ah) (aO oSub pSub (aO oMulD pMul ah (aO oPow pPow ah ah)) ah)) (aO oSub pSub (aO oPow pPow ah ah) ah)))) aJ) (ak (bi (aI (oEqD K hr.units) (pEq K) (ag 2) ah (az _)) (aw (ay (bp (oIx K) (pIx K) (bu (cp (aa ba (aa ba (aa ba (aa ba (aa ba (aa ba (aa ba (aa ba af)))))))))) (aO oMod pMod (aO oDiv pDiv (ag 0) ah) ah)))) aJ) (aw (ay (d_sm PySem.F.slot_str_join PySem.F.type_str_join (yC K) (pJoin K) ba (aa (bu (eZ (Wb:=⟨K,mg,E0⟩) (osc:=ap i0) (ON:=j6) (N:=["_law_k","_law_some","_law_x"]) (ix:=[none,some 1,some 0]) (by decide +kernel) (lb T.z_range (aa (aO oMod pMod (aO oDiv pDiv (ag 0) ah) ah) af)) (fun _=>(bz (i:=0) (by decide) (by decide +kernel:(["_law_k","_law_some","_law_x"]:List Str).Nodup) rfl (Or.inl rfl))) (fun _=>cD) (fun _=>(bp (oIx K) (pIx K) (ag 1) (aO oMod pMod (aO (bG K) (pAdd K) (aO oDiv pDiv (aO oDiv pDiv (ag 2) ah) (aO (bG K) (pAdd K) (ag 0) ah)) (ag 0)) ah))) (bw (by decide)))) af)))))))))))))
theorem jK:FnOk P w K mg base CX0 1 f21 d21 jd (spD K mg b8):=by
 exact T.D_l_key.F.okD (φ:=mv) (O':=[]) vz (fun cdv A outer s H E hr=>(ak (bi (aI oIs pIs (bp (oIx K) (pIx K) (ag 0) ah) eN (az _)) (aw (ay (aG (aa ah (aa ah (aa ba (aa (bp (oIx K) (pIx K) (ag 0) ah) af))))))) aJ) (ak (bi (a7 K (aE (qIsiD K) (pIsi K) T.z_isinstance aH (aa (bp (oIx K) (pIx K) (ag 0) ah) (aa (mj T.z_str ki) af)))) (aw (ay (aG (aa ah (aa ah (aa (bp (oIx K) (pIx K) (ag 0) ah) (aa (bp (oIx K) (pIx K) (ag 0) ah) af))))))) aJ) (aw (ay (aG (aa ah (aa (bp (oIx K) (pIx K) (ag 0) ah) (aa ba (aa (bp (oIx K) (pIx K) (ag 0) ah) af))))))))))
theorem lN:FnOk P w K mg base CX0 2 f22 d22 eH (spD K mg cr):=by
 exact T.D_l_entry.F.okD (φ:=iZ) (O':=[]) rT (fun cdv A outer s H E hr=>(aw (ay (aG (aa (aF T.D_l_value (si T) hr (aa (aO oDiv pDiv (ag 0) ah) af)) (aa (aO (bG K) (pAdd K) ah (aO oMod pMod (aO oMod pMod (aO oMulD pMul (ag 0) ah) ah) (bp (oIx K) (pIx K) (bu (cp (aa ah (aa ah (aa (aO oPow pPow ah ah) af))))) (aO oMod pMod (ag 0) ah)))) af))))))
theorem sV:FnOk P w K mg base CX0 3 f23 d23 iA (spD K mg jJ):=by
 exact T.D_l_once.F.okD (φ:=jV) (O':=[]) m9 (fun cdv A outer s H E hr=>(ak (aY (i:=1) (by decide) m9.nd (Or.inr rfl) (bu (wx T.D_l_key (jK T) hr T.z_sorted (ag 0)))) (aw (ay (bu (eZ (Wb:=⟨K,mg,E0⟩) (osc:=ap jX) (ON:=mS) (N:=["_law_k","_law_rows_here"]) (ix:=[none,some 1]) (by decide +kernel) (lb T.z_range (aa (aE (qLen K) (pLen K) T.z_len bP (aa (ag 1) af)) af)) (fun _=>(bz (i:=0) (by decide) (by decide +kernel:(["_law_k","_law_rows_here"]:List Str).Nodup) rfl (Or.inl rfl))) (fun _=>(oX (b7 (io (aI (oEqD K hr.units) (pEq K) (ag 0) ah (az _)) (gT (aI (oNeD K hr.units) (pNe K) (bp (oIx K) (pIx K) (ag 1) (ag 0)) (bp (oIx K) (pIx K) (ag 1) (aO oSub pSub (ag 0) ah)) (az _))))))) (fun _=>(bp (oIx K) (pIx K) (ag 1) (ag 0))) (bw (by decide))))))))
theorem tO:FnOk P w K mg base CX0 4 f24 d24 i4 (spD K mg j5):=by
 exact T.D_l_rows.F.okD (φ:=jN) (O':=[]) dc (fun cdv A outer s H E hr=>(ak (aY (i:=1) (by decide) dc.nd (Or.inl rfl) (aO oMod pMod (ag 0) ah)) (ak (bi (aI (oEqD K hr.units) (pEq K) (aO oMod pMod (aO oDiv pDiv (ag 0) ah) ah) ah (az _)) (aw (aY (i:=1) (by decide) dc.nd (Or.inl rfl) (aO (bG K) (pAdd K) ah (aO oMod pMod (aO oDiv pDiv (ag 0) ah) ah)))) aJ) (ak (bi (aI (oEqD K hr.units) (pEq K) (aO oMod pMod (aO oDiv pDiv (ag 0) ah) ah) ah (az _)) (aw (aY (i:=1) (by decide) dc.nd (Or.inl rfl) (aO (bG K) (pAdd K) ah (aO oMod pMod (aO oDiv pDiv (ag 0) ah) ah)))) aJ) (ak (bi (aI (oEqD K hr.units) (pEq K) (aO oMod pMod (aO oDiv pDiv (ag 0) ah) ah) ah (az _)) (aw (aY (i:=1) (by decide) dc.nd (Or.inl rfl) (bp (oIx K) (pIx K) (bu (cp (aa ah (aa ah af)))) (aO oMod pMod (aO oDiv pDiv (ag 0) ah) ah)))) aJ) (ak (bi (aI (oEqD K hr.units) (pEq K) (aO oMod pMod (aO oDiv pDiv (ag 0) ah) ah) ah (az _)) (aw (aY (i:=1) (by decide) dc.nd (Or.inl rfl) (aO (bG K) (pAdd K) ah (aO oMod pMod (aO oDiv pDiv (ag 0) ah) ah)))) aJ) (ak (aY (i:=2) (by decide) dc.nd (Or.inl rfl) (aF T.D_l_once (sV T) hr (aa (bu (eZ (Wb:=⟨K,mg,E0⟩) (osc:=ap jL) (ON:=mW) (N:=["_law_x"]) (ix:=[none]) (by decide +kernel) (de K (aF T.D_l_stream (j9 T) hr (aa (ag 0) (aa (ag 1) af)))) (fun _=>(bz (i:=0) (by decide) (by decide +kernel:(["_law_x"]:List Str).Nodup) rfl (Or.inl rfl))) (fun _=>cD) (fun _=>(aF T.D_l_entry (lN T) hr (aa (ag 0) af))) (bw (by decide)))) af))) (ak (bi (aI (oEqD K hr.units) (pEq K) (aO oMod pMod (aO oDiv pDiv (ag 0) ah) ah) ah (az _)) (aw (ay (bx (oSl K) (pSl K) (ag 2) bK (bv (bp (oIx K) (pIx K) (bu (cp (aa ah (aa ah af)))) (aO oMod pMod (aO oDiv pDiv (ag 0) ah) ah)))))) aJ) (aw (ay (ag 2)))))))))))
theorem qD:FnOk P w K mg base CX0 1 f25 d25 kO (spD K mg gX):=by
 exact T.D_l_cut.F.okD (φ:=mI) (O':=[]) gP (fun cdv A outer s H E hr=>(ak (qz (i:=4) (by decide) gP.nd (Or.inl rfl) (cp af)) (ak (mz 1000 PassesOwn.never (aI oGt pGt (aE (qLen K) (pLen K) T.z_len bP (aa (ag 0) af)) (ag 2) (az _)) (ak (aY (i:=5) (by decide) gP.nd (Or.inl rfl) (aO (bG K) (pAdd K) (ag 1) (aO oMod pMod (ag 3) (aO (bG K) (pAdd K) (aO oSub pSub (ag 2) (ag 1)) ah)))) (ak (bi (aI oLt pLt (aO oSub pSub (aE (qLen K) (pLen K) T.z_len bP (aa (ag 0) af)) (ag 5)) (ag 1) (az _)) (aw (aY (i:=5) (by decide) gP.nd (Or.inl rfl) (aO oSub pSub (aE (qLen K) (pLen K) T.z_len bP (aa (ag 0) af)) (ag 1)))) aJ) (ak (kU (i:=4) (by decide) (mL (qTupOf K) (pTup K) T.z_tuple cW (aa (bx (oSl K) (pSl K) (ag 0) bK (bv (ag 5))) af))) (ak (aY (i:=0) (by decide) gP.nd (Or.inl rfl) (bx (oSl K) (pSl K) (ag 0) (bv (ag 5)) bK)) (aw (aY (i:=3) (by decide) gP.nd (Or.inl rfl) (aO oMod pMod (aO (bG K) (pAdd K) (aO oMulD pMul (ag 3) ah) ah) ah)))))))) (qy (O:=[4]) (O2:=[]) (aw (ay (aO (bG K) (pAdd K) (ag 4) (bu (cp (aa (mL (qTupOf K) (pTup K) T.z_tuple cW (aa (ag 0) af)) af))))))))))
theorem fb:FnOk P w K mg base CX0 2 f26 d26 gg (spD K mg bR):=by
 exact T.D_l_loose.F.okD (φ:=gj) (O':=[]) gM (fun cdv A outer s H E hr=>(ak (bi (aI (oEqD K hr.units) (pEq K) (ag 0) (bu (cp af)) (az _)) (aw (ay (aG (aa ba (aa (aG af) af))))) aJ) (ak (pL (by decide) (pN (i:=4) gM.nd (Or.inl rfl) (Wb:=⟨K,mg,E0⟩) (osc:=ap gl) (ON:=iI) (N:=["_law_run"]) (ix:=[none]) (by decide +kernel) (de K (aF T.D_l_cut (qD T) hr (aa (ag 0) (aa (ag 1) (aa (ag 2) (aa (ag 3) af)))))) (fun _=>(bz (i:=0) (by decide) (by decide +kernel:(["_law_run"]:List Str).Nodup) rfl (Or.inl rfl))) (fun _=>cD) (fun _=>(aG (aa (bp (oIx K) (pIx K) (ag 0) ah) (aa (aG (aa ba (aa (ag 0) af))) af)))) (bw (by decide)))) (ak (mz 1000 PassesOwn.never (aI oGt pGt (aE (qLen K) (pLen K) T.z_len bP (aa (ag 4) af)) (ag 2) (az _)) (ak (aY (i:=3) (by decide) gM.nd (Or.inl rfl) (aO oMod pMod (aO (bG K) (pAdd K) (aO oMulD pMul (ag 3) ah) ah) ah)) (aw (pL (by decide) (pN (i:=4) gM.nd (Or.inl rfl) (Wb:=⟨K,mg,E0⟩) (osc:=ap gl) (ON:=iI) (N:=["_law_run"]) (ix:=[none]) (by decide +kernel) (de K (aF T.D_l_cut (qD T) hr (aa (ag 4) (aa ah (aa ah (aa (ag 3) af)))))) (fun _=>(bz (i:=0) (by decide) (by decide +kernel:(["_law_run"]:List Str).Nodup) rfl (Or.inl rfl))) (fun _=>cD) (fun _=>(aG (aa (bp (oIx K) (pIx K) (bp (oIx K) (pIx K) (ag 0) ah) ah) (aa (aG (aa ba (aa (ag 0) af))) af)))) (bw (by decide))))))) (ak (bi (aI (oEqD K hr.units) (pEq K) (aE (qLen K) (pLen K) T.z_len bP (aa (ag 4) af)) ah (az _)) (aw (ay (bp (oIx K) (pIx K) (bp (oIx K) (pIx K) (ag 4) ah) ah))) aJ) (aw (ay (aG (aa ba (aa (mL (qTupOf K) (pTup K) T.z_tuple cW (aa (ag 4) af)) af))))))))))
theorem mw:FnOk P w K mg base CX0 2 f27 d27 cM (spD K mg cI):=by
 exact T.D_l_is_value.F.okD (φ:=dM) (O':=[]) mZ (fun cdv A outer s H E hr=>(ak (bi (aI oIs pIs (ag 0) eN (az _)) (aw (ay oz)) aJ) (ak (bi (a7 K (aE (qIsiD K) (pIsi K) T.z_isinstance aH (aa (ag 0) (aa (mj T.z_str ki) af)))) (aw (ay (fG (fz oLe pLe (aE (qLen K) (pLen K) T.z_len bP (aa (ag 0) af)) ah (az _)) (gR (fz (oEqD K hr.units) (pEq K) (bu (eZ (Wb:=⟨K,mg,E0⟩) (osc:=ap dI) (ON:=gc) (N:=["_law_sign"]) (ix:=[none]) (by decide +kernel) (de K (ag 0)) (fun _=>(bz (i:=0) (by decide) (by decide +kernel:(["_law_sign"]:List Str).Nodup) rfl (Or.inl rfl))) (fun _=>(oX (bX (mQ oLe pLe oLe pLe ba (ag 0) ba)))) (fun _=>(ag 0)) (bw (by decide)))) (bu (cp af)) (az _)))))) aJ) (aw (ay (fG (aF T.D_l_whole (lz T) hr (aa (ag 0) af)) (gR (uI oLt pLt oLt pLt (wU oNeg pNeg (aO oPow pPow ah ah)) (ag 0) (aO oPow pPow ah ah)))))))))
theorem iE:FnOk P w K mg base CX0 3 f28 d28 ci (spD K mg bD):=by
 exact T.D_l_is_entry.F.okD (φ:=dQ) (O':=[]) mR (fun cdv A outer s H E hr=>(ak (bi (b7 (io (bX (a7 K (aE (qIsiD K) (pIsi K) T.z_isinstance aH (aa (ag 0) (aa (mj T.z_tuple cW) af))))) (io (aI (oNeD K hr.units) (pNe K) (aE (qLen K) (pLen K) T.z_len bP (aa (ag 0) af)) ah (az _)) (gT (bX (a7 K (aF T.D_l_is_value (mw T) hr (aa (bp (oIx K) (pIx K) (ag 0) ah) af)))))))) (aw (ay oz)) aJ) (aw (ay (fG (aF T.D_l_whole (lz T) hr (aa (bp (oIx K) (pIx K) (ag 0) ah) af)) (gR (uI oLe pLe oLe pLe ah (bp (oIx K) (pIx K) (ag 0) ah) (aO oPow pPow ah ah))))))))
theorem vk:FnOk P w K mg base CX0 4 f29 d29 gQ (spD K mg dD):=by
 exact T.D_l_leaf.F.okD (φ:=jI) (O':=[]) nT (fun cdv A outer s H E hr=>(ak (bi (b7 (io (bX (mQ oLe pLe oLe pLe (ag 1) (aE (qLen K) (pLen K) T.z_len bP (aa (ag 0) af)) ah)) (gT (aI (oNeD K hr.units) (pNe K) (bu (eZ (Wb:=⟨K,mg,E0⟩) (osc:=ap j0) (ON:=mO) (N:=["_law_thing_here"]) (ix:=[none]) (by decide +kernel) (de K (ag 0)) (fun _=>(bz (i:=0) (by decide) (by decide +kernel:(["_law_thing_here"]:List Str).Nodup) rfl (Or.inl rfl))) (fun _=>(oX (bX (a7 K (aF T.D_l_is_entry (iE T) hr (aa (ag 0) af)))))) (fun _=>(ag 0)) (bw (by decide)))) (bu (cp af)) (az _))))) (aw (ay eN)) aJ) (ak (pR PassesOwn.never (sS T.z_range (aa ah (aa (aE (qLen K) (pLen K) T.z_len bP (aa (ag 0) af)) af))) (bz (i:=2) (by decide) nT.nd rfl (Or.inl rfl)) (aw (bi (bX (aI (oLtK K hr.units) (pLtK K) (aF T.D_l_key (jK T) hr (aa (bp (oIx K) (pIx K) (ag 0) (aO oSub pSub (ag 2) ah)) af)) (aF T.D_l_key (jK T) hr (aa (bp (oIx K) (pIx K) (ag 0) (ag 2)) af)) (az _))) (aw (ay eN)) aJ))) (aw (ay (aG (aa ah (aa (bu (oO (qLstOf K) (pLst K) T.z_list oH (aa (ag 0) af))) af))))))))
theorem nU:∀ n:Nat,FnOk P w K mg base CX0 (5+n) f30 d30 fm (spD K mg (dL n))
 | 0=>FnOk.void
 | n+1=>by
  have ih:=nU n
  have G_l_good:FnOk P w K mg base CX0 (5+n) f30 d30 fm (spD K mg (dL n)):=ih
  have G_l_leaf:FnOk P w K mg base CX0 4 f29 d29 gQ (spD K mg dD):=vk T
  have G_l_is_entry:FnOk P w K mg base CX0 3 f28 d28 ci (spD K mg bD):=iE T
  have G_l_key:FnOk P w K mg base CX0 1 f21 d21 jd (spD K mg b8):=jK T
  exact T.D_l_good.F.okD (k:=5+n) (φ:=gr ((dL n))) (O':=[]) eU (fun cdv A outer s H E hr=>(ak (bi (b7 (io (bX (a7 K (aE (qIsiD K) (pIsi K) T.z_isinstance aH (aa (ag 0) (aa (mj T.z_tuple cW) af))))) (io (aI (oNeD K hr.units) (pNe K) (aE (qLen K) (pLen K) T.z_len bP (aa (ag 0) af)) ah (az _)) (io (bX (a7 K (aE (qIsiD K) (pIsi K) T.z_isinstance aH (aa (bp (oIx K) (pIx K) (ag 0) ah) (aa (mj T.z_str ki) af))))) (gT (bX (a7 K (aE (qIsiD K) (pIsi K) T.z_isinstance aH (aa (bp (oIx K) (pIx K) (ag 0) ah) (aa (mj T.z_tuple cW) af)))))))))) (aw (ay eN)) aJ) (ak (bi (aI (oEqD K hr.units) (pEq K) (bp (oIx K) (pIx K) (ag 0) ah) ba (az _)) (aw (ay (aF T.D_l_leaf G_l_leaf hr (aa (bp (oIx K) (pIx K) (ag 0) ah) (aa (ag 1) af)) (hj:=by omega)))) aJ) (ak (bi (b7 (io (aI (oNeD K hr.units) (pNe K) (bp (oIx K) (pIx K) (ag 0) ah) ba (az _)) (gT (bX (mQ oLe pLe oLe pLe (ag 2) (aE (qLen K) (pLen K) T.z_len bP (aa (bp (oIx K) (pIx K) (ag 0) ah) af)) ah))))) (aw (ay eN)) aJ) (ak (qz (i:=3) (by decide) eU.nd (Or.inl rfl) (cp af)) (ak (aY (i:=4) (by decide) eU.nd (Or.inl rfl) (bu (cp af))) (ak (pR PassesOwn.never (de K (bp (oIx K) (pIx K) (ag 0) ah)) (bz (i:=5) (by decide) eU.nd rfl (Or.inl rfl)) (ak (bi (b7 (io (bX (a7 K (aE (qIsiD K) (pIsi K) T.z_isinstance aH (aa (ag 5) (aa (mj T.z_tuple cW) af))))) (io (aI (oNeD K hr.units) (pNe K) (aE (qLen K) (pLen K) T.z_len bP (aa (ag 5) af)) ah (az _)) (gT (bX (a7 K (aF T.D_l_is_entry G_l_is_entry hr (aa (bp (oIx K) (pIx K) (ag 5) ah) af) (hj:=by omega)))))))) (aw (ay eN)) aJ) (ak (aY (i:=6) (by decide) eU.nd (Or.inl rfl) (aF T.D_l_good G_l_good hr (aa (bp (oIx K) (pIx K) (ag 5) ah) (aa ah (aa ah af))) (hj:=by omega))) (ak (bi (b7 (io (aI oIs pIs (ag 6) eN (az _)) (gT (aI (oNeD K hr.units) (pNe K) (aF T.D_l_key G_l_key hr (aa (bp (oIx K) (pIx K) (ag 5) ah) af) (hj:=by omega)) (aF T.D_l_key G_l_key hr (aa (bp (oIx K) (pIx K) (bp (oIx K) (pIx K) (ag 6) ah) ah) af) (hj:=by omega)) (az _))))) (aw (ay eN)) aJ) (ak (bi (b7 (kD (aI (oNeD K hr.units) (pNe K) (ag 4) (bu (cp af)) (az _)) (jh (bX (aI (oLtK K hr.units) (pLtK K) (aF T.D_l_key G_l_key hr (aa (bp (oIx K) (pIx K) (ag 4) (wU oNeg pNeg ah)) af) (hj:=by omega)) (aF T.D_l_key G_l_key hr (aa (bp (oIx K) (pIx K) (bp (oIx K) (pIx K) (ag 6) ah) ah) af) (hj:=by omega)) (az _)))))) (aw (ay eN)) aJ) (ak (kU (i:=3) (by decide) (bp (oIx K) (pIx K) (ag 6) ah)) (aw (aY (i:=4) (by decide) eU.nd (Or.inl rfl) (aO (bG K) (pAdd K) (ag 4) (bp (oIx K) (pIx K) (ag 6) ah)))))))))) (qy (O:=[3]) (O2:=[]) (ak (bi (aI oLt pLt (wo K (ag 3) (bp (oIx K) (pIx K) (ag 3) ah)) (aE (qLen K) (pLen K) T.z_len bP (aa (ag 3) af)) (az _)) (aw (ay eN)) aJ) (aw (ay (aG (aa (aO (bG K) (pAdd K) (bp (oIx K) (pIx K) (ag 3) ah) ah) (aa (ag 4) af))))))))))))))
theorem ue:FnOk P w K mg base CX0 25 f30 d30 fm (spD K mg gq):=(nU T 20)
theorem vy:FnOk P w K mg base CX0 1 f31 d31 kE (spD K mg mN):=by
 exact T.D_l_odd.F.okD (φ:=mM) (O':=[]) fF (fun cdv A outer s H E hr=>(ak (aY (i:=1) (by decide) fF.nd (Or.inl rfl) (aG (aa ah (aa ah af)))) (ak (aY (i:=2) (by decide) fF.nd (Or.inl rfl) (aG (aa ba (aa (aG (aa (aG (aa ah (aa ah af))) (aa (aG (aa ah (aa ah af))) (aa (aG (aa ah (aa ah af))) (aa (aG (aa ba (aa ah af))) af))))) af)))) (ak (aY (i:=3) (by decide) fF.nd (Or.inl rfl) (aG (aa ba (aa (aG (aa (aG (aa ah (aa ah af))) (aa (aG (aa ah (aa ah af))) (aa (aG (aa ah (aa ah af))) (aa (aG (aa ah (aa ah af))) af))))) af)))) (ak (aY (i:=4) (by decide) fF.nd (Or.inl rfl) (bu (cp (aa eN (aa ba (aa (aG af) (aa (aG (aa ba af)) (aa (aG (aa ba (aa (bu (cp af)) af))) (aa (aG (aa ba (aa (aG (aa (ag 1) af)) (aa ah af)))) (aa (bu (cp (aa ba (aa (aG (aa (ag 1) af)) af)))) (aa (aG (aa ba (aa (aG af) af))) af))))))))))) (ak (aY (i:=4) (by decide) fF.nd (Or.inl rfl) (aO (bG K) (pAdd K) (ag 4) (bu (cp (aa (aG (aa ba (aa (aG (aa (aG (aa eN (aa ah af))) af)) af))) (aa (aG (aa ba (aa (aG (aa (ag 1) (aa (ag 1) af))) af))) (aa (aG (aa ba (aa (aG (aa (aG (aa (aG (aa ah (aa ah af))) (aa (ag 2) af))) af)) af))) (aa (bu (cp (aa ba (aa (aG af) af)))) (aa oz af))))))))) (ak (aY (i:=4) (by decide) fF.nd (Or.inl rfl) (aO (bG K) (pAdd K) (ag 4) (bu (cp (aa (aG (aa ba (aa (aG (aa (aG (aa (aG (aa ah (aa ah af))) (aa (ag 2) af))) (aa (aG (aa (aG (aa ah (aa ah af))) (aa (ag 3) af))) af))) af))) (aa (aG (aa ba (aa (aG (aa (aG (aa (aG (aa ah (aa ah af))) (aa (ag 2) af))) (aa (aG (aa (aG (aa ah (aa ah af))) (aa (ag 2) af))) af))) af))) af)))))) (aw (ay (bp (oIx K) (pIx K) (aO (bG K) (pAdd K) (ag 4) (bu (cp (aa (aG (aa ba (aa (aG (aa (aG (aa oz (aa ah af))) af)) af))) (aa (aG (aa ba (aa (aG (aa (aG (aa ah (aa oz af))) af)) af))) (aa (aG (aa ba (aa (aG (aa (aG (aa (wU oNeg pNeg ah) (aa (aO oPow pPow ah ah) af))) (aa (aG (aa ba (aa ah af))) af))) af))) af)))))) (aO oMod pMod (ag 0) ah)))))))))))
theorem o9:FnOk P w K mg base CX0 1 f32 d32 fc (spD K mg eh):=by
 exact T.D_l_spoilt.F.okD (φ:=gL) (O':=[]) fB (fun cdv A outer s H E hr=>(ak (uo (ag 0) (tM (qe K (dE (bz (i:=2) (by decide) fB.nd rfl (Or.inl rfl)) (dE (bz (i:=3) (by decide) fB.nd rfl (Or.inl rfl)) mU))))) (ak (bi (aI (oEqD K hr.units) (pEq K) (aO oMod pMod (ag 1) ah) ah (az _)) (aw (ay (bp (oIx K) (pIx K) (bu (cp (aa (aG (aa (ag 2) (aa ah af))) (aa (aG (aa (ag 2) (aa (aO (bG K) (pAdd K) (aO (bG K) (pAdd K) (aO oPow pPow ah ah) ah) (aO oMod pMod (ag 1) ah)) af))) (aa (aG (aa (ag 2) (aa (wU oNeg pNeg ah) af))) (aa (aG (aa (ag 2) (aa oz af))) (aa (aG (aa (ag 2) (aa (aO oPow pPow ah ah) af))) af))))))) (aO oMod pMod (aO oDiv pDiv (ag 1) ah) ah)))) aJ) (ak (aY (i:=4) (by decide) fB.nd (Or.inl rfl) (bu (cp (aa (aG (aa (aO oPow pPow ah ah) (aa (ag 3) af))) (aa (aG (aa (aO oSub pSub (wU oNeg pNeg (aO oPow pPow ah ah)) (aO oMod pMod (ag 1) ah)) (aa (ag 3) af))) (aa (aG (aa (aO oMulD pMul ba ah) (aa (ag 3) af))) (aa (aG (aa ba (aa (ag 3) af))) (aa (aG (aa oz (aa (ag 3) af))) af)))))))) (aw (ay (bp (oIx K) (pIx K) (aO (bG K) (pAdd K) (ag 4) (bu (cp (aa (aG (aa (ag 2) (aa (ag 3) (aa ah af)))) (aa (aG (aa (ag 2) (aa (mL qStrI pStrI T.z_str ki (aa (ag 3) af)) af))) af))))) (aO oMod pMod (aO oDiv pDiv (ag 1) ah) ah))))))))
theorem oM:FnOk P w K mg base CX0 2 f33 d33 eI (spD K mg gz):=by
 exact T.D_l_turned.F.okD (φ:=gm) (O':=[]) kB (fun cdv A outer s H E hr=>(ak (bi (aI oLt pLt (aE (qLen K) (pLen K) T.z_len bP (aa (ag 0) af)) ah (az _)) (aw (ay (ag 0))) aJ) (ak (aY (i:=3) (by decide) kB.nd (Or.inl rfl) (aO oMod pMod (ag 2) (aO oSub pSub (aE (qLen K) (pLen K) T.z_len bP (aa (ag 0) af)) ah))) (ak (bi (aI (oInD K) (pIn K) (ag 1) (aG (aa ah (aa ah (aa ah af)))) (by with_unfolding_all rfl)) (aw (ay (aO (bG K) (pAdd K) (aO (bG K) (pAdd K) (bx (oSl K) (pSl K) (ag 0) bK (bv (ag 3))) (bu (cp (aa (bp (oIx K) (pIx K) (ag 0) (aO (bG K) (pAdd K) (ag 3) ah)) (aa (bp (oIx K) (pIx K) (ag 0) (ag 3)) af))))) (bx (oSl K) (pSl K) (ag 0) (bv (aO (bG K) (pAdd K) (ag 3) ah)) bK)))) aJ) (ak (bi (aI (oEqD K hr.units) (pEq K) (ag 1) ah (az _)) (aw (ay (aO (bG K) (pAdd K) (aO (bG K) (pAdd K) (bx (oSl K) (pSl K) (ag 0) bK (bv (ag 3))) (bx (oSl K) (pSl K) (ag 0) (bv (ag 3)) (bv (aO (bG K) (pAdd K) (ag 3) ah)))) (bx (oSl K) (pSl K) (ag 0) (bv (ag 3)) bK)))) aJ) (aw (ay (aO (bG K) (pAdd K) (aO (bG K) (pAdd K) (bx (oSl K) (pSl K) (ag 0) bK (bv (ag 3))) (bu (cp (aa (aF T.D_l_spoilt (o9 T) hr (aa (bp (oIx K) (pIx K) (ag 0) (ag 3)) (aa (aO oDiv pDiv (ag 2) ah) af))) af)))) (bx (oSl K) (pSl K) (ag 0) (bv (aO (bG K) (pAdd K) (ag 3) ah)) bK)))))))))
theorem oA:FnOk P w K mg base CX0 3 f34 d34 eV (spD K mg gA):=by
 exact T.D_l_uneven.F.okD (φ:=gn) (O':=[]) ik (fun cdv A outer s H E hr=>(ak (aY (i:=2) (by decide) ik.nd (Or.inl rfl) (aF T.D_l_loose (fb T) hr (aa (bx (oSl K) (pSl K) (ag 0) bK (bv (aO (bG K) (pAdd K) ah (aO oMod pMod (ag 1) ah)))) (aa ah (aa ah (aa (ag 1) af)))))) (ak (aY (i:=3) (by decide) ik.nd (Or.inl rfl) (aF T.D_l_loose (fb T) hr (aa (bx (oSl K) (pSl K) (ag 0) (bv (aO (bG K) (pAdd K) ah (aO oMod pMod (ag 1) ah))) bK) (aa ah (aa ah (aa (ag 1) af)))))) (aw (ay (aG (aa ba (aa (aG (aa (aG (aa (bp (oIx K) (pIx K) (ag 0) ah) (aa (ag 2) af))) (aa (aG (aa (bp (oIx K) (pIx K) (ag 0) (aO (bG K) (pAdd K) ah (aO oMod pMod (ag 1) ah))) (aa (ag 3) af))) af))) af))))))))
theorem pX:∀ n:Nat,FnOk P w K mg base CX0 (3+n) f35 d35 g9 (spD K mg (fA n))
 | 0=>FnOk.void
 | n+1=>by
  have ih:=pX n
  have G_l_put:FnOk P w K mg base CX0 (3+n) f35 d35 g9 (spD K mg (fA n)):=ih
  have G_l_entry:FnOk P w K mg base CX0 2 f22 d22 eH (spD K mg cr):=lN T
  exact T.D_l_put.F.okD (k:=3+n) (φ:=kA ((fA n))) (O':=[]) cY (fun cdv A outer s H E hr=>(ak (uo (ag 0) (tM (qe K (dE (bz (i:=3) (by decide) cY.nd rfl (Or.inl rfl)) (dE (bz (i:=4) (by decide) cY.nd rfl (Or.inl rfl)) mU))))) (ak (bi (b7 (kD (aI (oEqD K hr.units) (pEq K) (ag 3) ba (az _)) (kD (aI oGt pGt (aO oMod pMod (bp (oIx K) (pIx K) (ag 2) ah) ah) ah (az _)) (jh (b7 (io (aI oLt pLt (ag 1) ah (az _)) (gT (aI (oEqD K hr.units) (pEq K) (bp (oIx K) (pIx K) (bp (oIx K) (pIx K) (bp (oIx K) (pIx K) (ag 4) ah) ah) ah) ba (az _))))))))) (ak (aY (i:=5) (by decide) cY.nd (Or.inl rfl) (aO oMod pMod (bp (oIx K) (pIx K) (ag 2) ah) (aE (qLen K) (pLen K) T.z_len bP (aa (ag 4) af)))) (aw (ay (aG (aa (ag 3) (aa (aO (oPlusT K) (pAddT K) (aO (oPlusT K) (pAddT K) (bx (oSlW K) (pSlW K) (ag 4) bK (bv (ag 5))) (aG (aa (aG (aa (bp (oIx K) (pIx K) (bp (oIx K) (pIx K) (ag 4) (ag 5)) ah) (aa (aF T.D_l_put G_l_put hr (aa (bp (oIx K) (pIx K) (bp (oIx K) (pIx K) (ag 4) (ag 5)) ah) (aa (ag 1) (aa (bx (oSlW K) (pSlW K) (ag 2) (bv ah) bK) af))) (hj:=by omega)) af))) af))) (bx (oSlW K) (pSlW K) (ag 4) (bv (aO (oPlusT K) (pAddT K) (ag 5) ah)) bK)) af)))))) aJ) (ak (bi (aI (oEqD K hr.units) (pEq K) (ag 1) ah (az _)) (aw (ay (aG (aa (bp (oIx K) (pIx K) (bu (cp (aa ba (aa ba (aa ba (aa ah (aa eN (aa ba (aa ba af))))))))) (aO oMod pMod (bp (oIx K) (pIx K) (ag 2) ah) ah)) (aa (ag 4) af))))) aJ) (ak (bi (aI (oEqD K hr.units) (pEq K) (ag 1) ah (az _)) (aw (ay (aG (aa (ag 3) (aa (bu (oO (qLstOf K) (pLst K) T.z_list oH (aa (ag 4) af))) af))))) aJ) (ak (bi (aI (oEqD K hr.units) (pEq K) (ag 3) ba (az _)) (aw (ay (aG (aa (ag 3) (aa (aO (oPlusT K) (pAddT K) (bx (oSlW K) (pSlW K) (ag 4) bK (bv (aO oMod pMod (bp (oIx K) (pIx K) (ag 2) ah) ah))) (bx (oSlW K) (pSlW K) (ag 4) (bv (aO (oPlusT K) (pAddT K) (aO oMod pMod (bp (oIx K) (pIx K) (ag 2) ah) ah) ah)) bK)) af))))) aJ) (ak (aY (i:=5) (by decide) cY.nd (Or.inl rfl) (aO oMod pMod (bp (oIx K) (pIx K) (ag 2) ah) (aE (qLen K) (pLen K) T.z_len bP (aa (ag 4) af)))) (ak (uo (bp (oIx K) (pIx K) (bp (oIx K) (pIx K) (ag 4) (ag 5)) ah) (tM (qe K (dE (bz (i:=6) (by decide) cY.nd rfl (Or.inl rfl)) (dE (bz (i:=7) (by decide) cY.nd rfl (Or.inl rfl)) mU))))) (ak (aY (i:=8) (by decide) cY.nd (Or.inl rfl) (bu (cp (aa (aF T.D_l_entry G_l_entry hr (aa (bp (oIx K) (pIx K) (ag 2) ah) af) (hj:=by omega)) (aa (aG (aa (ag 6) (aa (aO (oPlusT K) (pAddT K) (ag 7) ah) af))) (aa (aG (aa (ag 6) (aa (aE (qMax rfl) pMax T.z_max zk (aa ah (aa (aO oSub pSub (ag 7) ah) af))) af))) (aa eN (aa (aG (aa (ag 6) af)) (aa (aG (aa eN (aa ah af))) af))))))))) (ak (aY (i:=9) (by decide) cY.nd (Or.inl rfl) (bp (oIx K) (pIx K) (ag 8) (aO oMod pMod (bp (oIx K) (pIx K) (ag 2) ah) ah))) (aw (ay (aG (aa (ag 3) (aa (aO (oPlusT K) (pAddT K) (aO (oPlusT K) (pAddT K) (bx (oSlW K) (pSlW K) (ag 4) bK (bv (ag 5))) (aG (aa (aG (aa (ag 9) (aa (bp (oIx K) (pIx K) (bp (oIx K) (pIx K) (ag 4) (ag 5)) ah) af))) af))) (bx (oSlW K) (pSlW K) (ag 4) (bv (aO (oPlusT K) (pAddT K) (ag 5) ah)) bK)) af)))))))))))))))
theorem vJ:FnOk P w K mg base CX0 23 f35 d35 g9 (spD K mg ll):=(pX T 20)
theorem rV:FnOk P w K mg base CX0 24 f36 d36 fT (spD K mg ir):=by
 exact T.D_l_thing.F.okD (φ:=iC) (O':=[]) rX (fun cdv A outer s H E hr=>(ak (bi (aI (oEqD K hr.units) (pEq K) (ag 2) ah (az _)) (aw (ay (aF T.D_l_loose (fb T) hr (aa (ag 0) (aa (aO (bG K) (pAdd K) ah (aO oMod pMod (ag 3) ah)) (aa (aO (bG K) (pAdd K) ah (aO oMod pMod (ag 3) ah)) (aa (ag 3) af))))))) aJ) (ak (bi (aI (oInD K) (pIn K) (ag 2) (aG (aa ah (aa ah (aa ah (aa ah (aa ah (aa ah (aa ah af)))))))) (by with_unfolding_all rfl)) (aw (ay (aF T.D_l_loose (fb T) hr (aa (aF T.D_l_turned (oM T) hr (aa (ag 0) (aa (ag 2) (aa (ag 3) af)))) (aa ah (aa ah (aa (ag 3) af))))))) aJ) (ak (bi (b7 (kD (aI (oEqD K hr.units) (pEq K) (ag 2) ah (az _)) (jh (aI oGt pGt (aE (qLen K) (pLen K) T.z_len bP (aa (ag 0) af)) ah (az _))))) (aw (ay (aF T.D_l_uneven (oA T) hr (aa (ag 0) (aa (ag 3) af))))) aJ) (ak (bi (aI (oInD K) (pIn K) (ag 2) (aG (aa ah (aa ah (aa ah (aa ah (aa ah af)))))) (by with_unfolding_all rfl)) (aw (ay (aF T.D_l_put (vJ T) hr (aa (ag 1) (aa (ag 2) (aa (aF T.D_l_stream (j9 T) hr (aa (ag 3) (aa ah af))) af)))))) aJ) (ak (bi (aI (oEqD K hr.units) (pEq K) (ag 2) ah (az _)) (aw (ay (aF T.D_l_odd (vy T) hr (aa (ag 3) af)))) aJ) (ak (bi (b7 (kD (aI (oEqD K hr.units) (pEq K) (ag 2) ah (az _)) (jh (aI (oNeD K hr.units) (pNe K) (ag 0) (bu (cp af)) (az _))))) (aw (ay (aG (aa ba (aa (aG (aa (aG (aa (bp (oIx K) (pIx K) (ag 0) ah) (aa (ag 1) af))) af)) af))))) aJ) (aw (ay (ag 1))))))))))
theorem zK:FnOk P w K mg base CX0 26 f37 d37 pA (spD K mg rd):=by
 exact T.D_law.F.okD (φ:=vZ) (O':=[]) kX (fun cdv A outer s H E hr=>(ak (aY (i:=1) (by decide) kX.nd (Or.inl rfl) (aF T.D_l_rows (tO T) hr (aa (aO oMod pMod (aF T.D_l_cell_at (dH T) hr (aa (ag 0) (aa ah af))) (aO oPow pPow ah ah)) af))) (ak (aY (i:=2) (by decide) kX.nd (Or.inl rfl) (aF T.D_l_loose (fb T) hr (aa (ag 1) (aa ah (aa ah (aa (aO oMod pMod (aF T.D_l_cell_at (dH T) hr (aa (ag 0) (aa ah af))) (aO oPow pPow ah ah)) af)))))) (ak (aY (i:=3) (by decide) kX.nd (Or.inl rfl) (aO oMod pMod (aO (bG K) (pAdd K) (aO oMulD pMul (aF T.D_l_cell_at (dH T) hr (aa (ag 0) (aa ah af))) ah) ah) ah)) (ak (aY (i:=4) (by decide) kX.nd (Or.inl rfl) (aF T.D_l_thing (rV T) hr (aa (ag 1) (aa (ag 2) (aa (aO oMod pMod (aF T.D_l_cell_at (dH T) hr (aa (ag 0) (aa ah af))) ah) (aa (ag 3) af)))))) (ak (aY (i:=5) (by decide) kX.nd (Or.inl rfl) (fz oIsNot pIsNot (aF T.D_l_good (ue T) hr (aa (ag 4) (aa ah (aa ah af)))) eN (az _))) (ak (aY (i:=6) (by decide) kX.nd (Or.inl rfl) (aF T.D_is_index (hZ T) hr (aa (ag 4) af))) (ak (bi (b7 (io (bX (a7 K (aE (qIsiD K) (pIsi K) T.z_isinstance aH (aa (ag 6) (aa (mj T.z_bool me) af))))) (gT (aI (oNeD K hr.units) (pNe K) (ag 6) (ag 5) (az _))))) (aw (ay oz)) aJ) (aw (ay (fG (fz oIs pIs (aF T.D_is_index (hZ T) hr (aa (ag 2) af)) oz (az _)) (gR (fz (oEqD K hr.units) (pEq K) (aF T.D_is_index (hZ T) hr (aa (ag 4) af)) (ag 6) (az _))))))))))))))
end
open TS (K4 Lt4)
theorem aS {τ:FT} {S T:FS} {δ:Sd} (h:τ δ=.ok true):sIf τ S T δ=S δ:=by rw [Ch,h,aD,Ci,if_pos rfl]
theorem y4 {τ:FT} {S T:FS} {δ:Sd} (h:τ δ=.ok false):sIf τ S T δ=T δ:=by rw [Ch,h,aD,Ci,if_neg Bool.false_ne_true]
theorem aK {S T:FS} {δ δ':Sd} (h:S δ=.ok (.nx δ')):aR S T δ=T δ':=by rw [vD,h,aD,zQ]
theorem aN {S T:FS} {δ:Sd} {d:D} (h:S δ=.ok (.rt d)):aR S T δ=.ok (.rt d):=by rw [vD,h];rfl
theorem au {φ:FE} {δ:Sd} {d:D} (h:φ δ=.ok d):bo φ δ=.ok (.rt d):=by rw [A8,h];rfl
theorem bf {k:Nat} {φ:FE} {δ:Sd} {d:D} (h:φ δ=.ok d):bQ k φ δ=.ok (.nx (δ.set k (some d))):=by rw [BK,h];rfl
theorem qJ {k:Nat} {φ:FE} {δ:Sd} {d:D} (h:φ δ=.ok d) (hk:k < δ.length:=by simp):sOwn k φ δ=.ok (.nx (δ.set k (some d))):=by rw [BA,h,aD,AZ,if_pos hk]
theorem ax {r:R Fl} {d:D} (h:r=.ok (.rt d)):fin r=.ok d:=by rw [h];rfl
theorem skip {τ:FT} {S T:FS} {δ:Sd} (h:τ δ=.ok false):aR (sIf τ S aV) T δ=T δ:=aK ((y4 h).trans rfl)
theorem ac {φ:FE} {α:FA} {δ:Sd} {d:D} {ds:List D} (h:φ δ=.ok d) (h2:α δ=.ok ds):ae φ α δ=.ok (d::ds):=by unfold ae;rw [h,aD,h2];rfl
theorem cq {α:FA} {δ:Sd} {ds:List D} (h:α δ=.ok ds) (hl:ds.length≤100:=by simp):bh α δ=.ok (.tup ds):=by rw [Be,h,aD,zO,if_pos (by lia)]
theorem ce {α:FA} {δ:Sd} {ds:List D} (h:α δ=.ok ds) (hl:ds.length≤100:=by simp):dF α δ=.ok (.lst ds):=by rw [A9,h,aD,zZ,if_pos (by lia)]
theorem am {f:D→D→R D} {φ ψ:FE} {δ:Sd} {a b c:D} (h1:φ δ=.ok a) (h2:ψ δ=.ok b) (h:f a b=.ok c):vOp f φ ψ δ=.ok c:=by rw [v_op,h1,aD,op_k,h2,aD,h]
theorem aZ {φ:FE} {δ:Sd} {b:Bool} (h:φ δ=.ok (.bl b)):qBl φ δ=.ok b:=by rw [q_bl,h];rfl
theorem ao {F:List D→R D} {α:FA} {δ:Sd} {ds:List D} {r:R D} (h:α δ=.ok ds) (hf:F ds=r):al F α δ=r:=by rw [zc,h,aD,hf]
theorem kP {i:Nat} {B:FS} {x:D} {r:List D} {δ δ':Sd} (h:B (δ.set i (some x))=.ok (.nx δ')):forD (.one i) B (x::r) δ=forD (.one i) B r δ':=by
 rw [qE]
 have e:bindD (.one i) x δ=.ok (δ.set i (some x)):=rfl
 rw [e,aD,wL,h,aD,xu]
theorem oy {ι:FA} {g:TgD} {B:FS} {δ δ':Sd} {xs:List D} (h:ι δ=.ok xs) (hf:forD g B xs δ=.ok (.nx δ')):sFor ι g B δ=.ok (.nx δ'):=by rw [yS,h,aD,yV,hf]
theorem sJ {τ:FT} {B:FS} {n:Nat} {δ δ':Sd} (h:τ δ=.ok true) (hb:B δ=.ok (.nx δ')):ck τ B (n+1) δ=ck τ B n δ':=by
 rw [ck,h,aD,if_pos rfl,hb];rfl
theorem xR {τ:FT} {B:FS} {n:Nat} {δ:Sd} (h:τ δ=.ok false):ck τ B (n+1) δ=.ok (.nx δ):=by
 rw [ck,h,aD,if_neg Bool.false_ne_true]
theorem bb {φ:FE} {δ:Sd} {d:D} {b:Bool} (h:φ δ=.ok d) (ht:truD d=.ok b):fK φ δ=.ok b:=by rw [Bs,h,aD,ht]
theorem dJ {τ:FT} {δ:Sd} {b:Bool} (h:τ δ=.ok b):dX τ δ=.ok (!b):=by rw [Bh,h];rfl
theorem uj {τ:FT} {δ:Sd} (h:τ δ=.ok true):dX τ δ=.ok false:=dJ h
theorem yh {τ:FT} {δ:Sd} (h:τ δ=.ok false):dX τ δ=.ok true:=dJ h
theorem jy {τ υ:FT} {δ:Sd} (h:τ δ=.ok true):qOr τ υ δ=.ok true:=by rw [Cj,h];rfl
theorem lm {τ υ:FT} {δ:Sd} {b:Bool} (h:τ δ=.ok false) (h2:υ δ=.ok b):qOr τ υ δ=.ok b:=by rw [Cj,h,aD,BW,if_neg Bool.false_ne_true,h2]
theorem kT {τ υ:FT} {δ:Sd} {b:Bool} (h:τ δ=.ok true) (h2:υ δ=.ok b):qAnd τ υ δ=.ok b:=by rw [Ad,h,aD,Av,if_pos rfl,h2]
theorem mY {τ υ:FT} {δ:Sd} (h:τ δ=.ok false):qAnd τ υ δ=.ok false:=by rw [Ad,h];rfl
theorem eS {φ ψ:FE} {δ:Sd} {d:D} (h:φ δ=.ok (.bl true)) (h2:ψ δ=.ok d):vAnd φ ψ δ=.ok d:=by rw [v_and,h,aD,BP,if_pos rfl,h2]
theorem bN {φ ψ:FE} {δ:Sd} (h:φ δ=.ok (.bl false)):vAnd φ ψ δ=.ok (.bl false):=by rw [v_and,h];rfl
theorem Bf {φ ψ:FE} {δ:Sd} (h:φ δ=.ok (.bl true)):vOr φ ψ δ=.ok (.bl true):=by rw [v_or,h];rfl
theorem Br {φ ψ:FE} {δ:Sd} {d:D} (h:φ δ=.ok (.bl false)) (h2:ψ δ=.ok d):vOr φ ψ δ=.ok d:=by rw [v_or,h,aD,or_k,if_neg Bool.false_ne_true,h2]
theorem u7 {φ:FE} {δ:Sd} {b:Bool} (h:φ δ=.ok (.bl b)):vNot φ δ=.ok (.bl (!b)):=by rw [v_not,h];rfl
theorem vh {i:Nat} {ε:FE} {δ:Sd} {xs:List D} {d:D} (h:δ[i]?=some (some (.lst xs))) (he:ε δ=.ok d) (hl:xs.length < 1000):dW i ε δ=.ok (.nx (δ.set i (some (.lst (xs++[d]))))):=by
 unfold dW
 rw [h]
 dsimp only
 rw [he,aD,if_pos (by lia)]
theorem AL {i:Nat} {ε:FE} {δ:Sd} {xs ys:List D} {d:D} (h:δ[i]?=some (some (.lst xs))) (he:ε δ=.ok d) (hd:seqOf d=some ys) (hl:xs.length+ys.length≤1000000):jx i ε δ=.ok (.nx (δ.set i (some (.lst (xs++ys))))):=by
 unfold jx
 rw [h]
 dsimp only
 rw [he,aD,hd]
 dsimp only
 rw [if_pos hl]
theorem rZ {φ:FE} {l u:Sd→R (Option Int)} {δ:Sd} {a d:D} {lo hi:Option Int} (h:φ δ=.ok a) (h1:l δ=.ok lo) (h2:u δ=.ok hi) (hd:slD a lo hi=.ok d):vSl slD φ l u δ=.ok d:=by
 rw [Ck,h,aD,zG,h1,aD,zJ,h2,aD,zD,hd]
theorem cO {φ:FE} {δ:Sd} {i:Int} (h:φ δ=.ok (.int i)):bU φ δ=.ok (some i):=by rw [zq,h];rfl
theorem cR {φ:FE} {δ:Sd} {d:D} {xs:List D} (h:φ δ=.ok d) (hx:i9 d=.ok xs):jE φ δ=.ok xs:=by rw [Bd,h,aD,hx]
theorem sK {φ:FE} {δ:Sd} {n:Nat} (h:φ δ=.ok (.int (n:Int))) (hn:n≤1000000):iRng1D (ae φ aq) δ=.ok (cS 0 n):=by
 rw [AN,ac h rfl,aD,Bb (by lia),Int.toNat_natCast]
theorem bI {ix:List (Option Nat)} {ι:FA} {t:TgD} {τ:FT} {ε:FE} {δ:Sd} {xs:List D} {d:D} (h:ι δ=.ok xs) (hc:bE t τ ε (captD ix δ) xs=.ok d):cC ix ι t τ ε δ=.ok d:=by rw [zb,h,aD,hc]
theorem AD {β:Type} {ε:FE} {rest:Sd} (u f:β→D) (xs:List β) (h:∀ x∈xs,ε (some (u x)::rest)=.ok (f x)) (hl:xs.length≤1000):bE (.one 0) qYes ε (none::rest) (xs.map u)=.ok (.lst (xs.map f)) :=
 cg u f rfl (by lia) h
theorem oJ {β:Type} {τ:FT} {ε:FE} {rest:Sd} (u f:β→D) (p:β→Bool) (xs:List β) (h:∀ x∈xs,τ (some (u x)::rest)=.ok (p x)) (h2:∀ x∈xs,p x=true→ε (some (u x)::rest)=.ok (f x)) (hl:xs.length≤1000):bE (.one 0) τ ε (none::rest) (xs.map u)=.ok (.lst ((xs.filter p).map f)):=by
 refine jj rfl (by rw [List.length_map];lia) ?_
 clear hl
 induction xs with
 | nil=>rfl
 | cons x r ih =>
  have h1:=h x (by simp)
  have h3:=h2 x (by simp)
  have h4:=ih (fun y hy=>h y (List.mem_cons_of_mem _ hy)) fun y hy=>h2 y (List.mem_cons_of_mem _ hy)
  show (τ (some (u x)::rest)).bind _=_
  rw [h1,aD]
  cases e:p x with
  | true =>
   rw [if_pos rfl,List.filter_cons_of_pos e]
   show (ε (some (u x)::rest)).bind _=_
   rw [h3 e,aD,h4]
   rfl
  | false=>rw [if_neg Bool.false_ne_true,List.filter_cons_of_neg (by rw [e];exact Bool.false_ne_true)];exact h4
theorem bM {φ:FE} {δ:Sd} {a d:D} (h:φ δ=.ok a) (hl:lenD [a]=.ok d):al lenD (ae φ aq) δ=.ok d:=ao (ac h rfl) hl
theorem yI {β:Type} (f:β→D) (xs:List β) {i:Nat} {x:β} (h:xs[i]?=some x):ixD (.lst (xs.map f)) (.int (i:Int))=.ok (f x):=sG (ca (by rw [List.getElem?_map,h];rfl))
theorem AW {β:Type} (f:β→D) (xs:List β) {i:Nat} {x:β} (h:xs[i]?=some x):ixD (.tup (xs.map f)) (.int (i:Int))=.ok (f x):=B2 (ca (by rw [List.getElem?_map,h];rfl))
theorem nF {β:Type} (f:β→D) (xs:List β):lenD [.lst (xs.map f)]=.ok (.int (xs.length:Int)):=by rw [wv,List.length_map]
theorem wY {β:Type} (f:β→D) (xs:List β):lenD [.tup (xs.map f)]=.ok (.int (xs.length:Int)):=by rw [kG,List.length_map]
theorem kH {φ ψ:FE} {δ:Sd} {i j:Int} (h1:φ δ=.ok (.int i)) (h2:ψ δ=.ok (.int j)) (h:-(2 ^ 64) < j∧j < 2 ^ 64:=by decide):vOp mulD φ ψ δ=.ok (.int (i*j)):=am h1 h2 (mul_r h)
theorem aU {φ ψ:FE} {δ:Sd} {i j:Int} (h1:φ δ=.ok (.int i)) (h2:ψ δ=.ok (.int j)) (h:0 < j:=by decide):vOp modD φ ψ δ=.ok (.int (i % j)):=am h1 h2 (B7 h)
theorem cf {φ ψ:FE} {δ:Sd} {i j:Int} (h1:φ δ=.ok (.int i)) (h2:ψ δ=.ok (.int j)) (h:0 < j∧j < 1073741824:=by decide):vOp divD φ ψ δ=.ok (.int (i/j)):=am h1 h2 (Bj h)
theorem bO {φ ψ:FE} {δ:Sd} {i j:Int} (h1:φ δ=.ok (.int i)) (h2:ψ δ=.ok (.int j)):vOp addD φ ψ δ=.ok (.int (i+j)):=am h1 h2 rfl
theorem dG {φ ψ:FE} {δ:Sd} {i j:Int} (h1:φ δ=.ok (.int i)) (h2:ψ δ=.ok (.int j)):vOp subD φ ψ δ=.ok (.int (i - j)):=am h1 h2 rfl
theorem cL {φ ψ:FE} {δ:Sd} {i j:Int} (h1:φ δ=.ok (.int i)) (h2:ψ δ=.ok (.int j)):qBl (vOp eqD φ ψ) δ=.ok (decide (i=j)):=aZ (am h1 h2 nJ)
theorem uC {τ:FT} {φ ψ:FE} {δ:Sd} {d:D} (h:τ δ=.ok true) (h2:φ δ=.ok d):vIf τ φ ψ δ=.ok d:=by rw [yZ,h,aD,yN,if_pos rfl,h2]
theorem uf {τ:FT} {φ ψ:FE} {δ:Sd} {d:D} (h:τ δ=.ok false) (h2:ψ δ=.ok d):vIf τ φ ψ δ=.ok d:=by rw [yZ,h,aD,yN,if_neg Bool.false_ne_true,h2]
theorem Bu {φ ψ:FE} {δ:Sd} {a b:Bool} (h:φ δ=.ok (.bl a)) (h2:ψ δ=.ok (.bl b)):vOr φ ψ δ=.ok (.bl (a||b)):=by
 cases a with
 | true=>exact Bf h
 | false=>exact Br h h2
theorem jD {φ ψ:FE} {δ:Sd} {a b:Bool} (h:φ δ=.ok (.bl a)) (h2:ψ δ=.ok (.bl b)):vAnd φ ψ δ=.ok (.bl (a&&b)):=by
 cases a with
 | true=>exact eS h h2
 | false=>exact bN h
theorem dU {φ:FE} {δ:Sd} {d:D} {C:String} {b:Bool} (h:φ δ=.ok d) (hd:iq [d,.ty C]=.ok (.bl b)):al iq (ae φ (ae (vC (.ty C)) aq)) δ=.ok (.bl b):=ao (ac h (ac rfl rfl)) hd
theorem Az {T C:String} {b:Bool} (h:known C=true∧subT T C=b):(if known C=true then R.ok (D.bl (subT T C)) else .no)=.ok (.bl b):=by rw [if_pos h.1,h.2]
def cell (ns:List Int) (k:Int):Int:=ns.getD k.toNat 0
theorem ma (ns:List Int) (k:Int) (h0:0≤k):cc [.lst (ns.map D.int),.int k]=.ok (.int (cell ns k)):=by
 rw [oC,fI]
 obtain ⟨n,rfl⟩:∃ n:Nat,k=(n:Int):=⟨k.toNat,by lia⟩
 have hq:qBl (vOp ltD (ai 1) (al lenD (ae (ai 0) aq))) [some (.lst (ns.map D.int)),some (.int (n:Int))]=.ok (decide ((n:Int) < (ns.length:Int))):=aZ (am rfl (bM rfl (nF _ _)) sv)
 unfold cell
 rw [Int.toNat_natCast,List.getD_eq_getElem?_getD]
 by_cases h:n < ns.length
 ·rw [decide_eq_true (by lia)] at hq
  rw [List.getElem?_eq_getElem h]
  exact ax (aN ((aS hq).trans (au (am rfl rfl (yI _ _ (List.getElem?_eq_getElem h))))))
 ·rw [decide_eq_false (by lia)] at hq
  rw [List.getElem?_eq_none (by lia)]
  exact ax ((skip hq).trans (au rfl))
abbrev tabA:Str:=Str.ofString " !\"#$&'()*+,-./0123456789:;<=>?@ABCDEFGHIJKLMNOPQRSTUVWXYZ[\\]^_`"
abbrev tabS:Str:=tabA++Str.ofString "abcdefghijklmnopqrstuvwxyz{|}~"
def tab:List Nat:=tabS.cps.toList
theorem xf:tab.length=94:=by decide +kernel
def signOf (i:Int):Nat:=tab.getD (i % 94).toNat 0
theorem wR (i:Int):tab[(i % 94).toNat]?=some (signOf i):=by
 have hk:(i % 94).toNat < tab.length:=by rw [xf];lia
 unfold signOf
 rw [List.getD_eq_getElem?_getD,List.getElem?_eq_getElem hk]
 rfl
theorem zp (i:Int):atI tabS.cps.toList (i % 94)=some (signOf i):=by
 have h:=ca (xs:=tab) (wR i)
 rw [show (((i % 94).toNat:Nat):Int)=i % 94 by lia] at h
 exact h
theorem zh:∀ c∈tab,32≤c∧c≤126:=by decide +kernel
theorem xY (i:Int):32≤signOf i∧signOf i≤126:=zh _ (List.mem_of_getElem? (wR i))
def Vl (n:Nat):D→Prop
 | .non=>True
 | .int i=>-1000000000000000000 < i∧i < 1000000000000000000
 | .str z=>z.length≤n∧∀ c∈z.cps.toList,32≤c∧c≤126
 | _=>False
theorem Vl.mono {n m:Nat} {d:D} (h:Vl n d) (hm:n≤m):Vl m d:=by
 cases d with
 | str z=>exact ⟨Nat.le_trans h.1 hm,h.2⟩
 | non=>exact True.intro
 | int _=>exact h
 | _=>exact h.elim
def cmpI (a b:Int):Int:=if a=b then 0 else if a < b then -1 else 1
def cmpL (a b:List Nat):Int:=if a=b then 0 else if a < b then -1 else 1
def cmp:D→D→Int
 | .non,.non=>0
 | .non,_=>-1
 | _,.non=>1
 | .int a,.int b=>cmpI a b
 | .int _,_=>-1
 | _,.int _=>1
 | .str a,.str b=>cmpL a.cps.toList b.cps.toList
 | _,_=>0
def kx:D→Int
 | .non=>0
 | .int _=>1
 | _=>2
def kw (i:Int):Str:=if i=0 then "none" else if i=1 then "number" else "text"
theorem kind {d:D} (h:Vl 100 d):cu [d]=.ok (.str (kw (kx d))):=by
 rw [tm,i7]
 cases d with
 | non=>exact ax (aN ((aS (aZ (am rfl rfl rfl))).trans (au rfl)))
 | int i=>exact ax ((skip (aZ (am rfl rfl rfl))).trans (au (uf (bb (dU rfl (yi.trans (Az (by decide +kernel)))) rfl) rfl)))
 | str z=>exact ax ((skip (aZ (am rfl rfl rfl))).trans (au (uC (bb (dU rfl (xC.trans (Az (by decide +kernel)))) rfl) rfl)))
 | _=>exact h.elim
theorem wj (d:D):kx d=0∨kx d=1∨kx d=2:=by
 unfold kx;split
 ·exact .inl rfl
 ·exact .inr (.inl rfl)
 ·exact .inr (.inr rfl)
theorem Ce (i:Int) (h:i=0∨i=1∨i=2):tIxD lY [.str (kw i)]=.ok (.int i):=by
 rcases h with rfl|rfl|rfl <;> with_unfolding_all rfl
theorem BF {i j:Int} (h:i=0∨i=1∨i=2) (g:j=0∨j=1∨j=2):decide (kw i=kw j)=decide (i=j):=by
 rcases h with rfl|rfl|rfl <;> rcases g with rfl|rfl|rfl <;> decide +kernel
theorem vd {a b:Str} (h:a.cps.toList=b.cps.toList):a=b:=by
 cases a;cases b
 congr 1
 exact Array.toList_inj.mp h
theorem wO {φ:FE} {δ:Sd} {k d r:D} (h:φ δ=.ok d) (hr:tIxD k [d]=.ok r):vTIx k (ae φ aq) δ=.ok r:=by rw [A4,ac h rfl,aD,hr]
theorem wM {d e:D} (hd:Vl 100 d) (he:Vl 100 e) (h:¬ kx d=kx e):cmp d e=if kx d < kx e then -1 else 1:=by
 cases d with
 | non=>cases e with
  | non=>exact absurd rfl h
  | int j=>rfl
  | str z=>rfl
  | _=>exact he.elim
 | int i=>cases e with
  | non=>rfl
  | int j=>exact absurd rfl h
  | str z=>rfl
  | _=>exact he.elim
 | str x=>cases e with
  | non=>rfl
  | int j=>rfl
  | str z=>exact absurd rfl h
  | _=>exact he.elim
 | _=>exact hd.elim
theorem compare (d e:D) (hd:Vl 100 d) (he:Vl 100 e):jc [d,e]=.ok (.int (cmp d e)):=by
 rw [ug,iz]
 have hq:qBl (vOp neD (al cu (ae (ai 0) aq)) (al cu (ae (ai 1) aq))) [some d,some e]=.ok (!decide (kx d=kx e)):=aZ (am (ao (ac rfl rfl) (kind hd)) (ao (ac rfl rfl) (kind he)) (xo.trans (by rw [BF (wj d) (wj e)])))
 by_cases h:kx d=kx e
 ·rw [decide_eq_true h] at hq
  refine ax ((skip hq).trans ?_)
  cases d with
  | non=>cases e with
   | non=>exact aN ((aS (aZ (am rfl rfl Cd))).trans (au rfl))
   | int j=>cases h
   | str z=>cases h
   | _=>exact he.elim
  | int i=>cases e with
   | non=>cases h
   | int j =>
    show _=R.ok (Fl.rt (.int (cmpI i j)))
    unfold cmpI
    by_cases q:i=j
    ·rw [if_pos q];exact aN ((aS (aZ (am rfl rfl (nJ.trans (by rw [decide_eq_true q]))))).trans (au rfl))
    ·rw [if_neg q]
     refine (skip (aZ (am rfl rfl (nJ.trans (by rw [decide_eq_false q]))))).trans (au ?_)
     by_cases q2:i < j
     ·rw [if_pos q2];exact uC (aZ (am rfl rfl (sv.trans (by rw [decide_eq_true q2])))) rfl
     ·rw [if_neg q2];exact uf (aZ (am rfl rfl (sv.trans (by rw [decide_eq_false q2])))) rfl
   | str z=>cases h
   | _=>exact he.elim
  | str x=>cases e with
   | non=>cases h
   | int j=>cases h
   | str z =>
    show _=R.ok (Fl.rt (.int (cmpL x.cps.toList z.cps.toList)))
    unfold cmpL
    by_cases q:x=z
    ·rw [if_pos (by rw [q])];exact aN ((aS (aZ (am rfl rfl (lq.trans (by rw [decide_eq_true q]))))).trans (au rfl))
    ·rw [if_neg fun w=>q (vd w)]
     refine (skip (aZ (am rfl rfl (lq.trans (by rw [decide_eq_false q]))))).trans (au ?_)
     by_cases q2:x.cps.toList < z.cps.toList
     ·rw [if_pos q2];exact uC (aZ (am rfl rfl (Cl.trans (by rw [decide_eq_true q2])))) rfl
     ·rw [if_neg q2];exact uf (aZ (am rfl rfl (Cl.trans (by rw [decide_eq_false q2])))) rfl
   | _=>exact he.elim
  | _=>exact hd.elim
 ·rw [decide_eq_false h] at hq
  refine ax (aN ((aS hq).trans (au ?_)))
  rw [wM hd he h]
  have hl:qBl w22x [some d,some e]=.ok (decide (kx d < kx e)):=aZ (am (wO (ao (ac rfl rfl) (kind hd)) (Ce _ (wj d))) (wO (ao (ac rfl rfl) (kind he)) (Ce _ (wj e))) sv)
  by_cases q:kx d < kx e
  ·rw [decide_eq_true q] at hl;rw [if_pos q];exact uC hl rfl
  ·rw [decide_eq_false q] at hl;rw [if_neg q];exact uf hl rfl
theorem qS (x:Int):∃ z:Str,vSM joinD (vC (.str "")) (ae (cC [none,some 1,some 0] (iRng1D (ae (vOp modD (vOp divD (ai 0) (vC (.int 64))) (vC (.int 41))) aq)) (.one 0) qYes w6x) aq) [some (.int x),some (.str tabS),some (.int (x % 8))]=.ok (.str z)∧Vl 40 (.str z):=by
 obtain ⟨n,en,hn⟩:∃ n:Nat,x/64 % 41=(n:Int)∧n < 41:=⟨(x/64 % 41).toNat,by lia,by lia⟩
 have e:bE (.one 0) qYes w6x [none,some (.str tabS),some (.int x)] (cS 0 n)=.ok (.lst ((List.range n).map fun (k:Nat)=>D.str ⟨#[signOf (x/8/(0+(k:Int)+1)+(0+(k:Int)))]⟩)):=by
  refine AD _ _ _ (fun k hk=>?_) (by rw [List.length_range];lia)
  have hk':=List.mem_range.mp hk
  exact am rfl (aU (bO (cf (cf rfl rfl) (bO rfl rfl) (by lia)) rfl) rfl) (ix_s (by decide +kernel) (zp _))
 have hc:((List.range n).map fun (k:Nat)=>(⟨#[signOf (x/8/(0+(k:Int)+1)+(0+(k:Int)))]⟩:Str))=(((List.range n).map fun (k:Nat)=>signOf (x/8/(0+(k:Int)+1)+(0+(k:Int)))).map fun c=>(⟨#[c]⟩:Str)):=by rw [List.map_map];rfl
 have e0:(Str.ofString "").length=0:=by decide +kernel
 have ej:=AK (z:="") (strs_map (fun (k:Nat)=>(⟨#[signOf (x/8/(0+(k:Int)+1)+(0+(k:Int)))]⟩:Str)) (List.range n)) (by rw [hc,ux,e0,List.length_map,List.length_map,List.length_range];lia)
 refine ⟨Txt.join "" ((List.range n).map fun (k:Nat)=>(⟨#[signOf (x/8/(0+(k:Int)+1)+(0+(k:Int)))]⟩:Str)),?_,?_,fun d hd=>?_⟩
 ·rw [v_sm]
  show (smK joinD _ _ (.str ""))=_
  rw [sm_k,ac (bI (sK (n:=n) ((aU (cf rfl rfl) rfl).trans (by rw [en])) (by lia)) e) rfl,aD]
  exact ej
 ·rw [str_len,hc,lK,List.length_map,List.length_range]
  lia
 ·rw [hc,lK] at hd
  obtain ⟨k,_,rfl⟩:=List.mem_map.mp hd
  exact xY _
theorem four {a b c d i:Int} (h0:0≤i) (h1:i < 4):∃ m,ixD (.lst [.int a,.int b,.int c,.int d]) (.int i)=.ok (.int m)∧(m=a∨m=b∨m=c∨m=d):=by
 rcases (show i=0∨i=1∨i=2∨i=3 by lia) with rfl|rfl|rfl|rfl
 ·exact ⟨_,pC,by simp⟩
 ·exact ⟨_,wd,by simp⟩
 ·exact ⟨_,xL,by simp⟩
 ·exact ⟨_,zr,by simp⟩
theorem eight {i:Int} (h0:0≤i) (h1:i < 8):∃ z:Str,ixD (.lst [.str "",.str "a",.str "ab",.str "b",.str "aB",.str " ",.str "~",.str "a "]) (.int i)=.ok (.str z)∧Vl 40 (.str z):=by
 rcases (show i=0∨i=1∨i=2∨i=3∨i=4∨i=5∨i=6∨i=7 by lia) with rfl|rfl|rfl|rfl|rfl|rfl|rfl|rfl
 ·exact ⟨_,pC,by decide +kernel,by decide +kernel⟩
 ·exact ⟨_,wd,by decide +kernel,by decide +kernel⟩
 ·exact ⟨_,xL,by decide +kernel,by decide +kernel⟩
 ·exact ⟨_,zr,by decide +kernel,by decide +kernel⟩
 ·exact ⟨_,B0,by decide +kernel,by decide +kernel⟩
 ·exact ⟨_,Bc,by decide +kernel,by decide +kernel⟩
 ·exact ⟨_,BS,by decide +kernel,by decide +kernel⟩
 ·exact ⟨_,A6,by decide +kernel,by decide +kernel⟩
theorem pow18 {δ:Sd}:vOp powD (vC (.int 10)) (vC (.int 18)) δ=.ok (.int 1000000000000000000):=am rfl rfl ((ye (by decide)).trans rfl)
theorem pow9 {δ:Sd}:vOp powD (vC (.int 10)) (vC (.int 9)) δ=.ok (.int 1000000000):=am rfl rfl ((ye (by decide)).trans rfl)
def GoodV (r:R Fl):Prop:=∃ d,fin r=.ok d∧Vl 40 d
theorem ud {τ:FT} {φ:FE} {T:FS} {δ:Sd} {b:Bool} (h:τ δ=.ok b) (h1:b=true→∃ d,φ δ=.ok d∧Vl 40 d) (h2:b=false→GoodV (T δ)):GoodV (aR (sIf τ (bo φ) aV) T δ):=by
 cases b with
 | true=>obtain ⟨d,e,v⟩:=h1 rfl;exact ⟨d,ax (aN ((aS h).trans (au e))),v⟩
 | false=>rw [skip h];exact h2 rfl
theorem value (x:Int) (h0:0≤x) (h1:x < 10 ^ 12):∃ d,iX [.int x]=.ok d∧Vl 40 d:=by
 rw [uE,iv]
 show GoodV _
 have e2:addD (.str tabA) (.str "abcdefghijklmnopqrstuvwxyz{|}~")=.ok (.str tabS):=BO.trans (if_pos (by decide +kernel))
 rw [aK (bf rfl),aK (bf (am rfl rfl e2)),aK (bf (aU rfl rfl))]
 refine ud (cL rfl rfl) (fun _=>⟨_,rfl,True.intro⟩) fun h2=>?_
 refine ud (aZ (am rfl rfl sv)) (fun _=>⟨_,dG (aU (cf rfl rfl) rfl) rfl,by show _ < _∧_ < _;lia⟩) fun h3=>?_
 refine ud (cL rfl rfl) (fun _=>?_) fun h4=>?_
 ·obtain ⟨m,em,hm⟩:=four (a:=1000000000000000000 - 1) (b:=1 - 1000000000000000000) (c:=1000000000) (d:=-10) (i:=x/8 % 4) (by lia) (by lia)
  exact ⟨_,am (ce (ac (dG pow18 rfl) (ac (dG rfl pow18) (ac pow9 (ac rfl rfl))))) (aU (cf rfl rfl) rfl) em,by show _ < m∧m < _;lia⟩
 refine ud (cL rfl rfl) (fun _=>⟨_,dG (aU (kH (am rfl rfl (Bm (by lia))) rfl) (dG (kH rfl pow18) rfl)) (dG pow18 rfl),by show _ < _∧_ < _;lia⟩) fun h5=>?_
 refine ud (cL rfl rfl) (fun _=>?_) fun h6=>?_
 ·obtain ⟨z,ez,hz⟩:=eight (i:=x/8 % 8) (by lia) (by lia)
  exact ⟨_,am (ce (ac rfl (ac rfl (ac rfl (ac rfl (ac rfl (ac rfl (ac rfl (ac rfl rfl))))))))) (aU (cf rfl rfl) rfl) ez,hz⟩
 obtain ⟨z,ez,hz⟩:=qS x
 exact ⟨_,ax (au ez),hz⟩
theorem three {i:Int} (h0:0≤i) (h1:i < 3):∃ m,ixD (.lst [.int 9,.int 60,.int 1000000000]) (.int i)=.ok (.int m)∧(0 < m∧m≤1000000000):=by
 rcases (show i=0∨i=1∨i=2 by lia) with rfl|rfl|rfl
 ·exact ⟨_,pC,by decide⟩
 ·exact ⟨_,wd,by decide⟩
 ·exact ⟨_,xL,by decide⟩
theorem entry (x:Int) (h0:0≤x) (h1:x < 10 ^ 12):∃ d n,cr [.int x]=.ok (.tup [d,.int n])∧Vl 40 d∧1≤n∧n≤1000000000:=by
 obtain ⟨d,hd,hv⟩:=value (x/3) (by lia) (by lia)
 obtain ⟨m,em,hm,hM⟩:=three (i:=x % 3) (by lia) (by lia)
 rw [tw,iZ]
 have:=Int.emod_nonneg (x*69621 % 2147483647) (show m≠0 by lia)
 have:=Int.emod_lt_of_pos (x*69621 % 2147483647) hm
 exact ⟨d,1+x*69621 % 2147483647 % m,ax (au (cq (ac (ao (ac (cf rfl rfl) rfl) hd) (ac (bO rfl (aU (aU (kH rfl rfl) rfl) (am (ce (ac rfl (ac rfl (ac pow9 rfl)))) (aU rfl rfl) em) hm)) rfl)))),hv,by lia,by lia⟩
def ahead (d:D) (n:Int) (e:D) (m:Int):Bool:=decide (cmp d e < 0)||(decide (cmp d e=0)&&decide (n < m))
theorem pz (d e:D) (n m:Int) (hd:Vl 40 d) (he:Vl 40 e):bL [.tup [d,.int n],.tup [e,.int m]]=.ok (.bl (ahead d n e m)):=by
 rw [mm,cV]
 exact ax ((aK (bf (ao (ac (am rfl rfl bW) (ac (am rfl rfl bW) rfl)) (compare d e (hd.mono (by decide)) (he.mono (by decide)))))).trans (au (Bu (am rfl rfl sv) (jD (am rfl rfl nJ) (am (am rfl rfl cb) (am rfl rfl cb) sv)))))
def keyOf:D→Int→List D
 | .non,n=>[.int 0,.int 0,.str "",.int n]
 | .str z,n=>[.int 2,.int 0,.str z,.int n]
 | .int i,n=>[.int 1,.int i,.str "",.int n]
 | _,_=>[]
theorem key (d:D) (n:Int) (hd:Vl 40 d):b8 [.tup [d,.int n]]=.ok (.tup (keyOf d n)):=by
 rw [x5,mv]
 cases d with
 | non=>exact ax (aN ((aS (aZ (am (am rfl rfl bW) rfl rfl))).trans (au (cq (ds:=[.int 0,.int 0,.str "",.int n]) (ac rfl (ac rfl (ac rfl (ac (am rfl rfl cb) rfl))))))))
 | int i=>exact ax ((skip (aZ (am (am rfl rfl bW) rfl rfl))).trans ((skip (bb (dU (am rfl rfl bW) (yi.trans (Az (by decide +kernel)))) rfl)).trans (au (cq (ds:=[.int 1,.int i,.str "",.int n]) (ac rfl (ac (am rfl rfl bW) (ac rfl (ac (am rfl rfl cb) rfl))))))))
 | str z=>exact ax ((skip (aZ (am (am rfl rfl bW) rfl rfl))).trans (aN ((aS (bb (dU (am rfl rfl bW) (xC.trans (Az (by decide +kernel)))) rfl)).trans (au (cq (ds:=[.int 2,.int 0,.str z,.int n]) (ac rfl (ac rfl (ac (am rfl rfl bW) (ac (am rfl rfl cb) rfl)))))))))
 | _=>exact hd.elim
theorem sok (x:Str) (h:∀ c∈x.cps.toList,32≤c∧c≤126):PyData.strOk x=true:=by
 show x.cps.all (· < 0x110000)=true
 rw [← Array.all_toList,List.all_eq_true]
 intro c hc
 have:=h c hc
 simp
 lia
def ip (k:K4):D:=if k.1=0 then .non else if k.1=1 then .int k.2.1 else .str ⟨k.2.2.1.toArray⟩
theorem un (k:K4):av k=.tup [ip k,.int k.2.2.2]:=by
 unfold av ip
 split
 ·rfl
 ·split <;> rfl
structure Ok (k:K4):Prop where
 v:Vl 40 (ip k)
 e:entKey (av k)=some k
 b:1≤k.2.2.2∧k.2.2.2≤1000000000
theorem Ok.of {v:D} {n:Int} {k:K4} (h:entKey (.tup [v,.int n])=some k) (hv:Vl 40 v) (hn:1≤n∧n≤1000000000):Ok k:=by
 have e:=iW h
 have e2:=e
 rw [un] at e2
 have:ip k=v:=by injection e2 with e3;injection e3
 have e4:k.2.2.2=n:=by injection e2 with e3;injection e3 with _ e3;injection e3 with e3;injection e3
 exact ⟨this ▸ hv,e ▸ h,e4 ▸ hn⟩
theorem Ok.make (v:D) (n:Int) (hv:Vl 40 v) (hn:1≤n∧n≤1000000000):∃ k,Ok k∧av k=.tup [v,.int n]:=by
 cases v with
 | non=>exact ⟨_,Ok.of rfl hv hn,iW rfl⟩
 | int i=>exact ⟨_,Ok.of rfl hv hn,iW rfl⟩
 | str z=>exact ⟨_,Ok.of rfl hv hn,iW rfl⟩
 | _=>exact hv.elim
theorem Ok.inj {k l:K4} (h:Ok k) (g:Ok l) (e:av k=av l):k=l:=Option.some.inj (h.e.symm.trans ((congrArg entKey e).trans g.e))
theorem Ok.key {k:K4} (h:Ok k):keyK (b8 [av k])=some k:=by
 have e:=h.e
 rw [un] at e ⊢
 rw [T23.key _ _ h.v]
 rw [← e]
 have hv:=h.v
 cases q:ip k with
 | non=>rfl
 | int i=>rfl
 | str z=>rfl
 | _=>rw [q] at hv;exact hv.elim
theorem keys:∀ {l:List K4},(∀ k∈l,Ok k)→keysG keyK b8 (l.map av)=some l
 | [],_=>rfl
 | k::r,h=>by
  have hk:=h k (by simp)
  rw [List.map_cons,keysG,hk.e,keys fun x hx=>h x (List.mem_cons_of_mem _ hx)]
  dsimp only
  rw [if_pos hk.key]
def pyV:D→PyData
 | .int i=>.int i
 | .str z=>.str z
 | _=>.none
theorem zN {v:D} (h:Vl 40 v):toPy v=some (pyV v):=by
 cases v with
 | non=>rfl
 | int i=>rfl
 | str z=>rfl
 | _=>exact h.elim
theorem Bz {v:D} (h:Vl 40 v):(pyV v).canLay0=true∧(pyV v).depth=0:=by
 cases v with
 | non=>exact ⟨rfl,rfl⟩
 | int i=>exact ⟨rfl,rfl⟩
 | str z=>exact ⟨sok z h.2,rfl⟩
 | _=>exact h.elim
def eqV:D→D→Bool
 | .non,.non=>true
 | .int i,.int j=>decide (i=j)
 | .str x,.str z=>decide (x=z)
 | _,_=>false
theorem B4 {v w:D} (h:Vl 40 v) (g:Vl 40 w):PyData.eqv (pyV v) (pyV w)=eqV v w:=by
 cases v with
 | non=>cases w with
  | non=>rfl
  | int i=>rfl
  | str z=>rfl
  | _=>exact g.elim
 | int i=>cases w with
  | non=>rfl
  | int j=>show (i==j)=decide (i=j);first|rfl|(rw [Bool.eq_iff_iff];simp)
  | str z=>rfl
  | _=>exact g.elim
 | str x=>cases w with
  | non=>rfl
  | int i=>rfl
  | str z=>show (x==z)=decide (x=z);first|rfl|(rw [Bool.eq_iff_iff];simp)
  | _=>exact g.elim
 | _=>exact h.elim
theorem wn {v:D} (h:Vl 40 v):eqV v v=true:=by
 cases v with
 | non=>rfl
 | int i=>exact decide_eq_true rfl
 | str z=>exact decide_eq_true rfl
 | _=>exact h.elim
theorem z7 {v w:D} (hv:Vl 40 v) (hw:Vl 40 w) (h:v≠w):eqV v w=false:=by
 cases v with
 | non=>cases w with
  | non=>exact absurd rfl h
  | int i=>rfl
  | str z=>rfl
  | _=>exact hw.elim
 | int i=>cases w with
  | non=>rfl
  | int j=>exact decide_eq_false fun z=>h (congrArg D.int z)
  | str z=>rfl
  | _=>exact hw.elim
 | str x=>cases w with
  | non=>rfl
  | int i=>rfl
  | str z=>exact decide_eq_false fun q=>h (congrArg D.str q)
  | _=>exact hw.elim
 | _=>exact hv.elim
def pyK (k:K4):PyData:=.tuple [pyV (ip k),.int k.2.2.2]
theorem Ok.py {k:K4} (h:Ok k):toPy (av k)=some (pyK k):=by
 rw [un,toPy,toPys,zN h.v];rfl
theorem Ok.lay {k:K4} (h:Ok k):(pyK k).canLay0=true∧(pyK k).depth=1:=by
 obtain ⟨h1,h2⟩:=Bz h.v
 unfold pyK
 rw [PyData.canLay0,PyData.canLayAll0,h1,PyData.depth,PyData.depthAll,h2]
 exact ⟨rfl,rfl⟩
theorem Ok.shaped {k:K4} (h:Ok k):SeqAt.shaped (pyK k)=true:=by
 unfold SeqAt.shaped
 rw [h.lay.1,decide_eq_true (by rw [h.lay.2];lia)]
 rfl
theorem Ok.eqv {k l:K4} (h:Ok k) (g:Ok l):PyData.eqv (pyK k) (pyK l)=decide (k=l):=by
 show (PyData.eqv (pyV (ip k)) (pyV (ip l))&&((k.2.2.2==l.2.2.2)&&true))=_
 rw [B4 h.v g.v]
 by_cases e:k=l
 ·subst e;rw [wn h.v];simp
 ·rw [decide_eq_false e]
  by_cases q:ip k=ip l
  ·by_cases q2:k.2.2.2=l.2.2.2
   ·exact absurd (h.inj g (by rw [un,un,q,q2])) e
   ·simp [q2]
  ·rw [z7 h.v g.v q];rfl
theorem Ok.deep {k l:K4} (h:Ok k) (g:Ok l):eqO (av k) (av l)=some (decide (k=l)):=by
 have e:eqO (av k) (av l)=deepEq (av k) (av l):=by rw [un,un];rfl
 rw [e,deepEq,h.py,g.py]
 dsimp only
 rw [if_pos ⟨h.shaped,g.shaped⟩,h.eqv g]
theorem Ok.ne {k l:K4} (h:Ok k) (g:Ok l):neD (av k) (av l)=.ok (.bl (!decide (k=l))):=by
 unfold neD;rw [h.deep g];rfl
theorem pys:∀ {ls:List K4},(∀ k∈ls,Ok k)→toPys (ls.map av)=some (ls.map pyK)
 | [],_=>rfl
 | k::r,h=>by
  rw [List.map_cons,toPys,(h k (by simp)).py,pys fun x hx=>h x (List.mem_cons_of_mem _ hx)];rfl
theorem depths:∀ {ls:List K4},(∀ k∈ls,Ok k)→PyData.canLayAll0 (ls.map pyK)=true∧PyData.depthAll (ls.map pyK)≤1
 | [],_=>⟨rfl,Nat.zero_le _⟩
 | k::r,h=>by
  have hk:=(h k (by simp)).lay
  obtain ⟨h1,h2⟩:=depths fun x hx=>h x (List.mem_cons_of_mem (a:=x) _ hx)
  rw [List.map_cons,PyData.canLayAll0,PyData.depthAll,hk.1,h1,hk.2]
  exact ⟨rfl,Nat.max_le.mpr ⟨Nat.le_refl _,h2⟩⟩
theorem v6 {ls:List K4} (h:∀ k∈ls,Ok k):eqO (.lst (ls.map av)) (.lst [])=some (decide (ls=[])):=by
 have e:eqO (.lst (ls.map av)) (.lst [])=deepEq (.lst (ls.map av)) (.lst []):=rfl
 have e1:toPy (.lst (ls.map av))=some (.list (ls.map pyK)):=by rw [toPy,pys h];rfl
 have e2:toPy (.lst [])=some (.list []):=rfl
 obtain ⟨h1,h2⟩:=depths h
 have hs:SeqAt.shaped (.list (ls.map pyK))=true:=by
  unfold SeqAt.shaped
  rw [PyData.canLay0,h1,PyData.depth,decide_eq_true (by lia)]
  rfl
 rw [e,deepEq,e1,e2]
 dsimp only
 rw [if_pos ⟨hs,by decide⟩]
 cases ls with
 | nil=>rfl
 | cons k r=>rfl
theorem ne_nil {ls:List K4} (h:∀ k∈ls,Ok k):neD (.lst (ls.map av)) (.lst [])=.ok (.bl (!decide (ls=[]))):=by
 unfold neD;rw [v6 h];rfl
theorem mT {k:K4} (h:Ok k) (e:ip k=.non):k=(0,0,[],k.2.2.2):=by
 have:=h.e;rw [un,e] at this;exact (Option.some.inj this).symm
theorem mn {k:K4} (h:Ok k) {i:Int} (e:ip k=.int i):k=(1,i,[],k.2.2.2):=by
 have:=h.e;rw [un,e] at this;exact (Option.some.inj this).symm
theorem mi {k:K4} (h:Ok k) {z:Str} (e:ip k=.str z):k=(2,0,z.cps.toList,k.2.2.2):=by
 have:=h.e;rw [un,e] at this;exact (Option.some.inj this).symm
theorem lt0 (n m:Int):ahead .non n .non m=decide (Lt4 (0,0,[],n) (0,0,[],m)):=by simp [ahead,cmp,Lt4]
theorem lt1 (i j n m:Int):ahead (.int i) n (.int j) m=decide (Lt4 (1,i,[],n) (1,j,[],m)):=by
 show (decide (cmpI i j < 0)||(decide (cmpI i j=0)&&decide (n < m)))=_
 unfold cmpI
 by_cases h:i=j
 ·simp [h,Lt4]
 ·by_cases h2:i < j
  ·simp [h,h2,Lt4]
  ·simp [h,h2,Lt4]
theorem lt2 (x z:Str) (n m:Int):ahead (.str x) n (.str z) m=decide (Lt4 (2,0,x.cps.toList,n) (2,0,z.cps.toList,m)):=by
 show (decide (cmpL x.cps.toList z.cps.toList < 0)||(decide (cmpL x.cps.toList z.cps.toList=0)&&decide (n < m)))=_
 unfold cmpL
 generalize x.cps.toList=a
 generalize z.cps.toList=b
 by_cases h:a=b
 ·subst h
  have:=TS.ub.irr a
  simp [Lt4,this]
 ·by_cases h2:a < b
  ·simp [h,h2,Lt4]
  ·simp [h,h2,Lt4]
theorem Ok.kx {k:K4} (h:Ok k):kx (ip k)=k.1:=by
 have hv:=h.v
 cases q:ip k with
 | non=>rw [mT h q];rfl
 | int i=>rw [mn h q];rfl
 | str z=>rw [mi h q];rfl
 | _=>rw [q] at hv;exact hv.elim
theorem Ok.ahead {k l:K4} (h:Ok k) (g:Ok l):bL [av k,av l]=.ok (.bl (decide (Lt4 k l))):=by
 have hv:=h.v
 have gv:=g.v
 rw [un,un,pz _ _ _ _ hv gv]
 congr 2
 by_cases e:k.1=l.1
 ·rw [← h.kx,← g.kx] at e
  cases q:ip k with
  | non=>cases p:ip l with
   | non=>rw [mT h q,mT g p];exact lt0 _ _
   | int j=>rw [q,p] at e;cases e
   | str z=>rw [q,p] at e;cases e
   | _=>rw [p] at gv;exact gv.elim
  | int i=>cases p:ip l with
   | non=>rw [q,p] at e;cases e
   | int j=>rw [mn h q,mn g p];exact lt1 _ _ _ _
   | str z=>rw [q,p] at e;cases e
   | _=>rw [p] at gv;exact gv.elim
  | str x=>cases p:ip l with
   | non=>rw [q,p] at e;cases e
   | int j=>rw [q,p] at e;cases e
   | str z=>rw [mi h q,mi g p];exact lt2 _ _ _ _
   | _=>rw [p] at gv;exact gv.elim
  | _=>rw [q] at hv;exact hv.elim
 ·obtain ⟨a,k⟩:=k
  obtain ⟨b,l⟩:=l
  have c:=wM (hv.mono (by decide)) (gv.mono (by decide)) (by rw [h.kx,g.kx];exact e)
  rw [h.kx,g.kx] at c
  have e:a≠b:=e
  have c:cmp (ip (a,k)) (ip (b,l))=if a < b then -1 else 1:=c
  have e5:decide (Lt4 (a,k) (b,l))=decide (a < b):=decide_eq_decide.mpr (TS.l1 e)
  rw [e5]
  unfold T23.ahead
  rw [c]
  by_cases q:a < b
  ·simp [q]
  ·simp [q]
theorem nI {φ:FE} {δ:Sd} {b:Bool} (h:φ δ=.ok (.bl b)):dX (fK φ) δ=.ok (!b):=dJ (bb h rfl)
theorem p5 (n:Nat):cS 0 n=(List.range n).map fun (k:Nat)=>D.int (k:Int):=by
 unfold cS
 refine List.map_congr_left fun k _=>?_
 rw [Int.zero_add]
def newAt (ss:List K4) (i:Nat):Bool:=decide (i=0)||!decide (ss[i]?=ss[i - 1]?)
structure Rows (rs:List K4):Prop where
 s:rs.Pairwise Lt4
 o:∀ k∈rs,Ok k
theorem xq {ss:List K4} (hs:ss.Pairwise fun x y=>¬ Lt4 y x) (ho:∀ k∈ss,Ok k):Rows (((List.range ss.length).filter (newAt ss)).map fun i=>ss.getD i (0,0,[],0)):=by
 refine ⟨?_,fun k hk=>?_⟩
 ·rw [List.pairwise_map]
  refine List.Pairwise.imp_of_mem (R:=fun a b:Nat=>a < b) (fun {i j} hi hj hij=>?_) (List.pairwise_lt_range.filter _)
  have hi':=List.mem_range.mp (List.mem_filter.mp hi).1
  obtain ⟨hj1,hj2⟩:=List.mem_filter.mp hj
  have hj':=List.mem_range.mp hj1
  have hp:=List.pairwise_iff_getElem.mp hs
  have hne:ss[j]≠ss[j - 1]:=by
   intro z
   unfold newAt at hj2
   rw [decide_eq_false (show ¬ j=0 by lia),List.getElem?_eq_getElem hj',List.getElem?_eq_getElem (show j - 1 < ss.length by lia),z] at hj2
   simp at hj2
  have h1:=hp (j - 1) j (by lia) hj' (by lia)
  have h2:Lt4 ss[j - 1] ss[j]:=by
   rcases TS.to4.tri ss[j - 1] ss[j] with q|q|q
   ·exact q
   ·exact absurd q.symm hne
   ·exact absurd q h1
  rw [List.getD_eq_getElem?_getD,List.getD_eq_getElem?_getD,List.getElem?_eq_getElem hi',List.getElem?_eq_getElem hj']
  show Lt4 ss[i] ss[j]
  by_cases e:i=j - 1
  ·subst e;exact h2
  ·have h3:=hp i (j - 1) hi' (by lia) (by lia)
   rcases TS.to4.tri ss[i] ss[j - 1] with q|q|q
   ·exact TS.to4.tr _ _ _ q h2
   ·rw [q];exact h2
   ·exact absurd q h3
 ·obtain ⟨i,hi,rfl⟩:=List.mem_map.mp hk
  have hi':=List.mem_range.mp (List.mem_filter.mp hi).1
  rw [List.getD_eq_getElem?_getD,List.getElem?_eq_getElem hi']
  exact ho _ (List.getElem_mem hi')
theorem zM {ss:List K4} (k:K4):k∈((List.range ss.length).filter (newAt ss)).map (fun i=>ss.getD i (0,0,[],0)) ↔ k∈ss:=by
 constructor
 ·intro hk
  obtain ⟨i,hi,rfl⟩:=List.mem_map.mp hk
  have hi':=List.mem_range.mp (List.mem_filter.mp hi).1
  rw [List.getD_eq_getElem?_getD,List.getElem?_eq_getElem hi']
  exact List.getElem_mem hi'
 ·intro hk
  obtain ⟨i,hi,e⟩:=List.mem_iff_getElem.mp hk
  have main:∀ i,(hi:i < ss.length)→ss[i]=k→∃ j,j < ss.length∧newAt ss j=true∧ss.getD j (0,0,[],0)=k:=by
   intro i
   induction i with
   | zero=>exact fun hi e=>⟨0,hi,rfl,by rw [List.getD_eq_getElem?_getD,List.getElem?_eq_getElem hi];exact e⟩
   | succ i ih =>
    intro hi e
    by_cases q:ss[i+1]=ss[i]
    ·exact ih (by lia) (q ▸ e)
    ·refine ⟨i+1,hi,?_,by rw [List.getD_eq_getElem?_getD,List.getElem?_eq_getElem hi];exact e⟩
     unfold newAt
     rw [Nat.add_sub_cancel,List.getElem?_eq_getElem hi,List.getElem?_eq_getElem (show i < ss.length by lia),decide_eq_false (show ¬ some ss[i+1]=some ss[i] from fun z=>q (Option.some.inj z))]
     simp
  obtain ⟨j,h1,h2,h3⟩:=main i hi e
  exact List.mem_map.mpr ⟨j,List.mem_filter.mpr ⟨List.mem_range.mpr h1,h2⟩,h3⟩
theorem once {xs:List K4} (ho:∀ k∈xs,Ok k) (hl:xs.length≤1000):∃ rs:List K4,jJ [.lst (xs.map av)]=.ok (.lst (rs.map av))∧Rows rs∧rs.length≤xs.length∧∀ k,k∈rs ↔ k∈xs:=by
 have e1:sortG keyK b8 [.lst (xs.map av)]=.ok (.lst ((xs.mergeSort le4).map av)):=by
  unfold sortG
  dsimp only
  rw [if_pos (by rw [List.length_map];lia),keys ho]
 have hp:=List.mergeSort_perm xs le4
 have hs:(xs.mergeSort le4).Pairwise fun x y=>¬ Lt4 y x:=lW xs
 have ho':∀ k∈xs.mergeSort le4,Ok k:=fun k hk=>ho k (hp.mem_iff.mp hk)
 have hln:(xs.mergeSort le4).length=xs.length:=hp.length_eq
 generalize xs.mergeSort le4=ss at *
 refine ⟨_,?_,xq hs ho',by rw [List.length_map];exact Nat.le_trans (List.length_filter_le _ _) (by rw [List.length_range];lia),fun k=>(zM k).trans hp.mem_iff⟩
 rw [vv,jV,List.map_map]
 refine ax ((aK (bf (ao (ac rfl rfl) e1))).trans (au (bI (sK (bM rfl (nF _ _)) (by lia)) ?_)))
 rw [p5]
 refine oJ _ _ _ _ (fun i hi=>?_) (fun i hi _=>?_) (by rw [List.length_range];lia)
 ·have hi':=List.mem_range.mp hi
  by_cases e:i=0
  ·subst e;exact jy (aZ (am rfl rfl (nJ.trans rfl)))
  ·have hj:i - 1 < ss.length:=by lia
   have e3:newAt ss i=!decide (ss[i]=ss[i - 1]):=by
    unfold newAt
    rw [decide_eq_false e,List.getElem?_eq_getElem hi',List.getElem?_eq_getElem hj]
    simp
   rw [e3]
   refine lm (aZ (am rfl rfl (nJ.trans (by rw [decide_eq_false (by lia)])))) (aZ (am (am rfl rfl (yI _ _ (List.getElem?_eq_getElem hi'))) (am rfl (dG rfl rfl) ?_) ((ho' _ (List.getElem_mem hi')).ne (ho' _ (List.getElem_mem hj)))))
   have e4:(i:Int) - 1=((i - 1:Nat):Int):=by lia
   rw [e4]
   exact yI _ _ (List.getElem?_eq_getElem hj)
 ·have hi':=List.mem_range.mp hi
  refine am rfl rfl ?_
  show _=R.ok (av (ss.getD i (0,0,[],0)))
  rw [List.getD_eq_getElem?_getD,List.getElem?_eq_getElem hi']
  exact yI _ _ (List.getElem?_eq_getElem hi')
abbrev sB:FS:=(aR (bQ 3 (vOp modD (vOp addD w14x (ai 4)) (vC (.int 2147483647)))) (dW 2 (ai 3)))
theorem wV (a b:D):∀ (js:List Nat) (xs:List Int) (x:Int) (o:Option D),xs.length+js.length≤1000→(∀ y∈xs,0≤y∧y < 2147483647) →
  ∃ (ys:List Int) (x':Int) (o':Option D),forD (.one 4) sB (js.map fun (k:Nat)=>D.int (k:Int)) [some a,some b,some (.lst (xs.map D.int)),some (.int x),o]=.ok (.nx [some a,some b,some (.lst (ys.map D.int)),some (.int x'),o'])∧ys.length=xs.length+js.length∧(∀ y∈ys,0≤y∧y < 2147483647)
 | [],xs,x,o,_,h=>⟨xs,x,o,rfl,rfl,h⟩
 | j::r,xs,x,o,hl,h=>by
  rw [List.length_cons] at hl
  have b0:0≤(x*48271+11+(j:Int)) % 2147483647:=Int.emod_nonneg _ (by decide)
  have b1:(x*48271+11+(j:Int)) % 2147483647 < 2147483647:=Int.emod_lt_of_pos _ (by decide)
  obtain ⟨ys,x',o',e,h1,h2⟩:=wV a b r (xs++[(x*48271+11+(j:Int)) % 2147483647]) ((x*48271+11+(j:Int)) % 2147483647) (some (.int (j:Int))) (by rw [List.length_append];simp;lia) (fun y hy=>by
   rcases List.mem_append.mp hy with z|z
   ·exact h y z
   ·obtain rfl:y=_:=by simpa using z
    exact ⟨b0,b1⟩)
  refine ⟨ys,x',o',?_,by rw [h1,List.length_append];simp;lia,h2⟩
  rw [← e,List.map_cons,List.map_append]
  exact kP ((aK (bf (aU (bO (bO (kH rfl rfl) rfl) rfl) rfl))).trans (vh (xs:=xs.map D.int) rfl rfl (by rw [List.length_map];lia)))
theorem stream (c:Int) (m:Nat) (hm:m≤1000):∃ ys:List Int,dZ [.int c,.int (m:Int)]=.ok (.lst (ys.map D.int))∧ys.length=m∧∀ y∈ys,0≤y∧y < 2147483647:=by
 obtain ⟨ys,x',o',e,h1,h2⟩:=wV (.int c) (.int (m:Int)) (List.range m) [] (c % 2147483647) none (by simp;lia) (fun y hy=>by cases hy)
 refine ⟨ys,?_,by rw [h1];simp,h2⟩
 rw [rQ,gp]
 rw [← p5] at e
 exact ax ((aK (qJ (ce rfl))).trans ((aK (bf (aU rfl rfl))).trans ((aK (oy (sK rfl (by lia)) e)).trans (au rfl))))
theorem entries {ys:List Int} (h:∀ y∈ys,0≤y∧y < 2147483647) (hl:ys.length≤1000):∃ ks:List K4,bE (.one 0) qYes (al cr (ae (ai 0) aq)) [none] (ys.map D.int)=.ok (.lst (ks.map av))∧ks.length=ys.length∧∀ k∈ks,Ok k:=by
 have:∃ ks:List K4,compD (.one 0) qYes (al cr (ae (ai 0) aq)) [none] (ys.map D.int)=.ok (ks.map av)∧ks.length=ys.length∧∀ k∈ks,Ok k:=by
  clear hl
  induction ys with
  | nil=>exact ⟨[],rfl,rfl,fun k hk=>by cases hk⟩
  | cons y r ih =>
   obtain ⟨ks,e,h1,h2⟩:=ih fun z hz=>h z (List.mem_cons_of_mem _ hz)
   have hy:=h y (by simp)
   obtain ⟨d,n,e1,hv,hn⟩:=entry y hy.1 (by lia)
   obtain ⟨k,hk,e2⟩:=Ok.make d n hv hn
   refine ⟨k::ks,?_,by rw [List.length_cons,List.length_cons,h1],fun x hx=>?_⟩
   ·show ((al cr (ae (ai 0) aq)) [some (.int y)]).bind _=_
    rw [ao (ac rfl rfl) e1,aD,e,List.map_cons,e2];rfl
   ·rcases List.mem_cons.mp hx with z|z
    ·exact z ▸ hk
    ·exact h2 x z
 obtain ⟨ks,e,h⟩:=this
 exact ⟨ks,jj rfl (by rw [List.length_map];lia) e,h⟩
def Good (r:R Fl):Prop:=∃ rs:List K4,fin r=.ok (.lst (rs.map av))∧Rows rs∧rs.length≤600
theorem pY {k:Nat} {φ:FE} {T:FS} {δ:Sd} {d:D} (h:φ δ=.ok d) (g:Good (T (δ.set k (some d)))):Good (aR (bQ k φ) T δ):=by
 rw [aK (bf h)];exact g
theorem iy {τ:FT} {φ:FE} {T:FS} {c:Int} {m:Nat} {b:Bool} {m':Int} (hm:m≤600) (hq:τ [some (.int c),some (.int (m:Int)),none]=.ok b) (he:φ [some (.int c),some (.int (m:Int)),none]=.ok (.int m')) (h0:0≤m') (h1:m'≤600)
  (g:∀ n:Nat,n≤600→Good (T [some (.int c),some (.int (n:Int)),none])):Good (aR (sIf τ (bQ 1 φ) aV) T [some (.int c),some (.int (m:Int)),none]):=by
 cases b with
 | false=>rw [skip hq];exact g m hm
 | true =>
  have:=g m'.toNat (by lia)
  rw [show ((m'.toNat:Nat):Int)=m' by lia] at this
  rw [aK ((aS hq).trans (bf he))]
  exact this
theorem jS {xs:List D} {i:Int} (h:0≤i):cutD xs none (some i)=xs.take i.toNat:=by
 obtain ⟨n,rfl⟩:∃ n:Nat,i=(n:Int):=⟨i.toNat,by lia⟩
 unfold cutD
 rw [HT.qt,HT.lZ,Int.toNat_natCast,List.drop_zero,Nat.sub_zero,List.take_eq_take_iff]
 lia
theorem gJ {xs:List D} {i:Int} (h:0≤i):cutD xs (some i) none=xs.drop i.toNat:=by
 obtain ⟨n,rfl⟩:∃ n:Nat,i=(n:Int):=⟨i.toNat,by lia⟩
 unfold cutD
 rw [HT.qt,HT.lZ,Int.toNat_natCast]
 by_cases q:n≤xs.length
 ·rw [Nat.min_eq_left q,List.take_of_length_le (by rw [List.length_drop];lia)]
 ·rw [Nat.min_eq_right (by lia),List.drop_eq_nil_of_le (Nat.le_refl _),List.drop_eq_nil_of_le (by lia),List.take_nil]
theorem two {a b:Int} {i:Int} (h0:0≤i) (h1:i < 2):∃ m,ixD (.lst [.int a,.int b]) (.int i)=.ok (.int m)∧(m=a∨m=b):=by
 have:i=0∨i=1:=by lia
 rcases this with rfl|rfl
 ·exact ⟨a,pC,.inl rfl⟩
 ·exact ⟨b,wd,.inr rfl⟩
theorem rows (c:Int):∃ rs:List K4,j5 [.int c]=.ok (.lst (rs.map av))∧Rows rs∧rs.length≤600:=by
 rw [vK,jN]
 obtain ⟨m0,h0,e0⟩:∃ m0:Nat,m0≤600∧c % 9=(m0:Int):=⟨(c % 9).toNat,by lia,by lia⟩
 obtain ⟨m4,e4,h4⟩:=two (a:=48) (b:=170) (i:=c/54 % 2) (by lia) (by lia)
 obtain ⟨m8,e8,h8⟩:=two (a:=32) (b:=128) (i:=c/54 % 2) (by lia) (by lia)
 refine pY (aU rfl rfl) ?_
 show Good (aR _ _ [some (.int c),some (.int (c % 9)),none])
 rw [e0]
 refine iy h0 (cL (aU (cf rfl rfl) rfl) rfl) (bO rfl (aU (cf rfl rfl) rfl)) (by lia) (by lia) fun m1 h1=>?_
 refine iy h1 (cL (aU (cf rfl rfl) rfl) rfl) (bO rfl (aU (cf rfl rfl) rfl)) (by lia) (by lia) fun m2 h2=>?_
 refine iy h2 (cL (aU (cf rfl rfl) rfl) rfl) (am (ce (ac rfl (ac rfl rfl))) (aU (cf rfl rfl) rfl) e4) (by lia) (by lia) fun m3 h3=>?_
 refine iy h3 (cL (aU (cf rfl rfl) rfl) rfl) (bO rfl (aU (cf rfl rfl) rfl)) (by lia) (by lia) fun m5 h5=>?_
 obtain ⟨ys,e6,l6,b6⟩:=stream c m5 (by lia)
 obtain ⟨ks,e7,l7,o7⟩:=entries b6 (by lia)
 obtain ⟨rs,e9,r9,l9,_⟩:=once o7 (by lia)
 refine pY (ao (ac (bI (cR (ao (ac rfl (ac rfl rfl)) e6) rfl) e7) rfl) e9) ?_
 have hq:qBl (vOp eqD w17x (vC (.int 5))) [some (.int c),some (.int (m5:Int)),some (.lst (rs.map av))]=.ok (decide (c/9 % 6=5)):=cL (aU (cf rfl rfl) rfl) rfl
 by_cases h:c/9 % 6=5
 ·rw [decide_eq_true h] at hq
  refine ⟨rs.take m8.toNat,ax (aN ((aS hq).trans (au (rZ rfl rfl (cO (am (ce (ac rfl (ac rfl rfl))) (aU (cf rfl rfl) rfl) e8)) ?_)))),⟨r9.s.sublist (List.take_sublist _ _),fun k hk=>r9.o k (List.mem_of_mem_take hk)⟩,by rw [List.length_take];lia⟩
  rw [yJ,jS (by lia),List.map_take]
 ·rw [decide_eq_false h] at hq
  exact ⟨rs,ax ((skip hq).trans (au rfl)),r9,by lia⟩
def Th:Nat→D→Prop
 | _,.non=>True
 | _,.bl _=>True
 | _,.int _=>True
 | _,.str z=>z.length≤100∧PyData.strOk z=true
 | n+1,.tup xs=>xs.length≤900∧∀ x∈xs,Th n x
 | n+1,.lst xs=>xs.length≤900∧∀ x∈xs,Th n x
 | _,_=>False
theorem iH {n:Nat} (ih:∀ {d:D},Th n d→∃ p,toPy d=some p∧p.canLay0=true∧p.depth≤n):∀ {xs:List D},(∀ x∈xs,Th n x)→∃ ps,toPys xs=some ps∧ps.length=xs.length∧PyData.canLayAll0 ps=true∧PyData.depthAll ps≤n
 | [],_=>⟨[],rfl,rfl,rfl,Nat.zero_le _⟩
 | d::r,h=>by
  obtain ⟨p,e1,h1,h2⟩:=ih (h d (by simp))
  obtain ⟨ps,e2,l2,h3,h4⟩:=iH ih (xs:=r) fun x hx=>h x (List.mem_cons_of_mem _ hx)
  refine ⟨p::ps,by rw [toPys,e1,e2];rfl,by rw [List.length_cons,l2,List.length_cons],?_,?_⟩
  ·rw [PyData.canLayAll0,h1,h3];rfl
  ·rw [PyData.depthAll];exact Nat.max_le.mpr ⟨h2,h4⟩
theorem xy:∀ {n:Nat} {d:D},Th n d→∃ p,toPy d=some p∧p.canLay0=true∧p.depth≤n
 | n,.non,_=>⟨_,rfl,rfl,Nat.zero_le _⟩
 | n,.bl b,_=>⟨_,rfl,rfl,Nat.zero_le _⟩
 | n,.int i,_=>⟨_,rfl,rfl,Nat.zero_le _⟩
 | n,.str z,h=>⟨_,rfl,by cases n <;> exact h.2,Nat.zero_le _⟩
 | 0,.tup xs,h=>h.elim
 | 0,.lst xs,h=>h.elim
 | n+1,.tup xs,h=>by
  obtain ⟨ps,e,_,h1,h2⟩:=iH (fun {d} hd=>xy hd) h.2
  exact ⟨.tuple ps,by rw [toPy,e];rfl,by rw [PyData.canLay0];exact h1,by rw [PyData.depth];lia⟩
 | n+1,.lst xs,h=>by
  obtain ⟨ps,e,_,h1,h2⟩:=iH (fun {d} hd=>xy hd) h.2
  exact ⟨.list ps,by rw [toPy,e];rfl,by rw [PyData.canLay0];exact h1,by rw [PyData.depth];lia⟩
 | n,.ty _,h=>by cases n <;> exact h.elim
 | n,.dct _,h=>by cases n <;> exact h.elim
 | n,.obj _ _,h=>by cases n <;> exact h.elim
 | n,.exn _,h=>by cases n <;> exact h.elim
 | n,.cls _,h=>by cases n <;> exact h.elim
theorem wI {n:Nat} {xs:List D} (h:∀ x∈xs,Th n x) (hn:n≤60):eqO (.lst xs) (.lst [])=some xs.isEmpty:=by
 obtain ⟨ps,e,l,h1,h2⟩:=iH (fun {d} hd=>xy hd) h
 have hs:SeqAt.shaped (.list ps)=true:=by
  unfold SeqAt.shaped
  rw [PyData.canLay0,h1,PyData.depth,decide_eq_true (by lia)]
  rfl
 have e0:eqO (.lst xs) (.lst [])=deepEq (.lst xs) (.lst []):=rfl
 have e1:toPy (.lst xs)=some (.list ps):=by rw [toPy,e];rfl
 have e2:toPy (.lst [])=some (.list []):=rfl
 rw [e0,deepEq,e1,e2]
 dsimp only
 rw [if_pos ⟨hs,by decide⟩]
 cases xs with
 | nil=>cases ps with
  | nil=>rfl
  | cons _ _=>simp at l
 | cons x r=>cases ps with
  | nil=>simp at l
  | cons _ _=>rfl
theorem Bl {n:Nat} {xs:List D} (h:∀ x∈xs,Th n x) (hn:n≤60):neD (.lst xs) (.lst [])=.ok (.bl (!xs.isEmpty)):=by
 unfold neD;rw [wI h hn];rfl
theorem xZ {n:Nat} {xs:List D} (h:∀ x∈xs,Th n x) (hn:n≤60):eqD (.lst xs) (.lst [])=.ok (.bl xs.isEmpty):=by
 unfold eqD;rw [wI h hn];rfl
theorem Th.mono:∀ {n m:Nat} {d:D},Th n d→n≤m→Th m d
 | n,m,.non,_,_=>by cases m <;> exact True.intro
 | n,m,.bl b,_,_=>by cases m <;> exact True.intro
 | n,m,.int i,_,_=>by cases m <;> exact True.intro
 | n,m,.str z,h,_=>by cases n <;> cases m <;> exact h
 | 0,_,.tup xs,h,_=>h.elim
 | 0,_,.lst xs,h,_=>h.elim
 | n+1,0,.tup xs,h,hm=>absurd hm (by lia)
 | n+1,0,.lst xs,h,hm=>absurd hm (by lia)
 | n+1,m+1,.tup xs,h,hm=>⟨h.1,fun x hx=>(h.2 x hx).mono (by lia)⟩
 | n+1,m+1,.lst xs,h,hm=>⟨h.1,fun x hx=>(h.2 x hx).mono (by lia)⟩
 | n,_,.ty _,h,_=>by cases n <;> exact h.elim
 | n,_,.dct _,h,_=>by cases n <;> exact h.elim
 | n,_,.obj _ _,h,_=>by cases n <;> exact h.elim
 | n,_,.exn _,h,_=>by cases n <;> exact h.elim
 | n,_,.cls _,h,_=>by cases n <;> exact h.elim
def kd:D→String
 | .non=>"NoneType"
 | .bl _=>"bool"
 | .int _=>"int"
 | .str _=>"str"
 | .lst _=>"list"
 | .tup _=>"tuple"
 | _=>"dict"
theorem isi {n:Nat} {d:D} (h:Th n d) {C:String} (hC:known C=true):iq [d,.ty C]=.ok (.bl (subT (kd d) C)):=by
 cases d with
 | non=>exact B3.trans (if_pos hC)
 | bl b=>exact Am.trans (if_pos hC)
 | int b=>exact yi.trans (if_pos hC)
 | str b=>exact xC.trans (if_pos hC)
 | lst b=>exact BG.trans (if_pos hC)
 | tup b=>exact B1.trans (if_pos hC)
 | _=>cases n <;> exact h.elim
def isStr:D→Bool
 | .str _=>true
 | _=>false
def isTup:D→Bool
 | .tup _=>true
 | _=>false
def isInt:D→Bool
 | .int _=>true
 | .bl _=>true
 | _=>false
def isBl:D→Bool
 | .bl _=>true
 | _=>false
theorem l8 {n:Nat} {d:D} (h:Th n d):iq [d,.ty "str"]=.ok (.bl (isStr d)):=by
 rw [isi h (by decide +kernel)]
 cases d with
 | obj _ _=>cases n <;> exact h.elim
 | _=>exact congrArg (fun b=>R.ok (D.bl b)) (by first|rfl|(show subT _ _=_;first|decide +kernel|skip))
theorem jk {n:Nat} {d:D} (h:Th n d):iq [d,.ty "tuple"]=.ok (.bl (isTup d)):=by
 rw [isi h (by decide +kernel)]
 cases d with
 | obj _ _=>cases n <;> exact h.elim
 | _=>exact congrArg (fun b=>R.ok (D.bl b)) (by first|rfl|(show subT _ _=_;first|decide +kernel|skip))
theorem pe {n:Nat} {d:D} (h:Th n d):iq [d,.ty "int"]=.ok (.bl (isInt d)):=by
 rw [isi h (by decide +kernel)]
 cases d with
 | obj _ _=>cases n <;> exact h.elim
 | _=>exact congrArg (fun b=>R.ok (D.bl b)) (by first|rfl|(show subT _ _=_;first|decide +kernel|skip))
theorem mf {n:Nat} {d:D} (h:Th n d):iq [d,.ty "bool"]=.ok (.bl (isBl d)):=by
 rw [isi h (by decide +kernel)]
 cases d with
 | obj _ _=>cases n <;> exact h.elim
 | _=>exact congrArg (fun b=>R.ok (D.bl b)) (by first|rfl|(show subT _ _=_;first|decide +kernel|skip))
def isVal:D→Bool
 | .non=>true
 | .int i=>decide (-1000000000000000000 < i∧i < 1000000000000000000)
 | .str z=>decide (z.length≤40)&&z.cps.toList.all (fun c=>decide (32≤c)&&decide (c≤126))
 | _=>false
theorem n8 {d:D}:isVal d=true ↔ Vl 40 d:=by
 cases d with
 | non=>exact ⟨fun _=>True.intro,fun _=>rfl⟩
 | int i=>exact decide_eq_true_iff
 | str z =>
  show (decide (z.length≤40)&&z.cps.toList.all _)=true ↔ z.length≤40∧_
  rw [Bool.and_eq_true,decide_eq_true_iff,List.all_eq_true]
  refine and_congr_right fun _=>⟨fun h c hc=>?_,fun h c hc=>?_⟩
  ·have:=h c hc
   rw [Bool.and_eq_true,decide_eq_true_iff,decide_eq_true_iff] at this
   exact this
  ·rw [Bool.and_eq_true,decide_eq_true_iff,decide_eq_true_iff]
   exact h c hc
 | _=>exact ⟨fun h=>(by cases h),fun h=>False.elim h⟩
theorem wC (a b:Nat):(([a]:List Nat) < [b]) ↔ a < b:=by
 constructor
 ·intro h
  cases h with
  | rel h=>exact h
  | cons h=>cases h
 ·intro h
  exact List.Lex.rel h
theorem xQ:(Str.ofString " ").cps.toList=[32]:=by decide +kernel
theorem xb:(Str.ofString "~").cps.toList=[126]:=by decide +kernel
theorem zz (c:Nat):(!decide (([c]:List Nat) < (Str.ofString " ").cps.toList))=decide (32≤c):=by
 rw [xQ,← decide_not];exact decide_eq_decide.mpr (by rw [wC];lia)
theorem zE (c:Nat):(!decide ((Str.ofString "~").cps.toList < ([c]:List Nat)))=decide (c≤126):=by
 rw [xb,← decide_not];exact decide_eq_decide.mpr (by rw [wC];lia)
theorem yG (c:Nat):fY [.str ⟨#[c]⟩]=.ok (.bl (decide (32≤c)&&decide (c≤126))):=by
 rw [tK,iJ]
 exact ax (au (jD (am rfl rfl (congrArg (fun b=>R.ok (D.bl b)) (zz c))) (am rfl rfl (congrArg (fun b=>R.ok (D.bl b)) (zE c)))))
theorem mC (z:Str):z.cps.toList.length=z.length:=by simp [Str.length]
theorem ww {n:Nat} {d:D} (h:Th n d):gt [d]=.ok (.bl (isVal d)):=by
 rw [qU,gu]
 have hs:=dU (φ:=ai 0) (δ:=[some d]) (C:="str") rfl (l8 h)
 have hi:=dU (φ:=ai 0) (δ:=[some d]) (C:="int") rfl (pe h)
 have hb:=dU (φ:=ai 0) (δ:=[some d]) (C:="bool") rfl (mf h)
 cases d with
 | str z =>
  have hz:z.length≤100:=by cases n <;> exact h.1
  have e:bE (.one 0) qYes (al fY (ae (ai 0) aq)) [none] (signsD z)=.ok (.lst (z.cps.toList.map fun c=>D.bl (decide (32≤c)&&decide (c≤126)))) :=
   cg _ _ rfl (by rw [mC];lia) fun c hc=>ao (ac rfl rfl) (yG c)
  have hl:lenD [.str z]=.ok (.int z.length):=if_pos (by lia)
  refine ax (aN ((aS (bb hs rfl)).trans (au ?_)))
  have e1:vOp leD (al lenD (ae (ai 0) aq)) (vC fX) [some (.str z)]=.ok (.bl (decide (z.length≤40))):=by
   refine am (bM rfl hl) rfl (congrArg (fun b=>R.ok (D.bl b)) (decide_eq_decide.mpr ?_))
   lia
  refine (jD e1 (ao (ac (bI (cR rfl rfl) e) rfl) (pE (fW _ _)))).trans ?_
  simp [isVal,List.all_map,Function.comp_def]
 | int i =>
  refine ax ((skip (bb hs rfl)).trans (aN ((aS (kT (bb hi rfl) (yh (bb hb rfl)))).trans (au ?_))))
  refine am (ao (ac rfl rfl) rfl) pow18 (congrArg (fun b=>R.ok (D.bl b)) (decide_eq_decide.mpr ?_))
  split <;> lia
 | bl b=>exact ax ((skip (bb hs rfl)).trans ((skip (kT (bb hi rfl) (uj (bb hb rfl)))).trans (au rfl)))
 | non=>exact ax ((skip (bb hs rfl)).trans ((skip (mY (bb hi rfl))).trans (au rfl)))
 | lst xs=>exact ax ((skip (bb hs rfl)).trans ((skip (mY (bb hi rfl))).trans (au rfl)))
 | tup xs=>exact ax ((skip (bb hs rfl)).trans ((skip (mY (bb hi rfl))).trans (au rfl)))
 | _=>cases n <;> exact h.elim
theorem i6 {g g':D→D→R D} {φ ψ χ:FE} {δ:Sd} {x y w:D} {b c:Bool} (h1:φ δ=.ok x) (h2:ψ δ=.ok y) (h3:χ δ=.ok w) (hg:g x y=.ok (.bl b)) (hg':g' y w=.ok (.bl c)):vChain g g' φ ψ χ δ=.ok (.bl (b&&c)):=by
 unfold vChain
 rw [h1,aD,h2,aD,hg,aD]
 show (if b=true then _ else _)=_
 cases b with
 | true=>rw [if_pos rfl,h3,aD,hg'];rfl
 | false=>rw [if_neg Bool.false_ne_true];rfl
theorem whole {n:Nat} {d:D} (h:Th n d):dq [d]=.ok (.bl (isInt d&&!isBl d)):=by
 rw [uA,i8]
 exact ax (au (jD (dU rfl (pe h)) (u7 (dU rfl (mf h)))))
theorem rS {n:Nat} {d:D} (h:Th n d):cI [d]=.ok (.bl (isVal d)):=by
 rw [ov,dM]
 have hs:=dU (φ:=ai 0) (δ:=[some d]) (C:="str") rfl (l8 h)
 have hw:al dq (ae (ai 0) aq) [some d]=_:=ao (ac rfl rfl) (whole h)
 have hn:qBl (vOp isD (ai 0) (vC .non)) [some d]=.ok (match d with|.non=>true|_=>false):=by cases d <;> rfl
 cases d with
 | non=>exact ax (aN ((aS hn).trans (au rfl)))
 | str z =>
  have hz:z.length≤100:=by cases n <;> exact h.1
  have ho:PyData.strOk z=true:=by cases n <;> exact h.2
  have e:bE (.one 0) (dX (qBl (vChain leD leD (vC (.str " ")) (ai 0) (vC (.str "~"))))) (ai 0) [none] (signsD z)=.ok (.lst ((z.cps.toList.filter fun c=>!(decide (32≤c)&&decide (c≤126))).map fun c=>D.str ⟨#[c]⟩)):=by
   refine oJ (fun c=>D.str ⟨#[c]⟩) _ _ _ (fun c hc=>dJ (aZ ?_)) (fun c hc _=>rfl) (by rw [mC];lia)
   exact i6 rfl rfl rfl (congrArg (fun b=>R.ok (D.bl b)) (zz c)) (congrArg (fun b=>R.ok (D.bl b)) (zE c))
  have hl:lenD [.str z]=.ok (.int z.length):=if_pos (by lia)
  refine ax ((skip hn).trans (aN ((aS (bb hs rfl)).trans (au ?_))))
  have e1:vOp leD (al lenD (ae (ai 0) aq)) (vC (.int 40)) [some (.str z)]=.ok (.bl (decide (z.length≤40))):=by
   refine am (bM rfl hl) rfl (congrArg (fun b=>R.ok (D.bl b)) (decide_eq_decide.mpr ?_))
   lia
  have ht:∀ x∈((z.cps.toList.filter fun c=>!(decide (32≤c)&&decide (c≤126))).map fun c=>D.str ⟨#[c]⟩),Th 0 x:=by
   intro x hx
   obtain ⟨c,hc,rfl⟩:=List.mem_map.mp hx
   have hc':=(List.mem_filter.mp hc).1
   refine ⟨by show (1:Nat)≤100;decide,?_⟩
   show (#[c]:Array Nat).all (· < 0x110000)=true
   have ho':z.cps.all (· < 0x110000)=true:=ho
   rw [← Array.all_toList,List.all_eq_true] at ho'
   simpa using ho' c hc'
  refine (jD e1 (am (bI (cR rfl rfl) e) (ce rfl) (xZ ht (by decide)))).trans ?_
  refine congrArg (fun b=>R.ok (D.bl b)) ?_
  show _=(decide (z.length≤40)&&z.cps.toList.all _)
  congr 1
  rw [List.isEmpty_map]
  generalize z.cps.toList=l
  induction l with
  | nil=>rfl
  | cons c r ih =>
   cases q:(decide (32≤c)&&decide (c≤126)) with
   | true=>rw [List.filter_cons_of_neg (by rw [q];decide),List.all_cons,q,ih];rfl
   | false=>rw [List.filter_cons_of_pos (by rw [q];rfl),List.all_cons,q];rfl
 | int i =>
  refine ax ((skip hn).trans ((skip (bb hs rfl)).trans (au ((eS hw (i6 (by unfold vUn;rw [pow18];rfl) rfl pow18 sv sv)).trans ?_))))
  refine congrArg (fun b=>R.ok (D.bl b)) ?_
  show _=decide _
  simp
 | bl b=>exact ax ((skip hn).trans ((skip (bb hs rfl)).trans (au (bN hw))))
 | lst xs=>exact ax ((skip hn).trans ((skip (bb hs rfl)).trans (au (bN hw))))
 | tup xs=>exact ax ((skip hn).trans ((skip (bb hs rfl)).trans (au (bN hw))))
 | _=>cases n <;> exact h.elim
def isNum:D→Bool
 | .int i=>decide (1≤i∧i≤1000000000)
 | _=>false
def isTwo:D→Bool
 | .tup [_,_]=>true
 | _=>false
def isEnt:D→Bool
 | .tup [v,m]=>isVal v&&isNum m
 | _=>false
theorem gi {d:D}:isEnt d=true ↔ ∃ k,Ok k∧d=av k:=by
 constructor
 ·intro h
  unfold isEnt at h
  split at h
  ·rename_i v m
   rw [Bool.and_eq_true] at h
   cases m with
   | int i =>
    obtain ⟨k,hk,e⟩:=Ok.make v i (n8.mp h.1) (decide_eq_true_iff.mp h.2)
    exact ⟨k,hk,e.symm⟩
   | _=>cases h.2
  ·cases h
 ·rintro ⟨k,hk,rfl⟩
  rw [un]
  show (isVal _&&decide _)=true
  rw [n8.mpr hk.v,decide_eq_true hk.b];rfl
theorem Th.str {n:Nat} {z:Str} (h1:z.length≤100) (h2:PyData.strOk z=true):Th n (.str z):=by cases n <;> exact ⟨h1,h2⟩
theorem Th.tupI {n:Nat} {xs:List D} (h:Th n (.tup xs)):∃ m,n=m+1∧xs.length≤900∧∀ x∈xs,Th m x:=by
 cases n with
 | zero=>exact h.elim
 | succ m=>exact ⟨m,rfl,h.1,h.2⟩
theorem tV {n:Nat} {d:D} (h:Th n d):cU [d]=.ok (.bl (isTwo d)):=by
 rw [vQ,jP]
 have ht:=dU (φ:=ai 0) (δ:=[some d]) (C:="tuple") rfl (jk h)
 cases d with
 | tup xs =>
  refine ax (au ((eS ht (am (bM rfl kG) rfl nJ)).trans (congrArg (fun b=>R.ok (D.bl b)) ?_)))
  match xs with
  | []=>rfl
  | [_]=>rfl
  | [_,_]=>rfl
  | a::b::c::r=>exact decide_eq_false (by rw [List.length_cons,List.length_cons,List.length_cons];lia)
 | bl _=>exact ax (au (bN ht))
 | non=>exact ax (au (bN ht))
 | int _=>exact ax (au (bN ht))
 | str _=>exact ax (au (bN ht))
 | lst _=>exact ax (au (bN ht))
 | _=>cases n <;> exact h.elim
theorem twoI {d:D} (h:isTwo d=true):∃ a b,d=.tup [a,b]:=by
 unfold isTwo at h
 split at h
 ·exact ⟨_,_,rfl⟩
 ·cases h
theorem Ao {n:Nat} {d:D} (h:Th n d):cw [d]=.ok (.bl (isNum d)):=by
 rw [kI,cz]
 have hi:=dU (φ:=ai 0) (δ:=[some d]) (C:="int") rfl (pe h)
 have hb:=u7 (dU (φ:=ai 0) (δ:=[some d]) (C:="bool") rfl (mf h))
 cases d with
 | int i =>
  refine ax (au ((eS hi (eS hb (jD (am rfl rfl rfl) (am rfl rfl rfl)))).trans (congrArg (fun b=>R.ok (D.bl b)) ?_)))
  show (decide (1≤i)&&decide (i≤1000000000))=decide _
  simp
 | bl _=>exact ax (au (eS hi (bN hb)))
 | non=>exact ax (au (bN hi))
 | tup _=>exact ax (au (bN hi))
 | str _=>exact ax (au (bN hi))
 | lst _=>exact ax (au (bN hi))
 | _=>cases n <;> exact h.elim
theorem qG {n:Nat} {d:D} (h:Th n d):eJ [d]=.ok (.bl (isEnt d)):=by
 rw [rG,gN]
 have h2:al cU (ae (ai 0) aq) [some d]=_:=ao (ac rfl rfl) (tV h)
 cases q:isTwo d with
 | true =>
  obtain ⟨a,b,rfl⟩:=twoI q
  obtain ⟨m,rfl,_,hx⟩:=h.tupI
  rw [q] at h2
  exact ax (au (eS h2 (jD (ao (ac (am rfl rfl bW) rfl) (ww (hx a (by simp)))) (ao (ac (am rfl rfl cb) rfl) (Ao (hx b (by simp)))))))
 | false =>
  rw [q] at h2
  refine ax (au ((bN h2).trans (congrArg (fun b=>R.ok (D.bl b)) ?_)))
  unfold isEnt
  split
  ·cases q
  ·rfl
theorem lu {n:Nat} {d:D} (h:Th n d):bD [d]=.ok (.bl (isEnt d)):=by
 rw [nX,dQ]
 have ht:=dJ (bb (dU (φ:=ai 0) (δ:=[some d]) (C:="tuple") rfl (jk h)) rfl)
 cases q:isTwo d with
 | true =>
  obtain ⟨a,b,rfl⟩:=twoI q
  obtain ⟨m,rfl,_,hx⟩:=h.tupI
  have hl:qBl w18x [some (.tup [a,b])]=.ok false:=aZ (am (bM rfl kG) rfl rfl)
  have hv:dX (fK (al cI (ae (vOp ixD (ai 0) (vC (.int 0))) aq))) [some (.tup [a,b])]=.ok (!isVal a):=nI (ao (ac (am rfl rfl bW) rfl) (rS (hx a (by simp))))
  have hq:=lm ht (lm hl hv)
  have hw:al dq (ae (vOp ixD (ai 0) (vC (.int 1))) aq) [some (.tup [a,b])]=_:=ao (ac (am rfl rfl cb) rfl) (whole (hx b (by simp)))
  show _=R.ok (D.bl (isVal a&&isNum b))
  cases qa:isVal a with
  | false=>rw [qa] at hq;exact ax (aN ((aS hq).trans (au rfl)))
  | true =>
   rw [qa] at hq
   refine ax ((skip hq).trans (au ?_))
   cases b with
   | int i =>
    refine (eS hw (i6 rfl (am rfl rfl cb) pow9 rfl rfl)).trans (congrArg (fun b=>R.ok (D.bl b)) ?_)
    show (decide (1≤i)&&decide (i≤1000000000))=(true&&decide _)
    simp
   | bl _=>exact bN hw
   | non=>exact bN hw
   | tup _=>exact bN hw
   | str _=>exact bN hw
   | lst _=>exact bN hw
   | _=>exact bN hw
 | false =>
  have e:isEnt d=false:=by
   unfold isEnt
   split
   ·cases q
   ·rfl
  rw [e]
  refine ax (aN ((aS ?_).trans (au rfl)))
  cases d with
  | tup xs =>
   refine lm ht (jy (aZ (am (bM rfl kG) rfl ?_)))
   have:¬ xs.length=2:=fun z=>by
    match xs,z with
    | [_,_],_=>cases q
   show R.ok (D.bl (!decide _))=_
   rw [decide_eq_false (by intro z;injection z with z;lia)];rfl
  | bl _=>exact jy ht
  | non=>exact jy ht
  | int _=>exact jy ht
  | str _=>exact jy ht
  | lst _=>exact jy ht
  | _=>cases n <;> exact h.elim
def rs:List K4→List K4→Bool
 | a::r,b::t=>decide (Lt4 a b)&&rs r t
 | _,_=>true
theorem n9 {g:D→Option Int→Option Int→R D} {φ:FE} {l u:Sd→R (Option Int)} {δ:Sd} {a d:D} {lo hi:Option Int} (h:φ δ=.ok a) (h1:l δ=.ok lo) (h2:u δ=.ok hi) (hd:g a lo hi=.ok d):vSl g φ l u δ=.ok d:=by
 rw [Ck,h,aD,zG,h1,aD,zJ,h2,aD,zD,hd]
theorem xl (xs:List D) (lo hi:Option Int):m6 (.tup xs) lo hi=.ok (.tup (cutD xs lo hi)):=by
 unfold m6
 dsimp only
 split
 ·rename_i h
  unfold cutD
  rw [h.1,h.2,List.drop_zero,Nat.sub_zero,List.take_length]
 ·rfl
theorem Ax (xs:List D) (lo hi:Option Int):m6 (.lst xs) lo hi=.ok (.lst (cutD xs lo hi)):=rfl
theorem qu:∀ (xs ys:List K4),(∀ k∈xs,Ok k)→(∀ k∈ys,Ok k)→∃ bs:List Bool,compD (.tup [0,1]) qYes (al bL (ae (ai 0) (ae (ai 1) aq))) [none,none] (zipTup (xs.map av) (ys.map av))=.ok (bs.map D.bl)∧bs.all id=rs xs ys
 | [],ys,_,_=>⟨[],rfl,rfl⟩
 | a::r,[],_,_=>⟨[],rfl,rfl⟩
 | a::r,b::t,h,g=>by
  obtain ⟨bs,e,hb⟩:=qu r t (fun k hk=>h k (List.mem_cons_of_mem _ hk)) fun k hk=>g k (List.mem_cons_of_mem _ hk)
  refine ⟨decide (Lt4 a b)::bs,?_,by rw [List.all_cons,hb];rfl⟩
  show ((al bL (ae (ai 0) (ae (ai 1) aq))) [some (av a),some (av b)]).bind _=_
  rw [ao (ac rfl (ac rfl rfl)) ((h a (by simp)).ahead (g b (by simp))),aD]
  show (compD _ _ _ _ (zipTup (r.map av) (t.map av))).bind _=_
  rw [e];rfl
theorem mD {d:D} {ks:List K4} (ho:∀ k∈ks,Ok k) (hl:ks.length≤1000000) (hd:d=.tup (ks.map av)∨d=.lst (ks.map av)):hV [d]=.ok (.bl (rs ks (ks.drop 1))):=by
 rw [yA,mF]
 obtain ⟨bs,e,hb⟩:=qu ks (ks.drop 1) ho fun k hk=>ho k (List.mem_of_mem_drop hk)
 have hz:iZip (ae (ai 0) (ae (vSl m6 (ai 0) (bU (vC (.int 1))) cx) aq)) [some d]=.ok (zipTup (ks.map av) ((ks.drop 1).map av)):=by
  rcases hd with rfl|rfl
  ·rw [AR,ac rfl (ac (n9 rfl (cO rfl) rfl (xl _ _ _)) rfl),aD,gJ (by decide),List.map_drop];rfl
  ·rw [AR,ac rfl (ac (n9 rfl (cO rfl) rfl (Ax _ _ _)) rfl),aD,gJ (by decide),List.map_drop];rfl
 refine ax (au (ao (ac (bI hz (jj rfl ?_ e)) rfl) ((pE (fW id bs)).trans ?_)))
 ·unfold zipTup;rw [List.length_zipWith,List.length_map];lia
 ·rw [List.map_id,hb]
theorem lF:∀ {ks:List K4},rs ks (ks.drop 1)=true ↔ ks.Pairwise Lt4
 | []=>⟨fun _=>.nil,fun _=>rfl⟩
 | [a]=>⟨fun _=>List.pairwise_singleton _ _,fun _=>rfl⟩
 | a::b::r=>by
  have ih:=lF (ks:=b::r)
  show (decide (Lt4 a b)&&rs (b::r) r)=true ↔ _
  rw [Bool.and_eq_true,decide_eq_true_iff,List.pairwise_cons]
  have ih:rs (b::r) r=true ↔ _:=ih
  rw [ih]
  constructor
  ·rintro ⟨h1,h2⟩
   refine ⟨fun x hx=>?_,h2⟩
   rcases List.mem_cons.mp hx with rfl|hx
   ·exact h1
   ·exact TS.to4.tr _ _ _ h1 ((List.pairwise_cons.mp h2).1 x hx)
  ·rintro ⟨h1,h2⟩
   exact ⟨h1 b (by simp),h2⟩
def kt (k:K4):D:=.tup [.int k.1,.int k.2.1,.str ⟨k.2.2.1.toArray⟩,.int k.2.2.2]
theorem Ok.kt {k:K4} (h:Ok k):b8 [av k]=.ok (kt k):=by
 obtain ⟨a,b,z,c,e,rfl⟩:=jW h.key
 rw [e]
 have:(⟨z.cps.toList.toArray⟩:Str)=z:=vd rfl
 show _=R.ok (D.tup [.int a,.int b,.str ⟨z.cps.toList.toArray⟩,.int c])
 rw [this]
theorem Ae (k l:K4):ltK (kt k) (kt l)=.ok (.bl (decide (Lt4 k l))):=rfl
theorem Ok.sk {k:K4} (h:Ok k):PyData.strOk ⟨k.2.2.1.toArray⟩=true:=by
 have hv:=h.v
 cases e:ip k with
 | non=>rw [mT h e];exact sok ⟨[].toArray⟩ fun c hc=>(by cases hc)
 | int i=>rw [mn h e];exact sok ⟨[].toArray⟩ fun c hc=>(by cases hc)
 | str z=>rw [e] at hv;rw [mi h e];exact sok z hv.2
 | _=>rw [e] at hv;exact hv.elim
theorem Ok.kne {k l:K4} (h:Ok k) (g:Ok l):neD (T23.kt k) (T23.kt l)=.ok (.bl (!decide (k=l))):=by
 have hp:∀ k:K4,Ok k→SeqAt.shaped (.tuple [.int k.1,.int k.2.1,.str ⟨k.2.2.1.toArray⟩,.int k.2.2.2])=true:=fun k h=>by
  unfold SeqAt.shaped
  have:(PyData.str ⟨k.2.2.1.toArray⟩).canLay0=true:=h.sk
  rw [PyData.canLay0,PyData.canLayAll0,PyData.canLayAll0,PyData.canLayAll0,PyData.canLayAll0,this]
  rfl
 have e:eqO (T23.kt k) (T23.kt l)=deepEq (T23.kt k) (T23.kt l):=rfl
 have e1:∀ k:K4,toPy (T23.kt k)=some (.tuple [.int k.1,.int k.2.1,.str ⟨k.2.2.1.toArray⟩,.int k.2.2.2]):=fun _=>rfl
 have e2:PyData.eqv (.tuple [.int k.1,.int k.2.1,.str ⟨k.2.2.1.toArray⟩,.int k.2.2.2]) (.tuple [.int l.1,.int l.2.1,.str ⟨l.2.2.1.toArray⟩,.int l.2.2.2])=decide (k=l):=by
  show ((k.1==l.1)&&((k.2.1==l.2.1)&&(((⟨k.2.2.1.toArray⟩:Str)==⟨l.2.2.1.toArray⟩)&&((k.2.2.2==l.2.2.2)&&true))))=_
  obtain ⟨a,b,c,f⟩:=k
  obtain ⟨a',b',c',f'⟩:=l
  rw [Bool.eq_iff_iff]
  simp
 unfold neD
 rw [e,deepEq,e1,e1]
 dsimp only
 rw [if_pos ⟨hp k h,hp l g⟩,e2]
 rfl
def lfD (ks:List K4):D:=.tup [.str "leaf",.tup (ks.map av)]
def isCell (w:Str) (f:Nat):D→Bool
 | .tup [.str x,.tup row]=>decide (x=w)&&(decide (f≤row.length)&&decide (row.length≤8))
 | _=>false
theorem uq {n:Nat} {d:D} (h:Th n d) (w:Str) (f:Nat):dr [d,.str w,.int f]=.ok (.bl (isCell w f d)):=by
 rw [t5,iP]
 have h2:al cU (ae (ai 0) aq) [some d,some (.str w),some (.int f)]=_:=ao (ac rfl rfl) (tV h)
 cases q:isTwo d with
 | false =>
  rw [q] at h2
  have e:isCell w f d=false:=by
   unfold isCell
   split
   ·cases q
   ·rfl
  rw [e]
  exact ax (aN ((aS (jy (yh (bb h2 rfl)))).trans (au rfl)))
 | true =>
  rw [q] at h2
  obtain ⟨a,b,rfl⟩:=twoI q
  obtain ⟨m,rfl,_,hx⟩:=h.tupI
  have ha:=dU (φ:=vOp ixD (ai 0) (vC (.int 0))) (δ:=[some (.tup [a,b]),some (.str w),some (.int f)]) (C:="str") (am rfl rfl bW) (l8 (hx a (by simp)))
  have hb:=dU (φ:=vOp ixD (ai 0) (vC (.int 1))) (δ:=[some (.tup [a,b]),some (.str w),some (.int f)]) (C:="tuple") (am rfl rfl cb) (jk (hx b (by simp)))
  cases qa:isStr a with
  | false =>
   rw [qa] at ha
   have e:isCell w f (.tup [a,b])=false:=by
    unfold isCell
    split
    ·rename_i heq;cases heq;cases qa
    ·rfl
   rw [e]
   exact ax (aN ((aS (lm (uj (bb h2 rfl)) (jy (yh (bb ha rfl))))).trans (au rfl)))
  | true =>
   rw [qa] at ha
   obtain ⟨x,rfl⟩:∃ x,a=.str x:=by
    cases a with
    | str x=>exact ⟨x,rfl⟩
    | _=>cases qa
   have hn:qBl (vOp neD (vOp ixD (ai 0) (vC (.int 0))) (ai 1)) [some (.tup [.str x,b]),some (.str w),some (.int f)]=.ok (!decide (x=w)):=aZ (am (am rfl rfl bW) rfl xo)
   have hq:=lm (uj (bb h2 rfl)) (lm (uj (bb ha rfl)) hn)
   by_cases hw:x=w
   ·rw [decide_eq_true hw] at hq
    refine ax ((skip hq).trans (au ?_))
    cases b with
    | tup row =>
     have hl:al lenD (ae (vOp ixD (ai 0) (vC (.int 1))) aq) [some (.tup [.str x,.tup row]),some (.str w),some (.int f)]=.ok (.int row.length):=bM (am rfl rfl cb) kG
     refine (eS hb (jD (am hl rfl ge_i) (am hl rfl zF))).trans (congrArg (fun b=>R.ok (D.bl b)) ?_)
     show _=(decide (x=w)&&_)
     rw [decide_eq_true hw,Bool.true_and]
     congr 1
     ·exact decide_eq_decide.mpr (by lia)
     ·exact decide_eq_decide.mpr (by lia)
    | _=>exact bN hb
   ·rw [decide_eq_false hw] at hq
    have e:isCell w f (.tup [.str x,b])=false:=by
     unfold isCell
     split
     ·rename_i heq;cases heq;rw [decide_eq_false hw];rfl
     ·rfl
    rw [e]
    exact ax (aN ((aS hq).trans (au rfl)))
theorem p8 {w:Str} {f:Nat} {d:D} (h:isCell w f d=true):∃ row,d=.tup [.str w,.tup row]∧f≤row.length∧row.length≤8:=by
 unfold isCell at h
 split at h
 ·rename_i x row
  rw [Bool.and_eq_true,Bool.and_eq_true,decide_eq_true_iff,decide_eq_true_iff,decide_eq_true_iff] at h
  obtain ⟨rfl,h⟩:=h
  exact ⟨row,rfl,h⟩
 ·cases h
theorem uL {w:Str} {f:Nat} {row:List D} (h1:f≤row.length) (h2:row.length≤8):isCell w f (.tup [.str w,.tup row])=true:=by
 show (decide (w=w)&&(decide (f≤row.length)&&decide (row.length≤8)))=true
 rw [decide_eq_true rfl,decide_eq_true h1,decide_eq_true h2];rfl
theorem pf:∀ {row:List D},(∀ x∈row,isEnt x=true)→∃ ks:List K4,(∀ k∈ks,Ok k)∧row=ks.map av
 | [],_=>⟨[],fun _ h=>(by cases h),rfl⟩
 | d::r,h=>by
  obtain ⟨k,hk,rfl⟩:=gi.mp (h d (by simp))
  obtain ⟨ks,ho,rfl⟩:=pf fun x hx=>h x (List.mem_cons_of_mem (a:=x) _ hx)
  exact ⟨k::ks,fun x hx=>by rcases List.mem_cons.mp hx with rfl|hx;exact hk;exact ho x hx,rfl⟩
theorem j4:∀ {ks ls:List K4},(∀ k∈ks,Ok k)→(∀ k∈ls,Ok k)→ks.map av=ls.map av→ks=ls
 | [],[],_,_,_=>rfl
 | [],_::_,_,_,e=>by cases e
 | _::_,[],_,_,e=>by cases e
 | k::r,l::t,h,g,e=>by
  rw [List.map_cons,List.map_cons] at e
  injection e with e1 e2
  rw [(h k (by simp)).inj (g l (by simp)) e1,j4 (fun x hx=>h x (List.mem_cons_of_mem _ hx)) (fun x hx=>g x (List.mem_cons_of_mem _ hx)) e2]
def Leaf (f:Nat) (d:D) (ks:List K4):Prop:=Rows ks∧f≤ks.length∧ks.length≤8∧d=lfD ks
theorem gd {n:Nat} {x:Str} {row:List D} (h:Th n (.tup [.str x,.tup row])):∃ m,n=m+2∧∀ y∈row,Th m y:=by
 obtain ⟨m,rfl,_,hx⟩:=h.tupI
 obtain ⟨m2,rfl,_,hy⟩:=(hx (.tup row) (by simp)).tupI
 exact ⟨m2,rfl,hy⟩
theorem uW {n:Nat} {d:D} (h:Th n d) (f:Nat):∃ b,du [d,.int f]=.ok (.bl b)∧(b=true ↔ ∃ ks,Leaf f d ks):=by
 rw [tR,iu]
 have hc:dX (fK (al dr (ae (ai 0) (ae (vC (.str "leaf")) (ae (ai 1) aq))))) [some d,some (.int f)]=_:=nI (ao (ac rfl (ac rfl (ac rfl rfl))) (uq h "leaf" f))
 cases q:isCell "leaf" f d with
 | false =>
  rw [q] at hc
  refine ⟨false,ax (aN ((aS hc).trans (au rfl))),fun z=>(by cases z),?_⟩
  rintro ⟨ks,_,h1,h2,rfl⟩
  rw [lfD,uL (by rw [List.length_map];exact h1) (by rw [List.length_map];exact h2)] at q
  exact q.symm
 | true =>
  rw [q] at hc
  obtain ⟨row,rfl,hf,h8⟩:=p8 q
  obtain ⟨m,rfl,hr⟩:=gd h
  have e:al allD (ae w32x aq) [some (.tup [.str "leaf",.tup row]),some (.int f)]=.ok (.bl (row.all isEnt)):=by
   refine ao (ac (bI (cR (am rfl rfl cb) rfl) (wG (fun x=>D.bl (isEnt x)) rfl (by lia) fun x hx=>ao (ac rfl rfl) (qG (hr x hx)))) rfl) ((pE (fW isEnt row)).trans ?_)
   rw [List.all_map];rfl
  cases q2:row.all isEnt with
  | false =>
   rw [q2] at e
   refine ⟨false,ax ((skip hc).trans (au (bN e))),fun z=>(by cases z),?_⟩
   rintro ⟨ks,hk,_,_,e3⟩
   unfold lfD at e3
   injection e3 with e3
   injection e3 with _ e3
   injection e3 with e3
   injection e3 with e3
   subst e3
   have:(ks.map av).all isEnt=true:=List.all_eq_true.mpr fun x hx=>by
    obtain ⟨k,h1,rfl⟩:=List.mem_map.mp hx
    exact gi.mpr ⟨k,hk.o k h1,rfl⟩
   rw [this] at q2
   cases q2
  | true =>
   rw [q2] at e
   obtain ⟨ks,ho,rfl⟩:=pf fun x hx=>List.all_eq_true.mp q2 x hx
   rw [List.length_map] at hf h8
   refine ⟨rs ks (ks.drop 1),ax ((skip hc).trans (au (eS e (ao (ac (am rfl rfl cb) rfl) (mD ho (by lia) (.inl rfl)))))),?_⟩
   rw [lF]
   constructor
   ·intro hs
    exact ⟨ks,⟨hs,ho⟩,hf,h8,rfl⟩
   ·rintro ⟨ls,hl,_,_,e3⟩
    unfold lfD at e3
    injection e3 with e3
    injection e3 with _ e3
    injection e3 with e3
    injection e3 with e3
    rw [j4 ho hl.o e3]
    exact hl.s
def prD (p:K4×D):D:=.tup [av p.1,p.2]
def isPart:D→Bool
 | .tup [e,_]=>isEnt e
 | _=>false
theorem xH {n:Nat} {d:D} (h:Th n d):iV [d]=.ok (.bl (isPart d)):=by
 rw [uz,iM]
 have h2:al cU (ae (ai 0) aq) [some d]=_:=ao (ac rfl rfl) (tV h)
 cases q:isTwo d with
 | true =>
  obtain ⟨a,b,rfl⟩:=twoI q
  obtain ⟨m,rfl,_,hx⟩:=h.tupI
  rw [q] at h2
  exact ax (au (eS h2 (ao (ac (am rfl rfl bW) rfl) (qG (hx a (by simp))))))
 | false =>
  rw [q] at h2
  refine ax (au ((bN h2).trans (congrArg (fun b=>R.ok (D.bl b)) ?_)))
  unfold isPart
  split
  ·cases q
  ·rfl
theorem gI {d:D}:isPart d=true ↔ ∃ p:K4×D,Ok p.1∧d=prD p:=by
 constructor
 ·intro h
  unfold isPart at h
  split at h
  ·obtain ⟨k,hk,rfl⟩:=gi.mp h
   exact ⟨(k,_),hk,rfl⟩
  ·cases h
 ·rintro ⟨p,hk,rfl⟩
  exact gi.mpr ⟨p.1,hk,rfl⟩
theorem qj:∀ {row:List D},(∀ x∈row,isPart x=true)→∃ ps:List (K4×D),(∀ p∈ps,Ok p.1)∧row=ps.map prD
 | [],_=>⟨[],fun _ h=>(by cases h),rfl⟩
 | d::r,h=>by
  obtain ⟨k,hk,rfl⟩:=gI.mp (h d (by simp))
  obtain ⟨ks,ho,rfl⟩:=qj fun x hx=>h x (List.mem_cons_of_mem (a:=x) _ hx)
  exact ⟨k::ks,fun x hx=>by rcases List.mem_cons.mp hx with rfl|hx;exact hk;exact ho x hx,rfl⟩
def Branch (f:Nat) (d:D) (ps:List (K4×D)):Prop:=(∀ p∈ps,Ok p.1)∧f≤ps.length∧ps.length≤8∧d=.tup [.str "branch",.tup (ps.map prD)]
theorem nv {n:Nat} {d:D} (h:Th n d) (f:Nat):∃ b,b9 [d,.int f]=.ok (.bl b)∧(b=true ↔ ∃ ps,Branch f d ps):=by
 rw [oE,ft]
 have hc:al dr (ae (ai 0) (ae (vC (.str "branch")) (ae (ai 1) aq))) [some d,some (.int f)]=_:=ao (ac rfl (ac rfl (ac rfl rfl))) (uq h "branch" f)
 cases q:isCell "branch" f d with
 | false =>
  rw [q] at hc
  refine ⟨false,ax (au (bN hc)),fun z=>(by cases z),?_⟩
  rintro ⟨ks,_,h1,h2,rfl⟩
  rw [uL (by rw [List.length_map];exact h1) (by rw [List.length_map];exact h2)] at q
  exact q.symm
 | true =>
  rw [q] at hc
  obtain ⟨row,rfl,hf,h8⟩:=p8 q
  obtain ⟨m,rfl,hr⟩:=gd h
  have e:al allD (ae w33x aq) [some (.tup [.str "branch",.tup row]),some (.int f)]=.ok (.bl (row.all isPart)):=by
   refine ao (ac (bI (cR (am rfl rfl cb) rfl) (wG (fun x=>D.bl (isPart x)) rfl (by lia) fun x hx=>ao (ac rfl rfl) (xH (hr x hx)))) rfl) ((pE (fW isPart row)).trans ?_)
   rw [List.all_map];rfl
  refine ⟨row.all isPart,ax (au (eS hc e)),?_⟩
  rw [List.all_eq_true]
  constructor
  ·intro h
   obtain ⟨ps,ho,rfl⟩:=qj h
   rw [List.length_map] at hf h8
   exact ⟨ps,ho,hf,h8,rfl⟩
  ·rintro ⟨ps,ho,_,_,e3⟩ x hx
   injection e3 with e3
   injection e3 with _ e3
   injection e3 with e3
   injection e3 with e3
   rw [e3] at hx
   obtain ⟨p,hp,rfl⟩:=List.mem_map.mp hx
   exact gI.mpr ⟨p,ho p hp,rfl⟩
def hd (ks:List K4):K4:=ks.headD (0,0,[],0)
def bZ (p:List K4×D):D:=.tup [av (hd p.1),p.2]
def brN (q:List (List K4×D)):List K4×D:=((q.map Prod.fst).flatten,.tup [.str "branch",.tup (q.map bZ)])
def Nd:Nat→Nat→List K4×D→Prop
 | 0,lo,q=>lo≤q.1.length∧q.1.length≤8∧q.2=lfD q.1∧∀ k∈q.1,Ok k
 | h+1,lo,q=>∃ ps:List (List K4×D),(1≤ps.length∧lo≤ps.length)∧ps.length≤8∧(∀ p∈ps,Nd h 4 p)∧q=brN ps
theorem sW {c:Nat}:∀ {ps:List (List K4×D)},(∀ p∈ps,c≤p.1.length)→ps.length*c≤((ps.map Prod.fst).flatten).length
 | [],_=>by simp
 | p::r,h=>by
  have h1:=h p (by simp)
  have h2:=sW fun x hx=>h x (List.mem_cons_of_mem (a:=x) _ hx)
  rw [List.map_cons,List.flatten_cons,List.length_append,List.length_cons,Nat.add_mul,Nat.one_mul]
  lia
theorem Nd.many:∀ {h lo:Nat} {q:List K4×D},Nd h lo q→lo*4 ^ h≤q.1.length
 | 0,lo,q,hq=>by rw [Nat.pow_zero,Nat.mul_one];exact hq.1
 | h+1,lo,q,⟨ps,h1,h2,h3,h4⟩=>by
  subst h4
  have:=sW fun p hp=>(h3 p hp).many
  refine Nat.le_trans ?_ this
  rw [Nat.pow_succ,Nat.mul_comm (4 ^ h) 4]
  exact Nat.mul_le_mul_right _ h1.2
theorem Nd.pos {h lo:Nat} {q:List K4×D} (hq:Nd h lo q) (hl:1≤lo):q.1≠[]:=fun z=>by
 have:=hq.many
 rw [z] at this
 have h2:1≤lo*4 ^ h:=Nat.mul_pos hl (Nat.pow_pos (by decide))
 simp at this
 lia
theorem Nd.ok:∀ {h lo:Nat} {q:List K4×D},Nd h lo q→∀ k∈q.1,Ok k
 | 0,lo,q,hq=>hq.2.2.2
 | h+1,lo,q,⟨ps,h1,h2,h3,h4⟩=>by
  subst h4
  intro k hk
  obtain ⟨l,hl,hk⟩:=List.mem_flatten.mp hk
  obtain ⟨p,hp,rfl⟩:=List.mem_map.mp hl
  exact (h3 p hp).ok k hk
theorem eB {ks:List K4} (h:ks≠[]):hd ks∈ks:=by
 cases ks with
 | nil=>exact absurd rfl h
 | cons k r=>exact List.mem_cons_self
theorem km {ks:List K4} (h:ks≠[]):∃ r,ks=hd ks::r:=by
 cases ks with
 | nil=>exact absurd rfl h
 | cons k r=>exact ⟨r,rfl⟩
theorem ju:(Str.ofString "leaf")≠(Str.ofString "branch"):=by decide +kernel
theorem tup2 {a b c d:D} (h:D.tup [a,b]=.tup [c,d]):a=c∧b=d:=by
 injection h with h
 injection h with h1 h
 injection h with h2 h
 exact ⟨h1,h2⟩
theorem Nd.one:∀ {h h' lo lo':Nat} {ks ls:List K4} {d:D},Nd h lo (ks,d)→Nd h' lo' (ls,d)→h=h'∧ks=ls
 | 0,0,_,_,ks,ls,d,a,b=>by
  have e:=(a.2.2.1).symm.trans b.2.2.1
  have e:=(tup2 e).2
  injection e with e
  exact ⟨rfl,j4 a.2.2.2 b.2.2.2 e⟩
 | 0,_+1,_,_,ks,ls,d,a,⟨ps,_,_,_,e⟩=>by
  have e1:d=_:=congrArg Prod.snd e
  have e2:d=lfD ks:=a.2.2.1
  have e3:=(tup2 (e2.symm.trans e1)).1
  injection e3 with e3
  exact absurd e3 ju
 | _+1,0,_,_,ks,ls,d,⟨ps,_,_,_,e⟩,a=>by
  have e1:d=_:=congrArg Prod.snd e
  have e2:d=lfD ls:=a.2.2.1
  have e3:=(tup2 (e2.symm.trans e1)).1
  injection e3 with e3
  exact absurd e3 ju
 | h+1,h'+1,_,_,ks,ls,d,⟨ps,l1,_,a,e⟩,⟨qs,_,_,b,e'⟩=>by
  have e1:d=_:=congrArg Prod.snd e
  have e2:d=_:=congrArg Prod.snd e'
  have e3:=(tup2 (e1.symm.trans e2)).2
  injection e3 with e3
  have k1:ks=_:=congrArg Prod.fst e
  have k2:ls=_:=congrArg Prod.fst e'
  have key:∀ (ps qs:List (List K4×D)),(∀ p∈ps,Nd h 4 p)→(∀ p∈qs,Nd h' 4 p)→ps.map bZ=qs.map bZ→(ps≠[]→h=h')∧(ps.map Prod.fst).flatten=(qs.map Prod.fst).flatten:=by
   intro ps
   induction ps with
   | nil=>intro qs _ _ e;cases qs with
    | nil=>exact ⟨fun z=>absurd rfl z,rfl⟩
    | cons _ _=>cases e
   | cons p r ih=>intro qs ha hb e;cases qs with
    | nil=>cases e
    | cons q t =>
     rw [List.map_cons,List.map_cons] at e
     injection e with e1 e2
     have e4:=(tup2 e1).2
     have hp:=ha p (by simp)
     have hq:=hb q (by simp)
     obtain ⟨pk,pd⟩:=p
     obtain ⟨qk,qd⟩:=q
     have e4:pd=qd:=e4
     subst e4
     obtain ⟨h1,h2⟩:=Nd.one hp hq
     obtain ⟨_,h3⟩:=ih t (fun x hx=>ha x (List.mem_cons_of_mem _ hx)) (fun x hx=>hb x (List.mem_cons_of_mem _ hx)) e2
     refine ⟨fun _=>h1,?_⟩
     show (pk::r.map Prod.fst).flatten=(qk::t.map Prod.fst).flatten
     rw [List.flatten_cons,List.flatten_cons,h2,h3]
  obtain ⟨g1,g2⟩:=key ps qs a b e3
  refine ⟨congrArg Nat.succ (g1 fun z=>?_),by rw [k1,k2];exact g2⟩
  rw [z] at l1
  exact absurd l1.1 (by decide)
theorem nr {i:Nat} {B:FS} {x d:D} {r:List D} {δ:Sd} (h:B (δ.set i (some x))=.ok (.rt d)):forD (.one i) B (x::r) δ=.ok (.rt d):=by
 rw [qE]
 have e:bindD (.one i) x δ=.ok (δ.set i (some x)):=rfl
 rw [e,aD,wL,h,aD,xT]
theorem pU {ι:FA} {g:TgD} {B:FS} {δ:Sd} {d:D} {xs:List D} (h:ι δ=.ok xs) (hf:forD g B xs δ=.ok (.rt d)):sFor ι g B δ=.ok (.rt d):=by rw [yS,h,aD,yV,hf]
theorem q0 (i:Int) (n:Nat):cS i (n+1)=.int i::cS (i+1) n:=by
 unfold cS
 rw [List.range_succ_eq_map,List.map_cons,List.map_map]
 congr 1
 ·show D.int (i+((0:Nat):Int))=_;congr 1;lia
 ·refine List.map_congr_left fun k _=>?_
  show D.int (i+((k+1:Nat):Int))=.int (i+1+(k:Int))
  congr 1;lia
abbrev lfB:FS:=(sIf (dX w3x) (bo (vC .non)) aV)
theorem sP {ks:List K4} {f:D} (ho:∀ k∈ks,Ok k):∀ (m j:Nat) (o:Option D),1≤j→j+m=ks.length→∃ o',forD (.one 2) lfB (cS (j:Int) m) [some (.tup (ks.map av)),some f,o]=(if rs (ks.drop (j - 1)) (ks.drop j)=true then .ok (.nx [some (.tup (ks.map av)),some f,o']) else .ok (.rt .non))
 | 0,j,o,h1,h2=>by
  have:ks.drop j=[]:=List.drop_eq_nil_of_le (by lia)
  rw [this]
  have:∀ xs,rs xs []=true:=fun xs=>by cases xs <;> rfl
  refine ⟨o,?_⟩
  rw [if_pos (this _)]
  rfl
 | m+1,j,o,h1,h2=>by
  have hj:j < ks.length:=by lia
  have hi:j - 1 < ks.length:=by lia
  have e1:ks.drop (j - 1)=ks[j - 1]::ks.drop j:=by
   rw [List.drop_eq_getElem_cons hi,show j - 1+1=j by lia]
  have e2:ks.drop j=ks[j]::ks.drop (j+1):=List.drop_eq_getElem_cons hj
  have er:rs (ks.drop (j - 1)) (ks.drop j)=(decide (Lt4 ks[j - 1] ks[j])&&rs (ks.drop j) (ks.drop (j+1))):=by
   rw [e1]
   conv=>lhs;rw [e2]
   show (_&&rs (ks[j]::ks.drop (j+1)) (ks.drop (j+1)))=_
   rw [← e2]
  have o1:Ok ks[j - 1]:=ho _ (List.getElem_mem hi)
  have o2:Ok ks[j]:=ho _ (List.getElem_mem hj)
  have hq:dX w3x [some (.tup (ks.map av)),some f,some (.int j)]=.ok (!decide (Lt4 ks[j - 1] ks[j])):=by
   refine dJ (aZ (am (ao (ac (am rfl (dG rfl rfl) ?_) rfl) o1.kt) (ao (ac (am rfl rfl (AW _ _ (List.getElem?_eq_getElem hj))) rfl) o2.kt) (Ae _ _)))
   have e4:(j:Int) - 1=((j - 1:Nat):Int):=by lia
   rw [e4]
   exact AW _ _ (List.getElem?_eq_getElem hi)
  rw [q0]
  by_cases q:Lt4 ks[j - 1] ks[j]
  ·rw [decide_eq_true q] at hq er
   obtain ⟨o',e⟩:=sP ho m (j+1) (some (.int j)) (by lia) (by lia)
   refine ⟨o',?_⟩
   rw [kP (δ':=[some (.tup (ks.map av)),some f,some (.int j)]) ((y4 hq).trans rfl),er,Bool.true_and,show ((j:Int)+1)=((j+1:Nat):Int) by lia,e]
   rw [show j+1 - 1=j by lia]
  ·rw [decide_eq_false q] at hq er
   refine ⟨o,?_⟩
   rw [er,Bool.false_and,if_neg Bool.false_ne_true]
   exact nr ((aS hq).trans (au rfl))
theorem AU {n:Nat} {row:List D} (h:∀ x∈row,Th n x) (hn:n≤60) (hl:row.length≤900) (f:Nat) :
  (∃ ks,Rows ks∧f≤ks.length∧ks.length≤8∧row=ks.map av∧dD [.tup row,.int f]=.ok (.tup [.int 0,.lst (ks.map av)])) ∨
  (dD [.tup row,.int f]=.ok .non∧¬ ∃ ks,Rows ks∧f≤ks.length∧ks.length≤8∧row=ks.map av):=by
 rw [vP,jI]
 have h1:dX (qBl (vChain leD leD (ai 1) (al lenD (ae (ai 0) aq)) (vC (.int 8)))) [some (.tup row),some (.int f),none]=.ok (!(decide ((f:Int)≤row.length)&&decide ((row.length:Int)≤8))):=dJ (aZ (i6 rfl (bM rfl kG) rfl zF zF))
 have h2:qBl w26x [some (.tup row),some (.int f),none]=.ok (!row.all isEnt):=by
  have e:bE (.one 0) (dX (fK (al bD (ae (ai 0) aq)))) (ai 0) [none] (row.map fun x=>x)=.ok (.lst ((row.filter fun x=>!isEnt x).map fun x=>x)) :=
   oJ (fun x=>x) _ _ _ (fun x hx=>nI (ao (ac rfl rfl) (lu (h x hx)))) (fun x hx _=>rfl) (by lia)
  rw [List.map_id',List.map_id'] at e
  refine aZ ((am (bI (cR rfl rfl) e) (ce rfl) (Bl (fun x hx=>h x (List.mem_filter.mp hx).1) hn)).trans ?_)
  congr 2
  congr 1
  clear h e h1 hl
  induction row with
  | nil=>rfl
  | cons c r ih =>
   cases q:isEnt c with
   | true=>rw [List.filter_cons_of_neg (by rw [q];decide),List.all_cons,q,ih];rfl
   | false=>rw [List.filter_cons_of_pos (by rw [q];rfl),List.all_cons,q];rfl
 by_cases q1:f≤row.length∧row.length≤8
 ·rw [decide_eq_true (by lia),decide_eq_true (by lia)] at h1
  have hq:=lm h1 h2
  cases q2:row.all isEnt with
  | false =>
   rw [q2] at hq
   refine .inr ⟨ax (aN ((aS hq).trans (au rfl))),?_⟩
   rintro ⟨ks,hk,_,_,rfl⟩
   have:(ks.map av).all isEnt=true:=List.all_eq_true.mpr fun x hx=>by
    obtain ⟨k,h1,rfl⟩:=List.mem_map.mp hx
    exact gi.mpr ⟨k,hk.o k h1,rfl⟩
   rw [this] at q2
   cases q2
  | true =>
   rw [q2] at hq
   obtain ⟨ks,ho,rfl⟩:=pf fun x hx=>List.all_eq_true.mp q2 x hx
   rw [List.length_map] at q1
   have hr:iRng2D (ae (vC (.int 1)) (ae (al lenD (ae (ai 0) aq)) aq)) [some (.tup (ks.map av)),some (.int f),none]=.ok (cS ((1:Nat):Int) (ks.length - 1)):=by
    unfold iRng2D
    rw [ac rfl (ac (bM rfl (wY _ _)) rfl),aD]
    unfold rng2
    dsimp only
    rw [if_pos (by lia)]
    congr 2
    lia
   cases hk:ks with
   | nil =>
    subst hk
    refine .inl ⟨[],⟨.nil,fun _ h=>(by cases h)⟩,q1.1,q1.2,rfl,?_⟩
    exact ax ((skip hq).trans ((aK (oy hr rfl)).trans (au (cq (ac rfl (ac (ao (ac rfl rfl) wu) rfl))))))
   | cons k0 r0 =>
    have hpos:1≤ks.length:=by rw [hk];simp
    rw [← hk]
    obtain ⟨o',e⟩:=sP (f:=.int f) ho (ks.length - 1) 1 none (by decide) (by lia)
    have er:rs (ks.drop (1 - 1)) (ks.drop 1)=rs ks (ks.drop 1):=rfl
    rw [er] at e
    cases q3:rs ks (ks.drop 1) with
    | true =>
     rw [q3,if_pos rfl] at e
     exact .inl ⟨ks,⟨lF.mp q3,ho⟩,q1.1,q1.2,rfl,ax ((skip hq).trans ((aK (oy hr e)).trans (au (cq (ac rfl (ac (ao (ac rfl rfl) wu) rfl))))))⟩
    | false =>
     rw [q3,if_neg Bool.false_ne_true] at e
     refine .inr ⟨ax ((skip hq).trans (aN (pU hr e))),?_⟩
     rintro ⟨ls,hl',_,_,e3⟩
     rw [j4 ho hl'.o e3,lF.mpr hl'.s] at q3
     cases q3
 ·have e0:(!(decide ((f:Int)≤row.length)&&decide ((row.length:Int)≤8)))=true:=by
   rw [Bool.not_eq_true',Bool.and_eq_false_iff,decide_eq_false_iff_not,decide_eq_false_iff_not]
   lia
  rw [e0] at h1
  refine .inr ⟨ax (aN ((aS (jy h1)).trans (au rfl))),?_⟩
  rintro ⟨ks,_,h3,h4,rfl⟩
  rw [List.length_map] at q1
  exact q1 ⟨h3,h4⟩
def low (lo least:Nat):Nat→Nat
 | 0=>lo
 | _+1=>least
def Is (lo least:Nat) (d:D) (h:Nat) (ks:List K4):Prop:=Nd h (low lo least h) (ks,d)∧ks.Pairwise Lt4
theorem low44 (h:Nat):low 4 4 h=4:=by cases h <;> rfl
theorem Nd.few:∀ {h lo:Nat} {q:List K4×D},Nd h lo q→q.1.length≤8 ^ (h+1)
 | 0,lo,q,hq=>hq.2.1
 | h+1,lo,q,⟨ps,h1,h2,h3,h4⟩=>by
  subst h4
  have key:∀ ps:List (List K4×D),(∀ p∈ps,p.1.length≤8 ^ (h+1))→((ps.map Prod.fst).flatten).length≤ps.length*8 ^ (h+1):=by
   intro ps
   induction ps with
   | nil=>intro _;simp
   | cons p r ih =>
    intro hp
    have e1:=hp p (by simp)
    have e2:=ih fun x hx=>hp x (List.mem_cons_of_mem _ hx)
    rw [List.map_cons,List.flatten_cons,List.length_append,List.length_cons,Nat.add_mul,Nat.one_mul]
    lia
  refine Nat.le_trans (key ps fun p hp=>(h3 p hp).few) ?_
  rw [Nat.pow_succ 8 (h+1),Nat.mul_comm (8 ^ (h+1)) 8]
  exact Nat.mul_le_mul_right _ h2
theorem Nd.deep:∀ {h lo m:Nat} {ks:List K4} {d:D},Nd h lo (ks,d)→Th m d→3*h+2≤m
 | 0,lo,m,ks,d,hq,ht=>by
  have e:d=lfD ks:=hq.2.2.1
  subst e
  obtain ⟨m',rfl,_⟩:=gd ht
  lia
 | h+1,lo,m,ks,d,⟨ps,h1,h2,h3,h4⟩,ht=>by
  have e:d=_:=congrArg Prod.snd h4
  subst e
  obtain ⟨m',rfl,hr⟩:=gd ht
  cases ps with
  | nil=>exact absurd h1.1 (by decide)
  | cons p r =>
   obtain ⟨m2,rfl,_,hx⟩:=(hr (bZ p) (by simp)).tupI
   have:=Nd.deep (h3 p (by simp)) (hx p.2 (by simp))
   lia
theorem AI {n:Nat} {x:D} (h:Th n x) {δ:Sd} {i:Nat} (hi:ai i δ=.ok x):qOr (dX (fK (al iq (ae (ai i) (ae (vC (.ty "tuple")) aq))))) (qOr (qBl (vOp neD (al lenD (ae (ai i) aq)) (vC (.int 2)))) (dX (fK (al bD (ae (vOp ixD (ai i) (vC (.int 0))) aq))))) δ=.ok (!isPart x):=by
 have ht:=dJ (bb (dU (φ:=ai i) (δ:=δ) (C:="tuple") hi (jk h)) rfl)
 cases q:isTwo x with
 | true =>
  obtain ⟨a,b,rfl⟩:=twoI q
  obtain ⟨m,rfl,_,hx⟩:=h.tupI
  exact lm ht (lm (aZ (am (bM hi kG) rfl rfl)) (nI (ao (ac (am hi rfl bW) rfl) (lu (hx a (by simp))))))
 | false =>
  have e:isPart x=false:=by
   unfold isPart
   split
   ·cases q
   ·rfl
  rw [e]
  cases x with
  | tup xs =>
   refine lm ht (jy (aZ (am (bM hi kG) rfl ?_)))
   have:¬ xs.length=2:=fun z=>by
    match xs,z with
    | [_,_],_=>cases q
   rw [yY,decide_eq_false (by lia)];rfl
  | bl _=>exact jy ht
  | non=>exact jy ht
  | int _=>exact jy ht
  | str _=>exact jy ht
  | lst _=>exact jy ht
  | _=>cases n <;> exact h.elim
abbrev gB (G:List D→R D):FS:=(aR (sIf w11x (bo (vC .non)) aV) (aR (bQ 6 (al G (ae (vOp ixD (ai 5) (vC (.int 1))) (ae (vC (.int 4)) (ae (vC (.int 4)) aq))))) (aR (sIf (qOr (qBl (vOp isD (ai 6) (vC .non))) w2x) (bo (vC .non)) aV) (aR (sIf (qAnd (qBl (vOp neD (ai 4) (dF aq))) w1x) (bo (vC .non)) aV) (aR (dW 3 (vOp ixD (ai 6) (vC (.int 0)))) (bQ 4 (vOp addD (ai 4) (vOp ixD (ai 6) (vC (.int 1))))))))))
abbrev Tri:=Nat×List K4×D
def Fit (es:List K4) (row:List D) (ts:List Tri):Prop:=row=ts.map (fun t=>bZ t.2)∧(∀ t∈ts,Nd t.1 4 t.2)∧(es++(ts.map fun t=>t.2.1).flatten).Pairwise Lt4
def dh (hs:List Nat):D:=.lst (hs.map fun (h:Nat)=>D.int h)
def Calls (m:Nat) (G:List D→R D):Prop:=∀ c,Th m c→(∃ h ks,Is 4 4 c h ks∧G [c,.int 4,.int 4]=.ok (.tup [.int h,.lst (ks.map av)]))∨(G [c,.int 4,.int 4]=.ok .non∧¬ ∃ h ks,Is 4 4 c h ks)
theorem um {es ks:List K4} (h:es.Pairwise Lt4) (g:ks.Pairwise Lt4) (hl:∀ l,es.getLast?=some l→Lt4 l (hd ks)):(es++ks).Pairwise Lt4:=by
 rw [List.pairwise_append]
 refine ⟨h,g,fun a ha b hb=>?_⟩
 have hb':Lt4 (hd ks) b∨hd ks=b:=by
  obtain ⟨r,e⟩:=km (List.ne_nil_of_mem hb)
  rw [e] at hb g
  rcases List.mem_cons.mp hb with e2|hb
  ·exact .inr e2.symm
  ·exact .inl ((List.pairwise_cons.mp g).1 b hb)
 have ha':∃ l,es.getLast?=some l∧(Lt4 a l∨a=l):=by
  cases el:es.getLast? with
  | none=>rw [List.getLast?_eq_none_iff.mp el] at ha;cases ha
  | some l =>
  refine ⟨l,rfl,?_⟩
  obtain ⟨ys,rfl⟩:=List.getLast?_eq_some_iff.mp el
  rcases List.mem_append.mp ha with ha|ha
  ·exact .inl ((List.pairwise_append.mp h).2.2 a ha _ (by simp))
  ·exact .inr (by simpa using ha)
 obtain ⟨l,e,hal⟩:=ha'
 have h2:=hl l e
 have h3:Lt4 a (hd ks):=by
  rcases hal with hal|rfl
  ·exact TS.to4.tr _ _ _ hal h2
  ·exact h2
 rcases hb' with hb'|rfl
 ·exact TS.to4.tr _ _ _ h3 hb'
 ·exact h3
theorem wT {m:Nat} {G:List D→R D} (hG:Calls m G) (hm:m≤15) {A0 A1 A2:Option D}:∀ (row:List D) (hs:List Nat) (es:List K4) (o5 o6:Option D),(∀ x∈row,Th (m+1) x)→Rows es→hs.length+row.length≤8→es.length≤32768*hs.length →
  (∃ ts o5' o6',Fit es row ts∧forD (.one 5) (gB G) row [A0,A1,A2,some (dh hs),some (.lst (es.map av)),o5,o6]=.ok (.nx [A0,A1,A2,some (dh (hs++ts.map (·.1))),some (.lst ((es++(ts.map fun t=>t.2.1).flatten).map av)),o5',o6'])) ∨
  (forD (.one 5) (gB G) row [A0,A1,A2,some (dh hs),some (.lst (es.map av)),o5,o6]=.ok (.rt .non)∧¬ ∃ ts,Fit es row ts)
 | [],hs,es,o5,o6,_,hr,_,_=>.inl ⟨[],o5,o6,⟨rfl,fun _ h=>(by cases h),by simpa using hr.s⟩,by simp [tI]⟩
 | x::r,hs,es,o5,o6,hx,hr,hl,hb=>by
  have hx0:=hx x (by simp)
  have hq:=AI hx0 (δ:=[A0,A1,A2,some (dh hs),some (.lst (es.map av)),some x,o6]) (i:=5) rfl
  cases qp:isPart x with
  | false =>
   rw [qp] at hq
   refine .inr ⟨nr (aN ((aS hq).trans (au rfl))),?_⟩
   rintro ⟨ts,e1,e2,_⟩
   cases ts with
   | nil=>cases e1
   | cons t ts =>
    rw [List.map_cons] at e1
    injection e1 with e1 _
    have hn:=e2 t (by simp)
    have hp:isPart (bZ t.2)=true:=gI.mpr ⟨(hd t.2.1,t.2.2),hn.ok _ (eB (hn.pos (by decide))),rfl⟩
    rw [e1,hp] at qp
    cases qp
  | true =>
   rw [qp] at hq
   obtain ⟨⟨k,c⟩,hk,rfl⟩:=gI.mp qp
   obtain ⟨m',e,_,hxc⟩:=hx0.tupI
   have e:m=m':=by lia
   subst e
   have hc:Th m c:=hxc c (by simp)
   have eG:al G (ae (vOp ixD (ai 5) (vC (.int 1))) (ae (vC (.int 4)) (ae (vC (.int 4)) aq))) [A0,A1,A2,some (dh hs),some (.lst (es.map av)),some (prD (k,c)),o6]=G [c,.int 4,.int 4]:=ao (ac (am rfl rfl cb) (ac rfl (ac rfl rfl))) rfl
   rcases hG c hc with ⟨h,ks,⟨hN,hS⟩,e⟩|⟨e,hno⟩
   ·rw [low44] at hN
    rw [e] at eG
    have hpos:ks≠[]:=hN.pos (by decide)
    obtain ⟨kr,ekr⟩:=km hpos
    have hho:Ok (hd ks):=hN.ok _ (eB hpos)
    have hfew:ks.length≤32768:=by
     have h1:=hN.few
     have h2:=hN.deep hc
     have h3:h+1≤5:=by lia
     have h4:8 ^ (h+1)≤8 ^ 5:=Nat.pow_le_pow_right (by decide) h3
     have h5:(8:Nat) ^ 5=32768:=by decide
     have h1:ks.length≤8 ^ (h+1):=h1
     lia
    have uniq:∀ t:Tri,Nd t.1 4 t.2→bZ t.2=prD (k,c)→t=(h,ks,c)∧k=hd ks:=by
     rintro ⟨th,tk,tc⟩ hn ep
     obtain ⟨ep1,ep2⟩:=tup2 ep
     have ep2:tc=c:=ep2
     subst ep2
     obtain ⟨rfl,rfl⟩:=Nd.one hn hN
     exact ⟨rfl,hk.inj hho ep1.symm⟩
    have e60:ixD (.lst (ks.map av)) (.int 0)=.ok (av (hd ks)):=by rw [ekr,List.map_cons];exact pC (r:=kr.map av)
    have eK:∀ {o:Option D},al b8 (ae w34x aq) [A0,A1,A2,some (dh hs),some (.lst (es.map av)),o,some (.tup [.int h,.lst (ks.map av)])]=.ok (kt (hd ks)):=ao (ac (am (am rfl rfl cb) rfl e60) rfl) hho.kt
    have hq2:qOr (qBl (vOp isD (ai 6) (vC .non))) w2x [A0,A1,A2,some (dh hs),some (.lst (es.map av)),some (prD (k,c)),some (.tup [.int h,.lst (ks.map av)])]=.ok (!decide (k=hd ks)) :=
     lm (aZ (am rfl rfl rfl)) (aZ (am (ao (ac (am rfl rfl bW) rfl) hk.kt) eK (hk.kne hho)))
    by_cases qk:k=hd ks
    ·rw [decide_eq_true qk] at hq2
     have hq3:qAnd (qBl (vOp neD (ai 4) (dF aq))) w1x [A0,A1,A2,some (dh hs),some (.lst (es.map av)),some (prD (k,c)),some (.tup [.int h,.lst (ks.map av)])]=.ok (match es.getLast? with|some l=>!decide (Lt4 l (hd ks))|none=>false):=by
      have hn:qBl (vOp neD (ai 4) (dF aq)) [A0,A1,A2,some (dh hs),some (.lst (es.map av)),some (prD (k,c)),some (.tup [.int h,.lst (ks.map av)])]=.ok (!decide (es=[])):=aZ (am rfl (ce rfl) (ne_nil hr.o))
      cases el:es.getLast? with
      | none =>
       rw [decide_eq_true (List.getLast?_eq_none_iff.mp el)] at hn
       exact mY hn
      | some l =>
       have hne:es≠[]:=fun z=>by rw [z] at el;cases el
       rw [decide_eq_false hne] at hn
       have hlm:l∈es:=List.mem_of_getLast? el
       refine kT hn (dJ (aZ (am (ao (ac (am rfl rfl (sG ?_)) rfl) (hr.o l hlm).kt) eK (Ae _ _))))
       obtain ⟨ys,rfl⟩:=List.getLast?_eq_some_iff.mp el
       rw [List.map_append]
       exact wg _ _
     cases ql:(match es.getLast? with|some l=>!decide (Lt4 l (hd ks))|none=>false) with
     | true =>
      rw [ql] at hq3
      refine .inr ⟨nr ((skip hq).trans ((aK (bf eG)).trans ((skip hq2).trans (aN ((aS hq3).trans (au rfl)))))),?_⟩
      rintro ⟨ts,e1,e2,e3⟩
      cases ts with
      | nil=>cases e1
      | cons t ts =>
       rw [List.map_cons] at e1
       injection e1 with e1 _
       obtain ⟨rfl,_⟩:=uniq t (e2 t (by simp)) e1.symm
       cases el:es.getLast? with
       | none=>rw [el] at ql;cases ql
       | some l =>
        rw [el] at ql
        have hlm:l∈es:=List.mem_of_getLast? el
        have:=(List.pairwise_append.mp e3).2.2 l hlm (hd ks) (by
         rw [List.map_cons,List.flatten_cons]
         exact List.mem_append_left _ (eB hpos))
        have ql:(!decide (Lt4 l (hd ks)))=true:=ql
        rw [decide_eq_true this] at ql
        cases ql
     | false =>
      rw [ql] at hq3
      have hes:(es++ks).Pairwise Lt4:=um hr.s hS fun l el=>by
       rw [el] at ql
       have ql:(!decide (Lt4 l (hd ks)))=false:=ql
       exact of_decide_eq_true (by simpa using ql)
      have hrow:Rows (es++ks):=⟨hes,fun y hy=>by rcases List.mem_append.mp hy with hy|hy;exact hr.o y hy;exact hN.ok y hy⟩
      have hstep:gB G ([A0,A1,A2,some (dh hs),some (.lst (es.map av)),o5,o6].set 5 (some (prD (k,c))))=.ok (.nx [A0,A1,A2,some (dh (hs++[h])),some (.lst ((es++ks).map av)),some (prD (k,c)),some (.tup [.int h,.lst (ks.map av)])]):=by
       rw [List.length_cons] at hl
       refine (skip hq).trans ((aK (bf eG)).trans ((skip hq2).trans ((skip hq3).trans ?_)))
       refine (aK (vh (xs:=hs.map fun (h:Nat)=>D.int h) (d:=.int h) rfl (am rfl rfl bW) (by rw [List.length_map];lia))).trans ?_
       have ead:addD (.lst (es.map av)) (.lst (ks.map av))=.ok (.lst ((es++ks).map av)):=by
        rw [add_l,List.length_map,List.length_map,if_pos (by lia),List.map_append]
       refine (bf (am rfl (am rfl rfl cb) ead)).trans ?_
       unfold dh
       simp only [List.map_append]
       rfl
      have ih:=wT hG hm r (hs++[h]) (es++ks) (some (prD (k,c))) (some (.tup [.int h,.lst (ks.map av)])) (A0:=A0) (A1:=A1) (A2:=A2) (fun y hy=>hx y (List.mem_cons_of_mem _ hy)) hrow (by rw [List.length_append];rw [List.length_cons] at hl;simp;lia) (by rw [List.length_append,List.length_append];simp;lia)
      rcases ih with ⟨ts,o5',o6',hf,ef⟩|⟨ef,hno⟩
      ·refine .inl ⟨(h,ks,c)::ts,o5',o6',⟨?_,?_,?_⟩,?_⟩
       ·rw [List.map_cons,← hf.1]
        congr 1
        show prD (k,c)=bZ (ks,c)
        rw [qk];rfl
       ·intro t ht
        rcases List.mem_cons.mp ht with rfl|ht
        ·exact hN
        ·exact hf.2.1 t ht
       ·rw [List.map_cons,List.flatten_cons,← List.append_assoc];exact hf.2.2
       ·rw [kP hstep,ef,List.map_cons,List.map_cons,List.flatten_cons,← List.append_assoc,List.append_assoc hs]
        rfl
      ·refine .inr ⟨(kP hstep).trans ef,?_⟩
       rintro ⟨ts,e1,e2,e3⟩
       cases ts with
       | nil=>cases e1
       | cons t ts =>
        rw [List.map_cons] at e1
        injection e1 with e1 e4
        obtain ⟨rfl,_⟩:=uniq t (e2 t (by simp)) e1.symm
        rw [List.map_cons,List.flatten_cons,← List.append_assoc] at e3
        exact hno ⟨ts,e4,fun t ht=>e2 t (List.mem_cons_of_mem _ ht),e3⟩
    ·rw [decide_eq_false qk] at hq2
     refine .inr ⟨nr ((skip hq).trans ((aK (bf eG)).trans (aN ((aS hq2).trans (au rfl))))),?_⟩
     rintro ⟨ts,e1,e2,_⟩
     cases ts with
     | nil=>cases e1
     | cons t ts =>
      rw [List.map_cons] at e1
      injection e1 with e1 _
      exact qk (uniq t (e2 t (by simp)) e1.symm).2
   ·rw [e] at eG
    refine .inr ⟨nr ((skip hq).trans ((aK (bf eG)).trans (aN ((aS (jy (aZ (am rfl rfl rfl)))).trans (au rfl))))),?_⟩
    rintro ⟨ts,e1,e2,e3⟩
    cases ts with
    | nil=>cases e1
    | cons t ts =>
     rw [List.map_cons] at e1
     injection e1 with e1 _
     have hn:=e2 t (by simp)
     obtain ⟨th,tk,tc⟩:=t
     have ep:tc=c:=((tup2 e1).2).symm
     subst ep
     refine hno ⟨th,tk,by rw [low44];exact hn,?_⟩
     have:=(List.pairwise_append.mp e3).2.1
     rw [List.map_cons,List.flatten_cons] at this
     exact (List.pairwise_append.mp this).1
def isC:D→Bool
 | .tup [.str _,.tup _]=>true
 | _=>false
theorem y9 {d:D} (h:isC d=true):∃ x row,d=.tup [.str x,.tup row]:=by
 unfold isC at h
 split at h
 ·exact ⟨_,_,rfl⟩
 ·cases h
theorem Nd.cell {h lo:Nat} {ks:List K4} {d:D} (hq:Nd h lo (ks,d)):isC d=true:=by
 cases h with
 | zero =>
  have e:d=lfD ks:=hq.2.2.1
  rw [e];rfl
 | succ h =>
  obtain ⟨ps,_,_,_,e⟩:=hq
  have e:d=_:=congrArg Prod.snd e
  rw [e];rfl
theorem c_q {n:Nat} {d:D} (h:Th n d) {δ:Sd} (hi:ai 0 δ=.ok d):qOr w21x w8x δ=.ok (!isC d):=by
 have ht:=dJ (bb (dU (φ:=ai 0) (δ:=δ) (C:="tuple") hi (jk h)) rfl)
 cases q:isTwo d with
 | true =>
  obtain ⟨a,b,rfl⟩:=twoI q
  obtain ⟨m,rfl,_,hx⟩:=h.tupI
  have ha:=dJ (bb (dU (φ:=vOp ixD (ai 0) (vC (.int 0))) (δ:=δ) (C:="str") (am hi rfl bW) (l8 (hx a (by simp)))) rfl)
  have hb:=dJ (bb (dU (φ:=vOp ixD (ai 0) (vC (.int 1))) (δ:=δ) (C:="tuple") (am hi rfl cb) (jk (hx b (by simp)))) rfl)
  have hl:qBl w18x δ=.ok false:=aZ (am (bM hi kG) rfl rfl)
  cases qa:isStr a with
  | false =>
   rw [qa] at ha
   have e:isC (.tup [a,b])=false:=by
    unfold isC
    split
    ·rename_i heq;cases heq;cases qa
    ·rfl
   rw [e]
   exact lm ht (lm hl (jy ha))
  | true =>
   rw [qa] at ha
   obtain ⟨x,rfl⟩:∃ x,a=.str x:=by
    cases a with
    | str x=>exact ⟨x,rfl⟩
    | _=>cases qa
   have e:isC (.tup [.str x,b])=isTup b:=by cases b <;> rfl
   rw [e]
   exact lm ht (lm hl (lm ha hb))
 | false =>
  have e:isC d=false:=by
   unfold isC
   split
   ·cases q
   ·rfl
  rw [e]
  cases d with
  | tup xs =>
   refine lm ht (jy (aZ (am (bM hi kG) rfl ?_)))
   have:¬ xs.length=2:=fun z=>by
    match xs,z with
    | [_,_],_=>cases q
   rw [yY,decide_eq_false (by lia)];rfl
  | bl _=>exact jy ht
  | non=>exact jy ht
  | int _=>exact jy ht
  | str _=>exact jy ht
  | lst _=>exact jy ht
  | _=>cases n <;> exact h.elim
theorem qO:∀ hs:List Nat,allI (hs.map fun (h:Nat)=>D.int h)=some (hs.map fun (h:Nat)=>(h:Int))
 | []=>rfl
 | h::r=>by rw [List.map_cons,allI,qO r];rfl
theorem zo {φ ψ:FE} {δ:Sd} {hs:List Nat} {j:Nat} (h1:φ δ=.ok (dh hs)) (h2:ψ δ=.ok (.int j)):vLCt φ ψ δ=.ok (.int ((hs.map fun (h:Nat)=>(h:Int)).count (j:Int):Nat)):=by
 unfold vLCt
 rw [h1,aD]
 show (ψ δ).bind _=_
 rw [h2,aD]
 show (match allI _,asI _ with|some is,some j=>_|_,_=>_)=_
 rw [qO]
 rfl
def Res (lo least:Nat) (d:D) (r:R D):Prop:=(∃ h ks,Is lo least d h ks∧r=.ok (.tup [.int h,.lst (ks.map av)]))∨(r=.ok .non∧¬ ∃ h ks,Is lo least d h ks)
theorem zf {m:Nat} {G:List D→R D} (hG:Calls m G) (hm:m≤15) {d:D} {lo least:Nat} (h:Th (m+3) d) (hle:1≤least):Res lo least d (fin (gr G [some d,some (.int lo),some (.int least),none,none,none,none])):=by
 rw [gr]
 have hq:=c_q h (δ:=[some d,some (.int lo),some (.int least),none,none,none,none]) rfl
 cases qc:isC d with
 | false =>
  rw [qc] at hq
  refine .inr ⟨ax (aN ((aS hq).trans (au rfl))),?_⟩
  rintro ⟨h,ks,hi,_⟩
  rw [hi.cell] at qc
  cases qc
 | true =>
 rw [qc] at hq
 obtain ⟨x,row,rfl⟩:=y9 qc
 obtain ⟨m',e,hr⟩:=gd h
 have e:m+1=m':=by lia
 subst e
 have hlen:row.length≤900:=by
  obtain ⟨m1,_,_,hx⟩:=h.tupI
  obtain ⟨_,_,hl,_⟩:=(hx (.tup row) (by simp)).tupI
  exact hl
 have hw:qBl w27x [some (.tup [.str x,.tup row]),some (.int lo),some (.int least),none,none,none,none]=.ok (decide (x="leaf")):=aZ (am (am rfl rfl bW) rfl lq)
 by_cases qx:x="leaf"
 ·subst qx
  rw [decide_eq_true rfl] at hw
  have eL:al dD (ae (vOp ixD (ai 0) (vC (.int 1))) (ae (ai 1) aq)) [some (.tup [.str "leaf",.tup row]),some (.int lo),some (.int least),none,none,none,none]=dD [.tup row,.int lo]:=ao (ac (am rfl rfl cb) (ac rfl rfl)) rfl
  rcases AU hr (by lia) hlen lo with ⟨ks,hk,h1,h2,rfl,e⟩|⟨e,hno⟩
  ·rw [e] at eL
   exact .inl ⟨0,ks,⟨⟨h1,h2,rfl,hk.o⟩,hk.s⟩,ax ((skip hq).trans (aN ((aS hw).trans (au eL))))⟩
  ·rw [e] at eL
   refine .inr ⟨ax ((skip hq).trans (aN ((aS hw).trans (au eL)))),?_⟩
   rintro ⟨h,ks,hi,hs⟩
   cases h with
   | zero =>
    obtain ⟨h1,h2,h3,h4⟩:=hi
    have h3:=(tup2 h3).2
    injection h3 with h3
    exact hno ⟨ks,⟨hs,h4⟩,h1,h2,h3⟩
   | succ h =>
    obtain ⟨ps,_,_,_,e⟩:=hi
    have e:=(tup2 (congrArg Prod.snd e)).1
    injection e with e
    exact ju e
 ·rw [decide_eq_false qx] at hw
  have hb:qBl (vOp neD (vOp ixD (ai 0) (vC (.int 0))) (vC (.str "branch"))) [some (.tup [.str x,.tup row]),some (.int lo),some (.int least),none,none,none,none]=.ok (!decide (x="branch")):=aZ (am (am rfl rfl bW) rfl xo)
  have hn:dX w35x [some (.tup [.str x,.tup row]),some (.int lo),some (.int least),none,none,none,none]=.ok (!(decide ((least:Int)≤row.length)&&decide ((row.length:Int)≤8))):=dJ (aZ (i6 rfl (bM (am rfl rfl cb) kG) rfl zF zF))
  have hbr:∀ h ks,Is lo least (.tup [.str x,.tup row]) h ks→∃ h',h=h'+1:=fun h ks hi=>by
   cases h with
   | zero =>
    have e:=(tup2 (show D.tup [.str x,.tup row]=lfD ks from hi.1.2.2.1)).1
    injection e with e
    exact absurd e qx
   | succ h=>exact ⟨h,rfl⟩
  by_cases qb:x="branch"
  ·subst qb
   rw [decide_eq_true rfl] at hb
   by_cases q1:least≤row.length∧row.length≤8
   ·rw [decide_eq_true (by lia),decide_eq_true (by lia)] at hn
    have hq2:=lm hb hn
    have hgo:∀ T:FS,fin (aR (sOwn 3 (dF aq)) (aR (bQ 4 (dF aq)) T) [some (.tup [.str "branch",.tup row]),some (.int lo),some (.int least),none,none,none,none])=fin (T [some (.tup [.str "branch",.tup row]),some (.int lo),some (.int least),some (dh []),some (.lst (([]:List K4).map av)),none,none]):=fun T=>by
     rw [aK (qJ (ce rfl)),aK (bf (ce rfl))];rfl
    rw [skip hq,skip hw,skip hq2,hgo]
    have hi:∀ {o3 o4:Option D},jE (vOp ixD (ai 0) (vC (.int 1))) [some (.tup [.str "branch",.tup row]),some (.int lo),some (.int least),o3,o4,none,none]=.ok row:=cR (am rfl rfl cb) rfl
    rcases wT hG hm (A0:=some (.tup [.str "branch",.tup row])) (A1:=some (.int lo)) (A2:=some (.int least)) row [] [] none none hr ⟨.nil,fun _ h=>(by cases h)⟩ (by simp;lia) (by simp) with ⟨ts,o5,o6,hf,e⟩|⟨e,hno⟩
    ·rw [List.nil_append,List.nil_append] at e
     rw [aK (oy hi e)]
     obtain ⟨f1,f2,f3⟩:=hf
     rw [List.nil_append] at f3
     cases ts with
     | nil=>rw [f1] at q1;simp at q1;lia
     | cons t0 tr =>
      have e0:∀ {A0 A1 A2 o4 o5 o6:Option D},vOp ixD (ai 3) (vC (.int 0)) [A0,A1,A2,some (dh ((t0::tr).map (·.1))),o4,o5,o6]=.ok (.int (t0.1:Int)):=am rfl rfl pC
      have hc:qBl w40x [some (.tup [.str "branch",.tup row]),some (.int lo),some (.int least),some (dh ((t0::tr).map (·.1))),some (.lst (((t0::tr).map fun t=>t.2.1).flatten.map av)),o5,o6]=.ok (decide (((((t0::tr).map (·.1)).map fun (h:Nat)=>(h:Int)).count (t0.1:Int):Int) < ((t0::tr).length:Int))):=by
       refine aZ ((am (zo rfl e0) (bM rfl (nF _ _)) sv).trans ?_)
       rw [List.length_map]
      have hall:¬ ((((t0::tr).map (·.1)).map fun (h:Nat)=>(h:Int)).count (t0.1:Int):Int) < ((t0::tr).length:Int) ↔ ∀ t∈(t0::tr),t.1=t0.1:=by
       have hcl:=List.count_eq_length (a:=(t0.1:Int)) (l:=((t0::tr).map (·.1)).map fun (h:Nat)=>(h:Int))
       have hle:=List.count_le_length (a:=(t0.1:Int)) (l:=((t0::tr).map (·.1)).map fun (h:Nat)=>(h:Int))
       rw [List.length_map,List.length_map] at hcl hle
       constructor
       ·intro hlt t ht
        have:=hcl.mp (by lia) (t.1:Int) (List.mem_map.mpr ⟨t.1,List.mem_map.mpr ⟨t,ht,rfl⟩,rfl⟩)
        lia
       ·intro ha
        have:=hcl.mpr fun b hb=>by
         obtain ⟨y,hy,rfl⟩:=List.mem_map.mp hb
         obtain ⟨t,ht,rfl⟩:=List.mem_map.mp hy
         rw [ha t ht]
        lia
      by_cases qs:((((t0::tr).map (·.1)).map fun (h:Nat)=>(h:Int)).count (t0.1:Int):Int) < ((t0::tr).length:Int)
      ·rw [decide_eq_true qs] at hc
       refine .inr ⟨ax (aN ((aS hc).trans (au rfl))),?_⟩
       rintro ⟨h,ks,hi⟩
       obtain ⟨h,rfl⟩:=hbr _ _ hi
       obtain ⟨⟨ps,_,_,hp,e⟩,_⟩:=hi
       have e:=(tup2 (congrArg Prod.snd e)).2
       injection e with e
       rw [f1] at e
       have key:∀ (ts:List Tri) (ps:List (List K4×D)),(∀ t∈ts,Nd t.1 4 t.2)→(∀ p∈ps,Nd h 4 p)→(ts.map fun t=>bZ t.2)=ps.map bZ→∀ t∈ts,t.1=h:=by
        intro ts
        induction ts with
        | nil=>intro _ _ _ _ t ht;cases ht
        | cons a r ih =>
         intro ps ha hb e t ht
         cases ps with
         | nil=>cases e
         | cons p q =>
          rw [List.map_cons,List.map_cons] at e
          injection e with e1 e2
          rcases List.mem_cons.mp ht with rfl|ht
          ·have hA:=ha t (by simp)
           have hB:=hb p (by simp)
           obtain ⟨th,tk,tc⟩:=t
           obtain ⟨pk,pd⟩:=p
           have ed:tc=pd:=(tup2 e1).2
           subst ed
           exact (Nd.one hA hB).1
          ·exact ih q (fun x hx=>ha x (List.mem_cons_of_mem _ hx)) (fun x hx=>hb x (List.mem_cons_of_mem _ hx)) e2 t ht
       have hk:=key _ ps f2 hp e
       exact hall.mpr (fun t ht=>(hk t ht).trans (hk t0 (by simp)).symm) qs
      ·rw [decide_eq_false qs] at hc
       have ha:=hall.mp qs
       refine .inl ⟨t0.1+1,((t0::tr).map fun t=>t.2.1).flatten,⟨⟨(t0::tr).map (·.2),?_,?_,?_,?_⟩,f3⟩,?_⟩
       ·rw [f1,List.length_map] at q1
        rw [List.length_map]
        exact ⟨by simp,q1.1⟩
       ·rw [f1,List.length_map] at q1
        rw [List.length_map]
        exact q1.2
       ·intro p hp
        obtain ⟨t,ht,rfl⟩:=List.mem_map.mp hp
        have:=f2 t ht
        rw [ha t ht] at this
        exact this
       ·unfold brN
        rw [List.map_map,List.map_map,f1]
        rfl
       ·exact ax ((skip hc).trans (au (cq (ac ((bO e0 rfl).trans (by rw [Int.natCast_add];rfl)) (ac rfl rfl)))))
    ·refine .inr ⟨ax (aN (pU hi e)),?_⟩
     rintro ⟨h,ks,hI⟩
     obtain ⟨h,rfl⟩:=hbr _ _ hI
     obtain ⟨⟨ps,_,_,hp,e⟩,hs⟩:=hI
     have e1:=(tup2 (congrArg Prod.snd e)).2
     injection e1 with e1
     have e2:ks=_:=congrArg Prod.fst e
     refine hno ⟨ps.map fun p=>(h,p),?_,?_,?_⟩
     ·rw [List.map_map];exact e1
     ·intro t ht
      obtain ⟨p,hp',rfl⟩:=List.mem_map.mp ht
      exact hp p hp'
     ·rw [List.nil_append,List.map_map]
      rw [e2] at hs
      exact hs
   ·have e0:(!(decide ((least:Int)≤row.length)&&decide ((row.length:Int)≤8)))=true:=by
     rw [Bool.not_eq_true',Bool.and_eq_false_iff,decide_eq_false_iff_not,decide_eq_false_iff_not]
     lia
    rw [e0] at hn
    refine .inr ⟨ax ((skip hq).trans ((skip hw).trans (aN ((aS (lm hb hn)).trans (au rfl))))),?_⟩
    rintro ⟨h,ks,hI⟩
    obtain ⟨h,rfl⟩:=hbr _ _ hI
    obtain ⟨⟨ps,h1,h2,hp,e⟩,hs⟩:=hI
    have e1:=(tup2 (congrArg Prod.snd e)).2
    injection e1 with e1
    rw [e1,List.length_map] at q1
    exact q1 ⟨h1.2,h2⟩
  ·rw [decide_eq_false qb] at hb
   refine .inr ⟨ax ((skip hq).trans ((skip hw).trans (aN ((aS (jy hb)).trans (au rfl))))),?_⟩
   rintro ⟨h,ks,hI⟩
   obtain ⟨h,rfl⟩:=hbr _ _ hI
   obtain ⟨⟨ps,h1,h2,hp,e⟩,hs⟩:=hI
   have e1:=(tup2 (congrArg Prod.snd e)).1
   injection e1 with e1
   exact qb e1
theorem nO:∀ (n f:Nat) {d:D} {lo least:Nat},Th (3*n) d→n≤6→n≤f→1≤least→Res lo least d (dL (f+1) [d,.int lo,.int least])
 | 0,f,d,lo,least,h,_,_,hl=>by
  rw [qK,gr]
  have hq:=c_q h (δ:=[some d,some (.int lo),some (.int least),none,none,none,none]) rfl
  have qc:isC d=false:=by
   unfold isC
   split
   ·exact h.elim
   ·rfl
  rw [qc] at hq
  refine .inr ⟨ax (aN ((aS hq).trans (au rfl))),?_⟩
  rintro ⟨h,ks,hi,_⟩
  rw [hi.cell] at qc
  cases qc
 | n+1,f,d,lo,least,h,hn,hf,hl=>by
  rw [qK]
  obtain ⟨f',rfl⟩:∃ f',f=f'+1:=⟨f - 1,by lia⟩
  refine zf (m:=3*n) (fun c hc=>?_) (by lia) (h.mono (by lia)) hl
  exact nO n f' (lo:=4) (least:=4) hc (by lia) (by lia) (by decide)
theorem y8 {d:D} {lo least:Nat} (h:Th 18 d) (hl:1≤least):Res lo least d (gq [d,.int lo,.int least]):=nO 6 19 h (by decide) (by decide) hl
def pq (q:List K4×D):K4×D:=(hd q.1,q.2)
def brD (xs:List (K4×D)):D:=.tup [.str "branch",.tup (xs.map prD)]
def hp (xs:List (K4×D)):K4:=hd (xs.map (·.1))
def Lv (ps:List (K4×D)) (h:Nat):Prop:=∃ qs:List (List K4×D),ps=qs.map pq∧(∀ q∈qs,Nd h 4 q)∧((qs.map Prod.fst).flatten).Pairwise Lt4
theorem mr (qs:List (List K4×D)):(qs.map pq).map prD=qs.map bZ:=by rw [List.map_map];rfl
theorem p9:∀ {xs ys:List (K4×D)},(∀ x∈xs,Ok x.1)→(∀ x∈ys,Ok x.1)→xs.map prD=ys.map prD→xs=ys
 | [],[],_,_,_=>rfl
 | [],_::_,_,_,e=>by cases e
 | _::_,[],_,_,e=>by cases e
 | x::r,y::t,h,g,e=>by
  rw [List.map_cons,List.map_cons] at e
  injection e with e1 e2
  obtain ⟨e3,e4⟩:=tup2 e1
  rw [p9 (fun z hz=>h z (List.mem_cons_of_mem _ hz)) (fun z hz=>g z (List.mem_cons_of_mem _ hz)) e2,Prod.ext ((h x (by simp)).inj (g y (by simp)) e3) e4]
theorem uJ:∀ {h h':Nat} (xs ys:List (List K4×D)),(∀ x∈xs,Nd h 4 x)→(∀ y∈ys,Nd h' 4 y)→xs.map Prod.snd=ys.map Prod.snd→xs=ys∧(xs≠[]→h=h')
 | _,_,[],[],_,_,_=>⟨rfl,fun z=>absurd rfl z⟩
 | _,_,[],_::_,_,_,e=>by cases e
 | _,_,_::_,[],_,_,e=>by cases e
 | h,h',(xk,xd)::r,(yk,yd)::t,a,b,e=>by
  rw [List.map_cons,List.map_cons] at e
  injection e with e1 e2
  have e1:xd=yd:=e1
  subst e1
  obtain ⟨h1,h2⟩:=Nd.one (a (xk,xd) (by simp)) (b (yk,xd) (by simp))
  rw [h2,(uJ r t (fun z hz=>a z (List.mem_cons_of_mem _ hz)) (fun z hz=>b z (List.mem_cons_of_mem _ hz)) e2).1]
  exact ⟨rfl,fun _=>h1⟩
theorem heads:∀ {qs:List (List K4×D)},(∀ q∈qs,q.1≠[])→((qs.map Prod.fst).flatten).Pairwise Lt4→(qs.map fun q=>hd q.1).Pairwise Lt4
 | [],_,_=>.nil
 | q::r,h,hs=>by
  rw [List.map_cons,List.flatten_cons,List.pairwise_append] at hs
  rw [List.map_cons,List.pairwise_cons]
  refine ⟨fun x hx=>?_,heads (fun z hz=>h z (List.mem_cons_of_mem _ hz)) hs.2.1⟩
  obtain ⟨y,hy,rfl⟩:=List.mem_map.mp hx
  exact hs.2.2 _ (eB (h q (by simp))) _ (List.mem_flatten.mpr ⟨y.1,List.mem_map.mpr ⟨y,hy,rfl⟩,eB (h y (List.mem_cons_of_mem _ hy))⟩)
theorem pick {γ:Type} (g:γ→D) (P:γ→Prop):∀ ps:List (K4×D),(∀ p∈ps,∃ y,P y∧p.2=g y)→∃ zs:List (K4×γ),ps=zs.map (fun z=>(z.1,g z.2))∧∀ z∈zs,P z.2
 | [],_=>⟨[],rfl,fun _ h=>(by cases h)⟩
 | p::r,h=>by
  obtain ⟨y,hy,e⟩:=h p (by simp)
  obtain ⟨zs,e2,h2⟩:=pick g P r fun x hx=>h x (List.mem_cons_of_mem _ hx)
  refine ⟨(p.1,y)::zs,?_,fun z hz=>?_⟩
  ·rw [List.map_cons,← e2]
   congr 1
   exact Prod.ext rfl e
  ·rcases List.mem_cons.mp hz with rfl|hz
   ·exact hy
   ·exact h2 z hz
theorem wH {ε:FE} {P:D→Prop} {ι:FA} {δ:Sd} {xs:List D} (hi:ι δ=.ok xs) (hl:xs.length≤1000000) (h:∀ x∈xs,∃ b,ε [some x]=.ok (.bl b)∧(b=true ↔ P x)):∃ b,al allD (ae (cC [none] ι (.one 0) qYes ε) aq) δ=.ok (.bl b)∧(b=true ↔ ∀ x∈xs,P x):=by
 have key:∀ xs:List D,(∀ x∈xs,∃ b,ε [some x]=.ok (.bl b)∧(b=true ↔ P x))→∃ bs:List Bool,compD (.one 0) qYes ε [none] xs=.ok (bs.map D.bl)∧(bs.all id=true ↔ ∀ x∈xs,P x):=by
  intro xs
  induction xs with
  | nil=>intro _;exact ⟨[],rfl,by simp⟩
  | cons x r ih =>
   intro h
   obtain ⟨b,e,hb⟩:=h x (by simp)
   obtain ⟨bs,e2,h2⟩:=ih fun y hy=>h y (List.mem_cons_of_mem _ hy)
   refine ⟨b::bs,?_,?_⟩
   ·show (ε [some x]).bind _=_
    rw [e,aD,e2];rfl
   ·rw [List.all_cons,Bool.and_eq_true,h2]
    constructor
    ·rintro ⟨h3,h4⟩ y hy
     rcases List.mem_cons.mp hy with rfl|hy
     ·exact hb.mp h3
     ·exact h4 y hy
    ·intro h3
     exact ⟨hb.mpr (h3 x (by simp)),fun y hy=>h3 y (List.mem_cons_of_mem _ hy)⟩
 obtain ⟨bs,e,hb⟩:=key xs h
 refine ⟨bs.all id,ao (ac (bI hi (jj rfl hl e)) rfl) ((pE (fW id bs)).trans ?_),hb⟩
 rw [List.map_id]
theorem Ok.eq {k l:K4} (h:Ok k) (g:Ok l):eqD (av k) (av l)=.ok (.bl (decide (k=l))):=by
 unfold eqD;rw [h.deep g];rfl
theorem qZ {ks:List K4} (h:ks≠[]):eR [lfD ks]=.ok (av (hd ks)):=by
 rw [lL,fe]
 obtain ⟨r,e⟩:=km h
 rw [e]
 exact ax (au (uC (aZ (am (am rfl rfl bW) rfl (lq.trans (by rw [decide_eq_true rfl])))) (am (am rfl rfl cb) rfl bW)))
theorem ny {xs:List (K4×D)} (h:xs≠[]):eR [brD xs]=.ok (av (hp xs)):=by
 rw [lL,fe]
 cases xs with
 | nil=>exact absurd rfl h
 | cons x r=>exact ax (au (uf (aZ (am (am rfl rfl bW) rfl (lq.trans (by rw [decide_eq_false fun z=>ju z.symm])))) (am (am (am rfl rfl cb) rfl bW) rfl bW)))
theorem j7 {A:Option D}:∀ (rows:List (D×List D)) (acc:List D) (o:Option D),(∀ r∈rows,r.2.length≤8)→acc.length+rows.length*8≤1000000→∃ o',forD (.one 2) (jx 1 (vOp ixD (ai 2) (vC (.int 1)))) (rows.map fun r=>D.tup [r.1,.tup r.2]) [A,some (.lst acc),o]=.ok (.nx [A,some (.lst (acc++(rows.map (·.2)).flatten)),o'])
 | [],acc,o,_,_=>⟨o,by rw [List.map_nil,tI,List.map_nil,List.flatten_nil,List.append_nil]⟩
 | r::rows,acc,o,h,hl=>by
  have h1:=h r (by simp)
  rw [List.length_cons] at hl
  obtain ⟨o',e⟩:=j7 (A:=A) rows (acc++r.2) (some (.tup [r.1,.tup r.2])) (fun x hx=>h x (List.mem_cons_of_mem _ hx)) (by rw [List.length_append];lia)
  refine ⟨o',?_⟩
  rw [List.map_cons,kP (δ':=[A,some (.lst (acc++r.2)),some (.tup [r.1,.tup r.2])]) (AL (xs:=acc) (ys:=r.2) rfl (am rfl rfl cb) rfl (by lia)),e,List.map_cons,List.flatten_cons,List.append_assoc]
theorem things {rows:List (D×List D)} (h:∀ r∈rows,r.2.length≤8) (hl:rows.length≤100000):bF [.lst (rows.map fun r=>D.tup [r.1,.tup r.2])]=.ok (.lst (rows.map (·.2)).flatten):=by
 rw [ph,fk]
 obtain ⟨o',e⟩:=j7 (A:=some (.lst (rows.map fun r=>D.tup [r.1,.tup r.2]))) rows [] none h (by simp;lia)
 exact ax ((aK (qJ (ce rfl))).trans ((aK (oy (cR rfl rfl) e)).trans (au rfl)))
theorem liftG {β γ:Type} (f:β→γ):∀ (runs:List (List γ)) (xs:List β),runs.flatten=xs.map f→∃ kss:List (List β),runs=kss.map (List.map f)∧kss.flatten=xs
 | [],xs,h=>⟨[],rfl,(List.map_eq_nil_iff.mp h.symm).symm⟩
 | r::rs,xs,h=>by
  rw [List.flatten_cons] at h
  obtain ⟨l1,l2,rfl,e1,e2⟩:=List.map_eq_append_iff.mp h.symm
  obtain ⟨kss,e3,e4⟩:=liftG f rs l2 e2.symm
  exact ⟨l1::kss,by rw [List.map_cons,e1,e3],by rw [List.flatten_cons,e4]⟩
theorem pb (pss:List (List (List K4×D))):((pss.map brN).map Prod.fst).flatten=(pss.flatten.map Prod.fst).flatten:=by
 rw [List.map_flatten,List.flatten_flatten,List.map_map,List.map_map];rfl
theorem AG {xs:List (List K4×D)} (h:∀ x∈xs,x.1≠[]) (hn:xs≠[]):hd (brN xs).1=hp (xs.map pq):=by
 cases xs with
 | nil=>exact absurd rfl hn
 | cons x r =>
  obtain ⟨t,e⟩:=km (h x (by simp))
  show hd ((x.1::r.map Prod.fst).flatten)=hd x.1
  rw [List.flatten_cons,e]
  rfl
theorem qN (xs:List (List K4×D)):(brN xs).2=brD (xs.map pq):=by
 unfold brN brD
 rw [mr]
theorem lower {zs:List (K4×List (K4×D))} (hz:∀ z∈zs,(∀ p∈z.2,Ok p.1)∧4≤z.2.length∧z.2.length≤8) (hf:∀ z∈zs,z.1=hp z.2) (h:Nat):Lv (zs.map (fun z=>(z.1,brD z.2))) (h+1) ↔ Lv (zs.map (·.2)).flatten h:=by
 constructor
 ·rintro ⟨qs,e,hq,hs⟩
  have key:∀ (zs:List (K4×List (K4×D))) (qs:List (List K4×D)),(∀ z∈zs,(∀ p∈z.2,Ok p.1)∧4≤z.2.length∧z.2.length≤8)→(∀ q∈qs,Nd (h+1) 4 q)→zs.map (fun z=>(z.1,brD z.2))=qs.map pq→∃ qss:List (List (List K4×D)),qs=qss.map brN∧zs.map (·.2)=qss.map (List.map pq)∧∀ q∈qss.flatten,Nd h 4 q:=by
   intro zs
   induction zs with
   | nil =>
    intro qs _ _ e
    cases qs with
    | nil=>exact ⟨[],rfl,rfl,fun _ h=>(by cases h)⟩
    | cons _ _=>cases e
   | cons z r ih =>
    intro qs hz hq e
    cases qs with
    | nil=>cases e
    | cons q t =>
     rw [List.map_cons,List.map_cons] at e
     injection e with e1 e2
     obtain ⟨qss,a1,a2,a3⟩:=ih t (fun x hx=>hz x (List.mem_cons_of_mem _ hx)) (fun x hx=>hq x (List.mem_cons_of_mem _ hx)) e2
     obtain ⟨xs,l1,l2,hx,rfl⟩:=hq q (by simp)
     have e3:brD z.2=(brN xs).2:=congrArg Prod.snd e1
     rw [qN] at e3
     have e3:=(tup2 e3).2
     injection e3 with e3
     have e4:=p9 (hz z (by simp)).1 (fun p hp=>by
      obtain ⟨x,hx',rfl⟩:=List.mem_map.mp hp
      have hn:=hx x hx'
      exact hn.ok _ (eB (hn.pos (by decide)))) e3
     refine ⟨xs::qss,by rw [List.map_cons,← a1],by rw [List.map_cons,List.map_cons,← a2,e4],fun y hy=>?_⟩
     rw [List.flatten_cons] at hy
     rcases List.mem_append.mp hy with hy|hy
     ·exact hx y hy
     ·exact a3 y hy
  obtain ⟨qss,rfl,e2,hx⟩:=key zs qs hz hq e
  refine ⟨qss.flatten,?_,hx,?_⟩
  ·rw [e2,List.map_flatten]
  ·rw [← pb];exact hs
 ·rintro ⟨qs,e,hq,hs⟩
  obtain ⟨qss,e1,rfl⟩:=liftG pq _ _ e
  refine ⟨qss.map brN,?_,?_,by rw [pb];exact hs⟩
  ·have key:∀ (zs:List (K4×List (K4×D))) (qss:List (List (List K4×D))),(∀ z∈zs,4≤z.2.length)→(∀ z∈zs,z.1=hp z.2)→(∀ q∈qss.flatten,Nd h 4 q)→zs.map (·.2)=qss.map (List.map pq)→zs.map (fun z=>(z.1,brD z.2))=(qss.map brN).map pq:=by
    intro zs
    induction zs with
    | nil=>intro qss _ _ _ e;cases qss with
     | nil=>rfl
     | cons _ _=>cases e
    | cons z r ih=>intro qss h4 hf hn e;cases qss with
     | nil=>cases e
     | cons xs t =>
      rw [List.map_cons,List.map_cons] at e
      injection e with e1 e2
      rw [List.map_cons,List.map_cons,List.map_cons,ih t (fun x hx=>h4 x (List.mem_cons_of_mem _ hx)) (fun x hx=>hf x (List.mem_cons_of_mem _ hx)) (fun x hx=>hn x (by rw [List.flatten_cons];exact List.mem_append_right _ hx)) e2]
      congr 1
      refine Prod.ext ?_ ?_
      ·show z.1=hd (brN xs).1
       rw [AG (fun x hx=>(hn x (by rw [List.flatten_cons];exact List.mem_append_left _ hx)).pos (by decide)) (fun z0=>?_),hf z (by simp),e1]
       have:=h4 z (by simp)
       rw [e1,z0] at this
       simp at this
      ·show brD z.2=(brN xs).2
       rw [qN,e1]
   exact key zs qss (fun z hz'=>(hz z hz').2.1) hf hq e1
  ·intro q hq'
   obtain ⟨xs,hx,rfl⟩:=List.mem_map.mp hq'
   have:xs.map pq∈zs.map (·.2):=by rw [e1];exact List.mem_map.mpr ⟨xs,hx,rfl⟩
   obtain ⟨z,hz',ez⟩:=List.mem_map.mp this
   have hl:=(hz z hz').2
   have ez:z.2=xs.map pq:=ez
   rw [ez,List.length_map] at hl
   exact ⟨xs,⟨by lia,hl.1⟩,hl.2,fun p hp=>hq p (List.mem_flatten.mpr ⟨xs,hx,hp⟩),rfl⟩
abbrev iQ:FT:=w29x
abbrev iB:FS:=(aR (bQ 2 w20x) (aR (bQ 3 (al allD (ae w12x aq))) (aR (sIf (qAnd (dX (fK (ai 3))) w4x) (bo (vC (.bl false))) aV) (aR (sIf (dX (fK (al allD (ae (cC [none] (jE (ai 1)) (.one 0) qYes w0x) aq)))) (bo (vC (.bl false))) aV) (aR (sIf (fK (ai 3)) (bo (al hV (ae (al bF (ae (ai 2) aq)) aq))) aV) (bQ 1 (al bF (ae (ai 2) aq))))))))
abbrev iT:FS:=(bo (vC (.bl false)))
theorem wq {τ:FT} {B:FS} {n:Nat} {δ:Sd} {d:D} (h:τ δ=.ok true) (hb:B δ=.ok (.rt d)):ck τ B (n+1) δ=.ok (.rt d):=by
 rw [ck,h,aD,if_pos rfl,hb];rfl
theorem xA {ps:List (K4×D)} (h:Lv ps 0):∀ p∈ps,∃ ks,Leaf 4 p.2 ks:=by
 obtain ⟨qs,rfl,hq,hs⟩:=h
 intro p hp
 obtain ⟨q,hq',rfl⟩:=List.mem_map.mp hp
 have hn:=hq q hq'
 exact ⟨q.1,⟨(List.pairwise_flatten.mp hs).1 q.1 (List.mem_map.mpr ⟨q,hq',rfl⟩),hn.2.2.2⟩,hn.1,hn.2.1,hn.2.2.1⟩
theorem sM {ps:List (K4×D)} {h:Nat} (hl:Lv ps (h+1)):∀ p∈ps,∃ xs,Branch 4 p.2 xs:=by
 obtain ⟨qs,rfl,hq,hs⟩:=hl
 intro p hp
 obtain ⟨q,hq',rfl⟩:=List.mem_map.mp hp
 obtain ⟨xs,l1,l2,hx,rfl⟩:=hq q hq'
 refine ⟨xs.map pq,fun p hp=>?_,by rw [List.length_map];exact l1.2,by rw [List.length_map];exact l2,qN xs⟩
 obtain ⟨x,hx',rfl⟩:=List.mem_map.mp hp
 have hn:=hx x hx'
 exact hn.ok _ (eB (hn.pos (by decide)))
theorem wK {A:Option D}:∀ (n m j:Nat) (ps:List (K4×D)) (o2 o3:Option D),m < n→m+3*j≤18→ps≠[]→ps.length≤8 ^ j→(∀ p∈ps,Ok p.1∧Th m p.2)→∃ b,aR (ck iQ iB n) iT [A,some (.lst (ps.map prD)),o2,o3]=.ok (.rt (.bl b))∧(b=true ↔ ∃ h,Lv ps h)
 | 0,m,j,ps,o2,o3,hm,_,_,_,_=>absurd hm (by lia)
 | n+1,m,j,ps,o2,o3,hm,hj,hne,hl,hp=>by
  have hmil:ps.length≤262144:=by
   have h1:(8:Nat) ^ j≤8 ^ 6:=Nat.pow_le_pow_right (by decide) (by lia)
   have h2:(8:Nat) ^ 6=262144:=by decide
   lia
  have hfo:∀ k∈ps.map (·.1),Ok k:=fun k hk=>by
   obtain ⟨p,hp',rfl⟩:=List.mem_map.mp hk
   exact (hp p hp').1
  have e1:bE (.one 0) qYes (vOp ixD (ai 0) (vC (.int 0))) [none] (ps.map prD)=.ok (.lst ((ps.map (·.1)).map av)):=by
   rw [List.map_map]
   exact cg prD _ rfl (by lia) fun p _=>am rfl rfl bW
  have hq:iQ [A,some (.lst (ps.map prD)),o2,o3]=.ok (rs (ps.map (·.1)) ((ps.map (·.1)).drop 1)):=bb (ao (ac (bI (cR rfl rfl) e1) rfl) (mD hfo (by rw [List.length_map];lia) (.inr rfl))) rfl
  cases qr:rs (ps.map (·.1)) ((ps.map (·.1)).drop 1) with
  | false =>
   rw [qr] at hq
   refine ⟨false,(aK (xR hq)).trans (au rfl),fun z=>(by cases z),?_⟩
   rintro ⟨h,qs,rfl,hn,hs⟩
   have:=heads (fun q hq=>(hn q hq).pos (by decide)) hs
   rw [List.map_map] at qr
   have e:(qs.map ((fun x=>x.1) ∘ pq))=qs.map fun q=>hd q.1:=rfl
   rw [e,lF.mpr this] at qr
   exact qr.symm
  | true =>
  rw [qr] at hq
  have e2:bE (.one 0) qYes (vOp ixD (ai 0) (vC (.int 1))) [none] (ps.map prD)=.ok (.lst (ps.map (·.2))):=cg prD _ rfl (by lia) fun p _=>am rfl rfl cb
  have hB0:∀ T:FS,aR (bQ 2 w20x) T [A,some (.lst (ps.map prD)),o2,o3]=T [A,some (.lst (ps.map prD)),some (.lst (ps.map (·.2))),o3]:=fun T=>aK (bf (bI (cR rfl rfl) e2))
  have hth:∀ c∈ps.map (·.2),Th m c:=fun c hc=>by
   obtain ⟨p,hp',rfl⟩:=List.mem_map.mp hc
   exact (hp p hp').2
  obtain ⟨lv,el,hlv⟩:=wH (ε:=al du (ae (ai 0) (ae (vC iL) aq))) (P:=fun c=>∃ ks,Leaf 4 c ks) (ι:=jE (ai 2)) (δ:=[A,some (.lst (ps.map prD)),some (.lst (ps.map (·.2))),o3]) (xs:=ps.map (·.2)) (cR rfl rfl) (by rw [List.length_map];lia) fun c hc=>by
   obtain ⟨b,e,hb⟩:=uW (hth c hc) 4
   exact ⟨b,ao (ac rfl (ac rfl rfl)) e,hb⟩
  obtain ⟨br,eb,hbr⟩:=wH (ε:=al b9 (ae (ai 0) (ae (vC iL) aq))) (P:=fun c=>∃ xs,Branch 4 c xs) (ι:=jE (ai 2)) (δ:=[A,some (.lst (ps.map prD)),some (.lst (ps.map (·.2))),some (.bl lv)]) (xs:=ps.map (·.2)) (cR rfl rfl) (by rw [List.length_map];lia) fun c hc=>by
   obtain ⟨b,e,hb⟩:=nv (hth c hc) 4
   exact ⟨b,ao (ac rfl (ac rfl rfl)) e,hb⟩
  have hB1:∀ T:FS,aR (bQ 3 (al allD (ae w12x aq))) T [A,some (.lst (ps.map prD)),some (.lst (ps.map (·.2))),o3]=T [A,some (.lst (ps.map prD)),some (.lst (ps.map (·.2))),some (.bl lv)]:=fun T=>aK (bf el)
  have hq1:qAnd (dX (fK (ai 3))) w4x [A,some (.lst (ps.map prD)),some (.lst (ps.map (·.2))),some (.bl lv)]=.ok (!lv&&!br):=by
   have h1:dX (fK (ai 3)) [A,some (.lst (ps.map prD)),some (.lst (ps.map (·.2))),some (.bl lv)]=.ok (!lv):=dJ (bb rfl rfl)
   cases lv with
   | true=>exact mY h1
   | false=>exact kT h1 (nI eb)
  have hex:∀ {p:K4×D} {P:D→Prop},p∈ps→(∀ x∈ps.map (·.2),P x)→P p.2:=fun hp' h=>h _ (List.mem_map.mpr ⟨_,hp',rfl⟩)
  have hno0:lv=false→¬ Lv ps 0:=fun hf hL=>by
   have:lv=true:=hlv.mpr fun c hc=>by
    obtain ⟨p,hp',rfl⟩:=List.mem_map.mp hc
    exact xA hL p hp'
   rw [hf] at this
   cases this
  cases qa:(!lv&&!br) with
  | true =>
   rw [qa] at hq1
   refine ⟨false,aN (wq hq ((hB0 _).trans ((hB1 _).trans (aN ((aS hq1).trans (au rfl)))))),fun z=>(by cases z),?_⟩
   rw [Bool.and_eq_true,Bool.not_eq_true',Bool.not_eq_true'] at qa
   rintro ⟨h,hL⟩
   cases h with
   | zero=>exact absurd hL (hno0 qa.1)
   | succ h =>
    have:br=true:=hbr.mpr fun c hc=>by
     obtain ⟨p,hp',rfl⟩:=List.mem_map.mp hc
     exact sM hL p hp'
    rw [qa.2] at this
    exact this
  | false =>
  rw [qa] at hq1
  obtain ⟨p0,hp0⟩:=List.exists_mem_of_ne_nil ps hne
  cases lv with
  | true =>
   have hall:=hlv.mp rfl
   obtain ⟨zs,rfl,hz⟩:=pick (γ:=List K4) lfD (fun ks=>Rows ks∧4≤ks.length∧ks.length≤8) ps fun p hp'=>by
    obtain ⟨ks,h1,h2,h3,h4⟩:=hex (P:=fun c=>∃ ks,Leaf 4 c ks) hp' hall
    exact ⟨ks,⟨h1,h2,h3⟩,h4⟩
   have hzn:∀ z∈zs,z.2≠[]:=fun z hz' e=>by have:=(hz z hz').2.1;rw [e] at this;exact absurd this (by decide)
   have hzo:∀ z∈zs,Ok z.1:=fun z hz'=>(hp (z.1,lfD z.2) (List.mem_map.mpr ⟨z,hz',rfl⟩)).1
   obtain ⟨ff,ef,hff⟩:∃ b,al allD (ae (cC [none] (jE (ai 1)) (.one 0) qYes w0x) aq) [A,some (.lst ((zs.map fun z=>(z.1,lfD z.2)).map prD)),some (.lst ((zs.map fun z=>(z.1,lfD z.2)).map (·.2))),some (.bl true)]=.ok (.bl b)∧(b=true ↔ ∀ z∈zs,z.1=hd z.2):=by
    rw [List.length_map] at hmil
    have ec:bE (.one 0) qYes w0x [none] (zs.map (prD ∘ fun z=>(z.1,lfD z.2)))=.ok (.lst (zs.map fun z=>D.bl (decide (z.1=hd z.2)))) :=
     cg _ _ rfl (by lia) fun z hz'=>am (am rfl rfl bW) (ao (ac (am rfl rfl cb) rfl) (qZ (hzn z hz'))) ((hzo z hz').eq ((hz z hz').1.o _ (eB (hzn z hz'))))
    refine ⟨(zs.map fun z=>decide (z.1=hd z.2)).all id,ao (ac (bI (cR rfl rfl) (by rw [List.map_map];exact ec)) rfl) (pE (fW _ zs)),?_⟩
    rw [List.all_map,List.all_eq_true]
    exact ⟨fun h z hz'=>of_decide_eq_true (h z hz'),fun h z hz'=>decide_eq_true (h z hz')⟩
   have hq2:=nI ef
   have hfacts:∀ h,Lv (zs.map fun z=>(z.1,lfD z.2)) h→(∀ z∈zs,z.1=hd z.2)∧((zs.map (·.2)).flatten).Pairwise Lt4:=by
    rintro h ⟨qs,e,hq,hs⟩
    have e3:(zs.map fun z=>(z.2,lfD z.2))=qs∧((zs.map fun z=>(z.2,lfD z.2))≠[]→0=h):=uJ _ _ (fun x hx=>by
      obtain ⟨z,hz',rfl⟩:=List.mem_map.mp hx
      exact ⟨(hz z hz').2.1,(hz z hz').2.2,rfl,(hz z hz').1.o⟩) hq (by
      have:=congrArg (List.map Prod.snd) e
      rw [List.map_map,List.map_map] at this
      rw [List.map_map]
      exact this)
    obtain ⟨rfl,_⟩:=e3
    rw [List.map_map] at e hs
    refine ⟨fun z hz'=>?_,hs⟩
    have:=List.map_inj_left.mp e z hz'
    exact congrArg Prod.fst this
   cases ff with
   | false =>
    refine ⟨false,aN (wq hq ((hB0 _).trans ((hB1 _).trans ((skip hq1).trans (aN ((aS hq2).trans (au rfl))))))),fun z=>(by cases z),?_⟩
    rintro ⟨h,hL⟩
    exact hff.mpr (hfacts h hL).1
   | true =>
    have hfe:=hff.mp rfl
    rw [List.length_map] at hmil
    have hm3:m≤15+3:=by lia
    have hfl:∀ k∈(zs.map (·.2)).flatten,Ok k:=fun k hk=>by
     obtain ⟨l,hl',hk⟩:=List.mem_flatten.mp hk
     obtain ⟨z,hz',rfl⟩:=List.mem_map.mp hl'
     exact (hz z hz').1.o k hk
    have hj5:j≤5:=by
     obtain ⟨z0,hz0,rfl⟩:=List.mem_map.mp hp0
     obtain ⟨m',e,_⟩:=gd (hp _ hp0).2
     lia
    have hsm:zs.length≤32768:=by
     have h1:(8:Nat) ^ j≤8 ^ 5:=Nat.pow_le_pow_right (by decide) hj5
     have h2:(8:Nat) ^ 5=32768:=by decide
     rw [List.length_map] at hl
     lia
    have hfn:((zs.map (·.2)).flatten).length≤1000000:=by
     have key:∀ zs:List (K4×List K4),(∀ z∈zs,z.2.length≤8)→((zs.map (·.2)).flatten).length≤zs.length*8:=by
      intro zs
      induction zs with
      | nil=>intro _;simp
      | cons z r ih =>
       intro h
       have h1:=h z (by simp)
       have h2:=ih fun x hx=>h x (List.mem_cons_of_mem _ hx)
       rw [List.map_cons,List.flatten_cons,List.length_append,List.length_cons]
       lia
     have:=key zs fun z hz'=>(hz z hz').2.2
     lia
    have et:bF [.lst ((zs.map fun z=>(z.1,lfD z.2)).map (·.2))]=.ok (.lst ((zs.map (·.2)).flatten.map av)):=by
     have:=things (rows:=zs.map fun z=>((.str "leaf":D),z.2.map av)) (fun r hr=>by
      obtain ⟨z,hz',rfl⟩:=List.mem_map.mp hr
      rw [List.length_map];exact (hz z hz').2.2) (by rw [List.length_map];lia)
     rw [List.map_map] at this ⊢
     refine Eq.trans this ?_
     rw [List.map_map,List.map_flatten,List.map_map]
     rfl
    have hret:iB [A,some (.lst ((zs.map fun z=>(z.1,lfD z.2)).map prD)),o2,o3]=.ok (.rt (.bl (rs (zs.map (·.2)).flatten ((zs.map (·.2)).flatten.drop 1)))):=(hB0 _).trans ((hB1 _).trans ((skip hq1).trans ((skip hq2).trans (aN ((aS (bb rfl rfl)).trans (au (ao (ac (ao (ac rfl rfl) et) rfl) (mD hfl hfn (.inr rfl)))))))))
    refine ⟨rs (zs.map (·.2)).flatten ((zs.map (·.2)).flatten.drop 1),aN (wq hq hret),?_⟩
    rw [lF]
    constructor
    ·intro hs
     refine ⟨0,zs.map (fun z=>(z.2,lfD z.2)),?_,fun q hq'=>?_,?_⟩
     ·rw [List.map_map]
      exact List.map_congr_left fun z hz'=>Prod.ext (hfe z hz') rfl
     ·obtain ⟨z,hz',rfl⟩:=List.mem_map.mp hq'
      exact ⟨(hz z hz').2.1,(hz z hz').2.2,rfl,(hz z hz').1.o⟩
     ·rw [List.map_map];exact hs
    ·rintro ⟨h,hL⟩
     exact (hfacts h hL).2
  | false =>
   have hbt:br=true:=by cases br with
    | true=>rfl
    | false=>cases qa
   have hall:=hbr.mp hbt
   obtain ⟨zs,rfl,hz⟩:=pick (γ:=List (K4×D)) brD (fun xs=>(∀ p∈xs,Ok p.1)∧4≤xs.length∧xs.length≤8) ps fun p hp'=>by
    obtain ⟨xs,h1,h2,h3,h4⟩:=hex (P:=fun c=>∃ xs,Branch 4 c xs) hp' hall
    exact ⟨xs,⟨h1,h2,h3⟩,h4⟩
   have hzn:∀ z∈zs,z.2≠[]:=fun z hz' e=>by have:=(hz z hz').2.1;rw [e] at this;exact absurd this (by decide)
   have hzo:∀ z∈zs,Ok z.1:=fun z hz'=>(hp (z.1,brD z.2) (List.mem_map.mpr ⟨z,hz',rfl⟩)).1
   have hho:∀ z∈zs,Ok (T23.hp z.2):=fun z hz'=>by
    cases e:z.2 with
    | nil=>exact absurd e (hzn z hz')
    | cons x r=>exact (hz z hz').1 x (by rw [e];simp)
   obtain ⟨ff,ef,hff⟩:∃ b,al allD (ae (cC [none] (jE (ai 1)) (.one 0) qYes w0x) aq) [A,some (.lst ((zs.map fun z=>(z.1,brD z.2)).map prD)),some (.lst ((zs.map fun z=>(z.1,brD z.2)).map (·.2))),some (.bl false)]=.ok (.bl b)∧(b=true ↔ ∀ z∈zs,z.1=T23.hp z.2):=by
    rw [List.length_map] at hmil
    have ec:bE (.one 0) qYes w0x [none] (zs.map (prD ∘ fun z=>(z.1,brD z.2)))=.ok (.lst (zs.map fun z=>D.bl (decide (z.1=T23.hp z.2)))) :=
     cg _ _ rfl (by lia) fun z hz'=>am (am rfl rfl bW) (ao (ac (am rfl rfl cb) rfl) (ny (hzn z hz'))) ((hzo z hz').eq (hho z hz'))
    refine ⟨(zs.map fun z=>decide (z.1=T23.hp z.2)).all id,ao (ac (bI (cR rfl rfl) (by rw [List.map_map];exact ec)) rfl) (pE (fW _ zs)),?_⟩
    rw [List.all_map,List.all_eq_true]
    exact ⟨fun h z hz'=>of_decide_eq_true (h z hz'),fun h z hz'=>decide_eq_true (h z hz')⟩
   have hq2:=nI ef
   have hno:=hno0 rfl
   cases ff with
   | false =>
    refine ⟨false,aN (wq hq ((hB0 _).trans ((hB1 _).trans ((skip hq1).trans (aN ((aS hq2).trans (au rfl))))))),fun z=>(by cases z),?_⟩
    rintro ⟨h,hL⟩
    cases h with
    | zero=>exact absurd hL hno
    | succ h =>
     refine hff.mpr fun z hz'=>?_
     obtain ⟨qs,e,hq,hs⟩:=hL
     have hmem:(z.1,brD z.2)∈qs.map pq:=by rw [← e];exact List.mem_map.mpr ⟨z,hz',rfl⟩
     obtain ⟨q,hq',ep⟩:=List.mem_map.mp hmem
     obtain ⟨xs,l1,l2,hx,rfl⟩:=hq q hq'
     have e1:hd (brN xs).1=z.1:=congrArg Prod.fst ep
     have e2:(brN xs).2=brD z.2:=congrArg Prod.snd ep
     rw [qN] at e2
     have e2:=(tup2 e2).2
     injection e2 with e2
     have e3:=p9 (fun p hp=>by
      obtain ⟨x,hx',rfl⟩:=List.mem_map.mp hp
      have hn:=hx x hx'
      exact hn.ok _ (eB (hn.pos (by decide)))) (hz z hz').1 e2
     rw [← e1,← e3]
     exact AG (fun x hx'=>(hx x hx').pos (by decide)) fun z0=>by rw [z0] at l1;exact absurd l1.1 (by decide)
   | true =>
    have hfe:=hff.mp rfl
    have hcell:∀ z∈zs,∃ m',m=m'+3∧∀ p∈z.2,Th m' p.2:=fun z hz'=>by
     obtain ⟨m1,e,hr⟩:=gd (hp (z.1,brD z.2) (List.mem_map.mpr ⟨z,hz',rfl⟩)).2
     cases ez:z.2 with
     | nil=>exact absurd ez (hzn z hz')
     | cons x r =>
      obtain ⟨m2,e2,_,_⟩:=(hr (prD x) (by rw [ez];simp)).tupI
      refine ⟨m2,by lia,fun p hp'=>?_⟩
      obtain ⟨m3,e3,_,hy⟩:=(hr (prD p) (by rw [ez];exact List.mem_map.mpr ⟨p,hp',rfl⟩)).tupI
      have:m2=m3:=by lia
      subst this
      exact hy p.2 (by simp)
    obtain ⟨z0,hz0,e0⟩:=List.mem_map.mp hp0
    obtain ⟨m',rfl,_⟩:=hcell z0 hz0
    have hj5:j≤5:=by lia
    rw [List.length_map] at hl hmil
    have hsm:zs.length≤32768:=by
     have h1:(8:Nat) ^ j≤8 ^ 5:=Nat.pow_le_pow_right (by decide) hj5
     have h2:(8:Nat) ^ 5=32768:=by decide
     lia
    have hfn:((zs.map (·.2)).flatten).length≤8 ^ (j+1):=by
     have key:∀ zs:List (K4×List (K4×D)),(∀ z∈zs,z.2.length≤8)→((zs.map (·.2)).flatten).length≤zs.length*8:=by
      intro zs
      induction zs with
      | nil=>intro _;simp
      | cons z r ih =>
       intro h
       have h1:=h z (by simp)
       have h2:=ih fun x hx=>h x (List.mem_cons_of_mem _ hx)
       rw [List.map_cons,List.flatten_cons,List.length_append,List.length_cons]
       lia
     have:=key zs fun z hz'=>(hz z hz').2.2
     rw [Nat.pow_succ]
     lia
    have et:bF [.lst ((zs.map fun z=>(z.1,brD z.2)).map (·.2))]=.ok (.lst ((zs.map (·.2)).flatten.map prD)):=by
     have:=things (rows:=zs.map fun z=>((.str "branch":D),z.2.map prD)) (fun r hr=>by
      obtain ⟨z,hz',rfl⟩:=List.mem_map.mp hr
      rw [List.length_map];exact (hz z hz').2.2) (by rw [List.length_map];lia)
     rw [List.map_map] at this ⊢
     refine Eq.trans this ?_
     rw [List.map_map,List.map_flatten,List.map_map]
     rfl
    have hstep:iB [A,some (.lst ((zs.map fun z=>(z.1,brD z.2)).map prD)),o2,o3]=.ok (.nx [A,some (.lst ((zs.map (·.2)).flatten.map prD)),some (.lst ((zs.map fun z=>(z.1,brD z.2)).map (·.2))),some (.bl false)]) :=
     (hB0 _).trans ((hB1 _).trans ((skip hq1).trans ((skip hq2).trans ((skip (bb rfl rfl)).trans (bf (ao (ac rfl rfl) et))))))
    obtain ⟨b,eL,hb⟩:=wK (A:=A) n m' (j+1) (zs.map (·.2)).flatten (some (.lst ((zs.map fun z=>(z.1,brD z.2)).map (·.2)))) (some (.bl false)) (by lia) (by lia) (fun e=>by
     cases e1:z0.2 with
     | nil=>exact hzn z0 hz0 e1
     | cons x r =>
      have:x∈(zs.map (·.2)).flatten:=List.mem_flatten.mpr ⟨z0.2,List.mem_map.mpr ⟨z0,hz0,rfl⟩,by rw [e1];simp⟩
      rw [e] at this
      cases this) hfn fun p hp'=>by
     obtain ⟨l,hl',hk⟩:=List.mem_flatten.mp hp'
     obtain ⟨z,hz',rfl⟩:=List.mem_map.mp hl'
     obtain ⟨m2,e2,hy⟩:=hcell z hz'
     have:m'=m2:=by lia
     subst this
     exact ⟨(hz z hz').1 p hk,hy p hk⟩
    refine ⟨b,?_,hb.trans ⟨?_,?_⟩⟩
    ·rw [vD,sJ hq hstep,← vD];exact eL
    ·rintro ⟨h,hL⟩
     exact ⟨h+1,(lower hz hfe h).mpr hL⟩
    ·rintro ⟨h,hL⟩
     cases h with
     | zero=>exact absurd hL hno
     | succ h=>exact ⟨h,(lower hz hfe h).mp hL⟩
theorem pV {d:D} (h:Th 18 d):∃ b,c7 [d]=.ok (.bl b)∧(b=true ↔ ∃ h ks,Is 0 2 d h ks):=by
 rw [rR,gw]
 obtain ⟨b1,e1,hb1⟩:=uW h 0
 obtain ⟨b2,e2,hb2⟩:=nv h 2
 have hq1:fK (al du (ae (ai 0) (ae (vC (.int 0)) aq))) [some d,none,none,none]=.ok b1:=bb (ao (ac rfl (ac rfl rfl)) e1) rfl
 have hq2:dX (fK (al b9 (ae (ai 0) (ae (vC cP) aq)))) [some d,none,none,none]=.ok (!b2):=nI (ao (ac rfl (ac rfl rfl)) e2)
 have h0:b1=true ↔ ∃ ks,Is 0 2 d 0 ks:=hb1.trans ⟨fun ⟨ks,hr,h1,h2,h3⟩=>⟨ks,⟨h1,h2,h3,hr.o⟩,hr.s⟩,fun ⟨ks,⟨h1,h2,h3,h4⟩,h5⟩=>⟨ks,⟨h5,h4⟩,h1,h2,h3⟩⟩
 cases b1 with
 | true =>
  obtain ⟨ks,hk⟩:=h0.mp rfl
  exact ⟨true,ax (aN ((aS hq1).trans (au rfl))),fun _=>⟨0,ks,hk⟩,fun _=>rfl⟩
 | false =>
 have hn0:∀ ks,¬ Is 0 2 d 0 ks:=fun ks hk=>Bool.false_ne_true (h0.mpr ⟨ks,hk⟩)
 have hup:∀ ps,Branch 2 d ps→∀ h,(∃ ks,Is 0 2 d (h+1) ks) ↔ Lv ps h:=by
  rintro ps ⟨ho,l1,l2,rfl⟩ h
  constructor
  ·rintro ⟨ks,⟨qs,_,_,hq,e⟩,hs⟩
   have e3:=(tup2 (congrArg Prod.snd e)).2
   injection e3 with e3
   have e4:ks=_:=congrArg Prod.fst e
   rw [← mr] at e3
   exact ⟨qs,p9 ho (fun p hp=>by
    obtain ⟨x,hx',rfl⟩:=List.mem_map.mp hp
    have hn:=hq x hx'
    exact hn.ok _ (eB (hn.pos (by decide)))) e3,hq,by rw [e4] at hs;exact hs⟩
  ·rintro ⟨qs,rfl,hq,hs⟩
   rw [List.length_map] at l1 l2
   exact ⟨_,⟨qs,⟨by lia,l1⟩,l2,hq,by rw [mr];rfl⟩,hs⟩
 cases b2 with
 | false =>
  refine ⟨false,ax ((skip hq1).trans (aN ((aS hq2).trans (au rfl)))),fun z=>(by cases z),?_⟩
  rintro ⟨h,ks,hi⟩
  cases h with
  | zero=>exact absurd hi (hn0 ks)
  | succ h =>
   obtain ⟨⟨qs,l1,l2,hq,e⟩,_⟩:=hi
   refine hb2.mpr ⟨qs.map pq,fun p hp=>?_,by rw [List.length_map];exact l1.2,by rw [List.length_map];exact l2,?_⟩
   ·obtain ⟨x,hx',rfl⟩:=List.mem_map.mp hp
    have hn:=hq x hx'
    exact hn.ok _ (eB (hn.pos (by decide)))
   ·rw [mr];exact congrArg Prod.snd e
 | true =>
  obtain ⟨ps,hB⟩:=hb2.mp rfl
  have hup:=hup ps hB
  obtain ⟨ho,l1,l2,rfl⟩:=hB
  obtain ⟨m,em,hr⟩:=gd h
  have em:m=16:=by lia
  subst em
  have hps:∀ p∈ps,Ok p.1∧Th 15 p.2:=fun p hp=>by
   obtain ⟨m2,e2,_,hx⟩:=(hr (prD p) (List.mem_map.mpr ⟨p,hp,rfl⟩)).tupI
   have:m2=15:=by lia
   subst this
   exact ⟨ho p hp,hx p.2 (by simp)⟩
  obtain ⟨b,eL,hb⟩:=wK (A:=some (brD ps)) 1000 15 1 ps none none (by decide) (by decide) (fun e=>by rw [e] at l1;exact absurd l1 (by decide)) (by lia) hps
  refine ⟨b,ax ((skip hq1).trans ((skip hq2).trans ((aK (bf (ao (ac (am rfl rfl cb) rfl) wu))).trans eL))),hb.trans ⟨?_,?_⟩⟩
  ·rintro ⟨h,hL⟩
   obtain ⟨ks,hk⟩:=(hup h).mpr hL
   exact ⟨h+1,ks,hk⟩
  ·rintro ⟨h,ks,hk⟩
   cases h with
   | zero=>exact absurd hk (hn0 ks)
   | succ h=>exact ⟨h,(hup h).mp ⟨ks,hk⟩⟩
abbrev cQ:FT:=(qBl (vOp gtD (al lenD (ae (ai 0) aq)) (ai 2)))
abbrev cT:FS:=(aR (dW 4 (al tupD (ae (vSl slD (ai 0) cx (bU (ai 5))) aq))) (aR (bQ 0 (vSl slD (ai 0) (bU (ai 5)) cx)) (bQ 3 (vOp modD w14x (vC (.int 2147483647))))))
abbrev cB:FS:=(aR (bQ 5 w13x) (aR (sIf (qBl w23x) (bQ 5 (vOp subD (al lenD (ae (ai 0) aq)) (ai 1))) aV) cT))
def Lm (lo mo:Nat):Prop:=(lo=3∧mo=8)∨(lo=4∧mo=8)∨(lo=4∧mo=9)
structure Pt (lo mo:Nat) (xs:List D) (rs:List (List D)) (ys:List D):Prop where
 f:rs.flatten++ys=xs
 n:ys≠[]
 a:∀ r∈rs,lo≤r.length∧r.length≤mo
 l:lo*rs.length+ys.length≤xs.length
 y:rs=[]∨lo≤ys.length
 z:rs=[]∨mo < xs.length
theorem wQ {lo mo:Nat} {xs ys:List D} {rs:List (List D)} {x m:Int} (h:Pt lo mo xs rs ys) (hm:Lm lo mo) (hl:xs.length≤900) (h0:(lo:Int)≤m) (h8:m≤(mo:Int)) (h1:m≤(ys.length:Int) - lo) (hy:(mo:Int) < (ys.length:Int)) :
  ∃ (rs':List (List D)) (ys':List D) (x':Int),cT [some (.lst ys),some (.int lo),some (.int mo),some (.int x),some (.lst (rs.map D.tup)),some (.int m)]=.ok (.nx [some (.lst ys'),some (.int lo),some (.int mo),some (.int x'),some (.lst (rs'.map D.tup)),some (.int m)])∧Pt lo mo xs rs' ys'∧ys'.length < ys.length:=by
 have hd:(ys.drop m.toNat).length=ys.length - m.toNat:=List.length_drop
 have hL:=h.l
 have hlo:3≤lo:=by rcases hm with z|z|z <;> lia
 have hrs:rs.length≤lo*rs.length:=Nat.le_mul_of_pos_left _ (by lia)
 refine ⟨rs++[ys.take m.toNat],ys.drop m.toNat,(x*48271+11) % 2147483647,?_,⟨?_,fun z=>?_,fun r hr=>?_,?_,.inr (by lia),.inr (by lia)⟩,by lia⟩
 ·rw [List.map_append]
  exact (aK (vh (xs:=rs.map D.tup) rfl (ao (ac (rZ rfl rfl (cO rfl) (yJ.trans (by rw [jS (by lia)]))) rfl) xD) (by rw [List.length_map];lia))).trans ((aK (bf (rZ rfl (cO rfl) rfl (yJ.trans (by rw [gJ (by lia)]))))).trans (bf (aU (bO (kH rfl rfl) rfl) rfl)))
 ·rw [← h.f,List.flatten_append];simp
 ·rw [z] at hd;simp at hd;lia
 ·rcases List.mem_append.mp hr with q|q
  ·exact h.a r q
  ·obtain rfl:r=_:=by simpa using q
   rw [List.length_take]
   lia
 ·rw [List.length_append,hd,Nat.mul_add]
  simp
  lia
theorem yT {lo mo:Nat} {xs ys:List D} {rs:List (List D)} {x:Int} {o:Option D} (h:Pt lo mo xs rs ys) (hm:Lm lo mo) (hl:xs.length≤900) (hy:(mo:Int) < (ys.length:Int)) :
  ∃ (rs':List (List D)) (ys':List D) (x':Int) (o':Option D),cB [some (.lst ys),some (.int lo),some (.int mo),some (.int x),some (.lst (rs.map D.tup)),o]=.ok (.nx [some (.lst ys'),some (.int lo),some (.int mo),some (.int x'),some (.lst (rs'.map D.tup)),o'])∧Pt lo mo xs rs' ys'∧ys'.length < ys.length:=by
 have hp:0 < (mo:Int) - lo+1:=by rcases hm with z|z|z <;> lia
 have b0:0≤x % ((mo:Int) - lo+1):=Int.emod_nonneg _ (by lia)
 have b1:x % ((mo:Int) - lo+1) < (mo:Int) - lo+1:=Int.emod_lt_of_pos _ hp
 generalize ez:x % ((mo:Int) - lo+1)=z at b0 b1
 have e5:∀ T:FS,aR (bQ 5 w13x) T [some (.lst ys),some (.int lo),some (.int mo),some (.int x),some (.lst (rs.map D.tup)),o]=T [some (.lst ys),some (.int lo),some (.int mo),some (.int x),some (.lst (rs.map D.tup)),some (.int ((lo:Int)+z))]:=fun T=>by
  rw [← ez]
  exact aK (bf (bO rfl (aU rfl (bO (dG rfl rfl) rfl) hp)))
 have hq:qBl w23x [some (.lst ys),some (.int lo),some (.int mo),some (.int x),some (.lst (rs.map D.tup)),some (.int ((lo:Int)+z))]=.ok (decide ((ys.length:Int) - ((lo:Int)+z) < (lo:Int))):=aZ (am (dG (bM rfl wv) rfl) rfl sv)
 by_cases q:(ys.length:Int) - ((lo:Int)+z) < (lo:Int)
 ·rw [decide_eq_true q] at hq
  obtain ⟨rs',ys',x',e,h'⟩:=wQ (x:=x) (m:=(ys.length:Int) - lo) h hm hl (by rcases hm with z|z|z <;> lia) (by lia) (by lia) hy
  exact ⟨rs',ys',x',_,(e5 _).trans ((aK ((aS hq).trans (bf (dG (bM rfl wv) rfl)))).trans e),h'⟩
 ·rw [decide_eq_false q] at hq
  obtain ⟨rs',ys',x',e,h'⟩:=wQ (x:=x) (m:=(lo:Int)+z) h hm hl (by lia) (by lia) (by lia) hy
  exact ⟨rs',ys',x',_,(e5 _).trans ((skip hq).trans e),h'⟩
theorem w6 {lo mo:Nat} {xs:List D} (hm:Lm lo mo) (hl:xs.length≤900):∀ (n:Nat) (rs:List (List D)) (ys:List D) (x:Int) (o:Option D),Pt lo mo xs rs ys→ys.length < n →
  ∃ (rs':List (List D)) (ys':List D) (x':Int) (o':Option D),ck cQ cB n [some (.lst ys),some (.int lo),some (.int mo),some (.int x),some (.lst (rs.map D.tup)),o]=.ok (.nx [some (.lst ys'),some (.int lo),some (.int mo),some (.int x'),some (.lst (rs'.map D.tup)),o'])∧Pt lo mo xs rs' ys'∧ys'.length≤mo
 | 0,_,_,_,_,_,hn=>absurd hn (Nat.not_lt_zero _)
 | n+1,rs,ys,x,o,h,hn=>by
  have hq:cQ [some (.lst ys),some (.int lo),some (.int mo),some (.int x),some (.lst (rs.map D.tup)),o]=.ok (decide ((mo:Int) < (ys.length:Int))):=aZ (am (bM rfl wv) rfl AV)
  by_cases hy:(mo:Int) < (ys.length:Int)
  ·rw [decide_eq_true hy] at hq
   obtain ⟨rs1,ys1,x1,o1,e1,h1,l1⟩:=yT (x:=x) (o:=o) h hm hl hy
   obtain ⟨rs2,ys2,x2,o2,e2,h2⟩:=w6 hm hl n rs1 ys1 x1 o1 h1 (by lia)
   exact ⟨rs2,ys2,x2,o2,(sJ hq e1).trans e2,h2⟩
  ·rw [decide_eq_false hy] at hq
   exact ⟨rs,ys,x,o,xR hq,h,by lia⟩
structure Runs {β:Type} (lo mo:Nat) (xs:List β) (runs:List (List β)):Prop where
 f:runs.flatten=xs
 a:∀ r∈runs,r≠[]∧r.length≤mo
 s:xs.length≤mo→runs=[xs]
 m:mo < xs.length→2≤runs.length∧(∀ r∈runs,lo≤r.length)∧lo*runs.length≤xs.length
theorem cut {lo mo:Nat} {xs:List D} {x:Int} (hn:xs≠[]) (hm:Lm lo mo) (hl:xs.length≤900):∃ runs:List (List D),gX [.lst xs,.int lo,.int mo,.int x]=.ok (.lst (runs.map D.tup))∧Runs lo mo xs runs:=by
 obtain ⟨rs,ys,x',o',e,h,hy8⟩:=w6 (xs:=xs) hm hl 1000 [] xs x none ⟨rfl,hn,fun r hr=>(by cases hr),by simp,.inl rfl,.inl rfl⟩ (by lia)
 have hy:0 < ys.length:=List.length_pos_iff.mpr h.n
 have hr:=h.l
 have hlo:3≤lo:=by rcases hm with z|z|z <;> lia
 have hrs:rs.length≤lo*rs.length:=Nat.le_mul_of_pos_left _ (by lia)
 refine ⟨rs++[ys],?_,by rw [List.flatten_append,← h.f];simp,fun r hr=>?_,fun hx=>?_,fun hx=>?_⟩
 ·rw [yw,mI,List.map_append]
  refine ax ((aK (qJ (ce rfl))).trans ((aK e).trans (au (am rfl (ce (ac (ao (ac rfl rfl) xD) rfl)) (add_l.trans (if_pos ?_))))))
  rw [List.length_map]
  simp
  lia
 ·rcases List.mem_append.mp hr with q|q
  ·have:=h.a r q
   exact ⟨fun z=>by rw [z] at this;simp at this;lia,this.2⟩
  ·obtain rfl:r=_:=by simpa using q
   exact ⟨h.n,by lia⟩
 ·rcases h.z with z|z
  ·have e:=h.f
   rw [z] at e ⊢
   have e:ys=xs:=e
   rw [e];rfl
  ·lia
 ·have hne:rs≠[]:=fun z=>by
   have e:=h.f
   rw [z] at e
   have e:ys=xs:=e
   rw [e] at hy8
   lia
  have:=List.length_pos_iff.mpr hne
  have hyl:lo≤ys.length:=by
   rcases h.y with z|z
   ·exact absurd z hne
   ·exact z
  refine ⟨by rw [List.length_append];simp;lia,fun r hr=>?_,by rw [List.length_append,Nat.mul_add];simp;lia⟩
  rcases List.mem_append.mp hr with q|q
  ·exact (h.a r q).1
  ·obtain rfl:r=_:=by simpa using q
   exact hyl
theorem wE {β:Type} (f:β→D) {lo mo:Nat} {xs:List β} {x:Int} (hn:xs≠[]) (hm:Lm lo mo) (hl:xs.length≤900):∃ runs:List (List β),gX [.lst (xs.map f),.int lo,.int mo,.int x]=.ok (.lst (runs.map fun r=>D.tup (r.map f)))∧Runs lo mo xs runs:=by
 obtain ⟨runs,e,r⟩:=cut (xs:=xs.map f) (x:=x) (fun z=>hn (List.map_eq_nil_iff.mp z)) hm (by rw [List.length_map];exact hl)
 obtain ⟨kss,rfl,e2⟩:=liftG f runs xs r.f
 have hin:∀ q∈kss,q.map f∈kss.map (List.map f):=fun q hq=>List.mem_map.mpr ⟨q,hq,rfl⟩
 refine ⟨kss,by rw [e,List.map_map];rfl,e2,fun q hq=>?_,fun h=>?_,fun h=>?_⟩
 ·have:=r.a _ (hin q hq)
  rw [List.length_map] at this
  exact ⟨fun z=>this.1 (by rw [z];rfl),this.2⟩
 ·have:=r.s (by rw [List.length_map];exact h)
  have hlen:kss.length=1:=by have:=congrArg List.length this;rw [List.length_map] at this;exact this
  match kss,hlen,e2 with
  | [q],_,e2=>rw [← e2];simp
 ·have:=r.m (by rw [List.length_map];exact h)
  rw [List.length_map,List.length_map] at this
  exact ⟨this.1,fun q hq=>by have:=this.2.1 _ (hin q hq);rw [List.length_map] at this;exact this,this.2.2⟩
section
variable {α γ:Type} (g:α→D) (u:γ→D) (aL:List α→γ) (aB:List γ→γ)
def fD (p:γ×D):D:=.tup [u p.1,p.2]
def nL (run:List α):γ×D:=(aL run,.tup [.str "leaf",.tup (run.map g)])
def nB (ps:List (γ×D)):γ×D:=(aB (ps.map (·.1)),.tup [.str "branch",.tup (ps.map (fD u))])
def root (ps:List (γ×D)):D:=match ps with
 | [p]=>p.2
 | _=>.tup [.str "branch",.tup (ps.map (fD u))]
structure Kind (V:γ→Prop) (Inv:Nat→List (γ×D)→Prop) (xs:List α) (lo mo:Nat):Prop where
 l:∀ x r,u (aL (x::r))=g x
 b:∀ c cs,V c→u (aB (c::cs))=u c
 z:∀ runs:List (List α),Runs lo mo xs runs→Inv 0 (runs.map (nL g aL))
 s:∀ (i:Nat) (runs:List (List (γ×D))),Inv i runs.flatten→2≤runs.length→(∀ r∈runs,4≤r.length∧r.length≤8)→Inv (i+1) (runs.map (nB u aB))
 v:∀ i ps,Inv i ps→∀ p∈ps,V p.1
end
abbrev oQ:FT:=(qBl (vOp gtD (al lenD (ae (ai 4) aq)) (ai 2)))
abbrev oB:FS:=(aR (bQ 3 w39x) (bQ 4 w7x))
section
variable {α γ:Type} {g:α→D} {u:γ→D} {aL:List α→γ} {aB:List γ→γ} {V:γ→Prop} {Inv:Nat→List (γ×D)→Prop} {xs:List α} {lo mo:Nat} {A B:Option D}
theorem zW (K:Kind g u aL aB V Inv xs lo mo) {i:Nat} {ps:List (γ×D)} (hi:Inv i ps) (h8:8 < ps.length) (hl:ps.length≤900) (x:Int):∃ (runs:List (List (γ×D))) (x':Int),oB [A,B,some (.int mo),some (.int x),some (.lst (ps.map (fD u)))]=.ok (.nx [A,B,some (.int mo),some (.int x'),some (.lst ((runs.map (nB u aB)).map (fD u)))])∧Inv (i+1) (runs.map (nB u aB))∧4*runs.length≤ps.length∧2≤runs.length:=by
 obtain ⟨runs,e,r⟩:=wE (fD u) (lo:=4) (mo:=8) (x:=(x*69621+7) % 2147483647) (xs:=ps) (fun z=>by rw [z] at h8;simp at h8) (.inr (.inl ⟨rfl,rfl⟩)) hl
 obtain ⟨m1,m2,m3⟩:=r.m h8
 have hf:=r.f
 subst hf
 refine ⟨runs,(x*69621+7) % 2147483647,?_,K.s i runs hi m1 fun q hq=>⟨m2 q hq,(r.a q hq).2⟩,m3,m1⟩
 refine (aK (bf (aU (bO (kH rfl rfl) rfl) rfl))).trans (bf (bI (cR (ao (ac rfl (ac rfl (ac rfl (ac rfl rfl)))) e) rfl) ?_))
 have hrl:runs.length≤1000000:=by lia
 rw [List.map_map]
 refine cg (k:=0) (δ0:=[none]) (as:=runs) (fun (r:List (γ×D))=>D.tup (r.map (fD u))) (fun r=>fD u (nB u aB r)) rfl hrl fun q hq=>?_
 cases eq:q with
 | nil=>exact absurd eq (r.a q hq).1
 | cons p t =>
  have hv:V p.1:=K.v i _ hi p (List.mem_flatten.mpr ⟨q,hq,by rw [eq];simp⟩)
  have hb:=K.b p.1 (t.map (·.1)) hv
  refine (cq (ac (am (am rfl rfl bW) rfl bW) (ac (cq (ac rfl (ac rfl rfl))) rfl))).trans ?_
  show R.ok (D.tup [u p.1,_])=R.ok (D.tup [u (aB (p.1::t.map (·.1))),_])
  rw [hb]
  rfl
theorem wD (K:Kind g u aL aB V Inv xs lo mo) (hm:Lm lo mo):∀ (n i:Nat) (ps:List (γ×D)) (x:Int),Inv i ps→ps≠[]→(ps.length≤8∨ps.length*3*4 ^ i≤601)→i≤3→ps.length < n →
  ∃ (i':Nat) (ps':List (γ×D)) (x':Int),ck oQ oB n [A,B,some (.int mo),some (.int x),some (.lst (ps.map (fD u)))]=.ok (.nx [A,B,some (.int mo),some (.int x'),some (.lst (ps'.map (fD u)))])∧Inv i' ps'∧ps'≠[]∧i'≤3∧ps'.length≤mo
 | 0,_,_,_,_,_,_,_,hn=>absurd hn (Nat.not_lt_zero _)
 | n+1,i,ps,x,hi,hne,hb,h3,hn=>by
  have hq:oQ [A,B,some (.int mo),some (.int x),some (.lst (ps.map (fD u)))]=.ok (decide ((mo:Int) < (ps.length:Int))):=aZ (am (bM rfl (nF _ _)) rfl AV)
  by_cases hy:(mo:Int) < (ps.length:Int)
  ·rw [decide_eq_true hy] at hq
   have h8:8 < ps.length:=by rcases hm with z|z|z <;> lia
   have hb:ps.length*3*4 ^ i≤601:=by
    rcases hb with z|z
    ·lia
    ·exact z
   have hcases:i=0∨i=1∨i=2∨i=3:=by lia
   have hi2:i≤2:=by
    rcases hcases with rfl|rfl|rfl|rfl <;> lia
   have hps:ps.length≤900:=by
    rcases hcases with rfl|rfl|rfl|rfl <;> lia
   obtain ⟨runs,x',e,h1,h2,h4⟩:=zW (A:=A) (B:=B) K hi h8 hps x
   obtain ⟨i',ps',x2,e2,r⟩:=wD K hm n (i+1) (runs.map (nB u aB)) x' h1 (fun z=>by
    rw [List.map_eq_nil_iff.mp z] at h4;simp at h4) (.inr (by
    rw [List.length_map]
    rcases hcases with rfl|rfl|rfl|rfl <;> lia)) (by lia) (by rw [List.length_map];lia)
   exact ⟨i',ps',x2,(sJ hq e).trans e2,r⟩
  ·rw [decide_eq_false hy] at hq
   exact ⟨i,ps,x,xR hq,hi,hne,h3,by lia⟩
theorem qg (K:Kind g u aL aB V Inv xs lo mo) (hm:Lm lo mo) (hn:xs≠[]) (hl:xs.length≤601) (ht:∀ x∈xs,Th 1 (g x)) (x:Int):∃ i ps,Inv i ps∧ps≠[]∧i≤3∧ps.length≤mo∧bR [.lst (xs.map g),.int lo,.int mo,.int x]=.ok (root u ps):=by
 obtain ⟨runs,e,r⟩:=wE g (x:=x) hn hm (by lia)
 have hrn:runs≠[]:=fun z=>by have:=r.f;rw [z] at this;exact hn this.symm
 have hrl:runs.length≤8∨runs.length*3*4 ^ 0≤601:=by
  by_cases q:xs.length≤mo
  ·rw [r.s q];exact .inl (by show 1≤8;decide)
  ·have h3:=(r.m (by lia)).2.2
   have h4:3*runs.length≤lo*runs.length:=Nat.mul_le_mul_right _ (by rcases hm with z|z|z <;> lia)
   exact .inr (by lia)
 have hrl2:runs.length≤601:=by rcases hrl with z|z <;> lia
 rw [oh,gj]
 have hq:qBl (vOp eqD (ai 0) (dF aq)) [some (.lst (xs.map g)),some (.int lo),some (.int mo),some (.int x),none]=.ok false:=by
  refine aZ ((am rfl (ce rfl) (xZ (n:=1) (fun y hy=>?_) (by decide))).trans ?_)
  ·obtain ⟨z,hz,rfl⟩:=List.mem_map.mp hy
   exact ht z hz
  ·rw [List.isEmpty_map]
   cases xs with
   | nil=>exact absurd rfl hn
   | cons _ _=>rfl
 have ec:cC [none] (jE (al gX (ae (ai 0) (ae (ai 1) (ae (ai 2) (ae (ai 3) aq)))))) (.one 0) qYes w28x [some (.lst (xs.map g)),some (.int lo),some (.int mo),some (.int x),none]=.ok (.lst ((runs.map (nL g aL)).map (fD u))):=by
  refine bI (cR (ao (ac rfl (ac rfl (ac rfl (ac rfl rfl)))) e) rfl) ?_
  rw [List.map_map]
  refine cg (k:=0) (δ0:=[none]) (as:=runs) (fun (r:List α)=>D.tup (r.map g)) (fun r=>fD u (nL g aL r)) rfl (by lia) fun q hq=>?_
  cases eq:q with
  | nil=>exact absurd eq (r.a q hq).1
  | cons p t =>
   refine (cq (ac (am rfl rfl bW) (ac (cq (ac rfl (ac rfl rfl))) rfl))).trans ?_
   show R.ok (D.tup [g p,_])=R.ok (D.tup [u (aL (p::t)),_])
   rw [K.l p t]
   rfl
 obtain ⟨i,ps,x',eL,hi,hpn,h3,hpl⟩:=wD (A:=some (.lst (xs.map g))) (B:=some (.int lo)) K hm 1000 0 (runs.map (nL g aL)) x (K.z runs r) (fun z=>hrn (List.map_eq_nil_iff.mp z)) (by rw [List.length_map];exact hrl) (by decide) (by rw [List.length_map];lia)
 refine ⟨i,ps,hi,hpn,h3,hpl,?_⟩
 have h1:qBl (vOp eqD (al lenD (ae (ai 4) aq)) (vC (.int 1))) [some (.lst (xs.map g)),some (.int lo),some (.int mo),some (.int x'),some (.lst (ps.map (fD u)))]=.ok (decide ((ps.length:Int)=1)):=aZ (am (bM rfl (nF _ _)) rfl nJ)
 refine ax ((skip hq).trans ((aK (bf ec)).trans ((aK eL).trans ?_)))
 match ps,hpn with
 | [p],_=>exact aN ((aS h1).trans (au (am (am rfl rfl pC) rfl cb)))
 | p::q::t,_ =>
  rw [decide_eq_false (by rw [List.length_cons,List.length_cons];lia)] at h1
  exact (skip h1).trans (au (cq (ac rfl (ac (ao (ac rfl rfl) xD) rfl))))
end
theorem ow (lo mo x:Int):bR [.lst [],.int lo,.int mo,.int x]=.ok (lfD []):=by
 rw [oh,gj]
 have hq:qBl (vOp eqD (ai 0) (dF aq)) [some (.lst []),some (.int lo),some (.int mo),some (.int x),none]=.ok true:=aZ ((am rfl (ce rfl) (xZ (n:=1) (xs:=[]) (fun y hy=>(by cases hy)) (by decide))))
 exact ax (aN ((aS hq).trans (au (cq (ac rfl (ac (cq rfl) rfl))))))
theorem lg {n:Nat}:Th n (.str "leaf"):=Th.str (by decide +kernel) (by decide +kernel)
theorem di {n:Nat}:Th n (.str "branch"):=Th.str (by decide +kernel) (by decide +kernel)
theorem cN {n:Nat} {a b:D} (ha:Th n a) (hb:Th n b):Th (n+1) (.tup [a,b]):=⟨by show 2≤900;decide,fun x hx=>by
 rcases List.mem_cons.mp hx with rfl|hx
 ·exact ha
 ·obtain rfl:x=b:=by simpa using hx
  exact hb⟩
theorem kf {n:Nat} {xs:List D} (h:∀ x∈xs,Th n x) (hl:xs.length≤900):Th (n+1) (.tup xs):=⟨hl,h⟩
theorem i5 {xs:List D} {lo mo:Nat} (hm:Lm lo mo) (hl:xs.length≤601) (ht:∀ x∈xs,Th 1 x) (x:Int):∃ d,bR [.lst xs,.int lo,.int mo,.int x]=.ok d∧Th 15 d:=by
 by_cases hn:xs=[]
 ·subst hn
  exact ⟨_,ow _ _ _,(cN lg (kf (n:=0) (fun x hx=>(by cases hx)) (by decide)):Th 2 _).mono (by decide)⟩
 have h9:mo≤9:=by rcases hm with z|z|z <;> lia
 have K:Kind (fun x:D=>x) (fun x:D=>x) (fun l=>l.headD .non) (fun l=>l.headD .non) (fun _=>True) (fun i ps=>∀ p∈ps,Th 1 p.1∧Th (3+3*i) p.2) xs lo mo:=by
  refine ⟨fun _ _=>rfl,fun _ _ _=>rfl,fun runs r p hp=>?_,fun i runs hi _ hr p hp=>?_,fun _ _ _ _ _=>True.intro⟩
  ·obtain ⟨q,hq,rfl⟩:=List.mem_map.mp hp
   have hqx:∀ y∈q,Th 1 y:=fun y hy=>ht y (by rw [← r.f];exact List.mem_flatten.mpr ⟨q,hq,hy⟩)
   obtain ⟨hqn,hql⟩:=r.a q hq
   refine ⟨?_,cN lg (kf (n:=1) ?_ ?_)⟩
   ·cases q with
    | nil=>exact absurd rfl hqn
    | cons y t=>exact hqx y (by simp)
   ·rw [List.map_id'];exact hqx
   ·rw [List.length_map];lia
  ·obtain ⟨q,hq,rfl⟩:=List.mem_map.mp hp
   have hqx:∀ y∈q,Th 1 y.1∧Th (3+3*i) y.2:=fun y hy=>hi y (List.mem_flatten.mpr ⟨q,hq,hy⟩)
   refine ⟨?_,?_⟩
   ·cases q with
    | nil=>exact absurd (hr [] hq).1 (by decide)
    | cons y t=>exact (hqx y (by simp)).1
   ·have e:3+3*(i+1)=(3+3*i)+1+1+1:=by lia
    rw [e]
    refine cN di (kf (fun y hy=>?_) (by rw [List.length_map];have:=(hr q hq).2;lia))
    obtain ⟨z,hz,rfl⟩:=List.mem_map.mp hy
    exact cN ((hqx z hz).1.mono (by lia)) (hqx z hz).2
 obtain ⟨i,ps,hi,hpn,h3,hpl,e⟩:=qg K hm hn hl ht x
 rw [List.map_id'] at e
 refine ⟨_,e,?_⟩
 unfold root
 split
 ·rename_i p
  exact (hi p (by simp)).2.mono (by lia)
 ·have e6:6+3*i≤15:=by lia
  refine Th.mono (n:=(3+3*i)+1+1+1) ?_ (by lia)
  refine cN di (kf (fun y hy=>?_) (by rw [List.length_map];lia))
  obtain ⟨z,hz,rfl⟩:=List.mem_map.mp hy
  exact cN ((hi z hz).1.mono (by lia)) (hi z hz).2
theorem Ok.th {k:K4} (h:Ok k) {n:Nat}:Th (n+1) (av k):=by
 rw [un]
 refine cN ?_ (by cases n <;> exact True.intro)
 have hv:=h.v
 cases e:ip k with
 | non=>cases n <;> exact True.intro
 | int i=>cases n <;> exact True.intro
 | str z=>rw [e] at hv;exact Th.str (Nat.le_trans hv.1 (by decide)) (sok z hv.2)
 | _=>rw [e] at hv;exact hv.elim
theorem v5 {rs:List K4} (hr:Rows rs) (hl:rs.length≤600) (x:Int):∃ d h,bR [.lst (rs.map av),.int 4,.int 8,.int x]=.ok d∧Is 0 2 d h rs:=by
 by_cases hn:rs=[]
 ·subst hn
  exact ⟨_,0,ow _ _ _,⟨Nat.zero_le _,by decide,rfl,fun _ h=>(by cases h)⟩,.nil⟩
 have K:Kind av (fun ks=>av (hd ks)) (fun l=>l) List.flatten (fun ks:List K4=>ks≠[]) (fun i ps=>(ps.map Prod.fst).flatten=rs∧(∀ p∈ps,p.1≠[])∧(((∀ p∈ps,Nd i 4 p)∧2≤ps.length)∨(i=0∧∃ p,ps=[p]∧Nd 0 0 p))) rs 4 8:=by
  refine ⟨fun _ _=>rfl,fun c cs hc=>?_,fun runs r=>?_,fun i runs hi h2 hrl=>?_,fun _ _ h=>h.2.1⟩
  ·obtain ⟨t,e⟩:=km hc
   show av (hd (c::cs).flatten)=_
   rw [List.flatten_cons,e];rfl
  ·refine ⟨?_,fun p hp=>?_,?_⟩
   ·rw [List.map_map,← r.f]
    congr 1
    exact List.map_id _
   ·obtain ⟨q,hq,rfl⟩:=List.mem_map.mp hp
    exact (r.a q hq).1
   ·by_cases q:rs.length≤8
    ·refine .inr ⟨rfl,_,by rw [r.s q];rfl,Nat.zero_le _,q,rfl,hr.o⟩
    ·obtain ⟨m1,m2,_⟩:=r.m (by lia)
     refine .inl ⟨fun p hp=>?_,by rw [List.length_map];exact m1⟩
     obtain ⟨q,hq,rfl⟩:=List.mem_map.mp hp
     exact ⟨m2 q hq,(r.a q hq).2,rfl,fun k hk=>hr.o k (by rw [← r.f];exact List.mem_flatten.mpr ⟨q,hq,hk⟩)⟩
  ·obtain ⟨i1,i2,i3⟩:=hi
   have e:(runs.map (nB (fun ks=>av (hd ks)) List.flatten))=runs.map brN:=rfl
   rw [e]
   have hnd:∀ p∈runs.flatten,Nd i 4 p:=by
    rcases i3 with i3|⟨_,p,ep,_⟩
    ·exact i3.1
    ·exfalso
     match runs,h2,hrl,ep with
     | a::b::t,_,hrl,ep =>
      have h1:=(hrl a (by simp)).1
      have:=congrArg List.length ep
      rw [List.flatten_cons,List.length_append] at this
      simp at this
      lia
   refine ⟨by rw [pb];exact i1,fun p hp=>?_,.inl ⟨fun p hp=>?_,by rw [List.length_map];exact h2⟩⟩
   ·obtain ⟨q,hq,rfl⟩:=List.mem_map.mp hp
    have:Nd (i+1) 4 (brN q):=⟨q,⟨by have:=(hrl q hq).1;lia,(hrl q hq).1⟩,(hrl q hq).2,fun y hy=>hnd y (List.mem_flatten.mpr ⟨q,hq,hy⟩),rfl⟩
    exact this.pos (by decide)
   ·obtain ⟨q,hq,rfl⟩:=List.mem_map.mp hp
    exact ⟨q,⟨by have:=(hrl q hq).1;lia,(hrl q hq).1⟩,(hrl q hq).2,fun y hy=>hnd y (List.mem_flatten.mpr ⟨q,hq,hy⟩),rfl⟩
 obtain ⟨i,ps,⟨i1,i2,i3⟩,hpn,h3,hpl,e⟩:=qg K (.inr (.inl ⟨rfl,rfl⟩)) hn (by lia) (fun k hk=>(hr.o k hk).th) x
 rcases i3 with ⟨h1,h2⟩|⟨rfl,p,rfl,hp⟩
 ·refine ⟨_,i+1,e,⟨ps,⟨by lia,h2⟩,hpl,h1,?_⟩,hr.s⟩
  refine Prod.ext i1.symm ?_
  match ps,h2 with
  | a::b::t,_=>rfl
 ·have e1:p.1=rs:=by rw [← i1];simp
  refine ⟨_,0,e,?_,hr.s⟩
  have:(rs,root (fun ks=>av (hd ks)) [p])=p:=Prod.ext e1.symm rfl
  rw [this]
  exact hp
def Ev (n:Nat) (φ:FE) (δ:Sd):Prop:=∃ d,φ δ=.ok d∧Th n d
def EvA (n:Nat) (α:FA) (δ:Sd) (m:Nat):Prop:=∃ ds,α δ=.ok ds∧ds.length=m∧∀ d∈ds,Th n d
def EvL (n:Nat) (φ:FE) (δ:Sd) (m:Nat):Prop:=∃ ds,φ δ=.ok (.lst ds)∧ds.length=m∧∀ d∈ds,Th n d
theorem aP {n:Nat} {δ:Sd}:EvA n aq δ 0:=⟨[],rfl,rfl,fun _ h=>(by cases h)⟩
theorem aj {n m:Nat} {φ:FE} {α:FA} {δ:Sd} (h:Ev n φ δ) (g:EvA n α δ m):EvA n (ae φ α) δ (m+1):=by
 obtain ⟨d,e,hd⟩:=h
 obtain ⟨ds,e2,hl,hs⟩:=g
 refine ⟨d::ds,ac e e2,by rw [List.length_cons,hl],fun x hx=>?_⟩
 rcases List.mem_cons.mp hx with rfl|hx
 ·exact hd
 ·exact hs x hx
theorem bV {n m:Nat} {α:FA} {δ:Sd} (h:EvA n α δ m) (hm:m≤100:=by decide):Ev (n+1) (bh α) δ:=by
 obtain ⟨ds,e,hl,hs⟩:=h
 exact ⟨_,cq e (by lia),by lia,hs⟩
theorem tU {n m:Nat} {α:FA} {δ:Sd} (h:EvA n α δ m) (hm:m≤100:=by decide):Ev (n+1) (dF α) δ:=by
 obtain ⟨ds,e,hl,hs⟩:=h
 exact ⟨_,ce e (by lia),by lia,hs⟩
theorem fv {n m:Nat} {α:FA} {δ:Sd} (h:EvA n α δ m) (hm:m≤100:=by decide):EvL n (dF α) δ m:=by
 obtain ⟨ds,e,hl,hs⟩:=h
 exact ⟨_,ce e (by lia),hl,hs⟩
theorem mB {n m k:Nat} {φ ψ:FE} {δ:Sd} (h:EvL n φ δ m) (g:EvL n ψ δ k) (hm:m+k≤1000:=by decide):EvL n (vOp addD φ ψ) δ (m+k):=by
 obtain ⟨ds,e,hl,hs⟩:=h
 obtain ⟨es,e2,hl2,hs2⟩:=g
 refine ⟨ds++es,am e e2 (add_l.trans (if_pos (by lia))),by rw [List.length_append,hl,hl2],fun x hx=>?_⟩
 rcases List.mem_append.mp hx with hx|hx
 ·exact hs x hx
 ·exact hs2 x hx
theorem uw {n m:Nat} {φ ψ:FE} {δ:Sd} {i:Int} (h:EvL n φ δ m) (g:ψ δ=.ok (.int i)) (h0:0≤i) (h1:i < (m:Int)):Ev n (vOp ixD φ ψ) δ:=by
 obtain ⟨ds,e,hl,hs⟩:=h
 obtain ⟨j,rfl⟩:∃ j:Nat,i=(j:Int):=⟨i.toNat,by lia⟩
 have hi:j < ds.length:=by lia
 exact ⟨ds[j],am e g (sG (ca (List.getElem?_eq_getElem hi))),hs _ (List.getElem_mem hi)⟩
theorem xW {n m:Nat} {φ:FE} {δ:Sd} {d:D} (e:φ δ=.ok d) (h:Th m d) (hm:m≤n):Ev n φ δ:=⟨d,e,h.mono hm⟩
theorem bB {n:Nat} {φ:FE} {δ:Sd} {i:Int} (e:φ δ=.ok (.int i)):Ev n φ δ:=⟨_,e,by cases n <;> exact True.intro⟩
theorem tT {n:Nat} {φ:FE} {δ:Sd} {i:Bool} (e:φ δ=.ok (.bl i)):Ev n φ δ:=⟨_,e,by cases n <;> exact True.intro⟩
theorem ou {n:Nat} {φ:FE} {δ:Sd} (e:φ δ=.ok .non):Ev n φ δ:=⟨_,e,by cases n <;> exact True.intro⟩
theorem gU {n:Nat} {z:Str} {δ:Sd} (h:(decide (z.length≤100)&&PyData.strOk z)=true):Ev n (vC (.str z)) δ:=by
 rw [Bool.and_eq_true,decide_eq_true_iff] at h
 exact ⟨_,rfl,Th.str h.1 h.2⟩
def GoodT (n:Nat) (r:R Fl):Prop:=∃ e,fin r=.ok e∧Th n e
theorem pS {n:Nat} {φ:FE} {δ:Sd} (h:Ev n φ δ):GoodT n (bo φ δ):=by
 obtain ⟨d,e,hd⟩:=h
 exact ⟨d,ax (au e),hd⟩
theorem gt_if {n:Nat} {τ:FT} {φ:FE} {T:FS} {δ:Sd} {b:Bool} (h:τ δ=.ok b) (h1:b=true→Ev n φ δ) (h2:b=false→GoodT n (T δ)):GoodT n (aR (sIf τ (bo φ) aV) T δ):=by
 cases b with
 | true =>
  obtain ⟨d,e,v⟩:=h1 rfl
  exact ⟨d,ax (aN ((aS h).trans (au e))),v⟩
 | false=>rw [skip h];exact h2 rfl
theorem mV {n m k:Nat} {φ:FE} {T:FS} {δ:Sd} (h:Ev m φ δ) (g:∀ d,Th m d→GoodT n (T (δ.set k (some d)))):GoodT n (aR (bQ k φ) T δ):=by
 obtain ⟨d,e,hd⟩:=h
 rw [aK (bf e)];exact g d hd
theorem kZ {n m k c:Nat} {φ:FE} {T:FS} {δ:Sd} (h:EvL m φ δ c) (g:∀ l,l.length=c→(∀ d∈l,Th m d)→GoodT n (T (δ.set k (some (.lst l))))):GoodT n (aR (bQ k φ) T δ):=by
 obtain ⟨l,e,hc,hd⟩:=h
 rw [aK (bf e)];exact g l hc hd
theorem odd (x:Int):∃ d,mN [.int x]=.ok d∧Th 6 d:=by
 rw [xE,mM]
 show GoodT 6 _
 have hc:∀ {n:Nat} {δ:Sd},Ev n (vC (.str "leaf")) δ:=gU (by decide +kernel)
 have hb:∀ {n:Nat} {δ:Sd},Ev n (vC (.str "branch")) δ:=gU (by decide +kernel)
 have hii:∀ {n:Nat} {δ:Sd} {i j:Int},Ev (n+1) (bh (ae (vC (.int i)) (ae (vC (.int j)) aq))) δ:=bV (aj (bB rfl) (aj (bB rfl) aP))
 have h0:∀ {n:Nat} {δ:Sd},Ev (n+1) (bh aq) δ:=bV aP
 have t1:∀ {n:Nat} {φ:FE} {δ:Sd},Ev n φ δ→Ev (n+1) (bh (ae φ aq)) δ:=fun h=>bV (aj h aP)
 have t2:∀ {n:Nat} {φ ψ:FE} {δ:Sd},Ev n φ δ→Ev n ψ δ→Ev (n+1) (bh (ae φ (ae ψ aq))) δ:=fun h g=>bV (aj h (aj g aP))
 refine mV (m:=1) hii fun d1 h1=>mV (m:=3) (t2 hc (bV (aj hii (aj hii (aj hii (aj (t2 (gU (by decide +kernel)) (bB rfl)) aP)))))) fun d2 h2=>mV (m:=3) (t2 hc (bV (aj hii (aj hii (aj hii (aj hii aP)))))) fun d3 h3=>?_
 have v1:∀ {n:Nat} {δ:Sd},ai 1 δ=.ok d1→Ev (n+1) (ai 1) δ:=fun e=>xW e h1 (by lia)
 have v2:∀ {n:Nat} {δ:Sd},ai 2 δ=.ok d2→Ev (n+3) (ai 2) δ:=fun e=>xW e h2 (by lia)
 have v3:∀ {n:Nat} {δ:Sd},ai 3 δ=.ok d3→Ev (n+3) (ai 3) δ:=fun e=>xW e h3 (by lia)
 refine kZ (m:=6) (c:=8) (fv (aj (ou rfl) (aj hc (aj h0 (aj (t1 hc) (aj (t2 hc (tU aP)) (aj (bV (aj hc (aj (t1 (v1 rfl)) (aj (bB rfl) aP)))) (aj (tU (aj hc (aj (t1 (v1 rfl)) aP))) (aj (t2 hb h0) aP))))))))) fun l4 n4 h4=>?_
 refine kZ (m:=6) (c:=8+5) (mB ⟨l4,rfl,n4,h4⟩ (fv (aj (t2 hc (t1 (t2 (ou rfl) (bB rfl)))) (aj (t2 hc (t2 (v1 rfl) (v1 rfl))) (aj (t2 hb (t1 (t2 hii (v2 rfl)))) (aj (tU (aj hc (aj h0 aP))) (aj (tT rfl) aP))))))) fun l5 n5 h5=>?_
 refine kZ (m:=6) (c:=13+2) (mB ⟨l5,rfl,n5,h5⟩ (fv (aj (t2 hb (t2 (t2 hii (v2 rfl)) (t2 hii (v3 rfl)))) (aj (t2 hb (t2 (t2 hii (v2 rfl)) (t2 hii (v2 rfl)))) aP)))) fun l6 n6 h6=>?_
 exact pS (uw (m:=15+3) (mB ⟨l6,rfl,n6,h6⟩ (fv (aj (t2 hc (t1 (t2 (tT rfl) (bB rfl)))) (aj (t2 hc (t1 (t2 (bB rfl) (tT rfl)))) (aj (t2 hc (t2 (t2 (bB rfl) (bB pow9)) (t2 (gU (by decide +kernel)) (bB rfl)))) aP))))) (aU rfl rfl) (Int.emod_nonneg _ (by decide)) (Int.emod_lt_of_pos _ (by decide)))
theorem vx {i:Int} (h:i.natAbs < 10 ^ 18):(figs i).length≤19:=by
 have:=wS 17 _ h
 unfold figs
 split <;> simp <;> omega
theorem Ok.th0 {k:K4} (h:Ok k):Th 0 (ip k):=by
 have hv:=h.v
 cases e:ip k with
 | non=>exact True.intro
 | int i=>exact True.intro
 | str z=>rw [e] at hv;exact Th.str (Nat.le_trans hv.1 (by decide)) (sok z hv.2)
 | _=>rw [e] at hv;exact hv.elim
theorem spoilt {k:K4} (hk:Ok k) (x:Int):∃ d,eh [av k,.int x]=.ok d∧Th 1 d:=by
 rw [sA,gL]
 have hb:=hk.b
 have hv:=hk.th0
 generalize hn:k.2.2.2=n at hb
 have eu:sUnp (bindD (.tup [2,3])) (ai 0) [some (av k),some (.int x),none,none,none]=.ok (.nx [some (av k),some (.int x),some (ip k),some (.int n),none]):=qf (d:=av k) rfl (by rw [un,hn];rfl)
 rw [aK eu]
 show GoodT 1 _
 have v2:∀ {δ:Sd},ai 2 δ=.ok (ip k)→Ev 0 (ai 2) δ:=fun e=>⟨_,e,hv⟩
 have t2:∀ {n:Nat} {φ ψ:FE} {δ:Sd},Ev n φ δ→Ev n ψ δ→Ev (n+1) (bh (ae φ (ae ψ aq))) δ:=fun h g=>bV (aj h (aj g aP))
 have hn18:∀ {δ:Sd},vUn negD (vOp powD (vC (.int 10)) (vC (.int 18))) δ=.ok (.int (-1000000000000000000)):=by intro δ;unfold vUn;rw [pow18];rfl
 have b5:∀ (i j:Int),0 < j→0≤i % j∧i % j < j:=fun i j h=>⟨Int.emod_nonneg _ (by lia),Int.emod_lt_of_pos _ h⟩
 refine gt_if (cL (aU rfl rfl) rfl) (fun _=>?_) fun _=>?_
 ·exact uw (m:=5) (fv (aj (t2 (v2 rfl) (bB rfl)) (aj (t2 (v2 rfl) (bB (bO (bO pow9 rfl) (aU rfl rfl)))) (aj (t2 (v2 rfl) (bB rfl)) (aj (t2 (v2 rfl) (tT rfl)) (aj (t2 (v2 rfl) (bB pow9)) aP)))))) (aU (cf rfl rfl) rfl) (b5 _ 5 (by decide)).1 (b5 _ 5 (by decide)).2
 have hx:∀ {m:Nat} {δ:Sd},Ev m (vOp mulD (vC (.str "x")) (vC (.int 41))) δ:=⟨.str (Txt.mul "x" 41),am rfl rfl (AY.trans (if_pos ⟨by decide +kernel,by decide,by decide⟩)),Th.str (by decide +kernel) (by decide +kernel)⟩
 refine kZ (m:=1) (c:=5) (fv (aj (t2 (bB pow18) (bB rfl)) (aj (t2 (bB (dG hn18 (aU rfl rfl))) (bB rfl)) (aj (t2 hx (bB rfl)) (aj (t2 (gU (by decide +kernel)) (bB rfl)) (aj (t2 (tT rfl) (bB rfl)) aP)))))) fun l nl hl=>?_
 have hs:∀ {m:Nat} {δ:Sd},ai 3 δ=.ok (.int n)→Ev m (al strID (ae (ai 3) aq)) δ:=by
  intro m δ e3
  refine ⟨.str (Str.ofString (toString n)),ao (ac e3 rfl) (if_pos (by omega)),Th.str ?_ ?_⟩
  ·rw [← mC,str_int]
   have:=vx (i:=n) (by omega)
   omega
  ·refine sok _ fun c hc=>?_
   rw [str_int] at hc
   have:=vN hc
   omega
 exact pS (uw (m:=5+2) (mB ⟨l,rfl,nl,hl⟩ (fv (aj (bV (aj (v2 rfl) (aj (bB rfl) (aj (bB rfl) aP)))) (aj (t2 (v2 rfl) (hs rfl)) aP)))) (aU (cf rfl rfl) rfl) (b5 _ 7 (by decide)).1 (b5 _ 7 (by decide)).2)
def EvS (n:Nat) (φ:FE) (δ:Sd) (m:Nat):Prop:=∃ ds,φ δ=.ok (.lst ds)∧ds.length≤m∧∀ d∈ds,Th n d
theorem jY {n:Nat} {φ ψ:FE} {δ:Sd} {xs:List D} {k:Nat} (h:φ δ=.ok (.lst xs)) (hx:∀ x∈xs,Th n x) (hk:ψ δ=.ok (.int k)):EvS n (vSl slD φ cx (bU ψ)) δ k :=
 ⟨xs.take k,rZ h rfl (cO hk) (yJ.trans (by rw [jS (by lia),Int.toNat_natCast])),by rw [List.length_take];lia,fun d hd=>hx d (List.mem_of_mem_take hd)⟩
theorem j3 {n:Nat} {φ ψ:FE} {δ:Sd} {xs:List D} {k:Nat} (h:φ δ=.ok (.lst xs)) (hx:∀ x∈xs,Th n x) (hk:ψ δ=.ok (.int k)):EvS n (vSl slD φ (bU ψ) cx) δ (xs.length - k) :=
 ⟨xs.drop k,rZ h (cO hk) rfl (yJ.trans (by rw [gJ (by lia),Int.toNat_natCast])),by rw [List.length_drop];lia,fun d hd=>hx d (List.mem_of_mem_drop hd)⟩
theorem yH {n:Nat} {φ ψ χ:FE} {δ:Sd} {xs:List D} {k:Nat} (h:φ δ=.ok (.lst xs)) (hx:∀ x∈xs,Th n x) (hk:ψ δ=.ok (.int k)) (hl:χ δ=.ok (.int ((k:Int)+1))):EvS n (vSl slD φ (bU ψ) (bU χ)) δ 1:=by
 refine ⟨cutD xs (some (k:Int)) (some ((k:Int)+1)),rZ h (cO hk) (cO hl) yJ,?_,fun d hd=>hx d ?_⟩
 ·unfold cutD
  have e1:HT.sIx xs.length 0 (some (k:Int))=min k xs.length:=by
   show (if (k:Int) < 0 then ((k:Int)+xs.length).toNat else min (k:Int).toNat xs.length)=_
   rw [if_neg (by lia),Int.toNat_natCast]
  have e2:HT.sIx xs.length xs.length (some ((k:Int)+1))=min (k+1) xs.length:=by
   show (if (k:Int)+1 < 0 then ((k:Int)+1+xs.length).toNat else min ((k:Int)+1).toNat xs.length)=_
   rw [if_neg (by lia),show ((k:Int)+1).toNat=k+1 by lia]
  rw [List.length_take,e1,e2]
  lia
 ·unfold cutD at hd
  exact List.mem_of_mem_drop (List.mem_of_mem_take hd)
theorem uc {n m:Nat} {α:FA} {δ:Sd} (h:EvA n α δ m) (hm:m≤100):EvS n (dF α) δ m:=by
 obtain ⟨ds,e,hl,hs⟩:=h
 exact ⟨_,ce e (by lia),by lia,hs⟩
theorem jn {n m k:Nat} {φ ψ:FE} {δ:Sd} (h:EvS n φ δ m) (g:EvS n ψ δ k) (hm:m+k≤1000):EvS n (vOp addD φ ψ) δ (m+k):=by
 obtain ⟨ds,e,hl,hs⟩:=h
 obtain ⟨es,e2,hl2,hs2⟩:=g
 refine ⟨ds++es,am e e2 (add_l.trans (if_pos (by lia))),by rw [List.length_append];lia,fun x hx=>?_⟩
 rcases List.mem_append.mp hx with hx|hx
 ·exact hs x hx
 ·exact hs2 x hx
theorem ur {n:Nat} {φ ψ:FE} {δ:Sd} {xs:List D} {k:Nat} (h:φ δ=.ok (.lst xs)) (hx:∀ x∈xs,Th n x) (hk:ψ δ=.ok (.int k)) (hl:k < xs.length):Ev n (vOp ixD φ ψ) δ :=
 ⟨xs[k],am h hk (sG (ca (List.getElem?_eq_getElem hl))),hx _ (List.getElem_mem hl)⟩
theorem pI {rs:List K4} (hr:Rows rs):∀ x∈rs.map av,Th 1 x:=fun x hx=>by
 obtain ⟨k,hk,rfl⟩:=List.mem_map.mp hx
 exact (hr.o k hk).th
theorem turned {rs:List K4} (hr:Rows rs) (hl:rs.length≤600) (w x:Int):∃ xs,gz [.lst (rs.map av),.int w,.int x]=.ok (.lst xs)∧xs.length≤601∧∀ y∈xs,Th 1 y:=by
 rw [se,gm]
 have ht:=pI hr
 have hq:qBl (vOp ltD (al lenD (ae (ai 0) aq)) (vC (.int 2))) [some (.lst (rs.map av)),some (.int w),some (.int x),none]=.ok (decide ((rs.length:Int) < 2)):=aZ (am (bM rfl (nF _ _)) rfl sv)
 by_cases q:(rs.length:Int) < 2
 ·rw [decide_eq_true q] at hq
  exact ⟨rs.map av,ax (aN ((aS hq).trans (au rfl))),by rw [List.length_map];lia,ht⟩
 rw [decide_eq_false q] at hq
 rw [skip hq]
 have hp:0 < (rs.length:Int) - 1:=by lia
 have b0:=Int.emod_nonneg x (show (rs.length:Int) - 1≠0 by lia)
 have b1:=Int.emod_lt_of_pos x hp
 obtain ⟨k,ek⟩:∃ k:Nat,x % ((rs.length:Int) - 1)=(k:Int):=⟨(x % ((rs.length:Int) - 1)).toNat,by lia⟩
 have hk:k+1 < rs.length:=by lia
 rw [aK (bf (aU rfl (dG (bM rfl (nF _ _)) rfl) hp)),ek]
 show ∃ xs,fin (aR _ _ [some (.lst (rs.map av)),some (.int w),some (.int x),some (.int k)])=_∧_
 have h0:ai 0 [some (.lst (rs.map av)),some (.int w),some (.int x),some (.int k)]=.ok (.lst (rs.map av)):=rfl
 have h3:ai 3 [some (.lst (rs.map av)),some (.int w),some (.int x),some (.int k)]=.ok (.int k):=rfl
 have h31:vOp addD (ai 3) (vC (.int 1)) [some (.lst (rs.map av)),some (.int w),some (.int x),some (.int k)]=.ok (.int ((k+1:Nat):Int)):=(bO rfl rfl).trans (by rw [Int.natCast_add];rfl)
 have h32:vOp addD (ai 3) (vC (.int 2)) [some (.lst (rs.map av)),some (.int w),some (.int x),some (.int k)]=.ok (.int ((k+2:Nat):Int)):=(bO rfl rfl).trans (by rw [Int.natCast_add];rfl)
 obtain ⟨b,hb⟩:∃ b,qBl w36x [some (.lst (rs.map av)),some (.int w),some (.int x),some (.int k)]=.ok b:=⟨_,aZ (am rfl (cq (ac rfl (ac rfl (ac rfl rfl)))) rfl)⟩
 have hlm:(rs.map av).length=rs.length:=List.length_map _
 cases b with
 | true =>
  obtain ⟨ds,e,hd,hs⟩:=jn (jn (jY h0 ht h3) (uc (aj (ur h0 ht h31 (by lia)) (aj (ur h0 ht h3 (by lia)) aP)) (by decide)) (by lia)) (j3 h0 ht h32) (by lia)
  exact ⟨ds,ax (aN ((aS hb).trans (au e))),by lia,hs⟩
 | false =>
  rw [skip hb]
  have h33:qBl (vOp eqD (ai 1) (vC (.int 3))) [some (.lst (rs.map av)),some (.int w),some (.int x),some (.int k)]=.ok (decide (w=3)):=cL rfl rfl
  by_cases qw:w=3
  ·rw [decide_eq_true qw] at h33
   obtain ⟨ds,e,hd,hs⟩:=jn (jn (jY h0 ht h3) (yH h0 ht h3 (χ:=vOp addD (ai 3) (vC (.int 1))) (bO rfl rfl)) (by lia)) (j3 h0 ht h3) (by lia)
   exact ⟨ds,ax (aN ((aS h33).trans (au e))),by lia,hs⟩
  ·rw [decide_eq_false qw] at h33
   obtain ⟨d,ed,hd⟩:=spoilt (hr.o rs[k] (List.getElem_mem (by lia))) (x/7)
   have es:Ev 1 (al eh (ae (vOp ixD (ai 0) (ai 3)) (ae (vOp divD (ai 2) (vC (.int 7))) aq))) [some (.lst (rs.map av)),some (.int w),some (.int x),some (.int k)] :=
    ⟨d,ao (ac (am rfl rfl (yI av rs (List.getElem?_eq_getElem (by lia)))) (ac (cf rfl rfl) rfl)) ed,hd⟩
   obtain ⟨ds,e,hd,hs⟩:=jn (jn (jY h0 ht h3) (uc (aj es aP) (by decide)) (by lia)) (j3 h0 ht h31) (by lia)
   exact ⟨ds,ax ((skip h33).trans (au e)),by lia,hs⟩
theorem uneven {rs:List K4} (hr:Rows rs) (hl:rs.length≤600) (h24:24 < rs.length) (x:Int):∃ d,gA [.lst (rs.map av),.int x]=.ok d∧Th 18 d:=by
 rw [rY,gn]
 have ht:=pI hr
 obtain ⟨j,ej⟩:∃ j:Nat,4+x % 5=(j:Int):=⟨(4+x % 5).toNat,by lia⟩
 have hj:j < 9:=by lia
 have hlm:(rs.map av).length=rs.length:=List.length_map _
 have hk:∀ {o2 o3:Option D},w19x [some (.lst (rs.map av)),some (.int x),o2,o3]=.ok (.int j):=(bO rfl (aU rfl rfl)).trans (by rw [ej])
 obtain ⟨xs,e1,l1,t1⟩:=jY (n:=1) (φ:=ai 0) (δ:=[some (.lst (rs.map av)),some (.int x),none,none]) rfl ht hk
 obtain ⟨d1,f1,h1⟩:=i5 (lo:=4) (mo:=8) (xs:=xs) (.inr (.inl ⟨rfl,rfl⟩)) (by lia) t1 x
 rw [aK (bf (ao (ac e1 (ac rfl (ac rfl (ac rfl rfl)))) f1))]
 show ∃ d,fin (aR _ _ [some (.lst (rs.map av)),some (.int x),some d1,none])=_∧_
 obtain ⟨ys,e2,l2,t2⟩:=j3 (n:=1) (φ:=ai 0) (δ:=[some (.lst (rs.map av)),some (.int x),some d1,none]) rfl ht hk
 obtain ⟨d2,f2,h2⟩:=i5 (lo:=4) (mo:=8) (xs:=ys) (.inr (.inl ⟨rfl,rfl⟩)) (by lia) t2 x
 rw [aK (bf (ao (ac e2 (ac rfl (ac rfl (ac rfl rfl)))) f2))]
 show ∃ d,fin (bo _ [some (.lst (rs.map av)),some (.int x),some d1,some d2])=_∧_
 obtain ⟨d,e,h⟩:Ev 18 w9x [some (.lst (rs.map av)),some (.int x),some d1,some d2]:=by
  have a1:Ev 15 (vOp ixD (ai 0) (vC (.int 0))) [some (.lst (rs.map av)),some (.int x),some d1,some d2]:=ur (k:=0) rfl (fun y hy=>(ht y hy).mono (by decide)) rfl (by lia)
  have a2:Ev 15 (vOp ixD (ai 0) w19x) [some (.lst (rs.map av)),some (.int x),some d1,some d2]:=ur (k:=j) rfl (fun y hy=>(ht y hy).mono (by decide)) hk (by lia)
  exact bV (aj ⟨_,rfl,di⟩ (aj (bV (aj (bV (aj a1 (aj ⟨_,rfl,h1⟩ aP)) (by decide)) (aj (bV (aj a2 (aj ⟨_,rfl,h2⟩ aP)) (by decide)) aP)) (by decide)) aP)) (by decide)
 exact ⟨d,ax (au e),h⟩
theorem Nd.th:∀ {h lo:Nat} {q:List K4×D},Nd h lo q→Th (3*h+3) q.2
 | 0,lo,q,hq=>by
  rw [hq.2.2.1]
  refine cN lg (kf (n:=1) (fun x hx=>?_) (by rw [List.length_map];have:=hq.2.1;lia))
  obtain ⟨k,hk,rfl⟩:=List.mem_map.mp hx
  exact (hq.2.2.2 k hk).th
 | h+1,lo,q,⟨ps,h1,h2,h3,h4⟩=>by
  subst h4
  have e:3*(h+1)+3=3*h+3+1+1+1:=by lia
  rw [e]
  refine cN di (kf (fun x hx=>?_) (by rw [List.length_map];lia))
  obtain ⟨p,hp,rfl⟩:=List.mem_map.mp hx
  have hn:=h3 p hp
  exact cN ((hn.ok _ (eB (hn.pos (by decide)))).th (n:=3*h+2)) hn.th
theorem BD {xs ys:List D} (h:xs.length+ys.length≤1000):addTD (.tup xs) (.tup ys)=.ok (.tup (xs++ys)):=by
 cases xs with
 | nil=>rfl
 | cons x r =>
  show addD (.tup (x::r)) (.tup ys)=_
  show (if _ then _ else _)=_
  rw [if_pos ⟨rfl,by lia⟩]
def EvT (n:Nat) (φ:FE) (δ:Sd) (m:Nat):Prop:=∃ ds,φ δ=.ok (.tup ds)∧ds.length≤m∧∀ d∈ds,Th n d
theorem qL {n:Nat} {φ ψ:FE} {δ:Sd} {xs:List D} {k:Nat} (h:φ δ=.ok (.tup xs)) (hx:∀ x∈xs,Th n x) (hk:ψ δ=.ok (.int k)):EvT n (vSl m6 φ cx (bU ψ)) δ k :=
 ⟨xs.take k,n9 h rfl (cO hk) ((xl _ _ _).trans (by rw [jS (by lia),Int.toNat_natCast])),by rw [List.length_take];lia,fun d hd=>hx d (List.mem_of_mem_take hd)⟩
theorem p4 {n:Nat} {φ ψ:FE} {δ:Sd} {xs:List D} {k:Nat} (h:φ δ=.ok (.tup xs)) (hx:∀ x∈xs,Th n x) (hk:ψ δ=.ok (.int k)):EvT n (vSl m6 φ (bU ψ) cx) δ (xs.length - k) :=
 ⟨xs.drop k,n9 h (cO hk) rfl ((xl _ _ _).trans (by rw [gJ (by lia),Int.toNat_natCast])),by rw [List.length_drop];lia,fun d hd=>hx d (List.mem_of_mem_drop hd)⟩
theorem yg {n m:Nat} {α:FA} {δ:Sd} (h:EvA n α δ m) (hm:m≤100):EvT n (bh α) δ m:=by
 obtain ⟨ds,e,hl,hs⟩:=h
 exact ⟨_,cq e (by lia),by lia,hs⟩
theorem oG {n m k:Nat} {φ ψ:FE} {δ:Sd} (h:EvT n φ δ m) (g:EvT n ψ δ k) (hm:m+k≤1000):EvT n (vOp addTD φ ψ) δ (m+k):=by
 obtain ⟨ds,e,hl,hs⟩:=h
 obtain ⟨es,e2,hl2,hs2⟩:=g
 refine ⟨ds++es,am e e2 (BD (by lia)),by rw [List.length_append];lia,fun x hx=>?_⟩
 rcases List.mem_append.mp hx with hx|hx
 ·exact hs x hx
 ·exact hs2 x hx
theorem wN {n m:Nat} {φ:FE} {δ:Sd} (h:EvT n φ δ m) (hm:m≤900):Ev (n+1) φ δ:=by
 obtain ⟨ds,e,hl,hs⟩:=h
 exact ⟨_,e,by lia,hs⟩
theorem zw {n k:Nat} {φ:FE} {T:FS} {δ δ':Sd} {d:D} (h:φ δ=.ok d) (e:δ.set k (some d)=δ') (g:GoodT n (T δ')):GoodT n (aR (bQ k φ) T δ):=by
 rw [aK (bf h),e];exact g
theorem AC {n m:Nat} {φ:FE} {δ:Sd} {xs:List D} (h:φ δ=.ok (.tup xs)) (hx:∀ x∈xs,Th n x) (hl:xs.length≤900):Ev (n+1) (al lstD (ae φ aq)) δ:=⟨.lst xs,ao (ac h rfl) wu,hl,hx⟩
section
variable {d:D} {w:Int} {ns:List Int} {x:Str} {xs:List D} {n:Nat}
abbrev st (d:D) (w:Int) (ns:List Int) (x:Str) (xs:List D) (r:Sd):Sd:=some d::some (.int w)::some (.lst (ns.map D.int))::some (.str x)::some (.tup xs)::r
theorem lX (d:D) (w:Int) (ns:List Int) (x:Str) (xs:List D) (r:Sd) {j:Nat} (hj:j < ns.length):vOp ixD (ai 2) (vC (.int j)) (st d w ns x xs r)=.ok (.int ns[j]):=am rfl rfl (yI D.int ns (List.getElem?_eq_getElem hj))
theorem sN {T:FS} {r:Sd} (hn:4≤ns.length) (hx:∀ y∈xs,Th n y) (hl:xs.length≤9) (hs:∀ m,Th m (.str x)) (g:GoodT (n+1+1) (T (st d w ns x xs r))) :
  GoodT (n+1+1) (aR (sIf (qBl (vOp eqD (ai 1) (vC (.int 7)))) (bo w5x) aV) (aR (sIf (qBl (vOp eqD (ai 1) (vC (.int 8)))) (bo (bh (ae (ai 3) (ae (al lstD (ae (ai 4) aq)) aq)))) aV) T) (st d w ns x xs r)):=by
 refine gt_if (cL rfl rfl) (fun _=>?_) fun _=>gt_if (cL rfl rfl) (fun _=>?_) fun _=>g
 ·refine bV (aj (uw (m:=7) (fv (aj (gU (by decide +kernel)) (aj (gU (by decide +kernel)) (aj (gU (by decide +kernel)) (aj (bB rfl) (aj (ou rfl) (aj (gU (by decide +kernel)) (aj (gU (by decide +kernel)) aP))))))) (by decide)) (aU (lX d w ns x xs r (j:=1) (by lia)) rfl) (Int.emod_nonneg _ (by decide)) (Int.emod_lt_of_pos _ (by decide))) (aj ⟨_,rfl,kf hx (by lia)⟩ aP)) (by decide)
 ·exact bV (aj ⟨_,rfl,hs _⟩ (aj (AC (m:=0) rfl hx (by lia)) aP)) (by decide)
end
theorem wJ:∀ (h f:Nat) {lo:Nat} {q:List K4×D} {w:Int} {ns:List Int},Nd h lo q→h≤f→4+2*h≤ns.length→(∀ y∈ns,0≤y∧y < 2147483647)→∃ e,fA (f+1) [q.2,.int w,.lst (ns.map D.int)]=.ok e∧Th (3*h+3) e
 | 0,f,lo,q,w,ns,hN,hf,hl,hb=>by
  rw [sX,kA]
  obtain ⟨h1,h2,h3,h4⟩:=hN
  have ho:∀ y∈q.1.map av,Th 1 y:=fun y hy=>by
   obtain ⟨k,hk,rfl⟩:=List.mem_map.mp hy
   exact (h4 k hk).th
  rw [h3]
  have eu:sUnp (bindD (.tup [3,4])) (ai 0) [some (lfD q.1),some (.int w),some (.lst (ns.map D.int)),none,none,none,none,none,none,none]=.ok (.nx (st (lfD q.1) w ns "leaf" (q.1.map av) [none,none,none,none,none])):=qf (d:=lfD q.1) rfl rfl
  rw [aK eu,skip (mY (aZ (am rfl rfl (lq.trans (by rw [decide_eq_false ju])))))]
  show GoodT (1+1+1) _
  refine sN (n:=1) (by lia) ho (by rw [List.length_map];lia) (fun _=>lg) ?_
  refine gt_if (aZ (am rfl rfl (lq.trans (by rw [decide_eq_true rfl])))) (fun _=>?_) fun z=>(by cases z)
  have b0:0≤ns[1]'(by lia) % 9:=Int.emod_nonneg _ (by decide)
  have b1:ns[1]'(by lia) % 9 < 9:=Int.emod_lt_of_pos _ (by decide)
  obtain ⟨j,ej⟩:∃ j:Nat,ns[1]'(by lia) % 9=(j:Int):=⟨(ns[1]'(by lia) % 9).toNat,by lia⟩
  have em:w31x (st (lfD q.1) w ns "leaf" (q.1.map av) [none,none,none,none,none])=.ok (.int j):=(aU (lX _ _ ns _ _ _ (j:=1) (by lia)) rfl).trans (by rw [ej])
  have em1:vOp addTD w31x (vC (.int 1)) (st (lfD q.1) w ns "leaf" (q.1.map av) [none,none,none,none,none])=.ok (.int ((j+1:Nat):Int)):=(am em rfl rfl).trans (by rw [Int.natCast_add];rfl)
  exact bV (aj ⟨_,rfl,lg⟩ (aj (wN (oG (qL rfl ho em) (p4 rfl ho em1) (by rw [List.length_map];lia)) (by rw [List.length_map];lia)) aP)) (by decide)
 | h+1,f,lo,q,w,ns,hN,hf,hl,hb=>by
  rw [sX,kA]
  obtain ⟨ps,l1,l2,hp,rfl⟩:=hN
  obtain ⟨f',rfl⟩:∃ f',f=f'+1:=⟨f - 1,by lia⟩
  have hpk:∀ p∈ps,Ok (hd p.1):=fun p hp'=>(hp p hp').ok _ (eB ((hp p hp').pos (by decide)))
  have ho:∀ y∈ps.map bZ,Th (3*h+3+1) y:=fun y hy=>by
   obtain ⟨p,hp',rfl⟩:=List.mem_map.mp hy
   exact cN ((hpk p hp').th (n:=3*h+2)) (hp p hp').th
  have hml:(ps.map bZ).length=ps.length:=List.length_map _
  generalize eX:(brN ps).2=X
  have eu:sUnp (bindD (.tup [3,4])) (ai 0) [some X,some (.int w),some (.lst (ns.map D.int)),none,none,none,none,none,none,none]=.ok (.nx (st X w ns "branch" (ps.map bZ) [none,none,none,none,none])):=qf (d:=X) rfl (by rw [← eX];rfl)
  rw [aK eu]
  have b0:0≤ns[1]'(by lia) % (ps.length:Int):=Int.emod_nonneg _ (by lia)
  have b1:ns[1]'(by lia) % (ps.length:Int) < (ps.length:Int):=Int.emod_lt_of_pos _ (by lia)
  obtain ⟨j,ej⟩:∃ j:Nat,ns[1]'(by lia) % (ps.length:Int)=(j:Int):=⟨(ns[1]'(by lia) % (ps.length:Int)).toNat,by lia⟩
  have hj:j < ps.length:=by lia
  have em:vOp modD (vOp ixD (ai 2) (vC (.int 1))) (al lenD (ae (ai 4) aq)) (st X w ns "branch" (ps.map bZ) [none,none,none,none,none])=.ok (.int j):=(aU (lX _ _ ns _ _ _ (j:=1) (by lia)) (bM rfl (wY _ _)) (by lia)).trans (by rw [ej])
  have e4:∀ {r:Sd},vOp ixD (ai 4) (ai 5) (st X w ns "branch" (ps.map bZ) (some (.int j)::r))=.ok (bZ ps[j]):=am rfl rfl (AW bZ ps (List.getElem?_eq_getElem hj))
  have e51:∀ {r:Sd},vOp addTD (ai 5) (vC (.int 1)) (st X w ns "branch" (ps.map bZ) (some (.int j)::r))=.ok (.int ((j+1:Nat):Int)):=(am rfl rfl rfl).trans (by rw [Int.natCast_add];rfl)
  have hnj:=hp ps[j] (List.getElem_mem hj)
  have hrep:∀ {r:Sd} {φ ψ:FE},Ev (3*h+3) φ (st X w ns "branch" (ps.map bZ) (some (.int j)::r))→Ev (3*h+3) ψ (st X w ns "branch" (ps.map bZ) (some (.int j)::r))→Ev (3*h+3+1+1+1) (bh (ae (ai 3) (ae (vOp addTD (vOp addTD (vSl m6 (ai 4) cx (bU (ai 5))) (bh (ae (bh (ae φ (ae ψ aq))) aq))) w24x) aq))) (st X w ns "branch" (ps.map bZ) (some (.int j)::r)):=fun h1 h2 =>
   bV (aj ⟨_,rfl,di⟩ (aj (wN (oG (oG (qL rfl ho rfl) (yg (aj (bV (aj h1 (aj h2 aP)) (by decide)) aP) (by decide)) (by lia)) (p4 rfl ho e51) (by lia)) (by lia)) aP)) (by decide)
  have e3:3*(h+1)+3=3*h+3+1+1+1:=by lia
  rw [e3]
  -- deeper?
  obtain ⟨c0,hc0⟩:∃ b,qAnd (qBl (vOp eqD (ai 3) (vC (.str "branch")))) w10x (st X w ns "branch" (ps.map bZ) [none,none,none,none,none])=.ok b:=by
   have t1:qBl (vOp eqD (ai 3) (vC (.str "branch"))) (st X w ns "branch" (ps.map bZ) [none,none,none,none,none])=.ok true:=aZ (am rfl rfl (lq.trans (by rw [decide_eq_true rfl])))
   have t2:qBl (vOp gtD (vOp modD (vOp ixD (ai 2) (vC (.int 0))) (vC (.int 3))) (vC (.int 0))) (st X w ns "branch" (ps.map bZ) [none,none,none,none,none])=.ok (decide (0 < ns[0]'(by lia) % 3)):=aZ (am (aU (lX _ _ ns _ _ _ (j:=0) (by lia)) rfl) rfl AV)
   have t3:qBl (vOp ltD (ai 1) (vC (.int 9))) (st X w ns "branch" (ps.map bZ) [none,none,none,none,none])=.ok (decide (w < 9)):=aZ (am rfl rfl sv)
   obtain ⟨p0,pr,ep⟩:∃ p0 pr,ps=p0::pr:=by
    cases ps with
    | nil=>exact absurd l1.1 (by decide)
    | cons a b=>exact ⟨a,b,rfl⟩
   obtain ⟨z,row,ec⟩:=y9 (show isC p0.2=true from Nd.cell (h:=h) (lo:=4) (ks:=p0.1) (hp p0 (by rw [ep];simp)))
   have t4:qBl w30x (st X w ns "branch" (ps.map bZ) [none,none,none,none,none])=.ok (decide (z="branch")):=by
    refine aZ (am (am (am (am rfl rfl (AW bZ ps (i:=0) (x:=p0) (by rw [ep];rfl))) rfl cb) rfl (show ixD p0.2 (.int 0)=.ok (.str z) by rw [ec];exact bW)) rfl lq)
   cases q2:decide (0 < ns[0]'(by lia) % 3) with
   | false=>rw [q2] at t2;exact ⟨false,kT t1 (mY t2)⟩
   | true =>
    rw [q2] at t2
    cases q3:decide (w < 9) with
    | true=>rw [q3] at t3;exact ⟨true,kT t1 (kT t2 (jy t3))⟩
    | false=>rw [q3] at t3;exact ⟨_,kT t1 (kT t2 (lm t3 t4))⟩
  cases c0 with
  | true =>
   have esl:∀ {r:Sd},vSl m6 (ai 2) (bU (vC (.int 2))) cx (st X w ns "branch" (ps.map bZ) r)=.ok (.lst ((ns.drop 2).map D.int)):=n9 rfl (cO rfl) rfl ((Ax _ _ _).trans (by rw [gJ (by decide),List.map_drop];rfl))
   obtain ⟨e,ee,he⟩:=wJ h f' (w:=w) (ns:=ns.drop 2) hnj (by lia) (by rw [List.length_drop];lia) fun y hy=>hb y (List.mem_of_mem_drop hy)
   obtain ⟨e',ee',he'⟩:=hrep (r:=[none,none,none,none]) (φ:=vOp ixD (vOp ixD (ai 4) (ai 5)) (vC (.int 0))) (ψ:=al (fA (f'+1)) (ae w38x (ae (ai 1) (ae (vSl m6 (ai 2) (bU (vC (.int 2))) cx) aq)))) ⟨_,am e4 rfl bW,(hpk ps[j] (List.getElem_mem hj)).th (n:=3*h+2)⟩ ⟨e,ao (ac (am e4 rfl cb) (ac rfl (ac esl rfl))) ee,he⟩
   exact ⟨e',ax (aN ((aS hc0).trans ((aK (bf em)).trans (au ee')))),he'⟩
  | false =>
   rw [skip hc0]
   show GoodT (3*h+3+1+1+1) _
   refine sN (n:=3*h+3+1) (by lia) ho (by lia) (fun _=>di) ?_
   refine gt_if (aZ (am rfl rfl (lq.trans (by rw [decide_eq_false fun z=>ju z.symm])))) (fun z=>(by cases z)) fun _=>?_
   refine zw em rfl ?_
   have hk:=hpk ps[j] (List.getElem_mem hj)
   have hv:=hk.th0
   have eu2:sUnp (bindD (.tup [6,7])) w37x (st X w ns "branch" (ps.map bZ) [some (.int j),none,none,none,none])=.ok (.nx (st X w ns "branch" (ps.map bZ) [some (.int j),some (ip (hd ps[j].1)),some (.int (hd ps[j].1).2.2.2),none,none])):=qf (am e4 rfl bW) (by rw [un];rfl)
   show GoodT _ (aR _ _ (st X w ns "branch" (ps.map bZ) [some (.int j),none,none,none,none]))
   rw [aK eu2]
   have hb2:=hb (ns[2]'(by lia)) (List.getElem_mem _)
   obtain ⟨ed,en,ee,hev,_⟩:=entry (ns[2]'(by lia)) hb2.1 (by lia)
   have het:Th 1 (.tup [ed,.int en]):=by
    refine cN ?_ True.intro
    cases e:ed with
    | non=>exact True.intro
    | int i=>exact True.intro
    | str z=>rw [e] at hev;exact Th.str (Nat.le_trans hev.1 (by decide)) (sok z hev.2)
    | _=>rw [e] at hev;exact hev.elim
   have t2:∀ {n:Nat} {φ ψ:FE} {δ:Sd},Ev n φ δ→Ev n ψ δ→Ev (n+1) (bh (ae φ (ae ψ aq))) δ:=fun h g=>bV (aj h (aj g aP))
   refine kZ (m:=1) (c:=6) (fv (aj ⟨_,ao (ac (lX _ _ ns _ _ _ (j:=2) (by lia)) rfl) ee,het⟩ (aj (t2 ⟨_,rfl,hv⟩ (bB (am rfl rfl rfl))) (aj (t2 ⟨_,rfl,hv⟩ (bB (ao (ac rfl (ac (dG rfl rfl) rfl)) B9))) (aj (ou rfl) (aj (bV (aj ⟨_,rfl,hv⟩ aP)) (aj (t2 (ou rfl) (bB rfl)) aP))))))) fun l nl hls=>?_
   refine mV (m:=1) (uw (m:=6) ⟨l,rfl,nl,hls⟩ (aU (lX _ _ ns _ _ [some (.int j),some (ip (hd ps[j].1)),some (.int (hd ps[j].1).2.2.2),some (.lst l),none] (j:=3) (by lia)) rfl) (Int.emod_nonneg _ (by decide)) (Int.emod_lt_of_pos _ (by decide))) fun fd hfd=>pS ?_
   exact hrep (r:=[some (ip (hd ps[j].1)),some (.int (hd ps[j].1).2.2.2),some (.lst l),some fd]) ⟨fd,rfl,hfd.mono (by lia)⟩ ⟨_,am e4 rfl cb,hnj.th⟩
theorem put {h lo:Nat} {q:List K4×D} {w:Int} {ns:List Int} (hN:Nd h lo q) (hh:h≤4) (hl:ns.length=16) (hb:∀ y∈ns,0≤y∧y < 2147483647):∃ e,ll [q.2,.int w,.lst (ns.map D.int)]=.ok e∧Th 15 e:=by
 obtain ⟨e,ee,he⟩:=wJ h 19 (w:=w) hN (by lia) (by lia) hb
 exact ⟨e,ee,he.mono (by lia)⟩
theorem p12 {δ:Sd}:vOp powD (vC (.int 10)) (vC (.int 12)) δ=.ok (.int 1000000000000):=am rfl rfl ((ye (by decide)).trans rfl)
theorem high {h:Nat} {d:D} {rs:List K4} (hi:Is 0 2 d h rs) (hl:rs.length≤600):h≤4:=by
 have:=hi.1.many
 cases h with
 | zero=>decide
 | succ h =>
  have this:2*4 ^ (h+1)≤rs.length:=this
  have:¬ 5≤h+1:=fun z=>by
   have h1:(4:Nat) ^ 5≤4 ^ (h+1):=Nat.pow_le_pow_right (by decide) z
   have h2:(4:Nat) ^ 5=1024:=by decide
   lia
  lia
theorem thing {rs:List K4} {d:D} {h:Nat} (hr:Rows rs) (hl:rs.length≤600) (hi:Is 0 2 d h rs) (w x:Int):∃ e,ir [.lst (rs.map av),d,.int w,.int x]=.ok e∧Th 18 e:=by
 rw [uH,iC]
 show GoodT 18 _
 have hh:=high hi hl
 have ht:=pI hr
 have hd15:Th 15 d:=(hi.1.th:Th (3*h+3) d).mono (by lia)
 have hlm:(rs.map av).length=rs.length:=List.length_map _
 refine gt_if (cL rfl rfl) (fun _=>?_) fun _=>?_
 ·have:x % 2=0∨x % 2=1:=by lia
  rcases this with q|q
  ·obtain ⟨e,ee,he⟩:=i5 (lo:=3) (mo:=8) (xs:=rs.map av) (.inl ⟨rfl,rfl⟩) (by lia) ht x
   exact ⟨e,ao (ac rfl (ac ((bO rfl (aU rfl rfl)).trans (by rw [q];rfl)) (ac ((bO rfl (aU rfl rfl)).trans (by rw [q];rfl)) (ac rfl rfl)))) ee,he.mono (by decide)⟩
  ·obtain ⟨e,ee,he⟩:=i5 (lo:=4) (mo:=9) (xs:=rs.map av) (.inr (.inr ⟨rfl,rfl⟩)) (by lia) ht x
   exact ⟨e,ao (ac rfl (ac ((bO rfl (aU rfl rfl)).trans (by rw [q];rfl)) (ac ((bO rfl (aU rfl rfl)).trans (by rw [q];rfl)) (ac rfl rfl)))) ee,he.mono (by decide)⟩
 refine gt_if (aZ (am rfl (cq (ac rfl (ac rfl (ac rfl (ac rfl (ac rfl (ac rfl (ac rfl rfl)))))))) rfl)) (fun _=>?_) fun _=>?_
 ·obtain ⟨xs,e1,l1,t1⟩:=turned hr hl w x
  obtain ⟨e,ee,he⟩:=i5 (lo:=4) (mo:=8) (xs:=xs) (.inr (.inl ⟨rfl,rfl⟩)) l1 t1 x
  exact ⟨e,ao (ac (ao (ac rfl (ac rfl (ac rfl rfl))) e1) (ac rfl (ac rfl (ac rfl rfl)))) ee,he.mono (by decide)⟩
 have h5:qAnd (qBl (vOp eqD (ai 2) (vC (.int 5)))) (qBl (vOp gtD (al lenD (ae (ai 0) aq)) (vC (.int 24)))) [some (.lst (rs.map av)),some d,some (.int w),some (.int x)]=.ok (decide (w=5)&&decide ((24:Int) < (rs.length:Int))):=by
  have t1:qBl (vOp eqD (ai 2) (vC (.int 5))) [some (.lst (rs.map av)),some d,some (.int w),some (.int x)]=.ok (decide (w=5)):=cL rfl rfl
  cases q:decide (w=5) with
  | false=>rw [q] at t1;exact mY t1
  | true=>rw [q] at t1;exact kT t1 (aZ (am (bM rfl (nF _ _)) rfl AV))
 refine gt_if h5 (fun z=>?_) fun _=>?_
 ·rw [Bool.and_eq_true,decide_eq_true_iff,decide_eq_true_iff] at z
  obtain ⟨e,ee,he⟩:=uneven hr hl (by lia) x
  exact ⟨e,ao (ac rfl (ac rfl rfl)) ee,he⟩
 refine gt_if (aZ (am rfl (cq (ac rfl (ac rfl (ac rfl (ac rfl (ac rfl rfl)))))) rfl)) (fun _=>?_) fun _=>?_
 ·obtain ⟨ys,e1,l1,b1⟩:=stream x 16 (by decide)
  obtain ⟨e,ee,he⟩:=put (w:=w) hi.1 hh l1 b1
  exact ⟨e,ao (ac rfl (ac rfl (ac (ao (ac rfl (ac rfl rfl)) e1) rfl))) ee,he.mono (by decide)⟩
 refine gt_if (cL rfl rfl) (fun _=>?_) fun _=>?_
 ·obtain ⟨e,ee,he⟩:=odd x
  exact ⟨e,ao (ac rfl rfl) ee,he.mono (by decide)⟩
 have h14:qAnd (qBl (vOp eqD (ai 2) (vC (.int 14)))) (qBl (vOp neD (ai 0) (dF aq))) [some (.lst (rs.map av)),some d,some (.int w),some (.int x)]=.ok (decide (w=14)&&!decide (rs=[])):=by
  have t1:qBl (vOp eqD (ai 2) (vC (.int 14))) [some (.lst (rs.map av)),some d,some (.int w),some (.int x)]=.ok (decide (w=14)):=cL rfl rfl
  cases q:decide (w=14) with
  | false=>rw [q] at t1;exact mY t1
  | true=>rw [q] at t1;exact kT t1 (aZ (am rfl (ce rfl) (ne_nil hr.o)))
 refine gt_if h14 (fun z=>?_) fun _=>pS ⟨_,rfl,hd15.mono (by decide)⟩
 rw [Bool.and_eq_true,decide_eq_true_iff,Bool.not_eq_true',decide_eq_false_iff_not] at z
 have hp:0 < rs.length:=List.length_pos_iff.mpr z.2
 have a1:Ev 15 (vOp ixD (ai 0) (vC (.int 0))) [some (.lst (rs.map av)),some d,some (.int w),some (.int x)]:=ur (k:=0) rfl (fun y hy=>(ht y hy).mono (by decide)) rfl (by lia)
 exact bV (aj ⟨_,rfl,di⟩ (aj (bV (aj (bV (aj a1 (aj ⟨_,rfl,hd15⟩ aP)) (by decide)) aP) (by decide)) aP)) (by decide)
theorem law_true (ns:List Int) (h:ns.length≤63):rd [.lst (ns.map D.int)]=.ok (.bl true):=by
 rw [Bw,vZ]
 obtain ⟨rs,e1,r1,l1⟩:=rows (cell ns 0 % 1000000000000)
 obtain ⟨d,ht,e2,i2⟩:=v5 r1 l1 (cell ns 1 % 1000000000000)
 obtain ⟨e,e4,t4⟩:=thing r1 l1 i2 (cell ns 2 % 17) ((cell ns 3*48271+12345) % 2147483647)
 obtain ⟨b,e6,h6⟩:=pV t4
 have hd:Th 18 d:=(i2.1.th:Th (3*ht+3) d).mono (by have:=high i2 l1;lia)
 obtain ⟨b2,e7,h7⟩:=pV hd
 have hb2:b2=true:=h7.mpr ⟨ht,rs,i2⟩
 subst hb2
 have e5:∃ r,gq [e,.int 0,.int 2]=.ok r∧isNotD r .non=.ok (.bl b):=by
  rcases y8 (lo:=0) (least:=2) t4 (by decide) with ⟨g,ks,hi,eg⟩|⟨eg,hno⟩
  ·exact ⟨_,eg,by rw [h6.mpr ⟨g,ks,hi⟩];rfl⟩
  ·have:b=false:=by
    cases b with
    | false=>rfl
    | true=>exact absurd (h6.mp rfl) hno
   exact ⟨_,eg,by rw [this];rfl⟩
 obtain ⟨r,e5,e5'⟩:=e5
 refine ax ((aK (bf (ao (ac (aU (ao (ac rfl (ac rfl rfl)) (ma ns 0 (by decide))) p12) rfl) e1))).trans ?_)
 refine (aK (bf (ao (ac rfl (ac rfl (ac rfl (ac (aU (ao (ac rfl (ac rfl rfl)) (ma ns 1 (by decide))) p12) rfl)))) e2))).trans ?_
 refine (aK (bf (aU (bO (kH (ao (ac rfl (ac rfl rfl)) (ma ns 3 (by decide))) rfl) rfl) rfl))).trans ?_
 refine (aK (bf (ao (ac rfl (ac rfl (ac (aU (ao (ac rfl (ac rfl rfl)) (ma ns 2 (by decide))) rfl) (ac rfl rfl)))) e4))).trans ?_
 refine (aK (bf (am (ao (ac rfl (ac rfl (ac rfl rfl))) e5) rfl e5'))).trans ?_
 refine (aK (bf (ao (ac rfl rfl) e6))).trans ?_
 refine (skip (lm (uj (bb (dU rfl (Am.trans (Az (by decide +kernel)))) rfl)) (aZ (am rfl rfl (Bx.trans (by rw [decide_eq_true rfl];rfl)))))).trans ?_
 exact au (eS (am (ao (ac rfl rfl) e7) rfl rfl) (am (ao (ac rfl rfl) e6) rfl (Bn.trans (by rw [decide_eq_true rfl]))))
end T23
noncomputable section
namespace HD
open PySem PySem.W PySem.Calls PyProof.Rows
abbrev p:Program:=PySem.Challenge.pw_tablestore_k23_what_is_an_index
def bd:List Stmt:=behindTheImports p
def S (i:Nat):Stmt:=match p.main.body[i]? with|some s=>s|none=>.Pass default
def dA (s:Stmt):Arguments:=match s with
 | .FunctionDef _ a _ _ _ _ _ _ _ _=>a
 | _=>⟨[],[],none,[],[],none,[]⟩
def dB (s:Stmt):List Stmt:=match s with
 | .FunctionDef _ _ b _ _ _ _ _ _ _=>b
 | _=>[]
def dS (s:Stmt):Scope:=match s with
 | .FunctionDef _ _ _ _ _ _ sc _ _ _=>sc
 | _=>{ kind:=.function,names:=[],isGenerator:=false,isCoroutine:=false }
def fn (s:Stmt) (n qn:Str) (g:Addr) (cl:List (Str×Addr)) (d kd doc pm:Value) (an:Option Addr) (cd ct:Value) (bl:Addr):FuncData:=⟨n,qn,dA s,.stmts (dB s),dS s,g,cl,d,kd,doc,pm,an,cd,ct,bl⟩
def dN (s:Stmt):Str:=match s with
 | .FunctionDef n _ _ _ _ _ _ _ _ _=>n
 | _=>""
def tu (l:List Value):Obj:=⟨.type "tuple",none,.seq l.toArray 0,#[]⟩
def tn (t:Nat):List Str→List Value
 | []=>[]
 | x::r=>.str x t::tn (t+1) r
def tr (k:Int):List (Int×Nat)→List Value
 | []=>[]
 | x::r=>.int x.1 0::.int k 0::.ref x.2::tr k r
def fi (l:List Value):Obj:=⟨.none,none,.fields l.toArray,#[]⟩
def fu (s:Stmt) (m:Value) (c:Nat):Obj:=⟨.type "function",none,.func (fn s (dN s) (dN s) 3 [] .none .none .none m none (.ref c) .none 0),#[]⟩
def pr (s:Stmt):Obj:=⟨.none,none,.func (fn s (dN s) (dN s) 0 [] .none .none .none .none none .none .none 0),#[]⟩
def co (n q:Str) (t:Nat) (l a b c d:Int) (v:Nat) (o:Bool) (u:Nat) (x y z:Value) (k:Nat):Obj:=⟨.type "code",none,.fields #[.str n t,.str q (t+1),.str "/claim/cut.py" (t+2),.int l 0,.int a 0,.int b 0,.int c 0,.int d 0,.ref v,.bool o,.int 181 0,.ref u,.none,x,y,z,.int k 0,.int l 0,.str "/claim/cut.py" (k+1)],#[]⟩
abbrev nd:=BT.node
def ke (P:Params) (x:Str) (t:Nat) (v:Value):DictEntry:=⟨PyData.keyHash P x,.str x t,v⟩
def en:Env:={ scope:=p.main.scope,locals:=mainNs,globals:=mainNs,cells:=[],code:=(.ref 13),frame:=some 14 }
def cE:Code:=.body bd en
abbrev fq:Pos:=⟨0,0,0,0⟩
def o11:Obj:=tu []
def o12:Obj:=fi []
def o13:Obj:=co "<module>" "<module>" 182 1 0 0 0 0 11 false 12 .none .none .none 185
def o14:Obj:=⟨(.type "frame"),none,.plain,#[(some (.ref 13)),(some (.ref 3)),(some (.ref 3)),none,(some (.str "__main__" 164)),none,(some (.ref 0))]⟩
def T0 (P:Params):BT:=nd (boot_o_0 P) (nd (boot_o_1 P) (nd (boot_o_3 P) (nd (boot_o_7 P) .nil .nil) (nd o11 .nil .nil)) (nd (boot_o_5 P) (nd (boot_o_9 P) .nil .nil) (nd o13 .nil .nil))) (nd (boot_o_2 P) (nd (boot_o_4 P) (nd (boot_o_8 P) .nil .nil) (nd o12 .nil .nil)) (nd (boot_o_6 P) (nd (boot_o_10 P) .nil .nil) (nd o14 .nil .nil)))
theorem rA (w:World) (os:OsState):topGo treeTable p w 11 (some (.ref 6)) 12 ⟨boot_heap w.params,Array.mk [],boot_drawn,boot_toks,os⟩ (topStub p)=some ((⟨T0 w.params,15,{},#[],{},187,os⟩:SharedT).abs,⟨denote treeTable cE,cE,⟨0,0,0,0⟩,[topFrame fq]⟩):=by
 rw [PySem.W.Fast.te15667345088766844465,PySem.W.Fast.te14364793385576792824,PySem.W.Fast.te11892475500146522536]
 kernel_rfl
theorem rB (w:World) (os:OsState):segRunT treeTable p w 11 (some (.ref 6)) 1 1 (⟨T0 w.params,15,{},#[],{},187,os⟩:SharedT) (blockOf bd en cE ⟨0,0,0,0⟩ [topFrame fq])=some (.next,(⟨T0 w.params,15,{},#[],{},187,os⟩:SharedT),cE,⟨0,0,0,0⟩):=by
 rw [PySem.W.Fast.te10110043849684766642,PySem.W.Fast.te14364793385576792824]
 kernel_rfl
def Cf (P:Params):Obj:=⟨(.type "dict"),none,(.dict #[ke P "__name__" 165 (.str "law_tablestore_k23_what_is_an_index" 319),ke P "__doc__" 166 .none,ke P "__package__" 167 .none,ke P "__loader__" 168 (.builtin "__main__.__loader__#opaque"),ke P "__spec__" 169 .none,ke P "__annotations__" 170 (.ref 6),ke P "__builtins__" 171 (.ref 4),ke P "__file__" 173 (.str "/claim/cut.py" 172),ke P "__cached__" 174 .none,ke P "KINDS" 192 (.ref 15),ke P "MOST_SIGNS" 194 (.int 40 193),ke P "is_value" 200 (.ref 20),ke P "is_sign" 207 (.ref 27),ke P "kind_of" 214 (.ref 34),ke P "compare" 222 (.ref 41),ke P "FEWEST" 226 (.int 4 225),ke P "MOST" 228 (.int 8 227),ke P "FEWEST_OF_ROOT" 230 (.int 2 229),ke P "MOST_ROW_NUMBER" 232 (.int 1000000000 231),ke P "comes_ahead" 241 (.ref 48),ke P "things_in" 250 (.ref 55),ke P "first_of" 257 (.ref 62),ke P "is_index" 263 (.ref 67),ke P "is_leaf" 269 (.ref 72),ke P "is_branch" 275 (.ref 77),ke P "is_cell" 284 (.ref 84),ke P "is_part" 291 (.ref 91),ke P "is_entry" 298 (.ref 98),ke P "is_two" 305 (.ref 105),ke P "is_row_number" 312 (.ref 112),ke P "rises" 318 (.ref 117),ke P "_law_cell_at" 328 (.ref 124),ke P "_law_whole" 335 (.ref 131),ke P "_law_stream" 346 (.ref 138),ke P "_law_value" 352 (.ref 143),ke P "_law_key" 359 (.ref 150),ke P "_law_entry" 366 (.ref 157),ke P "_law_once" 372 (.ref 162),ke P "_law_rows" 378 (.ref 167),ke P "_law_cut" 390 (.ref 174),ke P "_law_loose" 396 (.ref 179),ke P "_law_is_value" 402 (.ref 184),ke P "_law_is_entry" 409 (.ref 191),ke P "_law_leaf" 415 (.ref 196),ke P "_law_good" 428 (.ref 203),ke P "_law_odd" 439 (.ref 210),ke P "_law_spoilt" 450 (.ref 217),ke P "_law_turned" 460 (.ref 224),ke P "_law_uneven" 470 (.ref 231),ke P "_law_put" 486 (.ref 238),ke P "_law_thing" 496 (.ref 245),ke P "law" 509 (.ref 252)] 52),#[]⟩
def zS:Obj:=fi (tr 0 [(4,19),(10,26),(12,33),(16,40),(27,47),(30,54),(35,61),(37,66),(54,71),(58,76),(60,83),(64,90),(66,97),(68,104),(70,111),(72,116),(75,123),(79,130),(81,137),(88,142),(103,149),(109,156),(111,161),(114,166),(128,173),(138,178),(148,183),(154,190),(158,195),(165,202),(187,209),(195,216),(201,223),(210,230),(214,237),(230,244),(244,251)])
def o15:Obj:=tu (tn 189 ["none","number","text"])
def o18:Obj:=pr (S 3)
def o19:Obj:=co "is_value" "is_value" 195 4 1 0 0 3 16 true 17 .none .none (.ref 18) 198
def m187:Value:=.str "tablestore.values" 187
def o20:Obj:=fu (S 3) m187 19
def o23:Obj:=tu (tn 204 ["sign"])
def o25:Obj:=pr (S 4)
def o26:Obj:=co "is_sign" "is_sign" 201 10 1 0 0 3 21 true 22 (.ref 23) (.ref 24) (.ref 25) 205
def o27:Obj:=fu (S 4) m187 26
def o30:Obj:=tu (tn 211 ["value"])
def o32:Obj:=pr (S 5)
def o33:Obj:=co "kind_of" "kind_of" 208 12 1 0 0 3 28 true 29 (.ref 30) (.ref 31) (.ref 32) 212
def o34:Obj:=fu (S 5) m187 33
def o37:Obj:=tu (tn 218 ["one","other"])
def o39:Obj:=pr (S 6)
def o40:Obj:=co "compare" "compare" 215 16 2 0 0 3 35 true 36 (.ref 37) (.ref 38) (.ref 39) 220
def o41:Obj:=fu (S 6) m187 40
def o44:Obj:=tu (tn 236 ["one","other","told"])
def o46:Obj:=pr (S 12)
def o47:Obj:=co "comes_ahead" "comes_ahead" 233 27 2 0 0 3 42 true 43 (.ref 44) (.ref 45) (.ref 46) 239
def m223:Value:=.str "tablestore.ordered" 223
def o48:Obj:=fu (S 12) m223 47
def o51:Obj:=tu (tn 245 ["cells","things","cell"])
def o53:Obj:=pr (S 13)
def o54:Obj:=co "things_in" "things_in" 242 30 1 0 0 3 49 true 50 (.ref 51) (.ref 52) (.ref 53) 248
def o55:Obj:=fu (S 13) m223 54
def o58:Obj:=tu (tn 254 ["cell"])
def o60:Obj:=pr (S 14)
def o61:Obj:=co "first_of" "first_of" 251 35 1 0 0 3 56 true 57 (.ref 58) (.ref 59) (.ref 60) 255
def o62:Obj:=fu (S 14) m223 61
def o65:Obj:=pr (S 15)
def o66:Obj:=co "is_index" "is_index" 258 37 1 0 0 3 63 true 64 .none .none (.ref 65) 261
def o67:Obj:=fu (S 15) m223 66
def o70:Obj:=pr (S 16)
def o71:Obj:=co "is_leaf" "is_leaf" 264 54 2 0 0 3 68 true 69 .none .none (.ref 70) 267
def o72:Obj:=fu (S 16) m223 71
def o75:Obj:=pr (S 17)
def o76:Obj:=co "is_branch" "is_branch" 270 58 2 0 0 3 73 true 74 .none .none (.ref 75) 273
def o77:Obj:=fu (S 17) m223 76
def o80:Obj:=tu (tn 279 ["thing","word","fewest"])
def o82:Obj:=pr (S 18)
def o83:Obj:=co "is_cell" "is_cell" 276 60 3 0 0 3 78 true 79 (.ref 80) (.ref 81) (.ref 82) 282
def o84:Obj:=fu (S 18) m223 83
def o87:Obj:=tu (tn 288 ["thing"])
def o89:Obj:=pr (S 19)
def o90:Obj:=co "is_part" "is_part" 285 64 1 0 0 3 85 true 86 (.ref 87) (.ref 88) (.ref 89) 289
def o91:Obj:=fu (S 19) m223 90
def o94:Obj:=tu (tn 295 ["thing"])
def o96:Obj:=pr (S 20)
def o97:Obj:=co "is_entry" "is_entry" 292 66 1 0 0 3 92 true 93 (.ref 94) (.ref 95) (.ref 96) 296
def o98:Obj:=fu (S 20) m223 97
def o101:Obj:=tu (tn 302 ["thing"])
def o103:Obj:=pr (S 21)
def o104:Obj:=co "is_two" "is_two" 299 68 1 0 0 3 99 true 100 (.ref 101) (.ref 102) (.ref 103) 303
def o105:Obj:=fu (S 21) m223 104
def o108:Obj:=tu (tn 309 ["thing"])
def o110:Obj:=pr (S 22)
def o111:Obj:=co "is_row_number" "is_row_number" 306 70 1 0 0 3 106 true 107 (.ref 108) (.ref 109) (.ref 110) 310
def o112:Obj:=fu (S 22) m223 111
def o115:Obj:=pr (S 23)
def o116:Obj:=co "rises" "rises" 313 72 1 0 0 3 113 true 114 .none .none (.ref 115) 316
def o117:Obj:=fu (S 23) m223 116
def o120:Obj:=tu (tn 324 ["_law_script","_law_k"])
def o122:Obj:=pr (S 25)
def o123:Obj:=co "_law_cell_at" "_law_cell_at" 321 75 2 0 0 3 118 true 119 (.ref 120) (.ref 121) (.ref 122) 326
def m319:Value:=.str "law_tablestore_k23_what_is_an_index" 319
def o124:Obj:=fu (S 25) m319 123
def o127:Obj:=tu (tn 332 ["_law_found"])
def o129:Obj:=pr (S 26)
def o130:Obj:=co "_law_whole" "_law_whole" 329 79 1 0 0 3 125 true 126 (.ref 127) (.ref 128) (.ref 129) 333
def o131:Obj:=fu (S 26) m319 130
def o134:Obj:=tu (tn 339 ["_law_cell","_law_many","_law_found","_law_number","_law_k"])
def o136:Obj:=pr (S 27)
def o137:Obj:=co "_law_stream" "_law_stream" 336 81 2 0 0 3 132 true 133 (.ref 134) (.ref 135) (.ref 136) 344
def o138:Obj:=fu (S 27) m319 137
def o141:Obj:=pr (S 28)
def o142:Obj:=co "_law_value" "_law_value" 347 88 1 0 0 3 139 true 140 .none .none (.ref 141) 350
def o143:Obj:=fu (S 28) m319 142
def o146:Obj:=tu (tn 356 ["_law_entry_here"])
def o148:Obj:=pr (S 29)
def o149:Obj:=co "_law_key" "_law_key" 353 103 1 0 0 3 144 true 145 (.ref 146) (.ref 147) (.ref 148) 357
def o150:Obj:=fu (S 29) m319 149
def o153:Obj:=tu (tn 363 ["_law_x"])
def o155:Obj:=pr (S 30)
def o156:Obj:=co "_law_entry" "_law_entry" 360 109 1 0 0 3 151 true 152 (.ref 153) (.ref 154) (.ref 155) 364
def o157:Obj:=fu (S 30) m319 156
def o160:Obj:=pr (S 31)
def o161:Obj:=co "_law_once" "_law_once" 367 111 1 0 0 3 158 true 159 .none .none (.ref 160) 370
def o162:Obj:=fu (S 31) m319 161
def o165:Obj:=pr (S 32)
def o166:Obj:=co "_law_rows" "_law_rows" 373 114 1 0 0 3 163 true 164 .none .none (.ref 165) 376
def o167:Obj:=fu (S 32) m319 166
def o170:Obj:=tu (tn 382 ["_law_row","_law_least","_law_most","_law_x","_law_runs","_law_many"])
def o172:Obj:=pr (S 33)
def o173:Obj:=co "_law_cut" "_law_cut" 379 128 4 0 0 3 168 true 169 (.ref 170) (.ref 171) (.ref 172) 388
def o174:Obj:=fu (S 33) m319 173
def o177:Obj:=pr (S 34)
def o178:Obj:=co "_law_loose" "_law_loose" 391 138 4 0 0 3 175 true 176 .none .none (.ref 177) 394
def o179:Obj:=fu (S 34) m319 178
def o182:Obj:=pr (S 35)
def o183:Obj:=co "_law_is_value" "_law_is_value" 397 148 1 0 0 3 180 true 181 .none .none (.ref 182) 400
def o184:Obj:=fu (S 35) m319 183
def o187:Obj:=tu (tn 406 ["_law_thing_here"])
def o189:Obj:=pr (S 36)
def o190:Obj:=co "_law_is_entry" "_law_is_entry" 403 154 1 0 0 3 185 true 186 (.ref 187) (.ref 188) (.ref 189) 407
def o191:Obj:=fu (S 36) m319 190
def o194:Obj:=pr (S 37)
def o195:Obj:=co "_law_leaf" "_law_leaf" 410 158 2 0 0 3 192 true 193 .none .none (.ref 194) 413
def o196:Obj:=fu (S 37) m319 195
def o199:Obj:=tu (tn 419 ["_law_cell","_law_fewest","_law_least","_law_depths","_law_entries","_law_part","_law_beneath"])
def o201:Obj:=pr (S 38)
def o202:Obj:=co "_law_good" "_law_good" 416 165 3 0 0 3 197 true 198 (.ref 199) (.ref 200) (.ref 201) 426
def o203:Obj:=fu (S 38) m319 202
def o206:Obj:=tu (tn 432 ["_law_x","_law_one","_law_four","_law_more","_law_some"])
def o208:Obj:=pr (S 39)
def o209:Obj:=co "_law_odd" "_law_odd" 429 187 1 0 0 3 204 true 205 (.ref 206) (.ref 207) (.ref 208) 437
def o210:Obj:=fu (S 39) m319 209
def o213:Obj:=tu (tn 443 ["_law_entry_here","_law_x","_law_value_here","_law_number","_law_some"])
def o215:Obj:=pr (S 40)
def o216:Obj:=co "_law_spoilt" "_law_spoilt" 440 195 2 0 0 3 211 true 212 (.ref 213) (.ref 214) (.ref 215) 448
def o217:Obj:=fu (S 40) m319 216
def o220:Obj:=tu (tn 454 ["_law_rows_here","_law_way","_law_x","_law_k"])
def o222:Obj:=pr (S 41)
def o223:Obj:=co "_law_turned" "_law_turned" 451 201 3 0 0 3 218 true 219 (.ref 220) (.ref 221) (.ref 222) 458
def o224:Obj:=fu (S 41) m319 223
def o227:Obj:=tu (tn 464 ["_law_rows_here","_law_x","_law_low","_law_high"])
def o229:Obj:=pr (S 42)
def o230:Obj:=co "_law_uneven" "_law_uneven" 461 210 2 0 0 3 225 true 226 (.ref 227) (.ref 228) (.ref 229) 468
def o231:Obj:=fu (S 42) m319 230
def o234:Obj:=tu (tn 474 ["_law_cell","_law_way","_law_xs","_law_word","_law_row","_law_k","_law_value_here","_law_number","_law_some","_law_first"])
def o236:Obj:=pr (S 43)
def o237:Obj:=co "_law_put" "_law_put" 471 214 3 0 0 3 232 true 233 (.ref 234) (.ref 235) (.ref 236) 484
def o238:Obj:=fu (S 43) m319 237
def o241:Obj:=tu (tn 490 ["_law_rows_here","_law_index","_law_way","_law_x"])
def o243:Obj:=pr (S 44)
def o244:Obj:=co "_law_thing" "_law_thing" 487 230 4 0 0 3 239 true 240 (.ref 241) (.ref 242) (.ref 243) 494
def o245:Obj:=fu (S 44) m319 244
def o248:Obj:=tu (tn 500 ["_law_script","_law_rows_here","_law_index","_law_x","_law_thing_here","_law_due","_law_found"])
def o250:Obj:=pr (S 45)
def o251:Obj:=co "law" "law" 497 244 1 0 0 3 246 true 247 (.ref 248) (.ref 249) (.ref 250) 507
def o252:Obj:=fu (S 45) m319 251
def g0:List Stmt:=(bd.drop 0).take 46
def T1 (P:Params):BT:=nd (boot_o_0 P) (nd (boot_o_1 P) (nd (Cf P) (nd (boot_o_7 P) (nd o15 (nd o11 (nd o11 (nd o127 .nil .nil) (nd o191 .nil .nil)) (nd o11 (nd o12 .nil .nil) (nd o223 .nil .nil))) (nd o47 (nd o12 (nd o143 .nil .nil) (nd o11 .nil .nil)) (nd o111 (nd o11 .nil .nil) (nd o11 .nil .nil)))) (nd o23 (nd o39 (nd o71 (nd o11 .nil .nil) (nd o199 .nil .nil)) (nd o103 (nd o167 .nil .nil) (nd o231 .nil .nil))) (nd o55 (nd o87 (nd o11 .nil .nil) (nd o215 .nil .nil)) (nd o12 (nd o183 .nil .nil) (nd o12 .nil .nil))))) (nd o11 (nd o19 (nd o11 (nd o67 (nd o131 .nil .nil) (nd o195 .nil .nil)) (nd o11 (nd o11 .nil .nil) (nd o227 .nil .nil))) (nd o51 (nd o83 (nd o11 .nil .nil) (nd o11 .nil .nil)) (nd o115 (nd o179 .nil .nil) (nd o243 .nil .nil)))) (nd o27 (nd o12 (nd o75 (nd o11 .nil .nil) (nd o203 .nil .nil)) (nd o12 (nd o11 .nil .nil) (nd o11 .nil .nil))) (nd o11 (nd o91 (nd o155 .nil .nil) (nd o12 .nil .nil)) (nd o123 (nd o187 .nil .nil) (nd o251 .nil .nil)))))) (nd (boot_o_5 P) (nd (boot_o_9 P) (nd o12 (nd o33 (nd o65 (nd o129 .nil .nil) (nd o12 .nil .nil)) (nd o97 (nd o161 .nil .nil) (nd o11 .nil .nil))) (nd o11 (nd o11 (nd o12 .nil .nil) (nd o209 .nil .nil)) (nd o11 (nd o177 .nil .nil) (nd o241 .nil .nil)))) (nd o25 (nd o41 (nd o11 (nd o137 .nil .nil) (nd o201 .nil .nil)) (nd o105 (nd o12 .nil .nil) (nd o12 .nil .nil))) (nd o12 (nd o89 (nd o153 .nil .nil) (nd o217 .nil .nil)) (nd o11 (nd o11 .nil .nil) (nd o11 .nil .nil))))) (nd o13 (nd o11 (nd o37 (nd o12 (nd o12 .nil .nil) (nd o11 .nil .nil)) (nd o101 (nd o165 .nil .nil) (nd o229 .nil .nil))) (nd o53 (nd o11 (nd o149 .nil .nil) (nd o213 .nil .nil)) (nd o117 (nd o12 .nil .nil) (nd o245 .nil .nil)))) (nd o12 (nd o11 (nd o77 (nd o141 .nil .nil) (nd o12 .nil .nil)) (nd o11 (nd o173 .nil .nil) (nd o237 .nil .nil))) (nd o61 (nd o12 (nd o157 .nil .nil) (nd o11 .nil .nil)) (nd o11 (nd o189 .nil .nil) .nil)))))) (nd (boot_o_2 P) (nd (boot_o_4 P) (nd (boot_o_8 P) (nd o11 (nd o32 (nd o12 (nd o11 .nil .nil) (nd o11 .nil .nil)) (nd o96 (nd o160 .nil .nil) (nd o224 .nil .nil))) (nd o48 (nd o80 (nd o11 .nil .nil) (nd o208 .nil .nil)) (nd o112 (nd o12 .nil .nil) (nd o12 .nil .nil)))) (nd o11 (nd o40 (nd o72 (nd o136 .nil .nil) (nd o11 .nil .nil)) (nd o104 (nd o11 .nil .nil) (nd o11 .nil .nil))) (nd o11 (nd o11 (nd o12 .nil .nil) (nd o216 .nil .nil)) (nd o120 (nd o184 .nil .nil) (nd o248 .nil .nil))))) (nd zS (nd o20 (nd o12 (nd o11 (nd o11 .nil .nil) (nd o196 .nil .nil)) (nd o12 (nd o12 .nil .nil) (nd o11 .nil .nil))) (nd o11 (nd o84 (nd o148 .nil .nil) (nd o12 .nil .nil)) (nd o116 (nd o11 .nil .nil) (nd o244 .nil .nil)))) (nd o11 (nd o44 (nd o76 (nd o12 .nil .nil) (nd o11 .nil .nil)) (nd o108 (nd o172 .nil .nil) (nd o236 .nil .nil))) (nd o60 (nd o11 (nd o156 .nil .nil) (nd o220 .nil .nil)) (nd o124 (nd o11 .nil .nil) (nd o252 .nil .nil)))))) (nd (boot_o_6 P) (nd (boot_o_10 P) (nd o18 (nd o34 (nd o66 (nd o130 .nil .nil) (nd o194 .nil .nil)) (nd o98 (nd o162 .nil .nil) (nd o12 .nil .nil))) (nd o12 (nd o82 (nd o146 .nil .nil) (nd o210 .nil .nil)) (nd o12 (nd o178 .nil .nil) (nd o11 .nil .nil)))) (nd o26 (nd o11 (nd o12 (nd o138 .nil .nil) (nd o202 .nil .nil)) (nd o11 (nd o170 .nil .nil) (nd o234 .nil .nil))) (nd o58 (nd o90 (nd o11 .nil .nil) (nd o11 .nil .nil)) (nd o122 (nd o12 .nil .nil) (nd o250 .nil .nil))))) (nd o14 (nd o12 (nd o11 (nd o70 (nd o134 .nil .nil) (nd o12 .nil .nil)) (nd o11 (nd o166 .nil .nil) (nd o230 .nil .nil))) (nd o54 (nd o12 (nd o150 .nil .nil) (nd o11 .nil .nil)) (nd o11 (nd o182 .nil .nil) (nd o11 .nil .nil)))) (nd o30 (nd o46 (nd o11 (nd o142 .nil .nil) (nd o206 .nil .nil)) (nd o110 (nd o174 .nil .nil) (nd o238 .nil .nil))) (nd o62 (nd o94 (nd o11 .nil .nil) (nd o222 .nil .nil)) (nd o12 (nd o190 .nil .nil) .nil))))))
theorem rG0 (w:World) (os:OsState):segRunT treeTable p w 11 (some (.ref 6)) 1 1181 (⟨T0 w.params,15,{},#[],{},187,os⟩:SharedT) (piecesOf g0 en cE ⟨0,0,0,0⟩ [topFrame fq])=some (.next,(⟨T1 w.params,253,{},#[],{},510,os⟩:SharedT),cE,⟨244,0,253,83⟩):=by
 rw [PySem.W.Fast.te10110043849684766642,PySem.W.Fast.te14364793385576792824]
 kernel_rfl
def L1 (P:Params):List Obj:=[boot_o_0 P,boot_o_1 P,boot_o_2 P,Cf P,boot_o_4 P,boot_o_5 P,boot_o_6 P,boot_o_7 P,boot_o_8 P,boot_o_9 P,boot_o_10 P,o11,zS,o13,o14,o15,o11,o12,o18,o19,o20,o11,o12,o23,o11,o25,o26,o27,o11,o12,o30,o11,o32,o33,o34,o11,o12,o37,o11,o39,o40,o41,o11,o12,o44,o11,o46,o47,o48,o11,o12,o51,o11,o53,o54,o55,o11,o12,o58,o11,o60,o61,o62,o11,o12,o65,o66,o67,o11,o12,o70,o71,o72,o11,o12,o75,o76,o77,o11,o12,o80,o11,o82,o83,o84,o11,o12,o87,o11,o89,o90,o91,o11,o12,o94,o11,o96,o97,o98,o11,o12,o101,o11,o103,o104,o105,o11,o12,o108,o11,o110,o111,o112,o11,o12,o115,o116,o117,o11,o12,o120,o11,o122,o123,o124,o11,o12,o127,o11,o129,o130,o131,o11,o12,o134,o11,o136,o137,o138,o11,o12,o141,o142,o143,o11,o12,o146,o11,o148,o149,o150,o11,o12,o153,o11,o155,o156,o157,o11,o12,o160,o161,o162,o11,o12,o165,o166,o167,o11,o12,o170,o11,o172,o173,o174,o11,o12,o177,o178,o179,o11,o12,o182,o183,o184,o11,o12,o187,o11,o189,o190,o191,o11,o12,o194,o195,o196,o11,o12,o199,o11,o201,o202,o203,o11,o12,o206,o11,o208,o209,o210,o11,o12,o213,o11,o215,o216,o217,o11,o12,o220,o11,o222,o223,o224,o11,o12,o227,o11,o229,o230,o231,o11,o12,o234,o11,o236,o237,o238,o11,o12,o241,o11,o243,o244,o245,o11,o12,o248,o11,o250,o251,o252]
def H1 (P:Params):Heap:=⟨Array.mk (L1 P),{}⟩
abbrev sf (w:World) (os:OsState):Shared:=⟨H1 w.params,#[],{},510,os⟩
theorem rF (w:World) (os:OsState):topRun treeTable p w 11 (some (.ref 6)) 2 (⟨T1 w.params,253,{},#[],{},510,os⟩:SharedT).abs ⟨doneF .next,cE,⟨244,0,253,83⟩,[topFrame fq]⟩=some (sf w os):=by
 rw [PySem.W.Fast.te14082659384304107361,PySem.W.Fast.te14364793385576792824]
 kernel_rfl
theorem B8:bd=g0++([]):=by kernel_rfl
theorem run (w:World) (os:OsState):topRun treeTable p w 11 (some (.ref 6)) (12+(1+(1181+2))) ⟨boot_heap w.params,Array.mk [],boot_drawn,boot_toks,os⟩ (topStub p)=some (sf w os) :=
 go_top (n:=12) (rA w os) (piece_block (n:=1) (segRun_of (rB w os)) (B8 ▸ piece_app (n:=1181) (l:=g0) (segRun_of (rG0 w os)) (piece_nil (rF w os))))
def q:Program:=view p [1,2,3,4,5,6,8,9,10,11,12,13,14,15,16,17,18,19,20,21,22,23,25,26,27,28,29,30,31,32,33,34,35,36,37,38,39,40,41,42,43,44,45]
theorem Ba (w:World):(fencedOpening treeTable p w 2486).map (fun s=>(s.heap,s.gens,s.drawn,s.toks))=some (boot_heap w.params,Array.mk [],boot_drawn,boot_toks) :=
 boot_open (by kernel_rfl) (by decide) (fun s=>by kernel_rfl) w
theorem size (w:World):((boot_heap w.params).isNs mainGlobals&&(Array.mk []:Array GenState).size==0,(boot_heap w.params).objs.size,(boot_heap w.params).nsMap mainGlobals "__annotations__")=(true,11,(some (.ref 6))):=by
 kernel_rfl
theorem k0 (w:World) (os:OsState):(staticsOk (importedModules p.main.body) (boot_heap w.params) (H1 w.params)&&namesBound p (H1 w.params)&&gensDone (sf w os)&&laidKept (boot_heap w.params) (H1 w.params))=true:=by kernel_rfl
theorem k1 (w:World) (os:OsState):seen ((recsOf q).map (·.name)) (ownsOf q) [] { (sf w os) with gens:=#[] }=expectedOf q:=by
 kernel_rfl
theorem k2 (w:World) (os:OsState):(sf w os).heap.bltView=bltViewBooted:=by
 kernel_rfl
theorem k3 (w:World) (os:OsState):((sf w os).heap.keysOk (looseW q []) ((recsOf q).map (·.name)) ((litsOf q).map (·.1)) ((clssOf q (looseW q [])).map (·.name))&&(sf w os).heap.accountedOkI (importedModules p.main.body)&&(sf w os).heap.isNs mainGlobals&&(sf w os).heap.isNs builtinsNs&&tablesOk q (sf w os).heap&&(xlAt q [] (sf w os)&&recOk [] (sf w os))&&(if true then (sf w os).gens.size==0 else !leftWithCleanup (sf w os).gens))=true:=by
 kernel_rfl
theorem k4 (w:World) (os:OsState):tabsOk q (sf w os)=true:=by
 kernel_rfl
theorem k5 (w:World) (os:OsState):pinSeenD q (drecsOf q) (sf w os)=pinGoodD (drecsOf q):=by
 kernel_rfl
theorem k6 (w:World) (os:OsState):plainSeenE q (looseW q []) (sf w os)=plainGoodE q (looseW q []):=by
 kernel_rfl
theorem k7 (w:World) (os:OsState):plainSeenD q [] (sf w os)=plainGoodD q []:=by
 kernel_rfl
theorem k8 (w:World) (os:OsState):wideSeen q (sf w os)=wideGood q:=by
 kernel_rfl
theorem k9 (w:World) (os:OsState):clsSeenW q [] (sf w os)=clsGoodW q []:=by
 kernel_rfl
def ad:List Addr:=List.range 253
def K (P:Params):Frag:=ad.zip (L1 P)
theorem kY (w:World) (os:OsState):X.obsZ ad (sf w os)=X.valZ K 253 510 w:=by kernel_rfl
theorem left:LeftO p q [] (fun s=>xlAt q [] s&&recOk [] s) (X.obsZ ad) (X.valZ K 253 510) 2486 :=
 LeftO.of_pieces (H₀:=boot_heap) (H₁:=H1) (gs₀:=Array.mk []) (gs₁:=#[]) (d₀:=boot_drawn) (d₁:={}) (k₀:=boot_toks) (k₁:=510) (m₀:=11) (ann:=(some (.ref 6))) (M:=(12+(1+(1181+2)))) Ba size run (by decide) fun w=>funext fun os=>looks_pair (k0 w os) (looks_pair (looks_pair (k1 w os) (looks_pair (k2 w os) (looks_pair (k3 w os) (looks_pair (k4 w os) (looks_pair (k5 w os) (looks_pair (k6 w os) (looks_pair (k7 w os) (looks_pair (k8 w os) (k9 w os))))))))) (kY w os))
def dP (s:Stmt):Pos:=match s with
 | .FunctionDef _ _ _ _ _ _ _ _ _ x=>x
 | _=>default
def d:DefRec:=⟨"law",dA (S 45),dB (S 45),dS (S 45),dP (S 45)⟩
theorem ws:PySem.Challenge.rw_tablestore_k23_what_is_an_index.wellSaid=true:=by kernel_rfl
theorem hold (hc:WalkX q [] (XL q []) (X.obsZ ad) (X.valZ K 253 510) PySem.Challenge.rw_tablestore_k23_what_is_an_index.row.toRowW d [] fun f vs=>PySem.call f vs):PySem.Challenge.rw_tablestore_k23_what_is_an_index.Holds:=by
 refine holds_law ws fun said=>?_
 refine holds_openX (q:=q) (loose:=[]) (Xt:=fun s=>xlAt q [] s&&recOk [] s) (XP:=XL q []) (N:=2486) left (fun s e=>xl_of s (Bool.and_eq_true_iff.mp e).1) XL.keeps (d:=d) (kwd:=[]) (by kernel_rfl) (by kernel_rfl) (by kernel_rfl) (fun s e=>recFacts_of (Bool.and_eq_true_iff.mp e).2) (by rfl) said (by decide +kernel) ⟨rfl,rfl,rfl,rfl,rfl,by decide +kernel⟩ ?hw hc
 case hw=>w_witness2
end HD
end
namespace T23
open PySem L2
theorem dk {w:World} {h:Heap} {mg:Str→Option Value} (X:(HD.K w.params).In h) (G:h.Ns mainGlobals mg) {n:Str} {st:Stmt} {f:Nat} (c:Nat) (m:Value) {ps:List Str}
  (a:PySem.W.nsIn (HD.K w.params) mainGlobals n=some (some (.ref f))∧(HD.K w.params).lookup f=some ⟨.type "function",none,.func (PySem.W.fnOf n n (fN st) (c8 st) (ap st) .none .none .none m none (.ref c) .none),#[]⟩∧PySem.W.codeIn (HD.K w.params) (.ref c) n=true∧PySem.W.keepIn (HD.K w.params) (.ref f)=true)
  (b:∀ (kV doc pm:Value) (an:Option Addr) (cdv ct:Value) (us:List Value),us.length=ps.length→bindArgs (PySem.W.fnOf n n (fN st) (c8 st) (ap st) .none kV doc pm an cdv ct) ⟨us,[]⟩=pure (ps.zip us)) :
  Def (HD.K w.params) mg n st ps f (PySem.W.fnOf n n (fN st) (c8 st) (ap st) .none .none .none m none (.ref c) .none) :=
 have F:=zH (st:=st) a.2.1 a.2.2.1 a.2.2.2
 ⟨F,F.binds b,PySem.W.mg_of X G a.1⟩
local macro_rules | `(tactic| walk_at "kk") => `(tactic| exact ⟨by kernel_rfl, by kernel_rfl, by kernel_rfl, by kernel_rfl⟩)
local macro_rules | `(tactic| walk_at "kz") => `(tactic| kernel_rfl)
theorem all_mk {l:PySem.W.OpenLaw} {w:World} {h:Heap} {mg:Str→Option Value} {fa:Addr} (X:(HD.K w.params).In h) (G:h.Ns mainGlobals mg) (hfa:mg "law"=some (.ref fa)) :
  ∃ fd:FuncData,(∀ (s:Shared) (v:Value),BindsTo s fd ⟨[v],[]⟩ [("_law_script",v)])∧∀ base:Heap,(HD.K w.params).In base→base.Ns mainGlobals mg→FnOk l.prog w (HD.K w.params) mg base CX0 26 fa fd pA (spD (HD.K w.params) mg rd):=by
 have a37:PySem.W.nsIn (HD.K w.params) mainGlobals "law"=some (some (.ref 252)):=by kernel_rfl
 have v_KINDS:PySem.W.nsIn (HD.K w.params) mainGlobals "KINDS"=some (some (.ref 15)):=by kernel_rfl
 have w_KINDS:(HD.K w.params).lookup 15=some ⟨.type "tuple",none,.seq #[.str "none" 189,.str "number" 190,.str "text" 191] 0,#[]⟩:=by kernel_rfl
 have v_MOST_SIGNS:PySem.W.nsIn (HD.K w.params) mainGlobals "MOST_SIGNS"=some (some (.int 40 193)):=by kernel_rfl
 have v_FEWEST:PySem.W.nsIn (HD.K w.params) mainGlobals "FEWEST"=some (some (.int 4 225)):=by kernel_rfl
 have v_MOST:PySem.W.nsIn (HD.K w.params) mainGlobals "MOST"=some (some (.int 8 227)):=by kernel_rfl
 have v_FEWEST_OF_ROOT:PySem.W.nsIn (HD.K w.params) mainGlobals "FEWEST_OF_ROOT"=some (some (.int 2 229)):=by kernel_rfl
 have v_MOST_ROW_NUMBER:PySem.W.nsIn (HD.K w.params) mainGlobals "MOST_ROW_NUMBER"=some (some (.int 1000000000 231)):=by kernel_rfl
 have zn:∀ {n:Str},PySem.W.nsIn (HD.K w.params) mainGlobals n=some none→mg n=none:=fun e=>PySem.W.mg_none_of X G e
 have e:=hfa.symm.trans (PySem.W.mg_of X G a37)
 cases e
 have D_is_sign:Def _ mg "is_sign" j8 fQ 27 _:=dk X G 26 HD.m187 (by walk_at "kk") fun _ _ _ _ _ _=>ln1 (fun _=>rfl)
 have D_is_value:Def _ mg "is_value" gC eY 20 _:=dk X G 19 HD.m187 (by walk_at "kk") fun _ _ _ _ _ _=>ln1 (fun _=>rfl)
 have D_kind_of:Def _ mg "kind_of" lj fL 34 _:=dk X G 33 HD.m187 (by walk_at "kk") fun _ _ _ _ _ _=>ln1 (fun _=>rfl)
 have D_compare:Def _ mg "compare" kn ge 41 _:=dk X G 40 HD.m187 (by walk_at "kk") fun _ _ _ _ _ _=>ln2 (fun _ _=>rfl)
 have D_comes_ahead:Def _ mg "comes_ahead" fE cy 48 _:=dk X G 47 HD.m223 (by walk_at "kk") fun _ _ _ _ _ _=>ln2 (fun _ _=>rfl)
 have D_things_in:Def _ mg "things_in" gW c9 55 _:=dk X G 54 HD.m223 (by walk_at "kk") fun _ _ _ _ _ _=>ln1 (fun _=>rfl)
 have D_first_of:Def _ mg "first_of" jw eD 62 _:=dk X G 61 HD.m223 (by walk_at "kk") fun _ _ _ _ _ _=>ln1 (fun _=>rfl)
 have D_is_two:Def _ mg "is_two" mh iw 105 _:=dk X G 104 HD.m223 (by walk_at "kk") fun _ _ _ _ _ _=>ln1 (fun _=>rfl)
 have D_is_cell:Def _ mg "is_cell" kW fP 84 _:=dk X G 83 HD.m223 (by walk_at "kk") fun _ _ _ _ _ _=>ln3 (fun _ _ _=>rfl)
 have D_rises:Def _ mg "rises" mP kJ 117 _:=dk X G 116 HD.m223 (by walk_at "kk") fun _ _ _ _ _ _=>ln1 (fun _=>rfl)
 have D_is_row_number:Def _ mg "is_row_number" df bS 112 _:=dk X G 111 HD.m223 (by walk_at "kk") fun _ _ _ _ _ _=>ln1 (fun _=>rfl)
 have D_is_entry:Def _ mg "is_entry" jr eO 98 _:=dk X G 97 HD.m223 (by walk_at "kk") fun _ _ _ _ _ _=>ln1 (fun _=>rfl)
 have D_is_leaf:Def _ mg "is_leaf" ja fR 72 _:=dk X G 71 HD.m223 (by walk_at "kk") fun _ _ _ _ _ _=>ln2 (fun _ _=>rfl)
 have D_is_part:Def _ mg "is_part" kg gf 91 _:=dk X G 90 HD.m223 (by walk_at "kk") fun _ _ _ _ _ _=>ln1 (fun _=>rfl)
 have D_is_branch:Def _ mg "is_branch" fj dC 77 _:=dk X G 76 HD.m223 (by walk_at "kk") fun _ _ _ _ _ _=>ln2 (fun _ _=>rfl)
 have D_is_index:Def _ mg "is_index" cj eT 67 _:=dk X G 66 HD.m223 (by walk_at "kk") fun _ _ _ _ _ _=>ln1 (fun _=>rfl)
 have D_l_cell_at:Def _ mg "_law_cell_at" ij dz 124 _:=dk X G 123 HD.m319 (by walk_at "kk") fun _ _ _ _ _ _=>ln2 (fun _ _=>rfl)
 have D_l_whole:Def _ mg "_law_whole" kl fM 131 _:=dk X G 130 HD.m319 (by walk_at "kk") fun _ _ _ _ _ _=>ln1 (fun _=>rfl)
 have D_l_stream:Def _ mg "_law_stream" jf ei 138 _:=dk X G 137 HD.m319 (by walk_at "kk") fun _ _ _ _ _ _=>ln2 (fun _ _=>rfl)
 have D_l_value:Def _ mg "_law_value" i0 fV 143 _:=dk X G 142 HD.m319 (by walk_at "kk") fun _ _ _ _ _ _=>ln1 (fun _=>rfl)
 have D_l_key:Def _ mg "_law_key" oU jd 150 _:=dk X G 149 HD.m319 (by walk_at "kk") fun _ _ _ _ _ _=>ln1 (fun _=>rfl)
 have D_l_entry:Def _ mg "_law_entry" kF eH 157 _:=dk X G 156 HD.m319 (by walk_at "kk") fun _ _ _ _ _ _=>ln1 (fun _=>rfl)
 have D_l_once:Def _ mg "_law_once" jX iA 162 _:=dk X G 161 HD.m319 (by walk_at "kk") fun _ _ _ _ _ _=>ln1 (fun _=>rfl)
 have D_l_rows:Def _ mg "_law_rows" jL i4 167 _:=dk X G 166 HD.m319 (by walk_at "kk") fun _ _ _ _ _ _=>ln1 (fun _=>rfl)
 have D_l_cut:Def _ mg "_law_cut" pM kO 174 _:=dk X G 173 HD.m319 (by walk_at "kk") fun _ _ _ _ _ _=>ln4 (fun _ _ _ _=>rfl)
 have D_l_loose:Def _ mg "_law_loose" gl gg 179 _:=dk X G 178 HD.m319 (by walk_at "kk") fun _ _ _ _ _ _=>ln4 (fun _ _ _ _=>rfl)
 have D_l_is_value:Def _ mg "_law_is_value" dI cM 184 _:=dk X G 183 HD.m319 (by walk_at "kk") fun _ _ _ _ _ _=>ln1 (fun _=>rfl)
 have D_l_is_entry:Def _ mg "_law_is_entry" fZ ci 191 _:=dk X G 190 HD.m319 (by walk_at "kk") fun _ _ _ _ _ _=>ln1 (fun _=>rfl)
 have D_l_leaf:Def _ mg "_law_leaf" j0 gQ 196 _:=dk X G 195 HD.m319 (by walk_at "kk") fun _ _ _ _ _ _=>ln2 (fun _ _=>rfl)
 have D_l_good:Def _ mg "_law_good" ml fm 203 _:=dk X G 202 HD.m319 (by walk_at "kk") fun _ _ _ _ _ _=>ln3 (fun _ _ _=>rfl)
 have D_l_odd:Def _ mg "_law_odd" pH kE 210 _:=dk X G 209 HD.m319 (by walk_at "kk") fun _ _ _ _ _ _=>ln1 (fun _=>rfl)
 have D_l_spoilt:Def _ mg "_law_spoilt" jo fc 217 _:=dk X G 216 HD.m319 (by walk_at "kk") fun _ _ _ _ _ _=>ln2 (fun _ _=>rfl)
 have D_l_turned:Def _ mg "_law_turned" jq eI 224 _:=dk X G 223 HD.m319 (by walk_at "kk") fun _ _ _ _ _ _=>ln3 (fun _ _ _=>rfl)
 have D_l_uneven:Def _ mg "_law_uneven" jt eV 231 _:=dk X G 230 HD.m319 (by walk_at "kk") fun _ _ _ _ _ _=>ln2 (fun _ _=>rfl)
 have D_l_put:Def _ mg "_law_put" oT g9 238 _:=dk X G 237 HD.m319 (by walk_at "kk") fun _ _ _ _ _ _=>ln3 (fun _ _ _=>rfl)
 have D_l_thing:Def _ mg "_law_thing" lh fT 245 _:=dk X G 244 HD.m319 (by walk_at "kk") fun _ _ _ _ _ _=>ln4 (fun _ _ _ _=>rfl)
 have D_law:Def _ mg "law" rD pA 252 _:=dk X G 251 HD.m319 (by walk_at "kk") fun _ _ _ _ _ _=>ln1 (fun _=>rfl)
 refine ⟨PySem.W.fnOf "law" "law" (fN rD) (c8 rD) (ap rD) .none .none .none (.str "law_tablestore_k23_what_is_an_index" 319) none (.ref 251) .none,fun s v=>.of_eq rfl,fun base _ _=>?_⟩
 exact zK ⟨D_is_sign,D_is_value,D_kind_of,D_compare,D_comes_ahead,D_things_in,D_first_of,D_is_two,D_is_cell,D_rises,D_is_row_number,D_is_entry,D_is_leaf,D_is_part,D_is_branch,D_is_index,D_l_cell_at,D_l_whole,D_l_stream,D_l_value,D_l_key,D_l_entry,D_l_once,D_l_rows,D_l_cut,D_l_loose,D_l_is_value,D_l_is_entry,D_l_leaf,D_l_good,D_l_odd,D_l_spoilt,D_l_turned,D_l_uneven,D_l_put,D_l_thing,D_law,⟨_,w_KINDS,rfl,rfl⟩,PySem.W.mg_of X G v_KINDS,rfl,fun H=>⟨15,[V.str "none",V.str "number",V.str "text"],rfl,.inr ⟨_,_,_,w_KINDS,rfl,rfl,(by rw [sizeLine_eq];exact Nat.le_trans (show 3≤1000 by decide) (by decide)),(.cons ⟨_,rfl⟩ (.cons ⟨_,rfl⟩ (.cons ⟨_,rfl⟩ .nil)))⟩,(Dens.cons rfl (Dens.cons rfl (Dens.cons rfl Dens.nil)))⟩,PySem.W.mg_of X G v_MOST_SIGNS,⟨_,rfl⟩,fun H=>rfl,PySem.W.mg_of X G v_FEWEST,⟨_,rfl⟩,fun H=>rfl,PySem.W.mg_of X G v_MOST,⟨_,rfl⟩,fun H=>rfl,PySem.W.mg_of X G v_FEWEST_OF_ROOT,⟨_,rfl⟩,fun H=>rfl,PySem.W.mg_of X G v_MOST_ROW_NUMBER,⟨_,rfl⟩,fun H=>rfl,zn (by kernel_rfl),zn (by kernel_rfl),zn (by kernel_rfl),zn (by kernel_rfl),zn (by kernel_rfl),zn (by kernel_rfl),zn (by kernel_rfl),zn (by kernel_rfl),zn (by kernel_rfl),zn (by kernel_rfl),zn (by kernel_rfl),zn (by kernel_rfl),zn (by kernel_rfl)⟩
theorem walk {l:PySem.W.OpenLaw} {q:Program} {loose:List Str} {XP:(Str→Option Value)→Heap→Prop} {YP:World→Heap→Prop} {d:DefRec} {K:Params→PySem.W.Frag} (hn:l.most=some 63) (hdf:d.params.defaults=[])
  (hY:∀ (w:World) (h:Heap),YP w h→(K w.params).In h)
  (F:∀ (w:World) (mg:Str→Option Value) (fa:Addr) (h:Heap),(K w.params).In h→h.Ns mainGlobals mg→mg d.name=some (.ref fa) →
   ∃ fd:FuncData,(∀ (s:Shared) (u:Value),BindsTo s fd ⟨[u],[]⟩ [("_law_script",u)])∧∀ base:Heap,(K w.params).In base→base.Ns mainGlobals mg→FnOk l.prog w (K w.params) mg base CX0 26 fa fd pA (spD (K w.params) mg rd)) :
  PySem.W.WalkO q loose XP YP l.row.toRowW d [] (fun f vs=>PySem.call f vs) :=
 L2.x0 (n:=63) (k:=26) (x:="_law_script") (CX:=fun _=>CX0) (sp:=fun w=>spLaw (K w.params) rd) hn (by decide) hdf ⟨rfl,by decide,by decide⟩ hY (fun w mg fa h h1 h2 h3=>xU (F w mg fa h h1 h2 h3)) (fun _ _ a ns hl _ hS=>x8 hS (law_true ns hl) fun _=>rfl) fun _ _ _ _ _ z=>z
end T23
open PySem PySem.W PyProof.Rows
set_option maxRecDepth 100000 in
set_option maxHeartbeats 0 in
theorem PySem.Challenge.cw_tablestore_k23_what_is_an_index_holds : PySem.Challenge.rw_tablestore_k23_what_is_an_index.Holds := by
 refine HD.hold (L2.walkX (fun _=>by kernel_rfl) ?_)
 exact T23.walk (l:=PySem.Challenge.rw_tablestore_k23_what_is_an_index) (K:=HD.K) rfl (by kernel_rfl) (fun w h Y=>Y) fun w mg fa h KX G hmg=>T23.all_mk KX G hmg
