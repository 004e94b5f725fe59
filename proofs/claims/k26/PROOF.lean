import PyProof.Rows.All
import Wide.All
import OpenK.AllK
import Wide.FinOn
import Lean
import PyProof.EqAt
import PyProof.EqKinds
import PyProof.TupleCall
import PyProof.ZipIter
import PyProof.Draws
import PyProof.EnumMake
import PyProof.Rows.SetFrom
import KE.KIntText
import KE.IntTextLaws
import KE.KSortTup
import PyProof.StrLawsChain
import PyProof.StrCalls6
import PyProof.ExcAttrAll.ValueError
import PySem.Challenge.RW_tablestore_k26_whole_many_deeds
set_option linter.unusedVariables false
set_option linter.unusedSimpArgs false
set_option maxHeartbeats 4000000
set_option maxRecDepth 100000
set_option linter.all false
set_option compiler.extract_closed false
namespace L2
theorem exE {α β γ ε:Type} {p q:α→β→γ→ε→Prop} {r:Prop} (h:∃ a b c d,p a b c d∧q a b c d) (k:∀ a b c d,p a b c d→q a b c d→r):r:=by
 obtain ⟨a,b,c,d,x,y⟩:=h;exact k a b c d x y
theorem exF {α β:Type} {p q r:α→β→Prop} {z:Prop} (h:∃ a b,p a b∧q a b∧r a b) (k:∀ a b,p a b→q a b→r a b→z):z:=by
 obtain ⟨a,b,x,y,w⟩:=h;exact k a b x y w
end L2
-- CHANGE: your row's module here,as the last of these rows
set_option Elab.async false
namespace L2
open PySem Sem
theorem iH {M:Model} {Γ:Ctx} {p:Pos} {t:Sem Fin} {fs:List Frame} {s:Shared} {e:End} {s':Shared} (h:Runs M Γ p t fs s e s'):s.toks≤s'.toks:=by
 induction h <;> first
  | exact Nat.le_refl _
  | assumption
  | (rename_i ih;exact Nat.le_of_succ_le ih)
  | (rename_i ih1 ih2;exact Nat.le_trans ih1 ih2)
  | (rename_i h1 h2 h3 ih1 ih2;exact Nat.le_trans ih1 ih2)
theorem rR {M:Model} {Γ:Ctx} {p:Pos} {g:Nat} {r:Resume} {s:Shared} {res:GenResult} {s':Shared} (h:Wakes M Γ p g r s res s'):s.toks≤s'.toks:=by
 unfold Wakes at h
 split at h
 ·exact h.elim
 ·split at h
  ·obtain ⟨e1,s1,h1,_,_,rfl⟩:=h;have q:=iH h1;exact q
  ·rw [h.2];exact Nat.le_refl _
  ·rw [h.2];exact Nat.le_refl _
 ·obtain ⟨e1,s1,h1,_,_,rfl⟩:=h;have q:=iH h1;exact q
 ·rw [h.2];exact Nat.le_refl _
 ·rw [h.2];exact Nat.le_refl _
theorem wp_toks {X:Type} {n:Nat} {post:X→Pos→Shared→Prop} {exc:Value→Pos→Shared→Prop} (M:Model) (Γ:Ctx) (tree:Sem X) (pos:Pos) (sh:Shared) (hn:n≤sh.toks)
  (known:wp M Γ tree (fun x p s=>n≤s.toks→post x p s) (fun x p s=>n≤s.toks→exc x p s) pos sh):wp M Γ tree post exc pos sh:=by
 revert known hn
 induction tree generalizing pos sh with
 | pure x=>exact fun hn h=>h hn
 | raise v=>exact fun hn h=>h hn
 | unsupported|finish|yield|fork|await|register=>exact fun _ h=>h
 | rule _ k ih|«at» _ k ih|alloc _ k ih|loadIfAlive _ k ih|point _ k ih|ask k ih|os _ _ k ih|handled _ k ih|newGen _ k ih|stack k ih|thread k ih=>exact fun hn h=>ih _ _ _ hn h
 | fresh k ih=>exact fun hn h=>ih _ _ _ (Nat.le_succ_of_le hn) h
 | load a _ k ih|genState a k ih=>exact fun hn ⟨o,ho,h⟩=>⟨o,ho,ih _ _ _ hn h⟩
 | update a _ f k ih|choose _ _ k ih=>exact fun hn ⟨ha,h⟩=>⟨ha,ih _ _ _ hn h⟩
 | call c h g l k ih=>exact fun hn ⟨r,s',hr,hk⟩=>⟨r,s',hr,ih r pos s' (Nat.le_trans hn (iH hr)) hk⟩
 | resume g r l k ih=>exact fun hn ⟨res,s',hw,h⟩=>⟨res,s',hw,ih _ _ _ (Nat.le_trans hn (rR hw)) h⟩
theorem br {α:Type} {M:Model} {A:Around} {t:Sem α} {Q:α→Shared→Prop} {E:Value→Shared→Prop} {s:Shared} {n:Nat} (hn:n≤s.toks)
  (h:wpAny M A t (fun v s'=>n≤s'.toks→Q v s') (fun e s'=>n≤s'.toks→E e s') s):wpAny M A t Q E s:=fun Γ p hΓ=>wp_toks M Γ t p s hn (h Γ p hΓ)
theorem fJ {M:Model} {A:Around} {c:Code} {R:Result→Shared→Prop} {s:Shared} {n:Nat} (hn:n≤s.toks) (h:codeAny M A c (fun r s'=>n≤s'.toks→R r s') s):codeAny M A c R s:=fun Γ p e hΓ =>
 let ⟨r,s',hr,hR⟩:=h Γ p e hΓ
 ⟨r,s',hr,hR (Nat.le_trans hn (iH hr))⟩
end L2
namespace L2
open PySem PySem.Spec PyProof.Rows
noncomputable abbrev Key:=Sum Int Str
noncomputable def keyIs:Key→Value→Bool
 | .inl k,v=>Value.isInt k v
 | .inr x,v=>Value.isStrOf x v
noncomputable def keyH (w:World):Key→Int
 | .inl k=>hashInt k
 | .inr x=>hashStr w x
theorem bC:∀ {k:Key} {v:Value},keyIs k v=true→(∃ i t,k=Sum.inl i∧v=Value.int i t)∨(∃ x t,k=Sum.inr x∧v=Value.str x t)
 | .inl i,v,h=>by
  obtain ⟨t,e⟩:=Value.isInt_shape (k:=i) (v:=v) h
  exact .inl ⟨i,t,rfl,e⟩
 | .inr x,v,h=>by
  obtain ⟨t,e⟩:=Value.isStrOf_shape (x:=x) (v:=v) h
  exact .inr ⟨x,t,rfl,e⟩
theorem yn (a b:Int):decide ((Sum.inl a:Key)=Sum.inl b)=(a==b):=by
 by_cases e:a=b
 ·subst e;simp
 ·have h:¬ (Sum.inl a:Key)=Sum.inl b:=fun q=>e (Sum.inl.inj q)
  rw [decide_eq_false h]
  exact (beq_eq_false_iff_ne.mpr e).symm
theorem yi (a b:Str):decide ((Sum.inr a:Key)=Sum.inr b)=decide (a=b):=by
 by_cases e:a=b
 ·subst e;simp
 ·have h:¬ (Sum.inr a:Key)=Sum.inr b:=fun q=>e (Sum.inr.inj q)
  rw [decide_eq_false h,decide_eq_false e]
theorem yC (a:Int) (b:Str):decide ((Sum.inl a:Key)=Sum.inr b)=false:=decide_eq_false (fun q=>nomatch q)
theorem yA (a:Str) (b:Int):decide ((Sum.inr a:Key)=Sum.inl b)=false:=decide_eq_false (fun q=>nomatch q)
noncomputable def mixKind (prog:Program) (w:World):PySem.KeyKind prog w Key where
 is:=keyIs
 hash:=keyH w
 inj:=fun v a b ha hb=>by
  rcases bC ha with ⟨i,t,rfl,rfl⟩|⟨x,t,rfl,rfl⟩
  ·rcases bC hb with ⟨j,u,rfl,e⟩|⟨y,u,rfl,e⟩
   ·injection e with e1 _;rw [e1]
   ·exact nomatch e
  ·rcases bC hb with ⟨j,u,rfl,e⟩|⟨y,u,rfl,e⟩
   ·exact nomatch e
   ·injection e with e1 _;rw [e1]
 byValue:=fun k v h=>by
  rcases bC h with ⟨i,t,rfl,rfl⟩|⟨x,t,rfl,rfl⟩ <;> rfl
 pyHash:=fun hv h=>by
  rcases bC hv with ⟨i,t,rfl,rfl⟩|⟨x,t,rfl,rfl⟩
  ·exact wpAny_pyHash_int h
  ·exact wpAny_pyHash_str h
 eqBool:=fun hu hv h=>by
  rcases bC hu with ⟨i,t,rfl,rfl⟩|⟨x,t,rfl,rfl⟩
  ·rcases bC hv with ⟨j,u,rfl,rfl⟩|⟨y,u,rfl,rfl⟩
   ·rw [yn] at h;exact wpAny_eqBool_int h
   ·rw [yC] at h;exact SeqAt.EqAt.int_str i t y u _ _ _ _ h
  ·rcases bC hv with ⟨j,u,rfl,rfl⟩|⟨y,u,rfl,rfl⟩
   ·rw [yA] at h;exact SeqAt.EqAt.str_int x t j u _ _ _ _ h
   ·rw [yi] at h;exact wpAny_eqBool_str h
 «strs»:=fun k x t v h=>by
  rcases bC h with ⟨i,u,rfl,e⟩|⟨y,u,rfl,e⟩
  ·exact nomatch e
  ·injection e with e1 _
   subst e1
   cases v <;> rfl
end L2
namespace L2
open PySem PySem.Spec PyProof.Rows
inductive V where
 | non|bl (b:Bool)|int (i:Int)|str (x:Str)|byt (b:Array UInt8)|flt (b:UInt64)|ref (a:Addr)|ty (n:String)
 deriving DecidableEq
noncomputable def RelV:V→Value→Prop
 | .non,u=>u=Value.none
 | .bl b,u=>u=Value.bool b
 | .int i,u=>∃ t,u=Value.int i t
 | .str x,u=>∃ t,u=Value.str x t
 | .byt b,u=>∃ t,u=Value.bytes b t
 | .flt b,u=>∃ t,u=Value.float b t
 | .ref a,u=>u=Value.ref a
 | .ty n,u=>u=Value.type n
noncomputable abbrev Vals:List V→List Value→Prop:=Paired RelV
theorem Vals.length {xs:List V} {us:List Value} (r:Vals xs us):xs.length=us.length:=Paired.length r
theorem Vals.get:∀ {xs:List V} {us:List Value} {i:Nat} {x:V},Vals xs us→xs[i]?=some x→∃ u,us[i]?=some u∧RelV x u
 | _,_,_,_,.nil,e=>by simp at e
 | _,_,0,_,.cons r _,e=>by simp at e;subst e;exact ⟨_,rfl,r⟩
 | _,_,i+1,x,.cons _ t,e=>by
  obtain ⟨u,h1,h2⟩:=Vals.get (i:=i) (x:=x) t (by simpa using e)
  exact ⟨u,by simpa using h1,h2⟩
theorem Vals.set {x:V} {u:Value} (r:RelV x u):∀ {xs:List V} {us:List Value} (i:Nat),Vals xs us→Vals (xs.set i x) (us.set i u)
 | _,_,_,.nil=>.nil
 | _,_,0,.cons _ t=>.cons r t
 | _,_,i+1,.cons q t=>.cons q (Vals.set r i t)
theorem Vals.append:∀ {xs ys:List V} {us ws:List Value},Vals xs us→Vals ys ws→Vals (xs++ys) (us++ws)
 | _,_,_,_,.nil,s=>s
 | _,_,_,_,.cons r t,s=>.cons r (Vals.append t s)
theorem Vals.take:∀ {xs:List V} {us:List Value} (n:Nat),Vals xs us→Vals (xs.take n) (us.take n)
 | _,_,0,_=>.nil
 | _,_,_+1,.nil=>.nil
 | _,_,n+1,.cons r t=>.cons r (Vals.take n t)
theorem Vals.drop:∀ {xs:List V} {us:List Value} (n:Nat),Vals xs us→Vals (xs.drop n) (us.drop n)
 | _,_,0,r=>r
 | _,_,_+1,.nil=>.nil
 | _,_,n+1,.cons _ t=>Vals.drop n t
noncomputable def RelO:Option V→Option Value→Prop
 | some v,some u=>RelV v u
 | none,none=>True
 | _,_=>False
noncomputable def KV {κ:Type}:List (κ×V)→List (κ×Value)→Prop:=Paired fun (p:κ×V) (q:κ×Value)=>p.1=q.1∧RelV p.2 q.2
noncomputable def kV:Key→V
 | .inl i=>.int i
 | .inr x=>.str x
inductive HO where
 /-- a list -/
 | lst (xs:List V)
 /-- a tuple (never changes) -/
 | tup (xs:List V)
 /-- a dict whose keys are ints and texts;one whose keys are tuples of ints and texts (the empty one is both) -/
 | dK (kvs:List (Key×V))|dT (kvs:List (List Key×V))
 /-- a set of ints: its members,its size -/
 | set (S:Int→Bool) (n:Nat)
 /-- an instance of the class at C,its dict at dx,its attributes -/
 | ins (C dx:Addr) (fs:List (Str×V))
 /-- the dict of the instance at x -/
 | own (x:Addr)
 /-- the dict of an exception -/
 | xd (fs:List (Str×V))
 /-- a bound method,f of x -/
 | met (f x:Addr)
 /-- a range object lo,lo+1,.. below hi -/
 | rng (lo hi:Int)
 /-- a thing that is known to the object (the script;a dict while a loop walks it): read,never written while it is so -/
 | frz (o:Obj) (u:HO)
 /-- a code object's table -/
 | tbl (ps:Array Value)
 /-- any other thing,by what is true of its one object (a def of one's own: SetO a S n:=HO.ext fun h=>..) -/
 | ext (φ:Heap→Prop)
noncomputable abbrev Hp:=Addr→Option HO
noncomputable def upd (H:Hp) (a:Addr) (o:HO):Hp:=fun b=>if b=a then some o else H b
theorem a9 {H:Hp} {a:Addr} {o:HO}:upd H a o a=some o:=by unfold upd;rw [if_pos rfl]
theorem aR {H:Hp} {a b:Addr} {o:HO} (h:b≠a):upd H a o b=H b:=by unfold upd;rw [if_neg h]
theorem bo {H:Hp} {a b:Addr} {o:HO} (h:H a=some o) (h':H b=none):a≠b:=by
 intro e;subst e;rw [h] at h';cases h'
section
variable (P:Program) (w:World)
noncomputable def ObjOk (H:Hp) (h:Heap) (a:Addr):HO→Prop
 | .lst xs=>xs.length≤sizeLine∧∃ (its:List Value) (n:Nat),Vals xs its∧h.get? a=some { cls:=.type "list",data:=.seq its.toArray n }
 | .tup xs=>xs.length≤sizeLine∧∃ its:List Value,Vals xs its∧IsTup h a its.toArray
 | .dK kvs=>kvs.length≤sizeLine∧(a==sysModules)=false∧∃ vs,KV kvs vs∧h.DictOf (mixKind P w) a vs
 | .dT kvs=>kvs.length≤sizeLine∧(a==sysModules)=false∧∃ xs:List (List Key×Addr×Value),
   Paired (fun (p:List Key×V) (q:List Key×Addr×Value)=>p.1=q.1∧H q.2.1=some (.tup (p.1.map kV))∧RelV p.2 q.2.2) kvs xs ∧
   ∃ o es ep,h.get? a=some o∧o.ExactDict∧o.data=.dict es ep∧es.toList=xs.map (entryOfKey (tupleKind (mixKind P w)))∧(xs.map (·.1)).Nodup
 | .set S n=>h.SetOf (intKind P w) a S n
 | .ins C dx fs=>H dx=some (.own a)∧fs.length≤1000∧dx≠a∧h.get? a=some (PySem.W.instObj C dx) ∧
   ∃ mA,h.Ns1 dx mA∧(∀ f,RelO (fs.lookup f) (mA f))∧PySem.Within mA (fs.map (·.1))
 | .own _=>∃ o,h.get? a=some o
 | .xd fs=>∃ mA,h.Ns1 a mA∧∀ f,RelO (fs.lookup f) (mA f)
 | .rng lo hi=>∃ t u v,h.get? a=some { cls:=.type "range",data:=.fields #[.int lo t,.int hi u,.int 1 v] }
 | .frz o u=>h.get? a=some o∧ObjOk H h a u
 | .tbl ps=>h.get? a=some { cls:=.none,data:=.fields ps }
 | .met f x=>h.get? a=some (PySem.W.methodObj (.ref f) (.ref x))
 | .ext φ=>φ h∧(∃ o,h.get? a=some o)∧∀ h1 h2:Heap,φ h1→(∀ o,h1.get? a=some o→h2.get? a=some o)→φ h2
noncomputable def HOk (H:Hp) (h:Heap):Prop:=∀ a o,H a=some o→ObjOk P w H h a o
end
section
variable {P:Program} {w:World} {H H':Hp} {h h':Heap} {a:Addr} {o:HO}
theorem ObjOk.lt (x:ObjOk P w H h a o):a < h.objs.size:=by
 cases o with
 | lst xs=>obtain ⟨_,_,_,_,e⟩:=x;exact Heap.lt_size e
 | tup xs=>obtain ⟨_,_,_,p⟩:=x;exact p.lt
 | dK kvs=>obtain ⟨_,_,_,_,o,_,_,e,_⟩:=x;exact Heap.lt_size e
 | dT kvs=>obtain ⟨_,_,_,_,o,_,_,e,_⟩:=x;exact Heap.lt_size e
 | set S n=>obtain ⟨o,_,_,_,e,_⟩:=x;exact Heap.lt_size e
 | ins C dx fs=>obtain ⟨_,_,_,e,_⟩:=x;exact Heap.lt_size e
 | own y=>obtain ⟨_,e⟩:=x;exact Heap.lt_size e
 | xd fs=>obtain ⟨_,⟨_,_,_,e,_⟩,_⟩:=x;exact Heap.lt_size e
 | rng lo hi=>obtain ⟨_,_,_,e⟩:=x;exact Heap.lt_size e
 | frz ob u=>obtain ⟨e,_⟩:=x;exact Heap.lt_size e
 | tbl ps=>exact Heap.lt_size (show h.get? a=some _ from x)
 | met f y=>exact Heap.lt_size (show h.get? a=some _ from x)
 | ext φ=>obtain ⟨_,⟨_,e⟩,_⟩:=x;exact Heap.lt_size e
theorem Paired.mapP {α β:Type} {F G:α→β→Prop}:∀ {l₁:List α} {l₂:List β},Paired F l₁ l₂→(∀ a b,F a b→G a b)→Paired G l₁ l₂
 | _,_,.nil,_=>.nil
 | _,_,.cons r t,f=>.cons (f _ _ r) (Paired.mapP t f)
theorem ObjOk.stay (x:ObjOk P w H h a o) (k:∀ b u,(b=a∨H b=some (.own a))→h.get? b=some u→h'.get? b=some u)
  (ho:∀ b,H b=some (.own a)→H' b=some (.own a)) (ht:∀ b xs,H b=some (.tup xs)→H' b=some (.tup xs)):ObjOk P w H' h' a o:=by
 induction o with
 | lst xs=>obtain ⟨z,its,n,r,e⟩:=x;exact ⟨z,its,n,r,k _ _ (.inl rfl) e⟩
 | tup xs=>obtain ⟨z,its,r,ob,e,c⟩:=x;exact ⟨z,its,r,ob,k _ _ (.inl rfl) e,c⟩
 | dK kvs=>obtain ⟨z,y,vs,r,ob,es,ep,e,c⟩:=x;exact ⟨z,y,vs,r,ob,es,ep,k _ _ (.inl rfl) e,c⟩
 | dT kvs =>
  obtain ⟨z,y,xs,r,ob,es,ep,e,c⟩:=x
  exact ⟨z,y,xs,Paired.mapP r fun p q z=>⟨z.1,ht _ _ z.2.1,z.2.2⟩,ob,es,ep,k _ _ (.inl rfl) e,c⟩
 | set S n=>obtain ⟨ob,es,ep,t,e,c⟩:=x;exact ⟨ob,es,ep,t,k _ _ (.inl rfl) e,c⟩
 | ins C dx fs =>
  obtain ⟨d,z,ne,e,mA,⟨od,es,ep,e2,c⟩,r⟩:=x
  exact ⟨ho _ d,z,ne,k _ _ (.inl rfl) e,mA,⟨od,es,ep,k _ _ (.inr d) e2,c⟩,r⟩
 | own y=>obtain ⟨ob,e⟩:=x;exact ⟨ob,k _ _ (.inl rfl) e⟩
 | xd fs=>obtain ⟨mA,⟨od,es,ep,e,c⟩,r⟩:=x;exact ⟨mA,⟨od,es,ep,k _ _ (.inl rfl) e,c⟩,r⟩
 | rng lo hi=>obtain ⟨t,u,v,e⟩:=x;exact ⟨t,u,v,k _ _ (.inl rfl) e⟩
 | frz ob u ih=>obtain ⟨e,q⟩:=x;exact ⟨k _ _ (.inl rfl) e,ih q⟩
 | tbl ps =>
  have e:h.get? a=some { cls:=.none,data:=.fields ps }:=x
  show h'.get? a=some { cls:=.none,data:=.fields ps }
  exact k a _ (.inl rfl) e
 | met f y =>
  have e:h.get? a=some (PySem.W.methodObj (.ref f) (.ref y)):=x
  show h'.get? a=some (PySem.W.methodObj (.ref f) (.ref y))
  exact k a _ (.inl rfl) e
 | ext φ=>obtain ⟨p,⟨o,e⟩,st⟩:=x;exact ⟨st _ _ p fun o q=>k _ _ (.inl rfl) q,⟨o,k _ _ (.inl rfl) e⟩,st⟩
theorem HOk.lt (x:HOk P w H h) (e:H a=some o):a < h.objs.size:=(x a o e).lt
theorem HOk.fresh (x:HOk P w H h) (e:h.objs.size≤a):H a=none:=by
 cases q:H a with
 | none=>rfl
 | some u=>exact absurd (Nat.lt_of_lt_of_le (x.lt q) e) (Nat.lt_irrefl _)
theorem HOk.kept (x:HOk P w H h) (k:∀ b u,h.get? b=some u→h'.get? b=some u):HOk P w H h':=fun a o e =>
 (x a o e).stay (fun b u _ q=>k b u q) (fun _ q=>q) fun _ _ q=>q
theorem HOk.laid (x:HOk P w H h) (k:∀ b u,h.get? b=some u→h'.get? b=some u) (hp:h.objs.size≤a) (new:ObjOk P w (upd H a o) h' a o):HOk P w (upd H a o) h':=fun b u e=>by
 have hn:=x.fresh hp
 by_cases hb:b=a
 ·subst hb;rw [a9] at e;cases e;exact new
 ·rw [aR hb] at e
  exact (x b u e).stay (fun c v _ q=>k c v q) (fun c q=>by rw [aR (bo q hn)];exact q) fun c xs q=>by rw [aR (bo q hn)];exact q
end
noncomputable def Rd (H:Hp) (a:Addr) (u:HO):Prop:=H a=some u∨∃ o,H a=some (.frz o u)
theorem Rd.ok {P:Program} {w:World} {H:Hp} {h:Heap} {a:Addr} {u:HO} (r:Rd H a u) (x:HOk P w H h):ObjOk P w H h a u:=by
 rcases r with r|⟨o,r⟩
 ·exact x a u r
 ·obtain ⟨_,q⟩:=x a _ r
  exact q
noncomputable def Mut:Option HO→Prop
 | some (.lst _)=>True
 | some (.dK _)=>True
 | some (.dT _)=>True
 | some (.set _ _)=>True
 | some (.ins _ _ _)=>True
 | some (.ext _)=>True
 | _=>False
section
variable {P:Program} {w:World} {H:Hp} {h h':Heap} {x e:Addr} {o':HO}
theorem HOk.write (ok:HOk P w H h) (mu:Mut (H x)) (he:e=x∨H e=some (.own x)) (k:∀ b u,b≠e→h.get? b=some u→h'.get? b=some u) (heo:∃ u,h'.get? e=some u)
  (new:ObjOk P w (upd H x o') h' x o'):HOk P w (upd H x o') h':=fun b u q=>by
 have nown:∀ c y,H c=some (.own y)→c≠x:=fun c y r z=>by subst z;rw [r] at mu;exact mu
 have ntup:∀ c xs,H c=some (.tup xs)→c≠x:=fun c xs r z=>by subst z;rw [r] at mu;exact mu
 by_cases hb:b=x
 ·subst hb;rw [a9] at q;cases q;exact new
 ·rw [aR hb] at q
  by_cases hbe:b=e
  ·have q':H b=some (.own x):=by
    rcases he with z|z
    ·exact absurd (hbe.trans z) hb
    ·rw [hbe];exact z
   rw [q] at q';cases q'
   obtain ⟨v,hv⟩:=heo
   exact ⟨v,by rw [hbe];exact hv⟩
  ·refine (ok b u q).stay (fun c v hc r=>k c v ?_ r) (fun c r=>by rw [aR (nown c b r)];exact r) fun c xs r=>by rw [aR (ntup c xs r)];exact r
   rcases hc with rfl|hc
   ·exact hbe
   ·rintro rfl
    rcases he with z|z
    ·exact nown c b hc z
    ·rw [hc] at z;cases z;exact hb rfl
end
structure Un (fs ex:List Addr) (H H':Hp) (h h':Heap):Prop where
 keep:∀ b o,h.get? b=some o→H b=none→b∉fs→b∉ex→h'.get? b=some o
 slot:∀ b o,h.get? b=some o→H b=none→b∈fs→b∉ex→∃ sl,h'.get? b=some { o with slots:=sl }
 free:∀ b o,h.get? b=some o→H b=none→b∉ex→H' b=none
 there:∀ b o,h.get? b=some o→b∉ex→∃ o',h'.get? b=some o'
 tups:∀ b xs,H b=some (.tup xs)→H' b=some (.tup xs)
 frzs:∀ b o u,H b=some (.frz o u)→H' b=some (.frz o u)
 tbls:∀ b ps,H b=some (.tbl ps)→∃ more,H' b=some (.tbl (ps++more))
section
variable {fs fs' ex ex':List Addr} {H H1 H2:Hp} {h h1 h2 h':Heap} {a x e:Addr} {o:HO}
theorem Un.any (u:Un fs ex H H1 h h1) {b:Addr} {ob:Obj} (q:h.get? b=some ob) (n:H b=none) (hx:b∉ex):∃ sl,h1.get? b=some { ob with slots:=sl }:=by
 by_cases hb:b∈fs
 ·exact u.slot b ob q n hb hx
 ·exact ⟨ob.slots,u.keep b ob q n hb hx⟩
theorem Un.trans (a:Un fs ex H H1 h h1) (b:Un fs ex H1 H2 h1 h2):Un fs ex H H2 h h2 where
 keep:=fun c ob q n hc hx=>b.keep c ob (a.keep c ob q n hc hx) (a.free c ob q n hx) hc hx
 slot:=fun c ob q n hc hx=>by
  obtain ⟨sl,e1⟩:=a.slot c ob q n hc hx
  obtain ⟨sl',e2⟩:=b.slot c _ e1 (a.free c ob q n hx) hc hx
  exact ⟨sl',e2⟩
 free:=fun c ob q n hx=>by
  obtain ⟨o',e1⟩:=a.there c ob q hx
  exact b.free c o' e1 (a.free c ob q n hx) hx
 there:=fun c ob q hx=>by
  obtain ⟨o',e1⟩:=a.there c ob q hx
  exact b.there c o' e1 hx
 tups:=fun c xs q=>b.tups c xs (a.tups c xs q)
 frzs:=fun c ob xs q=>b.frzs c ob xs (a.frzs c ob xs q)
 tbls:=fun c ps q=>by
  obtain ⟨m1,e1⟩:=a.tbls c ps q
  obtain ⟨m2,e2⟩:=b.tbls c _ e1
  exact ⟨m1++m2,by rw [e2,Array.append_assoc]⟩
theorem Un.kept (k:∀ b u,h.get? b=some u→h'.get? b=some u):Un fs ex H H h h' :=
 ⟨fun b ob q _ _ _=>k b ob q,fun b ob q _ _ _=>⟨ob.slots,k b ob q⟩,fun _ _ _ n _=>n,fun b ob q _=>⟨ob,k b ob q⟩,fun _ _ q=>q,fun _ _ _ q=>q,fun _ ps q=>⟨#[],by rw [q];simp⟩⟩
theorem Un.refl:Un fs ex H H h h:=Un.kept fun _ _ q=>q
theorem Un.laid (k:∀ b u,h.get? b=some u→h'.get? b=some u) (hp:h.objs.size≤a) (hn:H a=none):Un fs ex H (upd H a o) h h' where
 keep:=fun b u q _ _ _=>k b u q
 slot:=fun b u q _ _ _=>⟨u.slots,k b u q⟩
 free:=fun b u q n _=>by rw [aR (Nat.ne_of_lt (Nat.lt_of_lt_of_le (Heap.lt_size q) hp))];exact n
 there:=fun b u q _=>⟨u,k b u q⟩
 tups:=fun b xs q=>by rw [aR (bo q hn)];exact q
 frzs:=fun b u xs q=>by rw [aR (bo q hn)];exact q
 tbls:=fun b ps q=>⟨#[],by rw [aR (bo q hn),q];simp⟩
theorem Un.write (mu:Mut (H x)) (he:e=x∨H e=some (.own x)) (k:∀ b u,b≠e→h.get? b=some u→h'.get? b=some u) (heo:∃ u,h'.get? e=some u):Un fs ex H (upd H x o) h h':=by
 have hx:∀ b,H b=none→b≠x:=fun b n z=>by subst z;rw [n] at mu;exact mu
 have hb:∀ b,H b=none→b≠e:=fun b n z=>by
  subst z
  rcases he with r|r
  ·exact hx b n r
  ·rw [n] at r;cases r
 have hm:∀ b u,H b=some u→¬ Mut (some u)→b≠x:=fun b u q nm z=>by subst z;rw [q] at mu;exact nm mu
 refine ⟨fun b u q n _ _=>k b u (hb b n) q,fun b u q n _ _=>⟨u.slots,k b u (hb b n) q⟩,fun b u q n _=>by rw [aR (hx b n)];exact n,fun b u q _=>?_,
  fun b xs q=>by rw [aR (hm b _ q fun z=>z)];exact q,fun b u xs q=>by rw [aR (hm b _ q fun z=>z)];exact q,fun b ps q=>⟨#[],by rw [aR (hm b _ q fun z=>z),q];simp⟩⟩
 by_cases hbe:b=e
 ·subst hbe;exact heo
 ·exact ⟨u,k b u hbe q⟩
end
noncomputable def trk (h:Heap) (H:Hp):List Addr:=(List.range h.objs.size).filter fun a=>(H a).isSome
noncomputable def hidT (h:Heap) (H:Hp):Heap:=PySem.W.hideAll h (trk h H)
theorem tX (h:Heap) (H:Hp):(hidT h H).objs.size=h.objs.size:=PySem.W.hideAll_size _ _
theorem vw {h:Heap} {H:Hp} {b:Addr} {o:Obj} (e:h.get? b=some o) (n:H b=none):(hidT h H).get? b=some o :=
 PySem.W.hideAll_get _ e fun hm=>by
  have q:(H b).isSome=true:=(List.mem_filter.mp hm).2
  rw [n] at q;simp at q
theorem wt {h:Heap} {H:Hp} {b:Addr} {o:Obj} (e:(hidT h H).get? b=some o):h.get? b=some o∧H b=none:=by
 have e':h.get? b=some o:=PySem.W.of_hideAll (trk h H) e
 refine ⟨e',?_⟩
 cases q:H b with
 | none=>rfl
 | some x =>
  have hm:b∈trk h H:=List.mem_filter.mpr ⟨List.mem_range.mpr (Heap.lt_size e'),by simp [q]⟩
  have z:(hidT h H).get? b=none:=PySem.W.hideAll_none (trk h H) hm
  rw [z] at e;cases e
end L2
namespace L2
open PySem PySem.Spec PyProof.Rows
structure Mod (K:PySem.W.Frag) (mg:Str→Option Value) (base:Heap):Prop where
 kin:K.In base
 glob:base.Ns mainGlobals mg
 blt:∃ mb,base.Ns builtinsNs mb∧∀ x:Str,x≠"__name__"→mb x=bootBuiltins x
 nolimit:base.NoLimit
structure Cx where
 prog:Program
 w:World
 K:PySem.W.Frag
 mg:Str→Option Value
 base:Heap
 A:Around
 N:List Str
 s₀:Shared
 H₀:Hp
 env:Env
 outer:List Env
 stack:List Env
 ex:List Addr
 fn:Str→Bool
 calm:Bool
 tn:Nat:=0
 pn:List (Addr×Obj)
 xe:Value→Shared→Prop
noncomputable def frs (l:List Env):List Addr:=l.filterMap (·.frame)
noncomputable abbrev Cx.fs (X:Cx):List Addr:=frs X.outer
noncomputable def Vis (sc:Scope) (x:Str):Prop:=sc.names.lookup x=some .local∨sc.names.lookup x=some .cell∨sc.names.lookup x=some .free
noncomputable def Loc (sc:Scope) (x:Str):Prop:=sc.names.lookup x=some .local∨sc.names.lookup x=some .cell
noncomputable def Look (env:Env) (h:Heap) (m:Str→Option Value) (x:Str) (u:Value):Prop :=
 (env.kindOf x=some .local∧m x=some u)∨((env.kindOf x=some .cell∨env.kindOf x=some .free)∧∃ c,env.cells.lookup x=some c∧h.IsCell c (some u))
structure Cx.Ok (X:Cx):Prop where
 mod:Mod X.K X.mg X.base
 kind:X.env.scope.kind=.function
 glob:X.env.globals=mainGlobals
 blt:X.env.builtins=builtinsNs
 above:X.s₀.heap.objs.size≤X.env.locals
 inj:∀ x y c,X.env.cells.lookup x=some c→X.env.cells.lookup y=some c→x=y
 has:∀ x,(X.env.kindOf x=some .cell∨X.env.kindOf x=some .free)→∃ c,X.env.cells.lookup x=some c
 cab:∀ x c,X.fn x=true→X.env.cells.lookup x=some c→X.s₀.heap.objs.size≤c
 hd:X.calm=true→X.A.handled=none
 frames:X.A.frames=some X.stack
 stk:X.stack=X.outer∨(X.stack=X.env::X.outer∧X.env.frame=some X.env.locals)
 exf:∀ b∈X.ex,b≠X.env.locals∧∀ x c,X.env.cells.lookup x=some c→c≠b
 bs:∀ b o,X.base.get? b=some o→X.s₀.heap.get? b=some o∧X.H₀ b=none
 bsz:X.base.objs.size≤X.s₀.heap.objs.size
 noex:∀ b o,X.base.get? b=some o→b∉X.ex
 exfs:∀ b∈X.ex,b∉X.fs
 funs:X.s₀.heap.FunFrames X.base X.outer
 frf:∀ b∈X.fs,X.H₀ b=none
structure Inv (X:Cx) (pins:List (Addr×Obj)) (σ:List (Option V)) (H:Hp) (s:Shared):Prop where
 ok:X.Ok
 os:s.os=X.s₀.os
 bare:AllBare s.gens
 base:Un X.fs X.ex X.H₀ H X.s₀.heap s.heap
 loc:∃ m,s.heap.Ns X.env.locals m∧∀ (i:Nat) (x:Str) (v:V),X.N[i]?=some x→σ[i]?=some (some v)→Vis X.env.scope x→∃ u,RelV v u∧Look X.env s.heap m x u
 cell:∀ x c,X.env.cells.lookup x=some c→∃ v,s.heap.IsCell c v
 free:H X.env.locals=none
 freeC:∀ x c,X.env.cells.lookup x=some c→H c=none
 pin:∀ p∈X.pn++pins,s.heap.get? p.1=some p.2∧H p.1=none∧p.1≠X.env.locals∧p.1∉X.fs∧∀ v,p.2.data≠.cell v
 hok:HOk X.prog X.w H s.heap
 len:σ.length=X.N.length
 tk:X.tn≤s.toks
end L2
local macro_rules | `(tactic| walk_at "tok") => `(tactic| first | assumption | exact L2.Inv.tk (by assumption) | exact Nat.le_succ_of_le (L2.Inv.tk (by assumption)) | exact Nat.le_succ_of_le (Nat.le_succ_of_le (L2.Inv.tk (by assumption))) | (have hI := L2.Inv.tk (by assumption); omega) | exact Nat.zero_le _)
namespace L2
open PySem PySem.Spec PyProof.Rows
section
variable {X:Cx} {pins:List (Addr×Obj)} {σ:List (Option V)} {H H':Hp} {s:Shared} {h':Heap}
theorem Cx.Ok.nofr (ok:X.Ok) {b:Addr} {o:Obj} (e:X.base.get? b=some o):b∉X.fs:=fun hb=>by
 have:=(ok.funs.mem hb).1
 rw [e] at this;cases this
theorem Inv.bs (I:Inv X pins σ H s):∀ b o,X.base.get? b=some o→s.heap.get? b=some o∧H b=none:=fun b o e =>
 ⟨I.base.keep b o (I.ok.bs b o e).1 (I.ok.bs b o e).2 (I.ok.nofr e) (I.ok.noex b o e),I.base.free b o (I.ok.bs b o e).1 (I.ok.bs b o e).2 (I.ok.noex b o e)⟩
theorem Inv.bk (I:Inv X pins σ H s):∀ b o,X.base.get? b=some o→s.heap.get? b=some o:=fun b o e=>(I.bs b o e).1
theorem Inv.mod (I:Inv X pins σ H s):Mod X.K X.mg X.base:=I.ok.mod
theorem Inv.kIn (I:Inv X pins σ H s):X.K.In s.heap:=I.ok.mod.kin.keeps I.bk
theorem Inv.lt (I:Inv X pins σ H s):X.env.locals < s.heap.objs.size:=let ⟨_,hn,_⟩:=I.loc;hn.lt
theorem Inv.sz (I:Inv X pins σ H s):X.s₀.heap.objs.size≤s.heap.objs.size:=Nat.le_trans I.ok.above (Nat.le_of_lt I.lt)
theorem Inv.nofs (I:Inv X pins σ H s) {a:Addr} (h:s.heap.objs.size≤a):a∉X.fs:=fun hb=>by
 obtain ⟨_,o,ho,_⟩:=I.ok.funs.mem hb
 exact absurd (Nat.lt_of_lt_of_le (Heap.lt_size ho) (Nat.le_trans I.sz h)) (Nat.lt_irrefl _)
theorem Inv.cne (I:Inv X pins σ H s):∀ x c,X.env.cells.lookup x=some c→c≠X.env.locals:=fun x c e z=>by
 obtain ⟨v,o,ho,hd⟩:=I.cell x c e
 obtain ⟨m,⟨o',es,ep,ho',hd',_⟩,_⟩:=I.loc
 rw [z,ho'] at ho;cases ho;rw [hd'] at hd;cases hd
theorem Inv.funs (I:Inv X pins σ H s):s.heap.FunFrames X.base X.outer:=by
 have all:∀ (l:List Env),(∀ b∈frs l,b∈X.fs)→X.s₀.heap.FunFrames X.base l→s.heap.FunFrames X.base l:=by
  intro l
  induction l with
  | nil=>intro _ _;trivial
  | cons env r ih =>
   intro hs hl
   obtain ⟨hk,⟨L,o,hf,hn,ho,hd⟩,hr⟩:=hl
   have hL:L∈X.fs:=hs L (by unfold frs;rw [List.filterMap_cons,hf];exact List.mem_cons_self)
   obtain ⟨sl,e⟩:=I.base.slot L o ho (I.ok.frf L hL) hL fun z=>I.ok.exfs L z hL
   exact ⟨hk,⟨L,_,hf,hn,e,hd⟩,ih (fun b hb=>hs b (by unfold frs;rw [List.filterMap_cons,hf];exact List.mem_cons_of_mem _ hb)) hr⟩
 exact all X.outer (fun _ hb=>hb) I.ok.funs
theorem Inv.stack (I:Inv X pins σ H s):s.heap.FunFrames X.base X.stack:=by
 rcases I.ok.stk with e|⟨e,hf⟩
 ·rw [e];exact I.funs
 ·rw [e]
  obtain ⟨m,hn,_⟩:=I.loc
  refine .cons (by rw [I.ok.kind];decide) hf hn ?_ I.funs
  exact Heap.get?_none_of_le (Nat.le_trans I.ok.bsz I.ok.above)
theorem Inv.stkSub (I:Inv X pins σ H s):∀ b∈frs X.stack,b∈X.env.locals::X.fs:=fun b hb=>by
 rcases I.ok.stk with e|⟨e,hf⟩
 ·rw [e] at hb;exact List.mem_cons_of_mem _ hb
 ·rw [e] at hb
  unfold frs at hb
  rw [List.filterMap_cons,hf] at hb
  exact hb
theorem Inv.stkFree (I:Inv X pins σ H s):∀ b∈frs X.stack,H b=none:=fun b hb=>by
 rcases List.mem_cons.mp (I.stkSub b hb) with e|hb
 ·rw [e];exact I.free
 ·obtain ⟨_,o,ho,_⟩:=I.ok.funs.mem hb
  exact I.base.free b o ho (I.ok.frf b hb) fun z=>I.ok.exfs b z hb
theorem Inv.step {g':Array GenState} {t':Nat} {d':Drawn} {ch:List Addr} (I:Inv X pins σ H s)
  (hch:∀ b∈ch,(b∈X.ex∨X.s₀.heap.objs.size≤b)∧b≠X.env.locals∧(∀ x c,X.env.cells.lookup x=some c→c≠b)∧∀ p∈X.pn++pins,p.1≠b)
  (keep:∀ b o,b≠X.env.locals→b∉X.fs→b∉ch→s.heap.get? b=some o→H b=none→h'.get? b=some o)
  (slot:∀ b o,b≠X.env.locals→b∈X.fs→b∉ch→s.heap.get? b=some o→H b=none→∃ sl,h'.get? b=some { o with slots:=sl }) (free:∀ b o,b∉ch→s.heap.get? b=some o→H b=none→H' b=none)
  (there:∀ b o,b∉ch→s.heap.get? b=some o→∃ o',h'.get? b=some o')
  (tups:∀ b xs,H b=some (.tup xs)→H' b=some (.tup xs)) (frzs:∀ b o u,H b=some (.frz o u)→H' b=some (.frz o u)) (tbls:∀ b ps,H b=some (.tbl ps)→∃ more,H' b=some (.tbl (ps++more)))
  (ns:∀ m,s.heap.Ns X.env.locals m→h'.Ns X.env.locals m) (hok:HOk X.prog X.w H' h') (hg:AllBare g') (ht:X.tn≤t':=by walk_at "tok") :
  Inv X pins σ H' { s with heap:=h',gens:=g',drawn:=d',toks:=t' }:=by
 have neL:∀ b o,X.s₀.heap.get? b=some o→b≠X.env.locals:=fun b o e=>Nat.ne_of_lt (Nat.lt_of_lt_of_le (Heap.lt_size e) I.ok.above)
 have neC:∀ b o,X.s₀.heap.get? b=some o→b∉X.ex→b∉ch:=fun b o e hx hb=>by
  rcases (hch b hb).1 with z|z
  ·exact hx z
  ·exact absurd (Nat.lt_of_lt_of_le (Heap.lt_size e) z) (Nat.lt_irrefl _)
 have cellK:∀ x c,X.env.cells.lookup x=some c→∀ v,s.heap.IsCell c v→h'.IsCell c v:=fun x c e v ⟨o,ho,hd⟩=>by
  have nch:c∉ch:=fun z=>(hch c z).2.2.1 x c e rfl
  by_cases hc:c∈X.fs
  ·obtain ⟨sl,q⟩:=slot c o (I.cne x c e) hc nch ho (I.freeC x c e)
   exact ⟨_,q,hd⟩
  ·exact ⟨o,keep c o (I.cne x c e) hc nch ho (I.freeC x c e),hd⟩
 refine ⟨I.ok,I.os,hg,⟨fun b o e n hb hx=>?_,fun b o e n hb hx=>?_,fun b o e n hx=>?_,fun b o e hx=>?_,fun b xs e=>tups b xs (I.base.tups b xs e),fun b o xs e=>frzs b o xs (I.base.frzs b o xs e),fun b ps e=>?_⟩,?_,fun x c e=>?_,?_,fun x c e=>?_,fun p hp=>?_,hok,I.len,ht⟩
 ·exact keep b o (neL b o e) hb (neC b o e hx) (I.base.keep b o e n hb hx) (I.base.free b o e n hx)
 ·obtain ⟨sl,e1⟩:=I.base.slot b o e n hb hx
  obtain ⟨sl',e2⟩:=slot b _ (neL b o e) hb (neC b o e hx) e1 (I.base.free b o e n hx)
  exact ⟨sl',e2⟩
 ·obtain ⟨o',e1⟩:=I.base.there b o e hx
  exact free b o' (neC b o e hx) e1 (I.base.free b o e n hx)
 ·obtain ⟨o',e1⟩:=I.base.there b o e hx
  exact there b o' (neC b o e hx) e1
 ·obtain ⟨m1,e1⟩:=I.base.tbls b ps e
  obtain ⟨m2,e2⟩:=tbls b _ e1
  exact ⟨m1++m2,by rw [e2,Array.append_assoc]⟩
 ·obtain ⟨m,hn,hl⟩:=I.loc
  refine ⟨m,ns m hn,fun i x v e1 e2 e3=>?_⟩
  obtain ⟨u,r,l⟩:=hl i x v e1 e2 e3
  refine ⟨u,r,?_⟩
  rcases l with l|⟨k,c,e,z⟩
  ·exact .inl l
  ·exact .inr ⟨k,c,e,cellK x c e _ z⟩
 ·obtain ⟨v,z⟩:=I.cell x c e
  exact ⟨v,cellK x c e v z⟩
 ·obtain ⟨m,⟨o,_,_,ho,_⟩,_⟩:=I.loc
  exact free _ o (fun z=>(hch _ z).2.1 rfl) ho I.free
 ·obtain ⟨v,o,ho,hd⟩:=I.cell x c e
  exact free c o (fun z=>(hch c z).2.2.1 x c e rfl) ho (I.freeC x c e)
 ·obtain ⟨e,n,ne,nf,d⟩:=I.pin p hp
  have nch:p.1∉ch:=fun z=>(hch p.1 z).2.2.2 p hp rfl
  exact ⟨keep p.1 p.2 ne nf nch e n,free p.1 p.2 nch e n,ne,nf,d⟩
theorem Inv.un {t':Nat} (I:Inv X pins σ H s) (u:Un X.fs [] H H' s.heap h') (hok:HOk X.prog X.w H' h') (ht:X.tn≤t':=by walk_at "tok"):Inv X pins σ H' { s with heap:=h',toks:=t' }:=by
 obtain ⟨m,⟨o,es,ep,ho,r⟩,_⟩:=id I.loc
 obtain ⟨sl,hL⟩:=u.any ho I.free (by simp)
 exact I.step (g':=s.gens) (d':=s.drawn) (ch:=[]) (fun _ z=>nomatch z) (fun b o _ hb _ e n=>u.keep b o e n hb (by simp)) (fun b o _ hb _ e n=>u.slot b o e n hb (by simp)) (fun b o _ e n=>u.free b o e n (by simp)) (fun b o _ e=>u.there b o e (by simp)) u.tups u.frzs u.tbls (fun m' hm=>by
  obtain ⟨o',es',ep',ho',r'⟩:=hm
  rw [ho] at ho';cases ho'
  exact ⟨_,es',ep',hL,r'⟩) hok I.bare
theorem Inv.call {g':Array GenState} {t':Nat} {d':Drawn} {ch:List Addr} (I:Inv X pins σ H s) (u:Un (frs X.stack) ch H H' s.heap h') (hok:HOk X.prog X.w H' h') (hg:AllBare g')
  (hch:∀ b∈ch,(b∈X.ex∨X.s₀.heap.objs.size≤b)∧b≠X.env.locals∧(∀ x c,X.env.cells.lookup x=some c→c≠b)∧∀ p∈X.pn++pins,p.1≠b) (ht:X.tn≤t':=by walk_at "tok") :
  Inv X pins σ H' { s with heap:=h',gens:=g',drawn:=d',toks:=t' }:=by
 obtain ⟨m,⟨o,es,ep,ho,r⟩,_⟩:=id I.loc
 obtain ⟨sl,hL⟩:=u.any ho I.free fun z=>(hch _ z).2.1 rfl
 exact I.step (ch:=ch) hch (fun b o hL hb hc e n=>u.keep b o e n (fun z=>(List.mem_cons.mp (I.stkSub b z)).elim hL hb) hc) (fun b o _ _ hc e n=>u.any e n hc) (fun b o hc e n=>u.free b o e n hc) (fun b o hc e=>u.there b o e hc) u.tups u.frzs u.tbls (fun m' hm=>by
  obtain ⟨o',es',ep',ho',r'⟩:=hm
  rw [ho] at ho';cases ho'
  exact ⟨_,es',ep',hL,r'⟩) hok hg
theorem Inv.turned {t':Nat} {it:Addr} (I:Inv X pins σ H s) (k:∀ b o,b≠it→s.heap.get? b=some o→h'.get? b=some o) (hn:H it=none) (hL:it≠X.env.locals)
  (h1:it∈X.ex∨X.s₀.heap.objs.size≤it) (h2:∀ x c,X.env.cells.lookup x=some c→c≠it) (h3:∀ p∈X.pn++pins,p.1≠it) (ht:X.tn≤t':=by walk_at "tok"):Inv X pins σ H { s with heap:=h',toks:=t' }:=by
 have nit:∀ b u,H b=some u→b≠it:=fun b u e z=>by rw [z,hn] at e;cases e
 refine I.step (g':=s.gens) (d':=s.drawn) (ch:=[it]) (fun b hb=>?_) (fun b o _ _ hc e _=>k b o (fun z=>hc (by simp [z])) e) (fun b o _ _ hc e _=>⟨o.slots,k b o (fun z=>hc (by simp [z])) e⟩) (fun _ _ _ _ n=>n)
  (fun b o hc e=>⟨o,k b o (fun z=>hc (by simp [z])) e⟩) (fun _ _ e=>e) (fun _ _ _ e=>e) (fun b ps e=>⟨#[],by rw [e];simp⟩) (fun m hm=>?_) (fun b u e=>?_) I.bare
 ·have e:b=it:=by simpa using hb
  subst e
  exact ⟨h1,hL,h2,h3⟩
 ·obtain ⟨o,es,ep,ho,r⟩:=hm
  exact ⟨o,es,ep,k _ o (Ne.symm hL) ho,r⟩
 ·refine (I.hok b u e).stay (fun c v hc q=>k c v ?_ q) (fun _ q=>q) fun _ _ q=>q
  rcases hc with z|z
  ·rw [z];exact nit b u e
  ·exact nit c _ z
theorem Inv.tok (I:Inv X pins σ H s) (t:Nat) (ht:X.tn≤t:=by walk_at "tok"):Inv X pins σ H { s with toks:=t }:=I.un (h':=s.heap) (t':=t) Un.refl I.hok
theorem Inv.kept {t':Nat} (I:Inv X pins σ H s) (k:∀ b u,s.heap.get? b=some u→h'.get? b=some u) (ht:X.tn≤t':=by walk_at "tok"):Inv X pins σ H { s with heap:=h',toks:=t' }:=I.un (Un.kept k) (I.hok.kept k)
theorem Inv.laid {a:Addr} {o:HO} {t':Nat} (I:Inv X pins σ H s) (k:∀ b u,s.heap.get? b=some u→h'.get? b=some u) (hp:s.heap.objs.size≤a) (new:ObjOk X.prog X.w (upd H a o) h' a o) (ht:X.tn≤t':=by walk_at "tok") :
  Inv X pins σ (upd H a o) { s with heap:=h',toks:=t' }:=I.un (Un.laid k hp (I.hok.fresh hp)) (I.hok.laid k hp new)
theorem Inv.write {x e:Addr} {o:HO} {t':Nat} (I:Inv X pins σ H s) (mu:Mut (H x)) (he:e=x∨H e=some (.own x)) (k:∀ b u,b≠e→s.heap.get? b=some u→h'.get? b=some u) (heo:∃ u,h'.get? e=some u)
  (new:ObjOk X.prog X.w (upd H x o) h' x o) (ht:X.tn≤t':=by walk_at "tok"):Inv X pins σ (upd H x o) { s with heap:=h',toks:=t' }:=I.un (Un.write mu he k heo) (I.hok.write mu he k heo new)
theorem Inv.pins_of {pins':List (Addr×Obj)} (I:Inv X pins σ H s) (h:∀ p∈pins',s.heap.get? p.1=some p.2∧H p.1=none∧p.1≠X.env.locals∧p.1∉X.fs∧∀ v,p.2.data≠.cell v):Inv X pins' σ H s :=
 ⟨I.ok,I.os,I.bare,I.base,I.loc,I.cell,I.free,I.freeC,fun p hp=>(List.mem_append.mp hp).elim (fun z=>I.pin p (List.mem_append_left _ z)) (h p),I.hok,I.len,I.tk⟩
theorem qg {N:List Str} (hN:N.Nodup) {i j:Nat} {x:Str} (a:N[i]?=some x) (b:N[j]?=some x):i=j:=by
 obtain ⟨h1,e1⟩:=List.getElem?_eq_some_iff.mp a
 obtain ⟨h2,e2⟩:=List.getElem?_eq_some_iff.mp b
 exact (List.getElem_inj hN).mp (e1.trans e2.symm)
theorem tG {M:Model} {A:Around} {E:Value→Shared→Prop} {i:Nat} {x:Str} {v:V} {u:Value} {Q:Unit→Shared→Prop} (I:Inv X pins σ H s) (hN:X.N.Nodup) (hi:X.N[i]?=some x) (hx:Loc X.env.scope x) (r:RelV v u)
  (h:∀ s',Inv X pins (σ.set i (some v)) H s'→(∃ a,Heap.SameBut a s.heap s'.heap∧(a=X.env.locals∨X.env.cells.lookup x=some a))→Q () s') (hf:X.fn x=true∨X.env.scope.names.lookup x=some .local:=by first|exact .inl rfl|exact .inr rfl|assumption):wpAny M A (storeName X.env x u) Q E s:=by
 obtain ⟨m,hn,hl⟩:=id I.loc
 have hcls:(X.env.scope.kind==.class||(X.env.scope.kind==.module&&X.env.locals != X.env.globals))=false:=by rw [I.ok.kind];rfl
 have hiσ:i < σ.length:=by rw [I.len];exact (List.getElem?_eq_some_iff.mp hi).1
 have cne:=I.cne
 have tracked:∀ {a:Addr} {h':Heap},(∃ o,s.heap.get? a=some o∧H a=none)→Heap.SameBut a s.heap h'→HOk X.prog X.w H h':=fun {a h'} ha hs b ob e=>by
  obtain ⟨_,_,hfree⟩:=ha
  refine (I.hok b ob e).stay (fun c w' hc q=>(hs.2 c ?_).trans q) (fun _ q=>q) fun _ _ q=>q
  rintro rfl
  rcases hc with rfl|hc
  ·rw [hfree] at e;cases e
  ·rw [hfree] at hc;cases hc
 rcases hx with hk|hk
 ·refine wpAny_storeName_local hk hn (fun h' hn' hs=>?_) hcls
  obtain ⟨oL,_,_,hoL,_⟩:=id hn
  refine h _ ⟨I.ok,I.os,I.bare,⟨fun b o e n hb hx=>?_,fun b o e n hb hx=>?_,I.base.free,fun b o e hx=>?_,I.base.tups,I.base.frzs,I.base.tbls⟩,⟨_,hn',fun j y v' e1 e2 e3=>?_⟩,fun y c e=>?_,I.free,I.freeC,fun p hp=>?_,tracked ⟨oL,hoL,I.free⟩ hs,by simpa using I.len,by walk_at "tok"⟩ ⟨_,hs,.inl rfl⟩
  ·exact (hs.2 b (Nat.ne_of_lt (Nat.lt_of_lt_of_le (Heap.lt_size e) I.ok.above))).trans (I.base.keep b o e n hb hx)
  ·obtain ⟨sl,e1⟩:=I.base.slot b o e n hb hx
   exact ⟨sl,(hs.2 b (Nat.ne_of_lt (Nat.lt_of_lt_of_le (Heap.lt_size e) I.ok.above))).trans e1⟩
  ·obtain ⟨o',e1⟩:=I.base.there b o e hx
   exact ⟨o',(hs.2 b (Nat.ne_of_lt (Nat.lt_of_lt_of_le (Heap.lt_size e) I.ok.above))).trans e1⟩
  ·by_cases hj:j=i
   ·subst hj
    rw [hi] at e1;cases e1
    rw [List.getElem?_set_self hiσ] at e2
    cases e2
    exact ⟨u,r,.inl ⟨hk,by simp⟩⟩
   ·rw [List.getElem?_set_ne (Ne.symm hj)] at e2
    obtain ⟨u',r',q⟩:=hl j y v' e1 e2 e3
    refine ⟨u',r',?_⟩
    rcases q with ⟨k,e⟩|⟨k,c,e,z⟩
    ·refine .inl ⟨k,?_⟩
     have:y≠x:=fun e=>hj (qg hN e1 (e ▸ hi))
     simp [this,e]
    ·exact .inr ⟨k,c,e,z.sameBut hs (cne y c e)⟩
  ·obtain ⟨w',z⟩:=I.cell y c e
   exact ⟨w',z.sameBut hs (cne y c e)⟩
  ·obtain ⟨e,n,ne,nf,d⟩:=I.pin p hp
   exact ⟨(hs.2 p.1 ne).trans e,n,ne,nf,d⟩
 ·have hfn:X.fn x=true:=by
   rcases hf with z|z
   ·exact z
   ·rw [z] at hk;cases hk
  obtain ⟨c,hc⟩:=I.ok.has x (.inl hk)
  obtain ⟨w',z⟩:=I.cell x c hc
  refine wpAny_storeName_cell I.ok.kind hk hc z (fun h' hc' hs=>?_)
  obtain ⟨oc,hoc,hocd⟩:=id z
  refine h { s with heap:=h' } ⟨I.ok,I.os,I.bare,⟨fun b o e n hb hx=>?_,fun b o e n hb hx=>?_,I.base.free,fun b o e hx=>?_,I.base.tups,I.base.frzs,I.base.tbls⟩,⟨m,hn.sameBut hs (Ne.symm (cne x c hc)),fun j y v' e1 e2 e3=>?_⟩,fun y c' e=>?_,I.free,I.freeC,fun p hp=>?_,tracked ⟨oc,hoc,I.freeC x c hc⟩ hs,by simpa using I.len,I.tk⟩ ⟨c,hs,.inr hc⟩
  ·exact (hs.2 b (Nat.ne_of_lt (Nat.lt_of_lt_of_le (Heap.lt_size e) (I.ok.cab x c hfn hc)))).trans (I.base.keep b o e n hb hx)
  ·obtain ⟨sl,e1⟩:=I.base.slot b o e n hb hx
   exact ⟨sl,(hs.2 b (Nat.ne_of_lt (Nat.lt_of_lt_of_le (Heap.lt_size e) (I.ok.cab x c hfn hc)))).trans e1⟩
  ·obtain ⟨o',e1⟩:=I.base.there b o e hx
   exact ⟨o',(hs.2 b (Nat.ne_of_lt (Nat.lt_of_lt_of_le (Heap.lt_size e) (I.ok.cab x c hfn hc)))).trans e1⟩
  ·by_cases hj:j=i
   ·subst hj
    rw [hi] at e1;cases e1
    rw [List.getElem?_set_self hiσ] at e2
    cases e2
    exact ⟨u,r,.inr ⟨.inl hk,c,hc,hc'⟩⟩
   ·rw [List.getElem?_set_ne (Ne.symm hj)] at e2
    obtain ⟨u',r',q⟩:=hl j y v' e1 e2 e3
    refine ⟨u',r',?_⟩
    rcases q with q|⟨k,c',e,z'⟩
    ·exact .inl q
    ·refine .inr ⟨k,c',e,z'.sameBut hs ?_⟩
     rintro rfl
     exact hj (qg hN e1 (I.ok.inj _ _ _ e hc ▸ hi))
  ·by_cases hcc:c'=c
   ·subst hcc;exact ⟨_,hc'⟩
   ·obtain ⟨w2,z2⟩:=I.cell y c' e
    exact ⟨w2,z2.sameBut hs hcc⟩
  ·obtain ⟨e,n,ne,nf,d⟩:=I.pin p hp
   refine ⟨(hs.2 p.1 ?_).trans e,n,ne,nf,d⟩
   intro q
   rw [q,hoc] at e
   have q':oc=p.2:=Option.some.inj e
   exact d w' (by rw [← q'];exact hocd)
theorem mS {M:Model} {A:Around} {E:Value→Shared→Prop} {i:Nat} {x:Str} {v:V} {u:Value} {Q:Unit→Shared→Prop} (I:Inv X pins σ H s) (hN:X.N.Nodup) (hi:X.N[i]?=some x) (hx:Loc X.env.scope x) (r:RelV v u)
  (h:∀ s',Inv X pins (σ.set i (some v)) H s'→Q () s') (hf:X.fn x=true∨X.env.scope.names.lookup x=some .local:=by first|exact .inl rfl|exact .inr rfl|assumption):wpAny M A (storeName X.env x u) Q E s :=
 tG I hN hi hx r (fun s' I' _=>h s' I') hf
theorem Inv.call' {s':Shared} {ch:List Addr} (I:Inv X pins σ H s) (ho:s'.os=s.os) (u:Un (frs X.stack) ch H H' s.heap s'.heap) (hok:HOk X.prog X.w H' s'.heap) (hg:AllBare s'.gens)
  (hch:∀ b∈ch,(b∈X.ex∨X.s₀.heap.objs.size≤b)∧b≠X.env.locals∧(∀ x c,X.env.cells.lookup x=some c→c≠b)∧∀ p∈X.pn++pins,p.1≠b) (ht:X.tn≤s'.toks:=by walk_at "tok"):Inv X pins σ H' s':=by
 obtain ⟨h',g',d',t',o'⟩:=s'
 have e:o'=s.os:=ho
 subst e
 exact I.call (g':=g') (t':=t') (d':=d') u hok hg hch
end
noncomputable abbrev XK:=Value→Option Addr→Hp→Prop
noncomputable abbrev St:=List (Option V)
noncomputable abbrev VK:=V→Hp→Prop
noncomputable abbrev TE:=St→Hp→VK→Prop
noncomputable abbrev TT:=St→Hp→(Bool→Hp→Prop)→Prop
noncomputable abbrev TA:=St→Hp→(List V→Hp→Prop)→Prop
structure Ends where
 nx:St→Hp→Prop
 rt:VK
 bk:St→Hp→Prop:=fun _ _=>False
 ct:St→Hp→Prop:=fun _ _=>False
noncomputable abbrev TS:=Ends→St→Hp→Prop
noncomputable def EP (X:Cx) (pins:List (Addr×Obj)) (σ:St) (Q:VK) (u:Value) (s':Shared):Prop:=∃ v H',Inv X pins σ H' s'∧RelV v u∧Q v H'
noncomputable def TP (X:Cx) (pins:List (Addr×Obj)) (σ:St) (Q:Bool→Hp→Prop) (b:Bool) (s':Shared):Prop:=∃ H',Inv X pins σ H' s'∧Q b H'
noncomputable def AP (X:Cx) (pins:List (Addr×Obj)) (σ:St) (Q:List V→Hp→Prop) (us:List Value) (s':Shared):Prop:=∃ vs H',Inv X pins σ H' s'∧Vals vs us∧Q vs H'
noncomputable def SP (X:Cx) (pins:List (Addr×Obj)) (D:Ends) (f:Flow) (s':Shared):Prop :=
 match f with
 | .next=>∃ σ' H',Inv X pins σ' H' s'∧D.nx σ' H'
 | .brk=>∃ σ' H',Inv X pins σ' H' s'∧D.bk σ' H'
 | .cont=>∃ σ' H',Inv X pins σ' H' s'∧D.ct σ' H'
 | .ret u=>∃ v σ' H',Inv X pins σ' H' s'∧RelV v u∧D.rt v H'
noncomputable def PE (X:Cx) (e:Expr) (t:TE):Prop :=
 ∀ (pins:List (Addr×Obj)) (s:Shared) (σ:St) (H:Hp) (Q:VK),Inv X pins σ H s→t σ H Q→wpAny (model X.prog X.w) X.A (eval e X.env) (EP X pins σ Q) X.xe s
noncomputable def PT (X:Cx) (e:Expr) (t:TT):Prop :=
 ∀ (pins:List (Addr×Obj)) (s:Shared) (σ:St) (H:Hp) (Q:Bool→Hp→Prop),Inv X pins σ H s→t σ H Q→wpAny (model X.prog X.w) X.A (isTrue e X.env (eval e X.env)) (TP X pins σ Q) X.xe s
noncomputable def PW (X:Cx) (e:Expr) (t:TT):Prop :=
 ∀ (whole:Sem Value) (pins:List (Addr×Obj)) (s:Shared) (σ:St) (H:Hp) (Q:Bool→Hp→Prop),Inv X pins σ H s→t σ H Q→wpAny (model X.prog X.w) X.A (isTrue e X.env whole) (TP X pins σ Q) X.xe s
theorem PW.pt {X:Cx} {e:Expr} {t:TT} (h:PW X e t):PT X e t:=h _
noncomputable def PA (X:Cx) (es:List Expr) (t:TA):Prop :=
 ∀ (pos:Pos) (pins:List (Addr×Obj)) (s:Shared) (σ:St) (H:Hp) (Q:List V→Hp→Prop),Inv X pins σ H s→t σ H Q→wpAny (model X.prog X.w) X.A (spliced (backTo pos (starEach es X.env))) (AP X pins σ Q) X.xe s
noncomputable def PS (X:Cx) (st:Stmt) (t:TS):Prop :=
 ∀ (pins:List (Addr×Obj)) (s:Shared) (σ:St) (H:Hp) (D:Ends),Inv X pins σ H s→t D σ H→wpAny (model X.prog X.w) X.A (exec st X.env) (SP X pins D) X.xe s
noncomputable def PSs (X:Cx) (st:List Stmt) (t:TS):Prop :=
 ∀ (pins:List (Addr×Obj)) (s:Shared) (σ:St) (H:Hp) (D:Ends),Inv X pins σ H s→t D σ H→wpAny (model X.prog X.w) X.A (execs st X.env) (SP X pins D) X.xe s
theorem thn {α:Type} {t:Sem α} {Q Q':α→Shared→Prop} {M:Model} {A:Around} {E:Value→Shared→Prop} {s:Shared} (h:wpAny M A t Q E s) (hQ:∀ a s,Q a s→Q' a s):wpAny M A t Q' E s:=wpAny_mono h hQ fun _ _ x=>x
end L2
namespace L2
open PySem PySem.Spec PyProof.Rows
section
variable {X:Cx}
noncomputable def tVar (i:Nat):TE:=fun σ H Q=>∃ v,σ[i]?=some (some v)∧Q v H
noncomputable def tC (v:V):TE:=fun _ H Q=>Q v H
theorem yY {i:Nat} {x:Str} {pos:Pos} (hN:X.N[i]?=some x) (hv:Vis X.env.scope x) (hd:(x==("__debug__":Str))=false:=by decide) (hcd:(x==("__classdict__":Str))=false:=by decide):PE X (.Name x pos) (tVar i):=by
 intro pins s σ H Q I h
 obtain ⟨v,e,h⟩:=h
 obtain ⟨m,hn,hl⟩:=I.loc
 obtain ⟨u,r,l⟩:=hl i x v hN e hv
 have fin:EP X pins σ Q u s:=⟨v,H,I,r,h⟩
 rcases l with ⟨hk,hm⟩|⟨hk,c,hc,hcell⟩
 ·exact wpAny_Name (wpAny_loadName_local I.ok.kind hk hn hm fin) hd
 ·rcases hk with hk|hk
  ·exact wpAny_Name (wpAny_loadName_cell I.ok.kind hk hc hcell fin) hd
  ·exact wpAny_Name (wpAny_loadName_free I.ok.kind hk hc hcell fin hcd) hd
theorem zJ {i j pos}:PE X (.Constant (.int i) j pos) (tC (.int i)):=fun _ _ _ H _ I h=>wpAny_Constant_int ⟨.int i,H,I.tok _,⟨_,rfl⟩,h⟩
theorem A4 {b j pos}:PE X (.Constant (.bool b) j pos) (tC (.bl b)):=fun _ _ _ H _ I h=>Constant_bool ⟨.bl b,H,I,rfl,h⟩
theorem ye {j pos}:PE X (.Constant .none j pos) (tC .non):=fun _ _ _ H _ I h=>Constant_none ⟨.non,H,I,rfl,h⟩
theorem zf {x j pos}:PE X (.Constant (.str x) j pos) (tC (.str x)):=fun _ _ _ H _ I h=>Calls.Constant_str ⟨.str x,H,I.tok _,⟨_,rfl⟩,h⟩
noncomputable def Gl (X:Cx) (x:Str):Prop:=X.env.kindOf x=some .globalImplicit
theorem pD {E:Value→Shared→Prop} {pins:List (Addr×Obj)} {s:Shared} {σ:St} {H:Hp} {x:Str} {u:Value} {pos:Pos} {Q:Value→Shared→Prop} (I:Inv X pins σ H s) (hg:Gl X x) (hm:X.mg x=some u) (h:Q u s)
  (hd:(x==("__debug__":Str))=false:=by decide):wpAny (model X.prog X.w) X.A (eval (.Name x pos) X.env) Q E s :=
 Calls.Name_function_global I.ok.kind hg (Calls.loadGlobal_global (by rw [I.ok.glob];exact I.mod.glob.keeps I.bk) hm h) hd
theorem l8 {E:Value→Shared→Prop} {pins:List (Addr×Obj)} {s:Shared} {σ:St} {H:Hp} {x:Str} {u:Value} {pos:Pos} {Q:Value→Shared→Prop} (I:Inv X pins σ H s) (hg:Gl X x) (hm:X.mg x=none) (hv:bootBuiltins x=some u) (h:Q u s)
  (hn:x≠"__name__":=by decide) (hd:(x==("__debug__":Str))=false:=by decide):wpAny (model X.prog X.w) X.A (eval (.Name x pos) X.env) Q E s:=by
 obtain ⟨mb,h1,h2⟩:=I.mod.blt
 exact Calls.Name_function_global I.ok.kind hg (Calls.loadGlobal_builtin (by rw [I.ok.glob];exact I.mod.glob.keeps I.bk) hm (by rw [I.ok.blt];exact h1.keeps I.bk) ((h2 x hn).trans hv) h) hd
theorem sq {x:Str} {v:V} {u:Value} {pos:Pos} (hg:Gl X x) (hm:X.mg x=some u) (r:RelV v u) (hd:(x==("__debug__":Str))=false:=by decide):PE X (.Name x pos) (tC v) :=
 fun _ _ _ H _ I h=>pD I hg hm ⟨v,H,I,r,h⟩ hd
theorem wM {x:Str} {v:V} {u:Value} {pos:Pos} (hg:Gl X x) (hm:X.mg x=none) (hv:bootBuiltins x=some u) (r:RelV v u) (hn:x≠"__name__":=by decide) (hd:(x==("__debug__":Str))=false:=by decide):PE X (.Name x pos) (tC v) :=
 fun _ _ _ H _ I h=>l8 I hg hm hv ⟨v,H,I,r,h⟩ hn hd
variable {a b:Expr} {ta tb:TE} {pos:Pos}
noncomputable def tB (t:TE):TT:=fun σ H Q=>t σ H fun x H1=>∃ c,x=.bl c∧Q c H1
variable {tA tB':TT} {rest:List Expr}
noncomputable def tAnd (t u:TT):TT:=fun σ H Q=>t σ H fun c H1=>if c=true then u σ H1 Q else Q false H1
noncomputable def tOr (t u:TT):TT:=fun σ H Q=>t σ H fun c H1=>if c=true then Q true H1 else u σ H1 Q
noncomputable def tNot (t:TT):TT:=fun σ H Q=>t σ H fun c H1=>Q (!c) H1
theorem wV (ha:PT X a tA):PW X (.BoolOp .And [a] pos) tA:=by
 intro wh pins s σ H Q I h
 refine isTrue_and (thn (ha pins s σ H Q I h) fun c s1 e=>?_)
 cases c with
 | true=>exact isTrue_and_nil e
 | false=>exact e
theorem xT (ha:PT X a tA):PW X (.BoolOp .Or [a] pos) tA:=by
 intro wh pins s σ H Q I h
 refine isTrue_or (thn (ha pins s σ H Q I h) fun c s1 e=>?_)
 cases c with
 | false=>exact isTrue_or_nil e
 | true=>exact e
theorem yf (ha:PT X a tA) (hb:PW X (.BoolOp .And (b::rest) pos) tB'):PW X (.BoolOp .And (a::b::rest) pos) (tAnd tA tB'):=by
 intro wh pins s σ H Q I h
 refine isTrue_and (thn (ha pins s σ H _ I h) fun c s1 ⟨H1,I1,q1⟩=>?_)
 cases c with
 | true=>exact hb wh pins s1 σ H1 Q I1 q1
 | false=>exact ⟨H1,I1,q1⟩
theorem z6 (ha:PT X a tA) (hb:PW X (.BoolOp .Or (b::rest) pos) tB'):PW X (.BoolOp .Or (a::b::rest) pos) (tOr tA tB'):=by
 intro wh pins s σ H Q I h
 refine isTrue_or (thn (ha pins s σ H _ I h) fun c s1 ⟨H1,I1,q1⟩=>?_)
 cases c with
 | true=>exact ⟨H1,I1,q1⟩
 | false=>exact hb wh pins s1 σ H1 Q I1 q1
theorem yB (ha:PT X a tA):PT X (.UnaryOp .Not a pos) (tNot tA):=by
 intro pins s σ H Q I h
 exact isTrue_not (ha pins s σ H (fun c H1=>Q (!c) H1) I h)
theorem yt {op} {t:TE} (h:PE X a t):PE X (.BoolOp op [a] pos) t:=fun pins s σ H Q I hw=>BoolOp_one (h pins s σ H Q I hw)
noncomputable def tIf (t:TT) (ta tb:TE):TE:=fun σ H Q=>t σ H fun c H1=>if c=true then ta σ H1 Q else tb σ H1 Q
theorem vn {c:Expr} (hc:PT X c tA) (ha:PE X a ta) (hb:PE X b tb):PE X (.IfExp c a b pos) (tIf tA ta tb):=by
 intro pins s σ H Q I h
 refine wpAny_IfExp (thn (hc pins s σ H _ I h) fun d s1 ⟨H1,I1,q1⟩=>?_)
 cases d with
 | true=>exact ha pins s1 σ H1 Q I1 q1
 | false=>exact hb pins s1 σ H1 Q I1 q1
end
end L2
namespace L2
open PySem PySem.Spec PyProof.Rows
noncomputable def SqL (K:PySem.W.Frag) (H:Hp) (a:Addr) (xs:List V):Prop :=
 Rd H a (.lst xs) ∨
  ∃ (o:Obj) (its:Array Value) (n:Nat),K.lookup a=some o∧o.cls=.type "list"∧o.dict=none∧o.data=.seq its n∧its.size≤sizeLine∧Vals xs its.toList
noncomputable def SqT (K:PySem.W.Frag) (H:Hp) (a:Addr) (xs:List V):Prop :=
 Rd H a (.tup xs) ∨
  ∃ (o:Obj) (its:Array Value) (n:Nat),K.lookup a=some o∧o.cls=.type "tuple"∧o.data=.seq its n∧its.size≤sizeLine∧Vals xs its.toList
noncomputable def absV:Value→Option V
 | .none=>some .non
 | .bool b=>some (.bl b)
 | .int i _=>some (.int i)
 | .str x _=>some (.str x)
 | .bytes b _=>some (.byt b)
 | .float b _=>some (.flt b)
 | .ref a=>some (.ref a)
 | .type n=>some (.ty n)
 | _=>none
theorem RelV.abs {x:V} {u:Value} (r:RelV x u):absV u=some x:=by
 cases x with
 | non=>cases r;rfl
 | bl _=>cases r;rfl
 | int _=>obtain ⟨t,rfl⟩:=r;rfl
 | str _=>obtain ⟨t,rfl⟩:=r;rfl
 | byt _=>obtain ⟨t,rfl⟩:=r;rfl
 | flt _=>obtain ⟨t,rfl⟩:=r;rfl
 | ref _=>cases r;rfl
 | ty _=>cases r;rfl
theorem RelV.inj {x y:V} {u:Value} (r:RelV x u) (q:RelV y u):x=y:=Option.some.inj (r.abs.symm.trans q.abs)
theorem Vals.inj:∀ {xs ys:List V} {us:List Value},Vals xs us→Vals ys us→xs=ys
 | _,_,_,.nil,.nil=>rfl
 | _,_,_,.cons r t,.cons r' t'=>by rw [r.inj r',Vals.inj t t']
section
variable {X:Cx} {pins:List (Addr×Obj)} {σ:St} {H:Hp} {s:Shared} {a:Addr} {xs ys:List V}
theorem SqL.of {K:PySem.W.Frag} (h:H a=some (.lst xs)):SqL K H a xs:=.inl (.inl h)
theorem Inv.list (I:Inv X pins σ H s) (h:SqL X.K H a xs):∃ its:List Value,Vals xs its∧PlainL s.heap a its.toArray∧xs.length≤sizeLine:=by
 rcases h with h|⟨o,its,n,hk,hc,hd,hs,hz,r⟩
 ·obtain ⟨z,its,n,r,e⟩:=h.ok I.hok
  exact ⟨its,r,⟨_,n,e,rfl,rfl,rfl⟩,z⟩
 ·refine ⟨its.toList,r,⟨o,n,I.kIn a o hk,hc,hd,by simpa using hs⟩,?_⟩
  have e:=r.length
  simp only [Array.length_toList] at e
  omega
theorem Inv.tuple (I:Inv X pins σ H s) (h:SqT X.K H a xs):∃ its:List Value,Vals xs its∧IsTup s.heap a its.toArray∧xs.length≤sizeLine:=by
 rcases h with h|⟨o,its,n,hk,hc,hs,hz,r⟩
 ·obtain ⟨z,its,r,p⟩:=h.ok I.hok
  exact ⟨its,r,p,z⟩
 ·refine ⟨its.toList,r,⟨o,I.kIn a o hk,hc,n,by simpa using hs⟩,?_⟩
  have e:=r.length
  simp only [Array.length_toList] at e
  omega
theorem Inv.list_inj (I:Inv X pins σ H s) (h:SqL X.K H a xs) (h':SqL X.K H a ys):xs=ys:=by
 obtain ⟨its,r,⟨o,n,e,_,_,d⟩,_⟩:=I.list h
 obtain ⟨its',r',⟨o',n',e',_,_,d'⟩,_⟩:=I.list h'
 rw [e] at e';cases e'
 rw [d] at d'
 injection d' with d1 _
 have:its=its':=by simpa using congrArg Array.toList d1
 subst this
 exact r.inj r'
theorem Inv.tuple_inj (I:Inv X pins σ H s) (h:SqT X.K H a xs) (h':SqT X.K H a ys):xs=ys:=by
 obtain ⟨its,r,⟨o,e,_,n,d⟩,_⟩:=I.tuple h
 obtain ⟨its',r',⟨o',e',_,n',d'⟩,_⟩:=I.tuple h'
 rw [e] at e';cases e'
 rw [d] at d'
 injection d' with d1 _
 have:its=its':=by simpa using congrArg Array.toList d1
 subst this
 exact r.inj r'
end
noncomputable abbrev Cx.wish (X:Cx) (E:Value→Shared→Prop):Cx:={ X with xe:=E }
noncomputable abbrev Cx.nox (X:Cx):Cx:=X.wish fun _ _=>False
theorem Cx.Ok.wish {X:Cx} (ok:X.Ok) (E:Value→Shared→Prop):(X.wish E).Ok :=
 ⟨ok.mod,ok.kind,ok.glob,ok.blt,ok.above,ok.inj,ok.has,ok.cab,ok.hd,ok.frames,ok.stk,ok.exf,ok.bs,ok.bsz,ok.noex,ok.exfs,ok.funs,ok.frf⟩
theorem Cx.Ok.unwish {X:Cx} {E:Value→Shared→Prop} (ok:(X.wish E).Ok):X.Ok :=
 ⟨ok.mod,ok.kind,ok.glob,ok.blt,ok.above,ok.inj,ok.has,ok.cab,ok.hd,ok.frames,ok.stk,ok.exf,ok.bs,ok.bsz,ok.noex,ok.exfs,ok.funs,ok.frf⟩
section
variable {X:Cx} {pins:List (Addr×Obj)} {σ:St} {H:Hp} {s:Shared} {E:Value→Shared→Prop}
theorem Inv.wish (I:Inv X pins σ H s) (E:Value→Shared→Prop):Inv (X.wish E) pins σ H s:=⟨I.ok.wish E,I.os,I.bare,I.base,I.loc,I.cell,I.free,I.freeC,I.pin,I.hok,I.len,I.tk⟩
theorem Inv.unwish (I:Inv (X.wish E) pins σ H s):Inv X pins σ H s:=⟨I.ok.unwish,I.os,I.bare,I.base,I.loc,I.cell,I.free,I.freeC,I.pin,I.hok,I.len,I.tk⟩
theorem SP.unwish {D:Ends} {f:Flow} {s':Shared} (h:SP (X.wish E) pins D f s'):SP X pins D f s':=by
 cases f with
 | next=>obtain ⟨σ',H',I,q⟩:=h;exact ⟨σ',H',I.unwish,q⟩
 | brk=>obtain ⟨σ',H',I,q⟩:=h;exact ⟨σ',H',I.unwish,q⟩
 | cont=>obtain ⟨σ',H',I,q⟩:=h;exact ⟨σ',H',I.unwish,q⟩
 | ret u=>obtain ⟨v,σ',H',I,r,q⟩:=h;exact ⟨v,σ',H',I.unwish,r,q⟩
theorem PSs.nox {st:List Stmt} {t:TS} (h:PSs X.nox st t):PSs X st t:=fun pins s σ H D I hw =>
 wpAny_mono (h pins s σ H D (I.wish _) hw) (fun _ _ q=>q.unwish) fun _ _ z=>False.elim z
end
section
variable {X:Cx} {st:Stmt} {rest:List Stmt} {t u:TS} {e:Expr} {te:TE} {pos:Pos}
noncomputable def tNext:TS:=fun D σ H=>D.nx σ H
noncomputable def tSeq (t u:TS):TS:=fun D σ H=>t { D with nx:=u D } σ H
theorem xy:PSs X [] tNext:=fun _ _ σ H _ I h=>wpAny_execs_nil ⟨σ,H,I,h⟩
theorem u9 (h1:PS X st t) (h2:PSs X rest u):PSs X (st::rest) (tSeq t u):=by
 intro pins s σ H D I h
 refine wpAny_execs_cons (thn (h1 pins s σ H { D with nx:=u D } I h) fun f s1 q=>?_)
 cases f with
 | next =>
  obtain ⟨σ',H',I',q⟩:=q
  exact h2 pins s1 σ' H' D I' q
 | ret v=>exact q
 | brk=>exact q
 | cont=>exact q
theorem wx (h1:PS X st t):PSs X [st] t:=by
 intro pins s σ H D I h
 refine wpAny_execs_cons (thn (h1 pins s σ H D I h) fun f s1 q=>?_)
 cases f with
 | next=>exact wpAny_execs_nil q
 | ret v=>exact q
 | brk=>exact q
 | cont=>exact q
theorem Inv.quiet {pins:List (Addr×Obj)} {σ:St} {H:Hp} {s:Shared} (I:Inv X pins σ H s):interactive X.env=false:=by simp [interactive,I.ok.kind]
noncomputable def tDrop (te:TE):TS:=fun D σ H=>te σ H fun _ H1=>D.nx σ H1
theorem wY (he:PE X e te) (hs:swapsWith e none pos.line X.env=pure false:=by rfl):PS X (.Expr e pos) (tDrop te):=by
 intro pins s σ H D I h
 exact wpAny_Expr_any (thn (he pins s σ H _ I h) fun v s1 hh=>exF hh fun x H1 I1 r1 q1=>⟨σ,H1,I1,q1⟩) I.quiet hs
noncomputable def tRet (te:TE):TS:=fun D σ H=>te σ H D.rt
theorem zI (he:PE X e te):PS X (.Return (some e) pos) (tRet te):=by
 intro pins s σ H D I h
 exact wpAny_Return_some (thn (he pins s σ H _ I h) fun v s1 hh=>exF hh fun x H1 I1 r1 q1=>⟨x,σ,H1,I1,r1,q1⟩)
noncomputable def tIfS (c:TT) (t u:TS):TS:=fun D σ H=>c σ H fun b H1=>if b=true then t D σ H1 else u D σ H1
theorem AQ {c:Expr} {a b:List Stmt} {tc:TT} (hc:PT X c tc) (ha:PSs X a t) (hb:PSs X b u):PS X (.If c a b pos) (tIfS tc t u):=by
 intro pins s σ H D I h
 refine wpAny_If (thn (hc pins s σ H _ I h) fun d s1 ⟨H1,I1,q1⟩=>?_)
 cases d with
 | true=>exact ha pins s1 σ H1 D I1 q1
 | false=>exact hb pins s1 σ H1 D I1 q1
end
noncomputable abbrev TG:=V→St→Hp→(St→Hp→Prop)→Prop
noncomputable abbrev TGs:=List V→St→Hp→(St→Hp→Prop)→Prop
noncomputable def PG (X:Cx) (target:Expr) (t:TG):Prop :=
 ∀ (pins:List (Addr×Obj)) (s:Shared) (σ:St) (H:Hp) (v:V) (u:Value) (Q:St→Hp→Prop),Inv X pins σ H s→RelV v u→t v σ H Q →
  wpAny (model X.prog X.w) X.A (assign target X.env u) (fun _ s'=>∃ σ' H',Inv X pins σ' H' s'∧Q σ' H') X.xe s
noncomputable def PGs (X:Cx) (ts:List Expr) (t:TGs):Prop :=
 ∀ (pins:List (Addr×Obj)) (s:Shared) (σ:St) (H:Hp) (vs:List V) (us:List Value) (Q:St→Hp→Prop),Inv X pins σ H s→Vals vs us→t vs σ H Q →
  wpAny (model X.prog X.w) X.A (assignInOrder ((assignEach ts X.env).map (·.2)) us) (fun _ s'=>∃ σ' H',Inv X pins σ' H' s'∧Q σ' H') X.xe s
noncomputable abbrev TSet:=V→V→V→Hp→(Hp→Prop)→Prop
noncomputable def PSet (X:Cx) (t:TSet):Prop :=
 ∀ (pins:List (Addr×Obj)) (s:Shared) (σ:St) (H:Hp) (o i v:V) (ov iv u:Value) (Q:Hp→Prop),Inv X pins σ H s→RelV o ov→RelV i iv→RelV v u→t o i v H Q →
  wpAny (model X.prog X.w) X.A (setItem ov iv u) (fun _ s'=>∃ H',Inv X pins σ H' s'∧Q H') X.xe s
noncomputable abbrev TIp:=V→V→Hp→VK→Prop
noncomputable def PIp (X:Cx) (op:Operator) (t:TIp):Prop :=
 ∀ (pins:List (Addr×Obj)) (s:Shared) (σ:St) (H:Hp) (x y:V) (v u:Value) (Q:VK),Inv X pins σ H s→RelV x v→RelV y u→t x y H Q →
  wpAny (model X.prog X.w) X.A (inplaceOp op v u) (EP X pins σ Q) X.xe s
section
variable {X:Cx} {pos:Pos}
noncomputable def gName (i:Nat):TG:=fun v σ H Q=>Q (σ.set i (some v)) H
theorem uH {i:Nat} {x:Str} (hN:X.N.Nodup) (hi:X.N[i]?=some x) (hx:Loc X.env.scope x) (hf:X.fn x=true∨X.env.scope.names.lookup x=some .local:=by first|exact .inl rfl|exact .inr rfl|assumption):PG X (.Name x pos) (gName i):=by
 intro pins s σ H v u Q I r h
 exact wpAny_assign_Name (mS I hN hi hx r (fun s' I'=>⟨_,H,I',h⟩) hf)
noncomputable def gNil:TGs:=fun vs σ H Q=>vs=[]∧Q σ H
noncomputable def gCons (t:TG) (u:TGs):TGs:=fun vs σ H Q=>∃ v r,vs=v::r∧t v σ H fun σ' H'=>u r σ' H' Q
theorem wL:PGs X [] gNil:=by
 intro pins s σ H vs us Q I r h
 obtain ⟨e,h⟩:=h
 subst e
 cases r
 exact assignInOrder_nil ⟨σ,H,I,h⟩
theorem vv {e:Expr} {es:List Expr} {t:TG} {u:TGs} (h1:PG X e t) (h2:PGs X es u)
  (hs:(assignEach (e::es) X.env).map (·.2)=assign e X.env::(assignEach es X.env).map (·.2):=by rfl):PGs X (e::es) (gCons t u):=by
 intro pins s σ H vs us Q I r h
 obtain ⟨v,vr,e1,h⟩:=h
 subst e1
 cases r with
 | cons r rr =>
  rw [hs]
  refine assignInOrder_cons (thn (h1 pins s σ H _ _ _ I r h) fun _ s1 ⟨σ1,H1,I1,q1⟩=>?_)
  exact h2 pins s1 σ1 H1 _ _ Q I1 rr q1
noncomputable def gTup (K:PySem.W.Frag) (n:Nat) (t:TGs):TG:=fun v σ H Q=>∃ a xs,v=.ref a∧SqT K H a xs∧xs.length=n∧t xs σ H Q
theorem xX {es:List Expr} {k:Nat} {t:TGs} {n:Nat} (hc:X.calm=true) (h:PGs X es t)
  (hn:(assignEach es X.env).length=n:=by rfl) (hst:(assignEach es X.env).findIdx? (·.1)=none:=by rfl):PG X (.Tuple es k pos) (gTup X.K n t):=by
 intro pins s σ H v u Q I r hw
 obtain ⟨a,xs,e1,hq,hl,hw⟩:=hw
 subst e1
 cases r
 obtain ⟨its,rv,ht,hz⟩:=I.tuple hq
 refine assign_Tuple_tuple (I.ok.hd hc) ht (by simp [hn,← hl,rv.length]) hst fun h' hx=>?_
 have I1:Inv X pins σ H { s with heap:=h' }:=I.kept (t':=s.toks) fun b o e=>hx b o (Nat.ne_of_lt (Heap.lt_size e)) e
 exact h pins _ σ H xs _ Q I1 (by simpa using rv) hw
noncomputable def gSub (to ti:TE) (t:TSet):TG:=fun v σ H Q=>to σ H fun o H1=>ti σ H1 fun i H2=>t o i v H2 fun H3=>Q σ H3
theorem zd {o i:Expr} {to ti:TE} {t:TSet} (ho:PE X o to) (hi:PE X i ti) (hs:PSet X t)
  (ha:∀ v,assign (.Subscript o i pos) X.env v=(do
   let ov ← holding [v] (eval o X.env)
   let iv ← holding [v,ov] (eval i X.env)
   standAt pos
   holding [v,ov,iv] (setItem ov iv v)
   release [v,ov,iv] []):=by intro _;rfl):PG X (.Subscript o i pos) (gSub to ti t):=by
 intro pins s σ H v u Q I r h
 rw [ha]
 refine wpAny_bind (wpAny_holding (thn (ho pins s σ H _ I h) fun ov s1 hh=>exF hh fun x H1 I1 r1 q1=>?_))
 refine wpAny_bind (wpAny_holding (thn (hi pins s1 σ H1 _ I1 q1) fun iv s2 hh=>exF hh fun y H2 I2 r2 q2=>?_))
 refine wpAny_bind (wpAny_standAt (wpAny_bind (wpAny_holding (thn (hs pins s2 σ H2 x y v ov iv u _ I2 r1 r2 r q2) fun _ s3 ⟨H3,I3,q3⟩=>?_))))
 exact wpAny_release ⟨σ,H3,I3,q3⟩
noncomputable def tAsg (te:TE) (g:TG):TS:=fun D σ H=>te σ H fun x H1=>g x σ H1 D.nx
theorem yg {tg e:Expr} {te:TE} {g:TG} (he:PE X e te) (hg:PG X tg g) (hs:swapsWithSole [tg] e pos.line X.env=pure false:=by rfl) (hw:swappedStores [tg] e X.env=pure none:=by rfl)
  (h1:(assignEach [tg] X.env).map (·.2)=[assign tg X.env]:=by rfl):PS X (.Assign [tg] e pos) (tAsg te g):=by
 intro pins s σ H D I h
 refine wpAny_Assign_stores (thn (he pins s σ H _ I h) fun v s1 hh=>exF hh fun x H1 I1 r1 q1=>?_) hs hw
 rw [h1]
 exact thn (hg pins s1 σ H1 x v _ I1 r1 q1) fun _ s2 q=>q
theorem yX {i:Nat} {x:Str} {e:Expr} {te:TE} {pos':Pos} (hN:X.N.Nodup) (hi:X.N[i]?=some x) (hx:Loc X.env.scope x) (he:PE X e te) (hs:swapsWith e (some (.Name x pos')) pos.line X.env=pure false:=by rfl) (hf:X.fn x=true∨X.env.scope.names.lookup x=some .local:=by first|exact .inl rfl|exact .inr rfl|assumption) :
  PS X (.Assign [.Name x pos'] e pos) (tAsg te (gName i)):=by
 intro pins s σ H D I h
 refine wpAny_Assign_Name (thn (he pins s σ H _ I h) fun v s1 hh=>exF hh fun y H1 I1 r1 q1=>?_) hs
 exact mS I1 hN hi hx r1 (fun s2 I2=>⟨_,H1,I2,q1⟩) hf
noncomputable def tAug (i:Nat) (te:TE) (ti:TIp):TS:=fun D σ H=>∃ x,σ[i]?=some (some x)∧te σ H fun y H1=>ti x y H1 fun z H2=>D.nx (σ.set i (some z)) H2
theorem yq {i:Nat} {x:Str} {e:Expr} {te:TE} {op:Operator} {ti:TIp} {pos':Pos} (hN:X.N.Nodup) (hi:X.N[i]?=some x) (hx:Loc X.env.scope x) (he:PE X e te) (ho:PIp X op ti) (hf:X.fn x=true∨X.env.scope.names.lookup x=some .local:=by first|exact .inl rfl|exact .inr rfl|assumption) :
  PS X (.AugAssign (.Name x pos') op e pos) (tAug i te ti):=by
 intro pins s σ H D I h
 obtain ⟨v,e1,h⟩:=h
 obtain ⟨m,hn,hl⟩:=I.loc
 have vis:Vis X.env.scope x:=by rcases hx with k|k;exact .inl k;exact .inr (.inl k)
 obtain ⟨u,r,l⟩:=hl i x v hi e1 vis
 refine wpAny_AugAssign_Name ?_
 have go:wpAny (model X.prog X.w) X.A (eval e X.env) (fun w s₂=>wpAny (model X.prog X.w) X.A (inplaceOp op u w) (fun r s₃=>wpAny (model X.prog X.w) X.A (storeName X.env x r) (fun _=>SP X pins D .next) X.xe s₃) X.xe s₂) X.xe s:=by
  refine thn (he pins s σ H _ I h) fun w s1 hh=>exF hh fun y H1 I1 r1 q1=>?_
  refine thn (ho pins s1 σ H1 v y u w _ I1 r r1 q1) fun z s2 hh=>exF hh fun zv H2 I2 r2 q2=>?_
  exact mS I2 hN hi hx r2 (fun s3 I3=>⟨_,H2,I3,q2⟩) hf
 rcases l with ⟨hk,hm⟩|⟨hk,c,hc,hcell⟩
 ·exact wpAny_loadName_local I.ok.kind hk hn hm go
 ·rcases hk with hk|hk
  ·exact wpAny_loadName_cell I.ok.kind hk hc hcell go
  ·rcases hx with k|k
   ·have:X.env.scope.names.lookup x=some .free:=hk
    rw [k] at this;cases this
   ·have:X.env.scope.names.lookup x=some .free:=hk
    rw [k] at this;cases this
end
section
variable {X:Cx} {pos:Pos}
noncomputable def tWhile (c:TT) (tb:TS):TS:=fun D σ H=>∃ W:Nat→St→Hp→Prop,(∃ m,W m σ H)∧∀ m σ H,W m σ H →
 c σ H fun b H1=>if b=true then ∃ N:St→Hp→Prop,(∀ σ' H',N σ' H'→∃ m',m' < m∧W m' σ' H')∧tb { D with nx:=N,ct:=N,bk:=D.nx } σ H1 else D.nx σ H1
theorem uX {c:Expr} {body:List Stmt} {tc:TT} {tb:TS} (hp:PassesOwn (model X.prog X.w) X.A X.env X.xe) (hc:PT X c tc) (hb:PSs X body tb):PS X (.While c body [] pos) (tWhile tc tb):=by
 intro pins s σ H D I h
 obtain ⟨W,⟨m0,w0⟩,turn⟩:=h
 refine wpAny_While (codeAny_whileLoop (fun n s'=>∃ σ' H',Inv X pins σ' H' s'∧W n σ' H') ?_ m0 ⟨σ,H,I,w0⟩)
 rintro n s1 ⟨σ1,H1,I1,w1⟩
 refine wpAny_passesOwn hp (thn (hc pins s1 σ1 H1 _ I1 (turn n σ1 H1 w1)) fun b s2 ⟨H2,I2,q2⟩=>?_)
 cases b with
 | true =>
  obtain ⟨N,hN,q2⟩:=q2
  rw [if_pos rfl]
  refine wpAny_passesOwn hp (thn (hb pins s2 σ1 H2 _ I2 q2) fun f s3 q3=>?_)
  cases f with
  | next =>
   obtain ⟨σ3,H3,I3,n3⟩:=q3
   obtain ⟨m',hm,w3⟩:=hN σ3 H3 n3
   exact ⟨m',hm,σ3,H3,I3,w3⟩
  | cont =>
   obtain ⟨σ3,H3,I3,n3⟩:=q3
   obtain ⟨m',hm,w3⟩:=hN σ3 H3 n3
   exact ⟨m',hm,σ3,H3,I3,w3⟩
  | brk=>exact q3
  | ret v=>exact q3
 | false =>
  rw [if_neg Bool.false_ne_true]
  exact wpAny_execs_nil ⟨σ1,H2,I2,q2⟩
end
structure It where
 go:Nat→Hp→Prop
 yld:Nat→Hp→V→Hp→Prop
 stop:Nat→Hp→Prop
noncomputable def FpOk (X:Cx) (pins:List (Addr×Obj)) (H:Hp) (b:Addr):Prop :=
 H b=none∧b≠X.env.locals∧b∉X.fs∧(b∈X.ex∨X.s₀.heap.objs.size≤b)∧(∀ x c,X.env.cells.lookup x=some c→c≠b)∧∀ p∈X.pn++pins,p.1≠b
theorem Inv.fpOk {X:Cx} {pins:List (Addr×Obj)} {σ:St} {H H':Hp} {s:Shared} {b:Addr} (I:Inv X pins σ H s) (hb:s.heap.objs.size≤b) (hn:H' b=none):FpOk X pins H' b:=by
 refine ⟨hn,Nat.ne_of_gt (Nat.lt_of_lt_of_le I.lt hb),I.nofs hb,.inr (Nat.le_trans I.sz hb),fun x c e z=>?_,fun p hp z=>?_⟩
 ·obtain ⟨v,q⟩:=I.cell x c e
  exact absurd (Nat.lt_of_lt_of_le q.lt (by rw [z];exact hb)) (Nat.lt_irrefl _)
 ·exact absurd (Nat.lt_of_lt_of_le (Heap.lt_size (I.pin p hp).1) (by rw [z];exact hb)) (Nat.lt_irrefl _)
structure Turn (P:Program) (w:World) (K:PySem.W.Frag) (tg:Expr) (J:It) (fp:List Addr) (it:Addr) (tn:Nat→Heap→Prop):Prop where
 mem:it∈fp
 obj:∀ i h,tn i h→∀ b∈fp,∃ o,h.get? b=some o∧∀ v,o.data≠.cell v
 keep:∀ i h h',tn i h→(∀ b∈fp,∀ o,h.get? b=some o→h'.get? b=some o)→tn i h'
 item:∀ (X:Cx),X.prog=P→X.w=w→X.K=K→X.calm=true→∀ (i:Nat) (pins:List (Addr×Obj)) (s:Shared) (σ:St) (H:Hp) (E:Value→Shared→Prop),Inv X pins σ H s→(∀ b∈fp,FpOk X pins H b)→tn i s.heap→J.go i H →
  wpAny (model P w) X.A (pyNext (.ref it)) (fun r s1=>∃ u,r=some u ∧
   wpAny (model P w) X.A (letOwnedTupleGo tg (.ref it) u) (fun _ s2=>∃ x H',Inv X pins σ H' s2∧RelV x u∧J.yld i H x H'∧tn (i+1) s2.heap∧∀ b∈fp,H' b=none) E s1) E s
 done:∀ (X:Cx),X.prog=P→X.w=w→X.K=K→X.calm=true→∀ (i:Nat) (pins:List (Addr×Obj)) (s:Shared) (σ:St) (H:Hp) (E:Value→Shared→Prop),Inv X pins σ H s→(∀ b∈fp,FpOk X pins H b)→tn i s.heap→J.stop i H →
  wpAny (model P w) X.A (pyNext (.ref it)) (fun r s1=>r=none∧Inv X pins σ H s1) E s
 self:∀ (A:Around) (i:Nat) (s:Shared) (Q:Value→Shared→Prop) (E:Value→Shared→Prop),tn i s.heap→Q (.ref it) s→wpAny (model P w) A (pyIter (.ref it)) Q E s
noncomputable abbrev TI:=St→Hp→(It→Hp→Prop)→Prop
noncomputable def PIE (X:Cx) (pins:List (Addr×Obj)) (σ:St) (tg:Expr) (R:It→Hp→Prop) (itv:Value) (s2:Shared):Prop :=
 ∃ (it:Addr) (fp:List Addr) (tn:Nat→Heap→Prop) (J:It) (H':Hp),itv=.ref it∧Inv X pins σ H' s2∧Turn X.prog X.w X.K tg J fp it tn∧tn 0 s2.heap∧(∀ b∈fp,FpOk X pins H' b)∧R J H'
noncomputable def PI (X:Cx) (tg iter:Expr) (wi:TI):Prop :=
 ∀ (pins:List (Addr×Obj)) (s:Shared) (σ:St) (H:Hp) (R:It→Hp→Prop),Inv X pins σ H s→wi σ H R →
  wpAny (model X.prog X.w) X.A (eval iter X.env) (fun v s1=>wpAny (model X.prog X.w) X.A (pyIter v) (PIE X pins σ tg R) X.xe s1) X.xe s
theorem vD {M:Model} {A:Around} {E:Value→Shared→Prop} {s:Shared} {tg:Expr} {it:Addr} {u:Value} {o:Obj} {n:String} {vs:Array Value} {Q:Unit→Shared→Prop} (ho:s.heap.get? it=some o) (hc:o.cls=.type n) (hd:o.data=.fields vs)
    (hn:["enumerate","zip","dict_itemiterator","dict_reverseitemiterator","odict_iterator","itertools.zip_longest","itertools.pairwise"].contains n=false) (hQ:Q () s):wpAny M A (letOwnedTupleGo tg (.ref it) u) Q E s:=by
  unfold letOwnedTupleGo
  cases tg <;> first
    | exact wpAny_pure hQ
    | (cases u <;> first
        | exact wpAny_pure hQ
        | (refine wpAny_bind (wpAny_load ho ?_)
           rw [hc,hd]
           show wpAny M A (if (["enumerate","zip","dict_itemiterator","dict_reverseitemiterator","odict_iterator","itertools.zip_longest","itertools.pairwise"].contains n&&vs[0]?==some (rawInt _))=true then _ else _) Q E s
           rw [if_neg (by intro h;rw [hn,Bool.false_and] at h;cases h)]
           exact wpAny_pure hQ))
noncomputable def Itl (K:PySem.W.Frag) (a:Addr):It :=
 ⟨fun i H=>∃ xs x,SqL K H a xs∧xs[i]?=some x,fun i H x H'=>H'=H∧∀ xs,SqL K H a xs→xs[i]?=some x,fun i H=>∃ xs,SqL K H a xs∧xs.length≤i⟩
noncomputable def Itt (K:PySem.W.Frag) (a:Addr):It :=
 ⟨fun i H=>∃ xs x,SqT K H a xs∧xs[i]?=some x,fun i H x H'=>H'=H∧∀ xs,SqT K H a xs→xs[i]?=some x,fun i H=>∃ xs,SqT K H a xs∧xs.length≤i⟩
noncomputable def Itr (lo:Int) (n:Nat):It:=⟨fun i _=>i < n,fun i H x H'=>H'=H∧x=.int (lo+i),fun i _=>n≤i⟩
theorem uB {P:Program} {w:World} {K:PySem.W.Frag} {tg:Expr} (a it:Addr):Turn P w K tg (Itl K a) [it] it (fun i h=>h.IsListIter it a i) where
 mem:=by simp
 obj:=fun i h st b hb=>by
  have e:b=it:=by simpa using hb
  subst e
  obtain ⟨o,e,c,d⟩:=st
  exact ⟨o,e,fun v z=>by rw [d] at z;cases z⟩
 keep:=fun i h h' st k=>st.at fun o e=>k it (by simp) o e
 item:=by
  intro X hP hw hK hc i pins s σ H E I hf st hg
  subst hP hw hK
  obtain ⟨xs,x,hq,hx⟩:=hg
  obtain ⟨its,rv,p,hz⟩:=I.list hq
  obtain ⟨u,hu,ru⟩:=rv.get hx
  obtain ⟨f0,f1,f2,f3,f4,f5⟩:=hf it (by simp)
  refine wpAny_pyNext_list_item st p.isList (x:=u) (by simpa using hu) fun h' st' sb=>?_
  have I1:Inv X pins σ H { s with heap:=h' }:=I.turned (t':=s.toks) (fun b o hb e=>(sb.2 b hb).trans e) f0 f1 f3 f4 f5
  obtain ⟨o,e,c,d⟩:=id st'
  exact ⟨u,rfl,vD (s:={ s with heap:=h' }) e c d (by decide) ⟨x,H,I1,ru,⟨rfl,fun ys hy=>by rw [I.list_inj hy hq];exact hx⟩,st',fun b hb=>(hf b hb).1⟩⟩
 done:=by
  intro X hP hw hK hc i pins s σ H E I hf st hg
  subst hP hw hK
  obtain ⟨xs,hq,hx⟩:=hg
  obtain ⟨its,rv,p,hz⟩:=I.list hq
  obtain ⟨f0,f1,f2,f3,f4,f5⟩:=hf it (by simp)
  have hl:=rv.length
  exact wpAny_pyNext_list_end (I.ok.hd hc) st p.isList (by simp;omega) fun h' eb=>⟨rfl,I.turned (t':=s.toks) (fun b o hb e=>eb b o hb e) f0 f1 f3 f4 f5⟩
 self:=fun _ _ _ _ _ st h=>wpAny_pyIter_listiter st h
theorem qM {P:Program} {w:World} {K:PySem.W.Frag} {tg:Expr} (a it:Addr):Turn P w K tg (Itt K a) [it] it (fun i h=>h.IsTupleIter it a i) where
 mem:=by simp
 obj:=fun i h st b hb=>by
  have e:b=it:=by simpa using hb
  subst e
  obtain ⟨o,e,c,d⟩:=st
  exact ⟨o,e,fun v z=>by rw [d] at z;cases z⟩
 keep:=fun i h h' st k=>st.at fun o e=>k it (by simp) o e
 item:=by
  intro X hP hw hK hc i pins s σ H E I hf st hg
  subst hP hw hK
  obtain ⟨xs,x,hq,hx⟩:=hg
  obtain ⟨its,rv,p,hz⟩:=I.tuple hq
  obtain ⟨u,hu,ru⟩:=rv.get hx
  obtain ⟨f0,f1,f2,f3,f4,f5⟩:=hf it (by simp)
  refine wpAny_pyNext_tuple_item st (show s.heap.IsTuple a its.toArray from p) (x:=u) (by simpa using hu) fun h' st' sb=>?_
  have I1:Inv X pins σ H { s with heap:=h' }:=I.turned (t':=s.toks) (fun b o hb e=>(sb.2 b hb).trans e) f0 f1 f3 f4 f5
  obtain ⟨o,e,c,d⟩:=id st'
  exact ⟨u,rfl,vD (s:={ s with heap:=h' }) e c d (by decide) ⟨x,H,I1,ru,⟨rfl,fun ys hy=>by rw [I.tuple_inj hy hq];exact hx⟩,st',fun b hb=>(hf b hb).1⟩⟩
 done:=by
  intro X hP hw hK hc i pins s σ H E I hf st hg
  subst hP hw hK
  obtain ⟨xs,hq,hx⟩:=hg
  obtain ⟨its,rv,p,hz⟩:=I.tuple hq
  obtain ⟨f0,f1,f2,f3,f4,f5⟩:=hf it (by simp)
  have hl:=rv.length
  exact wpAny_pyNext_tuple_end (I.ok.hd hc) st (show s.heap.IsTuple a its.toArray from p) (by simp;omega) fun h' eb=>⟨rfl,I.turned (t':=s.toks) (fun b o hb e=>eb b o hb e) f0 f1 f3 f4 f5⟩
 self:=fun _ _ _ _ _ st h=>wpAny_pyIter_tupleiter st h
theorem qJ {P:Program} {w:World} {K:PySem.W.Frag} {tg:Expr} (it:Addr) (lo:Int) (n:Nat):Turn P w K tg (Itr lo n) [it] it (fun i h=>IsRangeIter h it (lo+(i:Nat)*1) ((n:Int) - (i:Nat)) 1) where
 mem:=by simp
 obj:=fun i h st b hb=>by
  have e:b=it:=by simpa using hb
  subst e
  exact ⟨_,st,fun v z=>by
   have z':Data.fields _=Data.cell v:=z
   cases z'⟩
 keep:=fun i h h' st k=>k it (by simp) _ st
 item:=by
  intro X hP hw hK hc i pins s σ H E I hf st hg
  subst hP hw hK
  obtain ⟨f0,f1,f2,f3,f4,f5⟩:=hf it (by simp)
  have W:=Walks.range (prog:=X.prog) (w:=X.w) (I.ok.hd hc) it lo 1 n
  refine br I.tk (W.item i s _ _ hg st fun v h' tk hv st' kk htk=>?_)
  obtain ⟨t,rfl⟩:=hv
  have I1:Inv X pins σ H { s with heap:=h',toks:=tk }:=I.turned (fun b o hb e=>kk b o (by simpa using hb) e) f0 f1 f3 f4 f5
  refine ⟨_,rfl,vD (s:={ s with heap:=h',toks:=tk }) (n:="range_iterator") st' rfl rfl (by decide) ⟨.int (lo+i),H,I1,⟨t,?_⟩,⟨rfl,rfl⟩,st',fun b hb=>(hf b hb).1⟩⟩
  rw [Int.mul_one]
 done:=by
  intro X hP hw hK hc i pins s σ H E I hf st hg
  subst hP hw hK
  obtain ⟨f0,f1,f2,f3,f4,f5⟩:=hf it (by simp)
  exact wpAny_pyNext_range_end (I.ok.hd hc) st (by have:n≤i:=hg;omega) fun h' eb=>⟨rfl,I.turned (t':=s.toks) (fun b o hb e=>eb b o hb e) f0 f1 f3 f4 f5⟩
 self:=fun _ _ _ _ _ st h=>wpAny_pyIter_rangeiter st h
end L2
namespace L2
open PySem PySem.Spec PyProof.Rows
section
variable {X:Cx} {tg:Expr}
theorem vm {pins:List (Addr×Obj)} {σ:St} {H:Hp} {s:Shared} {R:It→Hp→Prop} {E:Value→Shared→Prop} {lo hi:Int} {t u v:Tok} {tk:Nat} (I:Inv X pins σ H s) (h1:-(2 ^ 62)≤lo) (h2:lo < 2 ^ 62) (h3:-(2 ^ 62)≤hi) (h4:hi < 2 ^ 62)
  (q:R (Itr lo (hi - lo).toNat) H) (ht:X.tn≤tk:=by walk_at "tok"):wpAny (model X.prog X.w) X.A (pyIter (.ref s.heap.objs.size)) (PIE X pins σ tg R) E { s with heap:=s.heap.push { cls:=.type "range",data:=.fields #[.int lo t,.int hi u,.int 1 v] },toks:=tk }:=by
 refine wpAny_pyIter_range (IsRange.new ..) (small_one h1 h2 h3 h4) ?_
 have I1:Inv X pins σ H { s with heap:=s.heap.push { cls:=.type "range",data:=.fields #[.int lo t,.int hi u,.int 1 v] },toks:=tk }:=I.kept fun b o e=>Heap.get?_push_of_some _ e
 refine ⟨(s.heap.push { cls:=.type "range",data:=.fields #[.int lo t,.int hi u,.int 1 v] }).objs.size,[(s.heap.push { cls:=.type "range",data:=.fields #[.int lo t,.int hi u,.int 1 v] }).objs.size],_,_,H,rfl,
  I1.kept (t':=tk) fun b o e=>Heap.get?_push_of_some _ e,qJ _ lo (hi - lo).toNat,?_,fun b hb=>?_,q⟩
 ·have e1:lo+((0:Nat):Int)*1=lo:=by simp
  have e2:(((hi - lo).toNat:Nat):Int) - ((0:Nat):Int)=Builtin.Range.rangeSize lo hi 1:=by rw [rangeSize_one];split <;> omega
  show IsRangeIter _ _ (lo+((0:Nat):Int)*1) ((((hi - lo).toNat:Nat):Int) - ((0:Nat):Int)) 1
  rw [e1,e2]
  exact Heap.get?_push_size _ rfl
 ·have e:b=(s.heap.push { cls:=.type "range",data:=.fields #[.int lo t,.int hi u,.int 1 v] }).objs.size:=by simpa using hb
  subst e
  exact I1.fpOk (Nat.le_refl _) (I1.hok.fresh (Nat.le_refl _))
noncomputable def tFor (wi:TI) (g:TG) (tb:TS):TS:=fun D σ H=>wi σ H fun J H1=>∃ W:Nat→Nat→St→Hp→Prop,(∃ m,W 0 m σ H1)∧∀ i m σ H,W i m σ H →
 (J.stop i H∧D.nx σ H)∨(J.go i H∧∃ N:St→Hp→Prop,(∀ σ' H',N σ' H'→∃ m',m' < m∧W (i+1) m' σ' H')∧∀ x H',J.yld i H x H'→g x σ H' fun σ2 H2=>tb { D with nx:=N,ct:=N,bk:=D.nx } σ2 H2)
noncomputable def pinsAt (fp:List Addr) (h:Heap):List (Addr×Obj):=fp.filterMap fun b=>(h.get? b).map fun o=>(b,o)
theorem fg {fp:List Addr} {h:Heap} {b:Addr} {o:Obj} (hb:b∈fp) (e:h.get? b=some o):(b,o)∈pinsAt fp h:=List.mem_filterMap.mpr ⟨b,hb,by rw [e];rfl⟩
theorem ud {fp:List Addr} {h:Heap} {p:Addr×Obj} (hp:p∈pinsAt fp h):p.1∈fp∧h.get? p.1=some p.2:=by
 obtain ⟨b,hb,e⟩:=List.mem_filterMap.mp hp
 cases q:h.get? b with
 | none=>rw [q] at e;cases e
 | some o =>
  rw [q] at e
  have e':(b,o)=p:=Option.some.inj e
  subst e'
  exact ⟨hb,q⟩
theorem Inv.pinned {pins:List (Addr×Obj)} {σ:St} {H:Hp} {s:Shared} {fp:List Addr} (I:Inv X pins σ H s) (hf:∀ b∈fp,FpOk X pins H b) (ho:∀ b∈fp,∃ o,s.heap.get? b=some o∧∀ v,o.data≠.cell v):Inv X (pins++pinsAt fp s.heap) σ H s :=
 I.pins_of fun p hp=>(List.mem_append.mp hp).elim (fun z=>I.pin p (List.mem_append_right _ z)) fun z=>by
  obtain ⟨hb,e⟩:=ud z
  obtain ⟨f0,f1,f2,_⟩:=hf p.1 hb
  obtain ⟨o,e',d⟩:=ho p.1 hb
  rw [e] at e';cases e'
  exact ⟨e,f0,f1,f2,d⟩
theorem Inv.unpinned {pins pl:List (Addr×Obj)} {σ:St} {H:Hp} {s:Shared} (I:Inv X (pins++pl) σ H s):Inv X pins σ H s:=I.pins_of fun p hp=>I.pin p (List.mem_append_right _ (List.mem_append_left _ hp))
theorem yo {iter:Expr} {body:List Stmt} {wi:TI} {g:TG} {tb:TS} {pos:Pos} (hp:PassesOwn (model X.prog X.w) X.A X.env X.xe) (hc:X.calm=true) (hi:PI X tg iter wi) (hg:PG X tg g) (hb:PSs X body tb)
  (hs:∀ x,foldedSetIterable iter X.env x=pure x:=by intro _;rfl):PS X (.For tg iter body [] pos) (tFor wi g tb):=by
 intro pins s σ H D I h
 refine wpAny_For (thn (hi pins s σ H _ I h) fun v s1 h1=>thn h1 fun itv s2 h2=>?_) hs
 obtain ⟨it,fp,tn,J,H2,e,I2,T,st2,f2,W,⟨m0,w0⟩,turn⟩:=h2
 subst e
 -- what stays true of the iterator's objects through the loop
 have stat:∀ {H':Hp},(∀ b∈fp,H' b=none)→∀ b∈fp,FpOk X pins H' b:=fun hn b hb=>⟨hn b hb,(f2 b hb).2⟩
 refine codeAny_forLoop_any (fun n s'=>∃ i σ' H',Inv X pins σ' H' s'∧tn i s'.heap∧(∀ b∈fp,H' b=none)∧W i n σ' H') ?_ m0 ⟨0,σ,H2,I2,st2,fun b hb=>(f2 b hb).1,w0⟩
 rintro n s3 ⟨i,σ3,H3,I3,st3,fr3,w3⟩
 rcases turn i n σ3 H3 w3 with ⟨stop,qn⟩|⟨go,N,hN,step⟩
 ·refine wpAny_passesOwn hp (thn (T.done X rfl rfl rfl hc i pins s3 σ3 H3 X.xe I3 (stat fr3) st3 stop) fun r s4 ⟨hr,I4⟩=>?_)
  subst hr
  exact wpAny_execs_nil ⟨σ3,H3,I4,qn⟩
 ·refine wpAny_passesOwn hp (thn (T.item X rfl rfl rfl hc i pins s3 σ3 H3 X.xe I3 (stat fr3) st3 go) fun r s4 ⟨u,hr,h4⟩=>?_)
  subst hr
  refine wpAny_passesOwn hp (thn h4 fun _ s5 ⟨x,H5,I5,r5,y5,st5,fr5⟩=>?_)
  have I5':=I5.pinned (stat fr5) (T.obj _ _ st5)
  refine wpAny_passesOwn hp (thn (hg _ s5 σ3 H5 x u _ I5' r5 (step x H5 y5)) fun _ s6 ⟨σ6,H6,I6,q6⟩=>?_)
  refine wpAny_passesOwn hp (thn (hb _ s6 σ6 H6 _ I6 q6) fun f s7 q7=>?_)
  have again:∀ {σ7:St} {H7:Hp},Inv X (pins++pinsAt fp s5.heap) σ7 H7 s7→N σ7 H7→∃ m,m < n∧∃ i σ' H',Inv X pins σ' H' s7∧tn i s7.heap∧(∀ b∈fp,H' b=none)∧W i m σ' H':=fun {σ7 H7} I7 n7=>by
   obtain ⟨m',hm,w7⟩:=hN σ7 H7 n7
   refine ⟨m',hm,i+1,σ7,H7,I7.unpinned,T.keep _ _ _ st5 fun b hb o e=>(I7.pin (b,o) (List.mem_append_right _ (List.mem_append_right _ (fg hb e)))).1,fun b hb=>?_,w7⟩
   obtain ⟨o,e,d⟩:=T.obj _ _ st5 b hb
   exact (I7.pin (b,o) (List.mem_append_right _ (List.mem_append_right _ (fg hb e)))).2.1
  cases f with
  | next=>obtain ⟨σ7,H7,I7,n7⟩:=q7;exact again I7 n7
  | cont=>obtain ⟨σ7,H7,I7,n7⟩:=q7;exact again I7 n7
  | brk=>obtain ⟨σ7,H7,I7,q7⟩:=q7;exact ⟨σ7,H7,I7.unpinned,q7⟩
  | ret v=>obtain ⟨x7,σ7,H7,I7,r7,q7⟩:=q7;exact ⟨x7,σ7,H7,I7.unpinned,r7,q7⟩
end
end L2
namespace L2
open PySem PySem.Spec PyProof.Rows
noncomputable abbrev R2:=V→V→Hp→VK→Prop
noncomputable def OpR (X:Cx) (f:Value→Value→Sem Value) (r:R2):Prop :=
 ∀ (pins:List (Addr×Obj)) (s:Shared) (σ:St) (H:Hp) (x y:V) (v u:Value) (Q:VK),Inv X pins σ H s→RelV x v→RelV y u→r x y H Q →
  wpAny (model X.prog X.w) X.A (f v u) (EP X pins σ Q) X.xe s
noncomputable def UnR (X:Cx) (f:Value→Sem Value) (r:V→Hp→VK→Prop):Prop :=
 ∀ (pins:List (Addr×Obj)) (s:Shared) (σ:St) (H:Hp) (x:V) (v:Value) (Q:VK),Inv X pins σ H s→RelV x v→r x H Q →
  wpAny (model X.prog X.w) X.A (f v) (EP X pins σ Q) X.xe s
noncomputable def CallR (X:Cx) (f:Value) (r:List V→Hp→VK→Prop):Prop :=
 ∀ (pins:List (Addr×Obj)) (s:Shared) (σ:St) (H:Hp) (xs:List V) (us:List Value) (Q:VK),Inv X pins σ H s→Vals xs us→r xs H Q →
  wpAny (model X.prog X.w) X.A (call f us) (EP X pins σ Q) X.xe s
noncomputable def TruR (X:Cx) (r:V→Hp→(Bool→Hp→Prop)→Prop):Prop :=
 ∀ (pins:List (Addr×Obj)) (s:Shared) (σ:St) (H:Hp) (x:V) (v:Value) (Q:Bool→Hp→Prop),Inv X pins σ H s→RelV x v→r x H Q →
  wpAny (model X.prog X.w) X.A (truthy v) (TP X pins σ Q) X.xe s
noncomputable def tOp (r:R2) (ta tb:TE):TE:=fun σ H Q=>ta σ H fun x H1=>tb σ H1 fun y H2=>r x y H2 Q
noncomputable def tUn (r:V→Hp→VK→Prop) (ta:TE):TE:=fun σ H Q=>ta σ H fun x H1=>r x H1 Q
noncomputable def rI (C:Int→Int→Prop) (g:Int→Int→V):R2:=fun x y H Q=>∃ i j,x=.int i∧y=.int j∧C i j∧Q (g i j) H
noncomputable def rI0 (g:Int→Int→V):R2:=fun x y H Q=>∃ i j,x=.int i∧y=.int j∧Q (g i j) H
noncomputable def rU (g:Int→V):V→Hp→VK→Prop:=fun x H Q=>∃ i,x=.int i∧Q (g i) H
section
variable {X:Cx} {a b c:Expr} {ta tb tc:TE} {pos:Pos}
theorem binT (ha:PE X a ta) (hb:PE X b tb) {pins:List (Addr×Obj)} {s:Shared} {σ:St} {H:Hp} {R:V→V→Hp→Prop} (I:Inv X pins σ H s)
  (h:ta σ H fun x H1=>tb σ H1 fun y H2=>R x y H2) {Q:Value→Shared→Prop} {f:Value→Value→Sem Value}
  (hf:∀ v u s2 x y H2,Inv X pins σ H2 s2→RelV x v→RelV y u→R x y H2→wpAny (model X.prog X.w) X.A (f v u) Q X.xe s2) :
  wpAny (model X.prog X.w) X.A (eval a X.env) (fun v s₁=>wpAny (model X.prog X.w) X.A (eval b X.env) (fun u s₂=>wpAny (model X.prog X.w) X.A (f v u) Q X.xe s₂) X.xe s₁) X.xe s:=by
 refine thn (ha pins s σ H _ I h) fun v s1 hh=>exF hh fun x H1 I1 r1 q1=>?_
 refine thn (hb pins s1 σ H1 _ I1 q1) fun u s2 hh=>exF hh fun y H2 I2 r2 q2=>?_
 exact hf v u s2 x y H2 I2 r1 r2 q2
theorem Az {op:Operator} {r:R2} (ho:OpR X (binaryOp op) r) (ha:PE X a ta) (hb:PE X b tb):PE X (.BinOp a op b pos) (tOp r ta tb):=by
 intro pins s σ H Q I h
 exact wpAny_BinOp (binT ha hb I h fun v u s2 x y H2 I2 rx ry q=>ho pins s2 σ H2 x y v u Q I2 rx ry q)
theorem AI {op:UnaryOp} {r:V→Hp→VK→Prop} (ho:UnR X (unaryOp op) r) (ha:PE X a ta):PE X (.UnaryOp op a pos) (tUn r ta):=by
 intro pins s σ H Q I h
 exact UnaryOp_ (thn (ha pins s σ H _ I h) fun v s1 hh=>exF hh fun x H1 I1 r1 q1=>ho pins s1 σ H1 x v Q I1 r1 q1)
theorem opI {f:Value→Value→Sem Value} {C:Int→Int→Prop} {g:Int→Int→Int}
  (rule:∀ (i j:Int) (t u:Tok) (s:Shared) (Q:Value→Shared→Prop) (E:Value→Shared→Prop),C i j→Q (.int (g i j) s.toks) { s with toks:=s.toks+1 }→wpAny (model X.prog X.w) X.A (f (.int i t) (.int j u)) Q E s) :
  OpR X f (rI C fun i j=>.int (g i j)):=by
 intro pins s σ H x y v u Q I rx ry h
 obtain ⟨i,j,rfl,rfl,hc,q⟩:=h
 obtain ⟨t,rfl⟩:=rx
 obtain ⟨t',rfl⟩:=ry
 exact rule i j t t' s _ _ hc ⟨.int (g i j),H,I.tok _,⟨_,rfl⟩,q⟩
theorem opI0 {f:Value→Value→Sem Value} {g:Int→Int→Int}
  (rule:∀ (i j:Int) (t u:Tok) (s:Shared) (Q:Value→Shared→Prop) (E:Value→Shared→Prop),Q (.int (g i j) s.toks) { s with toks:=s.toks+1 }→wpAny (model X.prog X.w) X.A (f (.int i t) (.int j u)) Q E s) :
  OpR X f (rI0 fun i j=>.int (g i j)):=by
 intro pins s σ H x y v u Q I rx ry h
 obtain ⟨i,j,rfl,rfl,q⟩:=h
 obtain ⟨t,rfl⟩:=rx
 obtain ⟨t',rfl⟩:=ry
 exact rule i j t t' s _ _ ⟨.int (g i j),H,I.tok _,⟨_,rfl⟩,q⟩
theorem opB0 {f:Value→Value→Sem Value} {g:Int→Int→Bool}
  (rule:∀ (i j:Int) (t u:Tok) (s:Shared) (Q:Value→Shared→Prop) (E:Value→Shared→Prop),Q (.bool (g i j)) s→wpAny (model X.prog X.w) X.A (f (.int i t) (.int j u)) Q E s) :
  OpR X f (rI0 fun i j=>.bl (g i j)):=by
 intro pins s σ H x y v u Q I rx ry h
 obtain ⟨i,j,rfl,rfl,q⟩:=h
 obtain ⟨t,rfl⟩:=rx
 obtain ⟨t',rfl⟩:=ry
 exact rule i j t t' s _ _ ⟨.bl (g i j),H,I,rfl,q⟩
noncomputable def CDiv (i j:Int):Prop:=0 < j∧j < 1073741824
noncomputable def CPow (i j:Int):Prop:=0≤j∧j≤1000000∧i.natAbs < 2 ^ 64
noncomputable def CMul (i j:Int):Prop:=(-(2 ^ 64) < i∧i < 2 ^ 64)∨(-(2 ^ 64) < j∧j < 2 ^ 64)
theorem CMul.ok {i j:Int} (h:CMul i j):IntMulOk i j:=by
 rcases h with ⟨h1,h2⟩|⟨h1,h2⟩
 ·exact .of_left (intBits_le_64 h1 h2)
 ·exact .of_right (intBits_le_64 h1 h2)
theorem yE:OpR X (binaryOp .Add) (rI0 fun i j=>.int (i+j)):=opI0 fun _ _ _ _ _ _ _ q=>add_int q
theorem yS:OpR X (binaryOp .Sub) (rI0 fun i j=>.int (i - j)):=opI0 fun _ _ _ _ _ _ _ q=>sub_int q
theorem zp:OpR X (binaryOp .Mult) (rI CMul fun i j=>.int (i*j)):=opI fun _ _ _ _ _ _ _ hc q=>mul_int q hc.ok
theorem xB:OpR X (binaryOp .FloorDiv) (rI CDiv fun i j=>.int (i/j)):=opI fun i j _ _ _ _ _ hc q=>by
 have h1:(0:Int) < j:=hc.1
 have h2:j < 1073741824:=hc.2
 exact floordiv_int (by omega) (by rw [Int.fdiv_eq_ediv_of_nonneg i (by omega)];exact q) (.inl (PyProof.noPylong_small (by omega)))
theorem zQ:OpR X (binaryOp .Mod) (rI (fun _ j=>0 < j) fun i j=>.int (i % j)):=opI fun i j _ _ _ _ _ hc q=>by
 have h1:(0:Int) < j:=hc
 exact mod_int' (by omega) (by rw [Int.fmod_eq_emod_of_nonneg i (by omega)];exact q)
theorem y0:OpR X (binaryOp .Pow) (rI CPow fun i j=>.int (i ^ j.toNat)):=opI fun _ _ _ _ _ _ _ hc q=>pow_int_small hc.1 hc.2.1 hc.2.2 q
theorem xE:OpR X (inplaceOp .Add) (rI0 fun i j=>.int (i+j)):=opI0 fun _ _ _ _ _ _ _ q=>iadd_int q
theorem unI {f:Value→Sem Value} {g:Int→Int}
  (rule:∀ (i:Int) (t:Tok) (s:Shared) (Q:Value→Shared→Prop) (E:Value→Shared→Prop),Q (.int (g i) s.toks) { s with toks:=s.toks+1 }→wpAny (model X.prog X.w) X.A (f (.int i t)) Q E s) :
  UnR X f (rU fun i=>.int (g i)):=by
 intro pins s σ H x v Q I rx h
 obtain ⟨i,rfl,q⟩:=h
 obtain ⟨t,rfl⟩:=rx
 exact rule i t s _ _ ⟨.int (g i),H,I.tok _,⟨_,rfl⟩,q⟩
theorem zP:UnR X (unaryOp .USub) (rU fun i=>.int (-i)):=unI fun _ _ _ _ _ q=>neg_int q
end
noncomputable def scal:V→V→Bool
 | .non,.non=>true|.non,.int _=>true|.int _,.non=>true|.non,.bl _=>true|.bl _,.non=>true|.non,.str _=>true|.str _,.non=>true
 | .int _,.int _=>true|.bl _,.bl _=>true|.str _,.str _=>true|.byt _,.byt _=>true
 | .int _,.str _=>true|.str _,.int _=>true|.bl _,.str _=>true|.str _,.bl _=>true
 | _,_=>false
noncomputable def rEq:R2:=fun x y H Q=>scal x y=true∧Q (.bl (decide (x=y))) H
noncomputable def rNe:R2:=fun x y H Q=>scal x y=true∧Q (.bl (!decide (x=y))) H
theorem tW {i j:Int}:decide (V.int i=V.int j)=(i==j):=by
 rw [Bool.eq_iff_iff]
 simp
theorem vV {i j:Bool}:decide (V.bl i=V.bl j)=(i==j):=by
 rw [Bool.eq_iff_iff]
 simp
theorem tU {i j:Str}:decide (V.str i=V.str j)=(i==j):=by
 rw [Bool.eq_iff_iff]
 simp
theorem t7 {i j:Array UInt8}:decide (V.byt i=V.byt j)=(i.toList==j.toList):=by
 rw [Bool.eq_iff_iff]
 cases i
 cases j
 simp
section
variable {X:Cx} {a b c:Expr} {ta tb tc:TE} {pos:Pos}
theorem aS {pins:List (Addr×Obj)} {σ:St} {H:Hp} {s:Shared} {Q:VK} {k k':Bool} (I:Inv X pins σ H s) (q:Q (.bl k) H) (e:k=k'):EP X pins σ Q (.bool k') s:=by
 subst e
 exact ⟨.bl k,H,I,rfl,q⟩
theorem A0:OpR X (compareOp .Eq) rEq:=by
 intro pins s σ H x y v u Q I rx ry h
 obtain ⟨hs,q⟩:=h
 cases x with
 | non =>
  cases rx
  cases y with
  | non=>cases ry;exact PySem.EqNone.eq_none_none (aS I q (by simp))
  | bl j=>cases ry;exact PySem.EqNone.eq_none_bool (aS I q (by simp))
  | int j=>obtain ⟨t',rfl⟩:=ry;exact PySem.EqNone.eq_none_int (aS I q (by simp))
  | str j=>obtain ⟨t',rfl⟩:=ry;exact PySem.EqNone.eq_none_str (aS I q (by simp))
  | _=>exact absurd (show false=true from hs) Bool.false_ne_true
 | bl i =>
  cases rx
  cases y with
  | non=>cases ry;exact PySem.EqNone.eq_bool_none (aS I q (by simp))
  | bl j=>cases ry;exact eq_bool (aS I q vV)
  | str j=>obtain ⟨t',rfl⟩:=ry;exact PySem.EqMixed.eq_bool_str (aS I q (by simp))
  | _=>exact absurd (show false=true from hs) Bool.false_ne_true
 | int i =>
  obtain ⟨t,rfl⟩:=rx
  cases y with
  | non=>cases ry;exact PySem.EqNone.eq_int_none (aS I q (by simp))
  | int j=>obtain ⟨t',rfl⟩:=ry;exact eq_int (aS I q tW)
  | str j=>obtain ⟨t',rfl⟩:=ry;exact PySem.EqMixed.eq_int_str (aS I q (by simp))
  | _=>exact absurd (show false=true from hs) Bool.false_ne_true
 | str i =>
  obtain ⟨t,rfl⟩:=rx
  cases y with
  | non=>cases ry;exact PySem.EqNone.eq_str_none (aS I q (by simp))
  | bl j=>cases ry;exact PySem.EqMixed.eq_str_bool (aS I q (by simp))
  | int j=>obtain ⟨t',rfl⟩:=ry;exact PySem.EqMixed.eq_str_int (aS I q (by simp))
  | str j=>obtain ⟨t',rfl⟩:=ry;exact eq_str (aS I q tU)
  | _=>exact absurd (show false=true from hs) Bool.false_ne_true
 | byt i =>
  obtain ⟨t,rfl⟩:=rx
  cases y with
  | byt j=>obtain ⟨t',rfl⟩:=ry;exact PySem.W.eq_bytes (aS I q t7)
  | _=>exact absurd (show false=true from hs) Bool.false_ne_true
 | _=>cases y <;> exact absurd (show false=true from hs) Bool.false_ne_true
theorem Aw:OpR X (compareOp .NotEq) rNe:=by
 intro pins s σ H x y v u Q I rx ry h
 obtain ⟨hs,q⟩:=h
 cases x with
 | non =>
  cases rx
  cases y with
  | non=>cases ry;exact PySem.EqNone.ne_none_none (aS I q (by simp))
  | bl j=>cases ry;exact PySem.EqNone.ne_none_bool (aS I q (by simp))
  | int j=>obtain ⟨t',rfl⟩:=ry;exact PySem.EqNone.ne_none_int (aS I q (by simp))
  | str j=>obtain ⟨t',rfl⟩:=ry;exact PySem.EqNone.ne_none_str (aS I q (by simp))
  | _=>exact absurd (show false=true from hs) Bool.false_ne_true
 | bl i =>
  cases rx
  cases y with
  | non=>cases ry;exact PySem.EqNone.ne_bool_none (aS I q (by simp))
  | bl j=>cases ry;exact ne_bool (aS I q (congrArg not vV))
  | str j=>obtain ⟨t',rfl⟩:=ry;exact PySem.EqMixed.ne_bool_str (aS I q (by simp))
  | _=>exact absurd (show false=true from hs) Bool.false_ne_true
 | int i =>
  obtain ⟨t,rfl⟩:=rx
  cases y with
  | non=>cases ry;exact PySem.EqNone.ne_int_none (aS I q (by simp))
  | int j=>obtain ⟨t',rfl⟩:=ry;exact ne_int (aS I q (congrArg not tW))
  | str j=>obtain ⟨t',rfl⟩:=ry;exact PySem.EqMixed.ne_int_str (aS I q (by simp))
  | _=>exact absurd (show false=true from hs) Bool.false_ne_true
 | str i =>
  obtain ⟨t,rfl⟩:=rx
  cases y with
  | non=>cases ry;exact PySem.EqNone.ne_str_none (aS I q (by simp))
  | bl j=>cases ry;exact PySem.EqMixed.ne_str_bool (aS I q (by simp))
  | int j=>obtain ⟨t',rfl⟩:=ry;exact PySem.EqMixed.ne_str_int (aS I q (by simp))
  | str j=>obtain ⟨t',rfl⟩:=ry;exact ne_str (aS I q (congrArg not tU))
  | _=>exact absurd (show false=true from hs) Bool.false_ne_true
 | byt i =>
  obtain ⟨t,rfl⟩:=rx
  cases y with
  | byt j=>obtain ⟨t',rfl⟩:=ry;exact PySem.W.ne_bytes (aS I q (congrArg not t7))
  | _=>exact absurd (show false=true from hs) Bool.false_ne_true
 | _=>cases y <;> exact absurd (show false=true from hs) Bool.false_ne_true
theorem z4:OpR X (compareOp .Lt) (rI0 fun i j=>.bl (decide (i < j))):=opB0 fun _ _ _ _ _ _ _ q=>lt_int q
theorem AV:OpR X (compareOp .Gt) (rI0 fun i j=>.bl (decide (j < i))):=opB0 fun _ _ _ _ _ _ _ q=>gt_int q
theorem AG:OpR X (compareOp .GtE) (rI0 fun i j=>.bl (decide (j≤i))):=opB0 fun _ _ _ _ _ _ _ q=>ge_int q
theorem ur:OpR X (compareOp .Lt) (fun x y H Q=>∃ i j,x=.str i∧y=.str j∧Q (.bl (decide (i.cps.toList < j.cps.toList))) H):=by
 intro pins s σ H x y v u Q I rx ry h
 obtain ⟨i,j,rfl,rfl,q⟩:=h
 obtain ⟨t,rfl⟩:=rx
 obtain ⟨t',rfl⟩:=ry
 exact lt_str (aS I q rfl)
theorem yb:OpR X (compareOp .Is) (fun x y H Q=>y=.non∧Q (.bl (decide (x=.non))) H):=by
 intro pins s σ H x y v u Q I rx ry h
 obtain ⟨rfl,q⟩:=h
 cases ry
 refine is_none_gen (aS I q ?_)
 cases x <;> first
  | (cases rx;rfl)
  | (obtain ⟨t,rfl⟩:=rx;rfl)
theorem OpR.or {f:Value→Value→Sem Value} {r r':R2} (h:OpR X f r) (h':OpR X f r'):OpR X f (fun x y H Q=>r x y H Q∨r' x y H Q):=by
 intro pins s σ H x y v u Q I rx ry q
 rcases q with q|q
 ·exact h pins s σ H x y v u Q I rx ry q
 ·exact h' pins s σ H x y v u Q I rx ry q
theorem aC (b:Expr) {op:CmpOp} (h:op≠.In:=by decide) (h2:op≠.NotIn:=by decide):behindInMarks op b=false:=by
 have e1:(op==CmpOp.In)=false:=by cases op <;> first|rfl|exact absurd rfl h
 have e2:(op==CmpOp.NotIn)=false:=by cases op <;> first|rfl|exact absurd rfl h2
 cases b <;> simp [behindInMarks,e1,e2]
theorem wo {op:CmpOp} {r:R2} (ho:OpR X (compareOp op) r) (ha:PE X a ta) (hb:PE X b tb) (hm:behindInMarks op b=false):PE X (.Compare a [op] [b] pos) (tOp r ta tb):=by
 intro pins s σ H Q I h
 exact wpAny_Compare1 (binT ha hb I h fun v u s2 x y H2 I2 rx ry q=>ho pins s2 σ H2 x y v u Q I2 rx ry q) hm
noncomputable def TruV (K:PySem.W.Frag) (x:V) (H:Hp) (k:Bool):Prop :=
 match x with
 | .non=>k=false
 | .bl b=>k=b
 | .int i=>k=(i != 0)
 | .str y=>y.length≤sizeLine∧k=((y.length:Int) != 0)
 | .byt y=>y.size≤sizeLine∧k=((y.size:Int) != 0)
 | .ref p=>(∃ xs,SqL K H p xs∧k=!xs.isEmpty)∨(∃ xs,SqT K H p xs∧k=!xs.isEmpty)∨∃ kvs,H p=some (.dK kvs)∧k=!kvs.isEmpty
 | _=>False
theorem qC {κ:Type} {kvs:List (κ×V)} {vs:List (κ×Value)} (r:KV kvs vs):(!vs.isEmpty)=!kvs.isEmpty:=by
 cases r <;> rfl
theorem lX {xs:List V} {its:List Value} (r:Vals xs its):(!its.toArray.isEmpty)=!xs.isEmpty:=by
 cases r <;> simp
theorem line63:(sizeLine:Nat) < 2 ^ 63:=by rw [sizeLine_eq];decide
theorem zr:TruR X (fun x H Q=>∃ k,TruV X.K x H k∧Q k H):=by
 intro pins s σ H x v Q I rx h
 obtain ⟨k,e,q⟩:=h
 have hl:=line63
 have hs:sizeLine=16777216:=sizeLine_eq
 cases x with
 | non =>
  cases rx
  have e':k=false:=e
  subst e'
  exact truthy_none ⟨H,I,q⟩
 | bl b =>
  cases rx
  have e':k=b:=e
  subst e'
  exact wpAny_truthy_bool ⟨H,I,q⟩
 | int i =>
  obtain ⟨t,rfl⟩:=rx
  have e':k=(i != 0):=e
  subst e'
  exact PySem.P.truthy_int ⟨H,I,q⟩
 | str y =>
  obtain ⟨t,rfl⟩:=rx
  obtain ⟨hy,e'⟩:y.length≤sizeLine∧k=((y.length:Int) != 0):=e
  subst e'
  exact PySem.P.truthy_str (by omega) ⟨H,I.tok _,q⟩
 | byt y =>
  obtain ⟨t,rfl⟩:=rx
  obtain ⟨hy,e'⟩:y.size≤sizeLine∧k=((y.size:Int) != 0):=e
  subst e'
  exact PySem.W.truthy_bytes (by omega) ⟨H,I.tok _,q⟩
 | ref p =>
  cases rx
  have e':(∃ xs,SqL X.K H p xs∧k=!xs.isEmpty)∨(∃ xs,SqT X.K H p xs∧k=!xs.isEmpty)∨∃ kvs,H p=some (.dK kvs)∧k=!kvs.isEmpty:=e
  rcases e' with ⟨xs,hx,e'⟩|⟨xs,hx,e'⟩|⟨kvs,hx,e'⟩
  ·subst e'
   obtain ⟨its,r,pl,hz⟩:=I.list hx
   have hlen:=r.length
   exact wpAny_truthy_list pl.isList (by simp only [List.size_toArray];omega) ⟨H,I.tok _,by rw [lX r];exact q⟩
  ·subst e'
   obtain ⟨its,r,pl,hz⟩:=I.tuple hx
   have hlen:=r.length
   exact truthy_tuple pl (by simp only [List.size_toArray];omega) ⟨H,I.tok _,by rw [lX r];exact q⟩
  ·subst e'
   obtain ⟨hz,hS,vs,r,m⟩:kvs.length≤sizeLine∧(p==sysModules)=false∧∃ vs,KV kvs vs∧s.heap.DictOf (mixKind X.prog X.w) p vs:=I.hok p _ hx
   have hlen:kvs.length=vs.length:=Paired.length r
   exact wpAny_truthy_dict hS m (by omega) ⟨H,I.tok _,by rw [qC r];exact q⟩
 | _=>exact (show False from e).elim
theorem qT:OpR X (binaryOp .Add) (fun x y H Q=>∃ i j,x=.str i∧y=.str j∧i.length+j.length≤sizeLine∧Q (.str (i++j)) H):=by
 intro pins s σ H x y v u Q I rx ry h
 obtain ⟨i,j,rfl,rfl,hz,q⟩:=h
 obtain ⟨t,rfl⟩:=rx
 obtain ⟨t',rfl⟩:=ry
 exact br I.tk (add_str (fun t' tk htk=>⟨.str (i++j),H,I.tok _,⟨_,rfl⟩,q⟩) hz)
theorem vals1 {x:V} {us:List Value} (r:Vals [x] us):∃ u,us=[u]∧RelV x u:=by
 cases r with
 | cons r1 r2=>cases r2;exact ⟨_,rfl,r1⟩
theorem vals2 {x y:V} {us:List Value} (r:Vals [x,y] us):∃ u w',us=[u,w']∧RelV x u∧RelV y w':=by
 cases r with
 | cons r1 r2 =>
  cases r2 with
  | cons r3 r4=>cases r4;exact ⟨_,_,rfl,r1,r3⟩
theorem sX:CallR X (.type "int") (fun xs H Q=>(∃ i,xs=[.int i]∧Q (.int i) H)∨∃ k,xs=[.bl k]∧Q (.int (if k then 1 else 0)) H):=by
 intro pins s σ H xs us Q I r h
 rcases h with ⟨i,rfl,q⟩|⟨k,rfl,q⟩
 ·obtain ⟨u,rfl,t,rfl⟩:=vals1 r
  exact call_int_int ⟨.int i,H,I,⟨_,rfl⟩,q⟩
 ·obtain ⟨u,rfl,r1⟩:=vals1 r
  cases r1
  exact call_int_bool ⟨.int (if k then 1 else 0),H,I.tok _,⟨_,rfl⟩,q⟩
end
end L2
namespace L2
open PySem PySem.Spec PyProof.Rows
structure ObjM (h:Heap) (x dx C:Addr) (mA:Str→Option Value):Prop where
 obj:h.get? x=some (PySem.W.instObj C dx)
 ns:h.Ns1 dx mA
 ne:dx≠x
theorem uC {h:Heap} {dx:Addr} {mA:Str→Option Value} (n:h.Ns1 dx mA):∃ od,h.get? dx=some od∧∀ name,PySem.W.lookIn name od=some (mA name):=by
 obtain ⟨o,es,ep,ho,hd,hk,_,hm⟩:=n
 refine ⟨o,ho,fun name=>?_⟩
 have e:=hm name
 unfold nsFind findBy at e
 rw [← Array.find?_toList] at e
 unfold PySem.W.lookIn
 rw [hd]
 dsimp only
 split
 ·rename_i y q
  rw [q] at e
  exact congrArg some e
 ·rename_i q
  rw [q] at e
  have a:es.toList.any (·.refKey)=false:=by
   rw [List.any_eq_false]
   intro y hy
   obtain ⟨z,t,hkey⟩:=hk y (Array.mem_toList_iff.mp hy)
   simp [DictEntry.refKey,hkey]
  have a':¬ es.toList.any (·.refKey)=true:=by rw [a];exact Bool.false_ne_true
  rw [if_neg a']
  exact congrArg some e
theorem ObjM.look {h:Heap} {x dx C:Addr} {mA:Str→Option Value} (I:ObjM h x dx C mA):∃ od,PySem.W.InstAt h x (PySem.W.instObj C dx) C (some od)∧∀ name,PySem.W.lookIn name od=some (mA name) :=
 let ⟨od,ho,hl⟩:=uC I.ns
 ⟨od,⟨I.obj,rfl,rfl,ho⟩,hl⟩
section
variable {prog:Program} {w:World} {A:Around} {E:Value→Shared→Prop} {s:Shared} {K:PySem.W.Frag} {x dx C f:Addr} {mA:Str→Option Value} {name:Str} {v:Value}
end
section
variable {P:Program} {w:World} {H H':Hp} {h h':Heap} {a C dx:Addr} {fs fs':List (Str×V)}
theorem xc (hok:HOk P w H h) (e:H a=some (.ins C dx fs)):∃ mA,ObjM h a dx C mA∧(∀ f,RelO (fs.lookup f) (mA f))∧PySem.Within mA (fs.map (·.1))∧fs.length≤1000∧H dx=some (.own a):=by
 obtain ⟨d,z,ne,ob,mA,n,r,q⟩:=(show ObjOk P w H h a (.ins C dx fs) from hok a _ e)
 exact ⟨mA,⟨ob,n,ne⟩,r,q,z,d⟩
end
structure Cls (K:PySem.W.Frag) (C:Addr):Prop where
 pg:PySem.W.plainGet K C Str.empty=true
 hd:PySem.W.hasDictIn K C=true
 po:PySem.W.plainOver K C=true
 sa:PySem.W.findIn K (.ref C) "__setattr__"=some (some (.builtin "object.__setattr__"))
theorem Cls.get {K:PySem.W.Frag} {C:Addr} (c:Cls K C) (f:Str):PySem.W.plainGet K C f=true:=c.pg
section
variable {X:Cx} {pins:List (Addr×Obj)} {σ:St} {H:Hp} {s:Shared} {a C dx:Addr} {fs:List (Str×V)} {f:Str} {v:V} {A:Around} {E:Value→Shared→Prop}
end
section
variable {X:Cx} {o e value:Expr} {f:Str} {pos pos' tpos:Pos} {ta tv:TE}
end
section
variable {X:Cx} {pins:List (Addr×Obj)} {σ:St} {H:Hp} {s:Shared} {A:Around} {E:Value→Shared→Prop} {Q:Value→Shared→Prop} {c:Value} {b:Bool}
inductive TyOf (K:PySem.W.Frag) (H:Hp):V→Value→Prop where
 | non:TyOf K H .non (.type "NoneType")
 | bl (x:Bool):TyOf K H (.bl x) (.type "bool")
 | int (i:Int):TyOf K H (.int i) (.type "int")
 | str (x:Str):TyOf K H (.str x) (.type "str")
 | flt (x:UInt64):TyOf K H (.flt x) (.type "float")
 | lst {a:Addr} {xs:List V} (e:H a=some (.lst xs)):TyOf K H (.ref a) (.type "list")
 | frz {a:Addr} {o:Obj} {xs:List V} (e:H a=some (.frz o (.lst xs))):TyOf K H (.ref a) (.type "list")
 | tup {a:Addr} {xs:List V} (e:H a=some (.tup xs)):TyOf K H (.ref a) (.type "tuple")
 | dK {a:Addr} {kvs:List (Key×V)} (e:H a=some (.dK kvs)):TyOf K H (.ref a) (.type "dict")
 | dT {a:Addr} {kvs:List (List Key×V)} (e:H a=some (.dT kvs)):TyOf K H (.ref a) (.type "dict")
 | ins {a C dx:Addr} {fs:List (Str×V)} (e:H a=some (.ins C dx fs)) (cl:Cls K C) (ha:PySem.W.findIn K (.ref C) "__class__"=some (some (.builtin "object.__class__")))
   (hn:PySem.W.specialIn K (.builtin "object.__class__") "__get__"=some (some (.builtin "getset_descriptor.__get__"))) (htk:PySem.W.takesIn K (.builtin "object.__class__")=some true)
   (hm:PySem.W.mroIn K C (.type "object")=some true):TyOf K H (.ref a) (.ref C)
theorem gE {x:V} {u t:Value} (I:Inv X pins σ H s) (rx:RelV x u) (ty:TyOf X.K H x t) (e:PySem.W.kitOne X.K t c=some b) (h:∀ tk,Q (.bool b) { s with toks:=tk }) :
  wpAny (model X.prog X.w) A (call (.builtin "isinstance") [u,c]) Q E s:=by
 cases ty with
 | non=>cases (show u=Value.none from rx);exact PySem.W.kia_one PySem.W.kitx_none I.kIn True.intro e (fun z=>nomatch z) h
 | bl y=>cases (show u=Value.bool y from rx);exact PySem.W.kia_one PySem.W.kitx_bool I.kIn True.intro e (fun z=>nomatch z) h
 | int i=>obtain ⟨t,q⟩:=(show ∃ t,u=Value.int i t from rx);cases q;exact PySem.W.kia_one PySem.W.kitx_int I.kIn True.intro e (fun z=>nomatch z) h
 | str y=>obtain ⟨t,q⟩:=(show ∃ t,u=Value.str y t from rx);cases q;exact PySem.W.kia_one PySem.W.kitx_str I.kIn True.intro e (fun z=>nomatch z) h
 | flt y=>obtain ⟨t,q⟩:=(show ∃ t,u=Value.float y t from rx);cases q;exact PySem.W.kia_one PySem.W.kitx_float I.kIn True.intro e (fun z=>nomatch z) h
 | @lst a xs ea =>
  cases (show u=Value.ref a from rx)
  obtain ⟨_,_,n,_,h1⟩:=(show ObjOk X.prog X.w H s.heap a (.lst xs) from I.hok a _ ea)
  exact PySem.W.kia_one PySem.W.kitx_list I.kIn ⟨_,h1,rfl⟩ e (fun z=>nomatch z) h
 | @frz a ob xs ea =>
  cases (show u=Value.ref a from rx)
  obtain ⟨_,_,_,n,_,h1⟩:=(show ObjOk X.prog X.w H s.heap a (.frz ob (.lst xs)) from I.hok a _ ea)
  exact PySem.W.kia_one PySem.W.kitx_list I.kIn ⟨_,h1,rfl⟩ e (fun z=>nomatch z) h
 | @tup a xs ea =>
  cases (show u=Value.ref a from rx)
  obtain ⟨_,_,_,p⟩:=(show ObjOk X.prog X.w H s.heap a (.tup xs) from I.hok a _ ea)
  obtain ⟨o,h1,h2,_⟩:=p
  exact PySem.W.kia_one PySem.W.kitx_tuple I.kIn ⟨o,h1,h2⟩ e (fun z=>nomatch z) h
 | @dK a kvs ea =>
  cases (show u=Value.ref a from rx)
  obtain ⟨_,_,vs,_,p⟩:=(show ObjOk X.prog X.w H s.heap a (.dK kvs) from I.hok a _ ea)
  obtain ⟨o,es,ep,h1,h2,_⟩:=p
  exact PySem.W.kia_one PySem.W.kitx_dict I.kIn ⟨o,h1,h2.1⟩ e (fun z=>nomatch z) h
 | @dT a kvs ea =>
  cases (show u=Value.ref a from rx)
  obtain ⟨_,_,xs,_,o,es,ep,h1,h2,_⟩:=(show ObjOk X.prog X.w H s.heap a (.dT kvs) from I.hok a _ ea)
  exact PySem.W.kia_one PySem.W.kitx_dict I.kIn ⟨o,h1,h2.1⟩ e (fun z=>nomatch z) h
 | @ins a C dx fs ea cl ha hn htk hm =>
  cases (show u=Value.ref a from rx)
  obtain ⟨mA,O,_⟩:=xc I.hok ea
  obtain ⟨od,J,_⟩:=O.look
  exact PySem.W.kia_one (PySem.W.kitx_own (cl.get _) cl.hd ha hn htk hm) I.kIn J e (fun z=>nomatch z) h
end
end L2
namespace L2
open PySem PySem.Spec PyProof.Rows
structure Room (k:Nat) (A:Around):Prop where
 hd:A.handled=none
 dp:A.depth+3*k+5 < recursionLimit
 un:A.units+16*k+200 < cLine
theorem Room.mono {j k:Nat} {A:Around} (r:Room k A) (h:j≤k):Room j A:=⟨r.hd,by have:=r.dp;omega,by have:=r.un;omega⟩
theorem Room.deeper {k:Nat} {A:Around} (r:Room (k+1) A) (env:Env):Room k (A.deeper env) :=
 ⟨r.hd,by have:=r.dp;show A.depth+1+3*k+5 < _;omega,by have:=r.un;show A.units+3+16*k+200 < _;omega⟩
theorem Room.in1 {k:Nat} {A:Around} (r:Room (k+1) A):Room k A.in1 :=
 ⟨r.hd,by have:=r.dp;show A.depth+3*k+5 < _;omega,by have:=r.un;show A.units+1+16*k+200 < _;omega⟩
theorem Room.depth {k:Nat} {A:Around} (r:Room k A):A.depth < recursionLimit:=by have:=r.dp;omega
theorem Room.units {k:Nat} {A:Around} (r:Room k A):A.units+64 < cLine:=by have:=r.un;omega
noncomputable def tNil:TA:=fun _ H Q=>Q [] H
noncomputable def tCons (ta:TE) (tr:TA):TA:=fun σ H Q=>ta σ H fun x H1=>tr σ H1 fun xs H2=>Q (x::xs) H2
section
variable {X:Cx} {e:Expr} {es:List Expr} {te:TE} {t:TA} {pos:Pos}
theorem xS:PA X [] tNil:=fun _ _ _ _ H Q I h=>Calls.spliced_nil ⟨[],H,I,.nil,h⟩
theorem xn (ha:PE X e te) (hr:PA X es t) (hs:starEach (e::es) X.env=(false,eval e X.env)::starEach es X.env:=by rfl):PA X (e::es) (tCons te t):=by
 intro pos pins s σ H Q I h
 rw [hs]
 show wpAny _ _ (spliced ((false,eval e X.env)::backTo pos (starEach es X.env))) _ _ s
 refine Calls.spliced_cons (thn (ha pins s σ H _ I h) fun u s1 hh=>exF hh fun x H1 I1 r1 q1=>?_)
 exact thn (hr pos pins s1 σ H1 _ I1 q1) fun us s2 hh=>exF hh fun xs H2 I2 r2 q2=>⟨x::xs,H2,I2,.cons r1 r2,q2⟩
noncomputable def tTup (t:TA):TE:=fun σ H Q=>t σ H fun xs H1=>xs.length≤sizeLine∧∀ p,H1 p=none→Q (.ref p) (upd H1 p (.tup xs))
noncomputable def tLst (t:TA):TE:=fun σ H Q=>t σ H fun xs H1=>xs.length≤sizeLine∧∀ p,H1 p=none→Q (.ref p) (upd H1 p (.lst xs))
theorem y6 {x1} (h:PA X es t):PE X (.Tuple es x1 pos) (tTup t):=by
 intro pins s σ H Q I hq
 refine wpAny_Tuple_spliced (thn (h pos pins s σ H _ I hq) fun us s1 ⟨xs,H1,I1,r,z,q⟩=>⟨by rw [← r.length];exact z,?_⟩)
 have hf:H1 s1.heap.objs.size=none:=I1.hok.fresh (Nat.le_refl _)
 refine ⟨.ref s1.heap.objs.size,upd H1 s1.heap.objs.size (.tup xs),I1.laid (t':=s1.toks) (fun b u e=>Heap.get?_push_of_some _ e) (Nat.le_refl _) ?_,rfl,q _ hf⟩
 exact ⟨z,us,r,⟨_,Heap.get?_push_size _ rfl,rfl,_,rfl⟩⟩
theorem zG (h:PA X es t):PE X (.List es pos) (tLst t):=by
 intro pins s σ H Q I hq
 refine wpAny_List_spliced (thn (h pos pins s σ H _ I hq) fun us s1 ⟨xs,H1,I1,r,z,q⟩=>⟨by rw [← r.length];exact z,?_⟩)
 have hf:H1 s1.heap.objs.size=none:=I1.hok.fresh (Nat.le_refl _)
 refine ⟨.ref s1.heap.objs.size,upd H1 s1.heap.objs.size (.lst xs),I1.laid (t':=s1.toks) (fun b u e=>Heap.get?_push_of_some _ e) (Nat.le_refl _) ?_,rfl,q _ hf⟩
 exact ⟨z,us,0,r,Heap.get?_push_size _ rfl⟩
end
noncomputable abbrev Sp:=List V→Hp→VK→XK→Prop
noncomputable abbrev CXT:=List Env→Hp→Shared→XK→Value→Shared→Prop
structure Env0 (P:Program) (w:World) (K:PySem.W.Frag) (mg:Str→Option Value) (base:Heap) (A:Around) (outer:List Env) (s:Shared) (H:Hp):Prop where
 frames:A.frames=some outer
 mod:Mod K mg base
 bs:∀ b o,base.get? b=some o→s.heap.get? b=some o∧H b=none
 bsz:base.objs.size≤s.heap.objs.size
 funs:s.heap.FunFrames base outer
 frf:∀ b∈frs outer,H b=none
 hok:HOk P w H s.heap
 bare:AllBare s.gens
noncomputable def CE (outer:List Env) (P:Program) (w:World) (H:Hp) (s:Shared) (Q:VK) (u:Value) (s':Shared):Prop :=
 ∃ v H',s'.os=s.os∧AllBare s'.gens∧Un (frs outer) [] H H' s.heap s'.heap∧HOk P w H' s'.heap∧RelV v u∧Q v H'
noncomputable def CR (CX:CXT) (outer:List Env) (P:Program) (w:World) (H:Hp) (s:Shared) (Q:VK) (E:XK) (r:Result) (s':Shared):Prop :=
 match r with
 | .ok (.ret u)=>CE outer P w H s Q u s'
 | .ok _=>False
 | .error e=>CX outer H s E e s'
structure FnOk (P:Program) (w:World) (K:PySem.W.Frag) (mg:Str→Option Value) (base:Heap) (CX:CXT) (k:Nat) (f:Addr) (fd:FuncData) (ps:List Str) (sp:Sp):Prop where
 len:∀ vs H Q E,sp vs H Q E→vs.length=ps.length
 run:∀ (A:Around) (outer:List Env) (s:Shared) (H:Hp) (args:Args) (us:List Value) (vs:List V) (Q:VK) (E:XK),Room k A→Env0 P w K mg base A outer s H→BindsTo s fd args (ps.zip us)→Vals vs us→sp vs H Q E →
  codeAny (model P w) A (.call (.ref f) args) (CR CX outer P w H s Q E) s
theorem FnOk.imp {P:Program} {w:World} {K:PySem.W.Frag} {mg:Str→Option Value} {base:Heap} {CX:CXT} {k:Nat} {f:Addr} {fd:FuncData} {ps:List Str} {sp sp':Sp} (F:FnOk P w K mg base CX k f fd ps sp)
  (h:∀ vs H Q E,sp' vs H Q E→sp vs H Q E):FnOk P w K mg base CX k f fd ps sp' :=
 ⟨fun vs H Q E q=>F.len vs H Q E (h _ _ _ _ q),fun A outer s H args us vs Q E hr he hb hv hs=>F.run A outer s H args us vs Q E hr he hb hv (h _ _ _ _ hs)⟩
theorem Env0.in1 {P:Program} {w:World} {K:PySem.W.Frag} {mg:Str→Option Value} {base:Heap} {A:Around} {outer:List Env} {s:Shared} {H:Hp} (e:Env0 P w K mg base A outer s H) :
  Env0 P w K mg base A.in1 outer s H:=⟨e.frames,e.mod,e.bs,e.bsz,e.funs,e.frf,e.hok,e.bare⟩
section
variable {X:Cx} {pins:List (Addr×Obj)} {σ:St} {H:Hp} {s s':Shared}
theorem Inv.env0 (I:Inv X pins σ H s):Env0 X.prog X.w X.K X.mg X.base X.A X.stack s H :=
 ⟨I.ok.frames,I.ok.mod,I.bs,Nat.le_trans I.ok.bsz I.sz,I.stack,I.stkFree,I.hok,I.bare⟩
theorem Inv.after {Q:VK} {u:Value} (I:Inv X pins σ H s) (h:CE X.stack X.prog X.w H s Q u s') (ht:X.tn≤s'.toks:=by walk_at "tok"):EP X pins σ Q u s':=by
 obtain ⟨v,H',os,bare,un,hok,r,q⟩:=h
 obtain ⟨hh,g,d,t,os'⟩:=s'
 obtain rfl:os'=s.os:=os
 exact ⟨v,H',I.call (h':=hh) (g':=g) (d':=d) (t':=t) (ch:=[]) un hok bare (fun b z=>absurd z (by simp)),r,q⟩
end
noncomputable def tCall (sp:Sp) (dvs:List V) (E:XK) (t:TA):TE:=fun σ H Q=>t σ H fun vs H1=>sp (vs++dvs) H1 Q E
noncomputable def Binds (K:PySem.W.Frag) (fd:FuncData) (ps:List Str) (ds:List Value):Prop :=
 ∀ (s:Shared) (us:List Value),K.In s.heap→(us++ds).length=ps.length→BindsTo s fd ⟨us,[]⟩ (ps.zip (us++ds))
theorem Binds.all {K:PySem.W.Frag} {fd:FuncData} {ps:List Str} (h:∀ us:List Value,us.length=ps.length→bindArgs fd ⟨us,[]⟩=pure (ps.zip us)):Binds K fd ps []:=fun s us _ hl=>by
 rw [List.append_nil] at hl ⊢
 exact .of_eq (h us hl)
noncomputable def Passes (CX:CXT) (X:Cx) (E:XK):Prop:=∀ (pins:List (Addr×Obj)) (σ:St) (H:Hp) (s:Shared) (e:Value) (s':Shared),Inv X pins σ H s→CX X.stack H s E e s'→X.xe e s'
section
variable {X:Cx} {CX:CXT} {k:Nat} {f C:Addr} {fd:FuncData} {ps:List Str} {sp:Sp} {dvs:List V} {ds:List Value} {E:XK} {x m:Str} {p pos apos:Pos} {e o:Expr} {es:List Expr} {ta:TE} {t:TA}
theorem vZ {pins:List (Addr×Obj)} {σ:St} {H:Hp} {s:Shared} {Q:VK} {us:List Value} {vs:List V} (F:FnOk X.prog X.w X.K X.mg X.base CX k f fd ps sp) (hr:Room k X.A) (hb:Binds X.K fd ps ds) (hd:Vals dvs ds) (hx:Passes CX X E)
  (I:Inv X pins σ H s) (r:Vals vs us) (h:sp (vs++dvs) H Q E):wpAny (model X.prog X.w) X.A (call (.ref f) us) (EP X pins σ Q) X.xe s:=by
 have r2:Vals (vs++dvs) (us++ds):=r.append hd
 have hl:(us++ds).length=ps.length:=by rw [← r2.length];exact F.len _ _ _ _ h
 refine wpAny_call (fJ I.tk (codeAny_mono (F.run X.A X.stack s H ⟨us,[]⟩ (us++ds) (vs++dvs) Q E hr I.env0 (hb s us I.kIn hl) r2 h) fun r s' hq htk=>?_))
 cases r with
 | error e=>exact hx pins σ H s e s' I hq
 | ok fl =>
  cases fl with
  | ret u=>exact I.after hq
  | next=>exact False.elim hq
  | brk=>exact False.elim hq
  | cont=>exact False.elim hq
theorem uQ (F:FnOk X.prog X.w X.K X.mg X.base CX k f fd ps sp) (hr:Room k X.A) (hg:Gl X x) (hm:X.mg x=some (.ref f)) (hk:PySem.W.keepIn X.K (.ref f)=true) (hb:Binds X.K fd ps ds) (hd:Vals dvs ds) (hx:Passes CX X E)
  (hdb:(x==("__debug__":Str))=false:=by decide):PE X (.Call (.Name x p) [] [] pos) (tCall sp dvs E tNil):=by
 intro pins s σ H Q I h
 refine wpAny_Call_Name_kw (pD I hg hm ?_ hdb)
 exact PySem.W.callWith_K0 I.kIn hk (vZ (us:=[]) F hr hb hd hx I .nil h)
end
noncomputable def PK (X:Cx) (kws:List Keyword) (t:TA):Prop :=
 ∀ (pos:Pos) (pins:List (Addr×Obj)) (s:Shared) (σ:St) (H:Hp) (Q:List V→Hp→Prop),Inv X pins σ H s→t σ H Q→wpAny (model X.prog X.w) X.A (evalAll ((backToKw pos (keywordEach kws X.env)).map (·.2))) (AP X pins σ Q) X.xe s
section
variable {X:Cx} {CX:CXT} {k:Nat} {f C:Addr} {fd:FuncData} {ps ks:List Str} {sp:Sp} {E:XK} {x m:Str} {p pos apos kpos:Pos} {e o:Expr} {es:List Expr} {kws:List Keyword} {te ta:TE} {t tk:TA} {nm:Option Str}
theorem yM:PK X [] tNil:=fun _ _ _ _ H Q I h=>wpAny_evalAll_nil ⟨[],H,I,.nil,h⟩
theorem wB (ha:PE X e te) (hr:PK X kws t):PK X (⟨nm,e,kpos⟩::kws) (tCons te t):=by
 intro pos pins s σ H Q I h
 show wpAny _ _ (evalAll ((do let v ← eval e X.env;standAt pos;pure v)::(backToKw pos (keywordEach kws X.env)).map (·.2))) _ _ s
 refine wpAny_evalAll_cons (wpAny_bind (thn (ha pins s σ H _ I h) fun u s1 hh=>exF hh fun x H1 I1 r1 q1=>wpAny_bind (wpAny_standAt (wpAny_pure ?_))))
 exact thn (hr pos pins s1 σ H1 _ I1 q1) fun us s2 hh=>exF hh fun xs H2 I2 r2 q2=>⟨x::xs,H2,I2,.cons r1 r2,q2⟩
variable {g:List Value→List Value→List Value} {gV:List V→List V→List V}
end
structure FnScope (N P:List Str) (sc:Scope):Prop where
 kind:sc.kind=.function
 co:sc.isCoroutine=false
 gen:sc.isGenerator=false
 nd:N.Nodup
 pre:N.take P.length=P
 par:∀ x∈P,sc.names.lookup x=some .local∨sc.names.lookup x=some .cell
 nofree:∀ y∈sc.names,y.2≠.free
theorem nG {kindOf:Str→Option NameKind} {x:Str}:∀ {binds:List (Str×Value)} {m:Str→Option Value},(∀ v,(x,v)∉binds)→bindL kindOf binds m x=m x
 | [],_,_=>rfl
 | (n,v)::r,m,h=>by
  unfold bindL
  rw [nG fun w hw=>h w (List.mem_cons_of_mem _ hw)]
  split
  ·have:x≠n:=by rintro rfl;exact h v List.mem_cons_self
   simp [this]
  ·rfl
theorem nZ {kindOf:Str→Option NameKind} {x:Str}:∀ {binds:List (Str×Value)} {m:Str→Option Value},(∀ v,(x,v)∉binds)→bindC kindOf binds m x=m x
 | [],_,_=>rfl
 | (n,v)::r,m,h=>by
  unfold bindC
  rw [nZ fun w hw=>h w (List.mem_cons_of_mem _ hw)]
  split
  ·rfl
  ·have:x≠n:=by rintro rfl;exact h v List.mem_cons_self
   simp [this]
theorem nD {kindOf:Str→Option NameKind} {x:Str} {v:Value}:∀ {P:List Str} {vs:List Value} {i:Nat} {m:Str→Option Value},P.Nodup→P[i]?=some x→vs[i]?=some v→kindOf x=some .local →
  bindL kindOf (P.zip vs) m x=some v
 | [],_,_,_,_,h,_,_=>by simp at h
 | _::_,[],_,_,_,_,h,_=>by simp at h
 | p::P,w::vs,0,m,nd,h1,h2,hk=>by
  simp at h1 h2;subst h1;subst h2
  show bindL kindOf ((p,w)::P.zip vs) m p=_
  unfold bindL
  rw [nG fun v hv=>(List.nodup_cons.mp nd).1 (List.of_mem_zip hv).1,if_pos hk]
  simp
 | p::P,w::vs,i+1,m,nd,h1,h2,hk=>by
  show bindL kindOf ((p,w)::P.zip vs) m x=_
  unfold bindL
  exact nD (i:=i) (List.nodup_cons.mp nd).2 (by simpa using h1) (by simpa using h2) hk
theorem nu {kindOf:Str→Option NameKind} {x:Str} {v:Value}:∀ {P:List Str} {vs:List Value} {i:Nat} {m:Str→Option Value},P.Nodup→P[i]?=some x→vs[i]?=some v→kindOf x≠some .local →
  bindC kindOf (P.zip vs) m x=some v
 | [],_,_,_,_,h,_,_=>by simp at h
 | _::_,[],_,_,_,_,h,_=>by simp at h
 | p::P,w::vs,0,m,nd,h1,h2,hk=>by
  simp at h1 h2;subst h1;subst h2
  show bindC kindOf ((p,w)::P.zip vs) m p=_
  unfold bindC
  rw [nZ fun v hv=>(List.nodup_cons.mp nd).1 (List.of_mem_zip hv).1,if_neg hk]
  simp
 | p::P,w::vs,i+1,m,nd,h1,h2,hk=>by
  show bindC kindOf ((p,w)::P.zip vs) m x=_
  unfold bindC
  exact nu (i:=i) (List.nodup_cons.mp nd).2 (by simpa using h1) (by simpa using h2) hk
noncomputable def start (N:List Str) (vs:List V):St:=vs.map some++List.replicate (N.length - vs.length) none
noncomputable def cxOf (CX:CXT) (P:Program) (w:World) (K:PySem.W.Frag) (mg:Str→Option Value) (base:Heap) (N:List Str) (qual:Str) (scope:Scope) (f:Addr) (cd:Value) (A:Around) (outer:List Env) (s:Shared) (H:Hp) (E:XK):Cx where
 prog:=P
 w:=w
 K:=K
 mg:=mg
 base:=base
 A:=A.deeper (envOfC qual scope s.heap.objs.size f cd)
 N:=N
 s₀:=s
 H₀:=H
 env:=envOfC qual scope s.heap.objs.size f cd
 outer:=outer
 stack:=envOfC qual scope s.heap.objs.size f cd::outer
 ex:=[]
 calm:=true
 fn:=fun _=>true
 pn:=[]
 xe:=fun e s'=>wpAny (model P w) (A.deeper (envOfC qual scope s.heap.objs.size f cd)) (leaving (envOfC qual scope s.heap.objs.size f cd) e) (fun _ s''=>CX outer H s E e s'') (fun e' s''=>CX outer H s E e' s'') s'
theorem qa {sc:Scope} {n:Nat} {x:Str} (h:sc.names.lookup x=some .cell):∃ c,(cellsFrom n sc.names []).lookup x=some c:=by
 have q:=PySem.W.cellsFrom_some sc.names n [] (.inl h)
 exact Option.isSome_iff_exists.mp q
theorem tw {CX:CXT} {P:Program} {w:World} {K:PySem.W.Frag} {mg:Str→Option Value} {base:Heap} {N ps:List Str} {qual:Str} {scope:Scope} {f:Addr} {cd:Value} {A:Around} {outer:List Env} {s s1:Shared} {H:Hp} {E:XK} {us:List Value} {vs:List V}
  (S:FnScope N ps scope) (hd:A.handled=none) (e0:Env0 P w K mg base A outer s H) (hl:vs.length=ps.length) (r:Vals vs us)
  (x:InCallC s s.heap.objs.size (bindL (envOfC qual scope s.heap.objs.size f cd).kindOf (ps.zip us) fun _=>none) (cellsFrom (s.heap.objs.size+1) scope.names []) (bindC (envOfC qual scope s.heap.objs.size f cd).kindOf (ps.zip us) fun _=>none) s1) :
  Inv (cxOf CX P w K mg base N qual scope f cd A outer s H E) [] (start N vs) H s1:=by
 have hpl:ps.length≤N.length:=by have:=congrArg List.length S.pre;rw [List.length_take] at this;omega
 obtain ⟨h1,tk,rfl,hk⟩:=x.done
 have noA:∀ b:Addr,b∉(cxOf CX P w K mg base N qual scope f cd A outer s H E).ex:=fun b z=>absurd (show b∈([]:List Addr) from z) (by simp)
 refine ⟨⟨e0.mod,S.kind,rfl,rfl,Nat.le_refl _,fun y z c h1 h2=>?_,fun y hy=>?_,fun y c _ h=>?_,fun _=>hd,Around.frames_deeper e0.frames,.inr ⟨rfl,rfl⟩,fun b z=>absurd z (noA b),e0.bs,e0.bsz,fun b _ _=>noA b,fun b z=>absurd z (noA b),e0.funs,e0.frf⟩,
  rfl,e0.bare,Un.kept hk,⟨_,x.toInCall.ns,fun i y v h1 h2 h3=>?_⟩,fun y c h=>⟨_,x.cell y c h⟩,e0.hok.fresh (Nat.le_refl _),fun y c h=>?_,fun p hp=>absurd (show p∈([]:List (Addr×Obj)) from hp) (by simp),e0.hok.kept hk,?_,Nat.zero_le _⟩
 ·exact name_of_addr x.apart (PySem.mem_of_lookup h1) (PySem.mem_of_lookup h2)
 ·have hy:scope.names.lookup y=some .cell∨scope.names.lookup y=some .free:=hy
  rcases hy with hy|hy
  ·exact qa hy
  ·exact absurd rfl (S.nofree _ (PySem.mem_of_lookup hy))
 ·exact Nat.le_of_lt (x.above y c (PySem.mem_of_lookup h))
 ·have hi:i < vs.length:=by
   unfold start at h2
   by_cases hi:i < vs.length
   ·exact hi
   ·rw [List.getElem?_append_right (by simpa using hi)] at h2
    rw [List.getElem?_replicate] at h2
    split at h2 <;> cases h2
  have ha:vs[i]?=some v:=by
   unfold start at h2
   rw [List.getElem?_append_left (by simpa using hi),List.getElem?_map] at h2
   cases e:vs[i]? with
   | none=>rw [e] at h2;cases h2
   | some a=>rw [e] at h2;cases h2;rfl
  obtain ⟨u,hu,rv⟩:=r.get ha
  have hp:ps[i]?=some y:=by
   rw [← S.pre,List.getElem?_take_of_lt (by omega)];exact h1
  have ndP:ps.Nodup:=by rw [← S.pre];exact S.nd.sublist (List.take_sublist _ _)
  refine ⟨u,rv,?_⟩
  rcases S.par y (List.mem_of_getElem? hp) with k|k
  ·exact .inl ⟨k,nD ndP hp hu k⟩
  ·obtain ⟨c,e⟩:=qa (n:=s.heap.objs.size+1) k
   refine .inr ⟨.inl k,c,e,?_⟩
   have q:=x.cell y c e
   rw [nu ndP hp hu (by show scope.names.lookup y≠_;rw [k];decide)] at q
   exact q
 ·exact e0.hok.fresh (Nat.le_of_lt (x.above y c (PySem.mem_of_lookup h)))
 ·unfold start
  show _=N.length
  rw [List.length_append,List.length_map,List.length_replicate]
  omega
theorem Ag {CX:CXT} {P:Program} {w:World} {K:PySem.W.Frag} {mg:Str→Option Value} {base:Heap} {k:Nat} {f:Addr} {name qual:Str} {params:Arguments} {body:List Stmt} {scope:Scope} {dV kV doc pm cdv ct oc:Value} {an od:Option Addr}
  {osl:Array (Option Value)} {N ps:List Str} {sp:Sp} (lk:K.lookup f=some ⟨oc,od,.func (PySem.W.fnOf name qual params body scope dV kV doc pm an cdv ct),osl⟩) (hcd:PySem.W.codeIn K cdv qual=true) (S:FnScope N ps scope)
  (len:∀ vs H Q E,sp vs H Q E→vs.length=ps.length)
  (hbody:∀ (A:Around) (outer:List Env) (s:Shared) (H:Hp) (vs:List V) (Q:VK) (E:XK),Room k (A.deeper (envOfC qual scope s.heap.objs.size f cdv))→sp vs H Q E →
   ∃ t,PSs (cxOf CX P w K mg base N qual scope f cdv A outer s H E) body t∧t { nx:=fun _ H'=>Q .non H',rt:=Q } (start N vs) H) :
  FnOk P w K mg base CX (k+1) f (PySem.W.fnOf name qual params body scope dV kV doc pm an cdv ct) ps sp:=by
 refine ⟨len,fun A outer s H args us vs Q E hr e0 hb r hsp=>?_⟩
 have hl:=len _ _ _ _ hsp
 have KX:K.In s.heap:=e0.mod.kin.keeps fun b o e=>(e0.bs b o e).1
 have lim:s.heap.NoLimit:=e0.mod.nolimit.keeps fun b o e=>(e0.bs b o e).1
 have hkind:∀ y∈ps.zip us,scope.names.lookup y.1=some .local∨(scope.names.lookup y.1=some .cell∧((cellsFrom (s.heap.objs.size+1) scope.names []).lookup y.1).isSome=true):=fun ⟨n,v⟩ hy=>by
  rcases S.par n (List.of_mem_zip hy).1 with q|q
  ·exact .inl q
  ·exact .inr ⟨q,PySem.W.cellsFrom_some _ _ _ (.inl q)⟩
 refine codeAny_call_function hr.depth (KX _ _ lk) rfl S.co S.gen rfl (PySem.W.codeRec_of KX hcd) (hb _ _ _ _ ?_)
 refine wpAny_newFunctionEnv_cells S.kind hkind fun env he s1 x=>?_
 subst he
 refine ⟨lim.keeps x.toInCall.keep,codeAny_func ?_⟩
 obtain ⟨t,ht,hq⟩:=hbody A outer s H vs Q E (hr.deeper _) hsp
 have I:Inv (cxOf CX P w K mg base N qual scope f cdv A outer s H E) [] (start N vs) H s1:=tw S hr.hd e0 hl r x
 refine wpAny_mono (ht [] s1 (start N vs) H _ I hq) (fun fl s' hs=>?_) fun e s' hs=>hs
 have fin:∀ {σ':St} {H':Hp} {v:V} {u:Value},Inv (cxOf CX P w K mg base N qual scope f cdv A outer s H E) [] σ' H' s'→RelV v u→Q v H'→CE outer P w H s Q u s' :=
  fun {σ' H' v u} J rv q=>⟨v,H',J.os,J.bare,J.base,J.hok,rv,q⟩
 cases fl with
 | ret u =>
  obtain ⟨v,σ',H',J,rv,q⟩:=hs
  exact fin J rv q
 | next =>
  obtain ⟨σ',H',J,q⟩:=hs
  exact fin (v:=V.non) (u:=Value.none) J rfl q
 | brk =>
  obtain ⟨_,_,_,q⟩:=hs
  exact False.elim q
 | cont =>
  obtain ⟨_,_,_,q⟩:=hs
  exact False.elim q
end L2
namespace L2
open PySem PySem.Spec PyProof.Rows
section
variable {X:Cx} {x:Str} {p pos:Pos} {e:Expr} {es:List Expr} {t:TA} {id T:String} {r:List V→Hp→VK→Prop}
noncomputable def tCB (r:List V→Hp→VK→Prop) (t:TA):TE:=fun σ H Q=>t σ H fun vs H1=>r vs H1 Q
theorem vy (hc:CallR X (.builtin id) r) (hg:Gl X x) (hm:X.mg x=none) (hv:bootBuiltins x=some (.builtin id)) (ha:PA X (e::es) t) (hn:x≠"__name__":=by decide) (hdb:(x==("__debug__":Str))=false:=by decide)
  (he:starEach (e::es) X.env=(false,eval e X.env)::starEach es X.env:=by rfl) (hpl:(backTo pos (starEach es X.env)).any (·.1)=false:=by rfl):PE X (.Call (.Name x p) (e::es) [] pos) (tCB r t):=by
 intro pins s σ H Q I h
 refine wpAny_Call_Name_kw (l8 I hg hm hv ?_ hn hdb)
 exact PyProof.Rows.callWith_builtin1 (thn (ha pos pins s σ H _ I h) fun us s1 hh=>exF hh fun vs H1 I1 r1 q1=>hc pins s1 σ H1 vs us Q I1 r1 q1) he hpl
theorem sT (hc:CallR X (.type T) r) (hg:Gl X x) (hm:X.mg x=none) (hv:bootBuiltins x=some (.type T)) (ha:PA X (e::es) t) (hn:x≠"__name__":=by decide) (hdb:(x==("__debug__":Str))=false:=by decide)
  (he:starEach (e::es) X.env=(false,eval e X.env)::starEach es X.env:=by rfl) (hpl:(backTo pos (starEach es X.env)).any (·.1)=false:=by rfl):PE X (.Call (.Name x p) (e::es) [] pos) (tCB r t):=by
 intro pins s σ H Q I h
 refine wpAny_Call_Name_kw (l8 I hg hm hv ?_ hn hdb)
 exact PyProof.Rows.callWith_type1 (thn (ha pos pins s σ H _ I h) fun us s1 hh=>exF hh fun vs H1 I1 r1 q1=>hc pins s1 σ H1 vs us Q I1 r1 q1) he hpl
end
end L2
namespace HT
open PySem PyProof.Rows
section
open PySem.SeqAt
open PySem.AutoSeq1 (wpAny_loadPart')
open PySem.MeetsSeq PySem.MeetsSeq2 PySem.MeetsSeq3
end
section
variable {prog:Program} {w:World} {A:Around} {E:Value→Shared→Prop} {s:Shared}
theorem wT {t b:Addr} {vs ws:List Value} {Q:Value→Shared→Prop} (ht:IsTup s.heap t vs.toArray) (hb:IsTup s.heap b ws.toArray) (hv:vs≠[])
  (h1:ws=[]→Q (.ref t) s) (h2:ws≠[]→Q (.ref s.heap.objs.size) { s with heap:=s.heap.push { cls:=.type "tuple",data:=.seq (vs++ws).toArray } })
  (hsz:vs.length+ws.length≤sizeLine):wpAny (model prog w) A (binaryOp .Add (.ref t) (.ref b)) Q E s:=by
 obtain ⟨⟨cls,dd,data,sl⟩,ho,hc,n,hd⟩:=id ht
 obtain ⟨⟨cls2,dd2,data2,sl2⟩,ho2,hc2,n2,hd2⟩:=id hb
 simp only at hc hd hc2 hd2
 subst hc hd hc2 hd2
 have e:vs.toArray++ws.toArray=(vs++ws).toArray:=by simp
 by_cases hw:ws=[]
 ·exact concat_meets ⟨_,ho,rfl⟩ ⟨_,ho2,rfl⟩ noFill_tuple_add seq_tuple_add PySem.F.slot_tuple_add PySem.F.entry_tuple_add (PySem.F.args_tuple_add_2 _ _)
   (tuple_addW1 t b vs.toArray ws.toArray n n2 dd dd2 sl sl2 (by simpa using hv) (by simp [hw])) ⟨ho,ho2,h1 hw⟩
 ·refine concat_meets ⟨_,ho,rfl⟩ ⟨_,ho2,rfl⟩ noFill_tuple_add seq_tuple_add PySem.F.slot_tuple_add PySem.F.entry_tuple_add (PySem.F.args_tuple_add_2 _ _)
   (tuple_addW2 t b vs.toArray ws.toArray n n2 dd dd2 sl sl2 (by simpa using hv) (by simpa using hw) (by rw [List.size_toArray,List.size_toArray];exact hsz)) ⟨ho,ho2,?_⟩
  rw [e]
  exact h2 hw
noncomputable def sIx (n d:Nat):Option Int→Nat
 | none=>d
 | some v=>if v < 0 then (v+(n:Int)).toNat else min v.toNat n
theorem qx (n d:Nat):sIx n d none=d:=rfl
theorem jC (n d k:Nat):sIx n d (some (k:Int))=min k n:=by
 show (if (k:Int) < 0 then ((k:Int)+(n:Int)).toNat else min (k:Int).toNat n)=min k n
 rw [if_neg (by omega),Int.toNat_natCast]
theorem r8 (n d:Nat) (hd:d≤n) (o:Option Int):sIx n d o≤n:=by
 cases o with
 | none=>exact hd
 | some v =>
  show (if v < 0 then (v+(n:Int)).toNat else min v.toNat n)≤n
  by_cases hv:v < 0
  ·rw [if_pos hv];omega
  ·rw [if_neg hv];exact Nat.min_le_right _ _
theorem tE (v:Int) (n d:Nat):(if v < 0 then max (v+(n:Int)) 0 else min v (n:Int))=((sIx n d (some v):Nat):Int):=by
 show (if v < 0 then max (v+(n:Int)) 0 else min v (n:Int))=(((if v < 0 then (v+(n:Int)).toNat else min v.toNat n):Nat):Int)
 by_cases hv:v < 0
 ·simp only [if_pos hv];omega
 ·simp only [if_neg hv];omega
theorem qN (lo hi:Option Int) (n:Nat):Builtin.Slice.sliceAdjust lo hi 1 (n:Int)=(((sIx n 0 lo:Nat):Int),((sIx n n hi:Nat):Int)):=by
 have h1:¬ ((1:Int) < 0):=by omega
 unfold Builtin.Slice.sliceAdjust
 simp only [h1,if_false]
 refine Prod.ext ?_ ?_
 ·cases lo with
  | none=>rfl
  | some v=>exact tE v n 0
 ·cases hi with
  | none=>rfl
  | some v=>exact tE v n n
theorem rE (i j:Nat):Builtin.Slice.slicePlaces (i:Int) (j:Int) 1=j - i:=by
 unfold Builtin.Slice.slicePlaces
 have h1:(1:Int) > 0:=by omega
 simp only [h1,if_true,Int.ediv_one]
 split <;> omega
theorem mh {v:Value} {o:Option Int} {Q:Option Int→Shared→Prop} (p:IsPart v o) (h:Q o s):wpAny (model prog w) A (Builtin.Slice.slicePartIndex v) Q E s:=by
 cases p with
 | none=>exact slicePart_none h
 | int i t=>exact slicePart_int h
theorem fU {sl:Addr} {vl vu:Value} {lo hi:Option Int} {n:Nat} {Q:Int×Int×Nat→Shared→Prop} (hs:s.heap.IsSliceOf sl vl vu .none) (pl:IsPart vl lo) (pu:IsPart vu hi)
  (h:Q (((sIx n 0 lo:Nat):Int),1,sIx n n hi - sIx n 0 lo) s):wpAny (model prog w) A (Builtin.Slice.sliceApplied (.ref sl) (pure (n:Int))) Q E s:=by
 obtain ⟨os,hos,hcs,hds⟩:=id hs
 unfold Builtin.Slice.sliceApplied Builtin.Slice.sliceFields
 refine wpAny_bind (wpAny_bind (wpAny_field hos hds (x:=vl) rfl (wpAny_bind (wpAny_field hos hds (x:=vu) rfl (wpAny_bind (wpAny_field hos hds (x:=.none) rfl (wpAny_pure ?_)))))))
 refine wpAny_bind (slicePart_none ?_)
 show wpAny _ _ (if ((1:Int)==0)=true then _ else _) _ _ s
 rw [if_neg (by decide)]
 refine wpAny_bind (mh pl (wpAny_bind (mh pu (wpAny_bind (wpAny_pure ?_)))))
 show wpAny _ _ (match Builtin.Slice.sliceAdjust lo hi 1 (n:Int) with|(lo,hi)=>pure (lo,(1:Int),Builtin.Slice.slicePlaces lo hi 1)) _ _ s
 rw [qN lo hi n]
 show wpAny _ _ (pure (((sIx n 0 lo:Nat):Int),(1:Int),Builtin.Slice.slicePlaces ((sIx n 0 lo:Nat):Int) ((sIx n n hi:Nat):Int) 1)) _ _ s
 rw [rE]
 exact wpAny_pure h
theorem uY (xs:Array Value) (i k:Nat):((List.range k).filterMap fun (m:Nat)=>xs[((i:Int)+(m:Int)*1).toNat]?).toArray=((xs.toList.drop i).take k).toArray:=by
 have e:(fun (m:Nat)=>xs[((i:Int)+(m:Int)*1).toNat]?)=fun m=>xs[i+m]?:=by
  funext m
  have:((i:Int)+(m:Int)*1).toNat=i+m:=by omega
  rw [this]
 rw [e]
 have:=pick_run xs i k
 rw [List.filterMap_map] at this
 have e2:((fun x=>xs[x]?) ∘ fun x=>i+x)=fun m=>xs[i+m]?:=rfl
 rw [e2] at this
 rw [this]
theorem jB {t sl:Addr} {items:Array Value} {vl vu:Value} {lo hi:Option Int} {Q:Value→Shared→Prop} (ht:IsTup s.heap t items) (hs:s.heap.IsSliceOf sl vl vu .none) (pl:IsPart vl lo) (pu:IsPart vu hi)
  (hw:¬ (sIx items.size 0 lo=0∧sIx items.size items.size hi=items.size))
  (h:Q (.ref s.heap.objs.size) { s with heap:=s.heap.push { cls:=.type "tuple",data:=.seq ((items.toList.drop (sIx items.size 0 lo)).take (sIx items.size items.size hi - sIx items.size 0 lo)).toArray } })
  (hsz:items.size≤sizeLine):wpAny (model prog w) A (getItem (.ref t) (.ref sl)) Q E s:=by
 have htake:sizeOk (.seq ((items.toList.drop (sIx items.size 0 lo)).take (sIx items.size items.size hi - sIx items.size 0 lo)).toArray):=by
  show ((items.toList.drop (sIx items.size 0 lo)).take (sIx items.size items.size hi - sIx items.size 0 lo)).toArray.size≤sizeLine
  rw [List.size_toArray,List.length_take,List.length_drop,Array.length_toList]
  omega
 have hj:sIx items.size items.size hi≤items.size:=r8 _ _ (Nat.le_refl _) hi
 obtain ⟨os,hos,hcs,hds⟩:=id hs
 have hTs:s.TypeIs (.ref sl) "slice":=⟨os,hos,hcs⟩
 unfold getItem
 try with_reducible refine wpAny_holding ?_
 first|refine wpAny_bind (wpAny_pure ?_)|skip
 refine wpAny_bind (wpAny_sequenceKey ht.typeIs (by decide) ?_)
 refine wpAny_bind (wpAny_callSpecial?_slot (name:=Str.ofString "__getitem__") ht.typeIs PyProof.Rows.slot_tuple_getitem
  (wpAny_call_entry PyProof.Rows.slot_tuple_getitem ht.typeIs entry_tuple_getitem ?_ (args_tuple_getitem _ _)))
 show wpAny _ _ (Builtin.Tuple.tupleItemsOf (.ref t) >>= _) _ _ s
 refine wpAny_bind (tupleItemsOf_ ht ?_)
 refine wpAny_bind (wpAny_typeOf hTs ?_)
 rw [if_pos (by decide)]
 refine wpAny_bind (fU hs pl pu ?_)
 have hno:¬ ((((sIx items.size 0 lo:Nat):Int)==0&&(1:Int)==1&&(sIx items.size items.size hi - sIx items.size 0 lo)==items.size)=true):=by
  intro q
  rw [Bool.and_eq_true,Bool.and_eq_true] at q
  have q1:((sIx items.size 0 lo:Nat):Int)=0:=eq_of_beq q.1.1
  have q2:sIx items.size items.size hi - sIx items.size 0 lo=items.size:=eq_of_beq q.2
  exact hw ⟨by omega,by omega⟩
 show wpAny _ _ (if (((sIx items.size 0 lo:Nat):Int)==0&&(1:Int)==1&&(sIx items.size items.size hi - sIx items.size 0 lo)==items.size)=true then _ else _) _ _ s
 rw [if_neg hno,uY]
 first
  | exact wpAny_bind (m:=Builtin.Tuple.tupleExact _) (wpAny_newObj_type (wpAny_pure ⟨_,rfl,wpAny_pure h⟩) htake)
  | exact wpAny_bind (m:=Builtin.Tuple.tupleExact _) (wpAny_newObj_type (wpAny_bind (wpAny_pure (wpAny_pure ⟨_,rfl,wpAny_pure h⟩))) htake)
  | exact wpAny_bind (wpAny_bind (m:=Builtin.Tuple.tupleExact _) (wpAny_newObj_type (wpAny_pure (wpAny_pure ⟨_,rfl,wpAny_pure h⟩)) htake))
  | exact wpAny_bind (wpAny_bind (m:=Builtin.Tuple.tupleExact _) (wpAny_newObj_type (wpAny_pure ⟨_,rfl,wpAny_pure h⟩) htake))
end
end HT
namespace L2
open PySem PySem.Spec PyProof.Rows
noncomputable abbrev TO:=St→Hp→(Option Int→Hp→Prop)→Prop
noncomputable def PO (X:Cx) (e:Option Expr) (t:TO):Prop :=
 ∀ (pins:List (Addr×Obj)) (s:Shared) (σ:St) (H:Hp) (Q:Option Int→Hp→Prop),Inv X pins σ H s→t σ H Q →
  wpAny (model X.prog X.w) X.A (evalPart e X.env) (fun u s'=>∃ o H',Inv X pins σ H' s'∧IsPart u o∧Q o H') X.xe s
noncomputable def tNoPart:TO:=fun _ H Q=>Q none H
section
variable {X:Cx} {e:Expr} {te:TE} {lo hi:Option Expr} {tl th:TO} {pos p2:Pos}
theorem xr:PO X none tNoPart:=by
 intro pins s σ H Q I h
 rw [evalPart_none]
 exact wpAny_pure ⟨none,H,I,.none,h⟩
noncomputable def SlR (X:Cx) (r:V→Option Int→Option Int→Hp→VK→Prop):Prop :=
 ∀ (pins:List (Addr×Obj)) (s:Shared) (σ:St) (H:Hp) (x:V) (v vl vu:Value) (lo hi:Option Int) (sl:Addr) (Q:VK),Inv X pins σ H s→RelV x v→s.heap.IsSliceOf sl vl vu .none→IsPart vl lo→IsPart vu hi→r x lo hi H Q →
  ∃ T id,typeLookup (.type T) "__getitem__"=pure (some (.builtin id))∧s.TypeIs v T∧wpAny (model X.prog X.w) X.A (getItem v (.ref sl)) (EP X pins σ Q) X.xe s
theorem SlR.or {r r':V→Option Int→Option Int→Hp→VK→Prop} (h:SlR X r) (h':SlR X r'):SlR X (fun x lo hi H Q=>r x lo hi H Q∨r' x lo hi H Q):=by
 intro pins s σ H x v vl vu lo hi sl Q I rx hs pl pu q
 rcases q with q|q
 ·exact h pins s σ H x v vl vu lo hi sl Q I rx hs pl pu q
 ·exact h' pins s σ H x v vl vu lo hi sl Q I rx hs pl pu q
noncomputable def tSl (r:V→Option Int→Option Int→Hp→VK→Prop) (te:TE) (tl th:TO):TE:=fun σ H Q=>te σ H fun x H1=>tl σ H1 fun l H2=>th σ H2 fun u H3=>r x l u H3 Q
theorem vh {r:V→Option Int→Option Int→Hp→VK→Prop} (hr:SlR X r) (he:PE X e te) (hl:PO X lo tl) (hu:PO X hi th):PE X (.Subscript e (.Slice lo hi none p2) pos) (tSl r te tl th):=by
 intro pins s σ H Q I h
 refine Subscript_ (thn (he pins s σ H _ I h) fun v s1 hh=>exF hh fun x H1 I1 r1 q1=>?_)
 refine wpAny_Slice (thn (hl pins s1 σ H1 _ I1 q1) fun vl s2 ⟨l,H2,I2,pl,q2⟩=>thn (hu pins s2 σ H2 _ I2 q2) fun vu s3 ⟨u,H3,I3,pu,q3⟩=>?_)
 rw [evalPart_none]
 refine wpAny_pure ?_
 have I4:Inv X pins σ H3 { s3 with heap:=s3.heap.push { cls:=.type "slice",data:=.fields #[vl,vu,.none] } }:=I3.kept (t':=s3.toks) fun b ob q=>Heap.get?_push_of_some _ q
 obtain ⟨T,id,hT,ht,hg⟩:=hr pins { s3 with heap:=s3.heap.push { cls:=.type "slice",data:=.fields #[vl,vu,.none] } } σ H3 x v vl vu l u s3.heap.objs.size Q I4 r1 (Heap.IsSliceOf.new ..) pl pu q3
 show wpAny (model X.prog X.w) X.A (subscriptTail e (.Slice lo hi none p2) v (.ref s3.heap.objs.size)) (EP X pins σ Q) X.xe { s3 with heap:=s3.heap.push { cls:=.type "slice",data:=.fields #[vl,vu,.none] } }
 exact tail_any (ops:=[.ref s3.heap.objs.size,v]) ht hT hg (by with_unfolding_all rfl)
noncomputable def cutV (xs:List V) (lo hi:Option Int):List V:=(xs.drop (HT.sIx xs.length 0 lo)).take (HT.sIx xs.length xs.length hi - HT.sIx xs.length 0 lo)
theorem kt (xs:List V) (lo hi:Option Int):(cutV xs lo hi).length≤xs.length:=by
 unfold cutV
 rw [List.length_take,List.length_drop]
 omega
noncomputable def rSlT (K:PySem.W.Frag):V→Option Int→Option Int→Hp→VK→Prop:=fun x lo hi H Q=>∃ a xs,x=.ref a∧SqT K H a xs ∧
 ¬ (HT.sIx xs.length 0 lo=0∧HT.sIx xs.length xs.length hi=xs.length)∧∀ p,H p=none→Q (.ref p) (upd H p (.tup (cutV xs lo hi)))
theorem xP:SlR X (rSlT X.K):=by
 intro pins s σ H x v vl vu lo hi sl Q I rx hs pl pu h
 obtain ⟨a,xs,rfl,hx,hw,q⟩:=h
 cases rx
 obtain ⟨its,r,ht,hz⟩:=I.tuple hx
 have hlen:its.toArray.size=xs.length:=by rw [List.size_toArray];exact r.length.symm
 refine ⟨"tuple",_,PyProof.Rows.slot_tuple_getitem.lookup,ht.typeIs,?_⟩
 refine HT.jB ht hs pl pu (by rw [hlen];exact hw) ?_ (by rw [hlen];exact hz)
 rw [hlen]
 refine ⟨.ref s.heap.objs.size,_,I.laid (t':=s.toks) (o:=.tup (cutV xs lo hi)) (fun b ob q=>Heap.get?_push_of_some _ q) (Nat.le_refl _) ?_,rfl,q _ (I.hok.fresh (Nat.le_refl _))⟩
 exact ⟨Nat.le_trans (kt xs lo hi) hz,_,(r.drop (HT.sIx xs.length 0 lo)).take (HT.sIx xs.length xs.length hi - HT.sIx xs.length 0 lo),IsTup.new _ _⟩
noncomputable def rCatT (K:PySem.W.Frag):R2:=fun x y H Q=>∃ a b xs ys,x=.ref a∧y=.ref b∧SqT K H a xs∧SqT K H b ys∧xs≠[]∧xs.length+ys.length≤sizeLine ∧
 (ys=[]→Q (.ref a) H)∧(ys≠[]→∀ p,H p=none→Q (.ref p) (upd H p (.tup (xs++ys))))
theorem Vals.nil_iff {xs:List V} {us:List Value} (r:Vals xs us):us=[] ↔ xs=[]:=by
 cases r with
 | nil=>simp
 | cons _ _=>simp
theorem wF:OpR X (binaryOp .Add) (rCatT X.K):=by
 intro pins s σ H x y v u Q I rx ry h
 obtain ⟨a,b,xs,ys,rfl,rfl,ha,hb,hx,hz,q1,q2⟩:=h
 cases rx
 cases ry
 obtain ⟨its,r1,p1,_⟩:=I.tuple ha
 obtain ⟨its2,r2,p2,_⟩:=I.tuple hb
 refine HT.wT p1 p2 (fun z=>hx (r1.nil_iff.mp z)) (fun z=>⟨.ref a,H,I,rfl,q1 (r2.nil_iff.mp z)⟩) (fun z=>?_) (by rw [← r1.length,← r2.length];exact hz)
 refine ⟨.ref s.heap.objs.size,_,I.laid (t':=s.toks) (o:=.tup (xs++ys)) (fun b ob q=>Heap.get?_push_of_some _ q) (Nat.le_refl _) ?_,rfl,q2 (fun w=>z (r2.nil_iff.mpr w)) _ (I.hok.fresh (Nat.le_refl _))⟩
 exact ⟨by rw [List.length_append];exact hz,_,r1.append r2,IsTup.new _ _⟩
end
end L2
namespace L2
open PySem PySem.Spec PyProof.Rows
noncomputable def ixN (n:Nat) (i:Int):Option Nat:=if 0≤i then (if i < n then some i.toNat else none) else if -(n:Int)≤i then some (i+n).toNat else none
noncomputable def atI {α:Type} (xs:List α) (i:Int):Option α:=(ixN xs.length i).bind fun j=>xs[j]?
theorem sI {n:Nat} {i:Int} {j:Nat} (h:ixN n i=some j):seqIndex? i n=some j∧j < n∧-(n:Int)≤i∧i < n:=by
 unfold ixN at h
 by_cases h0:0≤i
 ·rw [if_pos h0] at h
  by_cases h1:i < n
  ·rw [if_pos h1] at h
   have e:i.toNat=j:=Option.some.inj h
   exact ⟨by rw [seqIndex_of h0 h1,e],by omega,by omega,h1⟩
  ·rw [if_neg h1] at h;cases h
 ·rw [if_neg h0] at h
  by_cases h1:-(n:Int)≤i
  ·rw [if_pos h1] at h
   have e:(i+n).toNat=j:=Option.some.inj h
   exact ⟨by rw [seqIndex_neg (by omega) h1,e],by omega,h1,by omega⟩
  ·rw [if_neg h1] at h;cases h
theorem pK {α:Type} {xs:List α} {i:Int} {v:α} (h:atI xs i=some v):∃ j,seqIndex? i xs.length=some j∧xs[j]?=some v∧j < xs.length∧-(xs.length:Int)≤i∧i < xs.length:=by
 unfold atI at h
 cases e:ixN xs.length i with
 | none=>rw [e] at h;cases h
 | some j =>
  rw [e] at h
  obtain ⟨h1,h2,h3,h4⟩:=sI e
  exact ⟨j,h1,h,h2,h3,h4⟩
theorem cr {α:Type} {xs:List α} {j:Nat} {v:α} (h:xs[j]?=some v):atI xs (j:Int)=some v:=by
 have hj:j < xs.length:=(List.getElem?_eq_some_iff.mp h).1
 have e:ixN xs.length (j:Int)=some j:=by
  unfold ixN
  rw [if_pos (by omega),if_pos (by omega)];simp
 unfold atI;rw [e];exact h
noncomputable def PlainIx (b:Expr):Prop:=∀ o i,subscripted b false o i=operate [o,i] (getItem o i)
noncomputable def IxR (X:Cx) (r:R2):Prop :=
 ∀ (value slice:Expr) (pins:List (Addr×Obj)) (s:Shared) (σ:St) (H:Hp) (x y:V) (v u:Value) (Q:VK),Inv X pins σ H s→RelV x v→RelV y u→r x y H Q →
  subscripted slice false v u=operate [v,u] (getItem v u)→wpAny (model X.prog X.w) X.A (subscriptTail value slice v u) (EP X pins σ Q) X.xe s
noncomputable def MtR (X:Cx) (id:String) (r:V→List V→Hp→VK→Prop):Prop :=
 ∀ (pins:List (Addr×Obj)) (s:Shared) (σ:St) (H:Hp) (x:V) (xs:List V) (v:Value) (us:List Value) (Q:VK),Inv X pins σ H s→RelV x v→Vals xs us→r x xs H Q →
  wpAny (model X.prog X.w) X.A (call (.builtin id) (v::us)) (EP X pins σ Q) X.xe s
section
variable {X:Cx} {a b:Expr} {ta tb:TE} {pos:Pos}
theorem IxR.or {r r':R2} (h:IxR X r) (h':IxR X r'):IxR X (fun x y H Q=>r x y H Q∨r' x y H Q):=by
 intro value slice pins s σ H x y v u Q I rx ry q hs
 rcases q with q|q
 ·exact h value slice pins s σ H x y v u Q I rx ry q hs
 ·exact h' value slice pins s σ H x y v u Q I rx ry q hs
theorem Ak {r:R2} (hr:IxR X r) (ha:PE X a ta) (hb:PE X b tb) (hs:PlainIx b):PE X (.Subscript a b pos) (tOp r ta tb):=by
 intro pins s σ H Q I h
 exact Subscript_ (binT ha hb I h fun v u s2 x y H2 I2 rx ry q=>hr a b pins s2 σ H2 x y v u Q I2 rx ry q (hs _ _))
noncomputable def rIxL (K:PySem.W.Frag):R2:=fun x y H Q=>∃ p xs i v,x=.ref p∧y=.int i∧SqL K H p xs∧atI xs i=some v∧Q v H
noncomputable def rIxT (K:PySem.W.Frag):R2:=fun x y H Q=>∃ p xs i v,x=.ref p∧y=.int i∧SqT K H p xs∧atI xs i=some v∧Q v H
noncomputable def rIxS:R2:=fun x y H Q=>∃ z i c,x=.str z∧y=.int i∧z.length≤sizeLine∧atI z.cps.toList i=some c∧Q (.str ⟨#[c]⟩) H
theorem ww:IxR X (rIxL X.K):=by
 intro value slice pins s σ H x y v u Q I rx ry h hs
 obtain ⟨p,xs,i,z,rfl,rfl,hq,he,q⟩:=h
 cases rx
 obtain ⟨t,rfl⟩:=ry
 obtain ⟨its,r,pl,hz⟩:=I.list hq
 obtain ⟨j,h1,h2,h3,h4,h5⟩:=pK he
 obtain ⟨w,ew,rw'⟩:=r.get h2
 have hl:=r.length
 have hn:=line63
 have fin:EP X pins σ Q w s:=⟨z,H,I,rw',q⟩
 by_cases h0:0≤i
 ·have hj:i.toNat=j:=by
   rw [seqIndex_of h0 h5] at h1
   exact Option.some.inj h1
  exact item_listR pl.isList h0 (by omega) (by rw [hj];simpa using ew) fin hs
 ·have hj:(i+(its.toArray.size:Int)).toNat=j:=by
   rw [seqIndex_neg (by omega) h4] at h1
   rw [List.size_toArray,← hl]
   exact Option.some.inj h1
  exact subscriptTail_builtinR (x:=w) pl.isList.typeIs slot_list_getitem.lookup
   (wpAny_getItem_list_neg (Q:=fun r s'=>r=w∧EP X pins σ Q r s') pl.isList (by omega) (by rw [List.size_toArray] <;> omega) (by omega) (by rw [hj];simpa using ew) ⟨rfl,fin⟩) hs
theorem y9:IxR X (rIxT X.K):=by
 intro value slice pins s σ H x y v u Q I rx ry h hs
 obtain ⟨p,xs,i,z,rfl,rfl,hq,he,q⟩:=h
 cases rx
 obtain ⟨t,rfl⟩:=ry
 obtain ⟨its,r,pl,hz⟩:=I.tuple hq
 obtain ⟨j,h1,h2,h3,h4,h5⟩:=pK he
 obtain ⟨w,ew,rw'⟩:=r.get h2
 have hl:=r.length
 have hn:=line63
 have fin:EP X pins σ Q w s:=⟨z,H,I,rw',q⟩
 exact subscriptTail_builtinR (x:=w) pl.typeIs slot_tuple_getitem.lookup
  (getItem_tuple (j:=j) (Q:=fun r s'=>r=w∧EP X pins σ Q r s') pl (by omega) (by omega) (by rw [List.size_toArray,← hl];exact h1) (by simpa using ew) ⟨rfl,fin⟩) hs
theorem zN:IxR X rIxS:=by
 intro value slice pins s σ H x y v u Q I rx ry h hs
 obtain ⟨z,i,c,rfl,rfl,hz,he,q⟩:=h
 obtain ⟨t,rfl⟩:=rx
 obtain ⟨t',rfl⟩:=ry
 obtain ⟨j,h1,h2,h3,h4,h5⟩:=pK he
 have hl:z.cps.toList.length=z.length:=by simp [Str.length]
 rw [hl] at h1 h4 h5
 have hn:=line63
 exact tail_any (typeIs_str s z t) slot_str_getitem.lookup (getItem_str (c:=c) (by
  have e1:decide (i < -(2 ^ 63:Int))=false:=decide_eq_false (by omega)
  have e2:decide (i ≥ 2 ^ 63)=false:=decide_eq_false (by omega)
  rw [e1,e2,Bool.or_false]) (by rw [h1];simpa using h2) ⟨.str ⟨#[c]⟩,H,I.tok _,⟨_,rfl⟩,q⟩) hs
noncomputable def rIx (K:PySem.W.Frag):R2:=fun x y H Q=>rIxL K x y H Q∨rIxT K x y H Q∨rIxS x y H Q
theorem x5:IxR X (rIx X.K):=ww.or (y9.or zN)
theorem qW (its:List Value) (n j:Nat) (u:Value):Obj.mapSeq (·.setIfInBounds j u) { cls:=.type "list",data:=.seq its.toArray n }={ cls:=.type "list",data:=.seq (its.set j u).toArray n }:=by
 simp [Obj.mapSeq]
theorem Inv.lst {pins:List (Addr×Obj)} {σ:St} {H:Hp} {s:Shared} {p:Addr} {xs:List V} (I:Inv X pins σ H s) (h:H p=some (.lst xs)) :
  ∃ (its:List Value) (n:Nat),Vals xs its∧s.heap.get? p=some { cls:=.type "list",data:=.seq its.toArray n }∧xs.length≤sizeLine:=by
 obtain ⟨z,its,n,r,e⟩:=I.hok p _ h
 exact ⟨its,n,r,e,z⟩
theorem Inv.lstUpd {pins:List (Addr×Obj)} {σ:St} {H:Hp} {s:Shared} {p:Addr} {xs ys:List V} {its its':List Value} {n n':Nat} {f:Obj→Obj} (I:Inv X pins σ H s) (h:H p=some (.lst xs))
  (ho:s.heap.get? p=some { cls:=.type "list",data:=.seq its.toArray n }) (hf:f { cls:=.type "list",data:=.seq its.toArray n }={ cls:=.type "list",data:=.seq its'.toArray n' }) (r:Vals ys its') (hz:ys.length≤sizeLine) (t:Nat) (ht:X.tn≤t:=by walk_at "tok") :
  Inv X pins σ (upd H p (.lst ys)) { s with heap:=s.heap.update p f,toks:=t }:=by
 have e:(s.heap.update p f).get? p=some { cls:=.type "list",data:=.seq its'.toArray n' }:=by
  rw [Heap.get?_update_self f ho (by rw [hf] <;> rfl),hf]
 refine I.write (x:=p) (e:=p) (by rw [h];trivial) (.inl rfl) (fun b u hb q=>(Heap.get?_update_other _ _ (Ne.symm hb)).trans q) ⟨_,e⟩ ?_
 exact ⟨hz,its',n',r,e⟩
noncomputable def rSetL:V→V→V→Hp→(Hp→Prop)→Prop:=fun o i v H Q=>∃ p xs k j,o=.ref p∧i=.int k∧H p=some (.lst xs)∧ixN xs.length k=some j∧Q (upd H p (.lst (xs.set j v)))
theorem set_list:PSet X rSetL:=by
 intro pins s σ H o i v ov iv u Q I ro ri rv h
 obtain ⟨p,xs,k,j,rfl,rfl,hp,hj,q⟩:=h
 cases ro
 obtain ⟨t,rfl⟩:=ri
 obtain ⟨its,n,r,ho,hz⟩:=I.lst hp
 obtain ⟨h1,h2,h3,h4⟩:=sI hj
 have hl:=r.length
 have hn:=line63
 have I':Inv X pins σ (upd H p (.lst (xs.set j v))) { s with heap:=s.heap.update p (Obj.mapSeq (·.setIfInBounds j u)) } :=
  I.lstUpd hp ho (qW its n j u) (r.set rv j) (by rw [List.length_set];exact hz) s.toks
 by_cases h0:0≤k
 ·have hk:k.toNat=j:=by
   rw [seqIndex_of h0 h4] at h1
   exact Option.some.inj h1
  exact PySem.W.ki_setAt ho h0 (by omega) (by rw [List.size_toArray,← hl];exact h4) (by rw [hk];exact ⟨_,I',q⟩)
 ·have hk:(k+(its.toArray.size:Int)).toNat=j:=by
   rw [seqIndex_neg (by omega) h3] at h1
   rw [List.size_toArray,← hl]
   exact Option.some.inj h1
  exact PySem.W.ki_setBack ho (by omega) (by rw [List.size_toArray,← hl];exact h3) (by omega) (by rw [hk];exact ⟨_,I',q⟩)
theorem ot (lo hi:Option Int) (n:Nat):(sliceBounds lo hi none n).1=((HT.sIx n 0 lo:Nat):Int)∧(sliceBounds lo hi none n).2.1=((HT.sIx n n hi:Nat):Int)∧(sliceBounds lo hi none n).2.2=1:=by
 refine ⟨?_,?_,rfl⟩
 ·cases lo with
  | none=>simp [sliceBounds,HT.sIx]
  | some i =>
   simp only [sliceBounds,HT.sIx,Option.getD_none,show (1:Int) > 0 by decide,if_true]
   by_cases h:i < 0
   ·simp only [h,if_true] <;> omega
   ·simp only [h,if_false] <;> omega
 ·cases hi with
  | none=>simp [sliceBounds,HT.sIx]
  | some i =>
   simp only [sliceBounds,HT.sIx,Option.getD_none,show (1:Int) > 0 by decide,if_true]
   by_cases h:i < 0
   ·simp only [h,if_true] <;> omega
   ·simp only [h,if_false] <;> omega
theorem mz (its:List Value) (lo hi:Option Int):slicePick its.toArray lo hi none=((its.drop (HT.sIx its.length 0 lo)).take (HT.sIx its.length its.length hi - HT.sIx its.length 0 lo)).toArray:=by
 obtain ⟨h1,h2,h3⟩:=ot lo hi its.toArray.size
 unfold slicePick
 rw [h1,h2,h3]
 simp only [sliceRange_one,pick_run,List.size_toArray] <;> rfl
noncomputable def rSlL (K:PySem.W.Frag):V→Option Int→Option Int→Hp→VK→Prop:=fun x lo hi H Q=>∃ a xs,x=.ref a∧SqL K H a xs∧∀ p,H p=none→Q (.ref p) (upd H p (.lst (cutV xs lo hi)))
theorem wJ:SlR X (rSlL X.K):=by
 intro pins s σ H x v vl vu lo hi sl Q I rx hs pl pu h
 obtain ⟨a,xs,rfl,hx,q⟩:=h
 cases rx
 obtain ⟨its,r,ht,hz⟩:=I.list hx
 have hlen:=r.length
 refine ⟨"list",_,slot_list_getitem.lookup,ht.isList.typeIs,?_⟩
 refine wpAny_getItem_list_slice ht.isList hs pl pu .none (by simp) ?_ (by rw [List.size_toArray] <;> omega)
 rw [mz,← hlen]
 refine ⟨.ref s.heap.objs.size,_,I.laid (t':=s.toks) (o:=.lst (cutV xs lo hi)) (fun b ob q=>Heap.get?_push_of_some _ q) (Nat.le_refl _) ?_,rfl,q _ (I.hok.fresh (Nat.le_refl _))⟩
 exact ⟨Nat.le_trans (kt xs lo hi) hz,_,0,(r.drop (HT.sIx xs.length 0 lo)).take (HT.sIx xs.length xs.length hi - HT.sIx xs.length 0 lo),Heap.get?_push_size _ rfl⟩
noncomputable def flatV:V→Bool
 | .non=>true
 | .bl _=>true
 | .int _=>true
 | .str _=>true
 | _=>false
noncomputable def eqV:V→V→Bool
 | .non,.non=>true
 | .bl a,.bl b=>a==b
 | .bl a,.int b=>(if a then 1 else 0)==b
 | .int a,.bl b=>a==(if b then 1 else 0)
 | .int a,.int b=>a==b
 | .str a,.str b=>a==b
 | _,_=>false
theorem zM {A:Around} {s:Shared} {y x:V} {u v:Value} (ry:RelV y u) (rx:RelV x v) (fy:flatV y=true) (fx:flatV x=true):SeqAt.EqAt A s u v (eqV y x):=by
 cases y with
 | non =>
  cases ry
  cases x with
  | non=>cases rx;exact SeqAt.EqAt.same _
  | bl b=>cases rx;exact SeqAt.EqAt.none_bool b
  | int b=>obtain ⟨t,rfl⟩:=rx;exact SeqAt.EqAt.none_int b t
  | str b=>obtain ⟨t,rfl⟩:=rx;exact SeqAt.EqAt.none_str b t
  | _=>exact absurd (show false=true from fx) Bool.false_ne_true
 | bl a =>
  cases ry
  cases x with
  | non=>cases rx;exact SeqAt.EqAt.bool_none a
  | bl b=>cases rx;exact SeqAt.EqAt.bool_bool a b
  | int b=>obtain ⟨t,rfl⟩:=rx;exact SeqAt.EqAt.bool_int a b t
  | str b=>obtain ⟨t,rfl⟩:=rx;exact SeqAt.EqAt.bool_str a b t
  | _=>exact absurd (show false=true from fx) Bool.false_ne_true
 | int a =>
  obtain ⟨t',rfl⟩:=ry
  cases x with
  | non=>cases rx;exact SeqAt.EqAt.int_none a t'
  | bl b=>cases rx;exact SeqAt.EqAt.int_bool a t' b
  | int b=>obtain ⟨t,rfl⟩:=rx;exact SeqAt.EqAt.int_int a t' b t
  | str b=>obtain ⟨t,rfl⟩:=rx;exact SeqAt.EqAt.int_str a t' b t
  | _=>exact absurd (show false=true from fx) Bool.false_ne_true
 | str a =>
  obtain ⟨t',rfl⟩:=ry
  cases x with
  | non=>cases rx;exact SeqAt.EqAt.str_none a t'
  | bl b=>cases rx;exact SeqAt.EqAt.str_bool a t' b
  | int b=>obtain ⟨t,rfl⟩:=rx;exact SeqAt.EqAt.str_int a t' b t
  | str b=>obtain ⟨t,rfl⟩:=rx;exact SeqAt.EqAt.str_str a t' b t
  | _=>exact absurd (show false=true from fx) Bool.false_ne_true
 | _=>exact absurd (show false=true from fy) Bool.false_ne_true
noncomputable def eqU (x:V) (u:Value):Bool:=match u with
 | .none=>eqV .non x
 | .bool b=>eqV (.bl b) x
 | .int i _=>eqV (.int i) x
 | .str z _=>eqV (.str z) x
 | _=>false
theorem uj {x y:V} {u:Value} (r:RelV y u) (f:flatV y=true):eqU x u=eqV y x:=by
 cases y with
 | non=>cases r;rfl
 | bl b=>cases r;rfl
 | int i=>obtain ⟨t,rfl⟩:=r;rfl
 | str z=>obtain ⟨t,rfl⟩:=r;rfl
 | _=>exact absurd (show false=true from f) Bool.false_ne_true
theorem pW {A:Around} {s:Shared} {x:V} {v:Value} (rx:RelV x v) (fx:flatV x=true):∀ {xs:List V} {us:List Value},Vals xs us→xs.all flatV=true→∀ u∈us,SeqAt.EqAt A s u v (eqU x u)
 | _,_,.nil,_=>fun u hu=>by cases hu
 | y::xs,u::us,.cons r t,f=>fun u' hu=>by
  rw [List.all_cons,Bool.and_eq_true] at f
  rcases List.mem_cons.mp hu with rfl|hu
  ·rw [uj r f.1];exact zM r rx f.1 fx
  ·exact pW rx fx t f.2 u' hu
theorem ou:CallR X (.builtin "len") (fun xs H Q=>∃ p ys,xs=[.ref p]∧(SqL X.K H p ys∨SqT X.K H p ys)∧Q (.int ys.length) H):=by
 intro pins s σ H xs us Q I r h
 obtain ⟨p,ys,rfl,hq,q⟩:=h
 obtain ⟨u,rfl,rx⟩:=vals1 r
 cases rx
 have hn:=line63
 rcases hq with hq|hq
 ·obtain ⟨its,r',pl,hz⟩:=I.list hq
  have hlen:=r'.length
  exact Calls.call_len_list pl.isList (by simp only [List.size_toArray] <;> omega) ⟨.int ys.length,H,I.tok _,⟨s.toks+1,by rw [List.size_toArray,hlen]⟩,q⟩
 ·obtain ⟨its,r',pl,hz⟩:=I.tuple hq
  have hlen:=r'.length
  exact len_tuple pl (by simp only [List.size_toArray] <;> omega) ⟨.int ys.length,H,I.tok _,⟨s.toks+1,by rw [List.size_toArray,hlen]⟩,q⟩
theorem oA:CallR X (.builtin "len") (fun xs H Q=>∃ z,xs=[.str z]∧z.length≤sizeLine∧Q (.int z.length) H):=by
 intro pins s σ H xs us Q I r h
 obtain ⟨z,rfl,hz,q⟩:=h
 obtain ⟨u,rfl,t,rfl⟩:=vals1 r
 have hn:=line63
 exact len_str (by omega) ⟨.int z.length,H,I.tok _,⟨_,rfl⟩,q⟩
theorem CallR.or {f:Value} {r r':List V→Hp→VK→Prop} (h:CallR X f r) (h':CallR X f r'):CallR X f (fun xs H Q=>r xs H Q∨r' xs H Q):=by
 intro pins s σ H xs us Q I rs q
 rcases q with q|q
 ·exact h pins s σ H xs us Q I rs q
 ·exact h' pins s σ H xs us Q I rs q
theorem nX:CallR X (.type "list") (fun xs H Q=>∃ p ys,xs=[.ref p]∧(SqL X.K H p ys∨SqT X.K H p ys)∧∀ l,H l=none→Q (.ref l) (upd H l (.lst ys))):=by
 intro pins s σ H xs us Q I r h
 obtain ⟨p,ys,rfl,hq,q⟩:=h
 obtain ⟨u,rfl,rx⟩:=vals1 r
 cases rx
 have fin:∀ (its:List Value),Vals ys its→ys.length≤sizeLine→∀ (h':Heap) (c':Nat),(∀ b o',s.heap.get? b=some o'→h'.get? b=some o') →
   h'.get? s.heap.objs.size=some { cls:=.type "list",dict:=none,data:=.seq its.toArray c',slots:=#[] }→EP X pins σ Q (.ref s.heap.objs.size) { s with heap:=h' }:=fun its r' hz h' c' kp e =>
  ⟨.ref s.heap.objs.size,_,I.laid (t':=s.toks) kp (Nat.le_refl _) (show ObjOk X.prog X.w _ h' _ (.lst ys) from ⟨hz,its,c',r',e⟩),rfl,q _ (I.hok.fresh (Nat.le_refl _))⟩
 rcases hq with hq|hq
 ·obtain ⟨its,r',pl,hz⟩:=I.list hq
  have hlen:=r'.length
  obtain ⟨o,ho,hc,n,hd⟩:=pl.isList
  exact call_list_seq p (.inl rfl) ho hc hd (fun h' c' kp e=>fin its r' hz h' c' kp e) (by simp only [List.size_toArray] <;> omega)
 ·obtain ⟨its,r',pl,hz⟩:=I.tuple hq
  have hlen:=r'.length
  obtain ⟨o,ho,hc,n,hd⟩:=pl
  exact call_list_seq p (.inr rfl) ho hc hd (fun h' c' kp e=>fin its r' hz h' c' kp e) (by simp only [List.size_toArray] <;> omega)
theorem mI:CallR X (.type "tuple") (fun xs H Q=>∃ p ys,xs=[.ref p]∧((SqL X.K H p ys∧∀ l,H l=none→Q (.ref l) (upd H l (.tup ys)))∨(SqT X.K H p ys∧Q (.ref p) H))):=by
 intro pins s σ H xs us Q I r h
 obtain ⟨p,ys,rfl,h⟩:=h
 obtain ⟨u,rfl,rx⟩:=vals1 r
 cases rx
 rcases h with ⟨hq,q⟩|⟨hq,q⟩
 ·obtain ⟨its,r',pl,hz⟩:=I.list hq
  have hlen:=r'.length
  refine call_tuple_list pl.isList (fun h' kp=>?_) (by simp only [List.size_toArray] <;> omega)
  have I1:Inv X pins σ H { s with heap:=h' }:=I.kept (t':=s.toks) kp
  have I2:Inv X pins σ (upd H h'.objs.size (.tup ys)) { s with heap:=h'.push { cls:=.type "tuple",data:=.seq its.toArray } } :=
   I1.laid (t':=s.toks) (fun b o e=>Heap.get?_push_of_some _ e) (Nat.le_refl _) (show ObjOk X.prog X.w _ _ _ (.tup ys) from ⟨hz,its,r',IsTup.new _ _⟩)
  exact ⟨.ref h'.objs.size,_,I2,rfl,q _ (I1.hok.fresh (Nat.le_refl _))⟩
 ·obtain ⟨its,r',pl,hz⟩:=I.tuple hq
  exact call_tuple_same pl ⟨.ref p,H,I,rfl,q⟩
noncomputable def tyV (K:PySem.W.Frag) (T:String) (x:V) (H:Hp):Prop:=match x with
 | .str _=>T="str"
 | .int _=>T="int"
 | .ref p=>(T="list"∧∃ xs,SqL K H p xs)∨(T="tuple"∧∃ o,K.lookup p=some o∧o.cls=.type "tuple"∧o.dict=none) ∨
   (T="dict"∧((∃ kvs,H p=some (.dK kvs))∨∃ kvs,H p=some (.dT kvs)))∨(T="set"∧∃ S n,H p=some (.set S n))
 | _=>False
theorem v9 {pins:List (Addr×Obj)} {σ:St} {H:Hp} {s:Shared} {T:String} {x:V} {v:Value} (I:Inv X pins σ H s) (r:RelV x v) (ty:tyV X.K T x H) :
  s.TypeIs v T∧∀ a,v=.ref a→∃ ob,s.heap.get? a=some ob∧ob.dict=none:=by
 cases x with
 | str z =>
  obtain ⟨t,rfl⟩:=r
  cases (show T="str" from ty)
  exact ⟨typeIs_str s z t,fun _ e=>nomatch e⟩
 | int i =>
  obtain ⟨t,rfl⟩:=r
  cases (show T="int" from ty)
  exact ⟨typeIs_int s i t,fun _ e=>nomatch e⟩
 | ref p =>
  cases r
  rcases ty with ⟨rfl,xs,hq⟩|⟨rfl,o,hk,hc,hd⟩|⟨rfl,hk⟩|⟨rfl,S,n,hk⟩
  ·obtain ⟨its,_,pl,_⟩:=I.list hq
   refine ⟨pl.isList.typeIs,fun a e=>?_⟩
   cases e
   obtain ⟨o,n,e,c,hd,_⟩:=pl
   exact ⟨o,e,hd⟩
  ·refine ⟨⟨o,I.kIn p o hk,hc⟩,fun a e=>?_⟩
   cases e
   exact ⟨o,I.kIn _ o hk,hd⟩
  ·have z:∃ o,s.heap.get? p=some o∧o.ExactDict:=by
    rcases hk with ⟨kvs,hk⟩|⟨kvs,hk⟩
    ·obtain ⟨_,_,_,_,o,_,_,e,ex,_⟩:=I.hok p _ hk
     exact ⟨o,e,ex⟩
    ·obtain ⟨_,_,_,_,o,_,_,e,ex,_⟩:=I.hok p _ hk
     exact ⟨o,e,ex⟩
   obtain ⟨o,e,ex⟩:=z
   refine ⟨⟨o,e,ex.1⟩,fun a e2=>?_⟩
   cases e2
   exact ⟨o,e,ex.2.1⟩
  ·obtain ⟨o,_,_,_,e,ex,_⟩:=I.hok p _ hk
   refine ⟨⟨o,e,ex.1⟩,fun a e2=>?_⟩
   cases e2
   exact ⟨o,e,ex.2.1⟩
 | _=>exact False.elim ty
noncomputable def tBM0 (K:PySem.W.Frag) (T:String) (r:V→List V→Hp→VK→Prop) (to:TE):TE:=fun σ H Q=>to σ H fun x H1=>tyV K T x H1∧r x [] H1 Q
noncomputable def tBM (K:PySem.W.Frag) (T:String) (r:V→List V→Hp→VK→Prop) (to:TE) (t:TA):TE:=fun σ H Q=>to σ H fun x H1=>tyV K T x H1∧t σ H1 fun xs H2=>r x xs H2 Q
variable {o e:Expr} {es:List Expr} {to:TE} {t:TA} {name:Str} {apos cpos:Pos} {T id:String} {r:V→List V→Hp→VK→Prop}
theorem xU (pa:PlainAttrs T) (slot:Slot T name id) (hty:typeOf (.builtin id)=pure (.type "method_descriptor")) (hm:MtR X id r) (ho:PE X o to)
  (hbase:attributeBase o name X.env (eval o X.env)=eval o X.env:=by rfl) (hline:(apos.endLine==cpos.line)=true:=by rfl):PE X (.Call (.Attribute o name apos) [] [] cpos) (tBM0 X.K T r to):=by
 intro pins s σ H Q I h
 refine wpAny_Call_method0_late hbase hline (thn (ho pins s σ H _ I h) fun v s1 ⟨x,H1,I1,r1,ty,q1⟩=>?_)
 obtain ⟨h1,h2⟩:=v9 I1 r1 ty
 exact ⟨T,id,pa,slot,hty,h1,h2,Calls.callWith_builtin rfl (PySem.evalArgs_none (hm pins s1 σ H1 x [] v [] Q I1 r1 .nil q1))⟩
theorem AF (pa:PlainAttrs T) (slot:Slot T name id) (hty:typeOf (.builtin id)=pure (.type "method_descriptor")) (hm:MtR X id r) (ho:PE X o to) (ha:PA X (e::es) t)
  (hbase:attributeBase o name X.env (eval o X.env)=eval o X.env:=by rfl)
  (hfew:((backTo cpos (starEach (e::es) X.env)).all (fun x=>!x.1)&&(backToKw cpos (keywordEach [] X.env)).all (fun x=>x.1.isSome)
   && decide ((e::es).length+([]:List Keyword).length+(if ([]:List Keyword).isEmpty then 0 else 1) < 30))=true:=by rfl)
  (hline:(apos.endLine==cpos.line)=true:=by rfl) (hs:starEach (e::es) X.env=(false,eval e X.env)::starEach es X.env:=by rfl) (hplain:(backTo cpos (starEach es X.env)).any (·.1)=false:=by rfl) :
  PE X (.Call (.Attribute o name apos) (e::es) [] cpos) (tBM X.K T r to t):=by
 intro pins s σ H Q I h
 refine wpAny_Call_method_late hbase hfew hline rfl (thn (ho pins s σ H _ I h) fun v s1 ⟨x,H1,I1,r1,ty,q1⟩=>?_)
 obtain ⟨h1,h2⟩:=v9 I1 r1 ty
 refine ⟨T,id,pa,slot,hty,h1,h2,?_⟩
 have hA:=ha cpos pins s1 σ H1 _ I1 q1
 rw [hs] at hA ⊢
 refine Calls.callWith_builtin (by show (false||(backTo cpos (starEach es X.env)).any (·.1))=false;rw [hplain] <;> rfl) (Calls.evalArgs_plain ?_)
 exact thn hA fun us s2 hh=>exF hh fun vs H2 I2 r2 q2=>hm pins s2 σ H2 x vs v us Q I2 r1 r2 q2
end
end L2
namespace L2
open PySem PySem.Spec PyProof.Rows
noncomputable def MtM (X:Cx) (id:String) (r:V→List V→Hp→VK→Prop):Prop :=
 ∀ (pins:List (Addr×Obj)) (s:Shared) (σ:St) (H:Hp) (x:V) (xs:List V) (v:Value) (us:List Value) (Q:VK),Inv X pins σ H s→RelV x v→Vals xs us→r x xs H Q →
  wpAny (model X.prog X.w) X.A (call (.builtin id) (v::us)) (EP X pins σ Q) X.xe s
theorem Vals.one:∀ {x:V} {us:List Value},Vals [x] us→∃ u,us=[u]∧RelV x u
 | _,_,.cons r .nil=>⟨_,rfl,r⟩
theorem Vals.zero:∀ {us:List Value},Vals [] us→us=[]
 | _,.nil=>rfl
section
variable {X:Cx} {pins:List (Addr×Obj)} {σ:St} {H:Hp} {s:Shared} {l b:Addr} {xs ys zs:List V}
theorem Inv.lset {its its':List Value} {n:Nat} {f:Array Value→Array Value} {t':Nat} (I:Inv X pins σ H s) (hH:H l=some (.lst xs))
  (e:s.heap.get? l=some { cls:=.type "list",data:=.seq its.toArray n }) (hf:f its.toArray=its'.toArray) (hv:Vals ys its') (hz:ys.length≤sizeLine) (ht:X.tn≤t':=by walk_at "tok") :
  Inv X pins σ (upd H l (.lst ys)) { s with heap:=s.heap.update l (Obj.mapSeq f),toks:=t' }:=by
 have q:=PySem.IsL.update e f
 rw [hf] at q
 refine I.write (x:=l) (e:=l) (by rw [hH];exact trivial) (.inl rfl) (fun b' u hb hu=>(Heap.get?_update_other s.heap (Obj.mapSeq f) (Ne.symm hb)).trans hu) ⟨_,q⟩ ?_
 exact ⟨hz,its',_,hv,q⟩
theorem Inv.lnew {its:List Value} {t':Nat} (I:Inv X pins σ H s) (hv:Vals ys its) (hz:ys.length≤sizeLine) (ht:X.tn≤t':=by walk_at "tok") :
  Inv X pins σ (upd H s.heap.objs.size (.lst ys)) { s with heap:=s.heap.push { cls:=.type "list",data:=.seq its.toArray },toks:=t' } :=
 I.laid (fun _ _ q=>Heap.get?_push_of_some _ q) (Nat.le_refl _) ⟨hz,its,0,hv,Heap.get?_push_size _ rfl⟩
theorem Inv.fresh (I:Inv X pins σ H s):H s.heap.objs.size=none:=I.hok.fresh (Nat.le_refl _)
theorem Inv.lstM (I:Inv X pins σ H s) (hH:H l=some (.lst xs)):xs.length≤sizeLine∧∃ (its:List Value) (n:Nat),Vals xs its∧xs.length=its.length∧s.heap.get? l=some { cls:=.type "list",data:=.seq its.toArray n }:=by
 obtain ⟨z,its,n,r,e⟩:=I.hok l _ hH
 exact ⟨z,its,n,r,r.length,e⟩
theorem notLongL {n:Nat} (h:n≤sizeLine):Builtin.List.listTooLong n=false:=by
 unfold Builtin.List.listTooLong
 exact decide_eq_false (by omega)
end
section
variable {X:Cx}
noncomputable def rAppend:V→List V→Hp→VK→Prop:=fun x vs H Q=>∃ l xs y,x=.ref l∧vs=[y]∧H l=some (.lst xs)∧xs.length < sizeLine∧Q .non (upd H l (.lst (xs++[y])))
theorem nL:MtM X "list.append" rAppend:=by
 intro pins s σ H x vs v us Q I rx rv h
 obtain ⟨l,xs,y,rfl,rfl,hH,hz,q⟩:=h
 cases rx
 obtain ⟨u,rfl,ru⟩:=rv.one
 obtain ⟨z,its,n,r,hl,e⟩:=I.lstM hH
 refine call_meets F.slot_list_append ⟨_,e,rfl⟩ F.entry_list_append (F.args_list_append_2 _ _) (PySem.list_append l its.toArray n u (by rw [List.size_toArray];omega)) ⟨e,?_⟩
 refine ⟨.non,_,I.lset (its':=its++[u]) hH e (by simp) (r.append (.cons ru .nil)) ?_,rfl,q⟩
 rw [List.length_append,List.length_singleton]
 omega
noncomputable def rClear:V→List V→Hp→VK→Prop:=fun x vs H Q=>∃ l xs,x=.ref l∧vs=[]∧H l=some (.lst xs)∧Q .non (upd H l (.lst []))
theorem uI:MtM X "list.clear" rClear:=by
 intro pins s σ H x vs v us Q I rx rv h
 obtain ⟨l,xs,rfl,rfl,hH,q⟩:=h
 cases rx
 have hus:=rv.zero
 subst hus
 obtain ⟨z,its,n,r,hl,e⟩:=I.lstM hH
 refine call_meets F.slot_list_clear ⟨_,e,rfl⟩ F.entry_list_clear (F.args_list_clear_1 _) (AutoSeq1.list_clear_list_0 l its.toArray n (by rw [List.size_toArray];omega)) ⟨e,?_⟩
 exact ⟨.non,_,I.lset (its':=[]) (ys:=[]) hH e rfl .nil (Nat.zero_le _),rfl,q⟩
end
section
variable {prog:Program} {w:World} {A:Around} {E:Value→Shared→Prop} {s:Shared}
set_option maxRecDepth 100000 in
end
section
variable {X:Cx}
end
end L2
namespace L2
open PySem PySem.Spec PyProof.Rows
section
variable {κ:Type} [DecidableEq κ]
noncomputable def valV (kvs:List (κ×V)) (k:κ):Option V:=(kvs.find? fun kv=>decide (kv.1=k)).map (·.2)
noncomputable def putK (kvs:List (κ×V)) (k:κ) (v:V):List (κ×V) :=
 if (kvs.any fun kv=>decide (kv.1=k))=true then kvs.map (fun kv=>if kv.1=k then (kv.1,v) else kv) else kvs++[(k,v)]
noncomputable def dropK (kvs:List (κ×V)) (k:κ):List (κ×V):=kvs.filter fun kv=>decide (kv.1≠k)
theorem KV.any {kvs:List (κ×V)} {vs:List (κ×Value)} (r:KV kvs vs) (k:κ):(kvs.any fun kv=>decide (kv.1=k))=vs.any fun kv=>decide (kv.1=k):=by
 unfold KV at r
 induction r with
 | nil=>rfl
 | cons h t ih=>rw [List.any_cons,List.any_cons,ih,h.1]
theorem KV.drop {kvs:List (κ×V)} {vs:List (κ×Value)} (r:KV kvs vs) (k:κ):KV (dropK kvs k) (without vs k):=by
 unfold KV at r ⊢
 unfold dropK without
 induction r with
 | nil=>exact .nil
 | @cons p q ps qs h t ih =>
  obtain ⟨h1,h2⟩:=h
  rw [List.filter_cons,List.filter_cons]
  by_cases e:p.1=k
  ·have a:¬ decide (p.1≠k)=true:=by simp [e]
   have b:¬ decide (q.1≠k)=true:=by simp [h1.symm.trans e]
   rw [if_neg a,if_neg b];exact ih
  ·have e':¬ q.1=k:=fun z=>e (h1.trans z)
   have a:decide (p.1≠k)=true:=by simp [e]
   have b:decide (q.1≠k)=true:=by simp [e']
   rw [if_pos a,if_pos b];exact .cons ⟨h1,h2⟩ ih
theorem KV.keys {kvs:List (κ×V)} {vs:List (κ×Value)} (r:KV kvs vs):kvs.map (·.1)=vs.map (·.1):=by
 unfold KV at r
 induction r with
 | nil=>rfl
 | cons h t ih=>rw [List.map_cons,List.map_cons,ih,h.1]
theorem KV.length {kvs:List (κ×V)} {vs:List (κ×Value)} (r:KV kvs vs):kvs.length=vs.length:=Paired.length r
end
section
variable {P:Program} {w:World} {H:Hp} {h:Heap} {a:Addr}
end
noncomputable def DGet (H:Hp) (a:Addr) (y:V) (r:Option V):Prop :=
 (∃ kvs k,Rd H a (.dK kvs)∧y=kV k∧r=valV kvs k)∨∃ kvs k b,Rd H a (.dT kvs)∧y=.ref b∧H b=some (.tup (k.map kV))∧r=valV kvs k
noncomputable def DPut (H:Hp) (a:Addr) (y v:V) (H':Hp):Prop :=
 (∃ kvs k,H a=some (.dK kvs)∧y=kV k∧kvs.length < sizeLine∧H'=upd H a (.dK (putK kvs k v))) ∨
 ∃ kvs k b,H a=some (.dT kvs)∧y=.ref b∧H b=some (.tup (k.map kV))∧kvs.length < sizeLine∧H'=upd H a (.dT (putK kvs k v))
theorem DGet.k {H:Hp} {a:Addr} {kvs:List (Key×V)} {k:Key} (e:H a=some (.dK kvs)):DGet H a (kV k) (valV kvs k):=.inl ⟨kvs,k,.inl e,rfl,rfl⟩
theorem DGet.t {H:Hp} {a b:Addr} {kvs:List (List Key×V)} {k:List Key} (e:H a=some (.dT kvs)) (eb:H b=some (.tup (k.map kV))):DGet H a (.ref b) (valV kvs k):=.inr ⟨kvs,k,b,.inl e,rfl,eb,rfl⟩
theorem DPut.k {H:Hp} {a:Addr} {kvs:List (Key×V)} {k:Key} {v:V} (e:H a=some (.dK kvs)) (hl:kvs.length < sizeLine):DPut H a (kV k) v (upd H a (.dK (putK kvs k v))):=.inl ⟨kvs,k,e,rfl,hl,rfl⟩
theorem DPut.t {H:Hp} {a b:Addr} {kvs:List (List Key×V)} {k:List Key} {v:V} (e:H a=some (.dT kvs)) (eb:H b=some (.tup (k.map kV))) (hl:kvs.length < sizeLine) :
  DPut H a (.ref b) v (upd H a (.dT (putK kvs k v))):=.inr ⟨kvs,k,b,e,rfl,eb,hl,rfl⟩
section
variable {X:Cx} {pins:List (Addr×Obj)} {σ:St} {H:Hp} {s:Shared} {a:Addr} {y v:V} {u r:Value} {o:Option V} {A:Around} {E:Value→Shared→Prop}
end
section
variable {X:Cx} {pins:List (Addr×Obj)} {σ:St} {H:Hp} {s:Shared} {a:Addr} {kvs:List (Key×V)} {k:Key} {u:Value} {A:Around} {E:Value→Shared→Prop}
end
section
variable {X:Cx} {o i e value:Expr} {pos pos' tpos:Pos} {td ty tv:TE}
end
section
variable {X:Cx} {pos:Pos}
end
section
variable {X:Cx} {pins:List (Addr×Obj)} {σ:St} {H:Hp} {s:Shared} {a:Addr} {y d:V} {u r:Value} {o:Option V} {A:Around} {E:Value→Shared→Prop}
end
section
variable {X:Cx} {o e f:Expr} {apos cpos:Pos} {td ty tx:TE}
end
section
variable {X:Cx} {pins:List (Addr×Obj)} {σ:St} {H:Hp} {s:Shared} {a:Addr} {kvs:List (Key×V)} {A:Around} {E:Value→Shared→Prop}
end
section
variable {X:Cx} {pins:List (Addr×Obj)} {σ:St} {H:Hp} {s:Shared} {a:Addr} {y:V} {u:Value} {A:Around} {E:Value→Shared→Prop}
end
end L2
namespace Att
open PySem PySem.W PySem.Calls PyProof.Rows
theorem kX {P:Params} {h:Heap}:∀ (ns:List Int) (vs:List Value),WellAll P h vs (ns.map WData.int)→IntsAre vs ns:=by
 intro ns
 induction ns with
 | nil =>
  intro vs w
  rw [List.map_nil] at w
  cases w
  exact .nil
 | cons n ns ih =>
  intro vs w
  rw [List.map_cons] at w
  cases w with
  | cons a b =>
   cases a
   exact .cons _ _ (ih _ b)
theorem sA {l:OpenLaw} {n:Nat} (hn:l.most=some n) {P:Params} {h:Heap} {args:List WData} {vals:List Value}
  (hpre:l.row.toRowW.claim.pre args=true) (hwl:WellAll P h vals args) :
  ∃ a vs ns,vals=[Value.ref a]∧args=[WData.list (ns.map WData.int)]∧h.get? a=some { cls:=.type "list",data:=.seq vs.toArray }∧IntsAre vs ns∧ns.length≤n:=by
 have hsh:WShape.hasAll [] args [.list .int]=true:=(pre_splitW hpre).1
 have hc:l.pre.holds [] { args:=args }=true:=(pre_splitW hpre).2
 obtain ⟨d,r,rfl,h1,h2⟩:=hasAllW_cons hsh
 obtain rfl:=hasAllW_nil h2
 obtain ⟨xs,rfl,h3⟩:=hasW_list h1
 obtain ⟨ns,rfl⟩:=items_int h3
 have hlen:ns.length≤n:=by
  unfold OpenLaw.pre at hc
  have h4:(WTm.not (.lt (.lit (.int (n:Int))) (.len (.arg 0)))).holds [] { args:=[.list (ns.map .int)] }=true:=by
   have h4:=(holds_andW hc).1
   rw [hn] at h4
   exact h4
  have h5:=condW_of h4 (w_not (w_lt w_lit (w_len_list (w_arg rfl))))
  rw [List.length_map] at h5
  refine Nat.le_of_not_lt fun q=>?_
  have q':(n:Int) < ((ns.length:Nat):Int):=by omega
  first
   | (rw [decide_eq_true q'] at h5;exact absurd h5 (by decide))
   | (simp at h5;omega)
 cases hwl with
 | cons w1 w2 =>
  cases w2
  cases w1 with
  | list ho hall=>exact ⟨_,_,ns,rfl,rfl,ho,kX ns _ hall,hlen⟩
theorem sG (l:OpenLaw) (args:List WData):l.row.toRowW.claim.post args (.bool true) args=true :=
 postW_of (r:=l.row.toRowW) (X:=(true==true))
  (show WShape.has [] (.bool true) .bool=true by first|rfl|decide|simp [WShape.has,WShape.arms,WShape.armsAll])
  (show (WTm.eq .res (.lit (.bool true))).value [] { args:=args,res:=some (.bool true),after:=args }=some (.bool (true==true)) from w_eq_bool (w_res rfl) w_lit) rfl
theorem oM {l:OpenLaw} {n:Nat} {q:Program} {loose:List Str} {XP:(Str→Option Value)→Heap→Prop} {YP:World→Heap→Prop} {d:DefRec}
  (hn:l.most=some n) (hdf:d.params.defaults=[])
  (call:∀ (w:World) (s₀ s₁:Shared) (mg mb:Str→Option Value) (fa:Addr) (o:Obj) (pm cd doc:Value) (a:Addr) (vs:List Value) (ns:List Int),
   Ground q loose [] XP w s₀ mg mb s₁.heap→YP w s₁.heap →
   s₁.heap.get? fa=some o→o.data=.func (docDef d.name d.params d.body d.scope pm cd doc)→s₁.heap.CodeRec cd d.name→mg d.name=some (.ref fa) →
   s₁.heap.get? a=some { cls:=.type "list",data:=.seq vs.toArray }→IntsAre vs ns→ns.length≤n→s₁.gens=#[] →
   codeAny (model l.prog w) callerA (.call (.ref fa) ⟨[.ref a],[]⟩) (fun r s'=>r=.ok (.ret (.bool true))∧OldK s₁.heap s'.heap∧s'.os=s₁.os∧AllBare s'.gens) s₁) :
  WalkO q loose XP YP l.row.toRowW d [] (fun f vs=>PySem.call f vs):=by
 intro w s₀ s₁ mg mb G Y fa o pm cd doc dV kV ho hd hcd hD hmg hg args vals as hpre hlay hrd hwl hlo
 obtain rfl:dV=.none:=Dflts.none hD hdf
 obtain rfl:kV=.none:=Dflts.noKw hD
 obtain ⟨a,vs,ns,rfl,rfl,hobj,hints,hlen⟩:=sA hn hpre hwl
 refine enter_call (codeAny_mono (call w s₀ s₁ mg mb fa o pm cd doc a vs ns G Y ho (fd_plain hd) hcd hmg hobj hints hlen hg) fun r s' hq=>?_)
 obtain ⟨rfl,h2,h3,h4⟩:=hq
 exact ⟨.inl ⟨.bool true,.bool true,[],rfl,fun _=>rfl,.bool true,sG l _,fun _=>⟨List.Pairwise.nil,fun _ hm=>(nomatch hm)⟩⟩,h2,h3,h4⟩
section
variable {prog:Program} {w:World} {A:Around} {E:Value→Shared→Prop} {s:Shared} {K:Frag}
end
end Att
namespace L2
open PySem PySem.Spec PyProof.Rows
theorem oo:∀ {vs:List Value} {ns:List Int},IntsAre vs ns→Vals (ns.map V.int) vs
 | _,_,.nil=>.nil
 | _,_,.cons n t h=>.cons ⟨t,rfl⟩ (oo h)
noncomputable def Only (H:Hp):Prop:=∀ b,H b=none∨∃ o xs,H b=some (.frz o (.lst xs))
theorem vo {P:Program} {w:World} {K:PySem.W.Frag} {mg mb:Str→Option Value} {CX:CXT} {k:Nat} {fa a:Addr} {fd:FuncData} {x:Str} {sp:Sp} {s₁:Shared} {vs:List Value} {ns:List Int}
  (KX:K.In s₁.heap) (hns:s₁.heap.Ns mainGlobals mg) (hb:s₁.heap.Ns builtinsNs mb) (hbb:∀ x:Str,x≠"__name__"→mb x=bootBuiltins x) (hlim:s₁.heap.NoLimit) (hg:s₁.gens=#[])
  (ha:s₁.heap.get? a=some { cls:=.type "list",data:=.seq vs.toArray }) (hi:IntsAre vs ns) (hl:ns.length≤sizeLine) (hr:Room k callerA)
  (F:∀ base:Heap,K.In base→base.Ns mainGlobals mg→FnOk P w K mg base CX k fa fd [x] sp) (hbind:∀ (s:Shared) (u:Value),BindsTo s fd ⟨[u],[]⟩ [(x,u)])
  (hsp:∀ H:Hp,Only H→SqL K H a (ns.map V.int)→sp [.ref a] H (fun v _=>v=.bl true) fun _ _ _=>False)
  (hCX:∀ H e s',CX [] H s₁ (fun _ _ _=>False) e s'→False) :
  codeAny (model P w) callerA (.call (.ref fa) ⟨[.ref a],[]⟩) (fun r s'=>r=.ok (.ret (.bool true))∧OldK s₁.heap s'.heap∧s'.os=s₁.os∧AllBare s'.gens) s₁:=by
 have rv:=oo hi
 have lenV:=hi.length
 -- from an abstract heap in which nothing but the script may be tracked
 have core:∀ H:Hp,Only H→SqL K H a (ns.map V.int)→HOk P w H s₁.heap→(∀ b,H b≠none→b=a)→(H a≠none→K.lookup a=none) →
   codeAny (model P w) callerA (.call (.ref fa) ⟨[.ref a],[]⟩) (fun r s'=>r=.ok (.ret (.bool true))∧OldK s₁.heap s'.heap∧s'.os=s₁.os∧AllBare s'.gens) s₁:=by
  intro H hO hS hok hA hK
  have base_of:∀ {b:Addr} {o:Obj},s₁.heap.get? b=some o→H b=none→(hidT s₁.heap H).get? b=some o:=fun e n=>vw e n
  have noA:∀ {b:Addr} {o:Obj} {es:Array DictEntry} {ep:Nat},s₁.heap.get? b=some o→o.data=.dict es ep→H b=none:=fun {b o es ep} e d=>by
   cases q:H b with
   | none=>rfl
   | some u =>
    have e':b=a:=hA b (by rw [q];simp)
    subst e'
    rw [ha] at e;cases e
    have d':Data.seq vs.toArray _=Data.dict es ep:=d
    cases d'
  have nsK:∀ {b:Addr} {m:Str→Option Value},s₁.heap.Ns b m→(hidT s₁.heap H).Ns b m:=fun {b m} ⟨o,es,ep,e,d,r⟩=>⟨o,es,ep,base_of e (noA e d),d,r⟩
  have hKb:K.In (hidT s₁.heap H):=fun b o e=>base_of (KX b o e) (by
   cases q:H b with
   | none=>rfl
   | some u =>
    have e':b=a:=hA b (by rw [q];simp)
    subst e'
    rw [hK (by rw [q];simp)] at e;cases e)
  have hM:Mod K mg (hidT s₁.heap H):=⟨hKb,nsK hns,⟨mb,nsK hb,hbb⟩,let ⟨mc,h1,h2⟩:=hlim;⟨mc,nsK h1,h2⟩⟩
  have e0:Env0 P w K mg (hidT s₁.heap H) callerA [] s₁ H:=⟨rfl,hM,fun b o e=>wt e,Nat.le_of_eq (tX _ _),trivial,fun b hb=>absurd (show b∈([]:List Addr) from hb) (by simp),hok,.of_eq hg⟩
  refine codeAny_mono ((F _ hKb (nsK hns)).run callerA [] s₁ H ⟨[.ref a],[]⟩ [.ref a] [.ref a] _ _ hr e0 (hbind s₁ (.ref a)) (.cons rfl .nil) (hsp H hO hS)) fun r s' h=>?_
  cases r with
  | error e=>exact (hCX H e s' h).elim
  | ok fl =>
   cases fl with
   | next=>exact False.elim h
   | brk=>exact False.elim h
   | cont=>exact False.elim h
   | ret u =>
    obtain ⟨v,H',os,bare,un,hok',r',q⟩:=h
    have q':v=.bl true:=q
    subst q'
    obtain rfl:u=Value.bool true:=r'
    refine ⟨rfl,OldK.of_keep fun b o e=>?_,os,bare⟩
    cases q:H b with
    | none=>exact un.keep b o e q (by intro z;exact absurd (show b∈([]:List Addr) from z) (by simp)) (by simp)
    | some u =>
     rcases hO b with z|⟨ob,xs,z⟩
     ·rw [q] at z;cases z
     ·have z2:=un.frzs b ob _ z
      obtain ⟨e1,_⟩:=hok b _ z
      obtain ⟨e2,_⟩:=hok' b _ z2
      rw [e] at e1;cases e1
      exact e2
 cases hk:K.lookup a with
 | some o =>
  -- the script is one of the module's own objects
  have e:=KX a o hk
  rw [ha] at e
  cases e
  refine core (fun _=>none) (fun _=>.inl rfl) (.inr ⟨_,vs.toArray,_,hk,rfl,rfl,rfl,by rw [List.size_toArray,lenV];exact hl,by simpa using rv⟩) (fun b u z=>by have z':(none:Option HO)=some u:=z;cases z') (fun b z=>absurd rfl z) fun z=>absurd rfl z
 | none =>
  refine core (fun b=>if b=a then some (.frz { cls:=.type "list",data:=.seq vs.toArray } (.lst (ns.map V.int))) else none) (fun b=>?_) (.inl (.inr ⟨{ cls:=.type "list",data:=.seq vs.toArray },if_pos rfl⟩)) (fun b u z=>?_) (fun b z=>?_) fun _=>hk
  ·by_cases hb:b=a
   ·exact .inr ⟨_,_,if_pos hb⟩
   ·exact .inl (if_neg hb)
  ·by_cases hb:b=a
   ·have z':=(if_pos hb).symm.trans z
    cases z'
    subst hb
    exact ⟨ha,by rw [List.length_map];exact hl,vs,_,rv,ha⟩
   ·have z':=(if_neg hb).symm.trans z
    cases z'
  ·by_cases hb:b=a
   ·exact hb
   ·exact absurd (if_neg hb) z
end L2
namespace L2
open PySem PySem.Spec PyProof.Rows
theorem xl {l:PySem.W.OpenLaw} {n k:Nat} {q:Program} {loose:List Str} {XP:(Str→Option Value)→Heap→Prop} {YP:World→Heap→Prop} {d:DefRec} {K:Params→PySem.W.Frag} {CX:World→CXT} {sp:World→Sp} {x:Str}
  (hn:l.most=some n) (hn2:n≤sizeLine) (hdf:d.params.defaults=[]) (hr:Room k callerA)
  (hY:∀ (w:World) (h:Heap),YP w h→(K w.params).In h)
  (F:∀ (w:World) (mg:Str→Option Value) (fa:Addr) (h:Heap),(K w.params).In h→h.Ns mainGlobals mg→mg d.name=some (.ref fa) →
   ∃ fd:FuncData,(∀ (s:Shared) (u:Value),BindsTo s fd ⟨[u],[]⟩ [(x,u)]) ∧
    ∀ base:Heap,(K w.params).In base→base.Ns mainGlobals mg→FnOk l.prog w (K w.params) mg base (CX w) k fa fd [x] (sp w))
  (hsp:∀ (w:World) (H:Hp) (a:Addr) (ns:List Int),ns.length≤n→Only H→SqL (K w.params) H a (ns.map V.int)→sp w [.ref a] H (fun v _=>v=.bl true) fun _ _ _=>False)
  (hCX:∀ (w:World) (H:Hp) (s:Shared) (e:Value) (s':Shared),CX w [] H s (fun _ _ _=>False) e s'→False) :
  PySem.W.WalkO q loose XP YP l.row.toRowW d [] (fun f vs=>PySem.call f vs):=by
 refine Att.oM hn hdf fun w s₀ s₁ mg mb fa o pm cd doc a vs ns G Y ho hd hcd hmg hobj hints hlen hg=>?_
 have KX:=hY w _ Y
 obtain ⟨fd,hb,hF⟩:=F w mg fa _ KX G.T.g hmg
 exact vo KX G.T.g G.T.b G.T.builtins G.T.nolimit hg hobj hints (Nat.le_trans hlen hn2) hr hF hb (fun H hO hS=>hsp w H a ns hlen hO hS) fun H e s'=>hCX w H s₁ e s'
end L2
namespace L2
open PySem PySem.Spec PyProof.Rows
noncomputable def gj (s:Stmt):Arguments:=match s with
 | .FunctionDef _ a _ _ _ _ _ _ _ _=>a
 | _=>{ posonlyargs:=[],args:=[],vararg:=none,kwonlyargs:=[],kw_defaults:=[],kwarg:=none,defaults:=[] }
noncomputable def dw (s:Stmt):List Stmt:=match s with
 | .FunctionDef _ _ b _ _ _ _ _ _ _=>b
 | _=>[]
noncomputable def ap (s:Stmt):Scope:=match s with
 | .FunctionDef _ _ _ _ _ _ sc _ _ _=>sc
 | _=>{ kind:=.function,names:=[],isGenerator:=false,isCoroutine:=false }
noncomputable abbrev CX0:CXT:=fun _ _ _ _ _ _=>False
noncomputable abbrev E0:XK:=fun _ _ _=>False
theorem pass0 {X:Cx}:Passes CX0 X E0:=fun _ _ _ _ _ _ _ h=>h.elim
structure Fun (K:PySem.W.Frag) (x qual:Str) (st:Stmt) (f:Addr) (fd:FuncData):Prop where
 ex:∃ (oc:Value) (od:Option Addr) (kV doc pm:Value) (an:Option Addr) (cdv ct:Value) (osl:Array (Option Value)),
  fd=PySem.W.fnOf x qual (gj st) (dw st) (ap st) .none kV doc pm an cdv ct∧K.lookup f=some ⟨oc,od,.func fd,osl⟩∧PySem.W.codeIn K cdv qual=true
 kp:PySem.W.keepIn K (.ref f)=true
section
variable {P:Program} {w:World} {K:PySem.W.Frag} {mg:Str→Option Value} {base:Heap}
theorem Fun.ok {x qual:Str} {st:Stmt} {f:Addr} {fd:FuncData} {N ps:List Str} {k:Nat} {sp:Sp} (F:Fun K x qual st f fd) (S:FnScope N ps (ap st)) (len:∀ vs H Q E,sp vs H Q E→vs.length=ps.length)
  (hbody:∀ (cdv:Value) (A:Around) (outer:List Env) (s:Shared) (H:Hp) (vs:List V) (Q:VK) (E:XK),Room k (A.deeper (envOfC qual (ap st) s.heap.objs.size f cdv))→sp vs H Q E →
   ∃ t,PSs (cxOf CX0 P w K mg base N qual (ap st) f cdv A outer s H E).nox (dw st) t∧t { nx:=fun _ H'=>Q .non H',rt:=Q } (start N vs) H):FnOk P w K mg base CX0 (k+1) f fd ps sp:=by
 obtain ⟨oc,od,kV,doc,pm,an,cdv,ct,osl,rfl,lk,hcd⟩:=F.ex
 refine Ag lk hcd S len fun A outer s H vs Q E hr hsp=>?_
 obtain ⟨t,h,q⟩:=hbody cdv A outer s H vs Q E hr hsp
 exact ⟨t,h.nox,q⟩
theorem Fun.binds {x qual:Str} {st:Stmt} {f:Addr} {fd:FuncData} {ps:List Str} (F:Fun K x qual st f fd)
  (h:∀ (kV doc pm:Value) (an:Option Addr) (cdv ct:Value) (us:List Value),us.length=ps.length→bindArgs (PySem.W.fnOf x qual (gj st) (dw st) (ap st) .none kV doc pm an cdv ct) ⟨us,[]⟩=pure (ps.zip us)):Binds K fd ps []:=by
 obtain ⟨oc,od,kV,doc,pm,an,cdv,ct,osl,rfl,lk,hcd⟩:=F.ex
 exact .all (h kV doc pm an cdv ct)
theorem xY {x qual:Str} {st:Stmt} {f:Addr} {oc:Value} {od an:Option Addr} {osl:Array (Option Value)} {kV doc pm cdv ct:Value} (l:K.lookup f=some ⟨oc,od,.func (PySem.W.fnOf x qual (gj st) (dw st) (ap st) .none kV doc pm an cdv ct),osl⟩)
  (c:PySem.W.codeIn K cdv qual=true) (k:PySem.W.keepIn K (.ref f)=true):Fun K x qual st f (PySem.W.fnOf x qual (gj st) (dw st) (ap st) .none kV doc pm an cdv ct):=⟨⟨oc,od,kV,doc,pm,an,cdv,ct,osl,rfl,l,c⟩,k⟩
end
section
variable {X:Cx}
end
noncomputable def Same (H H':Hp):Prop:=∀ b o,H b=some o→H' b=some o
theorem Same.refl (H:Hp):Same H H:=fun _ _ h=>h
theorem Same.trans {H H1 H2:Hp} (a:Same H H1) (b:Same H1 H2):Same H H2:=fun c o h=>b c o (a c o h)
theorem Same.free {H H':Hp} (e:Same H H') {l:Addr} (h:H' l=Option.none):H l=Option.none:=by
 cases q:H l with
 | none=>rfl
 | some o =>
  rw [e l o q] at h
  cases h
theorem Same.seq {K:PySem.W.Frag} {H H':Hp} {a:Addr} {xs:List V} (e:Same H H') (h:SqL K H a xs):SqL K H' a xs:=by
 rcases h with (h|⟨o,h⟩)|h
 ·exact .inl (.inl (e _ _ h))
 ·exact .inl (.inr ⟨o,e _ _ h⟩)
 ·exact .inr h
section
variable {κ:Type} [DecidableEq κ]
end
end L2
namespace L2
open PySem PySem.W PySem.W.X PySem.W.ZRun
theorem walkX {q:Program} {loose:List Str} {XP:(Str→Option Value)→Heap→Prop} {K:Params→Frag} {as:List Addr} {n t:Nat} {r:RowW} {d:DefRec} {kwd:List (Str×Expr)} {run:Value→List Value→Sem Value}
  (e:∀ P,as=(K P).map (·.1)) (h:WalkO q loose XP (fun w h=>(K w.params).In h) r d kwd run):WalkX q loose XP (obsZ as) (valZ K n t) r d kwd run :=
 fun w s₀ s₁ mg mb G y a o pm cd doc dV kV h1 h2 h3 h4 h5 h6 args vals as L hp hl hr hw hs =>
  h w s₀ s₁ mg mb G (InK.keeps w s₀.heap s₁.heap (z_facts e y).2.1 L.keeps) a o pm cd doc dV kV h1 h2 h3 h4 h5 h6 args vals as hp hl hr hw hs
theorem ln0 {α:Type} {P:List α→Prop} (h:P []):∀ us:List α,us.length=0→P us:=fun us e=>by
 rw [List.length_eq_zero_iff.mp e];exact h
theorem ln1 {α:Type} {P:List α→Prop} (h:∀ a,P [a]):∀ us:List α,us.length=1→P us:=fun us e=>by
 obtain ⟨a,rfl⟩:=List.length_eq_one_iff.mp e;exact h a
theorem lnS {α:Type} {P:List α→Prop} {n:Nat} (h:∀ a us,us.length=n→P (a::us)):∀ us:List α,us.length=n+1→P us:=fun us e=>by
 cases us with
 | nil=>cases e
 | cons a us=>exact h a us (Nat.succ.inj e)
theorem ln2 {α:Type} {P:List α→Prop} (h:∀ a b,P [a,b]):∀ us:List α,us.length=2→P us:=lnS fun a=>ln1 fun b=>h a b
theorem ln3 {α:Type} {P:List α→Prop} (h:∀ a b c,P [a,b,c]):∀ us:List α,us.length=3→P us:=lnS fun a=>ln2 fun b c=>h a b c
end L2
namespace L2
open PySem PySem.Spec PyProof.Rows
noncomputable def clGo (cells:List (Str×Addr)):List (Str×NameKind)→List (Str×Addr)→List (Str×Addr)
 | [],acc=>acc
 | (n,k)::r,acc=>if k=.free then clGo cells r ((n,(cells.lookup n).getD 0)::acc) else clGo cells r acc
theorem gc {scope:Scope} {env:Env} (h:∀ y∈scope.names,y.2=.free→∃ c,env.cells.lookup y.1=some c):closureFor scope env=pure (clGo env.cells scope.names []):=by
 simp only [closureFor]
 generalize ([]:List (Str×Addr))=acc
 revert h
 generalize scope.names=names
 intro h
 induction names generalizing acc with
 | nil=>rfl
 | cons y r ih =>
  obtain ⟨n,k⟩:=y
  have ih':=fun acc=>ih acc fun z hz=>h z (List.mem_cons_of_mem _ hz)
  by_cases hk:k=.free
  ·subst hk
   obtain ⟨c,hc⟩:=h (n,.free) List.mem_cons_self rfl
   have hc:env.cells.lookup n=some c:=hc
   have e1:cellOf env n=pure c:=by unfold cellOf;rw [hc]
   have e2:clGo env.cells ((n,.free)::r) acc=clGo env.cells r ((n,c)::acc):=by
    show (if NameKind.free=.free then _ else _)=_
    rw [if_pos rfl,hc];rfl
   rw [e2,← ih' ((n,c)::acc),List.forIn_cons]
   simp only [beq_self_eq_true,if_true,e1]
   rfl
  ·have hb:(k==NameKind.free)=false:=by simpa using hk
   have e2:clGo env.cells ((n,k)::r) acc=clGo env.cells r acc:=by
    show (if k=.free then _ else _)=_
    rw [if_neg hk]
   rw [e2,← ih' acc,List.forIn_cons]
   simp only [hb,Bool.false_eq_true,if_false]
   rfl
theorem px {cells:List (Str×Addr)} {x:Str} {c:Addr}:∀ (names:List (Str×NameKind)) (acc:List (Str×Addr)),(∀ y∈names,y.2=.free→∃ c,cells.lookup y.1=some c) →
  (clGo cells names acc).lookup x=some c→cells.lookup x=some c∨acc.lookup x=some c
 | [],acc,_,e=>.inr e
 | (n,k)::r,acc,h,e=>by
  have hr:∀ y∈r,y.2=.free→∃ c,cells.lookup y.1=some c:=fun y hy=>h y (List.mem_cons_of_mem _ hy)
  by_cases hk:k=.free
  ·subst hk
   have e2:clGo cells ((n,.free)::r) acc=clGo cells r ((n,(cells.lookup n).getD 0)::acc):=by
    show (if NameKind.free=.free then _ else _)=_
    rw [if_pos rfl]
   rw [e2] at e
   rcases px r _ hr e with z|z
   ·exact .inl z
   ·rw [List.lookup_cons] at z
    cases hx:x==n with
    | true =>
     rw [hx] at z
     have hxn:x=n:=eq_of_beq hx
     obtain ⟨c',hc⟩:=h (n,.free) List.mem_cons_self rfl
     have hc:cells.lookup n=some c':=hc
     rw [hc] at z
     left
     rw [hxn,hc]
     exact z
    | false =>
     rw [hx] at z
     exact .inr z
  ·have e2:clGo cells ((n,k)::r) acc=clGo cells r acc:=by
    show (if k=.free then _ else _)=_
    rw [if_neg hk]
   rw [e2] at e
   exact px r acc hr e
theorem j8 {cells:List (Str×Addr)} {x:Str}:∀ (names:List (Str×NameKind)) (acc:List (Str×Addr)),((x,NameKind.free)∈names∨∃ c,acc.lookup x=some c)→∃ c,(clGo cells names acc).lookup x=some c
 | [],acc,h=>by
  rcases h with h|h
  ·cases h
  ·exact h
 | (n,k)::r,acc,h=>by
  by_cases hk:k=.free
  ·subst hk
   have e2:clGo cells ((n,.free)::r) acc=clGo cells r ((n,(cells.lookup n).getD 0)::acc):=by
    show (if NameKind.free=.free then _ else _)=_
    rw [if_pos rfl]
   rw [e2]
   refine j8 r _ ?_
   rcases h with h|⟨c,h⟩
   ·rcases List.mem_cons.mp h with h|h
    ·cases h
     exact .inr ⟨_,by rw [List.lookup_cons,beq_self_eq_true]⟩
    ·exact .inl h
   ·right
    rw [List.lookup_cons]
    cases x==n with
    | true=>exact ⟨_,rfl⟩
    | false=>exact ⟨c,h⟩
  ·have e2:clGo cells ((n,k)::r) acc=clGo cells r acc:=by
    show (if k=.free then _ else _)=_
    rw [if_neg hk]
   rw [e2]
   refine j8 r acc ?_
   rcases h with h|h
   ·rcases List.mem_cons.mp h with h|h
    ·cases h
     exact absurd rfl hk
    ·exact .inl h
   ·exact .inr h
structure Bk where
 cl:List (Str×Addr)
 C:Addr
 s:Shared
 H:Hp
 fp:List Addr
 pins:List (Addr×Obj)
noncomputable def blk (X:Cx) (N:List Str) (scope:Scope) (b:Bk):Cx :=
 { X with tn:=0,N:=N,s₀:=b.s,H₀:=b.H,env:=compEnvC scope b.cl b.C X.env,outer:=X.stack,stack:=X.stack,ex:=b.fp,fn:=fun _=>false,pn:=X.pn++b.pins,xe:=fun _ _=>False }
noncomputable def capOk (ON:List Str) (names:List (Str×NameKind)):List (Option Nat)→List Str→Bool
 | [],[]=>true
 | none::r,_::n=>capOk ON names r n
 | some j::r,x::n=>decide (ON[j]?=some x)&&decide ((x,NameKind.free)∈names)&&capOk ON names r n
 | _,_=>false
noncomputable def csOk (osc:Scope) (ON N:List Str) (ix:List (Option Nat)) (scope:Scope):Bool :=
 decide (scope.kind=.function)&&(scope.names.all fun y=>decide (y.2≠.cell))&&(scope.names.all fun y=>decide (y.2=.local→scope.names.lookup y.1=some .local)) &&
 (scope.names.all fun y=>decide (y.2=.free→osc.names.lookup y.1=some .cell∨osc.names.lookup y.1=some .free))&&(scope.names.all fun y=>decide (y.2=.local→(y.1,NameKind.free)∉scope.names))&&capOk ON scope.names ix N
structure CScope (osc:Scope) (ON N:List Str) (ix:List (Option Nat)) (scope:Scope):Prop where
 kind:scope.kind=.function
 nocell:∀ y∈scope.names,y.2≠.cell
 names:∀ y∈scope.names,y.2=.local→scope.names.lookup y.1=some .local
 outs:∀ y∈scope.names,y.2=.free→osc.names.lookup y.1=some .cell∨osc.names.lookup y.1=some .free
 nolf:∀ x,(x,NameKind.local)∈scope.names→(x,NameKind.free)∈scope.names→False
 len:ix.length=N.length
 cap:∀ (i j:Nat) (x:Str),ix[i]?=some (some j)→N[i]?=some x→ON[j]?=some x∧(x,NameKind.free)∈scope.names
theorem kU {ON:List Str} {names:List (Str×NameKind)}:∀ {ix:List (Option Nat)} {N:List Str},capOk ON names ix N=true→ix.length=N.length
 | [],[],_=>rfl
 | none::r,_::n,h=>congrArg Nat.succ (kU (ix:=r) (N:=n) h)
 | some j::r,x::n,h=>by
  have h':(decide (ON[j]?=some x)&&decide ((x,NameKind.free)∈names)&&capOk ON names r n)=true:=h
  rw [Bool.and_eq_true] at h'
  exact congrArg Nat.succ (kU h'.2)
 | [],_::_,h=>by cases h
 | none::_,[],h=>by cases h
 | some _::_,[],h=>by cases h
theorem kn {ON:List Str} {names:List (Str×NameKind)}:∀ {ix:List (Option Nat)} {N:List Str},capOk ON names ix N=true→∀ (i j:Nat) (x:Str),ix[i]?=some (some j)→N[i]?=some x→ON[j]?=some x∧(x,NameKind.free)∈names
 | [],_,_,i,j,x,h1,_=>by simp at h1
 | none::r,y::n,h,0,j,x,h1,_=>by simp at h1
 | none::r,y::n,h,i+1,j,x,h1,h2=>kn (ix:=r) (N:=n) h i j x (by simpa using h1) (by simpa using h2)
 | some k::r,y::n,h,i,j,x,h1,h2=>by
  have h':(decide (ON[k]?=some y)&&decide ((y,NameKind.free)∈names)&&capOk ON names r n)=true:=h
  rw [Bool.and_eq_true,Bool.and_eq_true] at h'
  cases i with
  | zero =>
   simp only [List.getElem?_cons_zero,Option.some.injEq] at h1 h2
   subst h1 h2
   exact ⟨of_decide_eq_true h'.1.1,of_decide_eq_true h'.1.2⟩
  | succ i=>exact kn h'.2 i j x (by simpa using h1) (by simpa using h2)
 | none::_,[],h,_,_,_,_,_=>by cases h
 | some _::_,[],h,_,_,_,_,_=>by cases h
theorem za {osc:Scope} {ON N:List Str} {ix:List (Option Nat)} {scope:Scope} (h:csOk osc ON N ix scope=true):CScope osc ON N ix scope:=by
 unfold csOk at h
 simp only [Bool.and_eq_true] at h
 obtain ⟨⟨⟨⟨⟨h1,h2⟩,h3⟩,h4⟩,h5⟩,h6⟩:=h
 exact ⟨of_decide_eq_true h1,fun y hy=>of_decide_eq_true (List.all_eq_true.mp h2 y hy),fun y hy=>of_decide_eq_true (List.all_eq_true.mp h3 y hy),fun y hy=>of_decide_eq_true (List.all_eq_true.mp h4 y hy),
  fun x hx hf=>of_decide_eq_true (List.all_eq_true.mp h5 (x,.local) hx) rfl hf,kU h6,kn h6⟩
noncomputable def capt (ix:List (Option Nat)) (σ:St):St:=ix.map fun o=>o.bind fun j=>(σ[j]?).getD none
theorem cI {env:Env}:∀ {names:List (Str×NameKind)} {x:Str} {k:NameKind},(names.map fun (n,k)=>if (k==NameKind.free&&env.scope.kind==.function&&env.kindOf n==some .cell) then (n,NameKind.cell) else (n,k)).lookup x=some k →
  names.lookup x=some k∨(k=.cell∧names.lookup x=some .free∧env.kindOf x=some .cell)
 | [],_,_,h=>by cases h
 | (n,k')::r,x,k,h=>by
  have ih:=@cI env r x k
  have h:List.lookup x ((if (k'==NameKind.free&&env.scope.kind==.function&&env.kindOf n==some .cell)=true then (n,NameKind.cell) else (n,k'))::_)=some k:=h
  by_cases hc:(k'==NameKind.free&&env.scope.kind==.function&&env.kindOf n==some .cell)=true
  ·rw [if_pos hc] at h
   rw [List.lookup_cons] at h
   rw [List.lookup_cons]
   cases hx:x==n with
   | true =>
    rw [hx] at h
    cases h
    have hxn:x=n:=eq_of_beq hx
    simp only [Bool.and_eq_true,beq_iff_eq] at hc
    right
    exact ⟨rfl,by rw [hc.1.1],by rw [hxn];exact hc.2⟩
   | false =>
    rw [hx] at h
    exact ih h
  ·rw [if_neg hc] at h
   rw [List.lookup_cons] at h
   rw [List.lookup_cons]
   cases hx:x==n with
   | true =>
    rw [hx] at h
    cases h
    exact .inl rfl
   | false =>
    rw [hx] at h
    exact ih h
theorem mem_of_lookupK {x:Str} {k:NameKind}:∀ {names:List (Str×NameKind)},names.lookup x=some k→(x,k)∈names:=fun h=>PySem.mem_of_lookup h
theorem xu {X:Cx} {osc:Scope} {ON:List Str} {pins:List (Addr×Obj)} {σ:St} {H:Hp} {s s':Shared} {N:List Str} {ix:List (Option Nat)} {scope:Scope} {fp:List Addr} {h':Heap} {m:Str→Option Value} (I:Inv X pins σ H s) (hE:X.env.scope=osc) (hO:X.N=ON) (S:CScope osc ON N ix scope)
  (hfp:∀ b∈fp,FpOk X pins H b) (hfo:∀ b∈fp,∃ o,s.heap.get? b=some o) (hn:h'.Ns s.heap.objs.size m) (hk:∀ b o,s.heap.get? b=some o→h'.get? b=some o) (he:s'={ s with heap:=h',toks:=s'.toks }) :
  Inv (blk X N scope ⟨clGo X.env.cells scope.names [],s.heap.objs.size,s,H,fp,pins⟩) [] (capt ix σ) H s':=by
 subst hE hO
 have hcells:∀ y∈scope.names,y.2=.free→∃ c,X.env.cells.lookup y.1=some c:=fun y hy e=>I.ok.has y.1 (S.outs y hy e)
 have clin:∀ x c,(clGo X.env.cells scope.names []).lookup x=some c→X.env.cells.lookup x=some c:=fun x c e=>by
  rcases px scope.names [] hcells e with z|z
  ·exact z
  ·cases z
 have old:∀ b o,s.heap.get? b=some o→b≠s.heap.objs.size:=fun b o e=>Nat.ne_of_lt (Heap.lt_size e)
 have hkind:∀ x,(compEnvC scope (clGo X.env.cells scope.names []) s.heap.objs.size X.env).kindOf x=some .cell∨(compEnvC scope (clGo X.env.cells scope.names []) s.heap.objs.size X.env).kindOf x=some .free→(x,NameKind.free)∈scope.names:=fun x hx=>by
  rcases hx with hx|hx
  ·rcases cI (env:=X.env) hx with z|⟨_,z,_⟩
   ·exact absurd rfl (S.nocell _ (mem_of_lookupK z))
   ·exact mem_of_lookupK z
  ·rcases cI (env:=X.env) hx with z|⟨z,_⟩
   ·exact mem_of_lookupK z
   ·cases z
 have cellK:∀ x c,X.env.cells.lookup x=some c→∀ v,s.heap.IsCell c v→h'.IsCell c v:=fun x c e v ⟨o,ho,hd⟩=>⟨o,hk c o ho,hd⟩
 rw [he]
 refine ⟨⟨I.ok.mod,S.kind,I.ok.glob,I.ok.blt,Nat.le_refl _,fun x y c h1 h2=>I.ok.inj x y c (clin x c h1) (clin y c h2),fun x hx=>j8 _ _ (.inl (hkind x hx)),fun x c z _=>(nomatch z),I.ok.hd,I.ok.frames,.inl rfl,
  fun b hb=>?_,fun b o e=>I.bs b o e,Nat.le_trans I.ok.bsz I.sz,fun b o e hb=>?_,fun b hb hx=>?_,I.stack,fun b hb=>I.stkFree b hb⟩,
  rfl,I.bare,Un.kept hk,⟨m,hn,fun i x v h1 h2 h3=>?_⟩,fun x c e=>?_,I.hok.fresh (Nat.le_refl _),fun x c e=>I.freeC x c (clin x c e),fun p hp=>?_,I.hok.kept hk,?_,Nat.zero_le _⟩
 ·obtain ⟨o,ho⟩:=hfo b hb
  exact ⟨old b o ho,fun x c e=>(hfp b hb).2.2.2.2.1 x c (clin x c e)⟩
 ·rcases (hfp b hb).2.2.2.1 with z|z
  ·exact I.ok.noex b o e z
  ·exact absurd (Nat.lt_of_lt_of_le (Heap.lt_size e) (Nat.le_trans I.ok.bsz z)) (Nat.lt_irrefl _)
 ·rcases List.mem_cons.mp (I.stkSub b hx) with z|z
  ·exact (hfp b hb).2.1 z
  ·exact (hfp b hb).2.2.1 z
 ·-- a captured name
  have h2':(capt ix σ)[i]?=some (some v):=h2
  unfold capt at h2'
  rw [List.getElem?_map] at h2'
  cases e:ix[i]? with
  | none=>rw [e] at h2';cases h2'
  | some o =>
   rw [e] at h2'
   cases o with
   | none=>cases h2'
   | some j =>
    obtain ⟨c1,c2⟩:=S.cap i j x e h1
    have h2'':(σ[j]?).getD none=some v:=Option.some.inj h2'
    have ej:σ[j]?=some (some v):=by
     cases q:σ[j]? with
     | none=>rw [q] at h2'';cases h2''
     | some w'=>rw [q] at h2'';rw [← h2''];rfl
    have ko:=S.outs _ c2 rfl
    obtain ⟨mX,hnX,hl⟩:=I.loc
    have vis:Vis X.env.scope x:=by
     rcases ko with k|k
     ·exact .inr (.inl k)
     ·exact .inr (.inr k)
    obtain ⟨u,ru,lk⟩:=hl j x v c1 ej vis
    refine ⟨u,ru,.inr ?_⟩
    have hcel:∃ c,X.env.cells.lookup x=some c∧s.heap.IsCell c (some u):=by
     rcases lk with ⟨k,_⟩|⟨_,c,e1,e2⟩
     ·rcases ko with k'|k'
      ·have:X.env.kindOf x=some .cell:=k'
       rw [k] at this;cases this
      ·have:X.env.kindOf x=some .free:=k'
       rw [k] at this;cases this
     ·exact ⟨c,e1,e2⟩
    obtain ⟨c,e1,e2⟩:=hcel
    obtain ⟨c',e3⟩:=j8 (cells:=X.env.cells) scope.names [] (.inl c2)
    have e4:=clin x c' e3
    rw [e1] at e4
    cases e4
    refine ⟨?_,c,e3,cellK x c e1 _ e2⟩
    rcases h3 with k|k|k
    ·rcases cI (env:=X.env) k with z|⟨z,_⟩
     ·exact (S.nolf x (mem_of_lookupK z) c2).elim
     ·cases z
    ·exact .inl k
    ·exact .inr k
 ·obtain ⟨v,z⟩:=I.cell x c (clin x c e)
  exact ⟨v,cellK x c (clin x c e) v z⟩
 ·have hp':p∈X.pn++pins:=by
   rcases List.mem_append.mp hp with z|z
   ·exact z
   ·cases z
  obtain ⟨e,n,ne,nf,d⟩:=I.pin p hp'
  refine ⟨hk _ _ e,n,old _ _ e,fun z=>?_,d⟩
  rcases List.mem_cons.mp (I.stkSub _ z) with q|q
  ·exact ne q
  ·exact nf q
 ·show (capt ix σ).length=N.length
  unfold capt
  rw [List.length_map]
  exact S.len
end L2
namespace L2
open PySem PySem.Spec PyProof.Rows
section
variable {prog:Program} {w:World} {A:Around} {R:Result→Shared→Prop} {s:Shared}
theorem nT {elt target iter:Expr} {ifs:List Expr} {scope:Scope} {pos:Pos} {it acc:Value} {env:Env} (I:Nat→Shared→Prop)
  (turn:∀ n s,I n s→wpAny (model prog w) A (pyNext it) (fun r s₁=>match r with
   | none=>R (.ok .next) s₁
   | some v=>wpAny (model prog w) A (letOwnedTupleGo target it v) (fun _ s₁'=>wpAny (model prog w) A (assign target env v) (fun _ s₂ =>
     wpAny (model prog w) A (forIn ifs true fun c r=>if r=true then do let ok ← isTrue c env (eval c env);pure (ForInStep.yield ok) else pure (ForInStep.yield r)) (fun ok s₃ =>
      if ok=true then wpAny (model prog w) A (eval elt env) (fun x s₄ =>
       wpAny (model prog w) A (call (.builtin "list.append") [acc,x]) (fun _ s₅=>∃ m,m < n∧I m s₅) (notedBy (model prog w) A env fun e s'=>R (.error e) s') s₄) (notedBy (model prog w) A env fun e s'=>R (.error e) s') s₃
      else ∃ m,m < n∧I m s₃) (notedBy (model prog w) A env fun e s'=>R (.error e) s') s₂) (notedBy (model prog w) A env fun e s'=>R (.error e) s') s₁') (notedBy (model prog w) A env fun e s'=>R (.error e) s') s₁) (notedBy (model prog w) A env fun e s'=>R (.error e) s') s)
  (n:Nat) (h:I n s) :
  codeAny (model prog w) A (.compLoop (.ListComp elt [⟨target,iter,ifs,0⟩] scope pos) 0 it acc env) R s:=by
 refine codeAny_loop rfl I (fun n s hI=>?_) n h
 show wpAny _ A ((compTurn (.ListComp elt [⟨target,iter,ifs,0⟩] scope pos) 0 it acc env).onRaise (fun x=>do noteFrame x env;theTreesLotGoes x)) _ _ s
 refine wpAny_noted ?_
 rw [compTurn_list]
 refine wpAny_bind (wpAny_standAt (wpAny_bind (wpAny_mono (turn n s hI) (fun r s₁ h₁=>?_) fun _ _ h'=>h')))
 cases r with
 | none=>exact wpAny_pure h₁
 | some v =>
  refine wpAny_bind (wpAny_mono h₁ (fun _ s₁' h₁'=>?_) fun _ _ h'=>h')
  refine wpAny_bind (wpAny_mono h₁' (fun _ s₂ h₂=>wpAny_bind (wpAny_mono h₂ (fun ok s₃ h₃=>?_) fun _ _ h'=>h')) fun _ _ h'=>h')
  cases ok with
  | false=>exact wpAny_pure ⟨rfl,h₃⟩
  | true =>
   exact wpAny_bind (wpAny_bind (wpAny_mono h₃ (fun x s₄ h₄=>wpAny_bind (wpAny_mono h₄ (fun _ s₅ h₅=>wpAny_pure (wpAny_pure ⟨rfl,h₅⟩)) fun _ _ h'=>h')) fun _ _ h'=>h'))
end
noncomputable def PTs (X:Cx) (ifs:List Expr) (t:TT):Prop :=
 ∀ (pins:List (Addr×Obj)) (s:Shared) (σ:St) (H:Hp) (Q:Bool→Hp→Prop),Inv X pins σ H s→t σ H Q →
  wpAny (model X.prog X.w) X.A (forIn ifs true fun c r=>if r=true then do let ok ← isTrue c X.env (eval c X.env);pure (ForInStep.yield ok) else pure (ForInStep.yield r)) (TP X pins σ Q) X.xe s
noncomputable def tYes:TT:=fun _ H Q=>Q true H
theorem xx {X:Cx}:PTs X [] tYes:=fun _ _ _ H _ I h=>wpAny_tests_nil ⟨H,I,h⟩
theorem wz {X:Cx} {c:Expr} {t:TT} (h:PT X c t):PTs X [c] t:=fun pins s σ H Q I q=>wpAny_tests_one (h pins s σ H Q I q)
noncomputable def compGo (g:TG) (tt:TT) (te:TE) (J:It) (σ0:St) (H1:Hp) (Q:VK):Prop:=∀ acc,H1 acc=none→∃ W:Nat→Nat→St→Hp→Prop,
 (∃ m,W 0 m σ0 (upd H1 acc (.lst [])))∧∀ i m σ' H',W i m σ' H' →
  (J.stop i H'∧Q (.ref acc) H')∨(J.go i H'∧∃ M:St→Hp→Prop,(∀ σ2 H2,M σ2 H2→∃ m',m' < m∧W (i+1) m' σ2 H2)∧∀ x H2,J.yld i H' x H2→g x σ' H2 fun σ3 H3=>tt σ3 H3 fun b H4 =>
   if b=true then te σ3 H4 fun v H5=>∃ xs,H5 acc=some (.lst xs)∧xs.length < sizeLine∧M σ3 (upd H5 acc (.lst (xs++[v]))) else M σ3 H4)
noncomputable def tComp (ix:List (Option Nat)) (wi:TI) (g:TG) (tt:TT) (te:TE):TE:=fun σ H Q=>wi σ H fun J H1=>compGo g tt te J (capt ix σ) H1 Q
section
variable {X:Cx} {osc:Scope} {ON N:List Str} {ix:List (Option Nat)} {scope:Scope} {tg elt iter:Expr} {ifs:List Expr} {pos:Pos} {wi:TI} {g:TG} {tt:TT} {te:TE}
theorem uR {pins:List (Addr×Obj)} {σ σ':St} {H H':Hp} {s s':Shared} {fp:List Addr} {cl:List (Str×Addr)} (I:Inv X pins σ H s) (hfp:∀ b∈fp,FpOk X pins H b) (J:Inv (blk X N scope ⟨cl,s.heap.objs.size,s,H,fp,pins⟩) [] σ' H' s') (ht:X.tn≤s'.toks) :
  Inv X pins σ H' s'∧(∃ m,s'.heap.Ns s.heap.objs.size m)∧H' s.heap.objs.size=none∧FpOk X pins H' s.heap.objs.size:=by
 have u:Un (frs X.stack) fp H H' s.heap s'.heap:=J.base
 have I1:Inv X pins σ H' s':=I.call' J.os u J.hok J.bare fun b hb=>⟨(hfp b hb).2.2.2.1,(hfp b hb).2.1,(hfp b hb).2.2.2.2.1,(hfp b hb).2.2.2.2.2⟩
 obtain ⟨m,hn,_⟩:=J.loc
 exact ⟨I1,⟨m,hn⟩,J.free,I.fpOk (Nat.le_refl _) J.free⟩
theorem nI {pins:List (Addr×Obj)} {σ:St} {H:Hp} {s:Shared} {it:Addr} {fp:List Addr} {tn:Nat→Heap→Prop} {J:It} {Q:VK} {E:Value→Shared→Prop} {RR:Value→Addr→Result→Shared→Prop}
  (S:CScope osc ON N ix scope) (hE:X.env.scope=osc) (hO:X.N=ON) (hc:X.calm=true) (hg:∀ b,PG (blk X N scope b) tg g) (ht:∀ b,PTs (blk X N scope b) ifs tt) (he:∀ b,PE (blk X N scope b) elt te)
  (I:Inv X pins σ H s) (T:Turn X.prog X.w X.K tg J fp it tn) (st:tn 0 s.heap) (hfp:∀ b∈fp,FpOk X pins H b) (q:compGo g tt te J (capt ix σ) H Q)
  (hRR:∀ (acc C:Addr) (H':Hp) (s':Shared),Inv X pins σ H' s'→(∃ m,s'.heap.Ns C m)→H' C=none→FpOk X pins H' C→Q (.ref acc) H'→RR (.ref acc) C (.ok .next) s') :
  wpAny (model X.prog X.w) X.A (newList []) (fun acc s₃=>wpAny (model X.prog X.w) X.A (newFunctionEnv scope X.env.globals (clGo X.env.cells scope.names []) [] X.env.qual none .none (some X.env)) (fun cenv s₄ =>
   codeAny (model X.prog X.w) X.A (.compStart (.ListComp elt [⟨tg,iter,ifs,0⟩] scope pos) 0 (.ref it) acc { cenv with scope:=relabel scope X.env }) (RR acc cenv.locals) s₄) E s₃) E s:=by
 refine wpAny_newObj_type (wpAny_newFunctionEnv S.nocell (by intro y hy;simp at hy) (fun h₁ hns₁ hsb₁=>?_) S.kind)
 dsimp only at hns₁ hsb₁ ⊢
 -- the list,tracked
 have I3:Inv X pins σ (upd H s.heap.objs.size (.lst [])) { s with heap:=s.heap.push { cls:=.type "list",dict:=none,data:=.seq ([]:List Value).toArray } } :=
  I.laid (t':=s.toks) (fun b o e=>Heap.get?_push_of_some _ e) (Nat.le_refl _) (show ObjOk X.prog X.w _ _ _ (.lst []) from ⟨Nat.zero_le _,[],_,.nil,Heap.get?_push_size _ rfl⟩)
 have hacc:H s.heap.objs.size=none:=I.hok.fresh (Nat.le_refl _)
 have hfo:∀ b∈fp,∃ o,s.heap.get? b=some o:=fun b hb=>let ⟨o,e,_⟩:=T.obj 0 _ st b hb;⟨o,e⟩
 have fne:∀ b∈fp,b≠s.heap.objs.size:=fun b hb=>let ⟨o,e⟩:=hfo b hb;Nat.ne_of_lt (Heap.lt_size e)
 have hfp3:∀ b∈fp,FpOk X pins (upd H s.heap.objs.size (.lst [])) b:=fun b hb=>⟨by rw [aR (fne b hb)];exact (hfp b hb).1,(hfp b hb).2⟩
 obtain ⟨W,⟨m0,w0⟩,turn⟩:=q s.heap.objs.size hacc
 generalize hH2:s.heap.push { cls:=.type "list",dict:=none,data:=.seq ([]:List Value).toArray }=h2 at *
 have hk1:∀ b o,h2.get? b=some o→h₁.get? b=some o:=fun b o e=>hsb₁.extBut b o (Nat.ne_of_lt (Heap.lt_size e)) (Heap.get?_push_of_some _ e)
 have old:∀ b o,s.heap.get? b=some o→h2.get? b=some o:=fun b o e=>by rw [← hH2];exact Heap.get?_push_of_some _ e
 have fin:∀ s₄:Shared,s₄={ s with heap:=h₁,toks:=s₄.toks }→X.tn≤s₄.toks→codeAny (model X.prog X.w) X.A (.compLoop (.ListComp elt [⟨tg,iter,ifs,0⟩] scope pos) 0 (.ref it) (.ref s.heap.objs.size) (compEnvC scope (clGo X.env.cells scope.names []) h2.objs.size X.env))
   (RR (.ref s.heap.objs.size) h2.objs.size) s₄:=by
  intro s₄ e4 ht4
  refine fJ ht4 ?_
  have J0:Inv (blk X N scope ⟨clGo X.env.cells scope.names [],h2.objs.size,{ s with heap:=h2 },upd H s.heap.objs.size (.lst []),fp,pins⟩) [] (capt ix σ) (upd H s.heap.objs.size (.lst [])) s₄ :=
   xu (s:={ s with heap:=h2 }) I3 hE hO S hfp3 (fun b hb=>let ⟨o,e⟩:=hfo b hb;⟨o,old b o e⟩) hns₁ hk1 e4
  generalize hX:blk X N scope ⟨clGo X.env.cells scope.names [],h2.objs.size,{ s with heap:=h2 },upd H s.heap.objs.size (.lst []),fp,pins⟩=Y at J0
  have eE:compEnvC scope (clGo X.env.cells scope.names []) h2.objs.size X.env=Y.env:=by rw [← hX];rfl
  have eP:X.prog=Y.prog:=by rw [← hX];rfl
  have eW:X.w=Y.w:=by rw [← hX];rfl
  have eA:X.A=Y.A:=by rw [← hX];rfl
  have eK:X.K=Y.K:=by rw [← hX];rfl
  have eC:Y.calm=true:=by rw [← hX];exact hc
  have T':Turn Y.prog Y.w Y.K tg J fp it tn:=by rw [← eP,← eW,← eK];exact T
  have st0:tn 0 s₄.heap:=T.keep _ _ _ st fun b hb o e=>by rw [e4];exact hk1 b o (old b o e)
  have fpY:∀ {H':Hp},(∀ b∈fp,H' b=none)→∀ b∈fp,FpOk Y [] H' b:=fun {H'} hn b hb=>by
   rw [← hX]
   have f:=hfp b hb
   refine ⟨hn b hb,?_,?_,.inl hb,?_,?_⟩
   ·have:=J0.ok.exf b (by rw [← hX];exact hb)
    rw [← hX] at this
    exact this.1
   ·have:=J0.ok.exfs b (by rw [← hX];exact hb)
    rw [← hX] at this
    exact this
   ·have:=J0.ok.exf b (by rw [← hX];exact hb)
    rw [← hX] at this
    exact this.2
   ·intro p hp
    have hp':p∈X.pn++pins:=by
     rcases List.mem_append.mp hp with z|z
     ·exact z
     ·cases z
    exact f.2.2.2.2.2 p hp'
  have accne:s.heap.objs.size∉fp:=fun z=>fne _ z rfl
  have never:∀ e s',Y.xe e s'→False:=by rw [← hX];exact fun _ _ z=>z
  have hgY:PG Y tg g:=by rw [← hX];exact hg _
  have htY:PTs Y ifs tt:=by rw [← hX];exact ht _
  have heY:PE Y elt te:=by rw [← hX];exact he _
  rw [eE,eP,eW,eA]
  refine nT (fun n s'=>∃ i σ' H',Inv Y [] σ' H' s'∧tn i s'.heap∧(∀ b∈fp,H' b=none)∧W i n σ' H') ?_ m0 ⟨0,capt ix σ,_,J0,st0,fun b hb=>(hfp3 b hb).1,w0⟩
  rintro n s5 ⟨i,σ5,H5,I5,st5,fr5,w5⟩
  rcases turn i n σ5 H5 w5 with ⟨stop,qn⟩|⟨go,M,hM,step⟩
  ·refine thn (T'.done Y rfl rfl rfl eC i [] s5 σ5 H5 _ I5 (fpY fr5) st5 stop) fun r s6 ⟨hr,I6⟩=>?_
   subst hr
   have I6':=I6
   rw [← hX] at I6'
   intro htk
   obtain ⟨a1,a2,a3,a4⟩:=uR (s:={ s with heap:=h2 }) I3 hfp3 I6' htk
   exact hRR _ _ H5 s6 a1 a2 a3 a4 qn
  ·refine thn (T'.item Y rfl rfl rfl eC i [] s5 σ5 H5 _ I5 (fpY fr5) st5 go) fun r s6 ⟨u,hr,h6⟩=>?_
   subst hr
   refine thn h6 fun _ s7 ⟨x,H7,I7,r7,y7,st7,fr7⟩=>?_
   have I7':=I7.pinned (fpY fr7) (T.obj _ _ st7)
   refine wpAny_mono (hgY _ s7 σ5 H7 x u _ I7' r7 (step x H7 y7)) (fun _ s8 ⟨σ8,H8,I8,q8⟩=>?_) fun e s' z=>(never e s' z).elim
   refine wpAny_mono (htY _ s8 σ8 H8 _ I8 q8) (fun ok s9 ⟨H9,I9,q9⟩=>?_) fun e s' z=>(never e s' z).elim
   have again:∀ {σa:St} {Ha:Hp} {sa:Shared},Inv Y ([]++pinsAt fp s7.heap) σa Ha sa→M σa Ha→∃ m,m < n∧∃ i σ' H',Inv Y [] σ' H' sa∧tn i sa.heap∧(∀ b∈fp,H' b=none)∧W i m σ' H':=fun {σa Ha sa} Ia na=>by
    obtain ⟨m',hm,wa⟩:=hM σa Ha na
    refine ⟨m',hm,i+1,σa,Ha,Ia.unpinned,T.keep _ _ _ st7 fun b hb o e=>(Ia.pin (b,o) (List.mem_append_right _ (List.mem_append_right _ (fg hb e)))).1,fun b hb=>?_,wa⟩
    obtain ⟨o,e,d⟩:=T.obj _ _ st7 b hb
    exact (Ia.pin (b,o) (List.mem_append_right _ (List.mem_append_right _ (fg hb e)))).2.1
   cases ok with
   | false =>
    rw [if_neg Bool.false_ne_true] at q9 ⊢
    exact again I9 q9
   | true =>
    rw [if_pos rfl] at q9 ⊢
    refine wpAny_mono (heY _ s9 σ8 H9 _ I9 q9) (fun y sb ⟨vb,Hb,Ib,rb,xs,hx,hz,nb⟩=>?_) fun e s' z=>(never e s' z).elim
    refine wpAny_mono (nL (X:=Y) _ sb σ8 Hb (.ref s.heap.objs.size) [vb] (.ref s.heap.objs.size) [y] (fun v H'=>M σ8 H') Ib rfl (.cons rb .nil) ⟨s.heap.objs.size,xs,vb,rfl,rfl,hx,hz,nb⟩) (fun _ sc ⟨vc,Hc,Ic,rc,nc⟩=>?_) fun e s' z=>(never e s' z).elim
    exact again Ic nc
 exact codeAny_compStart_list (fin _ rfl (by walk_at "tok")) (T.self _ 0 _ _ _ (T.keep _ _ _ st fun b hb o e=>hk1 b o (old b o e)) (fin _ rfl (by walk_at "tok")))
theorem vF (S:CScope osc ON N ix scope) (hE:X.env.scope=osc) (hO:X.N=ON) (hc:X.calm=true) (hi:PI X tg iter wi) (hg:∀ b,PG (blk X N scope b) tg g) (ht:∀ b,PTs (blk X N scope b) ifs tt) (he:∀ b,PE (blk X N scope b) elt te)
  (hs:∀ x,foldedSetIterable iter X.env x=pure x:=by intro _;rfl):PE X (.ListComp elt [⟨tg,iter,ifs,0⟩] scope pos) (tComp ix wi g tt te):=by
 intro pins s σ H Q I h
 rw [eval_ListComp]
 have hcells:∀ y∈scope.names,y.2=.free→∃ c,X.env.cells.lookup y.1=some c:=fun y hy e=>I.ok.has y.1 (by subst hE;exact S.outs y hy e)
 refine wpAny_comprehension_free (use:=none) rfl hs (gc hcells) S.kind S.names (thn (hi pins s σ H _ I h) fun v s1 h1=>thn h1 fun itv s2 h2=>?_)
 obtain ⟨it,fp,tn,J,H2,e,I2,T,st2,f2,q⟩:=h2
 subst e
 refine nI (RR:=fun acc C=>compPost (model X.prog X.w) X.A X.xe none (EP X pins σ Q) acc C) S hE hO hc hg ht he I2 T st2 f2 q fun acc C H' s' I' hn hC fC q'=>?_
 obtain ⟨m,hn⟩:=hn
 refine ⟨m,hn,fun h' sb=>⟨.ref acc,H',?_,rfl,q'⟩⟩
 obtain ⟨f0,f1,f2',f3,f4,f5⟩:=fC
 exact I'.turned (t':=s'.toks) (fun b o hb e=>(sb.2 b hb).trans e) f0 f1 f3 f4 f5
theorem rd {i:Nat} {x:Str} {spos pos':Pos} (hN:X.N.Nodup) (hx:X.N[i]?=some x) (hl:Loc X.env.scope x) (S:CScope osc ON N ix scope) (hE:X.env.scope=osc) (hO:X.N=ON) (hc:X.calm=true) (hi:PI X tg iter wi) (hg:∀ b,PG (blk X N scope b) tg g) (ht:∀ b,PTs (blk X N scope b) ifs tt) (he:∀ b,PE (blk X N scope b) elt te)
  (hsw:swapsWith (.ListComp elt [⟨tg,iter,ifs,0⟩] scope pos) (some (.Name x pos')) spos.line X.env=pure true:=by rfl)
  (hf:X.fn x=true∨X.env.scope.names.lookup x=some .local:=by first|exact .inl rfl|exact .inr rfl|assumption)
  (hs:∀ x,foldedSetIterable iter X.env x=pure x:=by intro _;rfl):PS X (.Assign [.Name x pos'] (.ListComp elt [⟨tg,iter,ifs,0⟩] scope pos) spos) (tAsg (tComp ix wi g tt te) (gName i)):=by
 intro pins s σ H D I h
 rw [exec_Assign_Name_used _ _ _ _ hsw]
 refine wpAny_bind (wpAny_standAt (wpAny_bind ?_))
 have hcells:∀ y∈scope.names,y.2=.free→∃ c,X.env.cells.lookup y.1=some c:=fun y hy e=>I.ok.has y.1 (by subst hE;exact S.outs y hy e)
 show wpAny _ X.A (do let _ ← comprehension (.ListComp elt [⟨tg,iter,ifs,0⟩] scope pos) scope X.env _ (newList []) false (eval iter X.env) (some (assign (.Name x pos') X.env))) _ _ s
 refine wpAny_bind (wpAny_mono (wpAny_comprehension_free (use:=some (assign (.Name x pos') X.env)) (Q:=fun _ s'=>SP X pins D .next s') rfl hs (gc hcells) S.kind S.names
  (thn (hi pins s σ H _ I h) fun v s1 h1=>thn h1 fun itv s2 h2=>?_)) (fun _ s' hq=>wpAny_pure (wpAny_pure hq)) fun _ _ e=>e)
 obtain ⟨it,fp,tn,J,H2,e,I2,T,st2,f2,q⟩:=h2
 subst e
 refine nI (RR:=fun acc C=>compPost (model X.prog X.w) X.A X.xe (some (assign (.Name x pos') X.env)) (fun _ s'=>SP X pins D .next s') acc C) S hE hO hc hg ht he I2 T st2 f2 q fun acc C H' s' I' hn hC fC q'=>?_
 obtain ⟨m,hn⟩:=hn
 have hob:∃ o,s'.heap.get? C=some o∧∀ v,o.data≠.cell v:=by
  obtain ⟨o,es,ep,ho,hd,_⟩:=hn
  exact ⟨o,ho,fun v z=>by rw [hd] at z;cases z⟩
 have only:∀ b∈[C],b=C:=fun b hb=>by simpa using hb
 have I1:=I'.pinned (fp:=[C]) (fun b hb=>(only b hb) ▸ fC) (fun b hb=>(only b hb) ▸ hob)
 refine wpAny_mono (uH (pos:=pos') hN hx hl hf (pins++pinsAt [C] s'.heap) s' σ H' (.ref acc) (.ref acc) D.nx I1 rfl q') (fun _ s'' ⟨σ2,H2,I2',q2⟩=>?_) fun _ _ z=>z
 obtain ⟨o,ho,hd⟩:=hob
 have pn:=I2'.pin (C,o) (List.mem_append_right _ (List.mem_append_right _ (fg (by simp) ho)))
 refine ⟨m,hn.at' fun o' e=>by rw [ho] at e;cases e;exact pn.1,fun h' sb=>⟨σ2,H2,?_,q2⟩⟩
 obtain ⟨f0,f1,f2',f3,f4,f5⟩:=fC
 exact I2'.unpinned.turned (t':=s''.toks) (fun b o hb e=>(sb.2 b hb).trans e) pn.2.1 f1 f3 f4 f5
end
end L2
namespace L2
open PySem PySem.Spec PyProof.Rows
theorem lV {P:Program} {w:World} {K:PySem.W.Frag} {tg:Expr} {it:Addr} {n:Nat} {St:Nat→Heap→Prop} {Pv:Nat→Value→Prop} {J:It} (W:∀ A:Around,A.handled=none→Walks P w A it [it] [it] n Pv St)
  (ob:∀ i h,St i h→∃ (o:Obj) (nm:String) (vs:Array Value),h.get? it=some o∧o.cls=.type nm∧o.data=.fields vs∧["enumerate","zip","dict_itemiterator","dict_reverseitemiterator","odict_iterator","itertools.zip_longest","itertools.pairwise"].contains nm=false)
  (go:∀ i H,J.go i H→i < n) (yl:∀ i H u,J.go i H→Pv i u→∃ x,RelV x u∧J.yld i H x H) (dn:∀ i h H,J.stop i H→St i h→St n h)
  (self:∀ (A:Around) (i:Nat) (s:Shared) (Q:Value→Shared→Prop) (E:Value→Shared→Prop),St i s.heap→Q (.ref it) s→wpAny (model P w) A (pyIter (.ref it)) Q E s):Turn P w K tg J [it] it St where
 mem:=by simp
 obj:=fun i h st b hb=>by
  have e:b=it:=by simpa using hb
  subst e
  obtain ⟨o,nm,vs,h1,h2,h3,h4⟩:=ob i h st
  exact ⟨o,h1,fun v z=>by rw [h3] at z;cases z⟩
 keep:=fun i h h' st k=>(W {} rfl).frame i h h' st fun b hb o e=>k b hb o e
 item:=by
  intro X hP hw hK hc i pins s σ H E I hf st hg
  subst hP hw hK
  obtain ⟨f0,f1,f2,f3,f4,f5⟩:=hf it (by simp)
  refine br I.tk ((W X.A (I.ok.hd hc)).item i s _ _ (go i H hg) st fun v h' tk hv st' kk htk=>?_)
  have I1:Inv X pins σ H { s with heap:=h',toks:=tk }:=I.turned (fun b o hb e=>kk b o (by simpa using hb) e) f0 f1 f3 f4 f5
  obtain ⟨x,rx,yx⟩:=yl i H v hg hv
  obtain ⟨o,nm,vs,h1,h2,h3,h4⟩:=ob (i+1) h' st'
  exact ⟨v,rfl,vD (s:={ s with heap:=h',toks:=tk }) h1 h2 h3 h4 ⟨x,H,I1,rx,yx,st',fun b hb=>(hf b hb).1⟩⟩
 done:=by
  intro X hP hw hK hc i pins s σ H E I hf st hg
  subst hP hw hK
  obtain ⟨f0,f1,f2,f3,f4,f5⟩:=hf it (by simp)
  exact br I.tk ((W X.A (I.ok.hd hc)).done s _ _ (dn i s.heap H hg st) fun h' tk kk htk=>⟨rfl,I.turned (fun b o hb e=>kk b o (by simpa using hb) e) f0 f1 f3 f4 f5⟩)
 self:=self
noncomputable def Its (z:Str):It:=⟨fun i _=>i < z.length,fun i H x H'=>H'=H∧∃ c,z.cps[i]?=some c∧x=.str ⟨#[c]⟩,fun i _=>i=z.length⟩
theorem wd {z:Str} {i:Nat} {H:Hp} {u:Value} (h:SignAt z i u):∃ x,RelV x u∧(Its z).yld i H x H:=by
 obtain ⟨c,t,e1,rfl⟩:=h
 exact ⟨.str ⟨#[c]⟩,⟨t,rfl⟩,rfl,c,e1,rfl⟩
theorem qI {P:Program} {w:World} {K:PySem.W.Frag} {tg:Expr} (it:Addr) (z:Str) (t:Tok):Turn P w K tg (Its z) [it] it (fun i h=>h.IsStrIter it "str_ascii_iterator" z t i) :=
 lV (n:=z.cps.size) (Pv:=SignAt z) (fun A hA=>Walks.strAscii hA it z t) (fun i h ⟨o,e,c,d⟩=>⟨o,_,_,e,c,d,by decide⟩) (fun i H h=>h) (fun i H u _ h=>wd h) (fun i h H e st=>by
  have e':i=z.cps.size:=e
  rw [← e'];exact st) fun A i s Q E st h=>wpAny_pyIter_striter_ascii st h
theorem tL {P:Program} {w:World} {K:PySem.W.Frag} {tg:Expr} (it:Addr) (z:Str) (t:Tok):Turn P w K tg (Its z) [it] it (fun i h=>h.IsStrIter it "str_iterator" z t i) :=
 lV (n:=z.cps.size) (Pv:=SignAt z) (fun A hA=>Walks.strWide hA it z t) (fun i h ⟨o,e,c,d⟩=>⟨o,_,_,e,c,d,by decide⟩) (fun i H h=>h) (fun i H u _ h=>wd h) (fun i h H e st=>by
  have e':i=z.cps.size:=e
  rw [← e'];exact st) fun A i s Q E st h=>wpAny_pyIter_striter_wide st h
section
variable {X:Cx} {tg:Expr}
end
section
variable {X:Cx}
end
end L2
namespace L2
open PySem PySem.Spec PyProof.Rows
theorem PE.imp {X:Cx} {e:Expr} {t t':TE} (h:PE X e t) (i:∀ σ H Q,t' σ H Q→t σ H Q):PE X e t':=fun pins s σ H Q I q=>h pins s σ H Q I (i σ H Q q)
theorem OpR.imp {X:Cx} {f:Value→Value→Sem Value} {r r':R2} (h:OpR X f r) (i:∀ x y H Q,r' x y H Q→r x y H Q):OpR X f r':=fun pins s σ H x y v u Q I a b q=>h pins s σ H x y v u Q I a b (i x y H Q q)
theorem UnR.imp {X:Cx} {f:Value→Sem Value} {r r':V→Hp→VK→Prop} (h:UnR X f r) (i:∀ x H Q,r' x H Q→r x H Q):UnR X f r':=fun pins s σ H x v Q I a q=>h pins s σ H x v Q I a (i x H Q q)
theorem CallR.imp {X:Cx} {f:Value} {r r':List V→Hp→VK→Prop} (h:CallR X f r) (i:∀ xs H Q,r' xs H Q→r xs H Q):CallR X f r':=fun pins s σ H xs us Q I a q=>h pins s σ H xs us Q I a (i xs H Q q)
theorem IxR.imp {X:Cx} {r r':R2} (h:IxR X r) (i:∀ x y H Q,r' x y H Q→r x y H Q):IxR X r':=fun value slice pins s σ H x y v u Q I rx ry q hs=>h value slice pins s σ H x y v u Q I rx ry (i x y H Q q) hs
theorem SlR.imp {X:Cx} {r r':V→Option Int→Option Int→Hp→VK→Prop} (h:SlR X r) (i:∀ x l u H Q,r' x l u H Q→r x l u H Q):SlR X r':=fun pins s σ H x v vl vu lo hi sl Q I rx hs pl pu q=>h pins s σ H x v vl vu lo hi sl Q I rx hs pl pu (i x lo hi H Q q)
section
variable {X:Cx} {a b:Expr} {ta tb:TE} {pos:Pos} {rest:List Expr}
noncomputable def kVar (o:Option (Option V)) (H:Hp) (Q:VK):Prop:=match o with
 | some (some v)=>Q v H
 | _=>False
noncomputable def uVar (i:Nat):TE:=fun σ H Q=>kVar σ[i]? H Q
theorem qv (i:Nat) {x:Str} {pos:Pos} (hN:X.N[i]?=some x:=by rfl) (hv:Vis X.env.scope x:=by first|exact Or.inl rfl|exact Or.inr (Or.inl rfl)|exact Or.inr (Or.inr rfl)) (hd:(x==("__debug__":Str))=false:=by decide)
  (hcd:(x==("__classdict__":Str))=false:=by decide):PE X (.Name x pos) (uVar i):=(yY hN hv hd hcd).imp fun σ H Q q=>by
 unfold uVar kVar at q
 split at q
 ·rename_i v e
  exact ⟨v,e,q⟩
 ·exact q.elim
noncomputable def kAnd (tb:TE) (σ:St) (Q:VK):VK:=fun x H1=>match x with
 | .bl c=>if c=true then tb σ H1 Q else Q (.bl false) H1
 | _=>False
noncomputable def uAnd (ta tb:TE):TE:=fun σ H Q=>ta σ H (kAnd tb σ Q)
noncomputable def kOr (tb:TE) (σ:St) (Q:VK):VK:=fun x H1=>match x with
 | .bl c=>if c=true then Q (.bl true) H1 else tb σ H1 Q
 | _=>False
noncomputable def uOr (ta tb:TE):TE:=fun σ H Q=>ta σ H (kOr tb σ Q)
noncomputable def kNot (Q:VK):VK:=fun x H1=>match x with
 | .bl c=>Q (.bl (!c)) H1
 | _=>False
noncomputable def uNot (ta:TE):TE:=fun σ H Q=>ta σ H (kNot Q)
theorem xQ (ha:PE X a ta) (hb:PE X (.BoolOp .And (b::rest) pos) tb):PE X (.BoolOp .And (a::b::rest) pos) (uAnd ta tb):=by
 intro pins s σ H Q I h
 refine BoolOp_and (thn (ha pins s σ H _ I h) fun v s1 hh=>exF hh fun x H1 I1 r1 q1=>?_)
 cases x with
 | bl c =>
  cases r1
  refine wpAny_truthy_bool ?_
  cases c with
  | true=>exact hb pins s1 σ H1 Q I1 q1
  | false=>exact ⟨.bl false,H1,I1,rfl,q1⟩
 | _=>exact q1.elim
theorem A5 (ha:PE X a ta) (hb:PE X (.BoolOp .Or (b::rest) pos) tb):PE X (.BoolOp .Or (a::b::rest) pos) (uOr ta tb):=by
 intro pins s σ H Q I h
 refine BoolOp_or (thn (ha pins s σ H _ I h) fun v s1 hh=>exF hh fun x H1 I1 r1 q1=>?_)
 cases x with
 | bl c =>
  cases r1
  refine wpAny_truthy_bool ?_
  cases c with
  | false=>exact hb pins s1 σ H1 Q I1 q1
  | true=>exact ⟨.bl true,H1,I1,rfl,q1⟩
 | _=>exact q1.elim
theorem zk (ha:PE X a ta):PE X (.UnaryOp .Not a pos) (uNot ta):=by
 intro pins s σ H Q I h
 refine UnaryOp_ (thn (ha pins s σ H _ I h) fun v s1 hh=>exF hh fun x H1 I1 r1 q1=>?_)
 cases x with
 | bl c =>
  cases r1
  exact not_of (wpAny_truthy_bool ⟨.bl (!c),H1,I1,rfl,q1⟩)
 | _=>exact q1.elim
noncomputable def kTest (Q:Bool→Hp→Prop):VK:=fun x H'=>match x with
 | .bl k=>Q k H'
 | _=>False
noncomputable def uTest (t:TE):TT:=fun σ H Q=>t σ H (kTest Q)
theorem wZ {op:CmpOp} {r:R2} (ho:OpR X (compareOp op) r) (ha:PE X a ta) (hb:PE X b tb) (hm:behindInMarks op b=false):PT X (.Compare a [op] [b] pos) (uTest (tOp r ta tb)):=by
 intro pins s σ H Q I h
 refine wpAny_isTrue_Compare1 (thn (ha pins s σ H _ I h) fun v s1 hh=>exF hh fun x H1 I1 r1 q1=>thn (hb pins s1 σ H1 _ I1 q1) fun u s2 hh=>exF hh fun y H2 I2 r2 q2 =>
  thn (ho pins s2 σ H2 x y v u _ I2 r1 r2 q2) fun c s3 hh=>exF hh fun z H3 I3 r3 q3=>?_) hm
 cases z with
 | bl k =>
  cases r3
  exact wpAny_truthy_bool ⟨H3,I3,q3⟩
 | _=>exact q3.elim
noncomputable def kTru (K:PySem.W.Frag) (Q:Bool→Hp→Prop):VK:=fun x H=>match x with
 | .non=>Q false H
 | .bl b=>Q b H
 | .int i=>Q (i != 0) H
 | .str y=>y.length≤sizeLine∧Q ((y.length:Int) != 0) H
 | .ref p=>((∃ xs,SqL K H p xs∧Q (!xs.isEmpty) H)∨(∃ xs,SqT K H p xs∧Q (!xs.isEmpty) H))∨∃ kvs,H p=some (.dK kvs)∧Q (!kvs.isEmpty) H
 | _=>False
noncomputable def uTruth (K:PySem.W.Frag) (ta:TE):TT:=fun σ H Q=>ta σ H (kTru K Q)
theorem uK (K:PySem.W.Frag) (ha:PE X a ta) (he:∀ whole,isTrue a X.env whole=(do let v ← whole;standAt a.pos;holding [v] (truthy v))) (hK:X.K=K:=by rfl) :
  PT X a (uTruth K ta):=by
 subst hK
 intro pins s σ H Q I h
 refine isTrue_plain (thn (ha pins s σ H _ I h) fun v s1 hh=>exF hh fun x H1 I1 r1 q1=>zr pins s1 σ H1 x v Q I1 r1 ?_) (he _)
 cases x with
 | non=>exact ⟨_,rfl,q1⟩
 | bl b=>exact ⟨_,rfl,q1⟩
 | int i=>exact ⟨_,rfl,q1⟩
 | str y=>exact ⟨_,⟨q1.1,rfl⟩,q1.2⟩
 | ref p =>
  rcases q1 with (⟨xs,h1,h2⟩|⟨xs,h1,h2⟩)|⟨xs,h1,h2⟩
  ·exact ⟨_,.inl ⟨xs,h1,rfl⟩,h2⟩
  ·exact ⟨_,.inr (.inl ⟨xs,h1,rfl⟩),h2⟩
  ·exact ⟨_,.inr (.inr ⟨xs,h1,rfl⟩),h2⟩
 | _=>exact q1.elim
noncomputable def uSub:R2:=fun x y H Q=>match x,y with
 | .int i,.int j=>Q (.int (i - j)) H
 | _,_=>False
theorem oSub:OpR X (binaryOp .Sub) uSub:=yS.imp fun x y H Q q=>by
 unfold uSub at q
 split at q
 ·exact ⟨_,_,rfl,rfl,q⟩
 ·exact q.elim
noncomputable def uDiv:R2:=fun x y H Q=>match x,y with
 | .int i,.int j=>CDiv i j∧Q (.int (i/j)) H
 | _,_=>False
theorem oDiv:OpR X (binaryOp .FloorDiv) uDiv:=xB.imp fun x y H Q q=>by
 unfold uDiv at q
 split at q
 ·exact ⟨_,_,rfl,rfl,q.1,q.2⟩
 ·exact q.elim
noncomputable def uMod:R2:=fun x y H Q=>match x,y with
 | .int i,.int j=>0 < j∧Q (.int (i % j)) H
 | _,_=>False
theorem oMod:OpR X (binaryOp .Mod) uMod:=zQ.imp fun x y H Q q=>by
 unfold uMod at q
 split at q
 ·exact ⟨_,_,rfl,rfl,q.1,q.2⟩
 ·exact q.elim
noncomputable def uPow:R2:=fun x y H Q=>match x,y with
 | .int i,.int j=>CPow i j∧Q (.int (i ^ j.toNat)) H
 | _,_=>False
theorem oPow:OpR X (binaryOp .Pow) uPow:=y0.imp fun x y H Q q=>by
 unfold uPow at q
 split at q
 ·exact ⟨_,_,rfl,rfl,q.1,q.2⟩
 ·exact q.elim
noncomputable def uNeg (x:V) (H:Hp) (Q:VK):Prop:=match x with
 | .int i=>Q (.int (-i)) H
 | _=>False
theorem oNeg:UnR X (unaryOp .USub) uNeg:=zP.imp fun x H Q q=>by
 unfold uNeg at q
 split at q
 ·exact ⟨_,rfl,q⟩
 ·exact q.elim
theorem uw:OpR X (compareOp .GtE) (fun x y H Q=>∃ i j,x=.str i∧y=.str j∧Q (.bl (!decide (i.cps.toList < j.cps.toList))) H):=by
 intro pins s σ H x y v u Q I rx ry h
 obtain ⟨i,j,rfl,rfl,q⟩:=h
 obtain ⟨t,rfl⟩:=rx
 obtain ⟨t',rfl⟩:=ry
 exact P.ge_str (aS I q rfl)
theorem tV:OpR X (compareOp .Gt) (fun x y H Q=>∃ i j,x=.str i∧y=.str j∧Q (.bl (decide (j.cps.toList < i.cps.toList))) H):=by
 intro pins s σ H x y v u Q I rx ry h
 obtain ⟨i,j,rfl,rfl,q⟩:=h
 obtain ⟨t,rfl⟩:=rx
 obtain ⟨t',rfl⟩:=ry
 exact P.gt_str (aS I q rfl)
noncomputable def uLt:R2:=fun x y H Q=>match x,y with
 | .int i,.int j=>Q (.bl (decide (i < j))) H
 | .str i,.str j=>Q (.bl (decide (i.cps.toList < j.cps.toList))) H
 | _,_=>False
noncomputable def uGt:R2:=fun x y H Q=>match x,y with
 | .int i,.int j=>Q (.bl (decide (j < i))) H
 | .str i,.str j=>Q (.bl (decide (j.cps.toList < i.cps.toList))) H
 | _,_=>False
noncomputable def uGe:R2:=fun x y H Q=>match x,y with
 | .int i,.int j=>Q (.bl (decide (j≤i))) H
 | .str i,.str j=>Q (.bl (!decide (i.cps.toList < j.cps.toList))) H
 | _,_=>False
theorem oLt:OpR X (compareOp .Lt) uLt:=(z4.or ur).imp fun x y H Q q=>by
 unfold uLt at q
 split at q
 ·exact .inl ⟨_,_,rfl,rfl,q⟩
 ·exact .inr ⟨_,_,rfl,rfl,q⟩
 ·exact q.elim
theorem oGt:OpR X (compareOp .Gt) uGt:=(AV.or tV).imp fun x y H Q q=>by
 unfold uGt at q
 split at q
 ·exact .inl ⟨_,_,rfl,rfl,q⟩
 ·exact .inr ⟨_,_,rfl,rfl,q⟩
 ·exact q.elim
theorem oGe:OpR X (compareOp .GtE) uGe:=(AG.or uw).imp fun x y H Q q=>by
 unfold uGe at q
 split at q
 ·exact .inl ⟨_,_,rfl,rfl,q⟩
 ·exact .inr ⟨_,_,rfl,rfl,q⟩
 ·exact q.elim
theorem uN:OpR X (compareOp .Is) (fun x y H Q=>∃ j,y=.bl j∧Q (.bl (decide (x=.bl j))) H):=by
 intro pins s σ H x y v u Q I rx ry h
 obtain ⟨j,rfl,q⟩:=h
 cases ry
 cases x with
 | bl i=>cases rx;exact wpAny_is_plain rfl (aS I q (by cases i <;> cases j <;> rfl))
 | non=>cases rx;exact wpAny_is_plain rfl (aS I q (by simp))
 | int i=>obtain ⟨t,rfl⟩:=rx;exact wpAny_is_plain rfl (aS I q (by simp))
 | str i=>obtain ⟨t,rfl⟩:=rx;exact wpAny_is_plain rfl (aS I q (by simp))
 | byt i=>obtain ⟨t,rfl⟩:=rx;exact wpAny_is_plain rfl (aS I q (by simp))
 | flt i=>obtain ⟨t,rfl⟩:=rx;exact wpAny_is_plain rfl (aS I q (by simp))
 | ref i=>cases rx;exact wpAny_is_plain rfl (aS I q (by simp))
 | ty i=>cases rx;exact wpAny_is_plain rfl (aS I q (by simp))
noncomputable def isV:V→V→Bool
 | .non,.non=>true
 | .bl i,.bl j=>i==j
 | _,_=>false
noncomputable def uIs:R2:=fun x y H Q=>match y with
 | .non=>Q (.bl (isV x .non)) H
 | .bl j=>Q (.bl (isV x (.bl j))) H
 | _=>False
theorem xw (x:V):decide (x=.non)=isV x .non:=by cases x <;> simp [isV]
theorem zb (x:V) (j:Bool):decide (x=.bl j)=isV x (.bl j):=by
 cases x with
 | bl i=>cases i <;> cases j <;> rfl
 | _=>simp [isV]
theorem oIs:OpR X (compareOp .Is) uIs:=(yb.or uN).imp fun x y H Q q=>by
 unfold uIs at q
 split at q
 ·exact .inl ⟨rfl,by rw [xw];exact q⟩
 ·exact .inr ⟨_,rfl,by rw [zb];exact q⟩
 ·exact q.elim
noncomputable def uIx (K:PySem.W.Frag):R2:=fun x y H Q=>match x,y with
 | .str z,.int i=>∃ c,z.length≤sizeLine∧atI z.cps.toList i=some c∧Q (.str ⟨#[c]⟩) H
 | .ref p,.int i=>∃ xs v,(SqL K H p xs∨SqT K H p xs)∧atI xs i=some v∧Q v H
 | _,_=>False
theorem oIx0:IxR X (uIx X.K):=x5.imp fun x y H Q q=>by
 unfold uIx at q
 split at q
 ·obtain ⟨c,h1,h2,h3⟩:=q
  exact .inr (.inr ⟨_,_,c,rfl,rfl,h1,h2,h3⟩)
 ·obtain ⟨xs,v,h1|h1,h2,h3⟩:=q
  ·exact .inl ⟨_,xs,_,v,rfl,rfl,h1,h2,h3⟩
  ·exact .inr (.inl ⟨_,xs,_,v,rfl,rfl,h1,h2,h3⟩)
 ·exact q.elim
theorem oIx (K:PySem.W.Frag) (hK:X.K=K:=by rfl):IxR X (uIx K):=by
 subst hK
 exact oIx0
noncomputable def uLen (K:PySem.W.Frag) (xs:List V) (H:Hp) (Q:VK):Prop:=match xs with
 | [.str y]=>y.length≤sizeLine∧Q (.int y.length) H
 | [.ref p]=>∃ ys,(SqL K H p ys∨SqT K H p ys)∧Q (.int ys.length) H
 | _=>False
theorem qLen0:CallR X (.builtin "len") (uLen X.K):=(oA.or ou).imp fun xs H Q q=>by
 unfold uLen at q
 split at q
 ·exact .inl ⟨_,rfl,q.1,q.2⟩
 ·obtain ⟨ys,h1,h2⟩:=q
  exact .inr ⟨_,ys,rfl,h1,h2⟩
 ·exact q.elim
theorem qLen (K:PySem.W.Frag) (hK:X.K=K:=by rfl):CallR X (.builtin "len") (uLen K):=by
 subst hK
 exact qLen0
noncomputable def uInt (xs:List V) (H:Hp) (Q:VK):Prop:=match xs with
 | [.int i]=>Q (.int i) H
 | [.bl k]=>Q (.int (if k=true then 1 else 0)) H
 | _=>False
theorem qInt:CallR X (.type "int") uInt:=sX.imp fun xs H Q q=>by
 unfold uInt at q
 split at q
 ·exact .inl ⟨_,rfl,q⟩
 ·exact .inr ⟨_,rfl,q⟩
 ·exact q.elim
end
end L2
namespace L2
open PySem PySem.Spec PyProof.Rows
noncomputable def noStar:Expr→Bool
 | .Starred ..=>false
 | _=>true
theorem cJ {e:Expr} {es:List Expr} {env:Env} (h:noStar e=true):starEach (e::es) env=(false,eval e env)::starEach es env:=by
 cases e <;> first|rfl|cases h
theorem dX {env:Env} {pos:Pos}:∀ {es:List Expr},es.all noStar=true→(backTo pos (starEach es env)).any (·.1)=false
 | [],_=>rfl
 | e::es,h=>by
  rw [List.all_cons,Bool.and_eq_true] at h
  rw [cJ h.1]
  have ih:=dX (env:=env) (pos:=pos) h.2
  show (false||(backTo pos (starEach es env)).any (·.1))=false
  rw [ih]
  rfl
theorem wn {X:Cx} {e:Expr} {es:List Expr} {te:TE} {t:TA} (ha:PE X e te) (hr:PA X es t) (hn:noStar e=true:=by rfl):PA X (e::es) (tCons te t):=xn ha hr (cJ hn)
section
variable {X:Cx} {x:Str} {p pos:Pos} {e:Expr} {es:List Expr} {t:TA} {id T:String} {r:List V→Hp→VK→Prop}
theorem qc_b (hc:CallR X (.builtin id) r) (hm:X.mg x=none) (hv:bootBuiltins x=some (.builtin id)) (ha:PA X (e::es) t) (hg:Gl X x:=by rfl) (h1:noStar e=true:=by rfl) (h2:es.all noStar=true:=by rfl) (hn:x≠"__name__":=by decide) (hdb:(x==("__debug__":Str))=false:=by decide) :
  PE X (.Call (.Name x p) (e::es) [] pos) (tCB r t):=vy hc hg hm hv ha hn hdb (cJ h1) (dX h2)
theorem qc_t (hc:CallR X (.type T) r) (hm:X.mg x=none) (hv:bootBuiltins x=some (.type T)) (ha:PA X (e::es) t) (hg:Gl X x:=by rfl) (h1:noStar e=true:=by rfl) (h2:es.all noStar=true:=by rfl) (hn:x≠"__name__":=by decide) (hdb:(x==("__debug__":Str))=false:=by decide) :
  PE X (.Call (.Name x p) (e::es) [] pos) (tCB r t):=sT hc hg hm hv ha hn hdb (cJ h1) (dX h2)
end
theorem bD:bootBuiltins "len"=some (.builtin "len"):=by decide +kernel
theorem aP:bootBuiltins "isinstance"=some (.builtin "isinstance"):=by decide +kernel
theorem nU:bootBuiltins "str"=some (.type "str"):=by decide +kernel
theorem wc:bootBuiltins "int"=some (.type "int"):=by decide +kernel
theorem xH:bootBuiltins "bool"=some (.type "bool"):=by decide +kernel
theorem kE:bootBuiltins "list"=some (.type "list"):=by decide +kernel
theorem eJ:bootBuiltins "tuple"=some (.type "tuple"):=by decide +kernel
theorem nC:bootBuiltins "enumerate"=some (.type "enumerate"):=by decide +kernel
theorem AX {X:Cx} {x:Str} {n:String} {pos:Pos} (hm:X.mg x=none) (hv:bootBuiltins x=some (.type n)) (hg:Gl X x:=by rfl) (hn:x≠"__name__":=by decide) (hd:(x==("__debug__":Str))=false:=by decide):PE X (.Name x pos) (tC (.ty n)) :=
 wM (v:=.ty n) hg hm hv rfl hn hd
noncomputable def subT (T C:String):Bool:=T==C||(T=="bool"&&C=="int")
noncomputable def known (C:String):Bool:=C=="str"||C=="int"||C=="bool"||C=="list"||C=="tuple"||C=="dict"
theorem ig {K:PySem.W.Frag} {T C:String} (hT:T="NoneType"∨T="bool"∨T="int"∨T="str"∨T="list"∨T="tuple"∨T="dict") (hC:known C=true):PySem.W.kitOne K (.type T) (.type C)=some (subT T C):=by
 have hC':C="str"∨C="int"∨C="bool"∨C="list"∨C="tuple"∨C="dict":=by
  unfold known at hC
  simp only [Bool.or_eq_true,beq_iff_eq] at hC
  rcases hC with ((((h|h)|h)|h)|h)|h <;> simp [h]
 rcases hT with h|h|h|h|h|h|h <;> subst h <;> rcases hC' with h|h|h|h|h|h <;> subst h <;> first|rfl|decide +kernel
section
variable {X:Cx}
noncomputable def kPart (Q:Option Int→Hp→Prop):VK:=fun x H1=>match x with
 | .int i=>Q (some i) H1
 | _=>False
noncomputable def uPart (t:TE):TO:=fun σ H Q=>t σ H (kPart Q)
theorem wD {e:Expr} {te:TE} (h:PE X e te):PO X (some e) (uPart te):=by
 intro pins s σ H Q I hw
 rw [evalPart_some]
 refine thn (h pins s σ H _ I hw) fun u s1 hh=>exF hh fun x H1 I1 r1 q1=>?_
 cases x with
 | int i =>
  obtain ⟨t,rfl⟩:=r1
  exact ⟨some i,H1,I1,.int i t,q1⟩
 | _=>exact q1.elim
noncomputable def cutS (z:Str) (lo hi:Option Int):Str:=⟨((z.cps.toList.drop (HT.sIx z.length 0 lo)).take (HT.sIx z.length z.length hi - HT.sIx z.length 0 lo)).toArray⟩
theorem clipS (v:Int) (n d:Nat):max 0 (min (if v < 0 then v+(n:Int) else v) (n:Int))=((HT.sIx n d (some v):Nat):Int):=by
 show _=(((if v < 0 then (v+(n:Int)).toNat else min v.toNat n):Nat):Int)
 by_cases hv:v < 0
 ·simp only [if_pos hv];omega
 ·simp only [if_neg hv];omega
theorem loS (lo:Option Int) (n:Nat):(match lo with|none=>(0:Int)|some i=>max 0 (min (if i < 0 then i+(n:Int) else i) (n:Int)))=((HT.sIx n 0 lo:Nat):Int):=by
 cases lo with
 | none=>rfl
 | some v=>exact clipS v n 0
theorem hiS (hi:Option Int) (n:Nat):(match hi with|none=>(n:Int)|some i=>max 0 (min (if i < 0 then i+(n:Int) else i) (n:Int)))=((HT.sIx n n hi:Nat):Int):=by
 cases hi with
 | none=>rfl
 | some v=>exact clipS v n n
theorem idxS (lo hi:Option Int) (n:Nat):Builtin.Str.strSliceIndices lo hi 1 n=sliceRange ((HT.sIx n 0 lo:Nat):Int) ((HT.sIx n n hi:Nat):Int) 1:=by
 have h1:((1:Int) > 0)=True:=by simp
 simp only [Builtin.Str.strSliceIndices,h1,if_true]
 rw [← loS,← hiS]
 cases lo <;> cases hi <;> rfl
theorem idxN (a b n:Nat) (ha:a≤n) (hb:b≤n):Builtin.Str.strSliceIndices (some (a:Int)) (some (b:Int)) 1 n=sliceRange (a:Int) (b:Int) 1:=by
 rw [idxS,HT.jC,HT.jC,Nat.min_eq_left ha,Nat.min_eq_left hb]
theorem rG (z:Str) (lo hi:Option Int):Txt.slice z lo hi=cutS z lo hi:=by
 have ha:=HT.r8 z.length 0 (Nat.zero_le _) lo
 have hb:=HT.r8 z.length z.length (Nat.le_refl _) hi
 unfold Txt.slice
 rw [idxS,← idxN _ _ _ ha hb]
 unfold cutS
 generalize HT.sIx z.length 0 lo=a at ha ⊢
 generalize HT.sIx z.length z.length hi=b at hb ⊢
 by_cases hab:a≤b
 ·exact StrLaws.sliceText_nat z hab hb
 ·have e:Builtin.Str.strSliceIndices (some (a:Int)) (some (b:Int)) 1 z.length=[]:=by
   have h1:((1:Int) > 0)=True:=by simp
   have n1:¬ ((a:Int) < 0):=by omega
   have n2:¬ ((b:Int) < 0):=by omega
   have e1:max (0:Int) (min (a:Int) (z.length:Int))=a:=by omega
   have e2:max (0:Int) (min (b:Int) (z.length:Int))=b:=by omega
   simp only [Builtin.Str.strSliceIndices,sliceRange,h1,if_true,if_neg n1,if_neg n2,e1,e2]
   rw [if_neg (by omega)]
   rfl
  have e0:b - a=0:=by omega
  rw [e,e0,List.take_zero]
  split
  ·rename_i h
   have hz:z.length=0:=by
    have h':0=z.length:=by simpa using h
    exact h'.symm
   apply Str.ext'
   show z.cps=#[]
   exact Array.eq_empty_of_size_eq_zero hz
  ·rfl
theorem w4 (z:Str) (lo hi:Option Int):(cutS z lo hi).length≤z.length:=by
 unfold cutS
 show (Array.size _)≤_
 rw [List.size_toArray,List.length_take,List.length_drop]
 simp [Str.length]
 omega
theorem yV:SlR X (fun x lo hi H Q=>∃ z,x=.str z∧z.length≤sizeLine∧Q (.str (cutS z lo hi)) H):=by
 intro pins s σ H x v vl vu lo hi sl Q I rx hs pl pu h
 obtain ⟨z,rfl,hz,q⟩:=h
 obtain ⟨t,rfl⟩:=rx
 have fin:∀ (l u:Option (Int×Tok)),l.map (·.1)=lo→u.map (·.1)=hi→s.heap.IsSlice sl l u none→wpAny (model X.prog X.w) X.A (getItem (.str z t) (.ref sl)) (EP X pins σ Q) X.xe s:=fun l u e1 e2 hs'=>by
  refine br I.tk (wpAny_getItem_str_slice hs' rfl ?_)
  subst e1 e2
  refine post_val_or_str ?_
  have e:(if (((none:Option (Int×Tok)).map (·.1)).getD 1==1&&(slicePicked z l u none).length==z.length)=true then z else ⟨((slicePicked z l u none).filterMap (z.cps[·]?)).toArray⟩)=Txt.slice z (l.map (·.1)) (u.map (·.1)):=rfl
  rw [e,rG]
  exact ⟨Nat.le_trans (w4 _ _ _) hz,fun t' k htk=>⟨.str _,H,I.tok _,⟨t',rfl⟩,q⟩⟩
 refine ⟨"str",_,F.slot_str_getitem.lookup,typeIs_str s z t,?_⟩
 cases pl with
 | none =>
  cases pu with
  | none=>exact fin none none rfl rfl hs
  | int j tj=>exact fin none (some (j,tj)) rfl rfl hs
 | int i ti =>
  cases pu with
  | none=>exact fin (some (i,ti)) none rfl rfl hs
  | int j tj=>exact fin (some (i,ti)) (some (j,tj)) rfl rfl hs
noncomputable def uSl (K:PySem.W.Frag) (x:V) (lo hi:Option Int) (H:Hp) (Q:VK):Prop:=match x with
 | .str z=>z.length≤sizeLine∧Q (.str (cutS z lo hi)) H
 | .ref a=>(∃ xs,SqL K H a xs∧∀ p,H p=none→Q (.ref p) (upd H p (.lst (cutV xs lo hi)))) ∨
  ∃ xs,SqT K H a xs∧¬ (HT.sIx xs.length 0 lo=0∧HT.sIx xs.length xs.length hi=xs.length)∧∀ p,H p=none→Q (.ref p) (upd H p (.tup (cutV xs lo hi)))
 | _=>False
theorem oSl0:SlR X (uSl X.K):=(yV.or (wJ.or xP)).imp fun x lo hi H Q q=>by
 unfold uSl at q
 split at q
 ·exact .inl ⟨_,rfl,q.1,q.2⟩
 ·rcases q with ⟨xs,h1,h2⟩|⟨xs,h1,h2,h3⟩
  ·exact .inr (.inl ⟨_,xs,rfl,h1,h2⟩)
  ·exact .inr (.inr ⟨_,xs,rfl,h1,h2,h3⟩)
 ·exact q.elim
theorem oSl (K:PySem.W.Frag) (hK:X.K=K:=by rfl):SlR X (uSl K):=by
 subst hK
 exact oSl0
variable {tg:Expr}
noncomputable def kIt (K:PySem.W.Frag) (R:It→Hp→Prop):VK:=fun x H1=>match x with
 | .str z=>R (Its z) H1
 | .ref a=>((∃ xs,SqL K H1 a xs)∧R (Itl K a) H1)∨((∃ xs,SqT K H1 a xs)∧R (Itt K a) H1)
 | _=>False
noncomputable def uIt (K:PySem.W.Frag) (tl:TE):TI:=fun σ H R=>tl σ H (kIt K R)
theorem yU (K:PySem.W.Frag) {l:Expr} {tl:TE} (hl:PE X l tl) (hK:X.K=K:=by rfl):PI X tg l (uIt K tl):=by
 subst hK
 intro pins s σ H R I h
 refine thn (hl pins s σ H _ I h) fun v s1 hh=>exF hh fun x H1 I1 r1 q1=>?_
 cases x with
 | str z =>
  obtain ⟨t,rfl⟩:=r1
  have fp1:∀ b∈[s1.heap.objs.size],FpOk X pins H1 b:=fun b hb=>by
   have e:b=s1.heap.objs.size:=by simpa using hb
   subst e
   exact I1.fpOk (Nat.le_refl _) (I1.hok.fresh (Nat.le_refl _))
  cases ha:z.cps.all (· < 128)
  ·refine wpAny_pyIter_wide ha ?_
   exact ⟨s1.heap.objs.size,[s1.heap.objs.size],_,_,H1,rfl,I1.kept (t':=s1.toks) fun b o e=>Heap.get?_push_of_some _ e,tL _ z t,⟨_,Heap.get?_push_size _ rfl,rfl,rfl⟩,fp1,q1⟩
  ·refine wpAny_pyIter_ascii ha ?_
   exact ⟨s1.heap.objs.size,[s1.heap.objs.size],_,_,H1,rfl,I1.kept (t':=s1.toks) fun b o e=>Heap.get?_push_of_some _ e,qI _ z t,⟨_,Heap.get?_push_size _ rfl,rfl,rfl⟩,fp1,q1⟩
 | ref a =>
  cases r1
  have fp1:∀ b∈[s1.heap.objs.size],FpOk X pins H1 b:=fun b hb=>by
   have e:b=s1.heap.objs.size:=by simpa using hb
   subst e
   exact I1.fpOk (Nat.le_refl _) (I1.hok.fresh (Nat.le_refl _))
  rcases q1 with ⟨⟨xs,hq⟩,q⟩|⟨⟨xs,hq⟩,q⟩
  ·obtain ⟨its,rv,p,hz⟩:=I1.list hq
   refine wpAny_pyIter_list p.isList ?_
   exact ⟨s1.heap.objs.size,[s1.heap.objs.size],_,_,H1,rfl,I1.kept (t':=s1.toks) fun b o e=>Heap.get?_push_of_some _ e,uB a _,⟨_,Heap.get?_push_size _ rfl,rfl,rfl⟩,fp1,q⟩
  ·obtain ⟨its,rv,p,hz⟩:=I1.tuple hq
   refine wpAny_pyIter_tuple (show s1.heap.IsTuple a its.toArray from p) ?_
   exact ⟨s1.heap.objs.size,[s1.heap.objs.size],_,_,H1,rfl,I1.kept (t':=s1.toks) fun b o e=>Heap.get?_push_of_some _ e,qM a _,⟨_,Heap.get?_push_size _ rfl,rfl,rfl⟩,fp1,q⟩
 | _=>exact q1.elim
noncomputable def kRng1 (R:It→Hp→Prop):List V→Hp→Prop:=fun vs H1=>match vs with
 | [.int j]=>(-(2 ^ 62)≤j∧j < 2 ^ 62)∧R (Itr 0 j.toNat) H1
 | _=>False
noncomputable def uRng1 (ta:TA):TI:=fun σ H R=>ta σ H (kRng1 R)
theorem uG {a:Expr} {ta:TA} {p pos:Pos} (hg:Gl X "range") (hm:X.mg "range"=none) (ha:PA X [a] ta) (hs:starEach [a] X.env=[(false,eval a X.env)]:=by rfl):PI X tg (.Call (.Name "range" p) [a] [] pos) (uRng1 ta):=by
 intro pins s σ H R I h
 refine Call_ (l8 I hg hm boot_range (PyProof.Rows.callWith_type1 (thn (ha pos pins s σ H _ I h) fun us s1 hh=>exF hh fun vs H1 I1 r1 q1=>?_) hs rfl))
 unfold kRng1 at q1
 split at q1
 ·obtain ⟨⟨q2,q3⟩,q⟩:=q1
  cases r1 with
  | cons r rr =>
   cases rr
   obtain ⟨t,rfl⟩:=r
   exact call_range_1 (vm I1 (by omega) (by omega) q2 q3 (by simpa using q))
 ·exact q1.elim
noncomputable def kSM2 (r:Str→List V→Hp→VK→Prop) (z:Str) (Q:VK):List V→Hp→Prop:=fun xs H2=>r z xs H2 Q
noncomputable def kSM (r:Str→List V→Hp→VK→Prop) (t:TA) (σ:St) (Q:VK):VK:=fun x H1=>match x with
 | .str z=>t σ H1 (kSM2 r z Q)
 | _=>False
noncomputable def uSM (r:Str→List V→Hp→VK→Prop) (to:TE) (t:TA):TE:=fun σ H Q=>to σ H (kSM r t σ Q)
noncomputable def SmR (X:Cx) (id:String) (r:Str→List V→Hp→VK→Prop):Prop :=
 ∀ (pins:List (Addr×Obj)) (s:Shared) (σ:St) (H:Hp) (z:Str) (t:Tok) (xs:List V) (us:List Value) (Q:VK),Inv X pins σ H s→Vals xs us→r z xs H Q →
  wpAny (model X.prog X.w) X.A (call (.builtin id) (.str z t::us)) (EP X pins σ Q) X.xe s
theorem Ah {o e:Expr} {es:List Expr} {to:TE} {t:TA} {name:Str} {apos cpos:Pos} {id:String} {r:Str→List V→Hp→VK→Prop} (slot:Slot "str" name id) (hty:typeOf (.builtin id)=pure (.type "method_descriptor")) (hm:SmR X id r) (ho:PE X o to) (ha:PA X (e::es) t)
  (hbase:attributeBase o name X.env (eval o X.env)=eval o X.env:=by rfl)
  (hfew:((backTo cpos (starEach (e::es) X.env)).all (fun x=>!x.1)&&(backToKw cpos (keywordEach [] X.env)).all (fun x=>x.1.isSome)
   && decide ((e::es).length+([]:List Keyword).length+(if ([]:List Keyword).isEmpty then 0 else 1) < 30))=true:=by rfl)
  (hline:(apos.endLine==cpos.line)=true:=by rfl) (hs:starEach (e::es) X.env=(false,eval e X.env)::starEach es X.env:=by rfl) (hplain:(backTo cpos (starEach es X.env)).any (·.1)=false:=by rfl) :
  PE X (.Call (.Attribute o name apos) (e::es) [] cpos) (uSM r to t):=by
 intro pins s σ H Q I h
 refine wpAny_Call_method_late hbase hfew hline rfl (thn (ho pins s σ H _ I h) fun v s1 hh=>exF hh fun x H1 I1 r1 q1=>?_)
 cases x with
 | str z =>
  obtain ⟨tk,rfl⟩:=r1
  refine ⟨"str",id,PySem.F.plainAttrs_str,slot,hty,typeIs_str s1 z tk,(fun _ e=>nomatch e),?_⟩
  have hA:=ha cpos pins s1 σ H1 _ I1 q1
  rw [hs] at hA ⊢
  refine Calls.callWith_builtin (by show (false||(backTo cpos (starEach es X.env)).any (·.1))=false;rw [hplain] <;> rfl) (Calls.evalArgs_plain ?_)
  exact thn hA fun us s2 hh=>exF hh fun vs H2 I2 r2 q2=>hm pins s2 σ H2 z tk vs us Q I2 r2 q2
 | _=>exact q1.elim
noncomputable def uJoin (K:PySem.W.Frag) (z:Str) (xs:List V) (H:Hp) (Q:VK):Prop:=match xs with
 | [.ref p]=>∃ ys:List Str,SqL K H p (ys.map V.str)∧(ys.map (·.length)).sum+ys.length*z.length≤16777216∧Q (.str (Txt.join z ys)) H
 | _=>False
theorem l6:∀ {ys:List Str} {us:List Value},Vals (ys.map V.str) us→StrsAre us ys
 | [],us,r=>by cases r;exact .nil
 | y::ys,us,r=>by
  cases r with
  | cons r rr =>
   obtain ⟨t,rfl⟩:=r
   exact .cons y t (l6 rr)
theorem wP (K:PySem.W.Frag) (hK:X.K=K:=by rfl):SmR X "str.join" (uJoin K):=by
 subst hK
 intro pins s σ H z t xs us Q I r h
 unfold uJoin at h
 split at h
 ·obtain ⟨ys,hq,hz,q⟩:=h
  obtain ⟨u,rfl,rx⟩:=vals1 r
  cases rx
  obtain ⟨its,rv,p,hz'⟩:=I.list hq
  exact br I.tk (join_list p.isList (by simpa using l6 rv) hz fun t' k htk=>⟨.str (Txt.join z ys),H,I.tok _,⟨t',rfl⟩,q⟩)
 ·exact h.elim
end
structure Def (K:PySem.W.Frag) (mg:Str→Option Value) (x:Str) (st:Stmt) (ps:List Str) (f:Addr) (fd:FuncData):Prop where
 F:Fun K x x st f fd
 b:Binds K fd ps []
 m:mg x=some (.ref f)
section
variable {X:Cx} {x:Str} {st:Stmt} {ps:List Str} {f:Addr} {fd:FuncData} {j k:Nat} {sp:Sp} {p pos:Pos} {e:Expr} {es:List Expr} {t:TA}
noncomputable def uCall (sp:Sp) (t:TA):TE:=fun σ H Q=>t σ H fun vs H1=>sp vs H1 Q E0
theorem pc (D:Def X.K X.mg x st ps f fd) (G:FnOk X.prog X.w X.K X.mg X.base CX0 j f fd ps sp) (hr:Room k X.A) (ha:PA X (e::es) t) (hj:j≤k:=by decide) (hg:Gl X x:=by rfl) (hdb:(x==("__debug__":Str))=false:=by decide)
  (h1:noStar e=true:=by rfl) (h2:es.all noStar=true:=by rfl):PE X (.Call (.Name x p) (e::es) [] pos) (uCall sp t):=by
 have he:starEach (e::es) X.env=(false,eval e X.env)::starEach es X.env:=cJ h1
 have hpl:(backTo pos (starEach es X.env)).any (·.1)=false:=dX h2
 intro pins s σ H Q I h
 refine wpAny_Call_Name_kw (pD I hg D.m ?_ hdb)
 refine PySem.W.callWith_K (h₀:=X.base) I.ok.mod.kin D.F.kp (thn (ha pos pins s σ H _ I h) fun us s1 hh=>exF hh fun vs H1 I1 r q=>⟨I1.kIn,?_⟩) he hpl
 exact vZ (dvs:=[]) G (hr.mono hj) D.b .nil pass0 I1 r (by rw [List.append_nil];exact q)
end
end L2
namespace L2
open PySem PySem.Spec PyProof.Rows
theorem aZ {H:Hp} {p:Addr} (h:H p=none) (o:HO):Same H (upd H p o):=fun b u q=>by rw [aR (bo q h)];exact q
theorem Same.seqT {K:PySem.W.Frag} {H H':Hp} {a:Addr} {xs:List V} (e:Same H H') (h:SqT K H a xs):SqT K H' a xs:=by
 rcases h with (h|⟨o,h⟩)|h
 ·exact .inl (.inl (e _ _ h))
 ·exact .inl (.inr ⟨o,e _ _ h⟩)
 ·exact .inr h
noncomputable abbrev signsV (z:Str):List V:=z.cps.toList.map fun c=>V.str ⟨#[c]⟩
theorem r6 (a b:Str):(a++b).cps.toList=a.cps.toList++b.cps.toList:=by
 show (a.cps++b.cps).toList=_
 exact Array.toList_append
theorem str_len (a:Str):a.length=a.cps.toList.length:=by simp [Str.length]
theorem joinL:∀ (sep:Str) (ys:List Str),(Str.join sep ys).cps.toList=((ys.map (fun y:Str=>y.cps.toList)).intersperse sep.cps.toList).flatten
 | _,[]=>rfl
 | _,[x]=>by simp [Str.join]
 | sep,x::y::r=>by
  have ih:=joinL sep (y::r)
  show ((x++sep)++Str.join sep (y::r)).cps.toList=_
  rw [r6,r6,ih]
  simp [List.append_assoc]
theorem t9 (sep:Str) (ys:List Str):(Txt.join sep ys).cps.toList=((ys.map (fun y:Str=>y.cps.toList)).intersperse sep.cps.toList).flatten:=by
 show (Builtin.Str.glued sep ys).cps.toList=_
 rw [StrLaws.glued_eq_join,joinL]
theorem ng {α:Type}:∀ (xs:List (List α)),(xs.intersperse []).flatten=xs.flatten
 | []=>rfl
 | [x]=>rfl
 | x::y::r=>by
  have ih:=ng (y::r)
  rw [List.intersperse_cons_cons,List.flatten_cons,List.flatten_cons,ih]
  rfl
theorem rL (ys:List Str):(Txt.join (Str.ofString "") ys).cps.toList=(ys.map (fun y:Str=>y.cps.toList)).flatten:=by
 rw [t9]
 have e:(Str.ofString "").cps.toList=[]:=by decide +kernel
 rw [e,ng]
theorem l7 (cs:List Nat):(Txt.join (Str.ofString "") (cs.map fun c=>(⟨#[c]⟩:Str))).cps.toList=cs:=by
 rw [rL,List.map_map]
 induction cs with
 | nil=>rfl
 | cons c r ih =>
  rw [List.map_cons,List.flatten_cons,ih]
  rfl
theorem ui (cs:List Nat):((cs.map fun c=>(⟨#[c]⟩:Str)).map (·.length)).sum=cs.length:=by
 induction cs with
 | nil=>rfl
 | cons c r ih =>
  rw [List.map_cons,List.map_cons,List.sum_cons,ih]
  show 1+r.length=r.length+1
  omega
end L2
namespace L2
open PySem PySem.Spec PyProof.Rows
section
variable {K:PySem.W.Frag} {σ:St} {H H1 H2:Hp} {Q:VK} {QB R':Bool→Hp→Prop} {ta tb te:TE} {tt uu:TT} {t tr:TA} {x y v:V} {xs vs:List V} {r:R2} {c:Bool} {i j:Int}
noncomputable def kOp2 (r:R2) (x:V) (Q:VK):VK:=fun y H2=>r x y H2 Q
noncomputable def kOp1 (r:R2) (tb:TE) (σ:St) (Q:VK):VK:=fun x H1=>tb σ H1 (kOp2 r x Q)
variable {z z':Str} {c':Bool} {p:Addr}
end
end L2
namespace L2
open PySem PySem.Spec PyProof.Rows
structure JE (X:Cx) (e:Expr) (t:TE):Prop where
 out:PE X e t
structure JT (X:Cx) (e:Expr) (t:TT):Prop where
 out:PT X e t
structure JW (X:Cx) (e:Expr) (t:TT):Prop where
 out:PW X e t
structure JA (X:Cx) (es:List Expr) (t:TA):Prop where
 out:PA X es t
structure JS (X:Cx) (st:Stmt) (t:TS):Prop where
 out:PS X st t
structure JB (X:Cx) (st:List Stmt) (t:TS):Prop where
 out:PSs X st t
structure JG (X:Cx) (e:Expr) (t:TG):Prop where
 out:PG X e t
structure JGs (X:Cx) (es:List Expr) (t:TGs):Prop where
 out:PGs X es t
structure JI (X:Cx) (tg e:Expr) (t:TI):Prop where
 out:PI X tg e t
structure JO (X:Cx) (e:Option Expr) (t:TO):Prop where
 out:PO X e t
structure JTs (X:Cx) (es:List Expr) (t:TT):Prop where
 out:PTs X es t
section
variable {X:Cx} {a b c e:Expr} {ta tb tc te:TE} {tA tB':TT} {pos:Pos} {rest es:List Expr} {t:TA}
theorem jv (i:Nat) {x:Str} {pos:Pos} (hN:X.N[i]?=some x:=by rfl) (hv:Vis X.env.scope x:=by first|exact Or.inl rfl|exact Or.inr (Or.inl rfl)|exact Or.inr (Or.inr rfl)) (hd:(x==("__debug__":Str))=false:=by decide)
  (hcd:(x==("__classdict__":Str))=false:=by decide):JE X (.Name x pos) (uVar i):=⟨qv i hN hv hd hcd⟩
theorem A6 {i j pos}:JE X (.Constant (.int i) j pos) (tC (.int i)):=⟨zJ⟩
theorem j_bl {b j pos}:JE X (.Constant (.bool b) j pos) (tC (.bl b)):=⟨A4⟩
theorem z8 {j pos}:JE X (.Constant .none j pos) (tC .non):=⟨ye⟩
theorem Ad {x j pos}:JE X (.Constant (.str x) j pos) (tC (.str x)):=⟨zf⟩
theorem wg {x:Str} {v:V} {u:Value} {pos:Pos} (hm:X.mg x=some u) (r:RelV v u) (hg:Gl X x:=by rfl) (hd:(x==("__debug__":Str))=false:=by decide):JE X (.Name x pos) (tC v):=⟨sq hg hm r hd⟩
theorem j_ty {x:Str} {n:String} {pos:Pos} (hm:X.mg x=none) (hv:bootBuiltins x=some (.type n)) (hg:Gl X x:=by rfl) (hn:x≠"__name__":=by decide) (hd:(x==("__debug__":Str))=false:=by decide):JE X (.Name x pos) (tC (.ty n)):=⟨AX hm hv hg hn hd⟩
theorem j_op {op:Operator} {r:R2} (ho:OpR X (binaryOp op) r) (ha:JE X a ta) (hb:JE X b tb):JE X (.BinOp a op b pos) (tOp r ta tb):=⟨Az ho ha.out hb.out⟩
theorem j_un {op:UnaryOp} {r:V→Hp→VK→Prop} (ho:UnR X (unaryOp op) r) (ha:JE X a ta):JE X (.UnaryOp op a pos) (tUn r ta):=⟨AI ho ha.out⟩
theorem Ai (ha:JE X a ta):JE X (.UnaryOp .Not a pos) (uNot ta):=⟨zk ha.out⟩
theorem AY {op} (h:JE X a ta):JE X (.BoolOp op [a] pos) ta:=⟨yt h.out⟩
theorem AC (ha:JE X a ta) (hb:JE X (.BoolOp .And (b::rest) pos) tb):JE X (.BoolOp .And (a::b::rest) pos) (uAnd ta tb):=⟨xQ ha.out hb.out⟩
theorem j_or (ha:JE X a ta) (hb:JE X (.BoolOp .Or (b::rest) pos) tb):JE X (.BoolOp .Or (a::b::rest) pos) (uOr ta tb):=⟨A5 ha.out hb.out⟩
theorem Al {op:CmpOp} {r:R2} (ho:OpR X (compareOp op) r) (ha:JE X a ta) (hb:JE X b tb) (hm:behindInMarks op b=false):JE X (.Compare a [op] [b] pos) (tOp r ta tb):=⟨wo ho ha.out hb.out hm⟩
theorem vI {op:CmpOp} {r:R2} (ho:OpR X (compareOp op) r) (ha:JE X a ta) (hb:JE X b tb) (hm:behindInMarks op b=false):JT X (.Compare a [op] [b] pos) (uTest (tOp r ta tb)):=⟨wZ ho ha.out hb.out hm⟩
theorem AZ (hc:JT X c tA) (ha:JE X a ta) (hb:JE X b tb):JE X (.IfExp c a b pos) (tIf tA ta tb):=⟨vn hc.out ha.out hb.out⟩
theorem xK (h:JW X a tA):JT X a tA:=⟨h.out.pt⟩
theorem wS (ha:JT X a tA):JW X (.BoolOp .And [a] pos) tA:=⟨wV ha.out⟩
theorem zj (ha:JT X a tA):JW X (.BoolOp .Or [a] pos) tA:=⟨xT ha.out⟩
theorem zt (ha:JT X a tA) (hb:JW X (.BoolOp .And (b::rest) pos) tB'):JW X (.BoolOp .And (a::b::rest) pos) (tAnd tA tB'):=⟨yf ha.out hb.out⟩
theorem A9 (ha:JT X a tA) (hb:JW X (.BoolOp .Or (b::rest) pos) tB'):JW X (.BoolOp .Or (a::b::rest) pos) (tOr tA tB'):=⟨z6 ha.out hb.out⟩
theorem yP (ha:JT X a tA):JT X (.UnaryOp .Not a pos) (tNot tA):=⟨yB ha.out⟩
theorem vi (K:PySem.W.Frag) (ha:JE X a ta) (he:∀ whole,isTrue a X.env whole=(do let v ← whole;standAt a.pos;holding [v] (truthy v)):=by exact fun _=>rfl) (hK:X.K=K:=by rfl):JT X a (uTruth K ta):=⟨uK K ha.out he hK⟩
theorem sV:JA X [] tNil:=⟨xS⟩
theorem oU (ha:JE X e te) (hr:JA X es t) (hn:noStar e=true:=by rfl):JA X (e::es) (tCons te t):=⟨wn ha.out hr.out hn⟩
theorem AS (h:JA X es t):JE X (.List es pos) (tLst t):=⟨zG h.out⟩
theorem Am {x1} (h:JA X es t):JE X (.Tuple es x1 pos) (tTup t):=⟨y6 h.out⟩
theorem Ba {r:R2} (hr:IxR X r) (ha:JE X a ta) (hb:JE X b tb) (hs:PlainIx b:=by exact fun _ _=>rfl):JE X (.Subscript a b pos) (tOp r ta tb):=⟨Ak hr ha.out hb.out hs⟩
theorem xq:JO X none tNoPart:=⟨xr⟩
theorem wq (h:JE X e te):JO X (some e) (uPart te):=⟨wD h.out⟩
theorem wC {r:V→Option Int→Option Int→Hp→VK→Prop} {lo hi:Option Expr} {tl th:TO} {p2:Pos} (hr:SlR X r) (he:JE X e te) (hl:JO X lo tl) (hu:JO X hi th):JE X (.Subscript e (.Slice lo hi none p2) pos) (tSl r te tl th):=⟨vh hr he.out hl.out hu.out⟩
end
section
variable {X:Cx} {x:Str} {st:Stmt} {ps:List Str} {f:Addr} {fd:FuncData} {j k:Nat} {sp:Sp} {p pos:Pos} {e:Expr} {es:List Expr} {t:TA} {id T:String} {r:List V→Hp→VK→Prop}
theorem zC (D:Def X.K X.mg x st ps f fd) (G:FnOk X.prog X.w X.K X.mg X.base CX0 j f fd ps sp) (hr:Room k X.A) (ha:JA X (e::es) t) (hj:j≤k:=by decide) (hg:Gl X x:=by rfl) (hdb:(x==("__debug__":Str))=false:=by decide)
  (h1:noStar e=true:=by rfl) (h2:es.all noStar=true:=by rfl):JE X (.Call (.Name x p) (e::es) [] pos) (uCall sp t):=⟨pc D G hr ha.out hj hg hdb h1 h2⟩
theorem wu (hc:CallR X (.builtin id) r) (hm:X.mg x=none) (hv:bootBuiltins x=some (.builtin id)) (ha:JA X (e::es) t) (hg:Gl X x:=by rfl) (h1:noStar e=true:=by rfl) (h2:es.all noStar=true:=by rfl) (hn:x≠"__name__":=by decide) (hdb:(x==("__debug__":Str))=false:=by decide) :
  JE X (.Call (.Name x p) (e::es) [] pos) (tCB r t):=⟨qc_b hc hm hv ha.out hg h1 h2 hn hdb⟩
theorem ul (hc:CallR X (.type T) r) (hm:X.mg x=none) (hv:bootBuiltins x=some (.type T)) (ha:JA X (e::es) t) (hg:Gl X x:=by rfl) (h1:noStar e=true:=by rfl) (h2:es.all noStar=true:=by rfl) (hn:x≠"__name__":=by decide) (hdb:(x==("__debug__":Str))=false:=by decide) :
  JE X (.Call (.Name x p) (e::es) [] pos) (tCB r t):=⟨qc_t hc hm hv ha.out hg h1 h2 hn hdb⟩
end
section
variable {X:Cx} {o e:Expr} {es:List Expr} {to:TE} {t:TA} {name:Str} {apos cpos:Pos} {id:String}
theorem qk {env:Env} {pos:Pos} {es:List Expr} (h:es.all noStar=true) (hl:es.length < 29):((backTo pos (starEach es env)).all (fun x=>!x.1)&&(backToKw pos (keywordEach [] env)).all (fun x=>x.1.isSome)
   && decide (es.length+([]:List Keyword).length+(if ([]:List Keyword).isEmpty then 0 else 1) < 30))=true:=by
 have h1:(backTo pos (starEach es env)).all (fun x=>!x.1)=true:=by
  have:=dX (env:=env) (pos:=pos) h
  rw [List.any_eq_false] at this
  rw [List.all_eq_true]
  intro x hx
  have:=this x hx
  simpa using this
 rw [h1]
 show (true&&true&&decide (es.length+0+0 < 30))=true
 rw [decide_eq_true (by omega)]
 rfl
theorem j_sm {r:Str→List V→Hp→VK→Prop} (slot:Slot "str" name id) (hty:typeOf (.builtin id)=pure (.type "method_descriptor")) (hm:SmR X id r) (ho:JE X o to) (ha:JA X (e::es) t)
  (hbase:attributeBase o name X.env (eval o X.env)=eval o X.env:=by rfl) (hline:(apos.endLine==cpos.line)=true:=by rfl) (h1:(e::es).all noStar=true:=by rfl) (hl:(e::es).length < 29:=by decide) :
  JE X (.Call (.Attribute o name apos) (e::es) [] cpos) (uSM r to t):=by
 have h1':=h1
 rw [List.all_cons,Bool.and_eq_true] at h1'
 exact ⟨Ah slot hty hm ho.out ha.out hbase (qk h1 hl) hline (cJ h1'.1) (dX h1'.2)⟩
end
section
variable {X:Cx} {osc:Scope} {ON N:List Str} {ix:List (Option Nat)} {scope:Scope} {tg elt iter:Expr} {ifs:List Expr} {pos:Pos} {wi:TI} {g:TG} {tt:TT} {te:TE}
theorem xz:JTs X [] tYes:=⟨xx⟩
theorem xJ {c:Expr} (h:JT X c tt):JTs X [c] tt:=⟨wz h.out⟩
theorem yW (hcs:csOk osc ON N ix scope=true) (hi:JI X tg iter wi) (hg:∀ b,JG (blk X N scope b) tg g) (ht:∀ b,JTs (blk X N scope b) ifs tt) (he:∀ b,JE (blk X N scope b) elt te)
  (hE:X.env.scope=osc:=by rfl) (hO:X.N=ON:=by rfl) (hc:X.calm=true:=by rfl) (hs:∀ x,foldedSetIterable iter X.env x=pure x:=by intro _;rfl):JE X (.ListComp elt [⟨tg,iter,ifs,0⟩] scope pos) (tComp ix wi g tt te) :=
 ⟨vF (za hcs) hE hO hc hi.out (fun b=>(hg b).out) (fun b=>(ht b).out) (fun b=>(he b).out) hs⟩
theorem qO {i:Nat} {x:Str} {spos pos':Pos} (hN:X.N.Nodup) (hl:Loc X.env.scope x) (hcs:csOk osc ON N ix scope=true) (hi:JI X tg iter wi) (hg:∀ b,JG (blk X N scope b) tg g) (ht:∀ b,JTs (blk X N scope b) ifs tt) (he:∀ b,JE (blk X N scope b) elt te)
  (hx:X.N[i]?=some x:=by rfl) (hE:X.env.scope=osc:=by rfl) (hO:X.N=ON:=by rfl) (hc:X.calm=true:=by rfl)
  (hsw:swapsWith (.ListComp elt [⟨tg,iter,ifs,0⟩] scope pos) (some (.Name x pos')) spos.line X.env=pure true:=by rfl)
  (hf:X.fn x=true∨X.env.scope.names.lookup x=some .local:=by first|exact .inl rfl|exact .inr rfl|assumption)
  (hs:∀ x,foldedSetIterable iter X.env x=pure x:=by intro _;rfl):JS X (.Assign [.Name x pos'] (.ListComp elt [⟨tg,iter,ifs,0⟩] scope pos) spos) (tAsg (tComp ix wi g tt te) (gName i)) :=
 ⟨rd hN hx hl (za hcs) hE hO hc hi.out (fun b=>(hg b).out) (fun b=>(ht b).out) (fun b=>(he b).out) hsw hf hs⟩
theorem zD (K:PySem.W.Frag) {l:Expr} {tl:TE} (hl:JE X l tl) (hK:X.K=K:=by rfl):JI X tg l (uIt K tl):=⟨yU K hl.out hK⟩
theorem sU {a:Expr} {ta:TA} {p pos:Pos} (hm:X.mg "range"=none) (ha:JA X [a] ta) (hg:Gl X "range":=by rfl) (hn:noStar a=true:=by rfl):JI X tg (.Call (.Name "range" p) [a] [] pos) (uRng1 ta):=⟨uG hg hm ha.out (cJ hn)⟩
end
section
variable {X:Cx} {pos:Pos} {st:Stmt} {rest:List Stmt} {t u:TS} {e:Expr} {te:TE}
theorem wA {i:Nat} {x:Str} (hN:X.N.Nodup) (hi:X.N[i]?=some x) (hx:Loc X.env.scope x) (hf:X.fn x=true∨X.env.scope.names.lookup x=some .local:=by first|exact .inl rfl|exact .inr rfl|assumption):JG X (.Name x pos) (gName i):=⟨uH hN hi hx hf⟩
theorem tZ:JGs X [] gNil:=⟨wL⟩
theorem mm {e:Expr} {es:List Expr} {t:TG} {u:TGs} (h1:JG X e t) (h2:JGs X es u)
  (hs:(assignEach (e::es) X.env).map (·.2)=assign e X.env::(assignEach es X.env).map (·.2):=by rfl):JGs X (e::es) (gCons t u):=⟨vv h1.out h2.out hs⟩
theorem vN (K:PySem.W.Frag) {es:List Expr} {k:Nat} {t:TGs} {n:Nat} (h:JGs X es t) (hc:X.calm=true:=by rfl)
  (hn:(assignEach es X.env).length=n:=by rfl) (hst:(assignEach es X.env).findIdx? (·.1)=none:=by rfl) (hK:X.K=K:=by rfl):JG X (.Tuple es k pos) (gTup K n t):=by
 subst hK
 exact ⟨xX hc h.out hn hst⟩
theorem zE:JB X [] tNext:=⟨xy⟩
theorem wm (h1:JS X st t) (h2:JB X rest u):JB X (st::rest) (tSeq t u):=⟨u9 h1.out h2.out⟩
theorem yk (h1:JS X st t):JB X [st] t:=⟨wx h1.out⟩
theorem oG (he:JE X e te) (hs:swapsWith e none pos.line X.env=pure false:=by rfl):JS X (.Expr e pos) (tDrop te):=⟨wY he.out hs⟩
theorem yu (he:JE X e te):JS X (.Return (some e) pos) (tRet te):=⟨zI he.out⟩
theorem AW {c:Expr} {a b:List Stmt} {tc:TT} (hc:JT X c tc) (ha:JB X a t) (hb:JB X b u):JS X (.If c a b pos) (tIfS tc t u):=⟨AQ hc.out ha.out hb.out⟩
theorem vL {i:Nat} {x:Str} {pos':Pos} (hN:X.N.Nodup) (hx:Loc X.env.scope x) (he:JE X e te) (hi:X.N[i]?=some x:=by rfl) (hs:swapsWith e (some (.Name x pos')) pos.line X.env=pure false:=by rfl) (hf:X.fn x=true∨X.env.scope.names.lookup x=some .local:=by first|exact .inl rfl|exact .inr rfl|assumption) :
  JS X (.Assign [.Name x pos'] e pos) (tAsg te (gName i)):=⟨yX hN hi hx he.out hs hf⟩
theorem vP {tg:Expr} {g:TG} (he:JE X e te) (hg:JG X tg g) (hs:swapsWithSole [tg] e pos.line X.env=pure false:=by rfl) (hw:swappedStores [tg] e X.env=pure none:=by rfl)
  (h1:(assignEach [tg] X.env).map (·.2)=[assign tg X.env]:=by rfl):JS X (.Assign [tg] e pos) (tAsg te g):=⟨yg he.out hg.out hs hw h1⟩
theorem wk {o i:Expr} {to ti:TE} {t:TSet} (ho:JE X o to) (hi:JE X i ti) (hs:PSet X t)
  (ha:∀ v,assign (.Subscript o i pos) X.env v=(do
   let ov ← holding [v] (eval o X.env)
   let iv ← holding [v,ov] (eval i X.env)
   standAt pos
   holding [v,ov,iv] (setItem ov iv v)
   release [v,ov,iv] []):=by intro _;rfl):JG X (.Subscript o i pos) (gSub to ti t):=⟨zd ho.out hi.out hs ha⟩
theorem x0 {tg iter:Expr} {body:List Stmt} {wi:TI} {g:TG} {tb:TS} (hp:PassesOwn (model X.prog X.w) X.A X.env X.xe) (hi:JI X tg iter wi) (hg:JG X tg g) (hb:JB X body tb) (hc:X.calm=true:=by rfl)
  (hs:∀ x,foldedSetIterable iter X.env x=pure x:=by intro _;rfl):JS X (.For tg iter body [] pos) (tFor wi g tb):=⟨yo hp hc hi.out hg.out hb.out hs⟩
theorem u5 {c:Expr} {body:List Stmt} {tc:TT} {tb:TS} (hp:PassesOwn (model X.prog X.w) X.A X.env X.xe) (hc:JT X c tc) (hb:JB X body tb):JS X (.While c body [] pos) (tWhile tc tb):=⟨uX hp hc.out hb.out⟩
end
section
variable {P:Program} {w:World} {K:PySem.W.Frag} {mg:Str→Option Value} {base:Heap}
theorem Fun.okJ {x qual:Str} {st:Stmt} {f:Addr} {fd:FuncData} {N ps:List Str} {k:Nat} {sp:Sp} (F:Fun K x qual st f fd) (S:FnScope N ps (ap st)) (len:∀ vs H Q E,sp vs H Q E→vs.length=ps.length)
  (hbody:∀ (cdv:Value) (A:Around) (outer:List Env) (s:Shared) (H:Hp) (vs:List V) (Q:VK) (E:XK),Room k (A.deeper (envOfC qual (ap st) s.heap.objs.size f cdv))→sp vs H Q E →
   ∃ t,JB (cxOf CX0 P w K mg base N qual (ap st) f cdv A outer s H E).nox (dw st) t∧t { nx:=fun _ H'=>Q .non H',rt:=Q } (start N vs) H):FnOk P w K mg base CX0 (k+1) f fd ps sp :=
 F.ok S len fun cdv A outer s H vs Q E hr h=>let ⟨t,h1,h2⟩:=hbody cdv A outer s H vs Q E hr h;⟨t,h1.out,h2⟩
end
end L2
namespace L2
open PySem PySem.Builtin
section
variable {prog:Program} {w:World} {A:Around} {E:Value→Shared→Prop} {s:Shared}
theorem jq {it l:Addr} {i:Nat} {items} {x:Value} {Q:Value→Shared→Prop} (hit:s.heap.IsTupleIter it l i)
  (hl:s.heap.IsTuple l items) (hx:items[i]?=some x)
  (hQ:∀ h',h'.IsTupleIter it l (i+1)→Heap.SameBut it s.heap h'→Q x { s with heap:=h' }) :
  wpAny (model prog w) A (Builtin.SmallTypes.nextOf (.ref it)) Q E s:=by
 obtain ⟨o,ho,hc,hd⟩:=id hit
 obtain ⟨ol,hol,_,nl,hdl⟩:=hl
 unfold Builtin.SmallTypes.nextOf
 refine wpAny_bind (wpAny_callSpecial?_slot (name:=Str.ofString "__next__") hit.typeIs F.slot_tuple_iterator_next
  (wpAny_call_entry F.slot_tuple_iterator_next hit.typeIs F.entry_tuple_iterator_next ?_ (F.args_tuple_iterator_next_1 _)))
 show wpAny _ _ (field (.ref it) 0 >>= _) _ _ s
 refine wpAny_bind (wpAny_field ho hd (x:=.ref l) rfl ?_)
 show wpAny _ _ (if (Value.ref l==Value.none)=true then _ else _) _ _ s
 rw [if_neg (show ¬ ((Value.ref l==Value.none)=true) from Bool.false_ne_true)]
 show wpAny _ _ (field (.ref it) 1 >>= _) _ _ s
 refine wpAny_bind (wpAny_field ho hd (x:=.int i 0) rfl ?_)
 show wpAny _ _ (seqItems? (.ref l) >>= _) _ _ s
 refine wpAny_bind (wpAny_seqItems hol hdl ?_)
 simp only [Int.toNat_natCast,hx]
 refine wpAny_bind (wpAny_setField ho hd (by simp) (wpAny_pure ⟨x,rfl,wpAny_pure (hQ _ ?_ (Heap.SameBut.update ..))⟩))
 exact ⟨_,Heap.get?_update_self _ ho (Obj.isFreed_of_fields (Obj.data_mapFields hd _)),(Obj.cls_mapFields ..).trans hc,by
  rw [Obj.data_mapFields hd];simp [rawInt]⟩
theorem jV {it l:Addr} {i:Nat} {items} {Q:Value→Shared→Prop} (hh:A.handled=none)
  (hit:s.heap.IsTupleIter it l i) (hl:s.heap.IsTuple l items) (hx:items[i]?=none)
  (hE:∀ h' e,Heap.ExtBut it s.heap h'→(∃ o,h'.get? e=some o∧o.cls=.type "StopIteration")→E (.ref e) { s with heap:=h' }) :
  wpAny (model prog w) A (Builtin.SmallTypes.nextOf (.ref it)) Q E s:=by
 obtain ⟨o,ho,hc,hd⟩:=id hit
 obtain ⟨ol,hol,_,nl,hdl⟩:=hl
 unfold Builtin.SmallTypes.nextOf
 refine wpAny_bind (wpAny_callSpecial?_slot (name:=Str.ofString "__next__") hit.typeIs F.slot_tuple_iterator_next
  (wpAny_call_entry F.slot_tuple_iterator_next hit.typeIs F.entry_tuple_iterator_next ?_ (F.args_tuple_iterator_next_1 _)))
 show wpAny _ _ (field (.ref it) 0 >>= _) _ _ s
 refine wpAny_bind (wpAny_field ho hd (x:=.ref l) rfl ?_)
 show wpAny _ _ (if (Value.ref l==Value.none)=true then _ else _) _ _ s
 rw [if_neg (show ¬ ((Value.ref l==Value.none)=true) from Bool.false_ne_true)]
 show wpAny _ _ (field (.ref it) 1 >>= _) _ _ s
 refine wpAny_bind (wpAny_field ho hd (x:=.int i 0) rfl ?_)
 show wpAny _ _ (seqItems? (.ref l) >>= _) _ _ s
 refine wpAny_bind (wpAny_seqItems hol hdl ?_)
 simp only [Int.toNat_natCast,hx]
 refine wpAny_bind (wpAny_rule (wpAny_bind (wpAny_setField ho hd (by simp) ?_)))
 show wpAny _ _ (newExc (.type "StopIteration") [] >>= _) _ _ _
 refine wpAny_bind ?_
 simp only [newExc,newTuple]
 refine wpAny_bind (wpAny_newObj_type ?_ (by size_fits))
 refine wpAny_bind (m:=firstArgMember _ _) (wpAny_of_eq (a:=Value.none) (by first|rfl|(simp only [firstArgMember];rfl)) ?_)
 refine wpAny_newObj_type ?_ (by size_fits)
 simp only [raiseNew]
 refine wpAny_bind (wpAny_handled ?_)
 first|rw [show A.in1.handled=none from hh]|rw [hh]
 refine wpAny_bind (wpAny_pure (wpAny_throw ?_))
 exact hE _ _ (((Heap.SameBut.update ..).extBut.push _).push _) ⟨_,Heap.get?_push_size _ rfl,rfl⟩
end
theorem pI {prog:Program} {w:World} {A:Around} (hh:A.handled=none) (it l:Addr) (hne:l≠it) (items:Array Value) :
  Draws prog w A it [it,l] items.size (fun i v=>items[i]?=some v) (fun i h=>h.IsTupleIter it l i∧h.IsTuple l items) where
 live:=fun _ _ st=>let ⟨o,ho,_⟩:=st.1;⟨o,ho⟩
 frame:=fun _ _ _ st hk=>⟨(let ⟨o,e,r⟩:=st.1;⟨o,hk it (by simp) o e,r⟩),by
  obtain ⟨o,e,r⟩:=st.2
  exact ⟨o,hk l (by simp) o e,r⟩⟩
 item:=fun i s Q E hi st hQ=>by
  refine jq st.1 st.2 (x:=items[i]) (by simp [hi]) fun h' hit' hs'=>?_
  refine hQ _ h' s.toks (by simp [hi]) ⟨hit',?_⟩ hs'
  obtain ⟨o,e,r⟩:=st.2
  exact ⟨o,hs'.extBut l o hne e,r⟩
 done:=fun s Q E st hE=>jV hh st.1 st.2 (by simp) hE
section
variable {prog:Program} {w:World} {A:Around} {E:Value→Shared→Prop} {s:Shared} {z TI TO i1 i2:Addr} {fp1 fp2:List Addr} {n1 n2 k:Nat} {P1 P2:Nat→Value→Prop} {St1 St2:Nat→Heap→Prop}
end
noncomputable def Iters (a:Value) (o:Obj) (h:Heap):Prop:=∀ (prog:Program) (w:World) (A:Around) (s:Shared) (Q:Value→Shared→Prop) (E:Value→Shared→Prop),(∀ b u,h.get? b=some u→s.heap.get? b=some u)→Q (.ref s.heap.objs.size) { s with heap:=s.heap.push o }→wpAny (model prog w) A (pyIter a) Q E s
section
variable {prog:Program} {w:World} {A:Around} {E:Value→Shared→Prop} {s:Shared}
end
theorem pv (a:Value) (o1:Obj) :
  Meets (Builtin.«enumerate.__new__» ⟨[.type "enumerate",a],[]⟩) (fun _ R s=>Iters a o1 s.heap ∧
   R (.ok (.ret (.ref (s.heap.push o1).objs.size))) { s with heap:=(s.heap.push o1).push { cls:=.type "enumerate",data:=.fields #[.none,.bool false,.ref s.heap.objs.size,rawInt 0,.none,.none] } }) :=
 .of_wp fun prog w A R s h=>by
  obtain ⟨hp,g,d,tk,os⟩:=s;obtain ⟨hl1,h⟩:=h
  have hsub:=sub_enumerate
  have p1:∀ {A:Around} {Q:Value→Shared→Prop} {E:Value→Shared→Prop},Q (.ref hp.objs.size) ⟨hp.push o1,g,d,tk,os⟩→wpAny (model prog w) A (pyIter a) Q E ⟨hp,g,d,tk,os⟩:=fun {A Q E} q=>hl1 prog w A ⟨hp,g,d,tk,os⟩ Q E (fun _ _ e=>e) q
  wp_walk
  refine wpAny_stack_any fun st=>wpAny_pure ?_
  split
  ·rename_i c _ _ _ _ _
   cases (c==Value.type "enumerate")
   ·wp_walk using p1
    exact ⟨_,rfl,h⟩
   ·wp_walk using p1
    exact ⟨_,rfl,h⟩
  ·wp_walk using p1
   exact ⟨_,rfl,h⟩
section
variable {prog:Program} {w:World} {A:Around} {E:Value→Shared→Prop} {s:Shared}
theorem rM {a:Value} {o1:Obj} {Q:Value→Shared→Prop} (i1:Iters a o1 s.heap) (f1:o1.isFreed=false)
  (h:∀ h',IsEnum h' (s.heap.objs.size+1) s.heap.objs.size 0 .none→h'.get? s.heap.objs.size=some o1→h'.objs.size=s.heap.objs.size+2 →
   (∀ b o,s.heap.get? b=some o→h'.get? b=some o)→Q (.ref (s.heap.objs.size+1)) { s with heap:=h' }) :
  wpAny (model prog w) A (call (.type "enumerate") [a]) Q E s:=by
 refine callType_new F.called_enumerate (by decide) (F.typeCall_enumerate_1 _) (F.newCall_enumerate_1 _) (fun obj=>F.args_object_init_2 obj _) F.entry_enumerate_new
  (pv a o1) ⟨i1,?_⟩
 have hz:(s.heap.push o1).objs.size=s.heap.objs.size+1:=Heap.size_push ..
 show _∧_
 rw [hz]
 have he:IsEnum ((s.heap.push o1).push
   { cls:=.type "enumerate",data:=.fields #[.none,.bool false,.ref s.heap.objs.size,rawInt 0,.none,.none] }) (s.heap.objs.size+1) s.heap.objs.size 0 .none:=by
  have:=Heap.get?_push_size (s.heap.push o1)
   (o:={ cls:=.type "enumerate",data:=.fields #[.none,.bool false,.ref s.heap.objs.size,rawInt 0,.none,.none] }) rfl
  rw [hz] at this;exact this
 refine ⟨⟨_,he,rfl⟩,h _ he (Heap.get?_push_of_some _ (Heap.get?_push_size _ f1)) (by rw [Heap.size_push,hz]) fun b o x=>Heap.get?_push_of_some _ (Heap.get?_push_of_some _ x)⟩
end
end L2
namespace L2
open PySem PySem.Spec PyProof.Rows
theorem JE.imp {X:Cx} {e:Expr} {t t':TE} (h:JE X e t) (i:∀ σ H Q,t' σ H Q→t σ H Q):JE X e t':=⟨h.out.imp i⟩
theorem JT.imp {X:Cx} {e:Expr} {t t':TT} (h:JT X e t) (i:∀ σ H Q,t' σ H Q→t σ H Q):JT X e t':=⟨fun pins s σ H Q I q=>h.out pins s σ H Q I (i σ H Q q)⟩
theorem JW.imp {X:Cx} {e:Expr} {t t':TT} (h:JW X e t) (i:∀ σ H Q,t' σ H Q→t σ H Q):JW X e t':=⟨fun w pins s σ H Q I q=>h.out w pins s σ H Q I (i σ H Q q)⟩
theorem JA.imp {X:Cx} {es:List Expr} {t t':TA} (h:JA X es t) (i:∀ σ H Q,t' σ H Q→t σ H Q):JA X es t':=⟨fun pos pins s σ H Q I q=>h.out pos pins s σ H Q I (i σ H Q q)⟩
theorem JS.imp {X:Cx} {st:Stmt} {t t':TS} (h:JS X st t) (i:∀ D σ H,t' D σ H→t D σ H):JS X st t':=⟨fun pins s σ H D I q=>h.out pins s σ H D I (i D σ H q)⟩
theorem JB.imp {X:Cx} {st:List Stmt} {t t':TS} (h:JB X st t) (i:∀ D σ H,t' D σ H→t D σ H):JB X st t':=⟨fun pins s σ H D I q=>h.out pins s σ H D I (i D σ H q)⟩
theorem JG.imp {X:Cx} {e:Expr} {t t':TG} (h:JG X e t) (i:∀ v σ H Q,t' v σ H Q→t v σ H Q):JG X e t':=⟨fun pins s σ H v u Q I r q=>h.out pins s σ H v u Q I r (i v σ H Q q)⟩
theorem JGs.imp {X:Cx} {es:List Expr} {t t':TGs} (h:JGs X es t) (i:∀ v σ H Q,t' v σ H Q→t v σ H Q):JGs X es t':=⟨fun pins s σ H v u Q I r q=>h.out pins s σ H v u Q I r (i v σ H Q q)⟩
theorem JI.imp {X:Cx} {tg e:Expr} {t t':TI} (h:JI X tg e t) (i:∀ σ H R,t' σ H R→t σ H R):JI X tg e t':=⟨fun pins s σ H R I q=>h.out pins s σ H R I (i σ H R q)⟩
theorem JO.imp {X:Cx} {e:Option Expr} {t t':TO} (h:JO X e t) (i:∀ σ H Q,t' σ H Q→t σ H Q):JO X e t':=⟨fun pins s σ H Q I q=>h.out pins s σ H Q I (i σ H Q q)⟩
theorem JTs.imp {X:Cx} {es:List Expr} {t t':TT} (h:JTs X es t) (i:∀ σ H Q,t' σ H Q→t σ H Q):JTs X es t':=⟨fun pins s σ H Q I q=>h.out pins s σ H Q I (i σ H Q q)⟩
inductive D where
 | non|bl (b:Bool)|int (i:Int)|str (x:Str)|ty (n:String)
 | lst (xs:List D)|tup (xs:List D)|dct (kvs:List (Key×D))|obj (C:Addr) (fs:List (Str×D))
 /-- an exception that was caught,by its class's name;a class of the text -/
 | exn (x:Str)|cls (x:Str)
noncomputable def ExcO (a C:Addr):HO:=.ext fun h=>∃ o vs,h.get? a=some o∧o.cls=.ref C∧o.dict=none∧o.data=.fields vs
section
variable (K:PySem.W.Frag) (H:Hp)
mutual
noncomputable def Den:D→V→Prop
 | .non,v=>v=.non
 | .bl b,v=>v=.bl b
 | .int i,v=>v=.int i
 | .str x,v=>v=.str x
 | .ty n,v=>v=.ty n
 | .lst ds,v=>∃ a xs,v=.ref a∧SqL K H a xs∧Dens ds xs
 | .tup ds,v=>∃ a xs,v=.ref a∧SqT K H a xs∧Dens ds xs
 | .dct ds,v=>∃ a xs,v=.ref a∧H a=some (.dK xs)∧DenK ds xs
 | .obj C fs,v=>∃ a dx xs,v=.ref a∧H a=some (.ins C dx xs)∧DenF fs xs
 | .exn x,v=>∃ a C,v=.ref a∧PySem.W.nsIn K mainGlobals x=some (some (.ref C))∧H a=some (ExcO a C)
 | .cls x,v=>∃ C,v=.ref C∧PySem.W.nsIn K mainGlobals x=some (some (.ref C))
noncomputable def Dens:List D→List V→Prop
 | [],xs=>xs=[]
 | d::ds,xs=>∃ v vs,xs=v::vs∧Den d v∧Dens ds vs
noncomputable def DenK:List (Key×D)→List (Key×V)→Prop
 | [],xs=>xs=[]
 | (k,d)::ds,xs=>∃ v vs,xs=(k,v)::vs∧Den d v∧DenK ds vs
noncomputable def DenF:List (Str×D)→List (Str×V)→Prop
 | [],xs=>xs=[]
 | (k,d)::ds,xs=>∃ v vs,xs=(k,v)::vs∧Den d v∧DenF ds vs
end
end
section
variable {K:PySem.W.Frag} {H H':Hp}
mutual
theorem Den.mono (s:Same H H'):∀ {d:D} {v:V},Den K H d v→Den K H' d v
 | .non,_,h=>h
 | .bl _,_,h=>h
 | .int _,_,h=>h
 | .str _,_,h=>h
 | .ty _,_,h=>h
 | .lst ds,_,⟨a,xs,e,h1,h2⟩=>⟨a,xs,e,s.seq h1,Dens.mono s h2⟩
 | .tup ds,_,⟨a,xs,e,h1,h2⟩=>⟨a,xs,e,s.seqT h1,Dens.mono s h2⟩
 | .dct ds,_,⟨a,xs,e,h1,h2⟩=>⟨a,xs,e,s _ _ h1,DenK.mono s h2⟩
 | .obj C ds,_,⟨a,dx,xs,e,h1,h2⟩=>⟨a,dx,xs,e,s _ _ h1,DenF.mono s h2⟩
 | .exn _,_,⟨a,C,e,h1,h2⟩=>⟨a,C,e,h1,s _ _ h2⟩
 | .cls _,_,h=>h
theorem Dens.mono (s:Same H H'):∀ {d:List D} {v:List V},Dens K H d v→Dens K H' d v
 | [],_,h=>h
 | d::ds,_,⟨v,vs,e,h1,h2⟩=>⟨v,vs,e,Den.mono s h1,Dens.mono s h2⟩
theorem DenK.mono (s:Same H H'):∀ {d:List (Key×D)} {v:List (Key×V)},DenK K H d v→DenK K H' d v
 | [],_,h=>h
 | (k,d)::ds,_,⟨v,vs,e,h1,h2⟩=>⟨v,vs,e,Den.mono s h1,DenK.mono s h2⟩
theorem DenF.mono (s:Same H H'):∀ {d:List (Str×D)} {v:List (Str×V)},DenF K H d v→DenF K H' d v
 | [],_,h=>h
 | (k,d)::ds,_,⟨v,vs,e,h1,h2⟩=>⟨v,vs,e,Den.mono s h1,DenF.mono s h2⟩
end
theorem Dens.len:∀ {ds:List D} {xs:List V},Dens K H ds xs→ds.length=xs.length
 | [],_,h=>by cases h;rfl
 | d::ds,_,⟨v,vs,e,h1,h2⟩=>by subst e;simp [Dens.len h2]
theorem Dens.get:∀ {ds:List D} {xs:List V} {i:Nat} {d:D},Dens K H ds xs→ds[i]?=some d→∃ v,xs[i]?=some v∧Den K H d v
 | [],_,_,_,_,e=>by simp at e
 | d::ds,_,0,_,⟨v,vs,e,h1,h2⟩,q=>by
  simp at q;subst q e;exact ⟨v,rfl,h1⟩
 | d::ds,_,i+1,_,⟨v,vs,e,h1,h2⟩,q=>by
  subst e
  obtain ⟨u,h3,h4⟩:=Dens.get (i:=i) h2 (by simpa using q)
  exact ⟨u,by simpa using h3,h4⟩
theorem Dens.got:∀ {ds:List D} {xs:List V} {i:Nat} {v:V},Dens K H ds xs→xs[i]?=some v→∃ d,ds[i]?=some d∧Den K H d v
 | [],_,_,_,h,e=>by cases h;simp at e
 | d::ds,_,0,_,⟨v,vs,e,h1,h2⟩,q=>by
  subst e;simp at q;subst q;exact ⟨d,rfl,h1⟩
 | d::ds,_,i+1,_,⟨v,vs,e,h1,h2⟩,q=>by
  subst e
  obtain ⟨u,h3,h4⟩:=Dens.got (i:=i) h2 (by simpa using q)
  exact ⟨u,by simpa using h3,h4⟩
theorem Dens.nil:Dens K H [] []:=rfl
theorem Dens.cons {d:D} {ds:List D} {v:V} {xs:List V} (h:Den K H d v) (t:Dens K H ds xs):Dens K H (d::ds) (v::xs):=⟨v,xs,rfl,h,t⟩
theorem Dens.append:∀ {ds es:List D} {xs ys:List V},Dens K H ds xs→Dens K H es ys→Dens K H (ds++es) (xs++ys)
 | [],_,_,_,h,t=>by cases h;exact t
 | d::ds,_,_,_,⟨v,vs,e,h1,h2⟩,t=>by subst e;exact ⟨v,_,rfl,h1,Dens.append h2 t⟩
theorem Dens.take:∀ {ds:List D} {xs:List V} (n:Nat),Dens K H ds xs→Dens K H (ds.take n) (xs.take n)
 | _,_,0,_=>by simp only [List.take_zero];exact rfl
 | [],_,n+1,h=>by cases h;exact rfl
 | d::ds,_,n+1,⟨v,vs,e,h1,h2⟩=>by subst e;exact ⟨v,_,rfl,h1,Dens.take n h2⟩
theorem Dens.drop:∀ {ds:List D} {xs:List V} (n:Nat),Dens K H ds xs→Dens K H (ds.drop n) (xs.drop n)
 | _,_,0,h=>h
 | [],_,n+1,h=>by cases h;exact rfl
 | d::ds,_,n+1,⟨v,vs,e,h1,h2⟩=>by subst e;exact Dens.drop n h2
theorem Dens.set {d:D} {v:V} (r:Den K H d v):∀ {ds:List D} {xs:List V} (i:Nat),Dens K H ds xs→Dens K H (ds.set i d) (xs.set i v)
 | [],_,_,h=>by cases h;exact rfl
 | d'::ds,_,0,⟨v,vs,e,h1,h2⟩=>by subst e;exact ⟨_,_,rfl,r,h2⟩
 | d'::ds,_,i+1,⟨v,vs,e,h1,h2⟩=>by subst e;exact ⟨_,_,rfl,h1,Dens.set r i h2⟩
end
noncomputable def mask (as:List Addr) (H:Hp):Hp:=fun b=>if b∈as then none else H b
theorem dI {as:List Addr} {H:Hp} {b:Addr} (h:b∈as):mask as H b=none:=if_pos h
theorem aJ {as:List Addr} {H:Hp} {b:Addr} (h:b∉as):mask as H b=H b:=if_neg h
theorem pQ {H:Hp}:mask [] H=H:=by funext b;exact if_neg (by simp)
theorem aA (as:List Addr) (H:Hp):Same (mask as H) H:=fun b o e=>by
 unfold mask at e
 split at e
 ·cases e
 ·exact e
theorem aG {as:List Addr} {H H':Hp} (s:Same H H'):Same (mask as H) (mask as H'):=fun b o e=>by
 unfold mask at e ⊢
 split at e
 ·cases e
 ·rename_i h;rw [if_neg h];exact s b o e
theorem mY (as bs:List Addr) (H:Hp):mask (as++bs) H=mask bs (mask as H):=by
 funext b
 unfold mask
 by_cases h1:b∈as <;> by_cases h2:b∈bs <;> simp [h1,h2]
theorem iV {as bs:List Addr} {H:Hp} (h:∀ a∈bs,a∈as):Same (mask as H) (mask bs H):=fun b o e=>by
 by_cases hb:b∈as
 ·rw [dI hb] at e;cases e
 ·rw [aJ hb] at e
  rw [aJ fun z=>hb (h b z)]
  exact e
theorem uh {as:List Addr} {B H:Hp} (s:Same B H) (h:∀ a∈as,B a=none):Same B (mask as H):=fun b o e=>by
 have hb:b∉as:=fun z=>by rw [h b z] at e;cases e
 rw [aJ hb]
 exact s b o e
inductive R (α:Type) where
 | ok (a:α)
 | er (x:Str)
 | no
noncomputable def R.bind {α β:Type} (r:R α) (f:α→R β):R β:=match r with
 | .ok a=>f a
 | .er x=>.er x
 | .no=>.no
theorem aD {α β:Type} {a:α} {f:α→R β}:(R.ok a).bind f=f a:=rfl
theorem bind_assoc {α β γ:Type} (r:R α) (f:α→R β) (g:β→R γ):(r.bind f).bind g=r.bind fun a=>(f a).bind g:=by cases r <;> rfl
structure Wd where
 K:PySem.W.Frag
 mg:Str→Option Value
 E:XK
noncomputable abbrev Sd:=List (Option D)
noncomputable def Fits (W:Wd) (as:List Addr) (H:Hp) (r:R D) (Q:VK):Prop:=match r with
 | .ok d=>∀ v H',Same H H'→Den W.K (mask as H') d v→Q v H'
 | .er x=>∀ e C H',Same H H'→W.mg x=some (.ref C)→W.E e (some C) H'
 | .no=>False
noncomputable def FitsA (W:Wd) (as:List Addr) (H:Hp) (r:R (List D)) (Q:List V→Hp→Prop):Prop:=match r with
 | .ok d=>∀ v H',Same H H'→Dens W.K (mask as H') d v→Q v H'
 | .er x=>∀ e C H',Same H H'→W.mg x=some (.ref C)→W.E e (some C) H'
 | .no=>False
noncomputable def FitsP {α:Type} (W:Wd) (H:Hp) (r:R α) (Q:α→Hp→Prop):Prop:=match r with
 | .ok b=>∀ H',Same H H'→Q b H'
 | .er x=>∀ e C H',Same H H'→W.mg x=some (.ref C)→W.E e (some C) H'
 | .no=>False
noncomputable def OwnD (K:PySem.W.Frag) (H:Hp) (o:HO):D→Prop
 | .lst ds=>∃ xs,o=.lst xs∧Dens K H ds xs
 | .dct ds=>∃ xs,o=.dK xs∧DenK K H ds xs
 | .obj C ds=>∃ dx xs,o=.ins C dx xs∧DenF K H ds xs
 | _=>False
noncomputable def FitsN (W:Wd) (as:List Addr) (H:Hp) (r:R D) (Q:VK):Prop:=match r with
 | .ok d=>∀ p o H',Same H H'→H p=none→H' p=some o→OwnD W.K (mask (p::as) H') o d→Q (.ref p) H'
 | .er x=>∀ e C H',Same H H'→W.mg x=some (.ref C)→W.E e (some C) H'
 | .no=>False
theorem Fits.mono {W:Wd} {as:List Addr} {H H':Hp} {r:R D} {Q:VK} (h:Fits W as H r Q) (s:Same H H'):Fits W as H' r Q:=by
 cases r with
 | ok d=>exact fun v H2 s2=>h v H2 (s.trans s2)
 | er x=>exact fun e C H2 s2=>h e C H2 (s.trans s2)
 | no=>exact h
theorem FitsN.mono {W:Wd} {as:List Addr} {H H':Hp} {r:R D} {Q:VK} (h:FitsN W as H r Q) (s:Same H H'):FitsN W as H' r Q:=by
 cases r with
 | ok d=>exact fun p o H2 s2 hp=>h p o H2 (s.trans s2) (s.free hp)
 | er x=>exact fun e C H2 s2=>h e C H2 (s.trans s2)
 | no=>exact h
theorem FitsA.mono {W:Wd} {as:List Addr} {H H':Hp} {r:R (List D)} {Q:List V→Hp→Prop} (h:FitsA W as H r Q) (s:Same H H'):FitsA W as H' r Q:=by
 cases r with
 | ok d=>exact fun v H2 s2=>h v H2 (s.trans s2)
 | er x=>exact fun e C H2 s2=>h e C H2 (s.trans s2)
 | no=>exact h
theorem FitsP.mono {α:Type} {W:Wd} {H H':Hp} {r:R α} {Q:α→Hp→Prop} (h:FitsP W H r Q) (s:Same H H'):FitsP W H' r Q:=by
 cases r with
 | ok d=>exact fun H2 s2=>h H2 (s.trans s2)
 | er x=>exact fun e C H2 s2=>h e C H2 (s.trans s2)
 | no=>exact h
theorem OwnD.den {K:PySem.W.Frag} {H:Hp} {p:Addr} {as:List Addr} {o:HO} {d:D} (hp:p∉as) (e:H p=some o) (h:OwnD K (mask (p::as) H) o d):Den K (mask as H) d (.ref p):=by
 have s:Same (mask (p::as) H) (mask as H):=iV fun a ha=>List.mem_cons_of_mem _ ha
 have e':mask as H p=some o:=by rw [aJ hp];exact e
 cases d with
 | lst ds=>obtain ⟨xs,rfl,h⟩:=h;exact ⟨p,xs,rfl,.inl (.inl e'),h.mono s⟩
 | dct ds=>obtain ⟨xs,rfl,h⟩:=h;exact ⟨p,xs,rfl,e',h.mono s⟩
 | obj C ds=>obtain ⟨dx,xs,rfl,h⟩:=h;exact ⟨p,dx,xs,rfl,e',h.mono s⟩
 | _=>exact h.elim
structure DI (K:PySem.W.Frag) (as0:List Addr) (B:Hp) (O:List Nat) (own:List Addr) (σ:St) (δ:Sd) (H:Hp):Prop where
 len:δ.length=σ.length
 olen:own.length=O.length
 nd:own.Nodup
 ond:O.Nodup
 fresh:∀ a∈own,B a=none
 ex0:∀ a∈as0,B a≠none
 same:Same B H
 var:∀ i d,i∉O→δ[i]?=some (some d)→∃ v,σ[i]?=some (some v)∧Den K (mask (own++as0) H) d v
 owns:∀ i a,(i,a)∈O.zip own→∃ d o,δ[i]?=some (some d)∧σ[i]?=some (some (.ref a))∧H a=some o∧OwnD K (mask (own++as0) H) o d
section
variable {K:PySem.W.Frag} {as0 own:List Addr} {B H H':Hp} {O:List Nat} {σ:St} {δ:Sd}
theorem OwnD.mono {o:HO} {d:D} (s:Same H H') (h:OwnD K H o d):OwnD K H' o d:=by
 cases d with
 | lst ds=>obtain ⟨xs,rfl,h⟩:=h;exact ⟨xs,rfl,h.mono s⟩
 | dct ds=>obtain ⟨xs,rfl,h⟩:=h;exact ⟨xs,rfl,h.mono s⟩
 | obj C ds=>obtain ⟨dx,xs,rfl,h⟩:=h;exact ⟨dx,xs,rfl,h.mono s⟩
 | _=>exact h.elim
theorem li:∀ {O:List Nat} {own:List Addr} {a:Addr},own.length=O.length→a∈own→∃ i,(i,a)∈O.zip own
 | [],[],_,_,h=>by cases h
 | i::O,b::own,a,l,h=>by
  rcases List.mem_cons.mp h with rfl|h
  ·exact ⟨i,List.mem_cons_self⟩
  ·obtain ⟨j,hj⟩:=li (O:=O) (own:=own) (by simpa using l) h
   exact ⟨j,List.mem_cons_of_mem _ hj⟩
 | [],_::_,_,l,_=>by simp at l
 | _::_,[],_,_,h=>by cases h
theorem DI.exi (I:DI K as0 B O own σ δ H):∀ a∈own++as0,H a≠none:=fun a ha=>by
 rcases List.mem_append.mp ha with h|h
 ·obtain ⟨i,hi⟩:=li I.olen h
  obtain ⟨d,o,_,_,e,_⟩:=I.owns i a hi
  rw [e];simp
 ·cases e:B a with
  | none=>exact absurd e (I.ex0 a h)
  | some o=>rw [I.same a o e];simp
theorem DI.new (I:DI K as0 B O own σ δ H) {p:Addr} (h:H p=none):p∉own++as0:=fun z=>I.exi p z h
theorem DI.mono (I:DI K as0 B O own σ δ H) (s:Same H H'):DI K as0 B O own σ δ H' :=
 ⟨I.len,I.olen,I.nd,I.ond,I.fresh,I.ex0,I.same.trans s,fun i d hi e=>let ⟨v,h1,h2⟩:=I.var i d hi e;⟨v,h1,h2.mono (aG s)⟩,
  fun i a hi=>let ⟨d,o,h1,h2,h3,h4⟩:=I.owns i a hi;⟨d,o,h1,h2,s a o h3,h4.mono (aG s)⟩⟩
theorem DI.base {B':Hp} (I:DI K as0 B' O own σ δ H) (s:Same B B') (h:∀ a∈as0,B a≠none):DI K as0 B O own σ δ H :=
 ⟨I.len,I.olen,I.nd,I.ond,fun a ha=>s.free (I.fresh a ha),h,s.trans I.same,I.var,I.owns⟩
theorem DI.rebase (I:DI K as0 B O own σ δ H) (h0:∀ a∈own,a∉as0):DI K as0 (mask own H) O own σ δ H :=
 ⟨I.len,I.olen,I.nd,I.ond,fun a ha=>dI ha,fun a ha=>(by
  rw [aJ fun z=>h0 a z ha]
  cases e:B a with
  | none=>exact absurd e (I.ex0 a ha)
  | some o=>rw [I.same a o e];simp),aA _ _,I.var,I.owns⟩
theorem DI.apart (I:DI K as0 B O own σ δ H):∀ a∈own,a∉as0:=fun a ha z=>I.ex0 a z (I.fresh a ha)
theorem DI.baseIn (I:DI K as0 B O own σ δ H):Same B (mask own H):=uh I.same I.fresh
end
noncomputable abbrev FE:=Sd→R D
noncomputable abbrev FT:=Sd→R Bool
noncomputable abbrev FA:=Sd→R (List D)
noncomputable def tD (W:Wd) (O:List Nat) (φ:FE):TE:=fun σ H Q=>∃ as0 B own δ,DI W.K as0 B O own σ δ H∧Fits W (own++as0) H (φ δ) Q
noncomputable def tN (W:Wd) (O:List Nat) (φ:FE):TE:=fun σ H Q=>∃ as0 B own δ,DI W.K as0 B O own σ δ H∧FitsN W (own++as0) H (φ δ) Q
noncomputable def tDT (W:Wd) (O:List Nat) (φ:FT):TT:=fun σ H Q=>∃ as0 B own δ,DI W.K as0 B O own σ δ H∧FitsP W H (φ δ) Q
noncomputable def tDA (W:Wd) (O:List Nat) (φ:FA):TA:=fun σ H Q=>∃ as0 B own δ,DI W.K as0 B O own σ δ H∧FitsA W (own++as0) H (φ δ) Q
noncomputable def tDO (W:Wd) (O:List Nat) (φ:Sd→R (Option Int)):TO:=fun σ H Q=>∃ as0 B own δ,DI W.K as0 B O own σ δ H∧FitsP W H (φ δ) Q
section
variable {W:Wd} {as:List Addr} {H:Hp} {Q:VK}
theorem b5 {r:R D} {f:D→R D} {Q':VK} (h:Fits W as H (r.bind f) Q) (q:∀ d v H',Same H H'→Den W.K (mask as H') d v→Fits W as H' (f d) Q→Q' v H'):Fits W as H r Q':=by
 cases r with
 | ok d=>exact fun v H' s dv=>q d v H' s dv (Fits.mono h s)
 | er x=>exact h
 | no=>exact h
theorem di {r:R (List D)} {f:List D→R D} {Q':List V→Hp→Prop} (h:Fits W as H (r.bind f) Q) (q:∀ d v H',Same H H'→Dens W.K (mask as H') d v→Fits W as H' (f d) Q→Q' v H'):FitsA W as H r Q':=by
 cases r with
 | ok d=>exact fun v H' s dv=>q d v H' s dv (Fits.mono h s)
 | er x=>exact h
 | no=>exact h
theorem io {r:R (List D)} {f:List D→R D} {Q':List V→Hp→Prop} (h:FitsN W as H (r.bind f) Q) (q:∀ d v H',Same H H'→Dens W.K (mask as H') d v→FitsN W as H' (f d) Q→Q' v H'):FitsA W as H r Q':=by
 cases r with
 | ok d=>exact fun v H' s dv=>q d v H' s dv (FitsN.mono h s)
 | er x=>exact h
 | no=>exact h
theorem jx {α:Type} {r:R α} {f:α→R D} {Q':α→Hp→Prop} (h:Fits W as H (r.bind f) Q) (q:∀ d H',Same H H'→Fits W as H' (f d) Q→Q' d H'):FitsP W H r Q':=by
 cases r with
 | ok d=>exact fun H' s=>q d H' s (Fits.mono h s)
 | er x=>exact h
 | no=>exact h
theorem dh {α:Type} {r:R D} {f:D→R α} {Q:α→Hp→Prop} {Q':VK} (h:FitsP W H (r.bind f) Q) (q:∀ d v H',Same H H'→Den W.K (mask as H') d v→FitsP W H' (f d) Q→Q' v H'):Fits W as H r Q':=by
 cases r with
 | ok d=>exact fun v H' s dv=>q d v H' s dv (FitsP.mono h s)
 | er x=>exact h
 | no=>exact h
theorem iu {α β:Type} {r:R α} {f:α→R β} {Q:β→Hp→Prop} {Q':α→Hp→Prop} (h:FitsP W H (r.bind f) Q) (q:∀ d H',Same H H'→FitsP W H' (f d) Q→Q' d H'):FitsP W H r Q':=by
 cases r with
 | ok d=>exact fun H' s=>q d H' s (FitsP.mono h s)
 | er x=>exact h
 | no=>exact h
theorem qL {r:R D} {f:D→R (List D)} {Q:List V→Hp→Prop} {Q':VK} (h:FitsA W as H (r.bind f) Q) (q:∀ d v H',Same H H'→Den W.K (mask as H') d v→FitsA W as H' (f d) Q→Q' v H'):Fits W as H r Q':=by
 cases r with
 | ok d=>exact fun v H' s dv=>q d v H' s dv (FitsA.mono h s)
 | er x=>exact h
 | no=>exact h
theorem pd {r:R (List D)} {f:List D→R (List D)} {Q Q':List V→Hp→Prop} (h:FitsA W as H (r.bind f) Q) (q:∀ d v H',Same H H'→Dens W.K (mask as H') d v→FitsA W as H' (f d) Q→Q' v H'):FitsA W as H r Q':=by
 cases r with
 | ok d=>exact fun v H' s dv=>q d v H' s dv (FitsA.mono h s)
 | er x=>exact h
 | no=>exact h
end
section
variable {X:Cx} {W:Wd} {O:List Nat} {a b c e:Expr} {φ ψ χ:FE} {pos:Pos} {rest es:List Expr} {α:FA}
noncomputable def ai (i:Nat):FE:=fun δ=>match δ[i]? with
 | some (some d)=>.ok d
 | _=>.no
noncomputable def vC (d:D):FE:=fun _=>.ok d
theorem af (i:Nat) {x:Str} (hO:i∉O:=by decide) (hN:X.N[i]?=some x:=by rfl) (hv:Vis X.env.scope x:=by first|exact Or.inl rfl|exact Or.inr (Or.inl rfl)|exact Or.inr (Or.inr rfl)) (hd:(x==("__debug__":Str))=false:=by decide)
  (hcd:(x==("__classdict__":Str))=false:=by decide):JE X (.Name x pos) (tD W O (ai i)):=(jv i hN hv hd hcd).imp fun σ H Q hh=>exE hh fun as0 B own δ I h=>by
 unfold ai at h
 split at h
 ·rename_i d e
  obtain ⟨v,h1,h2⟩:=I.var i d hO e
  show kVar σ[i]? H Q
  rw [h1]
  exact h v H (Same.refl H) h2
 ·exact h.elim
theorem ak {i j}:JE X (.Constant (.int i) j pos) (tD W O (vC (.int i))):=A6.imp fun σ H Q hh=>exE hh fun as0 B own δ I h=>h _ H (Same.refl H) rfl
theorem ql {b j}:JE X (.Constant (.bool b) j pos) (tD W O (vC (.bl b))):=j_bl.imp fun σ H Q hh=>exE hh fun as0 B own δ I h=>h _ H (Same.refl H) rfl
theorem g7 {j}:JE X (.Constant .none j pos) (tD W O (vC .non)):=z8.imp fun σ H Q hh=>exE hh fun as0 B own δ I h=>h _ H (Same.refl H) rfl
theorem cc {x j}:JE X (.Constant (.str x) j pos) (tD W O (vC (.str x))):=Ad.imp fun σ H Q hh=>exE hh fun as0 B own δ I h=>h _ H (Same.refl H) rfl
theorem tR {x:Str} {d:D} {v:V} {u:Value} (hm:X.mg x=some u) (r:RelV v u) (hd:∀ H,Den W.K H d v) (hg:Gl X x:=by rfl) (hdb:(x==("__debug__":Str))=false:=by decide):JE X (.Name x pos) (tD W O (vC d)) :=
 (wg hm r hg hdb).imp fun σ H Q hh=>exE hh fun as0 B own δ I h=>h _ H (Same.refl H) (hd _)
theorem rT {x:Str} {n:String} (hm:X.mg x=none) (hv:bootBuiltins x=some (.type n)) (hg:Gl X x:=by rfl) (hn:x≠"__name__":=by decide) (hd:(x==("__debug__":Str))=false:=by decide):JE X (.Name x pos) (tD W O (vC (.ty n))) :=
 (j_ty hm hv hg hn hd).imp fun σ H Q hh=>exE hh fun as0 B own δ I h=>h _ H (Same.refl H) rfl
noncomputable def OpD (W:Wd) (r:R2) (op:D→D→R D):Prop:=∀ (as:List Addr) (H:Hp) (x y:V) (a b:D) (Q:VK),(∀ p,H p=none→p∉as)→Den W.K (mask as H) a x→Den W.K (mask as H) b y→Fits W as H (op a b) Q→r x y H Q
noncomputable def vOp (op:D→D→R D) (φ ψ:FE):FE:=fun δ=>(φ δ).bind fun x=>(ψ δ).bind fun y=>op x y
theorem wH {t:TE→TE→TE} {r:R2} {op:D→D→R D} (ht:∀ {ta tb:TE},JE X a ta→JE X b tb→JE X e (t ta tb)) (et:t=tOp r) (ho:OpD W r op) (ha:JE X a (tD W O φ)) (hb:JE X b (tD W O ψ)):JE X e (tD W O (vOp op φ ψ)):=by
 subst et
 refine (ht ha hb).imp fun σ H Q hh=>exE hh fun as0 B own δ I h=>⟨as0,B,own,δ,I,b5 h fun x v H1 s1 d1 h1=>⟨as0,B,own,δ,I.mono s1,b5 h1 fun y u H2 s2 d2 h2=>?_⟩⟩
 exact ho (own++as0) H2 v u x y Q (fun p hp=>((I.mono s1).mono s2).new hp) (d1.mono (aG s2)) d2 h2
theorem aY {op:Operator} {r:R2} {g:D→D→R D} (ho:OpR X (binaryOp op) r) (hd:OpD W r g) (ha:JE X a (tD W O φ)) (hb:JE X b (tD W O ψ)):JE X (.BinOp a op b pos) (tD W O (vOp g φ ψ)) :=
 wH (t:=tOp r) (fun h1 h2=>j_op ho h1 h2) rfl hd ha hb
theorem mv {op:CmpOp} {r:R2} {g:D→D→R D} (ho:OpR X (compareOp op) r) (hd:OpD W r g) (ha:JE X a (tD W O φ)) (hb:JE X b (tD W O ψ)) (hm:behindInMarks op b=false):JE X (.Compare a [op] [b] pos) (tD W O (vOp g φ ψ)) :=
 wH (t:=tOp r) (fun h1 h2=>Al ho h1 h2 hm) rfl hd ha hb
theorem a7 {r:R2} {g:D→D→R D} (hr:IxR X r) (hd:OpD W r g) (ha:JE X a (tD W O φ)) (hb:JE X b (tD W O ψ)) (hs:PlainIx b:=by exact fun _ _=>rfl):JE X (.Subscript a b pos) (tD W O (vOp g φ ψ)) :=
 wH (t:=tOp r) (fun h1 h2=>Ba hr h1 h2 hs) rfl hd ha hb
noncomputable def UnD (W:Wd) (r:V→Hp→VK→Prop) (op:D→R D):Prop:=∀ (as:List Addr) (H:Hp) (x:V) (a:D) (Q:VK),Den W.K (mask as H) a x→Fits W as H (op a) Q→r x H Q
noncomputable def vUn (op:D→R D) (φ:FE):FE:=fun δ=>(φ δ).bind op
theorem zT {op:UnaryOp} {r:V→Hp→VK→Prop} {g:D→R D} (ho:UnR X (unaryOp op) r) (hd:UnD W r g) (ha:JE X a (tD W O φ)):JE X (.UnaryOp op a pos) (tD W O (vUn g φ)) :=
 (j_un ho ha).imp fun σ H Q hh=>exE hh fun as0 B own δ I h=>⟨as0,B,own,δ,I,b5 h fun x v H1 s1 d1 h1=>hd (own++as0) H1 v x Q d1 h1⟩
noncomputable def blD {α:Type} (d:D) (f:Bool→R α):R α:=match d with
 | .bl b=>f b
 | _=>.no
noncomputable def vNot (φ:FE):FE:=fun δ=>(φ δ).bind fun x=>blD x fun b=>.ok (.bl (!b))
noncomputable def vAnd (φ ψ:FE):FE:=fun δ=>(φ δ).bind fun x=>blD x fun b=>if b=true then ψ δ else .ok (.bl false)
noncomputable def vOr (φ ψ:FE):FE:=fun δ=>(φ δ).bind fun x=>blD x fun b=>if b=true then .ok (.bl true) else ψ δ
theorem Ao (ha:JE X a (tD W O φ)):JE X (.UnaryOp .Not a pos) (tD W O (vNot φ)) :=
 (Ai ha).imp fun σ H Q hh=>exE hh fun as0 B own δ I h=>⟨as0,B,own,δ,I,b5 h fun x v H1 s1 d1 h1=>by
  cases x with
  | bl b=>cases d1;exact h1 _ H1 (Same.refl _) rfl
  | _=>exact h1.elim⟩
theorem ph {op} (h:JE X a (tD W O φ)):JE X (.BoolOp op [a] pos) (tD W O φ):=AY h
theorem vg (ha:JE X a (tD W O φ)) (hb:JE X (.BoolOp .And (b::rest) pos) (tD W O ψ)):JE X (.BoolOp .And (a::b::rest) pos) (tD W O (vAnd φ ψ)) :=
 (AC ha hb).imp fun σ H Q hh=>exE hh fun as0 B own δ I h=>⟨as0,B,own,δ,I,b5 h fun x v H1 s1 d1 h1=>by
  cases x with
  | bl b =>
   cases d1
   cases b with
   | true=>exact ⟨as0,B,own,δ,I.mono s1,h1⟩
   | false=>exact h1 _ H1 (Same.refl _) rfl
  | _=>exact h1.elim⟩
theorem AD (ha:JE X a (tD W O φ)) (hb:JE X (.BoolOp .Or (b::rest) pos) (tD W O ψ)):JE X (.BoolOp .Or (a::b::rest) pos) (tD W O (vOr φ ψ)) :=
 (j_or ha hb).imp fun σ H Q hh=>exE hh fun as0 B own δ I h=>⟨as0,B,own,δ,I,b5 h fun x v H1 s1 d1 h1=>by
  cases x with
  | bl b =>
   cases d1
   cases b with
   | false=>exact ⟨as0,B,own,δ,I.mono s1,h1⟩
   | true=>exact h1 _ H1 (Same.refl _) rfl
  | _=>exact h1.elim⟩
variable {τ υ:FT}
noncomputable def qBl (φ:FE):FT:=fun δ=>(φ δ).bind fun x=>blD x .ok
theorem aH {op:CmpOp} {r:R2} {g:D→D→R D} (ho:OpR X (compareOp op) r) (hd:OpD W r g) (ha:JE X a (tD W O φ)) (hb:JE X b (tD W O ψ)) (hm:behindInMarks op b=false):JT X (.Compare a [op] [b] pos) (tDT W O (qBl (vOp g φ ψ))):=by
 refine (vI ho ha hb hm).imp fun σ H Q hh=>exE hh fun as0 B own δ I h=>?_
 have h':FitsP W H ((φ δ).bind fun x=>((ψ δ).bind fun y=>g x y).bind fun x=>blD x .ok) Q:=by
  have e:qBl (vOp g φ ψ) δ=(φ δ).bind fun x=>((ψ δ).bind fun y=>g x y).bind fun x=>blD x .ok:=by
   unfold qBl vOp;rw [bind_assoc]
  rw [e] at h
  exact h
 refine ⟨as0,B,own,δ,I,dh h' fun x v H1 s1 d1 h1=>?_⟩
 have h1':FitsP W H1 ((ψ δ).bind fun y=>(g x y).bind fun x=>blD x .ok) Q:=by rw [← bind_assoc];exact h1
 refine ⟨as0,B,own,δ,I.mono s1,dh h1' fun y u H2 s2 d2 h2=>?_⟩
 refine hd (own++as0) H2 v u x y _ (fun p hp=>((I.mono s1).mono s2).new hp) (d1.mono (aG s2)) d2 (dh h2 fun z w H3 s3 d3 h3=>?_)
 cases z with
 | bl k=>cases d3;exact h3 H3 (Same.refl _)
 | _=>exact h3.elim
noncomputable def truD:D→R Bool
 | .non=>.ok false
 | .bl b=>.ok b
 | .int i=>.ok (i != 0)
 | .str y=>if y.length≤1000000 then .ok (y.length != 0) else .no
 | .lst xs=>.ok (!xs.isEmpty)
 | .tup xs=>.ok (!xs.isEmpty)
 | .dct kvs=>.ok (!kvs.isEmpty)
 | _=>.no
theorem Dens.empty {K:PySem.W.Frag} {H:Hp} {ds:List D} {xs:List V} (h:Dens K H ds xs):xs.isEmpty=ds.isEmpty:=by
 cases ds with
 | nil=>cases h;rfl
 | cons d r=>obtain ⟨v,vs,rfl,_⟩:=h;rfl
theorem DenK.empty {K:PySem.W.Frag} {H:Hp} {ds:List (Key×D)} {xs:List (Key×V)} (h:DenK K H ds xs):xs.isEmpty=ds.isEmpty:=by
 cases ds with
 | nil=>cases h;rfl
 | cons d r=>obtain ⟨k,d⟩:=d;obtain ⟨v,vs,rfl,_⟩:=h;rfl
theorem million:(1000000:Nat)≤sizeLine:=by rw [sizeLine_eq];decide
noncomputable def eT (φ:FE):FT:=fun δ=>(φ δ).bind truD
theorem aQ (K:PySem.W.Frag) (ha:JE X a (tD W O φ)) (he:∀ whole,isTrue a X.env whole=(do let v ← whole;standAt a.pos;holding [v] (truthy v)):=by exact fun _=>rfl) (hK:X.K=K:=by rfl) (hW:W.K=K:=by rfl):JT X a (tDT W O (eT φ)) :=
 (vi K ha he hK).imp fun σ H Q hh=>exE hh fun as0 B own δ I h=>⟨as0,B,own,δ,I,dh h fun x v H1 s1 d1 h1=>by
  subst hW
  cases x with
  | non=>cases d1;exact h1 H1 (Same.refl _)
  | bl b=>cases d1;exact h1 H1 (Same.refl _)
  | int i=>cases d1;exact h1 H1 (Same.refl _)
  | str y =>
   cases d1
   have h2:FitsP W H1 (if y.length≤1000000 then R.ok (y.length != 0) else R.no) Q:=h1
   split at h2
   ·rename_i hl
    refine ⟨Nat.le_trans hl million,?_⟩
    have e:((y.length:Int) != 0)=(y.length != 0):=by
     cases hy:y.length with
     | zero=>rfl
     | succ n=>simp;omega
    rw [e]
    exact h2 H1 (Same.refl _)
   ·exact h2.elim
  | lst ds =>
   obtain ⟨p,xs,rfl,q1,q2⟩:=d1
   refine .inl (.inl ⟨xs,(aA _ _).seq q1,?_⟩)
   rw [q2.empty]
   exact h1 H1 (Same.refl _)
  | tup ds =>
   obtain ⟨p,xs,rfl,q1,q2⟩:=d1
   refine .inl (.inr ⟨xs,(aA _ _).seqT q1,?_⟩)
   rw [q2.empty]
   exact h1 H1 (Same.refl _)
  | dct ds =>
   obtain ⟨p,xs,rfl,q1,q2⟩:=d1
   refine .inr ⟨xs,aA _ _ _ _ q1,?_⟩
   rw [q2.empty]
   exact h1 H1 (Same.refl _)
  | _=>exact h1.elim⟩
noncomputable def qAnd (τ υ:FT):FT:=fun δ=>(τ δ).bind fun b=>if b=true then υ δ else .ok false
noncomputable def qOr (τ υ:FT):FT:=fun δ=>(τ δ).bind fun b=>if b=true then .ok true else υ δ
noncomputable def iC (τ:FT):FT:=fun δ=>(τ δ).bind fun b=>.ok (!b)
theorem bH (h:JW X a (tDT W O τ)):JT X a (tDT W O τ):=xK h
theorem jG (ha:JT X a (tDT W O τ)):JW X (.BoolOp .And [a] pos) (tDT W O τ):=wS ha
theorem fT (ha:JT X a (tDT W O τ)):JW X (.BoolOp .Or [a] pos) (tDT W O τ):=zj ha
theorem lL (ha:JT X a (tDT W O τ)) (hb:JW X (.BoolOp .And (b::rest) pos) (tDT W O υ)):JW X (.BoolOp .And (a::b::rest) pos) (tDT W O (qAnd τ υ)) :=
 (zt ha hb).imp fun σ H Q hh=>exE hh fun as0 B own δ I h=>⟨as0,B,own,δ,I,iu h fun c H1 s1 h1=>by
  cases c with
  | true=>exact ⟨as0,B,own,δ,I.mono s1,h1⟩
  | false=>exact h1 H1 (Same.refl _)⟩
theorem gZ (ha:JT X a (tDT W O τ)) (hb:JW X (.BoolOp .Or (b::rest) pos) (tDT W O υ)):JW X (.BoolOp .Or (a::b::rest) pos) (tDT W O (qOr τ υ)) :=
 (A9 ha hb).imp fun σ H Q hh=>exE hh fun as0 B own δ I h=>⟨as0,B,own,δ,I,iu h fun c H1 s1 h1=>by
  cases c with
  | false=>exact ⟨as0,B,own,δ,I.mono s1,h1⟩
  | true=>exact h1 H1 (Same.refl _)⟩
theorem cY (ha:JT X a (tDT W O τ)):JT X (.UnaryOp .Not a pos) (tDT W O (iC τ)) :=
 (yP ha).imp fun σ H Q hh=>exE hh fun as0 B own δ I h=>⟨as0,B,own,δ,I,iu h fun c H1 s1 h1=>h1 H1 (Same.refl _)⟩
noncomputable def vIf (τ:FT) (φ ψ:FE):FE:=fun δ=>(τ δ).bind fun b=>if b=true then φ δ else ψ δ
theorem sK (hc:JT X c (tDT W O τ)) (ha:JE X a (tD W O φ)) (hb:JE X b (tD W O ψ)):JE X (.IfExp c a b pos) (tD W O (vIf τ φ ψ)) :=
 (AZ hc ha hb).imp fun σ H Q hh=>exE hh fun as0 B own δ I h=>⟨as0,B,own,δ,I,jx h fun c H1 s1 h1=>by
  cases c with
  | true=>exact ⟨as0,B,own,δ,I.mono s1,h1⟩
  | false=>exact ⟨as0,B,own,δ,I.mono s1,h1⟩⟩
noncomputable def av:FA:=fun _=>.ok []
noncomputable def ae (φ:FE) (α:FA):FA:=fun δ=>(φ δ).bind fun d=>(α δ).bind fun ds=>.ok (d::ds)
theorem ah:JA X [] (tDA W O av):=sV.imp fun σ H Q hh=>exE hh fun as0 B own δ I h=>h [] H (Same.refl _) rfl
theorem aa (ha:JE X e (tD W O φ)) (hr:JA X es (tDA W O α)) (hn:noStar e=true:=by rfl):JA X (e::es) (tDA W O (ae φ α)) :=
 (oU ha hr hn).imp fun σ H Q hh=>exE hh fun as0 B own δ I h=>⟨as0,B,own,δ,I,qL h fun d v H1 s1 d1 h1=>⟨as0,B,own,δ,I.mono s1,pd h1 fun ds vs H2 s2 d2 h2 =>
  h2 (v::vs) H2 (Same.refl _) ⟨v,vs,rfl,d1.mono (aG s2),d2⟩⟩⟩
noncomputable def mkLst (ds:List D):R D:=if ds.length≤1000000 then .ok (.lst ds) else .no
noncomputable def mkTup (ds:List D):R D:=if ds.length≤1000000 then .ok (.tup ds) else .no
noncomputable def eR (α:FA):FE:=fun δ=>(α δ).bind mkLst
noncomputable def g9 (α:FA):FE:=fun δ=>(α δ).bind mkTup
theorem tK {as:List Addr} {H:Hp} {ds:List D} {xs:List V} {Q:VK} (h:FitsN W as H (mkLst ds) Q) (hd:Dens W.K (mask as H) ds xs):xs.length≤sizeLine∧∀ p,H p=none→Q (.ref p) (upd H p (.lst xs)):=by
 unfold mkLst at h
 split at h
 ·rename_i hl
  refine ⟨by rw [← hd.len];exact Nat.le_trans hl million,fun p hp=>?_⟩
  refine h p (.lst xs) (upd H p (.lst xs)) (aZ hp _) hp a9 ⟨xs,rfl,hd.mono ?_⟩
  intro b o e
  have hb:b≠p:=fun z=>by
   subst z
   have:=aA _ _ _ _ e
   rw [hp] at this;cases this
  by_cases hm:b∈as
  ·rw [dI hm] at e;cases e
  ·rw [aJ hm] at e
   rw [aJ (by simp [hb,hm]),aR hb]
   exact e
 ·exact h.elim
theorem ck (h:JA X es (tDA W O α)):JE X (.List es pos) (tN W O (eR α)) :=
 (AS h).imp fun σ H Q hh=>exE hh fun as0 B own δ I h=>⟨as0,B,own,δ,I,io h fun ds xs H1 s1 d1 h1=>tK h1 d1⟩
theorem cp (h:JE X e (tN W O φ)):JE X e (tD W O φ):=h.imp fun σ H Q hh=>exE hh fun as0 B own δ I q=>by
 refine ⟨as0,B,own,δ,I,?_⟩
 cases hr:φ δ with
 | ok d =>
  rw [hr] at q
  exact fun p o H' s hp e od=>q (.ref p) H' s (od.den (I.new hp) e)
 | er x=>rw [hr] at q;exact q
 | no=>rw [hr] at q;exact q
theorem cF {x1} (h:JA X es (tDA W O α)):JE X (.Tuple es x1 pos) (tD W O (g9 α)) :=
 (Am h).imp fun σ H Q hh=>exE hh fun as0 B own δ I h=>⟨as0,B,own,δ,I,di h fun ds xs H1 s1 d1 h1=>by
  unfold mkTup at h1
  split at h1
  ·rename_i hl
   refine ⟨by rw [← d1.len];exact Nat.le_trans hl million,fun p hp=>?_⟩
   have hn:=(I.mono s1).new hp
   refine h1 (.ref p) (upd H1 p (.tup xs)) (aZ hp _) ⟨p,xs,rfl,.inl (.inl ?_),d1.mono (aG (aZ hp _))⟩
   rw [aJ hn];exact a9
  ·exact h1.elim⟩
noncomputable def CallD (W:Wd) (r:List V→Hp→VK→Prop) (g:List D→R D):Prop:=∀ (as:List Addr) (H:Hp) (xs:List V) (ds:List D) (Q:VK),(∀ a∈as,H a≠none)→Dens W.K (mask as H) ds xs→Fits W as H (g ds) Q→r xs H Q
noncomputable def CallN (W:Wd) (r:List V→Hp→VK→Prop) (g:List D→R D):Prop:=∀ (as:List Addr) (H:Hp) (xs:List V) (ds:List D) (Q:VK),(∀ a∈as,H a≠none)→Dens W.K (mask as H) ds xs→FitsN W as H (g ds) Q→r xs H Q
noncomputable def ao (g:List D→R D) (α:FA):FE:=fun δ=>(α δ).bind g
section
variable {x:Str} {p:Pos} {id T:String} {r:List V→Hp→VK→Prop} {g:List D→R D}
theorem aL (hc:CallR X (.builtin id) r) (hd:CallD W r g) (hm:X.mg x=none) (hv:bootBuiltins x=some (.builtin id)) (ha:JA X (e::es) (tDA W O α)) (hg:Gl X x:=by rfl) (h1:noStar e=true:=by rfl) (h2:es.all noStar=true:=by rfl) (hn:x≠"__name__":=by decide) (hdb:(x==("__debug__":Str))=false:=by decide) :
  JE X (.Call (.Name x p) (e::es) [] pos) (tD W O (ao g α)) :=
 (wu hc hm hv ha hg h1 h2 hn hdb).imp fun σ H Q hh=>exE hh fun as0 B own δ I h=>⟨as0,B,own,δ,I,di h fun ds xs H1 s1 d1 h1=>hd (own++as0) H1 xs ds Q (I.mono s1).exi d1 h1⟩
theorem kI (hc:CallR X (.type T) r) (hd:CallD W r g) (hm:X.mg x=none) (hv:bootBuiltins x=some (.type T)) (ha:JA X (e::es) (tDA W O α)) (hg:Gl X x:=by rfl) (h1:noStar e=true:=by rfl) (h2:es.all noStar=true:=by rfl) (hn:x≠"__name__":=by decide) (hdb:(x==("__debug__":Str))=false:=by decide) :
  JE X (.Call (.Name x p) (e::es) [] pos) (tD W O (ao g α)) :=
 (ul hc hm hv ha hg h1 h2 hn hdb).imp fun σ H Q hh=>exE hh fun as0 B own δ I h=>⟨as0,B,own,δ,I,di h fun ds xs H1 s1 d1 h1=>hd (own++as0) H1 xs ds Q (I.mono s1).exi d1 h1⟩
theorem mH (hc:CallR X (.type T) r) (hd:CallN W r g) (hm:X.mg x=none) (hv:bootBuiltins x=some (.type T)) (ha:JA X (e::es) (tDA W O α)) (hg:Gl X x:=by rfl) (h1:noStar e=true:=by rfl) (h2:es.all noStar=true:=by rfl) (hn:x≠"__name__":=by decide) (hdb:(x==("__debug__":Str))=false:=by decide) :
  JE X (.Call (.Name x p) (e::es) [] pos) (tN W O (ao g α)) :=
 (ul hc hm hv ha hg h1 h2 hn hdb).imp fun σ H Q hh=>exE hh fun as0 B own δ I h=>⟨as0,B,own,δ,I,io h fun ds xs H1 s1 d1 h1=>hd (own++as0) H1 xs ds Q (I.mono s1).exi d1 h1⟩
end
noncomputable def jr:Sd→R (Option Int):=fun _=>.ok none
noncomputable def fZ (φ:FE):Sd→R (Option Int):=fun δ=>(φ δ).bind fun d=>match d with
 | .int i=>.ok (some i)
 | _=>.no
theorem dU:JO X none (tDO W O jr):=xq.imp fun σ H Q hh=>exE hh fun as0 B own δ I h=>h H (Same.refl _)
theorem cD (h:JE X e (tD W O φ)):JO X (some e) (tDO W O (fZ φ)):=(wq h).imp fun σ H Q hh=>exE hh fun as0 B own δ I h=>⟨as0,B,own,δ,I,dh h fun d v H1 s1 d1 h1=>by
  cases d with
  | int i=>cases d1;exact h1 H1 (Same.refl _)
  | _=>exact h1.elim⟩
noncomputable def SlD (W:Wd) (r:V→Option Int→Option Int→Hp→VK→Prop) (g:D→Option Int→Option Int→R D):Prop :=
 ∀ (as:List Addr) (H:Hp) (x:V) (lo hi:Option Int) (a:D) (Q:VK),(∀ p,H p=none→p∉as)→Den W.K (mask as H) a x→Fits W as H (g a lo hi) Q→r x lo hi H Q
noncomputable def vSl (g:D→Option Int→Option Int→R D) (φ:FE) (l u:Sd→R (Option Int)):FE:=fun δ=>(φ δ).bind fun x=>(l δ).bind fun lo=>(u δ).bind fun hi=>g x lo hi
theorem cW {r:V→Option Int→Option Int→Hp→VK→Prop} {g:D→Option Int→Option Int→R D} {lo hi:Option Expr} {l u:Sd→R (Option Int)} {p2:Pos} (hr:SlR X r) (hd:SlD W r g) (he:JE X e (tD W O φ)) (hl:JO X lo (tDO W O l)) (hu:JO X hi (tDO W O u)) :
  JE X (.Subscript e (.Slice lo hi none p2) pos) (tD W O (vSl g φ l u)) :=
 (wC hr he hl hu).imp fun σ H Q hh=>exE hh fun as0 B own δ I h=>⟨as0,B,own,δ,I,b5 h fun x v H1 s1 d1 h1=>⟨as0,B,own,δ,I.mono s1,jx h1 fun lo H2 s2 h2=>⟨as0,B,own,δ,(I.mono s1).mono s2,jx h2 fun hi H3 s3 h3 =>
  hd (own++as0) H3 v lo hi x Q (fun p hp=>(((I.mono s1).mono s2).mono s3).new hp) (d1.mono (aG (s2.trans s3))) h3⟩⟩⟩
noncomputable def SmD (W:Wd) (r:Str→List V→Hp→VK→Prop) (g:Str→List D→R D):Prop :=
 ∀ (as:List Addr) (H:Hp) (z:Str) (xs:List V) (ds:List D) (Q:VK),(∀ p,H p=none→p∉as)→Dens W.K (mask as H) ds xs→Fits W as H (g z ds) Q→r z xs H Q
noncomputable def vSM (g:Str→List D→R D) (φ:FE) (α:FA):FE:=fun δ=>(φ δ).bind fun x=>match x with
 | .str z=>(α δ).bind fun ds=>g z ds
 | _=>.no
theorem d_sm {o:Expr} {name:Str} {apos cpos:Pos} {id:String} {r:Str→List V→Hp→VK→Prop} {g:Str→List D→R D} (slot:Slot "str" name id) (hty:typeOf (.builtin id)=pure (.type "method_descriptor")) (hm:SmR X id r) (hd:SmD W r g) (ho:JE X o (tD W O φ)) (ha:JA X (e::es) (tDA W O α))
  (hbase:attributeBase o name X.env (eval o X.env)=eval o X.env:=by rfl) (hline:(apos.endLine==cpos.line)=true:=by rfl) (h1:(e::es).all noStar=true:=by rfl) (hl:(e::es).length < 29:=by decide) :
  JE X (.Call (.Attribute o name apos) (e::es) [] cpos) (tD W O (vSM g φ α)) :=
 (j_sm slot hty hm ho ha hbase hline h1 hl).imp fun σ H Q hh=>exE hh fun as0 B own δ I h=>⟨as0,B,own,δ,I,b5 h fun x v H1 s1 d1 h1=>by
  cases x with
  | str z =>
   cases d1
   exact ⟨as0,B,own,δ,I.mono s1,di h1 fun ds xs H2 s2 d2 h2=>hd (own++as0) H2 z xs ds Q (fun p hp=>((I.mono s1).mono s2).new hp) d2 h2⟩
  | _=>exact h1.elim⟩
end
end L2
namespace L2
open PySem PySem.Spec PyProof.Rows
inductive Fl where
 | nx (δ:Sd)|rt (d:D)|bk (δ:Sd)|ct (δ:Sd)
 /-- a return of what is laid anew,and nobody else's -/
 | rn (d:D)
noncomputable abbrev FS:=Sd→R Fl
noncomputable def FitsS (W:Wd) (as0:List Addr) (B:Hp) (Ob O':List Nat) (r:R Fl) (D:Ends):Prop:=match r with
 | .ok (.nx δ)=>∀ own σ H,DI W.K as0 B O' own σ δ H→D.nx σ H
 | .ok (.bk δ)=>∀ own σ H,DI W.K as0 B Ob own σ δ H→D.bk σ H
 | .ok (.ct δ)=>∀ own σ H,DI W.K as0 B Ob own σ δ H→D.ct σ H
 | .ok (.rt d)=>∀ v H,Same B H→Den W.K (mask as0 H) d v→D.rt v H
 | .ok (.rn d)=>∀ p o H,Same B H→B p=none→H p=some o→OwnD W.K (mask (p::as0) H) o d→D.rt (.ref p) H
 | .er x=>∀ e C H,Same B H→W.mg x=some (.ref C)→W.E e (some C) H
 | .no=>False
noncomputable def sD (W:Wd) (Ob O O':List Nat) (φ:FS):TS:=fun D σ H=>∃ as0 B own δ,DI W.K as0 B O own σ δ H∧FitsS W as0 B Ob O' (φ δ) D
section
variable {W:Wd} {as0 own:List Addr} {B H:Hp} {Ob O O':List Nat} {σ:St} {δ:Sd} {D':Ends}
theorem ci {r:R D} {f:D→R Fl} {Q:VK} (I:DI W.K as0 B O own σ δ H) (h:FitsS W as0 B Ob O' (r.bind f) D') (q:∀ d v H',Same H H'→Den W.K (mask (own++as0) H') d v→FitsS W as0 B Ob O' (f d) D'→Q v H'):Fits W (own++as0) H r Q:=by
 cases r with
 | ok d=>exact fun v H' s dv=>q d v H' s dv h
 | er x=>exact fun e C H' s=>h e C H' (I.same.trans s)
 | no=>exact h
theorem lq {r:R D} {f:D→R Fl} {Q:VK} (I:DI W.K as0 B O own σ δ H) (h:FitsS W as0 B Ob O' (r.bind f) D') (q:∀ d p o H',Same H H'→H p=none→H' p=some o→OwnD W.K (mask (p::(own++as0)) H') o d→FitsS W as0 B Ob O' (f d) D'→Q (.ref p) H'):FitsN W (own++as0) H r Q:=by
 cases r with
 | ok d=>exact fun p o H' s h1 h2 h3=>q d p o H' s h1 h2 h3 h
 | er x=>exact fun e C H' s=>h e C H' (I.same.trans s)
 | no=>exact h
theorem kO {α:Type} {r:R α} {f:α→R Fl} {Q:α→Hp→Prop} (I:DI W.K as0 B O own σ δ H) (h:FitsS W as0 B Ob O' (r.bind f) D') (q:∀ d H',Same H H'→FitsS W as0 B Ob O' (f d) D'→Q d H'):FitsP W H r Q:=by
 cases r with
 | ok d=>exact fun H' s=>q d H' s h
 | er x=>exact fun e C H' s=>h e C H' (I.same.trans s)
 | no=>exact h
theorem FitsS.base {B':Hp} {r:R Fl} (h:FitsS W as0 B Ob O' r D') (s:Same B B') (h0:∀ a∈as0,B a≠none):FitsS W as0 B' Ob O' r D':=by
 cases r with
 | ok f =>
  cases f with
  | nx δ=>exact fun own σ H I=>h own σ H (I.base s h0)
  | bk δ=>exact fun own σ H I=>h own σ H (I.base s h0)
  | ct δ=>exact fun own σ H I=>h own σ H (I.base s h0)
  | rt d=>exact fun v H s'=>h v H (s.trans s')
  | rn d=>exact fun p o H s' hp=>h p o H (s.trans s') (s.free hp)
 | er x=>exact fun e C H s'=>h e C H (s.trans s')
 | no=>exact h
theorem getElem?_set' {α:Type} {l:List α} {i j:Nat} {x:α}:(l.set i x)[j]?=if i=j then (if i < l.length then some x else none) else l[j]?:=List.getElem?_set
theorem DI.set {i:Nat} {d:D} {v:V} (I:DI W.K as0 B O own σ δ H) (hO:i∉O) (h:Den W.K (mask (own++as0) H) d v):DI W.K as0 B O own (σ.set i (some v)) (δ.set i (some d)) H:=by
 refine ⟨by simp [I.len],I.olen,I.nd,I.ond,I.fresh,I.ex0,I.same,fun j e hj q=>?_,fun j a hj=>?_⟩
 ·rw [getElem?_set'] at q ⊢
  split at q
  ·rename_i hij
   rw [if_pos hij]
   split at q
   ·rename_i hl
    rw [if_pos (by rw [← I.len];exact hl)]
    cases q
    exact ⟨v,rfl,h⟩
   ·cases q
  ·rename_i hij
   rw [if_neg hij]
   exact I.var j e hj q
 ·have hji:i≠j:=fun z=>hO (by rw [z];exact (List.of_mem_zip hj).1)
  obtain ⟨d',o,h1,h2,h3,h4⟩:=I.owns j a hj
  exact ⟨d',o,by rw [getElem?_set',if_neg hji];exact h1,by rw [getElem?_set',if_neg hji];exact h2,h3,h4⟩
theorem zip_inj:∀ {O:List Nat} {own:List Addr} {i j:Nat} {a:Addr},own.Nodup→(i,a)∈O.zip own→(j,a)∈O.zip own→i=j
 | [],_,_,_,_,_,h,_=>by simp at h
 | _::_,[],_,_,_,_,h,_=>by simp at h
 | k::O,b::own,i,j,a,nd,h1,h2=>by
  rw [List.zip_cons_cons] at h1 h2
  rw [List.nodup_cons] at nd
  rcases List.mem_cons.mp h1 with e1|h1 <;> rcases List.mem_cons.mp h2 with e2|h2
  ·cases e1;cases e2;rfl
  ·cases e1;exact absurd (List.of_mem_zip h2).2 nd.1
  ·cases e2;exact absurd (List.of_mem_zip h1).2 nd.1
  ·exact zip_inj nd.2 h1 h2
theorem c6:∀ {O:List Nat} {own:List Addr} {i:Nat},own.length=O.length→i∈O→∃ a,(i,a)∈O.zip own
 | [],_,_,_,h=>by cases h
 | k::O,[],_,l,_=>by simp at l
 | k::O,b::own,i,l,h=>by
  rcases List.mem_cons.mp h with rfl|h
  ·exact ⟨b,List.mem_cons_self⟩
  ·obtain ⟨a,ha⟩:=c6 (O:=O) (own:=own) (by simpa using l) h
   exact ⟨a,List.mem_cons_of_mem _ ha⟩
noncomputable def keepOwn (p:Nat→Bool):List Nat→List Addr→List Addr
 | i::O,a::own=>if p i=true then a::keepOwn p O own else keepOwn p O own
 | _,_=>[]
theorem im {p:Nat→Bool}:∀ {O:List Nat} {own:List Addr},(keepOwn p O own).Sublist own
 | [],own=>by simp [keepOwn]
 | _::_,[]=>by simp [keepOwn]
 | i::O,a::own=>by
  unfold keepOwn
  split
  ·exact (im (O:=O)).cons_cons a
  ·exact (im (O:=O)).cons a
theorem kD {p:Nat→Bool}:∀ {O:List Nat} {own:List Addr},own.length=O.length→(keepOwn p O own).length=(O.filter p).length
 | [],[],_=>rfl
 | i::O,a::own,l=>by
  have ih:=kD (p:=p) (O:=O) (own:=own) (by simpa using l)
  unfold keepOwn
  rw [List.filter_cons]
  split
  ·simp [ih]
  ·exact ih
 | [],_::_,l=>by simp at l
 | _::_,[],l=>by simp at l
theorem dQ {p:Nat→Bool}:∀ {O:List Nat} {own:List Addr} {i:Nat} {a:Addr},(i,a)∈(O.filter p).zip (keepOwn p O own)→(i,a)∈O.zip own∧p i=true
 | [],_,_,_,h=>by simp at h
 | _::_,[],_,_,h=>by simp [keepOwn] at h
 | k::O,b::own,i,a,h=>by
  unfold keepOwn at h
  rw [List.filter_cons] at h
  by_cases hp:p k=true
  ·rw [if_pos hp,if_pos hp,List.zip_cons_cons] at h
   rcases List.mem_cons.mp h with e|h
   ·cases e;exact ⟨List.mem_cons_self,hp⟩
   ·exact ⟨List.mem_cons_of_mem _ (dQ h).1,(dQ h).2⟩
  ·rw [if_neg hp,if_neg hp] at h
   exact ⟨List.mem_cons_of_mem _ (dQ h).1,(dQ h).2⟩
theorem iq {p:Nat→Bool}:∀ {O:List Nat} {own:List Addr} {a:Addr},a∈keepOwn p O own→∃ i,(i,a)∈O.zip own∧p i=true
 | [],_,_,h=>by simp [keepOwn] at h
 | _::_,[],_,h=>by simp [keepOwn] at h
 | k::O,b::own,a,h=>by
  unfold keepOwn at h
  split at h
  ·rename_i hp
   rcases List.mem_cons.mp h with e|h
   ·subst e;exact ⟨k,List.mem_cons_self,hp⟩
   ·obtain ⟨i,h1,h2⟩:=iq h;exact ⟨i,List.mem_cons_of_mem _ h1,h2⟩
  ·obtain ⟨i,h1,h2⟩:=iq h;exact ⟨i,List.mem_cons_of_mem _ h1,h2⟩
theorem DI.freeze {O2:List Nat} (I:DI W.K as0 B O own σ δ H) (hO:O.filter (fun i=>decide (i∈O2))=O2):∃ own2,DI W.K as0 B O2 own2 σ δ H:=by
 generalize hp:(fun i=>decide (i∈O2))=p at hO
 have pi:∀ i,p i=decide (i∈O2):=fun i=>by rw [← hp]
 have sub:(keepOwn p O own).Sublist own:=im
 have mem:∀ a∈keepOwn p O own,a∈own:=fun a ha=>sub.mem ha
 have s:Same (mask (own++as0) H) (mask (keepOwn p O own++as0) H):=iV fun a ha=>by
  rcases List.mem_append.mp ha with h|h
  ·exact List.mem_append_left _ (mem a h)
  ·exact List.mem_append_right _ h
 refine ⟨keepOwn p O own,I.len,by rw [kD I.olen,hO],I.nd.sublist sub,by rw [← hO];exact I.ond.sublist List.filter_sublist,fun a ha=>I.fresh a (mem a ha),I.ex0,I.same,fun i d hi q=>?_,fun i a hi=>?_⟩
 ·by_cases h:i∈O
  ·obtain ⟨a,ha⟩:=c6 I.olen h
   obtain ⟨d',o,h1,h2,h3,h4⟩:=I.owns i a ha
   rw [q] at h1
   cases h1
   refine ⟨.ref a,h2,OwnD.den ?_ h3 (h4.mono (iV fun b hb=>?_))⟩
   ·intro z
    rcases List.mem_append.mp z with z|z
    ·obtain ⟨j,h5,h6⟩:=iq z
     have:=zip_inj I.nd ha h5
     subst this
     rw [pi] at h6
     exact hi (of_decide_eq_true h6)
    ·exact I.apart a (List.of_mem_zip ha).2 z
   ·rcases List.mem_cons.mp hb with rfl|hb
    ·exact List.mem_append_left _ (List.of_mem_zip ha).2
    ·rcases List.mem_append.mp hb with h|h
     ·exact List.mem_append_left _ (mem b h)
     ·exact List.mem_append_right _ h
  ·obtain ⟨v,h1,h2⟩:=I.var i d h q
   exact ⟨v,h1,h2.mono s⟩
 ·rw [← hO] at hi
  obtain ⟨d,o,h1,h2,h3,h4⟩:=I.owns i a (dQ hi).1
  exact ⟨d,o,h1,h2,h3,h4.mono s⟩
theorem DI.own1 {i:Nat} {d:D} {p:Addr} {o:HO} (I:DI W.K as0 B O own σ δ H) (hO:i∉O) (hp:B p=none) (hn:p∉own++as0) (e:H p=some o) (h:OwnD W.K (mask (p::(own++as0)) H) o d) (hi:i < δ.length)
  (fr:∀ j d',j∉O→δ[j]?=some (some d')→∃ v,σ[j]?=some (some v)∧Den W.K (mask (p::(own++as0)) H) d' v)
  (fo:∀ j a,(j,a)∈O.zip own→∃ d o,δ[j]?=some (some d)∧σ[j]?=some (some (.ref a))∧H a=some o∧OwnD W.K (mask (p::(own++as0)) H) o d) :
  DI W.K as0 B (i::O) (p::own) (σ.set i (some (.ref p))) (δ.set i (some d)) H:=by
 refine ⟨by simp [I.len],by simp [I.olen],List.nodup_cons.mpr ⟨fun z=>hn (List.mem_append_left _ z),I.nd⟩,List.nodup_cons.mpr ⟨hO,I.ond⟩,fun a ha=>?_,I.ex0,I.same,fun j e hj q=>?_,fun j a hj=>?_⟩
 ·rcases List.mem_cons.mp ha with rfl|ha
  ·exact hp
  ·exact I.fresh a ha
 ·have hji:i≠j:=fun z=>hj (by rw [z];exact List.mem_cons_self)
  rw [getElem?_set',if_neg hji] at q ⊢
  exact fr j e (fun z=>hj (List.mem_cons_of_mem _ z)) q
 ·rw [List.zip_cons_cons] at hj
  rcases List.mem_cons.mp hj with z|hj
  ·cases z
   refine ⟨d,o,?_,?_,e,h⟩
   ·rw [getElem?_set',if_pos rfl,if_pos hi]
   ·rw [getElem?_set',if_pos rfl,if_pos (by rw [← I.len];exact hi)]
  ·have hji:i≠j:=fun z=>hO (by rw [z];exact (List.of_mem_zip hj).1)
   obtain ⟨d',o',h1,h2,h3,h4⟩:=fo j a hj
   exact ⟨d',o',by rw [getElem?_set',if_neg hji];exact h1,by rw [getElem?_set',if_neg hji];exact h2,h3,h4⟩
end
section
variable {X:Cx} {W:Wd} {Ob O O' O1 O2:List Nat} {e c:Expr} {φ ψ:FS} {ε:FE} {τ:FT} {pos:Pos} {st:Stmt} {sts rest:List Stmt}
noncomputable def bb:FS:=fun δ=>.ok (.nx δ)
noncomputable def aK (φ ψ:FS):FS:=fun δ=>(φ δ).bind fun f=>match f with
 | .nx δ'=>ψ δ'
 | f=>.ok f
theorem aO:JB X [] (sD W Ob O O bb):=zE.imp fun D σ H hh=>exE hh fun as0 B own δ I h=>h own σ H I
theorem al (h1:JS X st (sD W Ob O O1 φ)) (h2:JB X rest (sD W Ob O1 O2 ψ)):JB X (st::rest) (sD W Ob O O2 (aK φ ψ)):=(wm h1 h2).imp fun D σ H hh=>exE hh fun as0 B own δ I h=>by
 refine ⟨as0,B,own,δ,I,?_⟩
 unfold aK at h
 cases hr:φ δ with
 | ok f =>
  rw [hr] at h
  cases f with
  | nx δ'=>exact fun own' σ' H' I'=>⟨as0,B,own',δ',I',h⟩
  | rt d=>exact h
  | rn d=>exact h
  | bk d=>exact h
  | ct d=>exact h
 | er x=>rw [hr] at h;exact h
 | no=>rw [hr] at h;exact h
theorem ar (h1:JS X st (sD W Ob O O1 φ)):JB X [st] (sD W Ob O O1 φ):=yk h1
theorem ku (h:JB X sts (sD W Ob O2 O' φ)) (hO:O.filter (fun i=>decide (i∈O2))=O2:=by decide):JB X sts (sD W Ob O O' φ):=h.imp fun D σ H hh=>exE hh fun as0 B own δ I h =>
 let ⟨own2,I2⟩:=I.freeze hO;⟨as0,B,own2,δ,I2,h⟩
noncomputable def bv (ε:FE):FS:=fun δ=>(ε δ).bind fun d=>.ok (.rt d)
theorem ax (h:JE X e (tD W O ε)):JS X (.Return (some e) pos) (sD W Ob O O' (bv ε)):=(yu h).imp fun D σ H hh=>exE hh fun as0 B own δ I h =>
 ⟨as0,B,own,δ,I,ci I h fun d v H' s dv h'=>h' v H' (I.same.trans s) (dv.mono (iV fun a ha=>List.mem_append_right _ ha))⟩
noncomputable def sIf (τ:FT) (φ ψ:FS):FS:=fun δ=>(τ δ).bind fun b=>if b=true then φ δ else ψ δ
theorem bn {a b:List Stmt} (hc:JT X c (tDT W O τ)) (ha:JB X a (sD W Ob O O' φ)) (hb:JB X b (sD W Ob O O' ψ)):JS X (.If c a b pos) (sD W Ob O O' (sIf τ φ ψ)):=(AW hc ha hb).imp fun D σ H hh=>exE hh fun as0 B own δ I h =>
 ⟨as0,B,own,δ,I,kO I h fun b H' s h'=>by
  cases b with
  | true=>exact ⟨as0,B,own,δ,I.mono s,h'⟩
  | false=>exact ⟨as0,B,own,δ,I.mono s,h'⟩⟩
noncomputable def bJ (i:Nat) (ε:FE):FS:=fun δ=>(ε δ).bind fun d=>.ok (.nx (δ.set i (some d)))
theorem aM {i:Nat} {x:Str} {pos':Pos} (hO:i∉O) (hN:X.N.Nodup) (hx:Loc X.env.scope x) (he:JE X e (tD W O ε)) (hi:X.N[i]?=some x:=by rfl) (hs:swapsWith e (some (.Name x pos')) pos.line X.env=pure false:=by rfl) (hf:X.fn x=true∨X.env.scope.names.lookup x=some .local:=by first|exact .inl rfl|exact .inr rfl|assumption) :
  JS X (.Assign [.Name x pos'] e pos) (sD W Ob O O (bJ i ε)):=(vL hN hx he hi hs hf).imp fun D σ H hh=>exE hh fun as0 B own δ I h =>
 ⟨as0,B,own,δ,I,ci I h fun d v H' s dv h'=>h' own _ H' ((I.mono s).set hO dv)⟩
noncomputable def sOwn (i:Nat) (ε:FE):FS:=fun δ=>(ε δ).bind fun d=>if i < δ.length then .ok (.nx (δ.set i (some d))) else .no
theorem jk {as:List Addr} {H H':Hp} {p:Addr} (hp:H p=none) (s:Same H H'):Same (mask as H) (mask (p::as) H'):=fun b o e=>by
 by_cases hb:b∈as
 ·rw [dI hb] at e;cases e
 ·rw [aJ hb] at e
  have hbp:b≠p:=fun z=>by rw [z,hp] at e;cases e
  rw [aJ (by simp [hb,hbp])]
  exact s b o e
theorem uS {K:PySem.W.Frag} {as0 own:List Addr} {B H H':Hp} {σ:St} {δ:Sd} {i:Nat} {d:D} {p:Addr} {o:HO} (I:DI K as0 B O own σ δ H) (hO:i∉O) (s:Same H H') (hp:H p=none) (e:H' p=some o) (h:OwnD K (mask (p::(own++as0)) H') o d) (hi:i < δ.length) :
  DI K as0 B (i::O) (p::own) (σ.set i (some (.ref p))) (δ.set i (some d)) H':=by
 refine DI.own1 (W:=⟨K,fun _=>none,E0⟩) (I.mono s) hO (I.same.free hp) (I.new hp) e h hi (fun j d' hj q=>?_) fun j a hj=>?_
 ·obtain ⟨v,h1,h2⟩:=I.var j d' hj q
  exact ⟨v,h1,h2.mono (jk hp s)⟩
 ·obtain ⟨d',o',h1,h2,h3,h4⟩:=I.owns j a hj
  exact ⟨d',o',h1,h2,s a o' h3,h4.mono (jk hp s)⟩
theorem ge {i:Nat} {x:Str} {pos':Pos} (hO:i∉O) (hN:X.N.Nodup) (hx:Loc X.env.scope x) (he:JE X e (tN W O ε)) (hi:X.N[i]?=some x:=by rfl) (hs:swapsWith e (some (.Name x pos')) pos.line X.env=pure false:=by rfl) (hf:X.fn x=true∨X.env.scope.names.lookup x=some .local:=by first|exact .inl rfl|exact .inr rfl|assumption) :
  JS X (.Assign [.Name x pos'] e pos) (sD W Ob O (i::O) (sOwn i ε)):=(vL hN hx he hi hs hf).imp fun D σ H hh=>exE hh fun as0 B own δ I h =>
 ⟨as0,B,own,δ,I,lq I h fun d p o H' s hp e od h'=>by
  split at h'
  ·rename_i hl;exact h' _ _ H' (uS I hO s hp e od hl)
  ·exact h'.elim⟩
inductive TgD where
 | one (i:Nat)|tup (is:List Nat)
noncomputable def setsD:List Nat→List D→Sd→Sd
 | i::is,d::ds,δ=>setsD is ds (δ.set i (some d))
 | _,_,δ=>δ
noncomputable def bindD:TgD→D→Sd→R Sd
 | .one i,d,δ=>.ok (δ.set i (some d))
 | .tup is,.tup ds,δ=>if ds.length=is.length then .ok (setsD is ds δ) else .no
 | _,_,_=>.no
noncomputable def gD (W:Wd) (O:List Nat) (tg:TgD):TG:=fun v σ H Q=>∃ as0 B own δ d,DI W.K as0 B O own σ δ H∧Den W.K (mask (own++as0) H) d v∧match bindD tg d δ with
 | .ok δ'=>∀ σ',DI W.K as0 B O own σ' δ' H→Q σ' H
 | _=>False
noncomputable def gsD (W:Wd) (O:List Nat) (is:List Nat):TGs:=fun vs σ H Q=>∃ as0 B own δ ds,DI W.K as0 B O own σ δ H∧Dens W.K (mask (own++as0) H) ds vs∧ds.length=is.length∧∀ σ',DI W.K as0 B O own σ' (setsD is ds δ) H→Q σ' H
theorem bu {i:Nat} {x:Str} (hO:i∉O) (hN:X.N.Nodup) (hi:X.N[i]?=some x) (hx:Loc X.env.scope x) (hf:X.fn x=true∨X.env.scope.names.lookup x=some .local:=by first|exact .inl rfl|exact .inr rfl|assumption):JG X (.Name x pos) (gD W O (.one i)) :=
 (wA hN hi hx hf).imp fun v σ H Q ⟨as0,B,own,δ,d,I,dv,h⟩=>h _ (I.set hO dv)
theorem jA:JGs X [] (gsD W O []):=tZ.imp fun vs σ H Q ⟨as0,B,own,δ,ds,I,dv,hl,h⟩=>by
 cases ds with
 | nil=>cases dv;exact ⟨rfl,h σ I⟩
 | cons _ _=>simp at hl
theorem ce {i:Nat} {is:List Nat} {e:Expr} {es:List Expr} (h1:JG X e (gD W O (.one i))) (h2:JGs X es (gsD W O is))
  (hs:(assignEach (e::es) X.env).map (·.2)=assign e X.env::(assignEach es X.env).map (·.2):=by rfl):JGs X (e::es) (gsD W O (i::is)):=(mm h1 h2 hs).imp fun vs σ H Q ⟨as0,B,own,δ,ds,I,dv,hl,h⟩=>by
 cases ds with
 | nil=>simp at hl
 | cons d ds =>
  obtain ⟨v,r,rfl,d1,d2⟩:=dv
  exact ⟨v,r,rfl,as0,B,own,δ,d,I,d1,fun σ' I'=>⟨as0,B,own,_,ds,I',d2,by simpa using hl,h⟩⟩
theorem l0 (K:PySem.W.Frag) {es:List Expr} {k:Nat} {is:List Nat} {n:Nat} (h:JGs X es (gsD W O is)) (hl:is.length=n:=by rfl) (hc:X.calm=true:=by rfl)
  (hn:(assignEach es X.env).length=n:=by rfl) (hst:(assignEach es X.env).findIdx? (·.1)=none:=by rfl) (hK:X.K=K:=by rfl) (hW:W.K=K:=by rfl):JG X (.Tuple es k pos) (gD W O (.tup is)):=by
 refine (vN K h hc hn hst hK).imp fun v σ H Q ⟨as0,B,own,δ,d,I,dv,h⟩=>?_
 cases d with
 | tup ds =>
  obtain ⟨a,xs,rfl,q1,q2⟩:=dv
  have h':(match (if ds.length=is.length then R.ok (setsD is ds δ) else .no) with|.ok δ'=>∀ σ',DI W.K as0 B O own σ' δ' H→Q σ' H|_=>False):=h
  by_cases hd:ds.length=is.length
  ·rw [if_pos hd] at h'
   subst hW
   exact ⟨a,xs,rfl,(aA _ _).seqT q1,by rw [← q2.len,hd,hl],as0,B,own,δ,ds,I,q2,hd,h'⟩
  ·rw [if_neg hd] at h'
   exact h'.elim
 | _=>exact h.elim
structure GivesD (K:PySem.W.Frag) (as0:List Addr) (B:Hp) (J:It) (xs:List D):Prop where
 go:∀ i H,Same B H→i < xs.length→J.go i H
 yl:∀ i H v H2 M,Same B H→(∀ a∈M,H a≠none)→(∀ a∈M,a∈as0∨B a=none)→i < xs.length→J.yld i H v H2→Same H H2∧∃ d,xs[i]?=some d∧Den K (mask M H2) d v
 stop:∀ H,Same B H→J.stop xs.length H
noncomputable def FitsI (W:Wd) (as0 own:List Addr) (H:Hp) (r:R (List D)) (Q:It→Hp→Prop):Prop:=match r with
 | .ok xs=>∀ J H',Same H H'→GivesD W.K as0 (mask own H') J xs→Q J H'
 | .er x=>∀ e C H',Same H H'→W.mg x=some (.ref C)→W.E e (some C) H'
 | .no=>False
noncomputable def iD (W:Wd) (O:List Nat) (ι:FA):TI:=fun σ H Q=>∃ as0 B own δ,DI W.K as0 B O own σ δ H∧FitsI W as0 own H (ι δ) Q
theorem ij {as0 M:List Addr} {B H:Hp} (s:Same B H) (h:∀ a∈M,a∈as0∨B a=none):Same (mask as0 B) (mask M H):=fun b o e=>by
 by_cases hb:b∈as0
 ·rw [dI hb] at e;cases e
 ·rw [aJ hb] at e
  have hm:b∉M:=fun z=>by
   rcases h b z with q|q
   ·exact hb q
   ·rw [q] at e;cases e
  rw [aJ hm]
  exact s b o e
theorem uA {K:PySem.W.Frag} {as0:List Addr} {B:Hp} {a:Addr} {xs:List V} {ds:List D} (h1:SqL K (mask as0 B) a xs) (h2:Dens K (mask as0 B) ds xs):GivesD K as0 B (Itl K a) ds where
 go:=fun i H s hi=>by
  have hi':i < xs.length:=by rw [← h2.len];exact hi
  exact ⟨xs,xs[i],((aA _ _).trans s).seq h1,by simp [hi']⟩
 yl:=fun i H v H2 M s _ hM hi ⟨e,y⟩=>by
  subst e
  obtain ⟨d,q1,q2⟩:=h2.got (y xs (((aA _ _).trans s).seq h1))
  exact ⟨Same.refl _,d,q1,q2.mono (ij s hM)⟩
 stop:=fun H s=>⟨xs,((aA _ _).trans s).seq h1,by rw [h2.len];exact Nat.le_refl _⟩
theorem uq {K:PySem.W.Frag} {as0:List Addr} {B:Hp} {a:Addr} {xs:List V} {ds:List D} (h1:SqT K (mask as0 B) a xs) (h2:Dens K (mask as0 B) ds xs):GivesD K as0 B (Itt K a) ds where
 go:=fun i H s hi=>by
  have hi':i < xs.length:=by rw [← h2.len];exact hi
  exact ⟨xs,xs[i],((aA _ _).trans s).seqT h1,by simp [hi']⟩
 yl:=fun i H v H2 M s _ hM hi ⟨e,y⟩=>by
  subst e
  obtain ⟨d,q1,q2⟩:=h2.got (y xs (((aA _ _).trans s).seqT h1))
  exact ⟨Same.refl _,d,q1,q2.mono (ij s hM)⟩
 stop:=fun H s=>⟨xs,((aA _ _).trans s).seqT h1,by rw [h2.len];exact Nat.le_refl _⟩
noncomputable abbrev signsD (z:Str):List D:=z.cps.toList.map fun c=>D.str ⟨#[c]⟩
theorem qK {K:PySem.W.Frag} {as0:List Addr} {B:Hp} (z:Str):GivesD K as0 B (Its z) (signsD z) where
 go:=fun i H _ hi=>by
  rw [List.length_map] at hi
  simpa [Its,Str.length] using hi
 yl:=fun i H v H2 M _ _ _ hi ⟨e,c,h1,h2⟩=>by
  subst e
  refine ⟨Same.refl _,.str ⟨#[c]⟩,?_,h2⟩
  rw [List.getElem?_map,Array.getElem?_toList,h1]
  rfl
 stop:=fun H _=>by
  show _=z.length
  rw [List.length_map]
  simp [Str.length]
noncomputable def hU (lo:Int) (n:Nat):List D:=(List.range n).map fun (k:Nat)=>D.int (lo+(k:Int))
theorem ny {K:PySem.W.Frag} {as0:List Addr} {B:Hp} (lo:Int) (n:Nat):GivesD K as0 B (Itr lo n) (hU lo n) where
 go:=fun i H _ hi=>by
  unfold hU at hi
  rw [List.length_map,List.length_range] at hi
  exact hi
 yl:=fun i H v H2 M _ _ _ hi ⟨e,h⟩=>by
  subst e
  unfold hU at hi ⊢
  rw [List.length_map,List.length_range] at hi
  refine ⟨Same.refl _,.int (lo+(i:Int)),?_,h⟩
  rw [List.getElem?_map,List.getElem?_range hi]
  rfl
 stop:=fun H _=>by
  unfold hU
  show n≤_
  rw [List.length_map,List.length_range]
  exact Nat.le_refl _
noncomputable def kN:D→R (List D)
 | .lst xs=>.ok xs
 | .tup xs=>.ok xs
 | .str z=>.ok (signsD z)
 | _=>.no
noncomputable def lH (ε:FE):FA:=fun δ=>(ε δ).bind kN
variable {tg:Expr}
theorem FitsI.mono {as0 own:List Addr} {H H':Hp} {r:R (List D)} {Q:It→Hp→Prop} (h:FitsI W as0 own H r Q) (s:Same H H'):FitsI W as0 own H' r Q:=by
 cases r with
 | ok d=>exact fun J H2 s2=>h J H2 (s.trans s2)
 | er x=>exact fun e C H2 s2=>h e C H2 (s.trans s2)
 | no=>exact h
theorem qB {as0 own:List Addr} {H:Hp} {r:R D} {f:D→R (List D)} {Q:It→Hp→Prop} {Q':VK} (h:FitsI W as0 own H (r.bind f) Q) (q:∀ d v H',Same H H'→Den W.K (mask (own++as0) H') d v→FitsI W as0 own H' (f d) Q→Q' v H'):Fits W (own++as0) H r Q':=by
 cases r with
 | ok d=>exact fun v H' s dv=>q d v H' s dv (FitsI.mono h s)
 | er x=>exact h
 | no=>exact h
theorem lw {as0 own:List Addr} {H:Hp} {r:R (List D)} {f:List D→R (List D)} {Q:It→Hp→Prop} {Q':List V→Hp→Prop} (h:FitsI W as0 own H (r.bind f) Q) (q:∀ d v H',Same H H'→Dens W.K (mask (own++as0) H') d v→FitsI W as0 own H' (f d) Q→Q' v H'):FitsA W (own++as0) H r Q':=by
 cases r with
 | ok d=>exact fun v H' s dv=>q d v H' s dv (FitsI.mono h s)
 | er x=>exact h
 | no=>exact h
theorem eu (K:PySem.W.Frag) {l:Expr} (h:JE X l (tD W O ε)) (hK:X.K=K:=by rfl) (hW:W.K=K:=by rfl):JI X tg l (iD W O (lH ε)):=(zD K h hK).imp fun σ H Q hh=>exE hh fun as0 B own δ I h =>
 ⟨as0,B,own,δ,I,qB h fun d v H' s dv h'=>by
  subst hW
  cases d with
  | lst ds =>
   obtain ⟨a,xs,rfl,q1,q2⟩:=dv
   refine .inl ⟨⟨xs,(aA _ _).seq q1⟩,h' _ H' (Same.refl _) ?_⟩
   rw [mY] at q1 q2
   exact uA q1 q2
  | tup ds =>
   obtain ⟨a,xs,rfl,q1,q2⟩:=dv
   refine .inr ⟨⟨xs,(aA _ _).seqT q1⟩,h' _ H' (Same.refl _) ?_⟩
   rw [mY] at q1 q2
   exact uq q1 q2
  | str z=>cases dv;exact h' _ H' (Same.refl _) (qK z)
  | _=>exact h'.elim⟩
noncomputable def rng1:List D→R (List D)
 | [.int j]=>if -(2 ^ 62)≤j∧j < 2 ^ 62 then .ok (hU 0 j.toNat) else .no
 | _=>.no
noncomputable def iRng1D (α:FA):FA:=fun δ=>(α δ).bind rng1
theorem fk {a:Expr} {α:FA} {p pos:Pos} (hm:X.mg "range"=none) (ha:JA X [a] (tDA W O α)) (hg:Gl X "range":=by rfl) (hn:noStar a=true:=by rfl):JI X tg (.Call (.Name "range" p) [a] [] pos) (iD W O (iRng1D α)):=(sU hm ha hg hn).imp fun σ H Q hh=>exE hh fun as0 B own δ I h =>
 ⟨as0,B,own,δ,I,lw h fun ds vs H' s dv h'=>by
  unfold rng1 at h'
  split at h'
  ·obtain ⟨v,r,rfl,d1,d2⟩:=dv
   cases d1
   cases d2
   split at h'
   ·rename_i hj;exact ⟨hj,h' _ H' (Same.refl _) (ny 0 _)⟩
   ·exact h'.elim
  ·exact h'.elim⟩
noncomputable def forD (tg:TgD) (body:FS):List D→Sd→R Fl
 | [],δ=>.ok (.nx δ)
 | x::r,δ=>(bindD tg x δ).bind fun δ1=>(body δ1).bind fun f=>match f with
  | .nx δ2=>forD tg body r δ2
  | .ct δ2=>forD tg body r δ2
  | .bk δ2=>.ok (.nx δ2)
  | .rt d=>.ok (.rt d)
  | .rn d=>.ok (.rn d)
noncomputable def sFor (ι:FA) (t:TgD) (body:FS):FS:=fun δ=>(ι δ).bind fun xs=>forD t body xs δ
theorem pz {as0 own:List Addr} {B H:Hp} {σ:St} {δ:Sd} {D':Ends} {r:R (List D)} {f:List D→R Fl} {Q:It→Hp→Prop} (I:DI W.K as0 B O own σ δ H) (h:FitsS W as0 B Ob O' (r.bind f) D')
  (q:∀ d J H',Same H H'→GivesD W.K as0 (mask own H') J d→FitsS W as0 B Ob O' (f d) D'→Q J H'):FitsI W as0 own H r Q:=by
 cases r with
 | ok d=>exact fun J H' s g=>q d J H' s g h
 | er x=>exact fun e C H' s=>h e C H' (I.same.trans s)
 | no=>exact h
theorem fQ {iter:Expr} {body:List Stmt} {ι:FA} {t:TgD} (hp:PassesOwn (model X.prog X.w) X.A X.env X.xe) (hi:JI X tg iter (iD W O ι)) (hg:JG X tg (gD W O t)) (hb:JB X body (sD W O O O φ)) (hc:X.calm=true:=by rfl)
  (hs:∀ x,foldedSetIterable iter X.env x=pure x:=by intro _;rfl):JS X (.For tg iter body [] pos) (sD W Ob O O (sFor ι t φ)):=(x0 hp hi hg hb hc hs).imp fun D' σ H hh=>exE hh fun as0 B own δ I h=>by
 refine ⟨as0,B,own,δ,I,pz I h fun xs J H1 s1 G h1=>?_⟩
 have I1:=I.mono s1
 have I2:=I1.rebase I1.apart
 have sB:Same B (mask own H1):=I1.baseIn
 have h2:=h1.base sB I.ex0
 generalize hB':mask own H1=B' at I2 sB h2 G
 have ex':∀ a∈as0,B' a≠none:=I2.ex0
 refine ⟨fun i m σ H=>m=xs.length - i∧i≤xs.length∧∃ own δ,DI W.K as0 B' O own σ δ H∧FitsS W as0 B' Ob O (forD t φ (xs.drop i) δ) D',⟨xs.length,by simp,Nat.zero_le _,own,δ,I2,by simpa using h2⟩,?_⟩
 rintro i m σ3 H3 ⟨rfl,hi,own3,δ3,I3,h3⟩
 by_cases hlt:i < xs.length
 ·refine .inr ⟨G.go i H3 I3.same hlt,fun σ' H'=>∃ own δ,DI W.K as0 B' O own σ' δ H'∧FitsS W as0 B' Ob O (forD t φ (xs.drop (i+1)) δ) D',fun σ' H' ⟨own',δ',I',h'⟩=>⟨xs.length - (i+1),by omega,rfl,hlt,own',δ',I',h'⟩,fun v H4 y=>?_⟩
  obtain ⟨s4,d,hd,dv⟩:=G.yl i H3 v H4 (own3++as0) I3.same I3.exi (fun a ha=>by
   rcases List.mem_append.mp ha with z|z
   ·exact .inr (I3.fresh a z)
   ·exact .inl z) hlt y
  have ed:xs.drop i=d::xs.drop (i+1):=by
   rw [List.drop_eq_getElem_cons hlt]
   rw [List.getElem?_eq_getElem hlt] at hd
   cases hd
   rfl
  rw [ed] at h3
  refine ⟨as0,B',own3,δ3,d,I3.mono s4,dv,?_⟩
  have h3':FitsS W as0 B' Ob O ((bindD t d δ3).bind fun δ1=>(φ δ1).bind fun f=>match f with
   | .nx δ2=>forD t φ (xs.drop (i+1)) δ2
   | .ct δ2=>forD t φ (xs.drop (i+1)) δ2
   | .bk δ2=>.ok (.nx δ2)
   | .rt d=>.ok (.rt d)
   | .rn d=>.ok (.rn d)) D':=h3
  cases hb1:bindD t d δ3 with
  | ok δ1 =>
   rw [hb1] at h3'
   refine fun σ' I'=>⟨as0,B',own3,δ1,I',?_⟩
   have h3'':FitsS W as0 B' Ob O ((φ δ1).bind fun f=>match f with
    | .nx δ2=>forD t φ (xs.drop (i+1)) δ2
    | .ct δ2=>forD t φ (xs.drop (i+1)) δ2
    | .bk δ2=>.ok (.nx δ2)
    | .rt d=>.ok (.rt d)
    | .rn d=>.ok (.rn d)) D':=h3'
   cases hr:φ δ1 with
   | ok f =>
    rw [hr] at h3''
    cases f with
    | nx δ2=>exact fun own' σ' H' I'=>⟨own',δ2,I',h3''⟩
    | ct δ2=>exact fun own' σ' H' I'=>⟨own',δ2,I',h3''⟩
    | bk δ2=>exact h3''
    | rt d=>exact h3''
    | rn d=>exact h3''
   | er x=>rw [hr] at h3'';exact h3''
   | no=>rw [hr] at h3'';exact h3''
  | er x=>unfold bindD at hb1;split at hb1 <;> first|cases hb1|(split at hb1 <;> cases hb1)
  | no=>rw [hb1] at h3';exact h3'.elim
 ·have e:i=xs.length:=by omega
  subst e
  rw [List.drop_length] at h3
  exact .inl ⟨G.stop H3 I3.same,h3 own3 σ3 H3 I3⟩
noncomputable def b7 (τ:FT) (body:FS):Nat→Sd→R Fl
 | 0,_=>.no
 | n+1,δ=>(τ δ).bind fun b=>if b=true then (body δ).bind fun f=>match f with
  | .nx δ2=>b7 τ body n δ2
  | .ct δ2=>b7 τ body n δ2
  | .bk δ2=>.ok (.nx δ2)
  | .rt d=>.ok (.rt d)
  | .rn d=>.ok (.rn d)
  else .ok (.nx δ)
theorem j7 {body:List Stmt} (n:Nat) (hp:PassesOwn (model X.prog X.w) X.A X.env X.xe) (hc:JT X c (tDT W O τ)) (hb:JB X body (sD W O O O φ)):JS X (.While c body [] pos) (sD W Ob O O (b7 τ φ n)):=(u5 hp hc hb).imp fun D' σ H hh=>exE hh fun as0 B own δ I h=>by
 refine ⟨fun m σ H=>∃ own δ,DI W.K as0 B O own σ δ H∧FitsS W as0 B Ob O (b7 τ φ m δ) D',⟨n,own,δ,I,h⟩,?_⟩
 rintro m σ3 H3 ⟨own3,δ3,I3,h3⟩
 cases m with
 | zero=>exact h3.elim
 | succ m =>
  refine ⟨as0,B,own3,δ3,I3,kO I3 h3 fun b H4 s4 h4=>?_⟩
  cases b with
  | false=>exact h4 own3 σ3 H4 (I3.mono s4)
  | true =>
   refine ⟨fun σ' H'=>∃ own δ,DI W.K as0 B O own σ' δ H'∧FitsS W as0 B Ob O (b7 τ φ m δ) D',fun σ' H' q=>⟨m,Nat.lt_succ_self m,q⟩,as0,B,own3,δ3,I3.mono s4,?_⟩
   have h4':FitsS W as0 B Ob O ((φ δ3).bind fun f=>match f with
    | .nx δ2=>b7 τ φ m δ2
    | .ct δ2=>b7 τ φ m δ2
    | .bk δ2=>.ok (.nx δ2)
    | .rt d=>.ok (.rt d)
    | .rn d=>.ok (.rn d)) D':=h4
   cases hr:φ δ3 with
   | ok f =>
    rw [hr] at h4'
    cases f with
    | nx δ2=>exact fun own' σ' H' I'=>⟨own',δ2,I',h4'⟩
    | ct δ2=>exact fun own' σ' H' I'=>⟨own',δ2,I',h4'⟩
    | bk δ2=>exact h4'
    | rt d=>exact h4'
    | rn d=>exact h4'
   | er x=>rw [hr] at h4';exact h4'
   | no=>rw [hr] at h4';exact h4'
end
end L2
namespace L2
open PySem PySem.Spec PyProof.Rows
theorem gU {α β:Type} {r:R α} {f:α→R β} {b:β} (h:r.bind f=.ok b):∃ a,r=.ok a∧f a=.ok b:=by
 cases r with
 | ok a=>exact ⟨a,rfl,h⟩
 | er x=>cases h
 | no=>cases h
noncomputable def R.calm {α:Type}:R α→R α
 | .ok a=>.ok a
 | _=>.no
noncomputable def captD (ix:List (Option Nat)) (δ:Sd):Sd:=ix.map fun o=>o.bind fun j=>(δ[j]?).getD none
noncomputable def freeT:TgD→Sd→Bool
 | .one i,δ=>match δ[i]? with
  | some none=>true
  | _=>false
 | .tup is,δ=>is.all fun i=>match δ[i]? with
  | some none=>true
  | _=>false
noncomputable def compD (tg:TgD) (τ:FT) (ε:FE) (δ0:Sd):List D→R (List D)
 | []=>.ok []
 | x::r=>(bindD tg x δ0).bind fun δ1=>(τ δ1).bind fun b=>if b=true then (ε δ1).bind fun y=>(compD tg τ ε δ0 r).bind fun ys=>.ok (y::ys) else compD tg τ ε δ0 r
noncomputable def bX (tg:TgD) (τ:FT) (ε:FE) (δ0:Sd) (xs:List D):R D:=if freeT tg δ0=true∧xs.length≤1000000 then (compD tg τ ε δ0 xs).calm.bind fun ys=>.ok (.lst ys) else .no
noncomputable def fX (ix:List (Option Nat)) (ι:FA) (tg:TgD) (τ:FT) (ε:FE):FE:=fun δ=>(ι δ).bind fun xs=>bX tg τ ε (captD ix δ) xs
noncomputable def qYes:FT:=fun _=>.ok true
theorem lR:∀ (is:List Nat) (ds:List D) (δ0 δ:Sd),(∀ (i:Nat),i∈is→δ0[i]?=some none)→(∀ (i:Nat) (d:D),δ0[i]?=some (some d)→δ[i]?=some (some d))→∀ (i:Nat) (d:D),δ0[i]?=some (some d)→(setsD is ds δ)[i]?=some (some d)
 | [],_,_,_,_,h=>by intro i d e;unfold setsD;exact h i d e
 | _::_,[],_,_,_,h=>by intro i d e;unfold setsD;exact h i d e
 | j::is,x::ds,δ0,δ,hn,h=>by
  intro i d e
  unfold setsD
  refine lR is ds δ0 _ (fun i hi=>hn i (List.mem_cons_of_mem _ hi)) (fun i d e=>?_) i d e
  have hji:j≠i:=fun z=>by
   have:=hn j List.mem_cons_self
   rw [z,e] at this;cases this
  rw [getElem?_set',if_neg hji]
  exact h i d e
theorem su {tg:TgD} {x:D} {δ0 δ1:Sd} (hf:freeT tg δ0=true) (h:bindD tg x δ0=.ok δ1):∀ (i:Nat) (d:D),δ0[i]?=some (some d)→δ1[i]?=some (some d):=by
 cases tg with
 | one j =>
  cases h
  intro i d e
  have hji:j≠i:=fun z=>by
   subst z
   have hf':(match δ0[j]? with|some none=>true|_=>false)=true:=hf
   rw [e] at hf'
   cases hf'
  rw [getElem?_set',if_neg hji]
  exact e
 | tup is =>
  cases x with
  | tup ds =>
   have h':(if ds.length=is.length then R.ok (setsD is ds δ0) else .no)=.ok δ1:=h
   split at h'
   ·cases h'
    refine lR is ds δ0 δ0 (fun i hi=>?_) fun i d e=>e
    have hf':(is.all fun i=>match δ0[i]? with|some none=>true|_=>false)=true:=hf
    have:=List.all_eq_true.mp hf' i hi
    split at this
    ·assumption
    ·cases this
   ·cases h'
  | _=>cases h
theorem nv:∀ (is:List Nat) (ds:List D) (δ:Sd),(setsD is ds δ).length=δ.length
 | [],_,_=>by unfold setsD;rfl
 | _::_,[],_=>by unfold setsD;rfl
 | j::is,x::ds,δ=>by unfold setsD;rw [nv is ds];simp
theorem uP {tg:TgD} {x:D} {δ0 δ1:Sd} (h:bindD tg x δ0=.ok δ1):δ1.length=δ0.length:=by
 cases tg with
 | one j=>cases h;simp
 | tup is =>
  cases x with
  | tup ds =>
   have h':(if ds.length=is.length then R.ok (setsD is ds δ0) else .no)=.ok δ1:=h
   split at h'
   ·cases h';exact nv _ _ _
   ·cases h'
  | _=>cases h
theorem DI.plain {K:PySem.W.Frag} {M:List Addr} {H:Hp} {σ:St} {δ:Sd} (hl:δ.length=σ.length) (ex:∀ a∈M,H a≠none) (var:∀ (i:Nat) (d:D),δ[i]?=some (some d)→∃ v,σ[i]?=some (some v)∧Den K (mask M H) d v):DI K M H [] [] σ δ H :=
 ⟨hl,rfl,List.nodup_nil,List.nodup_nil,fun a ha=>(nomatch ha),ex,Same.refl _,fun i d _ e=>var i d e,fun i a h=>(by simp at h)⟩
section
variable {X:Cx} {W Wb:Wd} {O:List Nat} {osc:Scope} {ON N:List Str} {ix:List (Option Nat)} {scope:Scope} {tg elt iter:Expr} {ifs:List Expr} {pos:Pos} {ι:FA} {t:TgD} {τ:FT} {ε:FE}
theorem mM:JTs X [] (tDT W O qYes):=xz.imp fun σ H Q hh=>exE hh fun as0 B own δ I h=>h H (Same.refl _)
theorem kZ {c:Expr} (h:JT X c (tDT W O τ)):JTs X [c] (tDT W O τ):=xJ h
theorem w8 {K:PySem.W.Frag} {as0 own:List Addr} {B H:Hp} {σ:St} {δ:Sd} (I:DI K as0 B O own σ δ H) (hO:∀ j∈ix,∀ k,j=some k→k∉O):∀ (i:Nat) (d:D),(captD ix δ)[i]?=some (some d)→∃ v,(capt ix σ)[i]?=some (some v)∧Den K (mask (own++as0) H) d v:=by
 intro i d e
 unfold captD at e
 unfold capt
 rw [List.getElem?_map] at e ⊢
 cases h:ix[i]? with
 | none=>rw [h] at e;cases e
 | some o =>
  rw [h] at e
  cases o with
  | none=>cases e
  | some j =>
   have e':(δ[j]?).getD none=some d:=Option.some.inj e
   have ej:δ[j]?=some (some d):=by
    cases q:δ[j]? with
    | none=>rw [q] at e';cases e'
    | some w=>rw [q] at e';rw [← e'];rfl
   obtain ⟨v,h1,h2⟩:=I.var j d (hO _ (List.mem_of_getElem? h) j rfl) ej
   exact ⟨v,by show some ((σ[j]?).getD none)=_;rw [h1];rfl,h2⟩
structure GivesC (K:PySem.W.Frag) (M:List Addr) (H:Hp) (J:It) (xs:List D):Prop where
 go:∀ i H1,Same H H1→i < xs.length→J.go i H1
 yl:∀ i H1 v H2 acc,Same H H1→H acc=none→(∀ a∈acc::M,H1 a≠none)→i < xs.length→J.yld i H1 v H2→Same H1 H2∧∃ d,xs[i]?=some d∧Den K (mask (acc::M) H2) d v
 stop:∀ H1,Same H H1→J.stop xs.length H1
theorem GivesD.comp {K:PySem.W.Frag} {as0 own:List Addr} {H:Hp} {J:It} {xs:List D} (G:GivesD K as0 (mask own H) J xs):GivesC K (own++as0) H J xs where
 go:=fun i H1 s hi=>G.go i H1 ((aA _ _).trans s) hi
 yl:=fun i H1 v H2 acc s hacc hex hi y=>G.yl i H1 v H2 (acc::(own++as0)) ((aA _ _).trans s) hex (fun a ha=>by
  rcases List.mem_cons.mp ha with rfl|ha
  ·right
   cases z:mask own H a with
   | none=>rfl
   | some u=>have:=aA _ _ _ _ z;rw [hacc] at this;cases this
  ·rcases List.mem_append.mp ha with z|z
   ·exact .inr (dI z)
   ·exact .inl z) hi y
 stop:=fun H1 s=>G.stop H1 ((aA _ _).trans s)
theorem cX {K:PySem.W.Frag} {as0 own:List Addr} {B H:Hp} {σ:St} {δ:Sd} {xs:List D} {J:It} {Q:VK} (hWb:Wb.K=K) (I:DI K as0 B O own σ δ H) (hO:∀ j∈ix,∀ k,j=some k→k∉O) (G:GivesC K (own++as0) H J xs)
  (hq:match bX t τ ε (captD ix δ) xs with
   | .ok d=>∀ p o H',Same H H'→H p=none→H' p=some o→OwnD K (mask (p::(own++as0)) H') o d→Q (.ref p) H'
   | _=>False):compGo (gD Wb [] t) (tDT Wb [] τ) (tD Wb [] ε) J (capt ix σ) H Q:=by
 intro acc hacc
 unfold bX at hq
 by_cases hc:freeT t (captD ix δ)=true∧xs.length≤1000000
 ·rw [if_pos hc] at hq
  obtain ⟨hf,hlen⟩:=hc
  cases hall:compD t τ ε (captD ix δ) xs with
  | er x=>rw [hall] at hq;exact hq.elim
  | no=>rw [hall] at hq;exact hq.elim
  | ok all =>
   rw [hall] at hq
   have hq':∀ p o H',Same H H'→H p=none→H' p=some o→OwnD K (mask (p::(own++as0)) H') o (.lst all)→Q (.ref p) H':=hq
   generalize hδ0:captD ix δ=δ0 at hf hall
   have cl:δ0.length=(capt ix σ).length:=by rw [← hδ0];unfold captD capt;simp
   have cv:∀ (i:Nat) (d:D),δ0[i]?=some (some d)→∃ v,(capt ix σ)[i]?=some (some v)∧Den K (mask (own++as0) H) d v:=by rw [← hδ0];exact w8 I hO
   generalize capt ix σ=σ0 at cl cv
   have exM0:=I.exi
   generalize hM:own++as0=M at cv hq' G exM0
   have exM:∀ a∈M,H a≠none:=exM0
   have naM:acc∉M:=fun z=>exM acc z hacc
   -- heaps of the turns
   have exA:∀ {H':Hp},Same H H'→(∃ o,H' acc=some o)→∀ a∈acc::M,H' a≠none:=fun {H'} s ⟨o,e⟩ a ha=>by
    rcases List.mem_cons.mp ha with rfl|ha
    ·rw [e];simp
    ·cases q:H a with
     | none=>exact absurd q (exM a ha)
     | some u=>rw [s a u q];simp
   have s0:Same H (upd H acc (.lst [])):=aZ hacc _
   refine ⟨fun i m σ' H'=>m=xs.length - i∧i≤xs.length∧∃ ys es rest,H' acc=some (.lst ys)∧ys.length≤i∧Same H H'∧Dens K (mask (acc::M) H') es ys∧compD t τ ε δ0 (xs.drop i)=.ok rest∧all=es++rest∧DI K (acc::M) H' [] [] σ' δ0 H',
    ⟨xs.length,by simp,Nat.zero_le _,[],[],all,a9,Nat.zero_le _,s0,rfl,by simpa using hall,rfl,DI.plain cl (exA s0 ⟨_,a9⟩) fun i d e=>let ⟨v,h1,h2⟩:=cv i d e;⟨v,h1,h2.mono (jk hacc s0)⟩⟩,?_⟩
   rintro i m σ1 H1 ⟨rfl,hi,ys,es,rest,e1,hl1,s1,d1,c1,a1,I1⟩
   have sB:Same H H1:=s1
   by_cases hlt:i < xs.length
   ·refine .inr ⟨G.go i H1 sB hlt,fun σ' H'=>∃ ys es rest,H' acc=some (.lst ys)∧ys.length≤i+1∧Same H H'∧Dens K (mask (acc::M) H') es ys∧compD t τ ε δ0 (xs.drop (i+1))=.ok rest∧all=es++rest∧DI K (acc::M) H' [] [] σ' δ0 H',
     fun σ' H' ⟨ys,es,rest,q⟩=>⟨xs.length - (i+1),by omega,rfl,hlt,ys,es,rest,q⟩,fun v H2 y=>?_⟩
    obtain ⟨s2,d,hd,dv⟩:=G.yl i H1 v H2 acc sB hacc (exA s1 ⟨_,e1⟩) hlt y
    have ed:xs.drop i=d::xs.drop (i+1):=by
     rw [List.drop_eq_getElem_cons hlt]
     rw [List.getElem?_eq_getElem hlt] at hd
     cases hd
     rfl
    rw [ed] at c1
    obtain ⟨δ1,b1,c2⟩:=gU (show (bindD t d δ0).bind (fun δ1=>(τ δ1).bind fun b=>if b=true then (ε δ1).bind fun y=>(compD t τ ε δ0 (xs.drop (i+1))).bind fun ys=>.ok (y::ys) else compD t τ ε δ0 (xs.drop (i+1)))=.ok rest from c1)
    obtain ⟨b,b2,c3⟩:=gU c2
    have I2:DI K (acc::M) H2 [] [] σ1 δ0 H2:=DI.plain I1.len (exA (s1.trans s2) ⟨_,s2 _ _ e1⟩) fun i d e=>let ⟨v,h1,h2⟩:=I1.var i d (by simp) e;⟨v,h1,h2.mono (aG s2)⟩
    -- behind the target,at any later heap in which acc's list may have grown
    have again:∀ {σ3:St} {H3 H4:Hp},DI K (acc::M) H2 [] [] σ3 δ1 H3→Same (mask (acc::M) H3) (mask (acc::M) H4)→(∀ a∈acc::M,H4 a≠none)→DI K (acc::M) H4 [] [] σ3 δ0 H4:=fun {σ3 H3 H4} I3 s34 ex4 =>
     DI.plain (by rw [← uP b1];exact I3.len) ex4 fun i d e=>let ⟨v,h1,h2⟩:=I3.var i d (by simp) (su hf b1 i d e);⟨v,h1,h2.mono s34⟩
    refine ⟨acc::M,H2,[],δ0,d,by rw [hWb];exact I2,by rw [hWb];exact dv,?_⟩
    rw [b1]
    refine fun σ3 I3=>⟨acc::M,H2,[],δ1,I3,?_⟩
    rw [hWb] at I3
    rw [b2]
    refine fun H3 s3=>?_
    have I3':=I3.mono s3
    have s13:Same H1 H3:=s2.trans s3
    cases b with
    | false =>
     exact ⟨ys,es,rest,s13 _ _ e1,by omega,s1.trans s13,d1.mono (aG s13),c3,a1,again I3' (Same.refl _) (exA (s1.trans s13) ⟨_,s13 _ _ e1⟩)⟩
    | true =>
     obtain ⟨y',b3,c4⟩:=gU (show (ε δ1).bind (fun y=>(compD t τ ε δ0 (xs.drop (i+1))).bind fun ys=>.ok (y::ys))=.ok rest from c3)
     obtain ⟨r',b4,c5⟩:=gU c4
     cases c5
     refine ⟨acc::M,H2,[],δ1,by rw [hWb];exact I3',?_⟩
     rw [b3]
     refine fun v4 H4 s4 d4=>?_
     rw [hWb] at d4
     have s14:Same H1 H4:=s13.trans s4
     have e4:=s14 _ _ e1
     have hm:=million
     have same5:Same (mask (acc::M) H4) (mask (acc::M) (upd H4 acc (.lst (ys++[v4])))):=fun b o e=>by
      by_cases hb:b∈acc::M
      ·rw [dI hb] at e;cases e
      ·rw [aJ hb] at e ⊢
       rw [aR (fun z=>hb (by rw [z];exact List.mem_cons_self))]
       exact e
     have s5:Same H (upd H4 acc (.lst (ys++[v4]))):=fun b o e=>by
      rw [aR (bo e hacc)]
      exact (s1.trans s14) b o e
     refine ⟨ys,e4,by omega,ys++[v4],es++[y'],r',a9,by simp;omega,s5,?_,b4,by rw [a1];simp,again I3' ((aG s4).trans same5) (exA s5 ⟨_,a9⟩)⟩
     exact (Dens.append (d1.mono (aG s14)) (Dens.cons d4 Dens.nil)).mono same5
   ·have e':i=xs.length:=by omega
    subst e'
    rw [List.drop_length] at c1
    cases c1
    rw [List.append_nil] at a1
    subst a1
    exact .inl ⟨G.stop H1 sB,hq' acc _ H1 s1 hacc e1 ⟨ys,rfl,d1⟩⟩
 ·rw [if_neg hc] at hq
  exact hq.elim
theorem n6 (hcs:csOk osc ON N ix scope=true) (hi:JI X tg iter (iD W O ι)) (hg:∀ b,JG (blk X N scope b) tg (gD Wb [] t)) (ht:∀ b,JTs (blk X N scope b) ifs (tDT Wb [] τ)) (he:∀ b,JE (blk X N scope b) elt (tD Wb [] ε)) (hO:∀ j∈ix,∀ k,j=some k→k∉O)
  (hWb:Wb.K=W.K:=by rfl) (hE:X.env.scope=osc:=by rfl) (hON:X.N=ON:=by rfl) (hc:X.calm=true:=by rfl) (hs:∀ x,foldedSetIterable iter X.env x=pure x:=by intro _;rfl):JE X (.ListComp elt [⟨tg,iter,ifs,0⟩] scope pos) (tN W O (fX ix ι t τ ε)) :=
 (yW hcs hi hg ht he hE hON hc hs).imp fun σ H Q hh=>exE hh fun as0 B own δ I h=>⟨as0,B,own,δ,I,by
  unfold fX at h
  cases hr:ι δ with
  | no=>rw [hr] at h;exact h.elim
  | er x=>rw [hr] at h;exact h
  | ok xs =>
   rw [hr] at h
   refine fun J H1 s1 G=>cX hWb (I.mono s1) hO G.comp ?_
   have h':FitsN W (own++as0) H (bX t τ ε (captD ix δ) xs) Q:=h
   cases hq:bX t τ ε (captD ix δ) xs with
   | ok d=>rw [hq] at h';exact fun p o H' s hp=>h' p o H' (s1.trans s) (s1.free hp)
   | er x =>
    unfold bX at hq
    split at hq
    ·cases hc:compD t τ ε (captD ix δ) xs <;> rw [hc] at hq <;> cases hq
    ·cases hq
   | no=>rw [hq] at h';exact h'.elim⟩
theorem ml {i:Nat} {x:Str} {spos pos':Pos} (hN:X.N.Nodup) (hl:Loc X.env.scope x) (hcs:csOk osc ON N ix scope=true) (hi:JI X tg iter (iD W O ι)) (hg:∀ b,JG (blk X N scope b) tg (gD Wb [] t)) (ht:∀ b,JTs (blk X N scope b) ifs (tDT Wb [] τ)) (he:∀ b,JE (blk X N scope b) elt (tD Wb [] ε)) (hO:∀ j∈ix,∀ k,j=some k→k∉O)
  (hWb:Wb.K=W.K:=by rfl) (hx:X.N[i]?=some x:=by rfl) (hE:X.env.scope=osc:=by rfl) (hON:X.N=ON:=by rfl) (hc:X.calm=true:=by rfl)
  (hsw:swapsWith (.ListComp elt [⟨tg,iter,ifs,0⟩] scope pos) (some (.Name x pos')) spos.line X.env=pure true:=by rfl)
  (hf:X.fn x=true∨X.env.scope.names.lookup x=some .local:=by first|exact .inl rfl|exact .inr rfl|assumption)
  (hs:∀ x,foldedSetIterable iter X.env x=pure x:=by intro _;rfl):JS X (.Assign [.Name x pos'] (.ListComp elt [⟨tg,iter,ifs,0⟩] scope pos) spos) (tAsg (tN W O (fX ix ι t τ ε)) (gName i)) :=
 (qO hN hl hcs hi hg ht he hx hE hON hc hsw hf hs).imp fun D σ H hh=>exE hh fun as0 B own δ I h=>⟨as0,B,own,δ,I,by
  unfold fX at h
  cases hr:ι δ with
  | no=>rw [hr] at h;exact h.elim
  | er x=>rw [hr] at h;exact h
  | ok xs =>
   rw [hr] at h
   refine fun J H1 s1 G=>cX hWb (I.mono s1) hO G.comp ?_
   have h':FitsN W (own++as0) H (bX t τ ε (captD ix δ) xs) (fun x H1=>gName i x σ H1 D.nx):=h
   cases hq:bX t τ ε (captD ix δ) xs with
   | ok d=>rw [hq] at h';exact fun p o H' s hp=>h' p o H' (s1.trans s) (s1.free hp)
   | er x =>
    unfold bX at hq
    split at hq
    ·cases hc:compD t τ ε (captD ix δ) xs <;> rw [hc] at hq <;> cases hq
    ·cases hq
   | no=>rw [hq] at h';exact h'.elim⟩
theorem mF {Ob:List Nat} {i:Nat} {st:Stmt} (hO:i∉O) (h:JS X st (tAsg (tN W O ε) (gName i))):JS X st (sD W Ob O O (bJ i ε)):=h.imp fun D σ H hh=>exE hh fun as0 B own δ I h =>
 ⟨as0,B,own,δ,I,lq I h fun d p o H' s hp e od h'=>h' own _ H' ((I.mono s).set hO (od.den (I.new hp) e))⟩
end
noncomputable def startD (N:List Str) (ds:List D):Sd:=ds.map some++List.replicate (N.length - ds.length) none
noncomputable def runD (φ:FS) (N P:List Str) (ds:List D):R D:=if ds.length=P.length then (φ (startD N ds)).bind fun f=>match f with
 | .rt d=>.ok d
 | .rn d=>.ok d
 | .nx _=>.ok .non
 | _=>.no
 else .no
noncomputable def spD (K:PySem.W.Frag) (mg:Str→Option Value) (F:List D→R D):Sp:=fun vs H Q _=>∃ as ds,(∀ a∈as,H a≠none)∧Dens K (mask as H) ds vs∧Fits ⟨K,mg,E0⟩ as H (F ds) Q
section
variable {P:Program} {w:World} {K:PySem.W.Frag} {mg:Str→Option Value} {base:Heap}
theorem qZ {H:Hp}:∀ {ds:List D} {vs:List V} {i:Nat} {d:D},Dens K H ds vs→∀ {n:Nat},(ds.map some++List.replicate n none)[i]?=some (some d)→∃ v,(vs.map some++List.replicate n none)[i]?=some (some v)∧Den K H d v:=by
 intro ds vs i d h n e
 have hl:=h.len
 by_cases hi:i < ds.length
 ·rw [List.getElem?_append_left (by simpa using hi),List.getElem?_map] at e
  rw [List.getElem?_append_left (by rw [List.length_map,← hl];exact hi),List.getElem?_map]
  cases q:ds[i]? with
  | none=>rw [q] at e;cases e
  | some d' =>
   rw [q] at e
   cases e
   obtain ⟨v,h1,h2⟩:=h.get q
   exact ⟨v,by rw [h1];rfl,h2⟩
 ·rw [List.getElem?_append_right (by simpa using hi),List.getElem?_replicate] at e
  split at e <;> cases e
theorem Fun.okD {x qual:Str} {st:Stmt} {f:Addr} {fd:FuncData} {N ps:List Str} {k:Nat} {φ:FS} {O':List Nat} (F:Fun K x qual st f fd) (S:FnScope N ps (ap st))
  (hbody:∀ (cdv:Value) (A:Around) (outer:List Env) (s:Shared) (H:Hp) (E:XK),Room k (A.deeper (envOfC qual (ap st) s.heap.objs.size f cdv)) →
   JB (cxOf CX0 P w K mg base N qual (ap st) f cdv A outer s H E).nox (dw st) (sD ⟨K,mg,E0⟩ [] [] O' φ)):FnOk P w K mg base CX0 (k+1) f fd ps (spD K mg (runD φ N ps)):=by
 refine F.okJ S (fun vs H Q E h=>?_) fun cdv A outer s H vs Q E hr h=>?_
 ·obtain ⟨as,ds,ex,dv,h⟩:=h
  unfold runD at h
  split at h
  ·rename_i hl;rw [← dv.len];exact hl
  ·exact h.elim
 ·obtain ⟨as,ds,ex,dv,h⟩:=h
  unfold runD at h
  split at h
  ·rename_i hl
   refine ⟨_,hbody cdv A outer s H E hr,as,H,[],startD N ds,⟨?_,rfl,List.nodup_nil,List.nodup_nil,fun a ha=>(nomatch ha),ex,Same.refl _,fun i d _ e=>?_,fun i a h=>(by simp at h)⟩,?_⟩
   ·unfold startD start
    simp [dv.len]
   ·unfold startD at e
    unfold start
    rw [← dv.len]
    exact qZ dv e
   ·cases hr:φ (startD N ds) with
    | ok fl =>
     rw [hr] at h
     cases fl with
     | rt d=>exact fun v H' s dv'=>h v H' s dv'
     | rn d=>exact fun p o H' s hp e od=>h (.ref p) H' s (od.den (fun z=>ex p z hp) e)
     | nx δ=>exact fun own σ H' I=>h .non H' I.same rfl
     | bk δ=>exact h.elim
     | ct δ=>exact h.elim
    | er x=>rw [hr] at h;exact fun e C H' s=>h e C H' s
    | no=>rw [hr] at h;exact h.elim
  ·exact h.elim
section
variable {X:Cx} {O:List Nat} {x:Str} {st:Stmt} {ps:List Str} {f:Addr} {fd:FuncData} {j k:Nat} {F:List D→R D} {p pos:Pos} {e:Expr} {es:List Expr} {α:FA}
theorem az (D:Def X.K X.mg x st ps f fd) (G:FnOk X.prog X.w X.K X.mg X.base CX0 j f fd ps (spD K mg F)) (hr:Room k X.A) (ha:JA X (e::es) (tDA ⟨K,mg,E0⟩ O α)) (hj:j≤k:=by decide) (hg:Gl X x:=by rfl) (hdb:(x==("__debug__":Str))=false:=by decide)
  (h1:noStar e=true:=by rfl) (h2:es.all noStar=true:=by rfl):JE X (.Call (.Name x p) (e::es) [] pos) (tD ⟨K,mg,E0⟩ O (ao F α)) :=
 (zC D G hr ha hj hg hdb h1 h2).imp fun σ H Q hh=>exE hh fun as0 B own δ I h=>⟨as0,B,own,δ,I,di h fun ds vs H1 s1 d1 h1=>⟨own++as0,ds,(I.mono s1).exi,d1,h1⟩⟩
end
section
variable {K:PySem.W.Frag} {mg:Str→Option Value} {X:Cx} {O:List Nat} {x:Str} {st:Stmt} {ps:List Str} {f:Addr} {fd:FuncData} {j k:Nat} {F:List D→R D} {p pos:Pos} {e:Expr} {es:List Expr} {α:FA}
theorem oO {W:Wd} {as:List Addr} {H:Hp} {Q:VK} {r:R (List D)} {g:List D→R D} {Q':List V→Hp→Prop} (h:FitsN W as H (r.bind g) Q) (q:∀ d v H',Same H H'→Dens W.K (mask as H') d v→FitsN W as H' (g d) Q→Q' v H'):FitsA W as H r Q':=io h q
end
theorem zA {a:Addr} {ns:List Int} {H:Hp} {F:List D→R D} {Q:VK} {E:XK} (hS:SqL K H a (ns.map V.int)) (h:F [.lst (ns.map D.int)]=.ok (.bl true)) (q:∀ H',Q (.bl true) H'):spD K mg F [.ref a] H Q E:=by
 refine ⟨[],[.lst (ns.map D.int)],fun a ha=>(nomatch ha),⟨.ref a,[],rfl,⟨a,ns.map V.int,rfl,by rw [pQ];exact hS,?_⟩,rfl⟩,?_⟩
 ·clear h hS
  induction ns with
  | nil=>exact rfl
  | cons n r ih=>exact ⟨_,_,rfl,rfl,ih⟩
 ·rw [h]
  intro v H' s dv
  cases dv
  exact q H'
end
end L2
namespace L2
open PySem PySem.Spec PyProof.Rows
section
variable {W:Wd} {X:Cx}
theorem aU {as:List Addr} {H:Hp} {d:D} {v:V} {Q:VK} (h:Fits W as H (.ok d) Q) (hd:Den W.K (mask as H) d v):Q v H:=h v H (Same.refl _) hd
theorem wU:OpR X (binaryOp .Add) (fun x y H Q=>∃ l b xs zs,x=.ref l∧y=.ref b∧SqL X.K H l xs∧SqL X.K H b zs∧xs.length+zs.length≤sizeLine∧∀ p,H p=none→Q (.ref p) (upd H p (.lst (xs++zs)))):=by
 intro pins s σ H x y v u Q I rx ry h
 obtain ⟨l,b,xs,zs,rfl,rfl,hH,hB,hz,q⟩:=h
 cases rx
 cases ry
 obtain ⟨its,r,pl,hl⟩:=I.list hH
 obtain ⟨its2,r2,pl2,hl2⟩:=I.list hB
 obtain ⟨⟨cls,dd,data,sl⟩,ho,hc,n,hd⟩:=pl.isList
 obtain ⟨⟨cls2,dd2,data2,sl2⟩,ho2,hc2,n2,hd2⟩:=pl2.isList
 simp only at hc hd hc2 hd2
 subst hc hd hc2 hd2
 have e:its.toArray++its2.toArray=(its++its2).toArray:=by simp
 refine concat_meets ⟨_,ho,rfl⟩ ⟨_,ho2,rfl⟩ noFill_list_add seq_list_add PySem.F.slot_list_add PySem.F.entry_list_add (PySem.F.args_list_add_2 _ _) (list_addW l b its.toArray its2.toArray n n2 dd dd2 sl sl2 (by rw [List.size_toArray,List.size_toArray,← r.length,← r2.length];exact hz)) ⟨ho,ho2,?_⟩
 rw [e]
 exact ⟨.ref _,_,I.lnew (t':=s.toks) (r.append r2) (by rw [List.length_append];exact hz),rfl,q _ I.fresh⟩
noncomputable def uPlus (K:PySem.W.Frag):R2:=fun x y H Q=>match x,y with
 | .int i,.int j=>Q (.int (i+j)) H
 | .str i,.str j=>i.length+j.length≤sizeLine∧Q (.str (i++j)) H
 | .ref l,.ref b=>(∃ xs zs,SqL K H l xs∧SqL K H b zs∧xs.length+zs.length≤sizeLine∧∀ p,H p=none→Q (.ref p) (upd H p (.lst (xs++zs)))) ∨
   ∃ xs zs,SqT K H l xs∧SqT K H b zs∧xs≠[]∧xs.length+zs.length≤sizeLine∧(zs=[]→Q (.ref l) H)∧(zs≠[]→∀ p,H p=none→Q (.ref p) (upd H p (.tup (xs++zs))))
 | _,_=>False
theorem bZ (K:PySem.W.Frag) (hK:X.K=K:=by rfl):OpR X (binaryOp .Add) (uPlus K):=by
 subst hK
 refine ((yE.or qT).or (wU.or wF)).imp fun x y H Q q=>?_
 unfold uPlus at q
 split at q
 ·exact .inl (.inl ⟨_,_,rfl,rfl,q⟩)
 ·exact .inl (.inr ⟨_,_,rfl,rfl,q.1,q.2⟩)
 ·rcases q with ⟨xs,zs,h1,h2,h3,h4⟩|⟨xs,zs,h1,h2,h3,h4,h5,h6⟩
  ·exact .inr (.inl ⟨_,_,xs,zs,rfl,rfl,h1,h2,h3,h4⟩)
  ·exact .inr (.inr ⟨_,_,xs,zs,rfl,rfl,h1,h2,h3,h4,h5,h6⟩)
 ·exact q.elim
noncomputable def addD (a b:D):R D:=match a,b with
 | .int i,.int j=>.ok (.int (i+j))
 | .str x,.str y=>if x.length+y.length≤1000000 then .ok (.str (x++y)) else .no
 | .lst xs,.lst ys=>if xs.length+ys.length≤1000000 then .ok (.lst (xs++ys)) else .no
 | .tup xs,.tup ys=>if xs.isEmpty=false∧xs.length+ys.length≤1000000 then .ok (.tup (xs++ys)) else .no
 | _,_=>.no
theorem pAdd (K:PySem.W.Frag) (hW:W.K=K:=by rfl):OpD W (uPlus K) addD:=by
 subst hW
 intro as H x y a b Q hn da db h
 unfold addD at h
 split at h
 ·cases da;cases db;exact aU h rfl
 ·cases da;cases db
  split at h
  ·rename_i hl;exact ⟨Nat.le_trans hl million,aU h rfl⟩
  ·exact h.elim
 ·rename_i xs ys
  obtain ⟨p,vs,rfl,q1,q2⟩:=da
  obtain ⟨p2,ws,rfl,q3,q4⟩:=db
  split at h
  ·rename_i hl
   rw [q2.len,q4.len] at hl
   refine .inl ⟨vs,ws,(aA _ _).seq q1,(aA _ _).seq q3,Nat.le_trans hl million,fun p hp=>?_⟩
   refine h _ _ (aZ hp _) ⟨p,vs++ws,rfl,.inl (.inl (by rw [aJ (hn p hp)];exact a9)),(q2.append q4).mono (aG (aZ hp _))⟩
  ·exact h.elim
 ·rename_i xs ys
  obtain ⟨p,vs,rfl,q1,q2⟩:=da
  obtain ⟨p2,ws,rfl,q3,q4⟩:=db
  split at h
  ·rename_i hl
   obtain ⟨he,hl⟩:=hl
   have he':vs≠[]:=fun z=>by
    have:=q2.empty
    rw [he,z] at this;cases this
   rw [q2.len,q4.len] at hl
   refine .inr ⟨vs,ws,(aA _ _).seqT q1,(aA _ _).seqT q3,he',Nat.le_trans hl million,fun z=>?_,fun z p hp=>?_⟩
   ·have:ys=[]:=by
     cases ys with
     | nil=>rfl
     | cons d r=>obtain ⟨_,_,e,_⟩:=q4;rw [z] at e;cases e
    subst this
    rw [List.append_nil] at h
    exact aU h ⟨p,vs,rfl,q1,q2⟩
   ·exact h _ _ (aZ hp _) ⟨p,vs++ws,rfl,.inl (.inl (by rw [aJ (hn p hp)];exact a9)),(q2.append q4).mono (aG (aZ hp _))⟩
  ·exact h.elim
 ·exact h.elim
noncomputable def subD (a b:D):R D:=match a,b with
 | .int i,.int j=>.ok (.int (i - j))
 | _,_=>.no
theorem pSub:OpD W uSub subD:=by
 intro as H x y a b Q hn da db h
 unfold subD at h
 split at h
 ·cases da;cases db;exact aU h rfl
 ·exact h.elim
theorem rS:OpR X (binaryOp .Mult) (fun x y H Q=>∃ i n,x=.str i∧y=.int n∧MulOk i n∧Q (.str (Txt.mul i n)) H):=by
 intro pins s σ H x y v u Q I rx ry h
 obtain ⟨i,n,rfl,rfl,hm,q⟩:=h
 obtain ⟨t,rfl⟩:=rx
 obtain ⟨t',rfl⟩:=ry
 exact br I.tk (SB.mul hm fun t' k htk=>⟨.str _,H,I.tok _,⟨t',rfl⟩,q⟩)
noncomputable def uMulD:R2:=fun x y H Q=>match x,y with
 | .int i,.int j=>CMul i j∧Q (.int (i*j)) H
 | .str i,.int j=>MulOk i j∧Q (.str (Txt.mul i j)) H
 | _,_=>False
theorem oMulD:OpR X (binaryOp .Mult) uMulD:=(zp.or rS).imp fun x y H Q q=>by
 unfold uMulD at q
 split at q
 ·exact .inl ⟨_,_,rfl,rfl,q.1,q.2⟩
 ·exact .inr ⟨_,_,rfl,rfl,q.1,q.2⟩
 ·exact q.elim
instance (i j:Int):Decidable (CMul i j):=by unfold CMul;infer_instance
instance (i j:Int):Decidable (CDiv i j):=by unfold CDiv;infer_instance
instance (i j:Int):Decidable (CPow i j):=by unfold CPow;infer_instance
noncomputable def mulD (a b:D):R D:=match a,b with
 | .int i,.int j=>if CMul i j then .ok (.int (i*j)) else .no
 | .str x,.int n=>if x.length≤1000∧-1000≤n∧n≤1000 then .ok (.str (Txt.mul x n)) else .no
 | _,_=>.no
theorem pMul:OpD W uMulD mulD:=by
 intro as H x y a b Q hn da db h
 unfold mulD at h
 split at h
 ·cases da;cases db
  split at h
  ·rename_i hl;exact ⟨hl,aU h rfl⟩
  ·exact h.elim
 ·cases da;cases db
  split at h
  ·rename_i hl;exact ⟨mulOk_of 1000 1000 hl.1 (by omega) (by omega) (by decide) (by decide),aU h rfl⟩
  ·exact h.elim
 ·exact h.elim
noncomputable def divD (a b:D):R D:=match a,b with
 | .int i,.int j=>if CDiv i j then .ok (.int (i/j)) else .no
 | _,_=>.no
theorem pDiv:OpD W uDiv divD:=by
 intro as H x y a b Q hn da db h
 unfold divD at h
 split at h
 ·cases da;cases db
  split at h
  ·rename_i hl;exact ⟨hl,aU h rfl⟩
  ·exact h.elim
 ·exact h.elim
noncomputable def modD (a b:D):R D:=match a,b with
 | .int i,.int j=>if 0 < j then .ok (.int (i % j)) else .no
 | _,_=>.no
theorem pMod:OpD W uMod modD:=by
 intro as H x y a b Q hn da db h
 unfold modD at h
 split at h
 ·cases da;cases db
  split at h
  ·rename_i hl;exact ⟨hl,aU h rfl⟩
  ·exact h.elim
 ·exact h.elim
noncomputable def powD (a b:D):R D:=match a,b with
 | .int i,.int j=>if CPow i j then .ok (.int (i ^ j.toNat)) else .no
 | _,_=>.no
theorem pPow:OpD W uPow powD:=by
 intro as H x y a b Q hn da db h
 unfold powD at h
 split at h
 ·cases da;cases db
  split at h
  ·rename_i hl;exact ⟨hl,aU h rfl⟩
  ·exact h.elim
 ·exact h.elim
noncomputable def negD (a:D):R D:=match a with
 | .int i=>.ok (.int (-i))
 | _=>.no
theorem pNeg:UnD W uNeg negD:=by
 intro as H x a Q da h
 unfold negD at h
 split at h
 ·cases da;exact aU h rfl
 ·exact h.elim
noncomputable def ltD (a b:D):R D:=match a,b with
 | .int i,.int j=>.ok (.bl (decide (i < j)))
 | .str i,.str j=>.ok (.bl (decide (i.cps.toList < j.cps.toList)))
 | _,_=>.no
noncomputable def gtD (a b:D):R D:=match a,b with
 | .int i,.int j=>.ok (.bl (decide (j < i)))
 | .str i,.str j=>.ok (.bl (decide (j.cps.toList < i.cps.toList)))
 | _,_=>.no
noncomputable def geD (a b:D):R D:=match a,b with
 | .int i,.int j=>.ok (.bl (decide (j≤i)))
 | .str i,.str j=>.ok (.bl (!decide (i.cps.toList < j.cps.toList)))
 | _,_=>.no
theorem pLt:OpD W uLt ltD:=by
 intro as H x y a b Q hn da db h
 unfold ltD at h
 split at h
 ·cases da;cases db;exact aU h rfl
 ·cases da;cases db;exact aU h rfl
 ·exact h.elim
theorem pGt:OpD W uGt gtD:=by
 intro as H x y a b Q hn da db h
 unfold gtD at h
 split at h
 ·cases da;cases db;exact aU h rfl
 ·cases da;cases db;exact aU h rfl
 ·exact h.elim
theorem pGe:OpD W uGe geD:=by
 intro as H x y a b Q hn da db h
 unfold geD at h
 split at h
 ·cases da;cases db;exact aU h rfl
 ·cases da;cases db;exact aU h rfl
 ·exact h.elim
noncomputable def isN:D→Bool
 | .non=>true
 | _=>false
noncomputable def isB (j:Bool):D→Bool
 | .bl i=>i==j
 | _=>false
noncomputable def isD (x:D) (y:D):R D:=match y with
 | .non=>.ok (.bl (isN x))
 | .bl j=>.ok (.bl (isB j x))
 | _=>.no
theorem tQ {K:PySem.W.Frag} {H:Hp} {a:D} {x:V} (h:Den K H a x):isV x .non=isN a:=by
 cases a with
 | lst _=>obtain ⟨_,_,rfl,_⟩:=h;rfl
 | tup _=>obtain ⟨_,_,rfl,_⟩:=h;rfl
 | dct _=>obtain ⟨_,_,rfl,_⟩:=h;rfl
 | obj _ _=>obtain ⟨_,_,_,rfl,_⟩:=h;rfl
 | exn _=>obtain ⟨_,_,rfl,_⟩:=h;rfl
 | cls _=>obtain ⟨_,rfl,_⟩:=h;rfl
 | _=>cases h;rfl
theorem ub {K:PySem.W.Frag} {H:Hp} {a:D} {x:V} {j:Bool} (h:Den K H a x):isV x (.bl j)=isB j a:=by
 cases a with
 | lst _=>obtain ⟨_,_,rfl,_⟩:=h;rfl
 | tup _=>obtain ⟨_,_,rfl,_⟩:=h;rfl
 | dct _=>obtain ⟨_,_,rfl,_⟩:=h;rfl
 | obj _ _=>obtain ⟨_,_,_,rfl,_⟩:=h;rfl
 | exn _=>obtain ⟨_,_,rfl,_⟩:=h;rfl
 | cls _=>obtain ⟨_,rfl,_⟩:=h;rfl
 | _=>cases h;rfl
theorem pIs:OpD W uIs isD:=by
 intro as H x y a b Q hn da db h
 unfold isD at h
 split at h
 ·cases db
  show Q (.bl (isV x .non)) H
  rw [tQ da]
  exact aU h rfl
 ·cases db
  show Q (.bl (isV x (.bl _))) H
  rw [ub da]
  exact aU h rfl
 ·exact h.elim
mutual
noncomputable def toPy:D→Option PyData
 | .non=>some .none
 | .bl b=>some (.bool b)
 | .int i=>some (.int i)
 | .str x=>some (.str x)
 | .lst xs=>(toPys xs).map .list
 | .tup xs=>(toPys xs).map .tuple
 | _=>none
noncomputable def toPys:List D→Option (List PyData)
 | []=>some []
 | d::ds=>(toPy d).bind fun p=>(toPys ds).map (p::·)
end
mutual
theorem fI {pins:List (Addr×Obj)} {σ:St} {H:Hp} {s:Shared} (I:Inv X pins σ H s):∀ {d:D} {v:V} {u:Value} {p:PyData},Den X.K H d v→RelV v u→toPy d=some p→∃ as,Reads s.heap u p as
 | .non,_,_,_,h,r,e=>by cases h;cases r;cases e;exact ⟨_,.none⟩
 | .bl b,_,_,_,h,r,e=>by cases h;cases r;cases e;exact ⟨_,.bool b⟩
 | .int i,_,_,_,h,r,e=>by cases h;obtain ⟨t,rfl⟩:=r;cases e;exact ⟨_,.int i t⟩
 | .str x,_,_,_,h,r,e=>by cases h;obtain ⟨t,rfl⟩:=r;cases e;exact ⟨_,.str x t⟩
 | .lst ds,_,_,_,⟨a,xs,h0,h1,h2⟩,r,e=>by
  subst h0
  cases r
  unfold toPy at e
  cases q:toPys ds with
  | none=>rw [q] at e;cases e
  | some ps =>
   rw [q] at e
   cases e
   obtain ⟨its,rv,pl,hz⟩:=I.list h1
   obtain ⟨o,ho,hc,n,hd⟩:=pl.isList
   obtain ⟨as,ha⟩:=hV I h2 rv q
   exact ⟨_,.list ho hc hd (by simpa using ha)⟩
 | .tup ds,_,_,_,⟨a,xs,h0,h1,h2⟩,r,e=>by
  subst h0
  cases r
  unfold toPy at e
  cases q:toPys ds with
  | none=>rw [q] at e;cases e
  | some ps =>
   rw [q] at e
   cases e
   obtain ⟨its,rv,pl,hz⟩:=I.tuple h1
   obtain ⟨o,ho,hc,n,hd⟩:=pl
   obtain ⟨as,ha⟩:=hV I h2 rv q
   exact ⟨_,.tuple ho hc hd (by simpa using ha)⟩
 | .dct _,_,_,_,_,_,e=>by cases e
 | .obj _ _,_,_,_,_,_,e=>by cases e
 | .ty _,_,_,_,_,_,e=>by cases e
 | .exn _,_,_,_,_,_,e=>by cases e
 | .cls _,_,_,_,_,_,e=>by cases e
theorem hV {pins:List (Addr×Obj)} {σ:St} {H:Hp} {s:Shared} (I:Inv X pins σ H s):∀ {ds:List D} {vs:List V} {us:List Value} {ps:List PyData},Dens X.K H ds vs→Vals vs us→toPys ds=some ps→∃ as,ReadsAll s.heap us ps as
 | [],_,_,_,h,r,e=>by cases h;cases r;cases e;exact ⟨_,.nil⟩
 | d::ds,_,_,_,⟨v,vs,h0,h1,h2⟩,r,e=>by
  subst h0
  unfold toPys at e
  cases q:toPy d with
  | none=>rw [q] at e;cases e
  | some p =>
   rw [q] at e
   have e:(toPys ds).map (p::·)=some _:=e
   cases q2:toPys ds with
   | none=>rw [q2] at e;cases e
   | some ps =>
    rw [q2] at e
    cases e
    cases r with
    | cons r1 r2 =>
     obtain ⟨as,ha⟩:=fI I h1 r1 q
     obtain ⟨bs,hb⟩:=hV I h2 r2 q2
     exact ⟨_,.cons ha hb⟩
end
noncomputable def scalD:D→Option V
 | .non=>some .non
 | .bl b=>some (.bl b)
 | .int i=>some (.int i)
 | .str x=>some (.str x)
 | _=>none
theorem fj {K:PySem.W.Frag} {H:Hp} {d:D} {v x:V} (h:Den K H d v) (e:scalD d=some x):v=x:=by
 cases d with
 | non=>cases e;exact h
 | bl b=>cases e;exact h
 | int b=>cases e;exact h
 | str b=>cases e;exact h
 | _=>cases e
noncomputable def deepEq (a b:D):Option Bool:=match toPy a,toPy b with
 | some p,some q=>if SeqAt.shaped p=true∧SeqAt.shaped q=true then some (PyData.eqv p q) else none
 | _,_=>none
noncomputable def eqO (a b:D):Option Bool:=match scalD a,scalD b with
 | some x,some y=>if scal x y=true then some (decide (x=y)) else none
 | _,_=>deepEq a b
noncomputable def uEqD (K:PySem.W.Frag) (f:Bool→Bool):R2:=fun x y H Q=>∃ a b k,Den K H a x∧Den K H b y∧eqO a b=some k∧Q (.bl (f k)) H
theorem pX {a b:D} {k:Bool} (h:deepEq a b=some k):∃ p q,toPy a=some p∧toPy b=some q∧SeqAt.shaped p=true∧SeqAt.shaped q=true∧k=PyData.eqv p q:=by
 unfold deepEq at h
 split at h
 ·rename_i p q h1 h2
  split at h
  ·rename_i hs;cases h;exact ⟨p,q,h1,h2,hs.1,hs.2,rfl⟩
  ·cases h
 ·cases h
theorem oEqD (K:PySem.W.Frag) (hu:X.A.units+64 < cLine) (hK:X.K=K:=by rfl):OpR X (compareOp .Eq) (uEqD K fun k=>k):=by
 subst hK
 intro pins s σ H x y v u Q I rx ry h
 obtain ⟨a,b,k,da,db,e,q⟩:=h
 unfold eqO at e
 split at e
 ·rename_i x' y' e1 e2
  split at e
  ·rename_i hs
   cases e
   have:=fj da e1;subst this
   have:=fj db e2;subst this
   exact A0 pins s σ H _ _ v u Q I rx ry ⟨hs,q⟩
  ·cases e
 ·obtain ⟨p,p',h1,h2,h3,h4,rfl⟩:=pX e
  obtain ⟨as,ra⟩:=fI I da rx h1
  obtain ⟨bs,rb⟩:=fI I db ry h2
  exact eq_dataH ra rb h3 h4 hu ⟨.bl _,H,I,rfl,q⟩
theorem oNeD (K:PySem.W.Frag) (hu:X.A.units+64 < cLine) (hK:X.K=K:=by rfl):OpR X (compareOp .NotEq) (uEqD K fun k=>!k):=by
 subst hK
 intro pins s σ H x y v u Q I rx ry h
 obtain ⟨a,b,k,da,db,e,q⟩:=h
 unfold eqO at e
 split at e
 ·rename_i x' y' e1 e2
  split at e
  ·rename_i hs
   cases e
   have:=fj da e1;subst this
   have:=fj db e2;subst this
   exact Aw pins s σ H _ _ v u Q I rx ry ⟨hs,q⟩
  ·cases e
 ·obtain ⟨p,p',h1,h2,h3,h4,rfl⟩:=pX e
  obtain ⟨as,ra⟩:=fI I da rx h1
  obtain ⟨bs,rb⟩:=fI I db ry h2
  exact ne_dataH ra rb h3 h4 hu ⟨.bl _,H,I,rfl,q⟩
noncomputable def optR (o:Option Bool) (f:Bool→Bool):R D:=match o with
 | some k=>.ok (.bl (f k))
 | none=>.no
noncomputable def eqD (a b:D):R D:=optR (eqO a b) fun k=>k
noncomputable def neD (a b:D):R D:=optR (eqO a b) fun k=>!k
theorem pEqs (K:PySem.W.Frag) (f:Bool→Bool) (hW:W.K=K:=by rfl):OpD W (uEqD K f) (fun a b=>optR (eqO a b) f):=by
 subst hW
 intro as H x y a b Q hn da db h
 have h:Fits W as H (optR (eqO a b) f) Q:=h
 cases e:eqO a b with
 | none=>rw [e] at h;exact h.elim
 | some k =>
  rw [e] at h
  exact ⟨a,b,k,da.mono (aA _ _),db.mono (aA _ _),e,aU h rfl⟩
theorem pEq (K:PySem.W.Frag) (hW:W.K=K:=by rfl):OpD W (uEqD K fun k=>k) eqD:=pEqs K _ hW
theorem pNe (K:PySem.W.Frag) (hW:W.K=K:=by rfl):OpD W (uEqD K fun k=>!k) neD:=pEqs K _ hW
noncomputable def scalsD:List D→Option (List V)
 | []=>some []
 | d::ds=>(scalD d).bind fun v=>(scalsD ds).map (v::·)
theorem lK {K:PySem.W.Frag} {H:Hp}:∀ {ds:List D} {vs xs:List V},Dens K H ds vs→scalsD ds=some xs→vs=xs∧xs.all flatV=true
 | [],_,_,h,e=>by cases h;cases e;exact ⟨rfl,rfl⟩
 | d::ds,_,_,⟨v,vs,h0,h1,h2⟩,e=>by
  subst h0
  unfold scalsD at e
  cases q:scalD d with
  | none=>rw [q] at e;cases e
  | some x =>
   rw [q] at e
   have e:(scalsD ds).map (x::·)=some _:=e
   cases q2:scalsD ds with
   | none=>rw [q2] at e;cases e
   | some xs =>
    rw [q2] at e
    cases e
    obtain ⟨h3,h4⟩:=lK h2 q2
    refine ⟨by rw [fj h1 q,h3],?_⟩
    rw [List.all_cons,h4,Bool.and_true]
    cases d <;> cases q <;> rfl
theorem rN {d:D} {x:V} (e:scalD d=some x):flatV x=true:=by cases d <;> cases e <;> rfl
noncomputable def ixD (a b:D):R D:=match a,b with
 | .str z,.int i=>if z.length≤1000000 then (match atI z.cps.toList i with
  | some c=>.ok (.str ⟨#[c]⟩)
  | none=>.no) else .no
 | .lst xs,.int i=>match atI xs i with
  | some d=>.ok d
  | none=>.no
 | .tup xs,.int i=>match atI xs i with
  | some d=>.ok d
  | none=>.no
 | _,_=>.no
theorem Dens.atI {K:PySem.W.Frag} {H:Hp} {ds:List D} {xs:List V} {i:Int} {d:D} (h:Dens K H ds xs) (e:atI ds i=some d):∃ v,L2.atI xs i=some v∧Den K H d v:=by
 unfold L2.atI at e ⊢
 rw [h.len] at e
 cases q:ixN xs.length i with
 | none=>rw [q] at e;cases e
 | some j =>
  rw [q] at e
  exact h.get e
theorem pIx (K:PySem.W.Frag) (hW:W.K=K:=by rfl):OpD W (uIx K) ixD:=by
 subst hW
 intro as H x y a b Q hn da db h
 unfold ixD at h
 split at h
 ·cases da;cases db
  split at h
  ·rename_i hl
   split at h
   ·rename_i c e;exact ⟨c,Nat.le_trans hl million,e,aU h rfl⟩
   ·exact h.elim
  ·exact h.elim
 ·obtain ⟨p,vs,rfl,q1,q2⟩:=da
  cases db
  split at h
  ·rename_i d e
   obtain ⟨v,h1,h2⟩:=q2.atI e
   exact ⟨vs,v,.inl ((aA _ _).seq q1),h1,aU h h2⟩
  ·exact h.elim
 ·obtain ⟨p,vs,rfl,q1,q2⟩:=da
  cases db
  split at h
  ·rename_i d e
   obtain ⟨v,h1,h2⟩:=q2.atI e
   exact ⟨vs,v,.inr ((aA _ _).seqT q1),h1,aU h h2⟩
  ·exact h.elim
 ·exact h.elim
noncomputable def cutD (xs:List D) (lo hi:Option Int):List D:=(xs.drop (HT.sIx xs.length 0 lo)).take (HT.sIx xs.length xs.length hi - HT.sIx xs.length 0 lo)
theorem Dens.cut {K:PySem.W.Frag} {H:Hp} {ds:List D} {xs:List V} (h:Dens K H ds xs) (lo hi:Option Int):Dens K H (cutD ds lo hi) (cutV xs lo hi):=by
 unfold cutD cutV
 rw [h.len]
 exact (h.drop _).take _
noncomputable def slD (a:D) (lo hi:Option Int):R D:=match a with
 | .str z=>if z.length≤1000000 then .ok (.str (cutS z lo hi)) else .no
 | .lst xs=>.ok (.lst (cutD xs lo hi))
 | .tup xs=>if HT.sIx xs.length 0 lo=0∧HT.sIx xs.length xs.length hi=xs.length then .no else .ok (.tup (cutD xs lo hi))
 | _=>.no
theorem pSl (K:PySem.W.Frag) (hW:W.K=K:=by rfl):SlD W (uSl K) slD:=by
 subst hW
 intro as H x lo hi a Q hn da h
 unfold slD at h
 split at h
 ·cases da
  split at h
  ·rename_i hl;exact ⟨Nat.le_trans hl million,aU h rfl⟩
  ·exact h.elim
 ·obtain ⟨p,vs,rfl,q1,q2⟩:=da
  refine .inl ⟨vs,(aA _ _).seq q1,fun p hp=>h _ _ (aZ hp _) ⟨p,_,rfl,.inl (.inl (by rw [aJ (hn p hp)];exact a9)),(q2.cut lo hi).mono (aG (aZ hp _))⟩⟩
 ·obtain ⟨p,vs,rfl,q1,q2⟩:=da
  rename_i xs
  split at h
  ·exact h.elim
  ·rename_i hc
   rw [q2.len] at hc
   exact .inr ⟨vs,(aA _ _).seqT q1,hc,fun p hp=>h _ _ (aZ hp _) ⟨p,_,rfl,.inl (.inl (by rw [aJ (hn p hp)];exact a9)),(q2.cut lo hi).mono (aG (aZ hp _))⟩⟩
 ·exact h.elim
noncomputable def lenD (ds:List D):R D:=match ds with
 | [.str z]=>if z.length≤1000000 then .ok (.int z.length) else .no
 | [.lst xs]=>.ok (.int xs.length)
 | [.tup xs]=>.ok (.int xs.length)
 | _=>.no
theorem dens1 {K:PySem.W.Frag} {H:Hp} {d:D} {xs:List V} (h:Dens K H [d] xs):∃ v,xs=[v]∧Den K H d v:=by
 obtain ⟨v,vs,rfl,h1,h2⟩:=h
 cases h2
 exact ⟨v,rfl,h1⟩
theorem dens2 {K:PySem.W.Frag} {H:Hp} {d e:D} {xs:List V} (h:Dens K H [d,e] xs):∃ v u,xs=[v,u]∧Den K H d v∧Den K H e u:=by
 obtain ⟨v,vs,rfl,h1,h2⟩:=h
 obtain ⟨u,rfl,h3⟩:=dens1 h2
 exact ⟨v,u,rfl,h1,h3⟩
theorem pLen (K:PySem.W.Frag) (hW:W.K=K:=by rfl):CallD W (uLen K) lenD:=by
 subst hW
 intro as H xs ds Q hn dv h
 unfold lenD at h
 split at h
 ·obtain ⟨v,rfl,d1⟩:=dens1 dv
  cases d1
  split at h
  ·rename_i hl;exact ⟨Nat.le_trans hl million,aU h rfl⟩
  ·exact h.elim
 ·obtain ⟨v,rfl,d1⟩:=dens1 dv
  obtain ⟨p,vs,rfl,q1,q2⟩:=d1
  refine ⟨vs,.inl ((aA _ _).seq q1),?_⟩
  rw [← q2.len]
  exact aU h rfl
 ·obtain ⟨v,rfl,d1⟩:=dens1 dv
  obtain ⟨p,vs,rfl,q1,q2⟩:=d1
  refine ⟨vs,.inr ((aA _ _).seqT q1),?_⟩
  rw [← q2.len]
  exact aU h rfl
 ·exact h.elim
noncomputable def intD (ds:List D):R D:=match ds with
 | [.int i]=>.ok (.int i)
 | [.bl k]=>.ok (.int (if k=true then 1 else 0))
 | _=>.no
theorem pInt:CallD W uInt intD:=by
 intro as H xs ds Q hn dv h
 unfold intD at h
 split at h
 ·obtain ⟨v,rfl,d1⟩:=dens1 dv;cases d1;exact aU h rfl
 ·obtain ⟨v,rfl,d1⟩:=dens1 dv;cases d1;exact aU h rfl
 ·exact h.elim
noncomputable def uIsID (K:PySem.W.Frag) (xs:List V) (H:Hp) (Q:VK):Prop:=match xs with
 | [x,.ty C]=>known C=true∧(match x with
  | .non=>Q (.bl (subT "NoneType" C)) H
  | .bl _=>Q (.bl (subT "bool" C)) H
  | .int _=>Q (.bl (subT "int" C)) H
  | .str _=>Q (.bl (subT "str" C)) H
  | .ref a=>(∃ xs,SqL K H a xs∧Q (.bl (subT "list" C)) H)∨(∃ xs,SqT K H a xs∧Q (.bl (subT "tuple" C)) H)∨∃ kvs,H a=some (.dK kvs)∧Q (.bl (subT "dict" C)) H
  | _=>False)
 | _=>False
theorem qIsiD (K:PySem.W.Frag) (hK:X.K=K:=by rfl):CallR X (.builtin "isinstance") (uIsID K):=by
 subst hK
 intro pins s σ H xs us Q I r h
 unfold uIsID at h
 split at h
 ·rename_i x C
  obtain ⟨hC,h⟩:=h
  obtain ⟨u,c,rfl,rx,rc⟩:=vals2 r
  cases rc
  have fin:∀ (b:Bool),Q (.bl b) H→∀ tk,X.tn≤tk→EP X pins σ Q (.bool b) { s with toks:=tk }:=fun b q tk htk=>⟨.bl b,H,I.tok tk,rfl,q⟩
  refine br I.tk ?_
  cases x with
  | non=>exact gE I rx .non (ig (.inl rfl) hC) (fin _ h)
  | bl b=>exact gE I rx (.bl b) (ig (.inr (.inl rfl)) hC) (fin _ h)
  | int b=>exact gE I rx (.int b) (ig (.inr (.inr (.inl rfl))) hC) (fin _ h)
  | str b=>exact gE I rx (.str b) (ig (.inr (.inr (.inr (.inl rfl)))) hC) (fin _ h)
  | ref a =>
   cases rx
   rcases h with ⟨xs,hq,q⟩|⟨xs,hq,q⟩|⟨kvs,hq,q⟩
   ·obtain ⟨its,rv,pl,hz⟩:=I.list hq
    obtain ⟨o,ho,hc,n,hd⟩:=pl.isList
    exact PySem.W.kia_one PySem.W.kitx_list I.kIn ⟨o,ho,hc⟩ (ig (.inr (.inr (.inr (.inr (.inl rfl))))) hC) (fun z=>nomatch z) (fin _ q)
   ·obtain ⟨its,rv,pl,hz⟩:=I.tuple hq
    obtain ⟨o,ho,hc,n,hd⟩:=pl
    exact PySem.W.kia_one PySem.W.kitx_tuple I.kIn ⟨o,ho,hc⟩ (ig (.inr (.inr (.inr (.inr (.inr (.inl rfl)))))) hC) (fun z=>nomatch z) (fin _ q)
   ·exact gE (x:=.ref a) I rfl (.dK hq) (ig (.inr (.inr (.inr (.inr (.inr (.inr rfl)))))) hC) (fin _ q)
  | _=>exact h.elim
 ·exact h.elim
noncomputable def iE (ds:List D):R D:=match ds with
 | [x,.ty C]=>if known C=true then (match x with
  | .non=>.ok (.bl (subT "NoneType" C))
  | .bl _=>.ok (.bl (subT "bool" C))
  | .int _=>.ok (.bl (subT "int" C))
  | .str _=>.ok (.bl (subT "str" C))
  | .lst _=>.ok (.bl (subT "list" C))
  | .tup _=>.ok (.bl (subT "tuple" C))
  | .dct _=>.ok (.bl (subT "dict" C))
  | _=>.no) else .no
 | _=>.no
theorem pIsi (K:PySem.W.Frag) (hW:W.K=K:=by rfl):CallD W (uIsID K) iE:=by
 subst hW
 intro as H xs ds Q hn dv h
 unfold iE at h
 split at h
 ·obtain ⟨v,u,rfl,d1,d2⟩:=dens2 dv
  cases d2
  split at h
  ·rename_i hC
   split at h
   ·cases d1;exact ⟨hC,aU h rfl⟩
   ·cases d1;exact ⟨hC,aU h rfl⟩
   ·cases d1;exact ⟨hC,aU h rfl⟩
   ·cases d1;exact ⟨hC,aU h rfl⟩
   ·obtain ⟨p,vs,rfl,q1,q2⟩:=d1;exact ⟨hC,.inl ⟨vs,(aA _ _).seq q1,aU h rfl⟩⟩
   ·obtain ⟨p,vs,rfl,q1,q2⟩:=d1;exact ⟨hC,.inr (.inl ⟨vs,(aA _ _).seqT q1,aU h rfl⟩)⟩
   ·obtain ⟨p,vs,rfl,q1,q2⟩:=d1;exact ⟨hC,.inr (.inr ⟨vs,aA _ _ _ _ q1,aU h rfl⟩)⟩
   ·exact h.elim
  ·exact h.elim
 ·exact h.elim
noncomputable def uTupOf (K:PySem.W.Frag) (xs:List V) (H:Hp) (Q:VK):Prop:=match xs with
 | [.ref p]=>(∃ ys,SqL K H p ys∧∀ l,H l=none→Q (.ref l) (upd H l (.tup ys)))∨∃ ys,SqT K H p ys∧Q (.ref p) H
 | _=>False
theorem qTupOf (K:PySem.W.Frag) (hK:X.K=K:=by rfl):CallR X (.type "tuple") (uTupOf K):=by
 subst hK
 refine mI.imp fun xs H Q q=>?_
 unfold uTupOf at q
 split at q
 ·rcases q with ⟨ys,h1,h2⟩|⟨ys,h1,h2⟩
  ·exact ⟨_,ys,rfl,.inl ⟨h1,h2⟩⟩
  ·exact ⟨_,ys,rfl,.inr ⟨h1,h2⟩⟩
 ·exact q.elim
noncomputable def tupD (ds:List D):R D:=match ds with
 | [.lst xs]=>.ok (.tup xs)
 | [.tup xs]=>.ok (.tup xs)
 | _=>.no
theorem yL {as:List Addr} {H:Hp} (hn:∀ a∈as,H a≠none):∀ p,H p=none→p∉as:=fun p hp z=>hn p z hp
theorem pTup (K:PySem.W.Frag) (hW:W.K=K:=by rfl):CallD W (uTupOf K) tupD:=by
 subst hW
 intro as H xs ds Q hn dv h
 unfold tupD at h
 split at h
 ·obtain ⟨v,rfl,d1⟩:=dens1 dv
  obtain ⟨p,vs,rfl,q1,q2⟩:=d1
  exact .inl ⟨vs,(aA _ _).seq q1,fun l hl=>h _ _ (aZ hl _) ⟨l,vs,rfl,.inl (.inl (by rw [aJ (yL hn l hl)];exact a9)),q2.mono (aG (aZ hl _))⟩⟩
 ·obtain ⟨v,rfl,d1⟩:=dens1 dv
  obtain ⟨p,vs,rfl,q1,q2⟩:=d1
  exact .inr ⟨vs,(aA _ _).seqT q1,aU h ⟨p,vs,rfl,q1,q2⟩⟩
 ·exact h.elim
noncomputable def uLstOf (K:PySem.W.Frag) (xs:List V) (H:Hp) (Q:VK):Prop:=match xs with
 | [.ref p]=>∃ ys,(SqL K H p ys∨SqT K H p ys)∧∀ l,H l=none→Q (.ref l) (upd H l (.lst ys))
 | _=>False
theorem qLstOf (K:PySem.W.Frag) (hK:X.K=K:=by rfl):CallR X (.type "list") (uLstOf K):=by
 subst hK
 refine nX.imp fun xs H Q q=>?_
 unfold uLstOf at q
 split at q
 ·obtain ⟨ys,h1,h2⟩:=q;exact ⟨_,ys,rfl,h1,h2⟩
 ·exact q.elim
noncomputable def lstD (ds:List D):R D:=match ds with
 | [.lst xs]=>.ok (.lst xs)
 | [.tup xs]=>.ok (.lst xs)
 | _=>.no
theorem pLst (K:PySem.W.Frag) (hW:W.K=K:=by rfl):CallN W (uLstOf K) lstD:=by
 subst hW
 intro as H xs ds Q hn dv h
 unfold lstD at h
 split at h
 ·obtain ⟨v,rfl,d1⟩:=dens1 dv
  obtain ⟨p,vs,rfl,q1,q2⟩:=d1
  exact ⟨vs,.inl ((aA _ _).seq q1),fun l hl=>h l _ _ (aZ hl _) hl a9 ⟨vs,rfl,q2.mono (jk hl (aZ hl _))⟩⟩
 ·obtain ⟨v,rfl,d1⟩:=dens1 dv
  obtain ⟨p,vs,rfl,q1,q2⟩:=d1
  exact ⟨vs,.inr ((aA _ _).seqT q1),fun l hl=>h l _ _ (aZ hl _) hl a9 ⟨vs,rfl,q2.mono (jk hl (aZ hl _))⟩⟩
 ·exact h.elim
noncomputable def strsD:List D→Option (List Str)
 | []=>some []
 | .str b::ds=>(strsD ds).map (b::·)
 | _=>none
theorem om {K:PySem.W.Frag} {H:Hp}:∀ {ds:List D} {vs:List V} {bs:List Str},Dens K H ds vs→strsD ds=some bs→vs=bs.map V.str
 | [],_,_,h,e=>by cases h;cases e;rfl
 | d::ds,_,_,⟨v,vs,h0,h1,h2⟩,e=>by
  subst h0
  cases d with
  | str b =>
   have e:(strsD ds).map (b::·)=some _:=e
   cases q2:strsD ds with
   | none=>rw [q2] at e;cases e
   | some xs =>
    rw [q2] at e
    cases e
    cases h1
    rw [om h2 q2]
    rfl
  | _=>cases e
noncomputable def joinD (z:Str) (ds:List D):R D:=match ds with
 | [.lst xs]=>match strsD xs with
  | some ys=>if (ys.map (·.length)).sum+ys.length*z.length≤1000000 then .ok (.str (Txt.join z ys)) else .no
  | none=>.no
 | _=>.no
theorem pJoin (K:PySem.W.Frag) (hW:W.K=K:=by rfl):SmD W (uJoin K) joinD:=by
 subst hW
 intro as H z xs ds Q hn dv h
 unfold joinD at h
 split at h
 ·obtain ⟨v,rfl,d1⟩:=dens1 dv
  obtain ⟨p,vs,rfl,q1,q2⟩:=d1
  split at h
  ·rename_i ys e
   split at h
   ·rename_i hl
    refine ⟨ys,?_,Nat.le_trans hl (by decide),aU h rfl⟩
    rw [← om q2 e]
    exact (aA _ _).seq q1
   ·exact h.elim
  ·exact h.elim
 ·exact h.elim
end
end L2
namespace L2
open PySem PySem.Spec PyProof.Rows
section
variable {X:Cx} {o e:Expr} {es:List Expr} {to:TE} {t:TA} {name:Str} {apos cpos:Pos} {T id:String} {r:V→List V→Hp→VK→Prop}
theorem AB (pa:PlainAttrs T) (slot:Slot T name id) (hty:typeOf (.builtin id)=pure (.type "method_descriptor")) (hm:MtR X id r) (ho:JE X o to) (ha:JA X (e::es) t)
  (hbase:attributeBase o name X.env (eval o X.env)=eval o X.env:=by rfl) (hline:(apos.endLine==cpos.line)=true:=by rfl) (h1:(e::es).all noStar=true:=by rfl) (hl:(e::es).length < 29:=by decide) :
  JE X (.Call (.Attribute o name apos) (e::es) [] cpos) (tBM X.K T r to t):=by
 have h1':=h1
 rw [List.all_cons,Bool.and_eq_true] at h1'
 exact ⟨AF pa slot hty hm ho.out ha.out hbase (qk h1 hl) hline (cJ h1'.1) (dX h1'.2)⟩
theorem z9 (pa:PlainAttrs T) (slot:Slot T name id) (hty:typeOf (.builtin id)=pure (.type "method_descriptor")) (hm:MtR X id r) (ho:JE X o to)
  (hbase:attributeBase o name X.env (eval o X.env)=eval o X.env:=by rfl) (hline:(apos.endLine==cpos.line)=true:=by rfl) :
  JE X (.Call (.Attribute o name apos) [] [] cpos) (tBM0 X.K T r to):=⟨xU pa slot hty hm ho.out hbase hline⟩
end
theorem tf:∀ {O:List Nat} {own:List Addr} {i:Nat} {a b:Addr},O.Nodup→(i,a)∈O.zip own→(i,b)∈O.zip own→a=b
 | [],_,_,_,_,_,h,_=>by simp at h
 | _::_,[],_,_,_,_,h,_=>by simp at h
 | k::O,c::own,i,a,b,nd,h1,h2=>by
  rw [List.zip_cons_cons] at h1 h2
  rw [List.nodup_cons] at nd
  rcases List.mem_cons.mp h1 with e1|h1 <;> rcases List.mem_cons.mp h2 with e2|h2
  ·cases e1;cases e2;rfl
  ·cases e1;exact absurd (List.of_mem_zip h2).1 nd.1
  ·cases e2;exact absurd (List.of_mem_zip h1).1 nd.1
  ·exact tf nd.2 h1 h2
theorem m8 {as:List Addr} {H:Hp} {a:Addr} {o:HO} (h:a∈as):mask as (upd H a o)=mask as H:=by
 funext b
 unfold mask
 split
 ·rfl
 ·rename_i hb
  exact aR fun z=>hb (by rw [z];exact h)
theorem DI.mutate {K:PySem.W.Frag} {as0 own:List Addr} {B H:Hp} {O:List Nat} {σ:St} {δ:Sd} {i:Nat} {a:Addr} {o':HO} {d':D} (I:DI K as0 B O own σ δ H) (hi:(i,a)∈O.zip own) (h:OwnD K (mask (own++as0) H) o' d') :
  DI K as0 B O own σ (δ.set i (some d')) (upd H a o'):=by
 have hm:a∈own++as0:=List.mem_append_left _ (List.of_mem_zip hi).2
 obtain ⟨d0,o0,h1,h2,h3,h4⟩:=I.owns i a hi
 have hil:i < δ.length:=(List.getElem?_eq_some_iff.mp h1).1
 refine ⟨by simp [I.len],I.olen,I.nd,I.ond,I.fresh,I.ex0,fun b u e=>?_,fun j e hj q=>?_,fun j b hj=>?_⟩
 ·have hb:b≠a:=fun z=>by
   have:=I.fresh a (List.of_mem_zip hi).2
   rw [z,this] at e;cases e
  rw [aR hb]
  exact I.same b u e
 ·have hji:i≠j:=fun z=>hj (by rw [← z];exact (List.of_mem_zip hi).1)
  rw [getElem?_set',if_neg hji] at q
  rw [m8 hm]
  exact I.var j e hj q
 ·rw [m8 hm]
  by_cases hji:i=j
  ·subst hji
   have:=tf I.ond hi hj
   subst this
   exact ⟨d',o',by rw [getElem?_set',if_pos rfl,if_pos hil],h2,a9,h⟩
  ·obtain ⟨d,u,q1,q2,q3,q4⟩:=I.owns j b hj
   have hba:b≠a:=fun z=>hji (by rw [z] at hj;exact zip_inj I.nd hi hj)
   exact ⟨d,u,by rw [getElem?_set',if_neg hji];exact q1,q2,by rw [aR hba];exact q3,q4⟩
section
variable {X:Cx} {W:Wd} {Ob O O':List Nat} {e:Expr} {ε ψ:FE} {pos p1 p2 apos cpos:Pos} {x:Str}
theorem dC (K:PySem.W.Frag) {i:Nat} (hi:i∈O) (hb:JE X e (tD W O ψ)) (hN:X.N[i]?=some x:=by rfl) (hs:PlainIx e:=by exact fun _ _=>rfl) (hv:Vis X.env.scope x:=by first|exact Or.inl rfl|exact Or.inr (Or.inl rfl)|exact Or.inr (Or.inr rfl)) (hd:(x==("__debug__":Str))=false:=by decide)
  (hcd:(x==("__classdict__":Str))=false:=by decide) (hK:X.K=K:=by rfl) (hW:W.K=K:=by rfl):JE X (.Subscript (.Name x p1) e pos) (tD W O (vOp ixD (ai i) ψ)) :=
 (Ba (oIx K hK) (jv i hN hv hd hcd) hb hs).imp fun σ H Q hh=>exE hh fun as0 B own δ I h=>by
  obtain ⟨a,ha⟩:=c6 I.olen hi
  obtain ⟨d,o,h1,h2,h3,h4⟩:=I.owns i a ha
  have e0:tOp (uIx K) (uVar i) (tD W O ψ) σ H Q=kVar σ[i]? H (kOp1 (uIx K) (tD W O ψ) σ Q):=rfl
  rw [e0,h2]
  have hv:ai i δ=.ok d:=by unfold ai;rw [h1]
  have h':Fits W (own++as0) H ((ψ δ).bind fun y=>ixD d y) Q:=by
   have e:vOp ixD (ai i) ψ δ=(ψ δ).bind fun y=>ixD d y:=by unfold vOp;rw [hv];rfl
   rw [← e];exact h
  refine ⟨as0,B,own,δ,I,b5 h' fun y u H2 s2 d2 h2'=>?_⟩
  subst hW
  cases d with
  | lst ds =>
   obtain ⟨xs,rfl,q⟩:=h4
   cases y with
   | int k =>
    cases d2
    have h2'':Fits W (own++as0) H2 (match atI ds k with|some d=>.ok d|none=>.no) Q:=h2'
    cases q3:atI ds k with
    | none=>rw [q3] at h2'';exact h2''.elim
    | some d' =>
     rw [q3] at h2''
     obtain ⟨v,e1,e2⟩:=q.atI q3
     exact ⟨xs,v,.inl (SqL.of (s2 _ _ h3)),e1,aU h2'' (e2.mono (aG s2))⟩
   | _=>exact h2'.elim
  | _=>first|exact h4.elim|(cases y <;> exact h2'.elim)
noncomputable def dm (i:Nat) (ε:FE):FS:=fun δ=>match δ[i]? with
 | some (some (.lst xs))=>(ε δ).bind fun d=>if xs.length < 1000000 then .ok (.nx (δ.set i (some (.lst (xs++[d]))))) else .no
 | _=>.no
theorem dE {i:Nat} (hi:i∈O) (he:JE X e (tD W O ε)) (hN:X.N[i]?=some x:=by rfl) (hn:noStar e=true:=by rfl) (hline:(apos.endLine==cpos.line)=true:=by rfl) (hv:Vis X.env.scope x:=by first|exact Or.inl rfl|exact Or.inr (Or.inl rfl)|exact Or.inr (Or.inr rfl)) (hd:(x==("__debug__":Str))=false:=by decide)
  (hcd:(x==("__classdict__":Str))=false:=by decide) (hbase:attributeBase (.Name x p1) "append" X.env (eval (.Name x p1) X.env)=eval (.Name x p1) X.env:=by rfl)
  (hs:swapsWith (.Call (.Attribute (.Name x p1) "append" apos) [e] [] cpos) none pos.line X.env=pure false:=by rfl) (hW:W.K=X.K:=by rfl) :
  JS X (.Expr (.Call (.Attribute (.Name x p1) "append" apos) [e] [] cpos) pos) (sD W Ob O O (dm i ε)) :=
 (oG (AB PySem.F.plainAttrs_list PySem.F.slot_list_append PySem.F.type_list_append nL (jv i hN hv hd hcd) (oU he sV hn) hbase hline (by rw [List.all_cons,hn];rfl) (by show 1 < 29;decide)) hs).imp fun D σ H hh=>exE hh fun as0 B own δ I h=>by
  obtain ⟨a,ha⟩:=c6 I.olen hi
  obtain ⟨d,o,h1,h2,h3,h4⟩:=I.owns i a ha
  have e0:tDrop (tBM X.K "list" rAppend (uVar i) (tCons (tD W O ε) tNil)) D σ H=kVar σ[i]? H (fun x H1=>tyV X.K "list" x H1∧tCons (tD W O ε) tNil σ H1 fun vs H2=>rAppend x vs H2 (fun _ H3=>D.nx σ H3)):=rfl
  rw [e0,h2]
  unfold dm at h
  rw [h1] at h
  cases d with
  | lst ds =>
   obtain ⟨xs,rfl,q⟩:=h4
   refine ⟨.inl ⟨rfl,xs,SqL.of h3⟩,as0,B,own,δ,I,ci I h fun y v H2 s2 d2 hq=>?_⟩
   split at hq
   ·rename_i hl
    refine ⟨a,xs,v,rfl,rfl,s2 _ _ h3,?_,?_⟩
    ·have:=million;rw [← q.len];omega
    ·exact hq own σ _ ((I.mono s2).mutate ha ⟨xs++[v],rfl,(q.mono (aG s2)).append (Dens.cons d2 Dens.nil)⟩)
   ·exact hq.elim
  | _=>exact h.elim
noncomputable def ll (i:Nat) (ψ ε:FE):FS:=fun δ=>match δ[i]? with
 | some (some (.lst xs))=>(ε δ).bind fun d=>(ψ δ).bind fun k=>match k with
  | .int k=>(match ixN xs.length k with
   | some j=>.ok (.nx (δ.set i (some (.lst (xs.set j d)))))
   | none=>.no)
  | _=>.no
 | _=>.no
theorem mq {i:Nat} {ie:Expr} {spos:Pos} (hi:i∈O) (he:JE X e (tD W O ε)) (hie:JE X ie (tD W O ψ)) (hN:X.N[i]?=some x:=by rfl) (hv:Vis X.env.scope x:=by first|exact Or.inl rfl|exact Or.inr (Or.inl rfl)|exact Or.inr (Or.inr rfl)) (hd:(x==("__debug__":Str))=false:=by decide)
  (hcd:(x==("__classdict__":Str))=false:=by decide) (hs:swapsWithSole [.Subscript (.Name x p1) ie spos] e pos.line X.env=pure false:=by rfl) (hw:swappedStores [.Subscript (.Name x p1) ie spos] e X.env=pure none:=by rfl)
  (h1:(assignEach [.Subscript (.Name x p1) ie spos] X.env).map (·.2)=[assign (.Subscript (.Name x p1) ie spos) X.env]:=by rfl)
  (ha:∀ v,assign (.Subscript (.Name x p1) ie spos) X.env v=(do
   let ov ← holding [v] (eval (.Name x p1) X.env)
   let iv ← holding [v,ov] (eval ie X.env)
   standAt spos
   holding [v,ov,iv] (setItem ov iv v)
   release [v,ov,iv] []):=by intro _;rfl) :
  JS X (.Assign [.Subscript (.Name x p1) ie spos] e pos) (sD W Ob O O (ll i ψ ε)) :=
 (vP he (wk (jv i hN hv hd hcd) hie set_list ha) hs hw h1).imp fun D σ H hh=>exE hh fun as0 B own δ I h=>by
  obtain ⟨a,hza⟩:=c6 I.olen hi
  obtain ⟨d,o,h1,h2,h3,h4⟩:=I.owns i a hza
  unfold ll at h
  rw [h1] at h
  cases d with
  | lst ds =>
   obtain ⟨xs,rfl,q⟩:=h4
   refine ⟨as0,B,own,δ,I,ci I h fun y v H2 s2 d2 hq=>?_⟩
   have e0:gSub (uVar i) (tD W O ψ) rSetL v σ H2 D.nx=kVar σ[i]? H2 (fun o H1=>tD W O ψ σ H1 fun i H2=>rSetL o i v H2 fun H3=>D.nx σ H3):=rfl
   rw [e0,h2]
   refine ⟨as0,B,own,δ,I.mono s2,ci (I.mono s2) hq fun k u H3 s3 d3 hq3=>?_⟩
   cases k with
   | int k =>
    cases d3
    have hq3':FitsS W as0 B Ob O (match ixN ds.length k with
     | some j=>.ok (.nx (δ.set i (some (.lst (ds.set j y)))))
     | none=>.no) D:=hq3
    rw [q.len] at hq3'
    cases e:ixN xs.length k with
    | none=>rw [e] at hq3';exact hq3'.elim
    | some j =>
     rw [e] at hq3'
     refine ⟨a,xs,k,j,rfl,rfl,(s2.trans s3) _ _ h3,e,?_⟩
     exact hq3' own σ _ (((I.mono s2).mono s3).mutate hza ⟨xs.set j v,rfl,(q.mono (aG (s2.trans s3))).set (d2.mono (aG s3)) j⟩)
   | _=>exact hq3.elim
  | _=>exact h.elim
end
end L2
namespace L2
open PySem PySem.Spec PyProof.Rows
theorem de {ix:List (Option Nat)} {O:List Nat} (h:(ix.all fun o=>match o with|some k=>decide (k∉O)|none=>true)=true):∀ j∈ix,∀ k,j=some k→k∉O:=fun j hj k e=>by
 have:=List.all_eq_true.mp h j hj
 subst e
 exact of_decide_eq_true this
theorem notFp {X:Cx} {pins:List (Addr×Obj)} {σ:St} {H:Hp} {s:Shared} {a:Addr} (I:Inv X pins σ H s) (h:H a≠none∨∃ o,X.K.lookup a=some o):¬ FpOk X pins H a:=fun f=>by
 rcases h with h|⟨o,h⟩
 ·exact h f.1
 ·have e:=I.ok.mod.kin a o h
  rcases f.2.2.2.1 with z|z
  ·exact I.ok.noex a o e z
  ·exact absurd (Nat.lt_of_lt_of_le (Heap.lt_size e) (Nat.le_trans I.ok.bsz z)) (Nat.lt_irrefl _)
theorem uk {H:Hp} {a:Addr} {u:HO} (h:Rd H a u):H a≠none:=by
 rcases h with h|⟨o,h⟩ <;> rw [h] <;> simp
theorem ug {K:PySem.W.Frag} {H:Hp} {a:Addr} {xs:List V} (h:SqL K H a xs):H a≠none∨∃ o,K.lookup a=some o:=by
 rcases h with h|⟨o,_,_,h,_⟩
 ·exact .inl (uk h)
 ·exact .inr ⟨o,h⟩
theorem sY {K:PySem.W.Frag} {H:Hp} {a:Addr} {xs:List V} (h:SqT K H a xs):H a≠none∨∃ o,K.lookup a=some o:=by
 rcases h with h|⟨o,_,_,h,_⟩
 ·exact .inl (uk h)
 ·exact .inr ⟨o,h⟩
structure Src (K:PySem.W.Frag) (B:Hp) (xs:List V) (it:Addr) (S:Nat→Heap→Prop):Prop where
 obj:∀ i h,S i h→∃ o,h.get? it=some o∧∀ v,o.data≠.cell v
 keep:∀ i h h',S i h→(∀ o,h.get? it=some o→h'.get? it=some o)→S i h'
 draw:∀ (X:Cx) (pins:List (Addr×Obj)) (s:Shared) (σ:St) (H:Hp),Inv X pins σ H s→X.K=K→Same B H→FpOk X pins H it→∀ A:Around,A.handled=none→∀ i,S i s.heap →
  ∃ fp Pv St,Draws X.prog X.w A it fp xs.length Pv St∧St i s.heap∧it∈fp∧(∀ b∈fp,b=it∨¬ FpOk X pins H b)∧(∀ j u,Pv j u→∃ x,xs[j]?=some x∧RelV x u)∧∀ j h,St j h→S j h
theorem src_list {K:PySem.W.Frag} {B:Hp} {xs:List V} {a it:Addr} (hq:SqL K B a xs):Src K B xs it (fun i h=>h.IsListIter it a i) where
 obj:=fun i h ⟨o,e,c,d⟩=>⟨o,e,fun v z=>by rw [d] at z;cases z⟩
 keep:=fun i h h' ⟨o,e,r⟩ k=>⟨o,k o e,r⟩
 draw:=fun X pins s σ H I hK sB f A hA i st=>by
  subst hK
  obtain ⟨its,rv,pl,hz⟩:=I.list (sB.seq hq)
  have hne:a≠it:=fun z=>notFp I (ug (sB.seq hq)) (z ▸ f)
  have el:xs.length=its.toArray.size:=by rw [List.size_toArray];exact rv.length
  refine ⟨_,_,_,el ▸ Draws.list hA it a hne its.toArray,⟨st,pl.isList⟩,by simp,fun b hb=>?_,fun j u hu=>?_,fun j h st=>st.1⟩
  ·rcases List.mem_cons.mp hb with e|hb
   ·exact .inl e
   ·rw [List.mem_singleton.mp hb];exact .inr (notFp I (ug (sB.seq hq)))
  ·have hu':its[j]?=some u:=by simpa using hu
   have hj:j < its.length:=(List.getElem?_eq_some_iff.mp hu').1
   have hx:xs[j]?=some (xs[j]'(by rw [rv.length];exact hj)):=by rw [List.getElem?_eq_getElem]
   obtain ⟨u',h1,h2⟩:=rv.get hx
   rw [hu'] at h1;cases h1
   exact ⟨_,hx,h2⟩
theorem src_tuple {K:PySem.W.Frag} {B:Hp} {xs:List V} {a it:Addr} (hq:SqT K B a xs):Src K B xs it (fun i h=>h.IsTupleIter it a i) where
 obj:=fun i h ⟨o,e,c,d⟩=>⟨o,e,fun v z=>by rw [d] at z;cases z⟩
 keep:=fun i h h' ⟨o,e,r⟩ k=>⟨o,k o e,r⟩
 draw:=fun X pins s σ H I hK sB f A hA i st=>by
  subst hK
  obtain ⟨its,rv,pl,hz⟩:=I.tuple (sB.seqT hq)
  have hne:a≠it:=fun z=>notFp I (sY (sB.seqT hq)) (z ▸ f)
  have el:xs.length=its.toArray.size:=by rw [List.size_toArray];exact rv.length
  refine ⟨_,_,_,el ▸ pI hA it a hne its.toArray,⟨st,pl⟩,by simp,fun b hb=>?_,fun j u hu=>?_,fun j h st=>st.1⟩
  ·rcases List.mem_cons.mp hb with e|hb
   ·exact .inl e
   ·rw [List.mem_singleton.mp hb];exact .inr (notFp I (sY (sB.seqT hq)))
  ·have hu':its[j]?=some u:=by simpa using hu
   have hj:j < its.length:=(List.getElem?_eq_some_iff.mp hu').1
   have hx:xs[j]?=some (xs[j]'(by rw [rv.length];exact hj)):=by rw [List.getElem?_eq_getElem]
   obtain ⟨u',h1,h2⟩:=rv.get hx
   rw [hu'] at h1;cases h1
   exact ⟨_,hx,h2⟩
theorem signs_get {z:Str} {j:Nat} {u:Value} (h:∃ c t,z.cps[j]?=some c∧u=.str ⟨#[c]⟩ t):∃ x,(signsV z)[j]?=some x∧RelV x u:=by
 obtain ⟨c,t,h1,rfl⟩:=h
 refine ⟨.str ⟨#[c]⟩,?_,⟨t,rfl⟩⟩
 rw [List.getElem?_map,Array.getElem?_toList,h1]
 rfl
theorem tq {K:PySem.W.Frag} {B:Hp} {z:Str} {t:Tok} {it:Addr}:Src K B (signsV z) it (fun i h=>h.IsStrIter it "str_ascii_iterator" z t i) where
 obj:=fun i h ⟨o,e,c,d⟩=>⟨o,e,fun v z=>by rw [d] at z;cases z⟩
 keep:=fun i h h' ⟨o,e,r⟩ k=>⟨o,k o e,r⟩
 draw:=fun X pins s σ H I hK sB f A hA i st=>by
  have el:(signsV z).length=z.cps.size:=by simp
  exact ⟨_,_,_,el ▸ Draws.strAscii hA it z t,st,by simp,fun b hb=>.inl (by simpa using hb),fun j u hu=>signs_get hu,fun j h st=>st⟩
theorem vp {K:PySem.W.Frag} {B:Hp} {z:Str} {t:Tok} {it:Addr}:Src K B (signsV z) it (fun i h=>h.IsStrIter it "str_iterator" z t i) where
 obj:=fun i h ⟨o,e,c,d⟩=>⟨o,e,fun v z=>by rw [d] at z;cases z⟩
 keep:=fun i h h' ⟨o,e,r⟩ k=>⟨o,k o e,r⟩
 draw:=fun X pins s σ H I hK sB f A hA i st=>by
  have el:(signsV z).length=z.cps.size:=by simp
  exact ⟨_,_,_,el ▸ Draws.strWide hA it z t,st,by simp,fun b hb=>.inl (by simpa using hb),fun j u hu=>signs_get hu,fun j h st=>st⟩
noncomputable def SrcV (K:PySem.W.Frag) (H:Hp) (x:V) (xs:List V):Prop:=(∃ z,x=.str z∧xs=signsV z)∨(∃ a,x=.ref a∧SqL K H a xs)∨∃ a,x=.ref a∧SqT K H a xs
theorem zu {X:Cx} {pins:List (Addr×Obj)} {σ:St} {H B:Hp} {s:Shared} {x:V} {u:Value} {xs:List V} (I:Inv X pins σ H s) (r:RelV x u) (sB:Same B H) (h:SrcV X.K B x xs) :
  ∃ (o:Obj) (S:Addr→Nat→Heap→Prop),Iters u o s.heap∧o.isFreed=false∧(∀ it h,h.get? it=some o→S it 0 h)∧∀ it,Src X.K B xs it (S it):=by
 rcases h with ⟨z,rfl,rfl⟩|⟨a,rfl,hq⟩|⟨a,rfl,hq⟩
 ·obtain ⟨t,rfl⟩:=r
  cases ha:z.cps.all (· < 128)
  ·exact ⟨{ cls:=.type "str_iterator",data:=.fields #[.str z t,.int 0 0] },fun it i h=>h.IsStrIter it "str_iterator" z t i,fun prog w A s Q E _ q=>wpAny_pyIter_wide ha q,rfl,fun it h e=>⟨_,e,rfl,rfl⟩,fun it=>vp⟩
  ·exact ⟨{ cls:=.type "str_ascii_iterator",data:=.fields #[.str z t,.int 0 0] },fun it i h=>h.IsStrIter it "str_ascii_iterator" z t i,fun prog w A s Q E _ q=>wpAny_pyIter_ascii ha q,rfl,fun it h e=>⟨_,e,rfl,rfl⟩,fun it=>tq⟩
 ·cases r
  obtain ⟨its,rv,pl,hz⟩:=I.list (sB.seq hq)
  exact ⟨{ cls:=.type "list_iterator",data:=.fields #[.ref a,.int 0 0] },fun it i h=>h.IsListIter it a i,fun prog w A s Q E k q=>wpAny_pyIter_list (pl.keeps k).isList q,rfl,fun it h e=>⟨_,e,rfl,rfl⟩,fun it=>src_list hq⟩
 ·cases r
  obtain ⟨its,rv,pl,hz⟩:=I.tuple (sB.seqT hq)
  refine ⟨{ cls:=.type "tuple_iterator",data:=.fields #[.ref a,.int 0 0] },fun it i h=>h.IsTupleIter it a i,fun prog w A s Q E k q=>?_,rfl,fun it h e=>⟨_,e,rfl,rfl⟩,fun it=>src_tuple hq⟩
  obtain ⟨o,e,r⟩:=pl
  exact wpAny_pyIter_tuple (items:=its.toArray) ⟨o,k _ _ e,r⟩ q
theorem Inv.turnedT {X:Cx} {pins:List (Addr×Obj)} {σ:St} {H:Hp} {s:Shared} {h':Heap} {t':Nat} {ch:List Addr} {T:Addr} {ys:List V} {us:List Value} (I:Inv X pins σ H s) (hf:∀ b∈ch,FpOk X pins H b) (k:∀ b o,b∉ch→s.heap.get? b=some o→h'.get? b=some o) (hT:s.heap.objs.size≤T)
  (hl:ys.length≤sizeLine) (rv:Vals ys us) (isT:IsTup h' T us.toArray) (ht:X.tn≤t':=by walk_at "tok"):Inv X pins σ (upd H T (.tup ys)) { s with heap:=h',toks:=t' }:=by
 have hn:H T=none:=I.hok.fresh hT
 have nch:∀ b u,H b=some u→b∉ch:=fun b u e z=>by rw [(hf b z).1] at e;cases e
 refine I.step (g':=s.gens) (d':=s.drawn) (ch:=ch) (fun b hb=>⟨(hf b hb).2.2.2.1,(hf b hb).2.1,(hf b hb).2.2.2.2.1,(hf b hb).2.2.2.2.2⟩) (fun b o _ _ hc e _=>k b o hc e) (fun b o _ _ hc e _=>⟨o.slots,k b o hc e⟩) (fun b o _ e n=>?_)
  (fun b o hc e=>⟨o,k b o hc e⟩) (fun b xs e=>?_) (fun b o u e=>?_) (fun b ps e=>⟨#[],?_⟩) (fun m hm=>?_) (fun b u e=>?_) I.bare
 ·rw [aR (Nat.ne_of_lt (Nat.lt_of_lt_of_le (Heap.lt_size e) hT))];exact n
 ·rw [aR (bo e hn)];exact e
 ·rw [aR (bo e hn)];exact e
 ·rw [aR (bo e hn),e];simp
 ·obtain ⟨o,es,ep,ho,r⟩:=hm
  exact ⟨o,es,ep,k _ o (fun z=>(hf _ z).2.1 rfl) ho,r⟩
 ·by_cases hb:b=T
  ·subst hb
   rw [a9] at e
   cases e
   exact ⟨hl,us,rv,isT⟩
  ·rw [aR hb] at e
   refine (I.hok b u e).stay (fun c v hc q=>k c v ?_ q) (fun c q=>by rw [aR (bo q hn)];exact q) fun c xs q=>by rw [aR (bo q hn)];exact q
   rcases hc with z|z
   ·rw [z];exact nch b u e
   ·exact nch c _ z
noncomputable def Jpair (B:Hp) (n:Nat) (Pv:Nat→V→V→Prop):It :=
 ⟨fun i H=>Same B H∧i < n,fun i H v H'=>∃ p x y,H p=none∧H'=upd H p (.tup [x,y])∧v=.ref p∧Pv i x y,fun i H=>Same B H∧i=n⟩
end L2
namespace L2
open PySem PySem.Spec PyProof.Rows
theorem sC {P:Program} {w:World} {K:PySem.W.Frag} {B:Hp} {xs:List V} {e it:Addr} {S:Nat→Heap→Prop} {elts:List Expr} {k:Nat} {pos:Pos} (s1:Src K B xs it S) (ne:e≠it) :
  Turn P w K (.Tuple elts k pos) (Jpair B xs.length fun i x y=>x=.int (i:Int)∧xs[i]?=some y) [e,it] e (fun i h=>(∃ old,IsEnum h e it (i:Int) old)∧S i h):=by
 have nof:∀ {X:Cx} {pins:List (Addr×Obj)} {H:Hp} {fp:List Addr},(∀ b∈[e,it],FpOk X pins H b)→(∀ b∈fp,b=it∨¬ FpOk X pins H b)→e∉fp:=fun hf h1 m=>(h1 e m).elim ne fun q=>q (hf e (by simp))
 refine ⟨by simp,fun i h st b hb=>?_,fun i h h' st kk=>?_,?_,?_,fun A i s Q E st q=>let ⟨⟨old,he⟩,_⟩:=st;wpAny_pyIter_enum he q⟩
 ·obtain ⟨⟨old,he⟩,h1⟩:=st
  simp only [List.mem_cons,List.not_mem_nil,or_false] at hb
  rcases hb with rfl|rfl
  ·exact ⟨_,he,fun v q=>by cases q⟩
  ·exact s1.obj i h h1
 ·obtain ⟨⟨old,he⟩,h1⟩:=st
  exact ⟨⟨old,kk e (by simp) _ he⟩,s1.keep i h h' h1 fun o q=>kk it (by simp) o q⟩
 ·intro X hP hw hK hc i pins s σ H E I hf st hg
  subst hP hw
  obtain ⟨he,h1⟩:=st
  obtain ⟨sB,hi⟩:=hg
  have hh:X.A.in1.handled=none:=I.ok.hd hc
  obtain ⟨fp1,P1,St1,D1,st1,m1,n1,p1,b1⟩:=s1.draw X pins s σ H I hK sB (hf it (by simp)) X.A.in1 hh i h1
  have W:=WalksT.enumerateD D1 e ne (nof hf n1) m1
  refine br I.tk (W.item i s _ _ hi ⟨he,st1⟩ fun T vals h' tk pt hT isT mid k1 htk=>⟨.ref T,rfl,W.go elts k pos i T { s with heap:=h',toks:=tk } _ _ mid fun h'' st'' k2=>?_⟩)
  obtain ⟨t,u2,q2,rfl⟩:=pt
  obtain ⟨y,hy,ry⟩:=p1 i u2 q2
  obtain ⟨he',st1'⟩:=st''
  have kk:∀ b o,b∉[e,it]→s.heap.get? b=some o→h''.get? b=some o:=fun b o hb q=>k2 b o hb (k1 b o hb q)
  have hTn:H T=none:=I.hok.fresh hT
  have lt:∀ {b o},s.heap.get? b=some o→b≠T:=fun q=>Nat.ne_of_lt (Nat.lt_of_lt_of_le (Heap.lt_size q) hT)
  have isT':IsTup h'' T [.int i t,u2].toArray:=by
   obtain ⟨o,q,r⟩:=isT
   exact ⟨o,k2 T o (W.apart i T _ mid) q,r⟩
  refine ⟨.ref T,upd H T (.tup [.int (i:Int),y]),I.turnedT (t':=tk) (ch:=[e,it]) hf kk hT (by show 2≤sizeLine;decide) (.cons ⟨t,rfl⟩ (.cons ry .nil)) isT',rfl,⟨T,_,y,hTn,rfl,rfl,rfl,hy⟩,⟨he',b1 _ _ st1'⟩,fun b hb=>?_⟩
  have hbT:b≠T:=by
   simp only [List.mem_cons,List.not_mem_nil,or_false] at hb
   rcases hb with rfl|rfl
   ·obtain ⟨_,q⟩:=he;exact lt q
   ·obtain ⟨_,q,_⟩:=s1.obj _ _ h1;exact lt q
  rw [aR hbT]
  exact (hf b hb).1
 ·intro X hP hw hK hc i pins s σ H E I hf st hg
  subst hP hw
  obtain ⟨he,h1⟩:=st
  obtain ⟨sB,hi⟩:=hg
  have hh:X.A.in1.handled=none:=I.ok.hd hc
  obtain ⟨fp1,P1,St1,D1,st1,m1,n1,p1,b1⟩:=s1.draw X pins s σ H I hK sB (hf it (by simp)) X.A.in1 hh i h1
  have W:=WalksT.enumerateD D1 e ne (nof hf n1) m1
  subst hi
  refine br I.tk (W.done s _ _ ⟨he,st1⟩ fun h' tk kk htk=>⟨rfl,?_⟩)
  have nch:∀ b u,H b=some u→b∉[e,it]:=fun b u q m=>by
   have:=(hf b m).1
   rw [this] at q;cases q
  refine I.step (g':=s.gens) (d':=s.drawn) (ch:=[e,it]) (fun b hb=>?_) (fun b o _ _ hc q _=>kk b o hc q) (fun b o _ _ hc q _=>⟨o.slots,kk b o hc q⟩) (fun _ _ _ _ n=>n)
   (fun b o hc q=>⟨o,kk b o hc q⟩) (fun _ _ q=>q) (fun _ _ _ q=>q) (fun b ps q=>⟨#[],by rw [q];simp⟩) (fun m hm=>?_) (fun b u q=>?_) I.bare
  ·have f:=hf b hb
   exact ⟨f.2.2.2.1,f.2.1,f.2.2.2.2.1,f.2.2.2.2.2⟩
  ·obtain ⟨o,es,ep,ho,r⟩:=hm
   exact ⟨o,es,ep,kk _ o (fun q=>(hf _ q).2.1 rfl) ho,r⟩
  ·refine (I.hok b u q).stay (fun c v hc z=>kk c v ?_ z) (fun _ z=>z) fun _ _ z=>z
   rcases hc with z|z
   ·rw [z];exact nch b u q
   ·exact nch c _ z
theorem rP {K:PySem.W.Frag} {as0:List Addr} {B:Hp} {n:Nat} {Pv:Nat→V→V→Prop} {zs:List D} (hn:n=zs.length) (h:∀ i x y,i < n→Pv i x y→∃ dx dy,zs[i]?=some (.tup [dx,dy])∧Den K (mask as0 B) dx x∧Den K (mask as0 B) dy y):GivesD K as0 B (Jpair B n Pv) zs where
 go:=fun i H s hi=>⟨s,by rw [hn];exact hi⟩
 yl:=fun i H v H2 M s hM hM2 hi ⟨p,x,y,hp,e,ev,hv⟩=>by
  subst e ev
  obtain ⟨dx,dy,e1,d1,d2⟩:=h i x y (by rw [hn];exact hi) hv
  have hpM:p∉M:=fun z=>hM p z hp
  have s2:Same (mask as0 B) (mask M (upd H p (.tup [x,y]))):=(ij s hM2).trans (aG (aZ hp _))
  exact ⟨aZ hp _,_,e1,p,[x,y],rfl,.inl (.inl (by rw [aJ hpM];exact a9)),Dens.cons (d1.mono s2) (Dens.cons (d2.mono s2) Dens.nil)⟩
 stop:=fun H s=>⟨s,hn.symm⟩
theorem w6 {K:PySem.W.Frag} {H:Hp} {d:D} {v:V} {xs:List D} (h:Den K H d v) (e:kN d=.ok xs):∃ vs,SrcV K H v vs∧Dens K H xs vs:=by
 cases d with
 | lst ds=>cases e;obtain ⟨a,vs,rfl,q1,q2⟩:=h;exact ⟨vs,.inr (.inl ⟨a,rfl,q1⟩),q2⟩
 | tup ds=>cases e;obtain ⟨a,vs,rfl,q1,q2⟩:=h;exact ⟨vs,.inr (.inr ⟨a,rfl,q1⟩),q2⟩
 | str z =>
  cases e
  cases h
  refine ⟨signsV z,.inl ⟨z,rfl,rfl⟩,?_⟩
  show Dens K H (z.cps.toList.map fun c=>D.str ⟨#[c]⟩) (z.cps.toList.map fun c=>V.str ⟨#[c]⟩)
  generalize z.cps.toList=cs
  induction cs with
  | nil=>exact rfl
  | cons c r ih=>exact ⟨_,_,rfl,rfl,ih⟩
 | _=>cases e
theorem SrcV.mono {K:PySem.W.Frag} {H H':Hp} {v:V} {vs:List V} (s:Same H H') (h:SrcV K H v vs):SrcV K H' v vs:=by
 rcases h with h|⟨a,e,h⟩|⟨a,e,h⟩
 ·exact .inl h
 ·exact .inr (.inl ⟨a,e,s.seq h⟩)
 ·exact .inr (.inr ⟨a,e,s.seqT h⟩)
noncomputable def bU:Nat→List D→List D
 | _,[]=>[]
 | n,x::r=>.tup [.int (n:Int),x]::bU (n+1) r
theorem jR:∀ (n:Nat) (xs:List D),(bU n xs).length=xs.length
 | _,[]=>rfl
 | n,x::r=>by unfold bU;simp [jR (n+1) r]
theorem jJ:∀ (n:Nat) (xs:List D) (i:Nat),(bU n xs)[i]?=xs[i]?.map fun x=>.tup [.int ((n+i:Nat):Int),x]
 | _,[],i=>by simp [bU]
 | n,x::r,0=>by simp [bU]
 | n,x::r,i+1=>by
  unfold bU
  rw [List.getElem?_cons_succ,jJ (n+1) r i,List.getElem?_cons_succ]
  have e:n+1+i=n+(i+1):=by omega
  rw [e]
noncomputable def enumR (ds:List D):R (List D):=match ds with
 | [a]=>(kN a).bind fun xs=>.ok (bU 0 xs)
 | _=>.no
noncomputable def iEnumerate (α:FA):FA:=fun δ=>(α δ).bind enumR
section
variable {X:Cx} {W:Wd} {O:List Nat} {α:FA} {elts:List Expr} {k:Nat} {p pos tpos:Pos}
theorem nK {a:Expr} (hm:X.mg "enumerate"=none) (ha:JA X [a] (tDA W O α)) (hg:Gl X "enumerate":=by rfl) (h1:noStar a=true:=by rfl) (hW:W.K=X.K:=by rfl) :
  JI X (.Tuple elts k tpos) (.Call (.Name "enumerate" p) [a] [] pos) (iD W O (iEnumerate α)):=⟨fun pins s σ H R I ⟨as0,B,own,δ,DIh,h⟩=>by
 refine wpAny_Call_Name_kw (l8 I hg hm nC ?_ (by decide) (by decide))
 refine PyProof.Rows.callWith_type1 (thn (ha.out pos pins s σ H (fun vs H1=>Same H H1∧∃ ds,Dens W.K (mask (own++as0) H1) ds vs∧FitsI W as0 own H1 (enumR ds) R) I ⟨as0,B,own,δ,DIh,lw h fun ds vs H1 s1 d1 hq=>⟨s1,ds,d1,hq⟩⟩) fun us s1 hh=>exF hh fun vs H1 I1 r1 q1=>?_) (cJ h1) rfl
 obtain ⟨sH,ds,dv,hq⟩:=q1
 unfold enumR at hq
 split at hq
 ·rename_i da
  obtain ⟨va,rfl,den1⟩:=dens1 dv
  cases e1:kN da with
  | no=>rw [e1] at hq;exact hq.elim
  | er x=>cases da <;> cases e1
  | ok xs =>
   rw [e1] at hq
   have hq:∀ J H',Same H1 H'→GivesD W.K as0 (mask own H') J (bU 0 xs)→R J H':=hq
   obtain ⟨u1,rfl,ru1⟩:=vals1 r1
   rw [mY] at den1
   obtain ⟨xv,sv1,dn1⟩:=w6 den1 e1
   rw [hW] at sv1 dn1
   have sB:Same (mask own H1) H1:=aA _ _
   obtain ⟨o1,S1,it1,fr1,st1,src1⟩:=zu I1 ru1 sB (sv1.mono (aA _ _))
   refine rM it1 fr1 fun h' he g1 hsz kp=>?_
   refine wpAny_pyIter_enum he ?_
   refine ⟨s1.heap.objs.size+1,_,_,_,H1,rfl,I1.kept (t':=s1.toks) kp,sC (P:=X.prog) (w:=X.w) (src1 s1.heap.objs.size) (e:=s1.heap.objs.size+1) (Nat.succ_ne_self _),⟨⟨_,he⟩,st1 _ _ g1⟩,fun b hb=>?_,hq _ H1 (Same.refl _) ?_⟩
   ·have hb':s1.heap.objs.size≤b:=by
     simp only [List.mem_cons,List.not_mem_nil,or_false] at hb
     rcases hb with rfl|rfl <;> first|exact Nat.le_add_right _ _|exact Nat.le_refl _
    exact I1.fpOk hb' (I1.hok.fresh hb')
   ·rw [hW]
    refine rP ?_ fun i x y hi hv=>?_
    ·rw [jR,dn1.len]
    ·obtain ⟨rfl,hv⟩:=hv
     obtain ⟨dy,q3,q4⟩:=dn1.got hv
     refine ⟨.int (i:Int),dy,?_,rfl,q4⟩
     rw [jJ,q3,Nat.zero_add]
     rfl
 ·exact hq.elim⟩
end
noncomputable def spLaw (K:PySem.W.Frag) (F:List D→R D):Sp:=fun vs H Q E=>∀ mg,spD K mg F vs H Q E
theorem xG {P:Program} {w:World} {K:PySem.W.Frag} {mg:Str→Option Value} {k:Nat} {fa:Addr} {ps:List Str} {F:List D→R D} {C:FuncData→Prop}
  (h:∃ fd:FuncData,C fd∧∀ base:Heap,K.In base→base.Ns mainGlobals mg→FnOk P w K mg base CX0 k fa fd ps (spD K mg F)) :
  ∃ fd:FuncData,C fd∧∀ base:Heap,K.In base→base.Ns mainGlobals mg→FnOk P w K mg base CX0 k fa fd ps (spLaw K F):=by
 obtain ⟨fd,h1,h2⟩:=h
 exact ⟨fd,h1,fun base h3 h4=>(h2 base h3 h4).imp fun vs H Q E q=>q mg⟩
theorem xf {K:PySem.W.Frag} {a:Addr} {ns:List Int} {H:Hp} {F:List D→R D} {Q:VK} {E:XK} (hS:SqL K H a (ns.map V.int)) (h:F [.lst (ns.map D.int)]=.ok (.bl true)) (q:∀ H',Q (.bl true) H'):spLaw K F [.ref a] H Q E :=
 fun mg=>zA hS h q
end L2
namespace L2
open PySem PySem.Spec PyProof.Rows
noncomputable def fin (r:R Fl):R D:=r.bind fun f=>match f with
 | .rt d=>.ok d
 | .rn d=>.ok d
 | .nx _=>.ok .non
 | _=>.no
section
variable {δ:Sd} {d e:D} {x y:Str} {i j:Int} {b c:Bool} {φ ψ:FE} {τ υ:FT} {α:FA} {S T:FS}
noncomputable def seqK (T:FS) (f:Fl):R Fl:=match f with
 | .nx δ'=>T δ'
 | f=>.ok f
theorem zF:aK S T δ=(S δ).bind (seqK T):=by
 unfold aK seqK
 cases S δ with
 | ok f=>cases f <;> rfl
 | er x=>rfl
 | no=>rfl
theorem yF:seqK T (.nx δ)=T δ:=rfl
noncomputable def retK (d:D):R Fl:=.ok (.rt d)
theorem AH:bv φ δ=(φ δ).bind retK:=rfl
noncomputable def ifK (S T:FS) (δ:Sd) (b:Bool):R Fl:=if b=true then S δ else T δ
theorem Bi:sIf τ S T δ=(τ δ).bind (ifK S T δ):=rfl
theorem Bg:ifK S T δ b=if b=true then S δ else T δ:=rfl
noncomputable def setK (k:Nat) (δ:Sd) (d:D):R Fl:=.ok (.nx (δ.set k (some d)))
theorem Ax {k:Nat}:bJ k φ δ=(φ δ).bind (setK k δ):=rfl
noncomputable def ownK (k:Nat) (δ:Sd) (d:D):R Fl:=if k < δ.length then .ok (.nx (δ.set k (some d))) else .no
theorem AA {k:Nat}:sOwn k φ δ=(φ δ).bind (ownK k δ):=rfl
theorem Au {k:Nat}:ownK k δ d=if k < δ.length then .ok (.nx (δ.set k (some d))) else .no:=rfl
noncomputable def forK (t:TgD) (S:FS) (δ:Sd) (xs:List D):R Fl:=forD t S xs δ
theorem AJ {t:TgD}:sFor α t S δ=(α δ).bind (forK t S δ):=rfl
theorem zU {t:TgD} {xs:List D}:forK t S δ xs=forD t S xs δ:=rfl
noncomputable def loopK (t:TgD) (S:FS) (r:List D) (f:Fl):R Fl:=match f with
 | .nx δ2=>forD t S r δ2
 | .ct δ2=>forD t S r δ2
 | .bk δ2=>.ok (.nx δ2)
 | .rt d=>.ok (.rt d)
 | .rn d=>.ok (.rn d)
noncomputable def turnK (t:TgD) (S:FS) (r:List D) (δ1:Sd):R Fl:=(S δ1).bind (loopK t S r)
theorem p7 {t:TgD} {r:List D}:forD t S (d::r) δ=(bindD t d δ).bind (turnK t S r):=by
 show (bindD t d δ).bind _=_
 congr 1
theorem vT {t:TgD} {r:List D}:turnK t S r δ=(S δ).bind (loopK t S r):=rfl
theorem um {t:TgD} {r:List D}:loopK t S r (.nx δ)=forD t S r δ:=rfl
theorem uF {k l:Nat}:bindD (.tup [k,l]) (.tup [d,e]) δ=.ok ((δ.set k (some d)).set l (some e)):=rfl
noncomputable def getV (o:Option (Option D)):R D:=match o with
 | some (some d)=>.ok d
 | _=>.no
theorem v_var {k:Nat}:ai k δ=getV δ[k]?:=rfl
noncomputable def opK (op:D→D→R D) (ψ:FE) (δ:Sd) (x:D):R D:=(ψ δ).bind (op x)
theorem v_op {op:D→D→R D}:vOp op φ ψ δ=(φ δ).bind (opK op ψ δ):=rfl
theorem op_k {op:D→D→R D}:opK op ψ δ d=(ψ δ).bind (op d):=rfl
noncomputable def notK (d:D):R D:=blD d fun b=>.ok (.bl (!b))
theorem v_not:vNot φ δ=(φ δ).bind notK:=rfl
noncomputable def andK (ψ:FE) (δ:Sd) (d:D):R D:=blD d fun b=>if b=true then ψ δ else .ok (.bl false)
theorem v_and:vAnd φ ψ δ=(φ δ).bind (andK ψ δ):=rfl
theorem A3:andK ψ δ (.bl b)=if b=true then ψ δ else .ok (.bl false):=rfl
noncomputable def orK (ψ:FE) (δ:Sd) (d:D):R D:=blD d fun b=>if b=true then .ok (.bl true) else ψ δ
theorem v_or:vOr φ ψ δ=(φ δ).bind (orK ψ δ):=rfl
theorem or_k:orK ψ δ (.bl b)=if b=true then .ok (.bl true) else ψ δ:=rfl
noncomputable def blK (d:D):R Bool:=blD d .ok
theorem q_bl:qBl φ δ=(φ δ).bind blK:=rfl
theorem AU:eT φ δ=(φ δ).bind truD:=rfl
noncomputable def qandK (υ:FT) (δ:Sd) (b:Bool):R Bool:=if b=true then υ δ else .ok false
theorem zi:qAnd τ υ δ=(τ δ).bind (qandK υ δ):=rfl
theorem x6:qandK υ δ b=if b=true then υ δ else .ok false:=rfl
noncomputable def qorK (υ:FT) (δ:Sd) (b:Bool):R Bool:=if b=true then .ok true else υ δ
theorem Bb:qOr τ υ δ=(τ δ).bind (qorK υ δ):=rfl
theorem Ar:qorK υ δ b=if b=true then .ok true else υ δ:=rfl
noncomputable def qnotK (b:Bool):R Bool:=.ok (!b)
theorem AE:iC τ δ=(τ δ).bind qnotK:=rfl
noncomputable def ifEK (φ ψ:FE) (δ:Sd) (b:Bool):R D:=if b=true then φ δ else ψ δ
theorem vE:vIf τ φ ψ δ=(τ δ).bind (ifEK φ ψ δ):=rfl
theorem vk:ifEK φ ψ δ b=if b=true then φ δ else ψ δ:=rfl
theorem AL:eR α δ=(α δ).bind mkLst:=rfl
theorem Ab:g9 α δ=(α δ).bind mkTup:=rfl
theorem yz {ds:List D}:mkLst ds=if ds.length≤1000000 then .ok (.lst ds) else .no:=rfl
theorem ze {ds:List D}:mkTup ds=if ds.length≤1000000 then .ok (.tup ds) else .no:=rfl
theorem zB {g:List D→R D}:ao g α δ=(α δ).bind g:=rfl
noncomputable def oK (d:D):R (Option Int):=match d with
 | .int i=>.ok (some i)
 | _=>.no
theorem yr:fZ φ δ=(φ δ).bind oK:=rfl
noncomputable def sl2K (g:D→Option Int→Option Int→R D) (d:D) (lo hi:Option Int):R D:=g d lo hi
noncomputable def sl1K (g:D→Option Int→Option Int→R D) (u:Sd→R (Option Int)) (δ:Sd) (d:D) (lo:Option Int):R D:=(u δ).bind (sl2K g d lo)
noncomputable def sl0K (g:D→Option Int→Option Int→R D) (l u:Sd→R (Option Int)) (δ:Sd) (d:D):R D:=(l δ).bind (sl1K g u δ d)
theorem Bd {g:D→Option Int→Option Int→R D} {l u:Sd→R (Option Int)}:vSl g φ l u δ=(φ δ).bind (sl0K g l u δ):=rfl
theorem yR {g:D→Option Int→Option Int→R D} {l u:Sd→R (Option Int)}:sl0K g l u δ d=(l δ).bind (sl1K g u δ d):=rfl
theorem yD {g:D→Option Int→Option Int→R D} {u:Sd→R (Option Int)} {lo:Option Int}:sl1K g u δ d lo=(u δ).bind (sl2K g d lo):=rfl
theorem yT {g:D→Option Int→Option Int→R D} {lo hi:Option Int}:sl2K g d lo hi=g d lo hi:=rfl
noncomputable def smK (g:Str→List D→R D) (α:FA) (δ:Sd) (d:D):R D:=match d with
 | .str z=>(α δ).bind fun ds=>g z ds
 | _=>.no
theorem v_sm {g:Str→List D→R D}:vSM g φ α δ=(φ δ).bind (smK g α δ):=rfl
theorem sm_k {g:Str→List D→R D}:smK g α δ (.str x)=(α δ).bind (g x):=rfl
theorem zc {ix:List (Option Nat)} {t:TgD}:fX ix α t τ φ δ=(α δ).bind (bX t τ φ (captD ix δ)):=rfl
theorem Ae:lH φ δ=(φ δ).bind kN:=rfl
theorem vJ:iRng1D α δ=(α δ).bind rng1:=rfl
theorem yN (h:-(2 ^ 62)≤i∧i < 2 ^ 62):rng1 [.int i]=.ok (hU 0 i.toNat):=if_pos h
theorem yG:iEnumerate α δ=(α δ).bind enumR:=rfl
theorem yJ {xs:List D} (h1:kN d=.ok xs):enumR [d]=.ok (bU 0 xs):=by
 unfold enumR;simp only [h1,aD]
theorem AM:addD (.str x) (.str y)=if x.length+y.length≤1000000 then .ok (.str (x++y)) else .no:=rfl
theorem add_l {xs ys:List D}:addD (.lst xs) (.lst ys)=if xs.length+ys.length≤1000000 then .ok (.lst (xs++ys)) else .no:=rfl
theorem Ac:subD (.int i) (.int j)=.ok (.int (i - j)):=rfl
theorem mul_r (h:-(2 ^ 64) < j∧j < 2 ^ 64):mulD (.int i) (.int j)=.ok (.int (i*j)):=if_pos (.inr h)
theorem AO (h:-(2 ^ 64) < i∧i < 2 ^ 64):mulD (.int i) (.int j)=.ok (.int (i*j)):=if_pos (.inl h)
theorem Aj (h:0 < j∧j < 1073741824):divD (.int i) (.int j)=.ok (.int (i/j)):=if_pos h
theorem zV (h:0 < j):modD (.int i) (.int j)=.ok (.int (i % j)):=if_pos h
theorem wG (h:0≤j∧j≤1000000∧-(2 ^ 64) < i∧i < 2 ^ 64):powD (.int i) (.int j)=.ok (.int (i ^ j.toNat)):=if_pos ⟨h.1,h.2.1,by omega⟩
theorem u6:ltD (.int i) (.int j)=.ok (.bl (decide (i < j))):=rfl
theorem wE:gtD (.int i) (.int j)=.ok (.bl (decide (j < i))):=rfl
theorem ge_i:geD (.int i) (.int j)=.ok (.bl (decide (j≤i))):=rfl
theorem Be:ltD (.str x) (.str y)=.ok (.bl (decide (x.cps.toList < y.cps.toList))):=rfl
theorem jW:eqD (.int i) (.int j)=.ok (.bl (decide (i=j))):=by simp [eqD,eqO,scalD,scal,optR]
theorem fV:eqD (.str x) (.str y)=.ok (.bl (decide (x=y))):=by simp [eqD,eqO,scalD,scal,optR]
theorem z5:eqD .non .non=.ok (.bl true):=by simp [eqD,eqO,scalD,scal,optR]
theorem rh:neD (.int i) (.int j)=.ok (.bl (!decide (i=j))):=by simp [neD,eqO,scalD,scal,optR]
theorem yd:neD (.str x) (.str y)=.ok (.bl (!decide (x=y))):=by simp [neD,eqO,scalD,scal,optR]
theorem xZ:neD (.bl b) (.bl c)=.ok (.bl (!decide (b=c))):=by simp [neD,eqO,scalD,scal,optR]
theorem ix_s (h:x.length≤1000000) {k:Nat} (hk:atI x.cps.toList i=some k):ixD (.str x) (.int i)=.ok (.str ⟨#[k]⟩):=by simp only [ixD,if_pos h,hk]
theorem se {xs:List D} (hk:atI xs i=some d):ixD (.lst xs) (.int i)=.ok d:=by simp only [ixD,hk]
theorem zZ {xs:List D} (hk:atI xs i=some d):ixD (.tup xs) (.int i)=.ok d:=by simp only [ixD,hk]
theorem bI {r:List D}:ixD (.tup (d::r)) (.int 0)=.ok d:=zZ (cr (j:=0) rfl)
theorem bE {a:D} {r:List D}:ixD (.tup (a::d::r)) (.int 1)=.ok d:=zZ (cr (j:=1) rfl)
theorem eO {r:List D}:ixD (.lst (d::r)) (.int 0)=.ok d:=se (cr (j:=0) rfl)
theorem pN {a:D} {r:List D}:ixD (.lst (a::d::r)) (.int 1)=.ok d:=se (cr (j:=1) rfl)
theorem wv {a b:D} {r:List D}:ixD (.lst (a::b::d::r)) (.int 2)=.ok d:=se (cr (j:=2) rfl)
theorem xV {a b c:D} {r:List D}:ixD (.lst (a::b::c::d::r)) (.int 3)=.ok d:=se (cr (j:=3) rfl)
theorem Af {a0 a1 a2 a3:D} {r:List D}:ixD (.lst (a0::a1::a2::a3::d::r)) (.int 4)=.ok d:=se (cr (j:=4) rfl)
theorem A7 {a0 a1 a2 a3 a4:D} {r:List D}:ixD (.lst (a0::a1::a2::a3::a4::d::r)) (.int 5)=.ok d:=se (cr (j:=5) rfl)
theorem Av {a0 a1 a2 a3 a4 a5:D} {r:List D}:ixD (.lst (a0::a1::a2::a3::a4::a5::d::r)) (.int 6)=.ok d:=se (cr (j:=6) rfl)
theorem z3 {a0 a1 a2 a3 a4 a5 a6:D} {r:List D}:ixD (.lst (a0::a1::a2::a3::a4::a5::a6::d::r)) (.int 7)=.ok d:=se (cr (j:=7) rfl)
theorem zz {xs:List D} {lo hi:Option Int}:slD (.lst xs) lo hi=.ok (.lst (cutD xs lo hi)):=rfl
theorem si {xs:List D}:lenD [.lst xs]=.ok (.int xs.length):=rfl
theorem oN {xs:List D}:lenD [.tup xs]=.ok (.int xs.length):=rfl
theorem yh:intD [.bl b]=.ok (.int (if b=true then 1 else 0)):=rfl
theorem ua {xs:List D}:tupD [.lst xs]=.ok (.tup xs):=rfl
theorem AR {xs:List D}:tupD [.tup xs]=.ok (.tup xs):=rfl
theorem wR {xs:List D}:lstD [.tup xs]=.ok (.lst xs):=rfl
theorem As {C:String}:iE [.non,.ty C]=if known C=true then .ok (.bl (subT "NoneType" C)) else .no:=rfl
theorem tz {C:String}:iE [.int i,.ty C]=if known C=true then .ok (.bl (subT "int" C)) else .no:=rfl
theorem wQ {C:String}:iE [.str x,.ty C]=if known C=true then .ok (.bl (subT "str" C)) else .no:=rfl
theorem z0 {C:String} {xs:List D}:iE [.lst xs,.ty C]=if known C=true then .ok (.bl (subT "list" C)) else .no:=rfl
theorem xo {C:String} {xs:List D}:iE [.tup xs,.ty C]=if known C=true then .ok (.bl (subT "tuple" C)) else .no:=rfl
theorem strs_map {β:Type} (f:β→Str):∀ xs:List β,strsD (xs.map fun a=>D.str (f a))=some (xs.map f)
 | []=>rfl
 | a::r=>by simp only [List.map_cons,strsD,strs_map f r,Option.map_some]
theorem yQ {z:Str} {xs:List D} {ys:List Str} (h:strsD xs=some ys) (hl:(ys.map (·.length)).sum+ys.length*z.length≤1000000):joinD z [.lst xs]=.ok (.str (Txt.join z ys)):=by simp only [joinD,h,if_pos hl]
theorem pA {t:TgD} {τ:FT} {ε:FE} {δ0:Sd} {xs ys:List D} (hf:freeT t δ0=true) (hl:xs.length≤1000000) (h:compD t τ ε δ0 xs=.ok ys):bX t τ ε δ0 xs=.ok (.lst ys):=by
 unfold bX
 rw [if_pos ⟨hf,hl⟩,h]
 rfl
theorem qS {β:Type} {k:Nat} {ε:FE} {δ0:Sd} {as:List β} (u:β→D) (f:β→D) (hf:freeT (.one k) δ0=true) (hl:as.length≤1000000) (h:∀ a∈as,ε (δ0.set k (some (u a)))=.ok (f a)):bX (.one k) qYes ε δ0 (as.map u)=.ok (.lst (as.map f)):=by
 refine pA hf (by rw [List.length_map];exact hl) ?_
 clear hl
 induction as with
 | nil=>rfl
 | cons a r ih =>
  have h1:=h a List.mem_cons_self
  have ih:=ih fun b hb=>h b (List.mem_cons_of_mem _ hb)
  show (ε (δ0.set k (some (u a)))).bind _=_
  rw [h1]
  show (compD (.one k) qYes ε δ0 (r.map u)).bind _=_
  rw [ih]
  rfl
end
end L2
namespace L2
open PySem PySem.Spec PyProof.Rows
section
variable {X:Cx}
variable {W:Wd}
end
theorem oC {β:Type} {M:Model} {A:Around} {E:Value→Shared→Prop} {s:Shared} {b:Nat} (f:Nat→β→Sem (ForInStep β)) (I:Nat→β→Shared→Prop) (Q:β→Shared→Prop)
  (turn:∀ i c s,i < b→I i c s→wpAny M A (f i c) (fun r s'=>match r with|.yield b'=>I (i+1) b' s'|.done b'=>Q b' s') E s)
  (fin:∀ c s,I b c s→Q c s) (c:β) (h:I 0 c s):wpAny M A (forIn [0:b] c f) Q E s:=by
 rw [Std.Legacy.Range.forIn_eq_forIn_range']
 have hsz:([0:b]:Std.Legacy.Range).size=b:=by simp [Std.Legacy.Range.size]
 show wpAny M A (forIn (List.range' 0 ([0:b]:Std.Legacy.Range).size 1) c f) Q E s
 rw [hsz]
 refine wpAny_forIn_list f (fun l c st=>∃ i,i≤b∧l=List.range' i (b - i) 1∧I i c st) Q ?_ ?_ _ c ⟨0,Nat.zero_le _,rfl,h⟩
 ·rintro x rest c st ⟨i,hib,hl,hI⟩
  have hlt:i < b:=by
   rcases Nat.lt_or_ge i b with h'|h'
   ·exact h'
   ·rw [show b - i=0 by omega] at hl;simp at hl
  obtain ⟨n,hn⟩:∃ n,b - i=n+1:=⟨b - i - 1,by omega⟩
  rw [hn,List.range'_succ] at hl
  obtain ⟨rfl,rfl⟩:=List.cons.inj hl
  refine wpAny_mono (turn x c st (by omega) hI) (fun r st' h'=>?_) fun _ _ z=>z
  cases r with
  | done c'=>exact h'
  | yield c'=>exact ⟨x+1,by omega,by congr 1;omega,h'⟩
 ·rintro c st ⟨i,hib,hl,hI⟩
  have:i=b:=by
   rcases Nat.lt_or_ge i b with h'|h'
   ·obtain ⟨n,hn⟩:∃ n,b - i=n+1:=⟨b - i - 1,by omega⟩
    rw [hn,List.range'_succ] at hl;simp at hl
   ·omega
  subst this;exact fin _ _ hI
theorem mD (l:Addr) (items:List Value) (n:Nat) (dd:Option Addr) (sl:Array (Option Value)) (x:Value) (e:Value→Bool) (k:Nat) :
  Meets (Builtin.«tuple.index» ⟨[.ref l,x],[]⟩)
   (fun A R s=>s.heap.get? l=some { cls:=.type "tuple",dict:=dd,data:=.seq items.toArray n,slots:=sl }∧(∀ y,y∈items→SeqAt.EqAt A.in1 s y x (e y))∧(k < items.length∧(∀ y,items[k]?=some y→e y=true)∧∀ j y,j < k→items[j]?=some y→e y=false)∧R (.ok (.ret (.int (k:Nat) s.toks))) { s with toks:=s.toks+1 }) :=
 .of_wp fun prog w A R s h=>by
  obtain ⟨hp,g,d,tk,os⟩:=s;obtain ⟨hl,he,⟨hk0,hk1,hk2⟩,h⟩:=h
  wp_walk using wpAny_loadPart' hl,oC _ (fun i b s'=>b.1=none∧s'=⟨hp,g,d,tk,os⟩∧i≤k) _
  case turn =>
   rintro i b s' hi ⟨hb,rfl,hik⟩
   have hi':i < items.length:=by omega
   have e1:items.toArray[i]?=some items[i]:=by simp [hi']
   simp only [e1]
   refine wpAny_bind (he _ (List.getElem_mem hi') prog w _ _ ?_)
   by_cases hki:i=k
   ·subst hki
    rw [hk1 _ (List.getElem?_eq_getElem hi')]
    wp_walk
    exact ⟨_,rfl,h⟩
   ·rw [hk2 i _ (by omega) (List.getElem?_eq_getElem hi')]
    wp_walk
    exact ⟨rfl,rfl,by omega⟩
  case fin =>
   rintro ⟨b1,b2⟩ s' ⟨hb,rfl,hik⟩
   simp at hik
   omega
  case h =>
   exact ⟨rfl,rfl,Nat.zero_le _⟩
section
variable {X:Cx} {W:Wd} {O:List Nat}
noncomputable def posV (x:V):List V→Option Nat
 | []=>none
 | y::ys=>if eqV y x=true then some 0 else (posV x ys).map (·+1)
theorem nP {x:V}:∀ {xs:List V} {us:List Value} {k:Nat},Vals xs us→xs.all flatV=true→posV x xs=some k→k < us.length∧(∀ y,us[k]?=some y→eqU x y=true)∧∀ j y,j < k→us[j]?=some y→eqU x y=false
 | _,_,_,.nil,_,h=>by cases h
 | y::xs,u::us,k,.cons r t,f,h=>by
  rw [List.all_cons,Bool.and_eq_true] at f
  unfold posV at h
  split at h
  ·rename_i e
   cases h
   refine ⟨by simp,fun y' h'=>?_,fun j _ hj _=>absurd hj (Nat.not_lt_zero _)⟩
   simp only [List.getElem?_cons_zero,Option.some.injEq] at h'
   subst h'
   rw [uj r f.1];exact e
  ·rename_i e
   cases q:posV x xs with
   | none=>rw [q] at h;cases h
   | some k' =>
    rw [q] at h
    cases h
    obtain ⟨h1,h2,h3⟩:=nP t f.2 q
    refine ⟨by simpa using h1,fun y' h'=>h2 y' (by simpa using h'),fun j y' hj h'=>?_⟩
    cases j with
    | zero =>
     simp only [List.getElem?_cons_zero,Option.some.injEq] at h'
     subst h'
     rw [uj r f.1];simpa using e
    | succ j=>exact h3 j y' (Nat.lt_of_succ_lt_succ hj) (by simpa using h')
noncomputable def rTIx (K:PySem.W.Frag) (x:V) (xs:List V) (H:Hp) (Q:VK):Prop:=∃ p vs y k,x=.ref p∧xs=[y]∧SqT K H p vs∧flatV y=true∧vs.all flatV=true∧posV y vs=some k∧Q (.int (k:Nat)) H
theorem sn:MtR X "tuple.index" (rTIx X.K):=by
 intro pins s σ H x xs v us Q I rx r h
 obtain ⟨p,vs,y,k,rfl,rfl,hq,fy,fs,e,q⟩:=h
 cases rx
 obtain ⟨u,rfl,ry⟩:=vals1 r
 obtain ⟨its,rv,pl,hz⟩:=I.tuple hq
 obtain ⟨⟨cls,dd,data,sl⟩,ho,hc,n,hd⟩:=id pl
 simp only at hc hd
 subst hc hd
 exact call_meets PySem.F.slot_tuple_index ⟨_,ho,rfl⟩ PySem.F.entry_tuple_index (PySem.F.args_tuple_index_2 _ _) (mD p its n dd sl u (eqU y) k) ⟨ho,fun z hz=>pW ry fy rv fs z hz,nP rv fs e,⟨.int _,H,I.tok _,⟨_,rfl⟩,q⟩⟩
noncomputable def tIxD (k:D) (ds:List D):R D:=match k,ds with
 | .tup xs,[d]=>match scalD d,scalsD xs with
  | some v,some vs=>match posV v vs with
   | some k=>.ok (.int (k:Nat))
   | none=>.no
  | _,_=>.no
 | _,_=>.no
noncomputable def vTIx (k:D) (α:FA):FE:=fun δ=>(α δ).bind fun ds=>tIxD k ds
theorem AN {k:D} {α:FA} {δ:Sd}:vTIx k α δ=(α δ).bind (tIxD k):=rfl
theorem my {x:Str} {d:D} {p:Addr} {e:Expr} {α:FA} {apos cpos pos:Pos} (hm:X.mg x=some (.ref p)) (hd:∀ H,Den W.K H d (.ref p)) (hl:∃ ob,W.K.lookup p=some ob∧ob.cls=.type "tuple"∧ob.dict=none) (ha:JA X [e] (tDA W O α)) (hK:X.K=W.K:=by rfl) (hg:Gl X x:=by rfl) (hdb:(x==("__debug__":Str))=false:=by decide)
  (hbase:attributeBase (.Name x pos) "index" X.env (eval (.Name x pos) X.env)=eval (.Name x pos) X.env:=by rfl) (hline:(apos.endLine==cpos.line)=true:=by rfl) (h1:[e].all noStar=true:=by rfl) (hfew:[e].length < 29:=by decide) :
  JE X (.Call (.Attribute (.Name x pos) "index" apos) [e] [] cpos) (tD W O (vTIx d α)) :=
 (AB PySem.F.plainAttrs_tuple PySem.F.slot_tuple_index PySem.F.type_tuple_index sn (wg (v:=.ref p) hm rfl hg hdb) ha hbase hline h1 hfew).imp fun σ H Q hh=>exE hh fun as0 B own δ I h=>by
  obtain ⟨ob,hl,hc,hdn⟩:=hl
  refine ⟨.inr (.inl ⟨rfl,ob,by rw [hK];exact hl,hc,hdn⟩),as0,B,own,δ,I,di h fun ds xs H2 s2 d2 h2=>?_⟩
  have dp:=hd (mask (own++as0) H2)
  unfold tIxD at h2
  split at h2
  ·rename_i ks d'
   obtain ⟨v,rfl,dv⟩:=dens1 d2
   obtain ⟨p',vs,e0,q1,q2⟩:=dp
   cases e0
   split at h2
   ·rename_i w ws e1 e2
    split at h2
    ·rename_i k e3
     have:=fj dv e1
     subst this
     obtain ⟨h3,h4⟩:=lK q2 e2
     subst h3
     exact ⟨p,vs,v,k,rfl,rfl,by rw [hK];exact (aA _ _).seqT q1,rN e1,h4,e3,aU h2 rfl⟩
    ·exact h2.elim
   ·exact h2.elim
  ·exact h2.elim
end
end L2
namespace L2
open PySem PySem.Spec PyProof.Rows
section
variable {α:Type} [DecidableEq α]
end
section
variable {prog:Program} {w:World} {A:Around} {R:Result→Shared→Prop} {I:Addr} {fp wr:List Addr} {G:Array GenState→Array GenState→Prop} {n:Nat} {P:Nat→Value→Prop} {St:Nat→Shared→Prop}
variable {α:Type} [DecidableEq α] {knd:KeyKind prog w α}
end
end L2
namespace L2
open PySem PySem.Spec PyProof.Rows
section
variable {X:Cx} {W:Wd} {O:List Nat}
end
end L2
namespace L2
open PySem PySem.Spec PyProof.Rows
section
variable {X:Cx} {W Wb:Wd} {O:List Nat} {osc scope:Scope} {ON N:List Str} {ix:List (Option Nat)} {tg elt:Expr} {ifs:List Expr} {t:TgD} {τ:FT} {ε:FE} {pos p1:Pos} {x:Str}
end
section
variable {X:Cx} {W:Wd} {O:List Nat} {a b e st:Expr} {rest:List Expr} {pos p2:Pos} {te ts ta tb:TE} {φ ψ:FE}
end
end L2
namespace L2
open PySem PySem.Spec PyProof.Rows
section
variable {X:Cx} {W:Wd} {O O' Ob:List Nat}
end
end L2
namespace L2
open PySem PySem.Spec PyProof.Rows
section
variable {X:Cx} {W:Wd} {O:List Nat} {b:Expr} {ψ:FE} {x:Str} {p1 pos:Pos} {op:CmpOp}
theorem sN (K:PySem.W.Frag) (f:Bool→Bool) {i:Nat} (hi:i∈O) (hW:W.K=K) {σ:St} {H:Hp} {Q:VK} {as0 own:List Addr} {B:Hp} {δ:Sd} (I:DI W.K as0 B O own σ δ H) (h:Fits W (own++as0) H (vOp (fun a b=>optR (eqO a b) f) (ai i) ψ δ) Q):tOp (uEqD K f) (uVar i) (tD W O ψ) σ H Q:=by
 obtain ⟨a,ha⟩:=c6 I.olen hi
 obtain ⟨d,o,h1,h2,h3,h4⟩:=I.owns i a ha
 have hv:ai i δ=.ok d:=by unfold ai;rw [h1]
 have h':Fits W (own++as0) H ((ψ δ).bind fun y=>optR (eqO d y) f) Q:=by
  have e:vOp (fun a b=>optR (eqO a b) f) (ai i) ψ δ=(ψ δ).bind fun y=>optR (eqO d y) f:=by unfold vOp;rw [hv];rfl
  rw [← e];exact h
 have e0:tOp (uEqD K f) (uVar i) (tD W O ψ) σ H Q=kVar σ[i]? H (kOp1 (uEqD K f) (tD W O ψ) σ Q):=rfl
 rw [e0,h2]
 subst hW
 refine ⟨as0,B,own,δ,I,b5 h' fun y u H2 s2 d2 h2'=>?_⟩
 have hao:a∈own:=(List.of_mem_zip ha).2
 have od:OwnD W.K (mask [a] H2) o d:=h4.mono ((iV fun b hb=>by
  rw [List.mem_singleton.mp hb];exact List.mem_append_left _ hao).trans (aG s2))
 have dd:Den W.K H2 d (.ref a):=by
  have:=od.den (as:=[]) (by simp) (s2 _ _ h3)
  rwa [pQ] at this
 cases e:eqO d y with
 | none=>rw [e] at h2';exact h2'.elim
 | some k =>
  rw [e] at h2'
  exact ⟨d,y,k,dd,d2.mono (aA _ _),e,aU h2' rfl⟩
theorem m6 (K:PySem.W.Frag) (f:Bool→Bool) {i:Nat} (hi:i∈O) (ho:OpR X (compareOp op) (uEqD K f)) (hb:JE X b (tD W O ψ)) (hm:behindInMarks op b=false) (hN:X.N[i]?=some x:=by rfl) (hv:Vis X.env.scope x:=by first|exact Or.inl rfl|exact Or.inr (Or.inl rfl)|exact Or.inr (Or.inr rfl)) (hd:(x==("__debug__":Str))=false:=by decide)
  (hcd:(x==("__classdict__":Str))=false:=by decide) (hW:W.K=K:=by rfl):JT X (.Compare (.Name x p1) [op] [b] pos) (tDT W O (qBl (vOp (fun a b=>optR (eqO a b) f) (ai i) ψ))) :=
 (vI ho (jv i hN hv hd hcd) hb hm).imp fun σ H Q hh=>exE hh fun as0 B own δ I h=>sN K f hi hW (Q:=kTest Q) I (dh h fun z w H3 s3 d3 h3=>by
  cases z with
  | bl k=>cases d3;exact h3 H3 (Same.refl _)
  | _=>exact h3.elim)
end
end L2
namespace L2
open PySem PySem.Builtin PySem.Builtin.Str PySem.StrLaws
end L2
namespace L2
open PySem PySem.Spec PyProof.Rows
section
variable {X:Cx} {W:Wd} {O:List Nat} {φ:FE}
end
end L2
namespace LT
open PySem PyProof.Rows PySem.SeqAt
open PySem.AutoSeq1 (wpAny_loadPart')
open PySem.MeetsSeq PySem.MeetsSeq2 PySem.MeetsSeq3
noncomputable def LtAt (A:Around) (s:Shared) (y x:Value) (b:Bool):Prop :=
 ∀ (prog:Program) (w:World) (E:Value→Shared→Prop) (Q:Value→Shared→Prop),Q (.bool b) s→wpAny (model prog w) A (richCompare .Lt y x) Q E s
inductive Lx (A:Around) (s:Shared):List Value→List Value→Bool→Prop
 | nn:Lx A s [] [] false
 | nc {y:Value} {ys:List Value}:Lx A s [] (y::ys) true
 | cn {x:Value} {xs:List Value}:Lx A s (x::xs) [] false
 | eq {x y:Value} {xs ys:List Value} {b:Bool} (h:EqAt A s x y true) (t:Lx A s xs ys b):Lx A s (x::xs) (y::ys) b
 | ne {x y:Value} {xs ys:List Value} {b:Bool} (h:EqAt A s x y false) (t:LtAt A s x y b):Lx A s (x::xs) (y::ys) b
theorem uZ (l b:Addr) (items items2:Array Value) (n n2:Nat) (dd dd2:Option Addr) (sl sl2:Array (Option Value)) (r:Bool) :
  Meets (Builtin.«tuple.__lt__» ⟨[.ref l,.ref b],[]⟩)
   (fun A R s=>s.heap.get? l=some { cls:=.type "tuple",dict:=dd,data:=.seq items n,slots:=sl }∧s.heap.get? b=some { cls:=.type "tuple",dict:=dd2,data:=.seq items2 n2,slots:=sl2 } ∧
    Lx A.in1 s items.toList items2.toList r∧R (.ok (.ret (.bool r))) s) :=
 .of_wp fun prog w A R s h=>by
  obtain ⟨hp,g,d,tk,os⟩:=s;obtain ⟨hl,hb,hx,h⟩:=h
  have f2:=AutoSeq1.sub_tuple_tuple
  wp_walk using wpAny_loadPart' hl,wpAny_loadPart' hb,wpAny_forIn_list _ (fun rest b s'=>b.1=none∧s'=⟨hp,g,d,tk,os⟩∧∃ (vs ws:List Value) , rest=vs.zip ws ∧
   Lx A.in1 ⟨hp,g,d,tk,os⟩ vs ws r∧vs.length+items2.size=ws.length+items.size) _
  case turn =>
   rintro ⟨y,x⟩ rest b s' ⟨hb',rfl,vs,ws,hz,hx,hlen⟩
   cases hx with
   | nn=>cases hz
   | nc=>cases hz
   | cn=>rw [List.zip_nil_right] at hz;cases hz
   | eq he ht =>
    rw [List.zip_cons_cons] at hz
    injection hz with hyx hrest
    injection hyx with hy hx
    subst hy hx
    simp only [List.length_cons] at hlen
    refine wpAny_bind (he prog w _ _ ?_)
    wp_walk
    exact ⟨rfl,rfl,_,_,hrest,ht,by omega⟩
   | ne he ht =>
    rw [List.zip_cons_cons] at hz
    injection hz with hyx hrest
    injection hyx with hy hx
    subst hy hx
    refine wpAny_bind (he prog w _ _ ?_)
    have hri:=ht prog w
    wp_walk using hri
    exact ⟨_,rfl,by simpa using h⟩
  case fin =>
   rintro ⟨b1,b2⟩ s' ⟨hb',rfl,vs,ws,hz,hx,hlen⟩
   simp only at hb'
   subst hb'
   have hv:r=decide (items.size < items2.size):=by
    cases hx with
    | nn=>simp only [List.length_nil] at hlen;exact (decide_eq_false (by omega)).symm
    | nc=>simp only [List.length_nil,List.length_cons] at hlen;exact (decide_eq_true (by omega)).symm
    | cn=>simp only [List.length_nil,List.length_cons] at hlen;exact (decide_eq_false (by omega)).symm
    | eq he ht=>rw [List.zip_cons_cons] at hz;cases hz
    | ne he ht=>rw [List.zip_cons_cons] at hz;cases hz
   rw [hv] at h
   wp_walk
   exact ⟨_,rfl,by simpa [Builtin.Tuple.tupleCompareSizes] using h⟩
  case h =>
   exact ⟨rfl,rfl,items.toList,items2.toList,rfl,hx,by simp;omega⟩
theorem LtAt.tup {A:Around} {s:Shared} {l b:Addr} {items items2:Array Value} {r:Bool} (hl:IsTup s.heap l items) (hb:IsTup s.heap b items2) (hx:Lx A.in1 s items.toList items2.toList r) (hu:A.units < cLine):LtAt A s (.ref l) (.ref b) r:=fun prog w E Q h=>by
 obtain ⟨⟨cls,dd,data,sl⟩,ho,hc,n,hd⟩:=id hl
 obtain ⟨⟨cls2,dd2,data2,sl2⟩,ho2,hc2,n2,hd2⟩:=id hb
 simp only at hc hd hc2 hd2
 subst hc hd hc2 hd2
 exact richCompare_meets_room (op:=.Lt) ⟨_,ho,rfl⟩ ⟨_,ho2,rfl⟩ PySem.F.slot_tuple_lt PySem.F.entry_tuple_lt (PySem.F.args_tuple_lt_2 _ _) (uZ l b items items2 n n2 dd dd2 sl sl2 r)
  ⟨ho,ho2,hx,show Value.bool r≠Value.notImplemented∧Q (.bool r) s from ⟨(fun x=>nomatch x),h⟩⟩ hu
theorem LtAt.int {A:Around} {s:Shared} (a:Int) (t:Tok) (c:Int) (u:Tok):LtAt A s (.int a t) (.int c u) (decide (a < c)):=fun prog w E Q h=>(PyProof.Rows.lt_int h:wpAny (model prog w) A (compareOp .Lt (.int a t) (.int c u)) Q E s)
theorem LtAt.str {A:Around} {s:Shared} (a:Str) (t:Tok) (c:Str) (u:Tok):LtAt A s (.str a t) (.str c u) (decide (a.cps.toList < c.cps.toList)):=fun prog w E Q h=>(PyProof.Rows.lt_str h:wpAny (model prog w) A (compareOp .Lt (.str a t) (.str c u)) Q E s)
end LT
namespace L2
open PySem PySem.Spec PyProof.Rows
section
variable {X:Cx} {W:Wd}
end
end L2
namespace L2
open PySem PySem.Spec PyProof.Rows
section
variable {M:Model} {A:Around} {E:Value→Shared→Prop} {s₀ s:Shared} {m cm:Str→Option Value} {env:Env}
end
noncomputable abbrev Cx.up (X:Cx) (n:Nat):Cx:={ X with tn:=n }
theorem Cx.Ok.up {X:Cx} {n:Nat} (ok:X.Ok):(X.up n).Ok :=
 ⟨ok.mod,ok.kind,ok.glob,ok.blt,ok.above,ok.inj,ok.has,ok.cab,ok.hd,ok.frames,ok.stk,ok.exf,ok.bs,ok.bsz,ok.noex,ok.exfs,ok.funs,ok.frf⟩
theorem Inv.up {X:Cx} {pins:List (Addr×Obj)} {σ:St} {H:Hp} {s:Shared} {n:Nat} (I:Inv X pins σ H s) (h:n≤s.toks):Inv (X.up n) pins σ H s:=⟨I.ok.up,I.os,I.bare,I.base,I.loc,I.cell,I.free,I.freeC,I.pin,I.hok,I.len,h⟩
section
variable {P:Program} {w:World} {K:PySem.W.Frag} {mg:Str→Option Value} {base:Heap}
end
end L2
namespace L2
open PySem PySem.Spec PyProof.Rows
section
variable {X:Cx} {W:Wd} {O Ob:List Nat} {e:Expr} {φ:FE} {pos p1:Pos}
end
section
variable {X:Cx} {W:Wd} {Ob O:List Nat} {e f:Expr} {ε ψ:FE} {pos p1 p2 p3 apos cpos apos2 cpos2 apos3 cpos3 tpos:Pos} {x:Str} {tx:Nat}
end
theorem FnOk.void {P:Program} {w:World} {K:PySem.W.Frag} {mg:Str→Option Value} {base:Heap} {k:Nat} {f:Addr} {fd:FuncData} {ps:List Str}:FnOk P w K mg base CX0 k f fd ps (spD K mg fun _=>.no) :=
 ⟨fun vs H Q E ⟨_,_,_,_,h⟩=>h.elim,fun A outer s H args us vs Q E hr e0 hb r ⟨_,_,_,_,h⟩=>h.elim⟩
end L2
namespace LX
open PySem PySem.AutoSeq1
open PySem.MeetsSeq PySem.MeetsSeq2 PySem.MeetsSeq3
theorem extend_list (l:Addr) (items:Array Value) (n:Nat) (b:Addr) (items2:Array Value) (n2:Nat) (dd:Option Addr) (sl:Array (Option Value)) (hc0:¬(!items.isEmpty&&Builtin.List.listTooLong (items.size+items2.size))=true) (hc1:items.size≤sizeLine) (hs2:items.size+items2.size≤sizeLine+1) :
  Meets (Builtin.«list.extend» ⟨[.ref l,.ref b],[]⟩) (fun _ R s=>s.heap.get? l=some { cls:=.type "list",dict:=none,data:=.seq items n,slots:=#[] }∧s.heap.get? b=some { cls:=.type "list",dict:=dd,data:=.seq items2 n2,slots:=sl }∧R (.ok (.ret Value.none)) { s with heap:=s.heap.update l (Obj.mapSeq fun x=>x++items2),toks:=s.toks }) :=
 .of_wp fun prog w A R s h=>by
  obtain ⟨hp,g,d,tk,os⟩:=s;obtain ⟨hl,hb,h⟩:=h;have f1:=idx_int;have f2:=sub_tuple_tuple;have f3:=sub_list_list;have f4:=sub_tuple_list;have f5:=sub_list_tuple;
  have hz':(items++items2).size≤sizeLine+1:=by rw [Array.size_append];exact hs2
  wp_walk using (wpAny_updateSeq hl rfl (hz:=hc1) (_hz':=hz')),wpAny_loadPart' hl,wpAny_loadPart' hb;exact ⟨_,rfl,h⟩
theorem nS (l:Addr) (items:Array Value) (n:Nat) (b:Addr) (items2:Array Value) (n2:Nat) (dd:Option Addr) (sl:Array (Option Value)) (hc0:¬(!items.isEmpty&&Builtin.List.listTooLong (items.size+items2.size))=true) (hc1:items.size≤sizeLine) (hs2:items.size+items2.size≤sizeLine+1) :
  Meets (Builtin.«list.extend» ⟨[.ref l,.ref b],[]⟩) (fun _ R s=>s.heap.get? l=some { cls:=.type "list",dict:=none,data:=.seq items n,slots:=#[] }∧s.heap.get? b=some { cls:=.type "tuple",dict:=dd,data:=.seq items2 n2,slots:=sl }∧R (.ok (.ret Value.none)) { s with heap:=s.heap.update l (Obj.mapSeq fun x=>x++items2),toks:=s.toks }) :=
 .of_wp fun prog w A R s h=>by
  obtain ⟨hp,g,d,tk,os⟩:=s;obtain ⟨hl,hb,h⟩:=h;have f1:=idx_int;have f2:=sub_tuple_tuple;have f3:=sub_list_list;have f4:=sub_tuple_list;have f5:=sub_list_tuple;
  have hz':(items++items2).size≤sizeLine+1:=by rw [Array.size_append];exact hs2
  wp_walk using (wpAny_updateSeq hl rfl (hz:=hc1) (_hz':=hz')),wpAny_loadPart' hl,wpAny_loadPart' hb;exact ⟨_,rfl,h⟩
end LX
namespace L2
open PySem PySem.Spec PyProof.Rows
section
variable {X:Cx}
noncomputable def rExtendA (K:PySem.W.Frag):V→List V→Hp→VK→Prop:=fun x vs H Q=>∃ l b xs zs,x=.ref l∧vs=[.ref b]∧H l=some (.lst xs)∧(SqL K H b zs∨SqT K H b zs)∧xs.length+zs.length≤sizeLine∧Q .non (upd H l (.lst (xs++zs)))
theorem rJ:MtM X "list.extend" (rExtendA X.K):=by
 intro pins s σ H x vs v us Q I rx rv h
 obtain ⟨l,b,xs,zs,rfl,rfl,hH,hB,hz,q⟩:=h
 cases rx
 obtain ⟨u,rfl,ru⟩:=rv.one
 cases ru
 obtain ⟨z,its,n,r,hl,e⟩:=I.lstM hH
 rcases hB with hB|hB
 ·obtain ⟨its2,r2,pl,hz2⟩:=I.list hB
  obtain ⟨⟨cls,dd,data,sl⟩,ho,hc,n2,hd⟩:=pl.isList
  simp only at hc hd
  subst hc hd
  have hl2:=r2.length
  have hsz:its.toArray.size+its2.toArray.size≤sizeLine:=by rw [List.size_toArray,List.size_toArray];omega
  have hlong:¬ (!its.toArray.isEmpty&&Builtin.List.listTooLong (its.toArray.size+its2.toArray.size))=true:=by
   rw [notLongL hsz,Bool.and_false]
   exact Bool.false_ne_true
  refine call_meets F.slot_list_extend ⟨_,e,rfl⟩ F.entry_list_extend (F.args_list_extend_2 _ _) (LX.extend_list l its.toArray n b its2.toArray n2 dd sl hlong (by rw [List.size_toArray];omega) (by omega)) ⟨e,ho,?_⟩
  refine ⟨.non,_,I.lset (its':=its++its2) hH e (by simp) (r.append r2) ?_,rfl,q⟩
  rw [List.length_append]
  omega
 ·obtain ⟨its2,r2,pl,hz2⟩:=I.tuple hB
  obtain ⟨⟨cls,dd,data,sl⟩,ho,hc,n2,hd⟩:=pl
  simp only at hc hd
  subst hc hd
  have hl2:=r2.length
  have hsz:its.toArray.size+its2.toArray.size≤sizeLine:=by rw [List.size_toArray,List.size_toArray];omega
  have hlong:¬ (!its.toArray.isEmpty&&Builtin.List.listTooLong (its.toArray.size+its2.toArray.size))=true:=by
   rw [notLongL hsz,Bool.and_false]
   exact Bool.false_ne_true
  refine call_meets F.slot_list_extend ⟨_,e,rfl⟩ F.entry_list_extend (F.args_list_extend_2 _ _) (LX.nS l its.toArray n b its2.toArray n2 dd sl hlong (by rw [List.size_toArray];omega) (by omega)) ⟨e,ho,?_⟩
  refine ⟨.non,_,I.lset (its':=its++its2) hH e (by simp) (r.append r2) ?_,rfl,q⟩
  rw [List.length_append]
  omega
end
section
variable {X:Cx} {W:Wd} {Ob O:List Nat} {e f:Expr} {ε φ ψ:FE} {pos p1 p2 apos cpos:Pos} {x:Str}
noncomputable def seqOf (d:D):Option (List D):=match d with
 | .lst ys=>some ys
 | .tup ys=>some ys
 | _=>none
noncomputable def kG (i:Nat) (ε:FE):FS:=fun δ=>match δ[i]? with
 | some (some (.lst xs))=>(ε δ).bind fun d=>match seqOf d with
  | some ys=>if xs.length+ys.length≤1000000 then .ok (.nx (δ.set i (some (.lst (xs++ys))))) else .no
  | none=>.no
 | _=>.no
theorem rX {K:PySem.W.Frag} {H:Hp} {d:D} {ys:List D} {v:V} (h:Den K H d v) (e:seqOf d=some ys):∃ b zs,v=.ref b∧(SqL K H b zs∨SqT K H b zs)∧Dens K H ys zs:=by
 cases d with
 | lst xs=>cases e;obtain ⟨a,vs,rfl,h1,h2⟩:=h;exact ⟨a,vs,rfl,.inl h1,h2⟩
 | tup xs=>cases e;obtain ⟨a,vs,rfl,h1,h2⟩:=h;exact ⟨a,vs,rfl,.inr h1,h2⟩
 | _=>cases e
theorem rV {i:Nat} (hi:i∈O) (he:JE X e (tD W O ε)) (hN:X.N[i]?=some x:=by rfl) (hn:noStar e=true:=by rfl) (hline:(apos.endLine==cpos.line)=true:=by rfl) (hv:Vis X.env.scope x:=by first|exact Or.inl rfl|exact Or.inr (Or.inl rfl)|exact Or.inr (Or.inr rfl)) (hd:(x==("__debug__":Str))=false:=by decide)
  (hcd:(x==("__classdict__":Str))=false:=by decide) (hbase:attributeBase (.Name x p1) "extend" X.env (eval (.Name x p1) X.env)=eval (.Name x p1) X.env:=by rfl)
  (hs:swapsWith (.Call (.Attribute (.Name x p1) "extend" apos) [e] [] cpos) none pos.line X.env=pure false:=by rfl) (hW:W.K=X.K:=by rfl) :
  JS X (.Expr (.Call (.Attribute (.Name x p1) "extend" apos) [e] [] cpos) pos) (sD W Ob O O (kG i ε)) :=
 (oG (AB PySem.F.plainAttrs_list PySem.F.slot_list_extend PySem.F.type_list_extend rJ (jv i hN hv hd hcd) (oU he sV hn) hbase hline (by rw [List.all_cons,hn];rfl) (by show 1 < 29;decide)) hs).imp fun D σ H hh=>exE hh fun as0 B own δ I h=>by
  obtain ⟨a,ha⟩:=c6 I.olen hi
  obtain ⟨d,o,h1,h2,h3,h4⟩:=I.owns i a ha
  show kVar σ[i]? H (fun x H1=>tyV X.K "list" x H1∧tD W O ε σ H1 fun v H2=>rExtendA X.K x [v] H2 (fun _ H3=>D.nx σ H3))
  rw [h2]
  unfold kG at h
  rw [h1] at h
  cases d with
  | lst ds =>
   obtain ⟨xs,rfl,q⟩:=h4
   refine ⟨.inl ⟨rfl,xs,SqL.of h3⟩,as0,B,own,δ,I,ci I h fun y v H2 s2 d2 hq=>?_⟩
   cases ey:seqOf y with
   | none=>rw [ey] at hq;exact hq.elim
   | some ys =>
    rw [ey] at hq
    have hq:FitsS W as0 B Ob O (if ds.length+ys.length≤1000000 then .ok (.nx (δ.set i (some (.lst (ds++ys))))) else .no) D:=hq
    split at hq
    ·rename_i hl
     obtain ⟨b,zs,rfl,hb,hz⟩:=rX d2 ey
     have hm:=million
     refine ⟨a,b,xs,zs,rfl,rfl,s2 _ _ h3,?_,?_,?_⟩
     ·rw [hW] at hb
      exact hb.imp (fun z=>(aA _ _).seq z) fun z=>(aA _ _).seqT z
     ·have:=q.len;have:=hz.len;omega
     ·exact hq own σ _ ((I.mono s2).mutate ha ⟨xs++zs,rfl,(q.mono (aG s2)).append hz⟩)
    ·exact hq.elim
  | _=>exact h.elim
end
section
variable {X:Cx} {W:Wd}
end
end L2
namespace L2
open PySem PySem.Spec PyProof.Rows
section
variable {X:Cx} {W:Wd} {O:List Nat}
noncomputable def aX (z:Str) (ds:List D):R D:=match ds with
 | [.str y]=>if (y.length==0)=false∧z.length≤1000000 then .ok (.tup [.str (Txt.partition z y).1,.str (Txt.partition z y).2.1,.str (Txt.partition z y).2.2]) else .no
 | _=>.no
end
section
variable {X:Cx} {tg:Expr} {W:Wd} {O:List Nat}
end
end L2
namespace L2
open PySem PySem.NumText
end L2
namespace L2
end L2
namespace L2
open PySem PySem.Builtin PySem.Builtin.Str
end L2
namespace L2
open PySem
end L2
namespace L2
open PySem PySem.Spec PyProof.Rows
structure Nw (X:Cx) (pins:List (Addr×Obj)) (b:Addr):Prop where
 base:X.s₀.heap.get? b=none
 loc:b≠X.env.locals
 fs:b∉X.fs
 cell:∀ x c,X.env.cells.lookup x=some c→c≠b
 pin:∀ p∈X.pn++pins,p.1≠b
section
variable {X:Cx} {pins:List (Addr×Obj)} {σ:St} {H:Hp} {s:Shared}
noncomputable def ExPn (X:Cx):Prop:=∀ b∈X.ex,∃ o,(b,o)∈X.pn
theorem ExPn.nil (h:X.ex=[]):ExPn X:=fun b z=>by rw [h] at z;cases z
end
end L2
namespace L2
open PySem PySem.Spec PyProof.Rows
section
variable {P:Program} {w:World} {K:PySem.W.Frag} {mg:Str→Option Value} {base:Heap}
end
section
variable {X:Cx} {pins:List (Addr×Obj)} {σ:St} {H:Hp} {s s':Shared} {E:XK} {e:Value}
end
section
variable {X:Cx} {x:Str} {st:Stmt} {ps:List Str} {f:Addr} {fd:FuncData} {j k:Nat} {sp:Sp} {p pos:Pos} {e:Expr} {es:List Expr} {t:TA} {E:XK}
end
section
variable {X:Cx} {E:XK}
end
end L2
namespace L2
open PySem PySem.Spec PyProof.Rows
section
variable {P:Program} {w:World} {K:PySem.W.Frag} {mg:Str→Option Value} {base:Heap}
end
section
variable {X:Cx} {K:PySem.W.Frag} {mg:Str→Option Value} {E:XK} {O:List Nat} {x:Str} {st:Stmt} {ps:List Str} {f:Addr} {fd:FuncData} {j k:Nat} {F:List D→R D} {p pos:Pos} {e:Expr} {es:List Expr} {α:FA}
variable {Ob O':List Nat} {cn:Str} {C:Addr} {np cpos:Pos}
end
section
variable {X:Cx} {W:Wd} {O:List Nat} {φ:FE}
end
end L2
namespace L2
open PySem PySem.Spec PyProof.Rows
section
variable {X:Cx} {osc:Scope} {ON N:List Str} {ix:List (Option Nat)} {scope:Scope} {tg elt iter:Expr} {ifs:List Expr} {pos:Pos} {wi:TI} {g:TG} {tt:TT} {te:TE}
end
section
variable {X:Cx} {W Wb:Wd} {O:List Nat} {osc:Scope} {ON N:List Str} {ix:List (Option Nat)} {scope:Scope} {tg elt iter:Expr} {ifs:List Expr} {pos:Pos} {ι:FA} {t:TgD} {τ:FT} {ε:FE}
end
end L2
namespace L2
open PySem PySem.Spec PyProof.Rows
section
variable {X:Cx} {x:Str} {st:Stmt} {ps:List Str} {f:Addr} {fd:FuncData} {j k:Nat} {sp:Sp} {p pos:Pos} {e:Expr} {es:List Expr} {t:TA} {E:XK}
end
section
variable {X:Cx} {pins:List (Addr×Obj)} {σ:St} {H:Hp} {s:Shared} {e:Value}
end
end L2
namespace L2
open PySem PySem.Spec PyProof.Rows
section
variable {X:Cx} {pins:List (Addr×Obj)} {σ:St} {H:Hp} {s:Shared}
theorem Inv.track {y:Addr} {o:HO} (I:Inv X pins σ H s) (n:Nw X pins y) (hy:H y=none) (new:ObjOk X.prog X.w (upd H y o) s.heap y o):Inv X pins σ (upd H y o) s:=by
 have hs:Same H (upd H y o):=aZ hy o
 refine ⟨I.ok,I.os,I.bare,⟨I.base.keep,I.base.slot,fun b ob e n0 hx=>?_,I.base.there,fun b xs e=>hs _ _ (I.base.tups b xs e),fun b ob u e=>hs _ _ (I.base.frzs b ob u e),fun b ps e=>?_⟩,I.loc,I.cell,?_,fun x c e=>?_,fun p hp=>?_,fun a u e=>?_,I.len,I.tk⟩
 ·have:b≠y:=fun z=>by rw [z,n.base] at e;cases e
  rw [aR this];exact I.base.free b ob e n0 hx
 ·obtain ⟨more,q⟩:=I.base.tbls b ps e;exact ⟨more,hs _ _ q⟩
 ·rw [aR (Ne.symm n.loc)];exact I.free
 ·rw [aR (n.cell x c e)];exact I.freeC x c e
 ·obtain ⟨h1,h2,h3⟩:=I.pin p hp
  exact ⟨h1,by rw [aR (n.pin p hp)];exact h2,h3⟩
 ·by_cases ha:a=y
  ·subst ha
   have e':u=o:=by unfold upd at e;rw [if_pos rfl] at e;exact (Option.some.inj e).symm
   rw [e'];exact new
  ·rw [aR ha] at e
   exact (I.hok a u e).stay (fun _ _ _ q=>q) (fun b q=>hs _ _ q) fun b xs q=>hs _ _ q
end
section
variable {X:Cx} {pins:List (Addr×Obj)} {σ:St} {H:Hp} {s:Shared} {Q:Flow→Shared→Prop} {y C CT:Addr} {T:Str} {tp hpos:Pos} {b₀:Stmt} {bs:List Stmt}
end
end L2
namespace L2
open PySem PySem.Spec PyProof.Rows
section
variable {as0 own:List Addr} {B H:Hp} {Ob O O':List Nat} {σ:St} {δ:Sd} {D':Ends}
end
section
variable {X:Cx} {K:PySem.W.Frag} {mg:Str→Option Value} {E1:XK} {Ob O O':List Nat} {fn:Str} {st:Stmt} {ps:List Str} {f:Addr} {fd:FuncData} {j k i n:Nat} {F:List D→R D} {p pos apos xp tp hpos tpos:Pos} {e:Expr} {es:List Expr} {α:FA} {x T nm:Str} {CT:Addr} {mt:Str→Bool}
 {b₀:Stmt} {bs:List Stmt} {ψ:FS}
end
end L2
namespace L2
open PySem PySem.Spec PySem.W PyProof.Rows
section
variable {prog:Program} {w:World} {A:Around} {E:Value→Shared→Prop} {s:Shared} {K:Frag} {x C:Addr} {ox:Obj}
end
end L2
namespace L2
open PySem PySem.Spec PyProof.Rows
section
variable {X:Cx} {W:Wd}
end
end L2
namespace L2
open PySem PySem.Spec PyProof.Rows
section
variable {K:PySem.W.Frag} {mg:Str→Option Value}
end
end L2
namespace L2
open PySem PySem.Spec PyProof.Rows
end L2
namespace L2
open PySem PySem.Spec PyProof.Rows
structure RoomU (k:Nat) (A:Around):Prop where
 dp:A.depth+3*k+5 < recursionLimit
 un:A.units+16*k+200 < cLine
theorem RoomU.depth {k:Nat} {A:Around} (r:RoomU k A):A.depth < recursionLimit:=by have:=r.dp;omega
theorem RoomU.units {k:Nat} {A:Around} (r:RoomU k A):A.units+64 < cLine:=by have:=r.un;omega
theorem Room.u {k:Nat} {A:Around} (r:Room k A) (e:Value):RoomU k (A.mark (some e)):=⟨r.dp,r.un⟩
section
variable {P:Program} {w:World} {K:PySem.W.Frag} {mg:Str→Option Value} {base:Heap}
end
section
variable {X:Cx} {K:PySem.W.Frag} {mg:Str→Option Value} {O:List Nat} {x:Str} {st:Stmt} {ps:List Str} {f:Addr} {fd:FuncData} {j k:Nat} {F:List D→R D} {p pos:Pos} {e:Expr} {es:List Expr} {α:FA}
end
end L2
namespace L2
open PySem PySem.Spec PyProof.Rows
section
variable {X:Cx} {K:PySem.W.Frag} {mg:Str→Option Value} {O:List Nat}
variable {E1:XK} {Ob:List Nat} {n:Nat} {tp hpos tpos:Pos} {T nm:Str} {CT:Addr} {mt:Str→Bool} {c₀ b₀:Stmt} {cs bs:List Stmt} {φ ψ:FS}
end
end L2
namespace L2
open PySem PySem.Spec PyProof.Rows
section
variable {X:Cx} {W:Wd} {O:List Nat} {es:List Expr} {α:FA}
end
end L2
namespace L2
open PySem PySem.Spec PyProof.Rows
section
variable {X:Cx} {W:Wd}
end
section
variable {X:Cx} {K:PySem.W.Frag} {mg:Str→Option Value} {O:List Nat}
variable {E1:XK} {Ob:List Nat} {tp hpos tpos rpos:Pos} {T:Str} {CT:Addr} {mt:Str→Bool} {b₀:Stmt} {bs:List Stmt} {φ:FE} {ψ:FS} {e:Expr}
end
end L2
namespace L2
open PySem PySem.Spec PyProof.Rows
section
variable {X:Cx} {W:Wd} {Ob O:List Nat} {e:Expr} {ε:FE} {pos:Pos}
noncomputable def augK (i:Nat) (δ:Sd) (a:Int) (d:D):R Fl:=match d with
 | .int b=>.ok (.nx (δ.set i (some (.int (a+b)))))
 | _=>.no
noncomputable def sAugAdd (i:Nat) (ε:FE):FS:=fun δ=>match δ[i]? with
 | some (some (.int a))=>(ε δ).bind (augK i δ a)
 | _=>.no
theorem rY {i:Nat} {x:Str} {pos':Pos} (hO:i∉O) (hN:X.N.Nodup) (hx:Loc X.env.scope x) (he:JE X e (tD W O ε)) (hi:X.N[i]?=some x:=by rfl) (hf:X.fn x=true∨X.env.scope.names.lookup x=some .local:=by first|exact .inl rfl|exact .inr rfl|assumption) :
  JS X (.AugAssign (.Name x pos') .Add e pos) (sD W Ob O O (sAugAdd i ε)) :=
 (JS.mk (yq hN hi hx he.out xE hf)).imp fun D' σ H hh=>exE hh fun as0 B own δ I h=>by
  unfold sAugAdd at h
  split at h
  ·rename_i a ha
   obtain ⟨v,hv,dv⟩:=I.var i _ hO ha
   cases dv
   refine ⟨.int a,hv,as0,B,own,δ,I,ci I h fun d v H' s dv' h'=>?_⟩
   unfold augK at h'
   split at h'
   ·cases dv'
    exact ⟨_,_,rfl,rfl,h' own _ H' ((I.mono s).set hO rfl)⟩
   ·exact h'.elim
  ·exact h.elim
theorem Ap {i:Nat} {δ:Sd}:sAugAdd i ε δ=(match δ[i]? with|some (some (.int a))=>(ε δ).bind (augK i δ a)|_=>.no):=rfl
end
end L2
namespace TS
open PySem PyProof.Rows
theorem aq {m q:Nat} (h:1≤m):m - (q+1)+m - 1 - (m - 1)≤m - 1:=by
 rw [Nat.add_sub_assoc h,Nat.add_sub_cancel]
 exact Nat.sub_le_sub_left (Nat.succ_le_succ (Nat.zero_le q)) m
theorem bz {k x l r m:Nat} (h:r - l≤k - x) (hm:l≤m):r - (m+1)≤k - (x+1):=Nat.le_trans (Nat.sub_le_sub_left (Nat.add_le_add_right hm 1) r) (by rw [← Nat.sub_sub r l 1,← Nat.sub_sub k x 1];exact Nat.sub_le_sub_right h 1)
theorem bw {k x l r m:Nat} (h:r - l≤k - x) (hm:m < r):m - l≤k - (x+1):=Nat.le_trans (Nat.sub_le_sub_right (Nat.le_pred_of_lt hm) l) (by rw [Nat.pred_eq_sub_one,Nat.sub_right_comm,← Nat.sub_sub k x 1];exact Nat.sub_le_sub_right h 1)
theorem bf {o t l:Nat} (h:l < o) (g:l≤t):t+1 - min o (t+1)≤t - l:=Nat.le_trans (Nat.sub_le_sub_left (Nat.le_min.mpr ⟨h,Nat.succ_le_succ g⟩) _) (Nat.le_of_eq (Nat.add_sub_add_right t 1 l))
noncomputable def gallopP:Bool→Keyed→Array Keyed→Nat→Nat→Nat→StateT SortSt Sem (Option Nat):=sortPriv% PySem.Builtin.gallop
structure Orc (M:Model) (A:Around) (E:Value→Shared→Prop) (s:Shared) (blt:Keyed→Keyed→Bool) (k₀:SortKind) (In:Keyed→Prop):Prop where
 asymm:∀ x y,blt x y=true→blt y x=false
 trans:∀ x y z,blt y x=false→blt z y=false→blt z x=false
 ask:∀ (x y:Keyed) (st:SortSt) (Q:Option Bool→SortSt→Prop),In x→In y→kindOf st=k₀→Q (some (blt x y)) st→wpS M A E s (lt' x y) Q st
section
variable {M:Model} {A:Around} {E:Value→Shared→Prop} {s:Shared} {blt:Keyed→Keyed→Bool} {k₀:SortKind} {In:Keyed→Prop}
theorem Orc.lt_le (O:Orc M A E s blt k₀ In) {x y z:Keyed} (h1:blt y x=false) (h2:blt y z=true):blt x z=true:=by
 cases e:blt x z with
 | true=>rfl
 | false=>rw [O.trans z x y e h1] at h2;cases h2
theorem Orc.le_lt (O:Orc M A E s blt k₀ In) {x y z:Keyed} (h1:blt x y=true) (h2:blt z y=false):blt x z=true:=by
 cases e:blt x z with
 | true=>rfl
 | false=>rw [O.trans y z x h2 e] at h1;cases h1
theorem Orc.refl (O:Orc M A E s blt k₀ In) (x:Keyed):blt x x=false:=by
 cases e:blt x x with
 | false=>rfl
 | true=>rw [O.asymm x x e] at e;cases e
theorem aN {arr:Array Keyed} {i:Nat} {Q:Keyed→SortSt→Prop} {st:SortSt} (h:i < arr.size) (hq:Q arr[i] st):wpS M A E s (elem' arr i) Q st:=by
 rw [elem'_eq,getElem?_pos arr i h]
 exact wpS_pure hq
noncomputable def bey (blt:Keyed→Keyed→Bool) (left:Bool) (key x:Keyed):Bool:=if left=true then blt x key else !(blt key x)
noncomputable def Seg (blt:Keyed→Keyed→Bool) (arr:Array Keyed) (lo hi:Nat):Prop:=∀ i j (hi':i < arr.size) (hj:j < arr.size),lo≤i→i≤j→j < hi→blt arr[j] arr[i]=false
theorem uV (O:Orc M A E s blt k₀ In) {left:Bool} {key x y:Keyed} (h:blt y x=false) (hy:bey blt left key y=true):bey blt left key x=true:=by
 unfold bey at hy ⊢
 cases left with
 | true=>rw [if_pos rfl] at hy ⊢;exact O.lt_le h hy
 | false =>
  rw [if_neg Bool.false_ne_true] at hy ⊢
  have hy:blt key y=false:=by cases e:blt key y <;> rw [e] at hy <;> first|rfl|cases hy
  rw [O.trans x y key h hy];rfl
theorem nh (O:Orc M A E s blt k₀ In) {left:Bool} {key:Keyed} {arr:Array Keyed} {i:Nat} {Q:Option Bool→SortSt→Prop} {st:SortSt} (hi:i < arr.size) (hk:In key) (ha:∀ j (h:j < arr.size),In arr[j]) (hs:kindOf st=k₀) (hq:Q (some (bey blt left key arr[i])) st) :
  wpS M A E s (do let x ← elem' arr i;if left=true then lt' x key else do let r ← lt' key x;pure (r.map fun x=>!x)) Q st:=by
 refine wpS_bind (aN hi ?_)
 cases left with
 | true =>
  rw [if_pos rfl]
  exact O.ask _ _ _ _ (ha i hi) hk hs hq
 | false =>
  rw [if_neg Bool.false_ne_true]
  exact wpS_bind (O.ask _ _ _ _ hk (ha i hi) hs (wpS_pure hq))
theorem cU (O:Orc M A E s blt k₀ In) {left:Bool} {key:Keyed} {arr:Array Keyed} {base n hint:Nat} {Q:Option Nat→SortSt→Prop} {st:SortSt} (hb:base+n≤arr.size) (hh:hint < n) (hk:In key) (ha:∀ j (h:j < arr.size),In arr[j]) (hst:kindOf st=k₀) (hsg:Seg blt arr base (base+n))
  (hq:∀ k,k≤n→(∀ i (h:base+i < arr.size),i < k→bey blt left key arr[base+i]=true)→(∀ i (h:base+i < arr.size),k≤i→i < n→bey blt left key arr[base+i]=false)→Q (some k) st) :
  wpS M A E s (gallopP left key arr base n hint) Q st:=by
 have up:∀ i j (h1:base+i < arr.size) (h2:base+j < arr.size),i≤j→j < n→bey blt left key arr[base+j]=true→bey blt left key arr[base+i]=true:=fun i j h1 h2 hij hj h=>uV O (hsg _ _ h1 h2 (by first|exact bf (by assumption) (by assumption)|lia) (by first|exact bf (by assumption) (by assumption)|lia) (by first|exact bf (by assumption) (by assumption)|lia)) h
 have dn:∀ i j (h1:base+i < arr.size) (h2:base+j < arr.size),i≤j→j < n→bey blt left key arr[base+i]=false→bey blt left key arr[base+j]=false:=fun i j h1 h2 hij hj h=>by
  cases e:bey blt left key arr[base+j] with
  | false=>rfl
  | true=>rw [up i j h1 h2 hij hj e] at h;cases h
 -- the last search
 have last:∀ (lo hi:Nat),lo≤hi→hi≤n→(∀ i (h:base+i < arr.size),i < lo→bey blt left key arr[base+i]=true)→(∀ i (h:base+i < arr.size),hi≤i→i < n→bey blt left key arr[base+i]=false) →
   ∀ (f:Nat→Option (Option Nat)×Nat×Nat→StateT SortSt Sem (ForInStep (Option (Option Nat)×Nat×Nat))),
   (∀ (x lo hi:Nat) (R:ForInStep (Option (Option Nat)×Nat×Nat)→SortSt→Prop),hi≤n→(lo ≥ hi→R (.done (none,lo,hi)) st) →
    (∀ hm:base+(lo+(hi - lo)/2) < arr.size,lo < hi→bey blt left key arr[base+(lo+(hi - lo)/2)]=true→R (.yield (none,lo+(hi - lo)/2+1,hi)) st) →
    (∀ hm:base+(lo+(hi - lo)/2) < arr.size,lo < hi→bey blt left key arr[base+(lo+(hi - lo)/2)]=false→R (.yield (none,lo,lo+(hi - lo)/2)) st)→wpS M A E s (f x (none,lo,hi)) R st) →
   ∀ g:Option (Option Nat)×Nat×Nat→StateT SortSt Sem (Option Nat),(∀ lo hi,g (none,lo,hi)=pure (some hi))→wpS M A E s (forIn [0:n] (none,lo,hi) f >>= g) Q st:=by
  intro lo hi hlh hin hlo hhi f hf g hg
  refine wpS_bind (wpS_mono (wpS_forRange (I:=fun x c st'=>st'=st∧∃ lo hi,c=(none,lo,hi)∧lo≤hi∧hi≤n∧hi - lo≤n - x∧(∀ i (h:base+i < arr.size),i < lo→bey blt left key arr[base+i]=true)∧(∀ i (h:base+i < arr.size),hi≤i→i < n→bey blt left key arr[base+i]=false))
   (Q:=fun c st'=>st'=st∧∃ lo hi,c=(none,lo,hi)∧lo=hi∧hi≤n∧(∀ i (h:base+i < arr.size),i < lo→bey blt left key arr[base+i]=true)∧(∀ i (h:base+i < arr.size),hi≤i→i < n→bey blt left key arr[base+i]=false)) ?step ?fin ⟨rfl,lo,hi,rfl,hlh,hin,by first|exact bf (by assumption) (by assumption)|lia,hlo,hhi⟩) ?post)
  case fin =>
   rintro c st' ⟨rfl,lo,hi,rfl,h1,h2,h3,h4,h5⟩
   exact ⟨rfl,lo,hi,rfl,by first|exact bf (by assumption) (by assumption)|lia,h2,h4,h5⟩
  case post =>
   rintro c st' ⟨rfl,lo,hi,rfl,rfl,h2,h4,h5⟩
   rw [hg]
   exact wpS_pure (hq lo h2 h4 h5)
  case step =>
   rintro x c st' _ hx ⟨rfl,lo,hi,rfl,h1,h2,h3,h4,h5⟩
   refine hf x lo hi _ h2 (fun hge=>⟨rfl,lo,hi,rfl,by first|exact bf (by assumption) (by assumption)|lia,h2,h4,h5⟩) (fun hm hl e=>?_) fun hm hl e=>?_
   ·exact ⟨rfl,lo+(hi - lo)/2+1,hi,rfl,by first|exact bf (by assumption) (by assumption)|lia,h2,by first|exact bf (by assumption) (by assumption)|lia,fun i h hi'=>up i _ h hm (by first|exact bf (by assumption) (by assumption)|lia) (by first|exact bf (by assumption) (by assumption)|lia) e,h5⟩
   ·exact ⟨rfl,lo,lo+(hi - lo)/2,rfl,by first|exact bf (by assumption) (by assumption)|lia,by first|exact bf (by assumption) (by assumption)|lia,by first|exact bf (by assumption) (by assumption)|lia,h4,fun i h h1' h2'=>dn _ i hm h h1' h2' e⟩
 refine wpS_bind (nh O (i:=base+hint) (by first|exact bf (by assumption) (by assumption)|lia) hk ha hst ?_)
 dsimp only
 cases e:bey blt left key arr[base+hint] with
 | true =>
  rw [if_pos rfl]
  refine wpS_bind (wpS_mono (wpS_forRange (I:=fun x c st'=>st'=st∧∃ lastofs ofs,c=(none,lastofs,ofs)∧lastofs < ofs∧x+1≤ofs∧hint+lastofs < n∧(∀ h:base+(hint+lastofs) < arr.size,bey blt left key arr[base+(hint+lastofs)]=true))
   (Q:=fun c st'=>st'=st∧∃ lastofs ofs,c=(none,lastofs,ofs)∧lastofs < ofs∧hint+lastofs < n∧(∀ h:base+(hint+lastofs) < arr.size,bey blt left key arr[base+(hint+lastofs)]=true)∧(n - hint≤ofs∨∀ h:base+(hint+ofs) < arr.size,bey blt left key arr[base+(hint+ofs)]=false)) ?step ?fin ⟨rfl,0,1,rfl,by first|exact bf (by assumption) (by assumption)|lia,by first|exact bf (by assumption) (by assumption)|lia,by first|exact bf (by assumption) (by assumption)|lia,fun _=>e⟩) ?post)
  case fin =>
   rintro c st' ⟨rfl,l,o,rfl,h1,h2,h3,h4⟩
   exact ⟨rfl,l,o,rfl,h1,h3,h4,.inl (by first|exact bf (by assumption) (by assumption)|lia)⟩
  case step =>
   rintro x c st' _ hx ⟨rfl,l,o,rfl,h1,h2,h3,h4⟩
   dsimp only
   by_cases hge:o ≥ n - hint
   ·rw [if_pos hge]
    exact wpS_pure ⟨rfl,l,o,rfl,h1,h3,h4,.inl hge⟩
   ·rw [if_neg hge]
    have hm:base+(hint+o) < arr.size:=by first|exact bf (by assumption) (by assumption)|lia
    refine wpS_bind (nh O hm hk ha hst ?_)
    cases e2:bey blt left key arr[base+(hint+o)] with
    | true =>
     simp only [Bool.not_true,Bool.false_eq_true,if_false]
     exact wpS_pure ⟨rfl,o,2*o+1,rfl,by first|exact bf (by assumption) (by assumption)|lia,by first|exact bf (by assumption) (by assumption)|lia,by first|exact bf (by assumption) (by assumption)|lia,fun _=>e2⟩
    | false =>
     simp only [Bool.not_false,if_true]
     exact wpS_pure ⟨rfl,l,o,rfl,h1,h3,h4,.inr fun _=>e2⟩
  case post =>
   rintro c st' ⟨rfl,l,o,rfl,h1,h3,h4,h5⟩
   dsimp only
   refine last (hint+l+1) (hint+min o (n - hint)) (by first|exact bf (by assumption) (by assumption)|lia) (by first|exact bf (by assumption) (by assumption)|lia) (fun i h hi=>up i (hint+l) h (by first|exact bf (by assumption) (by assumption)|lia) (by first|exact bf (by assumption) (by assumption)|lia) h3 (h4 (by first|exact bf (by assumption) (by assumption)|lia))) (fun i h h1' h2'=>?_) _ ?hf _ ?hg
   case hf =>
    intro x lo hi R hin h1 h2 h3
    dsimp only
    by_cases hge:lo ≥ hi
    ·rw [if_pos hge];exact wpS_pure (h1 hge)
    ·rw [if_neg hge]
     have hm:base+(lo+(hi - lo)/2) < arr.size:=by first|exact bf (by assumption) (by assumption)|lia
     refine wpS_bind (nh O hm hk ha hst ?_)
     cases e:bey blt left key arr[base+(lo+(hi - lo)/2)] with
     | true=>simp only [if_true];exact wpS_pure (h2 hm (by first|exact bf (by assumption) (by assumption)|lia) e)
     | false=>simp only [Bool.false_eq_true,if_false];exact wpS_pure (h3 hm (by first|exact bf (by assumption) (by assumption)|lia) e)
   case hg=>intro lo hi;rfl
   rcases h5 with h5|h5
   ·lia
   ·by_cases ho:o≤n - hint
    ·exact dn (hint+o) i (by first|exact bf (by assumption) (by assumption)|lia) h (by first|exact bf (by assumption) (by assumption)|lia) h2' (h5 (by first|exact bf (by assumption) (by assumption)|lia))
    ·lia
 | false =>
  rw [if_neg Bool.false_ne_true]
  refine wpS_bind (wpS_mono (wpS_forRange (I:=fun x c st'=>st'=st∧∃ lastofs ofs,c=(none,lastofs,ofs)∧lastofs < ofs∧x+1≤ofs∧lastofs≤hint∧(∀ h:base+(hint - lastofs) < arr.size,bey blt left key arr[base+(hint - lastofs)]=false))
   (Q:=fun c st'=>st'=st∧∃ lastofs ofs,c=(none,lastofs,ofs)∧lastofs < ofs∧lastofs≤hint∧(∀ h:base+(hint - lastofs) < arr.size,bey blt left key arr[base+(hint - lastofs)]=false)∧(hint+1≤ofs∨∀ h:base+(hint - ofs) < arr.size,bey blt left key arr[base+(hint - ofs)]=true)) ?step2 ?fin2 ⟨rfl,0,1,rfl,by first|exact bf (by assumption) (by assumption)|lia,by first|exact bf (by assumption) (by assumption)|lia,by first|exact bf (by assumption) (by assumption)|lia,fun _=>e⟩) ?post2)
  case fin2 =>
   rintro c st' ⟨rfl,l,o,rfl,h1,h2,h3,h4⟩
   exact ⟨rfl,l,o,rfl,h1,h3,h4,.inl (by first|exact bf (by assumption) (by assumption)|lia)⟩
  case step2 =>
   rintro x c st' _ hx ⟨rfl,l,o,rfl,h1,h2,h3,h4⟩
   dsimp only
   by_cases hge:o ≥ hint+1
   ·rw [if_pos hge]
    exact wpS_pure ⟨rfl,l,o,rfl,h1,h3,h4,.inl hge⟩
   ·rw [if_neg hge]
    have hm:base+(hint - o) < arr.size:=by first|exact bf (by assumption) (by assumption)|lia
    refine wpS_bind (nh O hm hk ha hst ?_)
    cases e2:bey blt left key arr[base+(hint - o)] with
    | true =>
     simp only [if_true]
     exact wpS_pure ⟨rfl,l,o,rfl,h1,h3,h4,.inr fun _=>e2⟩
    | false =>
     simp only [Bool.false_eq_true,if_false]
     exact wpS_pure ⟨rfl,o,2*o+1,rfl,by first|exact bf (by assumption) (by assumption)|lia,by first|exact bf (by assumption) (by assumption)|lia,by first|exact bf (by assumption) (by assumption)|lia,fun _=>e2⟩
  case post2 =>
   rintro c st' ⟨rfl,l,o,rfl,h1,h3,h4,h5⟩
   dsimp only
   refine last (hint+1 - min o (hint+1)) (hint - l) (by first|exact bf (by assumption) (by assumption)|lia) (by first|exact bf (by assumption) (by assumption)|lia) (fun i h hi=>?_) (fun i h h1' h2'=>dn (hint - l) i (by first|exact bf (by assumption) (by assumption)|lia) h h1' h2' (h4 (by first|exact bf (by assumption) (by assumption)|lia))) _ ?hf2 _ ?hg2
   case hf2 =>
    intro x lo hi R hin h1 h2 h3
    dsimp only
    by_cases hge:lo ≥ hi
    ·rw [if_pos hge];exact wpS_pure (h1 hge)
    ·rw [if_neg hge]
     have hm:base+(lo+(hi - lo)/2) < arr.size:=by first|exact bf (by assumption) (by assumption)|lia
     refine wpS_bind (nh O hm hk ha hst ?_)
     cases e:bey blt left key arr[base+(lo+(hi - lo)/2)] with
     | true=>simp only [if_true];exact wpS_pure (h2 hm (by first|exact bf (by assumption) (by assumption)|lia) e)
     | false=>simp only [Bool.false_eq_true,if_false];exact wpS_pure (h3 hm (by first|exact bf (by assumption) (by assumption)|lia) e)
   case hg2=>intro lo hi;rfl
   rcases h5 with h5|h5
   ·lia
   ·by_cases ho:o≤hint
    ·exact up i (hint - o) h (by first|exact bf (by assumption) (by assumption)|lia) (by first|exact bf (by assumption) (by assumption)|lia) (by first|exact bf (by assumption) (by assumption)|lia) (h5 (by first|exact bf (by assumption) (by assumption)|lia))
    ·lia
end
end TS
namespace TS
open PySem PyProof.Rows
structure MI (le:Keyed→Keyed→Prop) (tot o ra rb:List Keyed):Prop where
 perm:(o++(ra++rb)).Perm tot
 so:o.Pairwise le
 sa:ra.Pairwise le
 sb:rb.Pairwise le
 bel:∀ x∈o,∀ y,y∈ra∨y∈rb→le x y
noncomputable def Res (le:Keyed→Keyed→Prop) (tot r:List Keyed):Prop:=r.Perm tot∧r.Pairwise le
section
variable {le:Keyed→Keyed→Prop} {tot o ra rb:List Keyed}
theorem ue {xs:List Keyed} (h:xs.Pairwise le) (k:Nat):(xs.take k).Pairwise le∧(xs.drop k).Pairwise le∧∀ x∈xs.take k,∀ y∈xs.drop k,le x y:=by
 have e:=List.take_append_drop k xs
 rw [← e,List.pairwise_append] at h
 exact h
theorem MI.takeA (h:MI le tot o ra rb) (k:Nat) (hk:∀ x∈ra.take k,∀ y∈rb,le x y):MI le tot (o++ra.take k) (ra.drop k) rb:=by
 obtain ⟨p1,p2,p3⟩:=ue h.sa k
 refine ⟨?_,?_,p2,h.sb,fun x hx y hy=>?_⟩
 ·refine List.Perm.trans ?_ h.perm
  rw [List.append_assoc,← List.append_assoc (ra.take k),List.take_append_drop]
 ·rw [List.pairwise_append]
  exact ⟨h.so,p1,fun x hx y hy=>h.bel x hx y (.inl (List.mem_of_mem_take hy))⟩
 ·rcases List.mem_append.mp hx with hx|hx
  ·exact h.bel x hx y (hy.imp List.mem_of_mem_drop id)
  ·rcases hy with hy|hy
   ·exact p3 x hx y hy
   ·exact hk x hx y hy
theorem MI.swap (h:MI le tot o ra rb):MI le tot o rb ra:=⟨(List.perm_append_comm.append_left o).trans h.perm,h.so,h.sb,h.sa,fun x hx y hy=>h.bel x hx y hy.symm⟩
theorem MI.takeB (h:MI le tot o ra rb) (k:Nat) (hk:∀ x∈rb.take k,∀ y∈ra,le x y):MI le tot (o++rb.take k) ra (rb.drop k):=(h.swap.takeA k hk).swap
theorem MI.join (h:MI le tot o ra rb) (hab:∀ x∈ra,∀ y∈rb,le x y):Res le tot (o++ra++rb):=by
 refine ⟨by rw [List.append_assoc];exact h.perm,?_⟩
 rw [List.append_assoc,List.pairwise_append,List.pairwise_append]
 exact ⟨h.so,⟨h.sa,h.sb,hab⟩,fun x hx y hy=>h.bel x hx y (List.mem_append.mp hy)⟩
end
theorem fE (a:Array Keyed) (i j:Nat):(a.extract i j).toList=(a.toList.drop i).take (j - i):=by
 rw [Array.toList_extract,List.extract_eq_drop_take]
theorem j5 (a:Array Keyed) (i:Nat):(a.extract i a.size).toList=a.toList.drop i:=by
 rw [fE,List.take_of_length_le (by simp)]
theorem xI (a:Array Keyed) {i:Nat} (h:i < a.size):a.toList.drop i=a[i]::a.toList.drop (i+1):=by
 rw [List.drop_eq_getElem_cons (by simpa using h)];simp
theorem iU (a:Array Keyed) {i:Nat} (h:i < a.size):(a.toList.drop i).take 1=[a[i]]:=by rw [xI a h];rfl
theorem gQ (a:Array Keyed) (i k:Nat):(a.toList.drop i).drop k=a.toList.drop (i+k):=by rw [List.drop_drop]
theorem bP {a:Array Keyed} {i:Nat} {x:Keyed} (h:x∈a.toList.drop i):∃ j,∃ hj:j < a.size,i≤j∧a[j]=x:=by
 obtain ⟨j,hj,e⟩:=List.getElem_of_mem h
 rw [List.length_drop,Array.length_toList] at hj
 refine ⟨i+j,by omega,by omega,?_⟩
 rw [← e,List.getElem_drop];simp
theorem fw {a:Array Keyed} {i k:Nat} {x:Keyed} (h:x∈(a.toList.drop i).take k):∃ j,∃ hj:j < a.size,i≤j∧j < i+k∧a[j]=x:=by
 obtain ⟨j,hj,e⟩:=List.getElem_of_mem h
 rw [List.length_take,List.length_drop,Array.length_toList] at hj
 refine ⟨i+j,by omega,by omega,by omega,?_⟩
 rw [← e,List.getElem_take,List.getElem_drop];simp
theorem pU {blt:Keyed→Keyed→Bool} {a:Array Keyed} (h:Seg blt a 0 a.size):a.toList.Pairwise fun x y=>blt y x=false:=by
 rw [List.pairwise_iff_getElem]
 intro i j hi hj hij
 rw [Array.length_toList] at hi hj
 simpa using h i j hi hj (by omega) (by omega) hj
end TS
namespace TS
open PySem PyProof.Rows
noncomputable def mergeLoP:Array Keyed→Array Keyed→StateT SortSt Sem (Array Keyed):=sortPriv% PySem.Builtin.mergeLo
noncomputable def mergeHiP:Array Keyed→Array Keyed→StateT SortSt Sem (Array Keyed):=sortPriv% PySem.Builtin.mergeHi
structure SG (st st':SortSt):Prop where
 kind:kindOf st'=kindOf st
 arr:arrOf st'=arrOf st
 pend:pendingOf st'=pendingOf st
 failed:failedOf st'=failedOf st
theorem SG.refl (st:SortSt):SG st st:=⟨rfl,rfl,rfl,rfl⟩
theorem SG.gal {st st':SortSt} (h:SG st st') (g:Nat):SG st (SortSt.mk' (kindOf st') (arrOf st') (pendingOf st') g (failedOf st')):=⟨h.kind,h.arr,h.pend,h.failed⟩
section
variable {M:Model} {A:Around} {E:Value→Shared→Prop} {s:Shared} {blt:Keyed→Keyed→Bool} {k₀:SortKind} {In:Keyed→Prop}
noncomputable abbrev leB (blt:Keyed→Keyed→Bool):Keyed→Keyed→Prop:=fun x y=>blt y x=false
theorem join_list (out x y:Array Keyed):(out++x++y).toList=out.toList++x.toList++y.toList:=by simp
section
variable {a b:Array Keyed}
theorem pushB {out:Array Keyed} {ia ib:Nat} {tot:List Keyed} (h:MI (leB blt) tot out.toList (a.toList.drop ia) (b.toList.drop ib)) (hb:ib < b.size) (hx:∀ j (hj:j < a.size),ia≤j→blt a[j] b[ib]=false) :
  MI (leB blt) tot (out.push b[ib]).toList (a.toList.drop ia) (b.toList.drop (ib+1)):=by
 have:=h.takeB 1 (fun x hx' y hy=>by
  rw [iU b hb] at hx'
  obtain ⟨j,hj,hij,rfl⟩:=bP hy
  rw [List.mem_singleton.mp hx']
  exact hx j hj hij)
 rw [iU b hb,gQ] at this
 simpa using this
theorem pushA {out:Array Keyed} {ia ib:Nat} {tot:List Keyed} (h:MI (leB blt) tot out.toList (a.toList.drop ia) (b.toList.drop ib)) (ha:ia < a.size) (hx:∀ j (hj:j < b.size),ib≤j→blt b[j] a[ia]=false) :
  MI (leB blt) tot (out.push a[ia]).toList (a.toList.drop (ia+1)) (b.toList.drop ib):=by
 have:=h.takeA 1 (fun x hx' y hy=>by
  rw [iU a ha] at hx'
  obtain ⟨j,hj,hij,rfl⟩:=bP hy
  rw [List.mem_singleton.mp hx']
  exact hx j hj hij)
 rw [iU a ha,gQ] at this
 simpa using this
theorem chunkA {out:Array Keyed} {ia ib k:Nat} {tot:List Keyed} (h:MI (leB blt) tot out.toList (a.toList.drop ia) (b.toList.drop ib)) (hx:∀ i (hi:i < a.size) j (hj:j < b.size),ia≤i→i < ia+k→ib≤j→blt b[j] a[i]=false) :
  MI (leB blt) tot (out++a.extract ia (ia+k)).toList (a.toList.drop (ia+k)) (b.toList.drop ib):=by
 have:=h.takeA k (fun x hx' y hy=>by
  obtain ⟨i,hi,h1,h2,rfl⟩:=fw hx'
  obtain ⟨j,hj,h3,rfl⟩:=bP hy
  exact hx i hi j hj h1 h2 h3)
 rw [gQ] at this
 rw [Array.toList_append,fE,show ia+k - ia=k by lia]
 exact this
theorem chunkB {out:Array Keyed} {ia ib k:Nat} {tot:List Keyed} (h:MI (leB blt) tot out.toList (a.toList.drop ia) (b.toList.drop ib)) (hx:∀ i (hi:i < b.size) j (hj:j < a.size),ib≤i→i < ib+k→ia≤j→blt a[j] b[i]=false) :
  MI (leB blt) tot (out++b.extract ib (ib+k)).toList (a.toList.drop ia) (b.toList.drop (ib+k)):=by
 have:=h.takeB k (fun x hx' y hy=>by
  obtain ⟨i,hi,h1,h2,rfl⟩:=fw hx'
  obtain ⟨j,hj,h3,rfl⟩:=bP hy
  exact hx i hi j hj h1 h2 h3)
 rw [gQ] at this
 rw [Array.toList_append,fE,show ib+k - ib=k by lia]
 exact this
end
theorem aw {α:Type} {c:Prop} [Decidable c] {x y:StateT SortSt Sem α} {Q:α→SortSt→Prop} {st:SortSt} (h1:c→wpS M A E s x Q st) (h2:¬ c→wpS M A E s y Q st):wpS M A E s (if c then x else y) Q st:=by
 by_cases h:c
 ·rw [if_pos h];exact h1 h
 ·rw [if_neg h];exact h2 h
theorem qR {key x:Keyed} {r:Bool} (h:bey blt false key x=r):blt key x=!r:=by
 unfold bey at h
 rw [if_neg Bool.false_ne_true] at h
 rw [← h,Bool.not_not]
theorem ly {key x:Keyed} {r:Bool} (h:bey blt true key x=r):blt x key=r:=by
 unfold bey at h
 rw [if_pos rfl] at h
 exact h
theorem qV (O:Orc M A E s blt k₀ In) {a b:Array Keyed} {Q:Array Keyed→SortSt→Prop} {st:SortSt} (hst:kindOf st=k₀) (hA:∀ j (h:j < a.size),In a[j]) (hB:∀ j (h:j < b.size),In b[j]) (sa:Seg blt a 0 a.size) (sb:Seg blt b 0 b.size)
  (ha:0 < a.size) (hb:0 < b.size) (h0:blt b[0] a[0]=true) (hlast:∀ j (h:j < b.size),blt b[j] a[a.size - 1]=true)
  (hq:∀ (r:Array Keyed) st',SG st st'→Res (leB blt) (a.toList++b.toList) r.toList→Q r st'):wpS M A E s (mergeLoP a b) Q st:=by
 have fin1:∀ (out:Array Keyed) (ia ib:Nat),MI (leB blt) (a.toList++b.toList) out.toList (a.toList.drop ia) (b.toList.drop ib)→(ib=b.size∨ia=a.size)→Res (leB blt) (a.toList++b.toList) (out++a.extract ia a.size++b.extract ib b.size).toList:=by
  intro out ia ib h he
  rw [join_list,j5,j5]
  refine h.join fun x hx y hy=>?_
  obtain ⟨i,hi,h1,_⟩:=bP hx
  obtain ⟨j,hj,h2,_⟩:=bP hy
  lia
 have fin2:∀ (out:Array Keyed) (ia ib:Nat),MI (leB blt) (a.toList++b.toList) out.toList (a.toList.drop ia) (b.toList.drop ib)→ia+1=a.size→Res (leB blt) (a.toList++b.toList) (out++b.extract ib b.size++a.extract ia a.size).toList:=by
  intro out ia ib h he
  rw [join_list,j5,j5]
  refine h.swap.join fun x hx y hy=>?_
  obtain ⟨i,hi,h1,rfl⟩:=bP hx
  obtain ⟨j,hj,h2,rfl⟩:=bP hy
  have:j=a.size - 1:=by lia
  subst this
  exact O.asymm _ _ (hlast i hi)
 have mi0:MI (leB blt) (a.toList++b.toList) (#[b[0]]:Array Keyed).toList (a.toList.drop 0) (b.toList.drop (0+1)):=by
  have z:MI (leB blt) (a.toList++b.toList) (#[]:Array Keyed).toList (a.toList.drop 0) (b.toList.drop 0):=⟨List.Perm.refl _,List.Pairwise.nil,pU sa,pU sb,fun x hx=>by cases hx⟩
  have:=pushB z hb (fun j hj _=>O.asymm _ _ (O.le_lt h0 (sa 0 j ha hj (by lia) (by lia) hj)))
  simpa using this
 refine wpS_bind (wpS_lift (wpAny_rule ⟨rfl,?_⟩))
 dsimp only
 refine wpS_bind (aN hb ?_)
 by_cases hb1:1=b.size
 ·rw [if_pos (by simpa using hb1)]
  exact wpS_pure (hq _ _ (SG.refl st) (fin1 _ _ _ mi0 (.inl hb1)))
 rw [if_neg (by simpa using hb1)]
 by_cases ha1:0+1=a.size
 ·rw [if_pos (by simpa using ha1)]
  exact wpS_pure (hq _ _ (SG.refl st) (fin2 _ _ _ mi0 ha1))
 rw [if_neg (by simpa using ha1)]
 refine wpS_bind (wpS_get ?_)
 refine wpS_bind (wpS_mono (wpS_forRange (I:=fun x c st'=>SG st st'∧∃ out ia ib mg,c=(none,out,ia,ib,mg)∧MI (leB blt) (a.toList++b.toList) out.toList (a.toList.drop ia) (b.toList.drop ib)∧ia+1 < a.size∧ib < b.size∧x≤ia+ib)
  (Q:=fun c st'=>SG st st'∧∃ r rest,c=(some r,rest)∧Res (leB blt) (a.toList++b.toList) r.toList) ?step ?fin ⟨SG.refl st,_,0,1,_,rfl,mi0,by lia,by lia,by lia⟩) ?post)
 case post =>
  rintro c st' ⟨hg,r,rest,rfl,hr⟩
  exact wpS_pure (hq r st' hg hr)
 case fin =>
  rintro c st' ⟨hg,out,ia,ib,mg,rfl,hm,h1,h2,h3⟩
  lia
 case step =>
  rintro x c st1 _ hx ⟨hg,out,ia,ib,mg,rfl,hm,h1,h2,h3⟩
  dsimp only
  refine wpS_bind (wpS_mono (wpS_forRange (I:=fun y c st'=>SG st st'∧∃ out ia' ib' ac bc,c=(none,out,ia',ib',ac,bc)∧MI (leB blt) (a.toList++b.toList) out.toList (a.toList.drop ia') (b.toList.drop ib')∧ia'+1 < a.size∧ib' < b.size∧ia+ib+y≤ia'+ib')
   (Q:=fun c st'=>SG st st'∧((∃ r rest,c=(some r,rest)∧Res (leB blt) (a.toList++b.toList) r.toList)∨∃ out ia' ib' ac bc,c=(none,out,ia',ib',ac,bc)∧MI (leB blt) (a.toList++b.toList) out.toList (a.toList.drop ia') (b.toList.drop ib')∧ia'+1 < a.size∧ib' < b.size∧ia+ib+1≤ia'+ib')) ?step1 ?fin1 ⟨hg,out,ia,ib,0,0,rfl,hm,h1,h2,by lia⟩) ?post1)
  case fin1 =>
   rintro c st' ⟨hg,out,ia',ib',ac,bc,rfl,hm,h1,h2,h3⟩
   lia
  case step1 =>
   rintro y c st2 _ hy ⟨hg,out,ia',ib',ac,bc,rfl,hm,h1,h2,h3⟩
   dsimp only
   refine wpS_bind (aN h2 (wpS_bind (aN (show ia' < a.size by lia) ?_)))
   refine wpS_bind (O.ask _ _ _ _ (hB _ _) (hA _ _) (hg.kind.trans hst) ?_)
   dsimp only
   cases e:blt b[ib'] a[ia'] with
   | true =>
    rw [if_pos rfl]
    refine wpS_bind (aN h2 ?_)
    have hm':=pushB hm h2 (fun j hj hij=>O.asymm _ _ (O.le_lt e (sa ia' j (by lia) hj (by lia) hij hj)))
    by_cases hbe:ib'+1=b.size
    ·rw [if_pos (by simpa using hbe)]
     exact wpS_pure ⟨hg,.inl ⟨_,_,rfl,fin1 _ _ _ hm' (.inl hbe)⟩⟩
    ·rw [if_neg (by simpa using hbe)]
     split
     ·exact wpS_pure ⟨hg,.inr ⟨_,_,_,_,_,rfl,hm',h1,by lia,by lia⟩⟩
     ·exact wpS_pure ⟨hg,_,_,_,_,_,rfl,hm',h1,by lia,by lia⟩
   | false =>
    rw [if_neg Bool.false_ne_true]
    refine wpS_bind (aN (show ia' < a.size by lia) ?_)
    have hm':=pushA hm (show ia' < a.size by lia) (fun j hj hij=>O.trans _ _ _ e (sb ib' j h2 hj (by lia) hij hj))
    by_cases hae:ia'+1+1=a.size
    ·rw [if_pos (by simpa using hae)]
     exact wpS_pure ⟨hg,.inl ⟨_,_,rfl,fin2 _ _ _ hm' hae⟩⟩
    ·rw [if_neg (by simpa using hae)]
     split
     ·exact wpS_pure ⟨hg,.inr ⟨_,_,_,_,_,rfl,hm',by lia,h2,by lia⟩⟩
     ·exact wpS_pure ⟨hg,_,_,_,_,_,rfl,hm',by lia,h2,by lia⟩
  case post1 =>
   rintro c st2 ⟨hg,h⟩
   rcases h with ⟨r,rest,rfl,hr⟩|⟨out,ia',ib',ac,bc,rfl,hm,h1,h2,h4⟩
   ·exact wpS_pure ⟨hg,r,_,rfl,hr⟩
   dsimp only
   refine wpS_bind (wpS_lift (wpAny_rule ⟨rfl,?_⟩))
   refine wpS_bind (wpS_mono (wpS_forRange (I:=fun y c st'=>SG st st'∧∃ out ia2 ib2 mg ac bc,c=(none,out,ia2,ib2,mg,ac,bc)∧MI (leB blt) (a.toList++b.toList) out.toList (a.toList.drop ia2) (b.toList.drop ib2)∧ia2+1 < a.size∧ib2 < b.size∧ia'+ib'+y≤ia2+ib2)
    (Q:=fun c st'=>SG st st'∧((∃ r rest,c=(some r,rest)∧Res (leB blt) (a.toList++b.toList) r.toList)∨∃ out ia2 ib2 mg ac bc,c=(none,out,ia2,ib2,mg,ac,bc)∧MI (leB blt) (a.toList++b.toList) out.toList (a.toList.drop ia2) (b.toList.drop ib2)∧ia2+1 < a.size∧ib2 < b.size∧ia'+ib'≤ia2+ib2)) ?step2 ?fin2 ⟨hg,out,ia',ib',_,ac,bc,rfl,hm,h1,h2,by lia⟩) ?post2)
   case fin2 =>
    rintro c st' ⟨hg,out,ia2,ib2,mg,ac,bc,rfl,hm,h1,h2,h3⟩
    lia
   case post2 =>
    rintro c st3 ⟨hg,h⟩
    rcases h with ⟨r,rest,rfl,hr⟩|⟨out,ia2,ib2,mg,ac,bc,rfl,hm,h1,h2,h5⟩
    ·exact wpS_pure ⟨hg,r,_,rfl,hr⟩
    ·dsimp only
     exact wpS_bind (wpS_modify (wpS_pure ⟨hg.gal _,out,ia2,ib2,_,rfl,hm,h1,h2,by lia⟩))
   case step2 =>
    rintro y c st3 _ hy ⟨hg,out,ia2,ib2,mg,ac,bc,rfl,hm,h1,h2,h5⟩
    refine aw (fun _=>?_) (fun _=>?_)
    all_goals
     refine wpS_bind (wpS_modify ?_)
     refine wpS_bind (aN h2 ?_)
     refine wpS_bind (cU O (base:=ia2) (n:=a.size - ia2) (hint:=0) (by lia) (by lia) (hB _ _) hA ((hg.gal _).kind.trans hst) (fun i j hi hj p1 p2 p3=>sa i j hi hj (by lia) p2 hj) fun k hk u1 u2=>?_)
     have hm1:=chunkA (k:=k) hm (fun i hi j hj p1 p2 p3=>O.trans _ _ _ (qR (by have:=u1 (i - ia2) (by lia) (by lia);simpa only [show ia2+(i - ia2)=i by lia] using this)) (sb ib2 j h2 hj (by lia) p3 hj))
     have u3:∀ j (hj:j < a.size),ia2+k≤j→blt b[ib2] a[j]=true:=fun j hj hij=>qR (by have:=u2 (j - ia2) (by lia) (by lia) (by lia);simpa only [show ia2+(j - ia2)=j by lia] using this)
     refine aw (fun hk0=>?_) (fun hk0=>?_)
     ·refine aw (fun hc=>wpS_pure ⟨hg.gal _,.inl ⟨_,_,rfl,fin2 _ _ _ hm1 (by simpa using hc)⟩⟩) (fun hc=>?_)
      refine aw (fun hd=>wpS_pure ⟨hg.gal _,.inl ⟨_,_,rfl,fin1 _ _ _ hm1 (.inr (by simpa using hd))⟩⟩) (fun hd=>?_)
      have hc:ia2+k+1≠a.size:=by simpa using hc
      have hd:ia2+k≠a.size:=by simpa using hd
      have hm3:=hm1
      have u4:=u3
      have h3a:ia2+k < a.size:=by lia
      refine wpS_bind (aN h2 ?_)
      have hm4:=pushB hm3 h2 (fun j hj hij=>O.asymm _ _ (u4 j hj hij))
      refine aw (fun hc=>wpS_pure ⟨hg.gal _,.inl ⟨_,_,rfl,fin1 _ _ _ hm4 (.inl (by simpa using hc))⟩⟩) (fun hc=>?_)
      have hc:ib2+1≠b.size:=by simpa using hc
      refine wpS_bind (aN h3a ?_)
      refine wpS_bind (cU O (base:=ib2+1) (n:=b.size - (ib2+1)) (hint:=0) (by lia) (by lia) (hA _ _) hB ((hg.gal _).kind.trans hst) (fun i j hi hj p1 p2 p3=>sb i j hi hj (by lia) p2 hj) fun k2 hk2 v1 v2=>?_)
      have hm5:=chunkB (k:=k2) hm4 (fun i hi j hj p1 p2 p3=>O.asymm _ _ (O.le_lt (ly (by have:=v1 (i - (ib2+1)) (by lia) (by lia);simpa only [show ib2+1+(i - (ib2+1))=i by lia] using this)) (sa _ j h3a hj (by lia) p3 hj)))
      have v3:∀ j (hj:j < b.size),ib2+1+k2≤j→blt b[j] (a[ia2+k]'h3a)=false:=fun j hj hij=>ly (by have:=v2 (j - (ib2+1)) (by lia) (by lia) (by lia);simpa only [show ib2+1+(j - (ib2+1))=j by lia] using this)
      refine aw (fun hk1=>?_) (fun hk1=>?_)
      ·refine aw (fun hd=>wpS_pure ⟨hg.gal _,.inl ⟨_,_,rfl,fin1 _ _ _ hm5 (.inl (by simpa using hd))⟩⟩) (fun hd=>?_)
       have hd:ib2+1+k2≠b.size:=by simpa using hd
       refine wpS_bind (aN h3a ?_)
       have hm6:=pushA hm5 h3a v3
       refine aw (fun he=>wpS_pure ⟨hg.gal _,.inl ⟨_,_,rfl,fin2 _ _ _ hm6 (by simpa using he)⟩⟩) (fun he=>?_)
       have he:(ia2+k)+1+1≠a.size:=by simpa using he
       exact aw (fun hf=>wpS_pure ⟨hg.gal _,.inr ⟨_,(ia2+k)+1,(ib2+1+k2),_,_,_,rfl,hm6,by lia,by lia,by lia⟩⟩) (fun hf=>wpS_pure ⟨hg.gal _,_,(ia2+k)+1,(ib2+1+k2),_,_,_,rfl,hm6,by lia,by lia,by lia⟩)
      ·refine wpS_bind (aN h3a ?_)
       have hm6:=pushA hm4 h3a (fun j hj hij=>v3 j hj (by lia))
       refine aw (fun he=>wpS_pure ⟨hg.gal _,.inl ⟨_,_,rfl,fin2 _ _ _ hm6 (by simpa using he)⟩⟩) (fun he=>?_)
       have he:(ia2+k)+1+1≠a.size:=by simpa using he
       exact aw (fun hf=>wpS_pure ⟨hg.gal _,.inr ⟨_,(ia2+k)+1,(ib2+1),_,_,_,rfl,hm6,by lia,by lia,by lia⟩⟩) (fun hf=>wpS_pure ⟨hg.gal _,_,(ia2+k)+1,(ib2+1),_,_,_,rfl,hm6,by lia,by lia,by lia⟩)
     ·have hm3:=hm
      have u4:∀ j (hj:j < a.size),ia2≤j→blt b[ib2] a[j]=true:=fun j hj hij=>u3 j hj (by lia)
      have h3a:ia2 < a.size:=by lia
      refine wpS_bind (aN h2 ?_)
      have hm4:=pushB hm3 h2 (fun j hj hij=>O.asymm _ _ (u4 j hj hij))
      refine aw (fun hc=>wpS_pure ⟨hg.gal _,.inl ⟨_,_,rfl,fin1 _ _ _ hm4 (.inl (by simpa using hc))⟩⟩) (fun hc=>?_)
      have hc:ib2+1≠b.size:=by simpa using hc
      refine wpS_bind (aN h3a ?_)
      refine wpS_bind (cU O (base:=ib2+1) (n:=b.size - (ib2+1)) (hint:=0) (by lia) (by lia) (hA _ _) hB ((hg.gal _).kind.trans hst) (fun i j hi hj p1 p2 p3=>sb i j hi hj (by lia) p2 hj) fun k2 hk2 v1 v2=>?_)
      have hm5:=chunkB (k:=k2) hm4 (fun i hi j hj p1 p2 p3=>O.asymm _ _ (O.le_lt (ly (by have:=v1 (i - (ib2+1)) (by lia) (by lia);simpa only [show ib2+1+(i - (ib2+1))=i by lia] using this)) (sa _ j h3a hj (by lia) p3 hj)))
      have v3:∀ j (hj:j < b.size),ib2+1+k2≤j→blt b[j] (a[ia2]'h3a)=false:=fun j hj hij=>ly (by have:=v2 (j - (ib2+1)) (by lia) (by lia) (by lia);simpa only [show ib2+1+(j - (ib2+1))=j by lia] using this)
      refine aw (fun hk1=>?_) (fun hk1=>?_)
      ·refine aw (fun hd=>wpS_pure ⟨hg.gal _,.inl ⟨_,_,rfl,fin1 _ _ _ hm5 (.inl (by simpa using hd))⟩⟩) (fun hd=>?_)
       have hd:ib2+1+k2≠b.size:=by simpa using hd
       refine wpS_bind (aN h3a ?_)
       have hm6:=pushA hm5 h3a v3
       refine aw (fun he=>wpS_pure ⟨hg.gal _,.inl ⟨_,_,rfl,fin2 _ _ _ hm6 (by simpa using he)⟩⟩) (fun he=>?_)
       have he:ia2+1+1≠a.size:=by simpa using he
       exact aw (fun hf=>wpS_pure ⟨hg.gal _,.inr ⟨_,ia2+1,(ib2+1+k2),_,_,_,rfl,hm6,by lia,by lia,by lia⟩⟩) (fun hf=>wpS_pure ⟨hg.gal _,_,ia2+1,(ib2+1+k2),_,_,_,rfl,hm6,by lia,by lia,by lia⟩)
      ·refine wpS_bind (aN h3a ?_)
       have hm6:=pushA hm4 h3a (fun j hj hij=>v3 j hj (by lia))
       refine aw (fun he=>wpS_pure ⟨hg.gal _,.inl ⟨_,_,rfl,fin2 _ _ _ hm6 (by simpa using he)⟩⟩) (fun he=>?_)
       have he:ia2+1+1≠a.size:=by simpa using he
       exact aw (fun hf=>wpS_pure ⟨hg.gal _,.inr ⟨_,ia2+1,(ib2+1),_,_,_,rfl,hm6,by lia,by lia,by lia⟩⟩) (fun hf=>wpS_pure ⟨hg.gal _,_,ia2+1,(ib2+1),_,_,_,rfl,hm6,by lia,by lia,by lia⟩)
end
end TS
namespace TS
open PySem PyProof.Rows
structure MJ (le:Keyed→Keyed→Prop) (tot o ra rb:List Keyed):Prop where
 perm:(ra++rb++o).Perm tot
 so:o.Pairwise le
 sa:ra.Pairwise le
 sb:rb.Pairwise le
 bel:∀ y∈o,∀ x,x∈ra∨x∈rb→le x y
section
variable {le:Keyed→Keyed→Prop} {tot o ra rb:List Keyed}
theorem MJ.swap (h:MJ le tot o ra rb):MJ le tot o rb ra:=⟨(List.perm_append_comm.append_right o).trans h.perm,h.so,h.sb,h.sa,fun x hx y hy=>h.bel x hx y hy.symm⟩
theorem MJ.takeA (h:MJ le tot o ra rb) (k:Nat) (hk:∀ x∈ra.drop k,∀ y∈rb,le y x):MJ le tot (ra.drop k++o) (ra.take k) rb:=by
 obtain ⟨p1,p2,p3⟩:=ue h.sa k
 refine ⟨?_,?_,p1,h.sb,fun y hy x hx=>?_⟩
 ·refine List.Perm.trans ?_ h.perm
  rw [List.append_assoc,List.append_assoc ra]
  have e:ra++(rb++o)=ra.take k++(ra.drop k++(rb++o)):=by rw [← List.append_assoc (ra.take k),List.take_append_drop]
  rw [e,← List.append_assoc rb,← List.append_assoc (ra.drop k)]
  exact ((List.perm_append_comm.append_right o)).append_left _
 ·rw [List.pairwise_append]
  exact ⟨p2,h.so,fun x hx y hy=>h.bel y hy x (.inl (List.mem_of_mem_drop hx))⟩
 ·rcases List.mem_append.mp hy with hy|hy
  ·rcases hx with hx|hx
   ·exact p3 x hx y hy
   ·exact hk y hy x hx
  ·exact h.bel y hy x (hx.imp List.mem_of_mem_take id)
theorem MJ.takeB (h:MJ le tot o ra rb) (k:Nat) (hk:∀ x∈rb.drop k,∀ y∈ra,le y x):MJ le tot (rb.drop k++o) ra (rb.take k):=(h.swap.takeA k hk).swap
theorem MJ.join (h:MJ le tot o ra rb) (hab:∀ x∈ra,∀ y∈rb,le x y):Res le tot (ra++rb++o):=by
 refine ⟨h.perm,?_⟩
 rw [List.pairwise_append,List.pairwise_append]
 exact ⟨⟨h.sa,h.sb,hab⟩,h.so,fun x hx y hy=>h.bel y hy x (List.mem_append.mp hx)⟩
end
theorem iM (a:Array Keyed) (n:Nat):(a.extract 0 n).toList=a.toList.take n:=by
 rw [fE,List.drop_zero,Nat.sub_zero]
theorem cQ {a:Array Keyed} {n:Nat} {x:Keyed} (h:x∈a.toList.take n):∃ j,∃ hj:j < a.size,j < n∧a[j]=x:=by
 obtain ⟨j,hj,h1,h2,e⟩:=fw (i:=0) (k:=n) (by rw [List.drop_zero];exact h)
 exact ⟨j,hj,by lia,e⟩
theorem mem_mid {a:Array Keyed} {n k:Nat} {x:Keyed} (h:x∈(a.toList.take n).drop k):∃ j,∃ hj:j < a.size,k≤j∧j < n∧a[j]=x:=by
 obtain ⟨j,hj,e⟩:=List.getElem_of_mem h
 rw [List.length_drop,List.length_take,Array.length_toList] at hj
 refine ⟨k+j,by lia,by lia,by lia,?_⟩
 rw [← e,List.getElem_drop,List.getElem_take];simp
theorem pT (a:Array Keyed) (i j:Nat):(a.extract i j).toList=(a.toList.take j).drop i:=by
 rw [fE,List.drop_take]
theorem kj (a:Array Keyed) {n:Nat} (h:n < a.size):(a.toList.take (n+1)).drop n=[a[n]]:=by
 rw [List.drop_take,show n+1 - n=1 by lia,iU a h]
theorem gL (a:Array Keyed) {n k:Nat} (h:k≤n):(a.toList.take n).take k=a.toList.take k:=by rw [List.take_take,show min k n=k by lia]
section
variable {M:Model} {A:Around} {E:Value→Shared→Prop} {s:Shared} {blt:Keyed→Keyed→Bool} {k₀:SortKind} {In:Keyed→Prop} {a b:Array Keyed}
theorem hPushA {out:Array Keyed} {na nb:Nat} {tot:List Keyed} (h:MJ (leB blt) tot out.toList.reverse (a.toList.take (na+1)) (b.toList.take nb)) (ha:na < a.size) (hx:∀ j (hj:j < b.size),j < nb→blt a[na] b[j]=false) :
  MJ (leB blt) tot (out.push a[na]).toList.reverse (a.toList.take na) (b.toList.take nb):=by
 have:=h.takeA na (fun x hx' y hy=>by
  rw [kj a ha] at hx'
  obtain ⟨j,hj,hij,rfl⟩:=cQ hy
  rw [List.mem_singleton.mp hx']
  exact hx j hj hij)
 rw [kj a ha,gL a (by lia)] at this
 simpa using this
theorem hPushB {out:Array Keyed} {na nb:Nat} {tot:List Keyed} (h:MJ (leB blt) tot out.toList.reverse (a.toList.take na) (b.toList.take (nb+1))) (hb:nb < b.size) (hx:∀ j (hj:j < a.size),j < na→blt b[nb] a[j]=false) :
  MJ (leB blt) tot (out.push b[nb]).toList.reverse (a.toList.take na) (b.toList.take nb):=by
 have:=h.takeB nb (fun x hx' y hy=>by
  rw [kj b hb] at hx'
  obtain ⟨j,hj,hij,rfl⟩:=cQ hy
  rw [List.mem_singleton.mp hx']
  exact hx j hj hij)
 rw [kj b hb,gL b (by lia)] at this
 simpa using this
theorem hChunkA {out:Array Keyed} {na nb k:Nat} {tot:List Keyed} (h:MJ (leB blt) tot out.toList.reverse (a.toList.take na) (b.toList.take nb)) (hk:k≤na) (hx:∀ i (hi:i < a.size) j (hj:j < b.size),k≤i→i < na→j < nb→blt a[i] b[j]=false) :
  MJ (leB blt) tot (out++(a.extract k na).reverse).toList.reverse (a.toList.take k) (b.toList.take nb):=by
 have:=h.takeA k (fun x hx' y hy=>by
  obtain ⟨i,hi,h1,h2,rfl⟩:=mem_mid hx'
  obtain ⟨j,hj,h3,rfl⟩:=cQ hy
  exact hx i hi j hj h1 h2 h3)
 rw [gL a hk] at this
 rw [Array.toList_append,Array.toList_reverse,List.reverse_append,List.reverse_reverse,pT]
 exact this
theorem hChunkB {out:Array Keyed} {na nb k:Nat} {tot:List Keyed} (h:MJ (leB blt) tot out.toList.reverse (a.toList.take na) (b.toList.take nb)) (hk:k≤nb) (hx:∀ i (hi:i < b.size) j (hj:j < a.size),k≤i→i < nb→j < na→blt b[i] a[j]=false) :
  MJ (leB blt) tot (out++(b.extract k nb).reverse).toList.reverse (a.toList.take na) (b.toList.take k):=by
 have:=h.takeB k (fun x hx' y hy=>by
  obtain ⟨i,hi,h1,h2,rfl⟩:=mem_mid hx'
  obtain ⟨j,hj,h3,rfl⟩:=cQ hy
  exact hx i hi j hj h1 h2 h3)
 rw [gL b hk] at this
 rw [Array.toList_append,Array.toList_reverse,List.reverse_append,List.reverse_reverse,pT]
 exact this
theorem hPushA' {out:Array Keyed} {na nb:Nat} {tot:List Keyed} (h:MJ (leB blt) tot out.toList.reverse (a.toList.take na) (b.toList.take nb)) (hp:0 < na) (ha:na - 1 < a.size) (hx:∀ j (hj:j < b.size),j < nb→blt a[na - 1] b[j]=false) :
  MJ (leB blt) tot (out.push a[na - 1]).toList.reverse (a.toList.take (na - 1)) (b.toList.take nb):=by
 obtain ⟨m,rfl⟩:∃ m,na=m+1:=⟨na - 1,by lia⟩
 exact hPushA h ha hx
theorem hPushB' {out:Array Keyed} {na nb:Nat} {tot:List Keyed} (h:MJ (leB blt) tot out.toList.reverse (a.toList.take na) (b.toList.take nb)) (hp:0 < nb) (hb:nb - 1 < b.size) (hx:∀ j (hj:j < a.size),j < na→blt b[nb - 1] a[j]=false) :
  MJ (leB blt) tot (out.push b[nb - 1]).toList.reverse (a.toList.take na) (b.toList.take (nb - 1)):=by
 obtain ⟨m,rfl⟩:∃ m,nb=m+1:=⟨nb - 1,by lia⟩
 exact hPushB h hb hx
theorem qr (x y out:Array Keyed):(x++y++out.reverse).toList=x.toList++y.toList++out.toList.reverse:=by simp
theorem qy (O:Orc M A E s blt k₀ In) {Q:Array Keyed→SortSt→Prop} {st:SortSt} (hst:kindOf st=k₀) (hA:∀ j (h:j < a.size),In a[j]) (hB:∀ j (h:j < b.size),In b[j]) (sa:Seg blt a 0 a.size) (sb:Seg blt b 0 b.size)
  (ha:0 < a.size) (hb:0 < b.size) (h0:blt b[0] a[0]=true) (hlast:∀ j (h:j < b.size),blt b[j] a[a.size - 1]=true)
  (hq:∀ (r:Array Keyed) st',SG st st'→Res (leB blt) (a.toList++b.toList) r.toList→Q r st'):wpS M A E s (mergeHiP a b) Q st:=by
 have fin1:∀ (out:Array Keyed) (na nb:Nat),MJ (leB blt) (a.toList++b.toList) out.toList.reverse (a.toList.take na) (b.toList.take nb)→(na=0∨nb=0)→Res (leB blt) (a.toList++b.toList) (a.extract 0 na++b.extract 0 nb++out.reverse).toList:=by
  intro out na nb h he
  rw [qr,iM,iM]
  refine h.join fun x hx y hy=>?_
  obtain ⟨i,hi,h1,_⟩:=cQ hx
  obtain ⟨j,hj,h2,_⟩:=cQ hy
  lia
 have fin2:∀ (out:Array Keyed) (na nb:Nat),MJ (leB blt) (a.toList++b.toList) out.toList.reverse (a.toList.take na) (b.toList.take nb)→nb=1→Res (leB blt) (a.toList++b.toList) (b.extract 0 nb++a.extract 0 na++out.reverse).toList:=by
  intro out na nb h he
  rw [qr,iM,iM]
  refine h.swap.join fun x hx y hy=>?_
  obtain ⟨i,hi,h1,rfl⟩:=cQ hx
  obtain ⟨j,hj,h2,rfl⟩:=cQ hy
  have:i=0:=by lia
  subst this
  exact O.asymm _ _ (O.le_lt h0 (sa 0 j ha hj (by lia) (by lia) hj))
 have hna:a.size - 1 < a.size:=by lia
 have mi0:MJ (leB blt) (a.toList++b.toList) (#[a[a.size - 1]]:Array Keyed).toList.reverse (a.toList.take (a.size - 1)) (b.toList.take b.size):=by
  have z:MJ (leB blt) (a.toList++b.toList) (#[]:Array Keyed).toList.reverse (a.toList.take (a.size - 1+1)) (b.toList.take b.size):=by
   rw [show a.size - 1+1=a.size by lia,List.take_of_length_le (by simp),List.take_of_length_le (by simp)]
   exact ⟨by simp,List.Pairwise.nil,pU sa,pU sb,fun x hx=>by cases hx⟩
  have:=hPushA z hna (fun j hj _=>O.asymm _ _ (hlast j hj))
  simpa using this
 refine wpS_bind (wpS_lift (wpAny_rule ⟨rfl,?_⟩))
 refine wpS_bind (aN hna ?_)
 refine aw (fun h=>wpS_pure (hq _ _ (SG.refl st) (fin1 _ _ _ mi0 (.inl (by simpa using h))))) (fun hn0=>?_)
 refine aw (fun h=>wpS_pure (hq _ _ (SG.refl st) (fin2 _ _ _ mi0 (by simpa using h)))) (fun hn1=>?_)
 have hn0:a.size - 1≠0:=by simpa using hn0
 have hn1:b.size≠1:=by simpa using hn1
 refine wpS_bind (wpS_get ?_)
 refine wpS_bind (wpS_mono (wpS_forRange (I:=fun x c st'=>SG st st'∧∃ out na nb mg,c=(none,na,nb,out,mg)∧MJ (leB blt) (a.toList++b.toList) out.toList.reverse (a.toList.take na) (b.toList.take nb)∧0 < na∧na < a.size∧1 < nb∧nb≤b.size∧x+na+nb≤a.size+b.size)
  (Q:=fun c st'=>SG st st'∧∃ r rest,c=(some r,rest)∧Res (leB blt) (a.toList++b.toList) r.toList) ?step ?fin ⟨SG.refl st,_,_,_,_,rfl,mi0,by lia,by lia,by lia,by lia,by lia⟩) ?post)
 case post =>
  rintro c st' ⟨hg,r,rest,rfl,hr⟩
  exact wpS_pure (hq r st' hg hr)
 case fin =>
  rintro c st' ⟨hg,out,na,nb,mg,rfl,hm,h1,h2,h3,h4,h5⟩
  lia
 case step =>
  rintro x c st1 _ hx ⟨hg,out,na,nb,mg,rfl,hm,h1,h2,h3,h4,h5⟩
  refine wpS_bind (wpS_mono (wpS_forRange (I:=fun y c st'=>SG st st'∧∃ out na' nb' ac bc,c=(none,na',nb',out,ac,bc)∧MJ (leB blt) (a.toList++b.toList) out.toList.reverse (a.toList.take na') (b.toList.take nb')∧0 < na'∧na' < a.size∧1 < nb'∧nb'≤b.size∧y+na'+nb'≤na+nb)
   (Q:=fun c st'=>SG st st'∧((∃ r rest,c=(some r,rest)∧Res (leB blt) (a.toList++b.toList) r.toList)∨∃ out na' nb' ac bc,c=(none,na',nb',out,ac,bc)∧MJ (leB blt) (a.toList++b.toList) out.toList.reverse (a.toList.take na') (b.toList.take nb')∧0 < na'∧na' < a.size∧1 < nb'∧nb'≤b.size∧1+na'+nb'≤na+nb)) ?step1 ?fin1 ⟨hg,out,na,nb,0,0,rfl,hm,h1,h2,h3,h4,by lia⟩) ?post1)
  case fin1 =>
   rintro c st' ⟨hg,out,na',nb',ac,bc,rfl,hm,h1,h2,h3,h4,h5⟩
   lia
  case step1 =>
   rintro y c st2 _ hy ⟨hg,out,na',nb',ac,bc,rfl,hm,h1,h2,h3,h4,h5⟩
   have i1:nb' - 1 < b.size:=by lia
   have i2:na' - 1 < a.size:=by lia
   refine wpS_bind (aN i1 (wpS_bind (aN i2 ?_)))
   refine wpS_bind (O.ask _ _ _ _ (hB _ _) (hA _ _) (hg.kind.trans hst) ?_)
   cases e:blt b[nb' - 1] a[na' - 1] with
   | true =>
    refine wpS_bind (aN i2 ?_)
    have hm':=hPushA' hm (by lia) i2 (fun j hj hij=>O.asymm _ _ (O.lt_le (sb j (nb' - 1) hj i1 (by lia) (by lia) i1) e))
    refine aw (fun hz=>wpS_pure ⟨hg,.inl ⟨_,_,rfl,fin1 _ _ _ hm' (.inl (by simpa using hz))⟩⟩) (fun hz=>?_)
    have hz:na' - 1≠0:=by simpa using hz
    exact aw (fun _=>wpS_pure ⟨hg,.inr ⟨_,na' - 1,nb',_,_,rfl,hm',by lia,by lia,by lia,by lia,by lia⟩⟩) (fun _=>wpS_pure ⟨hg,_,na' - 1,nb',_,_,rfl,hm',by lia,by lia,by lia,by lia,by lia⟩)
   | false =>
    refine wpS_bind (aN i1 ?_)
    have hm':=hPushB' hm (by lia) i1 (fun j hj hij=>O.trans _ _ _ (sa j (na' - 1) hj i2 (by lia) (by lia) i2) e)
    refine aw (fun hz=>wpS_pure ⟨hg,.inl ⟨_,_,rfl,fin2 _ _ _ hm' (by simpa using hz)⟩⟩) (fun hz=>?_)
    have hz:nb' - 1≠1:=by simpa using hz
    exact aw (fun _=>wpS_pure ⟨hg,.inr ⟨_,na',nb' - 1,_,_,rfl,hm',by lia,by lia,by lia,by lia,by lia⟩⟩) (fun _=>wpS_pure ⟨hg,_,na',nb' - 1,_,_,rfl,hm',by lia,by lia,by lia,by lia,by lia⟩)
  case post1 =>
   rintro c st2 ⟨hg,h⟩
   rcases h with ⟨r,rest,rfl,hr⟩|⟨out,na',nb',ac,bc,rfl,hm,h1,h2,h3,h4,h6⟩
   ·exact wpS_pure ⟨hg,r,_,rfl,hr⟩
   refine wpS_bind (wpS_lift (wpAny_rule ⟨rfl,?_⟩))
   refine wpS_bind (wpS_mono (wpS_forRange (I:=fun y c st'=>SG st st'∧∃ out na2 nb2 mg ac bc,c=(none,na2,nb2,out,mg,ac,bc)∧MJ (leB blt) (a.toList++b.toList) out.toList.reverse (a.toList.take na2) (b.toList.take nb2)∧0 < na2∧na2 < a.size∧1 < nb2∧nb2≤b.size∧y+na2+nb2≤na'+nb')
    (Q:=fun c st'=>SG st st'∧((∃ r rest,c=(some r,rest)∧Res (leB blt) (a.toList++b.toList) r.toList)∨∃ out na2 nb2 mg ac bc,c=(none,na2,nb2,out,mg,ac,bc)∧MJ (leB blt) (a.toList++b.toList) out.toList.reverse (a.toList.take na2) (b.toList.take nb2)∧0 < na2∧na2 < a.size∧1 < nb2∧nb2≤b.size∧na2+nb2≤na'+nb')) ?step2 ?fin2 ⟨hg,out,na',nb',_,ac,bc,rfl,hm,h1,h2,h3,h4,by lia⟩) ?post2)
   case fin2 =>
    rintro c st' ⟨hg,out,na2,nb2,mg,ac,bc,rfl,hm,h1,h2,h3,h4,h5⟩
    lia
   case post2 =>
    rintro c st3 ⟨hg,h⟩
    rcases h with ⟨r,rest,rfl,hr⟩|⟨out,na2,nb2,mg,ac,bc,rfl,hm,h1,h2,h3,h4,h7⟩
    ·exact wpS_pure ⟨hg,r,_,rfl,hr⟩
    ·exact wpS_bind (wpS_modify (wpS_pure ⟨hg.gal _,out,na2,nb2,_,rfl,hm,h1,h2,h3,h4,by lia⟩))
   case step2 =>
    rintro y c st3 _ hy ⟨hg,out,na2,nb2,mg,ac,bc,rfl,hm,h1,h2,h3,h4,h7⟩
    refine aw (fun _=>?_) (fun _=>?_)
    all_goals
     have i1:nb2 - 1 < b.size:=by lia
     refine wpS_bind (wpS_modify ?_)
     refine wpS_bind (aN i1 ?_)
     refine wpS_bind (cU O (base:=0) (n:=na2) (hint:=na2 - 1) (by lia) (by lia) (hB _ _) hA ((hg.gal _).kind.trans hst) (fun i j hi hj p1 p2 p3=>sa i j hi hj (by lia) p2 hj) fun k hk u1 u2=>?_)
     have u1':∀ j (hj:j < a.size),j < k→blt b[nb2 - 1] a[j]=false:=fun j hj hij=>qR (by have:=u1 j (by lia) hij;simpa only [Nat.zero_add] using this)
     have u2':∀ j (hj:j < a.size),k≤j→j < na2→blt b[nb2 - 1] a[j]=true:=fun j hj hij hjn=>qR (by have:=u2 j (by lia) hij hjn;simpa only [Nat.zero_add] using this)
     have hm1:=hChunkA (k:=k) hm hk (fun i hi j hj p1 p2 p3=>O.asymm _ _ (O.lt_le (sb j (nb2 - 1) hj i1 (by lia) (by lia) i1) (u2' i hi p1 p2)))
     refine aw (fun hk0=>?_) (fun hk0=>?_)
     ·refine aw (fun hc=>wpS_pure ⟨hg.gal _,.inl ⟨_,_,rfl,fin1 _ _ _ hm1 (.inl (by simpa using hc))⟩⟩) (fun hc=>?_)
      have hc0:k≠0:=by simpa using hc
      have hm3:=hm1
      have u4:=u1'
      have h3a:k - 1 < a.size:=by lia
      have hb1:nb2 - 1 < b.size:=by lia
      refine wpS_bind (aN hb1 ?_)
      have hm4:=hPushB' hm3 (by lia) hb1 (fun j hj hij=>u4 j hj hij)
      refine aw (fun hc=>wpS_pure ⟨hg.gal _,.inl ⟨_,_,rfl,fin2 _ _ _ hm4 (by simpa using hc)⟩⟩) (fun hc=>?_)
      have hc:nb2 - 1≠1:=by simpa using hc
      refine wpS_bind (aN h3a ?_)
      refine wpS_bind (cU O (base:=0) (n:=nb2 - 1) (hint:=nb2 - 1 - 1) (by lia) (by lia) (hA _ _) hB ((hg.gal _).kind.trans hst) (fun i j hi hj p1 p2 p3=>sb i j hi hj (by lia) p2 hj) fun k2 hk2 v1 v2=>?_)
      have v1':∀ j (hj:j < b.size),j < k2→blt b[j] (a[k - 1]'h3a)=true:=fun j hj hij=>ly (by have:=v1 j (by lia) hij;simpa only [Nat.zero_add] using this)
      have v2':∀ j (hj:j < b.size),k2≤j→j < nb2 - 1→blt b[j] (a[k - 1]'h3a)=false:=fun j hj hij hjn=>ly (by have:=v2 j (by lia) hij hjn;simpa only [Nat.zero_add] using this)
      have hm5:=hChunkB (k:=k2) hm4 hk2 (fun i hi j hj p1 p2 p3=>O.trans _ _ _ (sa j (k - 1) hj h3a (by lia) (by lia) h3a) (v2' i hi p1 p2))
      refine aw (fun hk1=>?_) (fun hk1=>?_)
      ·refine aw (fun hd=>wpS_pure ⟨hg.gal _,.inl ⟨_,_,rfl,fin2 _ _ _ hm5 (by simpa using hd)⟩⟩) (fun hd=>?_)
       refine aw (fun hd'=>wpS_pure ⟨hg.gal _,.inl ⟨_,_,rfl,fin1 _ _ _ hm5 (.inr (by simpa using hd'))⟩⟩) (fun hd'=>?_)
       have hd:k2≠1:=by simpa using hd
       have hd':k2≠0:=by simpa using hd'
       refine wpS_bind (aN h3a ?_)
       have hm6:=hPushA' hm5 (by lia) h3a (fun j hj hij=>O.asymm _ _ (v1' j hj hij))
       refine aw (fun he=>wpS_pure ⟨hg.gal _,.inl ⟨_,_,rfl,fin1 _ _ _ hm6 (.inl (by simpa using he))⟩⟩) (fun he=>?_)
       have he:k - 1≠0:=by simpa using he
       exact aw (fun hf=>wpS_pure ⟨hg.gal _,.inr ⟨_,k - 1,k2,_,_,_,rfl,hm6,by lia,by lia,by lia,by lia,by lia⟩⟩) (fun hf=>wpS_pure ⟨hg.gal _,_,k - 1,k2,_,_,_,rfl,hm6,by lia,by lia,by lia,by lia,by lia⟩)
      ·refine wpS_bind (aN h3a ?_)
       have hkk:k2=nb2 - 1:=by have hk1:¬ (nb2 - 1 - k2 > 0):=hk1;lia
       have hm6:=hPushA' hm4 (by lia) h3a (fun j hj hij=>O.asymm _ _ (v1' j hj (by lia)))
       refine aw (fun he=>wpS_pure ⟨hg.gal _,.inl ⟨_,_,rfl,fin1 _ _ _ hm6 (.inl (by simpa using he))⟩⟩) (fun he=>?_)
       have he:k - 1≠0:=by simpa using he
       exact aw (fun hf=>wpS_pure ⟨hg.gal _,.inr ⟨_,k - 1,nb2 - 1,_,_,_,rfl,hm6,by lia,by lia,by lia,by lia,by lia⟩⟩) (fun hf=>wpS_pure ⟨hg.gal _,_,k - 1,nb2 - 1,_,_,_,rfl,hm6,by lia,by lia,by lia,by lia,by lia⟩)
     ·have hkn:k=na2:=by have hk0:¬ (na2 - k > 0):=hk0;lia
      have hm3:=hm
      have u4:∀ j (hj:j < a.size),j < na2→blt b[nb2 - 1] a[j]=false:=fun j hj hij=>u1' j hj (by lia)
      have h3a:na2 - 1 < a.size:=by lia
      have hb1:nb2 - 1 < b.size:=by lia
      refine wpS_bind (aN hb1 ?_)
      have hm4:=hPushB' hm3 (by lia) hb1 (fun j hj hij=>u4 j hj hij)
      refine aw (fun hc=>wpS_pure ⟨hg.gal _,.inl ⟨_,_,rfl,fin2 _ _ _ hm4 (by simpa using hc)⟩⟩) (fun hc=>?_)
      have hc:nb2 - 1≠1:=by simpa using hc
      refine wpS_bind (aN h3a ?_)
      refine wpS_bind (cU O (base:=0) (n:=nb2 - 1) (hint:=nb2 - 1 - 1) (by lia) (by lia) (hA _ _) hB ((hg.gal _).kind.trans hst) (fun i j hi hj p1 p2 p3=>sb i j hi hj (by lia) p2 hj) fun k2 hk2 v1 v2=>?_)
      have v1':∀ j (hj:j < b.size),j < k2→blt b[j] (a[na2 - 1]'h3a)=true:=fun j hj hij=>ly (by have:=v1 j (by lia) hij;simpa only [Nat.zero_add] using this)
      have v2':∀ j (hj:j < b.size),k2≤j→j < nb2 - 1→blt b[j] (a[na2 - 1]'h3a)=false:=fun j hj hij hjn=>ly (by have:=v2 j (by lia) hij hjn;simpa only [Nat.zero_add] using this)
      have hm5:=hChunkB (k:=k2) hm4 hk2 (fun i hi j hj p1 p2 p3=>O.trans _ _ _ (sa j (na2 - 1) hj h3a (by lia) (by lia) h3a) (v2' i hi p1 p2))
      refine aw (fun hk1=>?_) (fun hk1=>?_)
      ·refine aw (fun hd=>wpS_pure ⟨hg.gal _,.inl ⟨_,_,rfl,fin2 _ _ _ hm5 (by simpa using hd)⟩⟩) (fun hd=>?_)
       refine aw (fun hd'=>wpS_pure ⟨hg.gal _,.inl ⟨_,_,rfl,fin1 _ _ _ hm5 (.inr (by simpa using hd'))⟩⟩) (fun hd'=>?_)
       have hd:k2≠1:=by simpa using hd
       have hd':k2≠0:=by simpa using hd'
       refine wpS_bind (aN h3a ?_)
       have hm6:=hPushA' hm5 (by lia) h3a (fun j hj hij=>O.asymm _ _ (v1' j hj hij))
       refine aw (fun he=>wpS_pure ⟨hg.gal _,.inl ⟨_,_,rfl,fin1 _ _ _ hm6 (.inl (by simpa using he))⟩⟩) (fun he=>?_)
       have he:na2 - 1≠0:=by simpa using he
       exact aw (fun hf=>wpS_pure ⟨hg.gal _,.inr ⟨_,na2 - 1,k2,_,_,_,rfl,hm6,by lia,by lia,by lia,by lia,by lia⟩⟩) (fun hf=>wpS_pure ⟨hg.gal _,_,na2 - 1,k2,_,_,_,rfl,hm6,by lia,by lia,by lia,by lia,by lia⟩)
      ·refine wpS_bind (aN h3a ?_)
       have hkk:k2=nb2 - 1:=by have hk1:¬ (nb2 - 1 - k2 > 0):=hk1;lia
       have hm6:=hPushA' hm4 (by lia) h3a (fun j hj hij=>O.asymm _ _ (v1' j hj (by lia)))
       refine aw (fun he=>wpS_pure ⟨hg.gal _,.inl ⟨_,_,rfl,fin1 _ _ _ hm6 (.inl (by simpa using he))⟩⟩) (fun he=>?_)
       have he:na2 - 1≠0:=by simpa using he
       exact aw (fun hf=>wpS_pure ⟨hg.gal _,.inr ⟨_,na2 - 1,nb2 - 1,_,_,_,rfl,hm6,by lia,by lia,by lia,by lia,by lia⟩⟩) (fun hf=>wpS_pure ⟨hg.gal _,_,na2 - 1,nb2 - 1,_,_,_,rfl,hm6,by lia,by lia,by lia,by lia,by lia⟩)
end
end TS
namespace TS
open PySem PyProof.Rows
noncomputable def G (xs:Array Keyed) (i:Nat):Keyed:=(xs[i]?).getD (.none,.none)
theorem lD {xs:Array Keyed} {i:Nat} (h:i < xs.size):G xs i=xs[i]:=by unfold G;rw [getElem?_pos xs i h];rfl
theorem cq {xs:Array Keyed} {i j:Nat} (hj:j≤xs.size) (k:Nat):G (mirror xs i j ((j - i)/2)) k=if i≤k∧k < j then G xs (i+j - 1 - k) else G xs k:=by
 unfold G
 rw [getElem?_mirror_all hj]
 split <;> rfl
theorem mZ {xs:Array Keyed} {src d:Nat} (hs:src < xs.size) (hd:d≤src) (k:Nat):G (bubble xs src d) k=if k=src - d then G xs src else if src - d < k∧k≤src then G xs (k - 1) else G xs k:=by
 unfold G
 rw [getElem?_bubble hs d hd]
 repeat' split
 all_goals rfl
structure SA (lo:Nat) (st st':SortSt):Prop where
 kind:kindOf st'=kindOf st
 pend:pendingOf st'=pendingOf st
 failed:failedOf st'=failedOf st
 perm:(arrOf st').Perm (arrOf st)
 pre:∀ i,i < lo→G (arrOf st') i=G (arrOf st) i
theorem SA.refl (lo:Nat) (st:SortSt):SA lo st st:=⟨rfl,rfl,rfl,Array.Perm.refl _,fun _ _=>rfl⟩
theorem SA.trans {lo:Nat} {a b c:SortSt} (h:SA lo a b) (g:SA lo b c):SA lo a c:=⟨g.kind.trans h.kind,g.pend.trans h.pend,g.failed.trans h.failed,g.perm.trans h.perm,fun i hi=>(g.pre i hi).trans (h.pre i hi)⟩
theorem SA.size {lo:Nat} {a b:SortSt} (h:SA lo a b):(arrOf b).size=(arrOf a).size:=h.perm.size_eq
section
variable {M:Model} {A:Around} {E:Value→Shared→Prop} {s:Shared} {blt:Keyed→Keyed→Bool} {k₀:SortKind} {In:Keyed→Prop}
noncomputable def AllIn (In:Keyed→Prop) (st:SortSt):Prop:=∀ x,x∈(arrOf st).toList→In x
theorem AllIn.sa {lo:Nat} {st st':SortSt} (h:AllIn In st) (g:SA lo st st'):AllIn In st':=fun x hx=>h x ((Array.perm_iff_toList_perm.mp g.perm).mem_iff.mp hx)
theorem AllIn.at {st:SortSt} (h:AllIn In st) {i:Nat} (hi:i < (arrOf st).size):In (arrOf st)[i]:=h _ (by simp)
theorem du (O:Orc M A E s blt k₀ In) {st:SortSt} {i j:Nat} {Q:Option Bool→SortSt→Prop} (hk:kindOf st=k₀) (hI:AllIn In st) (hi:i < (arrOf st).size) (hj:j < (arrOf st).size) (h:Q (some (blt (G (arrOf st) i) (G (arrOf st) j))) st):wpS M A E s (ltAt' i j) Q st:=by
 rw [ltAt'_eq]
 refine wpS_bind (wpS_get ?_)
 refine wpS_bind (aN hi (wpS_bind (aN hj ?_)))
 rw [lD hi,lD hj] at h
 exact O.ask _ _ _ _ (hI.at hi) (hI.at hj) hk h
theorem iY {st:SortSt} {i j:Nat} {Q:PUnit→SortSt→Prop} (h:Q ⟨⟩ (setArr st (mirror (arrOf st) i j ((j - i)/2)))):wpS M A E s (reverseSlice' i j) Q st:=by
 rw [reverseSlice'_eq]
 exact wpS_modify h
theorem i6 {lo:Nat} {st:SortSt} {i j:Nat} (hi:lo≤i) (hj:j≤(arrOf st).size):SA lo st (setArr st (mirror (arrOf st) i j ((j - i)/2))) :=
 ⟨rfl,rfl,rfl,mirror_perm _ _ _ _,fun k hk=>by
  show G (mirror (arrOf st) i j ((j - i)/2)) k=_
  rw [cq hj,if_neg (by lia)]⟩
noncomputable def SegG (blt:Keyed→Keyed→Bool) (xs:Array Keyed) (lo hi:Nat):Prop:=∀ i j,lo≤i→i≤j→j < hi→blt (G xs j) (G xs i)=false
noncomputable def NI (blt:Keyed→Keyed→Bool) (xs:Array Keyed) (lo hi:Nat):Prop:=∀ i j,lo≤i→i≤j→j < hi→blt (G xs i) (G xs j)=false
theorem SegG.seg {xs:Array Keyed} {lo hi:Nat} (h:SegG blt xs lo hi):Seg blt xs lo hi:=fun i j hi' hj a b c=>by
 have:=h i j a b c
 rwa [lD hi',lD hj] at this
theorem vj (O:Orc M A E s blt k₀ In) {xs:Array Keyed} {lo hi:Nat} (h:SegG blt xs lo hi) (hl:lo < hi) (hx:blt (G xs hi) (G xs (hi - 1))=false):SegG blt xs lo (hi+1):=fun i j a b c=>by
 by_cases hj:j < hi
 ·exact h i j a b hj
 ·have:j=hi:=by lia
  subst this
  by_cases hi':i=j
  ·subst hi';exact O.refl _
  ·exact O.trans _ _ _ (h i (j - 1) a (by lia) (by lia)) hx
theorem gw (O:Orc M A E s blt k₀ In) {xs:Array Keyed} {lo hi:Nat} (h:NI blt xs lo hi) (hl:lo < hi) (hx:blt (G xs (hi - 1)) (G xs hi)=false):NI blt xs lo (hi+1):=fun i j a b c=>by
 by_cases hj:j < hi
 ·exact h i j a b hj
 ·have:j=hi:=by lia
  subst this
  by_cases hi':i=j
  ·subst hi';exact O.refl _
  ·exact O.trans _ _ _ hx (h i (j - 1) a (by lia) (by lia))
theorem lf (O:Orc M A E s blt k₀ In) {st:SortSt} {lo n nrem:Nat} {Q:Option (Option Nat)×Nat→SortSt→Prop} {f:Nat→Option (Option Nat)×Nat→StateT SortSt Sem (ForInStep (Option (Option Nat)×Nat))} (hk:kindOf st=k₀) (hI:AllIn In st) (hn:lo+nrem≤(arrOf st).size) (h1:1≤n) (hnn:n≤nrem) (hs:SegG blt (arrOf st) lo (lo+n))
  (hf:∀ x n (R:ForInStep (Option (Option Nat)×Nat)→SortSt→Prop),1≤n→n < nrem→(blt (G (arrOf st) (lo+n)) (G (arrOf st) (lo+n - 1))=true→R (.done (none,n)) st)→(blt (G (arrOf st) (lo+n)) (G (arrOf st) (lo+n - 1))=false→R (.yield (none,n+1)) st)→wpS M A E s (f x (none,n)) R st)
  (h:∀ m,n≤m→m≤nrem→SegG blt (arrOf st) lo (lo+m)→(m=nrem∨blt (G (arrOf st) (lo+m)) (G (arrOf st) (lo+m - 1))=true)→Q (none,m) st):wpS M A E s (forIn [n:nrem] (none,n) f) Q st:=by
 refine wpS_forRange (I:=fun x c st'=>st'=st∧c=(none,x)∧n≤x∧SegG blt (arrOf st) lo (lo+x)) ?step ?fin ⟨rfl,rfl,Nat.le_refl _,hs⟩
 case fin =>
  rintro c st' ⟨rfl,rfl,h2,h3⟩
  rw [show max n nrem=nrem by lia] at h3 ⊢
  exact h nrem hnn (Nat.le_refl _) h3 (.inl rfl)
 case step =>
  rintro x c st' hx1 hx2 ⟨rfl,rfl,h2,h3⟩
  refine hf x x _ (by lia) hx2 (fun e=>h x h2 (by lia) h3 (.inr e)) fun e=>⟨rfl,rfl,by lia,?_⟩
  have:=vj O h3 (by lia) e
  rwa [show lo+x+1=lo+(x+1) by lia] at this
theorem pO {st:SortSt} {lo hi:Nat} (hs:hi≤(arrOf st).size) (h:NI blt (arrOf st) lo hi):SegG blt (mirror (arrOf st) lo hi ((hi - lo)/2)) lo hi:=fun i j a b c=>by
 rw [cq hs,cq hs,if_pos (by lia),if_pos (by lia)]
 exact h _ _ (by lia) (by lia) (by lia)
theorem uo {xs:Array Keyed} {lo p hi:Nat} (hs:hi≤xs.size) (hp:lo≤p) (h:NI blt xs lo hi) (he:∀ i j,p≤i→i < hi→p≤j→j < hi→blt (G xs i) (G xs j)=false):NI blt (mirror xs p hi ((hi - p)/2)) lo hi:=fun i j a b c=>by
 rw [cq hs,cq hs]
 by_cases hi':p≤i∧i < hi
 ·rw [if_pos hi',if_pos (by lia)]
  exact he _ _ (by lia) (by lia) (by lia) (by lia)
 ·rw [if_neg hi']
  by_cases hj:p≤j∧j < hi
  ·rw [if_pos hj]
   exact h _ _ a (by lia) (by lia)
  ·rw [if_neg hj]
   exact h _ _ a b c
end
end TS
namespace TS
open PySem PyProof.Rows
section
variable {M:Model} {A:Around} {E:Value→Shared→Prop} {s:Shared} {blt:Keyed→Keyed→Bool} {k₀:SortKind} {In:Keyed→Prop}
theorem pM (O:Orc M A E s blt k₀ In) {st:SortSt} {lo nrem:Nat} {Q:Option Nat→SortSt→Prop} (hk:kindOf st=k₀) (hI:AllIn In st) (hn:lo+nrem≤(arrOf st).size) (h1:1≤nrem)
  (h:∀ m st',SA lo st st'→1≤m→m≤nrem→SegG blt (arrOf st') lo (lo+m)→Q (some m) st'):wpS M A E s (countRun' lo nrem) Q st:=by
 have s1:SegG blt (arrOf st) lo (lo+1):=fun i j a b c=>by
  have:i=j:=by first|exact aq (by lia)|lia
  rw [this];exact O.refl _
 refine wpS_bind (lf O (lo:=lo) hk hI hn (Nat.le_refl 1) h1 s1 ?hf ?_)
 case hf =>
  intro x n R hn1 hn2 r1 r2
  refine wpS_bind (du O hk hI (by first|exact aq (by lia)|lia) (by first|exact aq (by lia)|lia) ?_)
  cases e:blt (G (arrOf st) (lo+n)) (G (arrOf st) (lo+n - 1)) with
  | true=>exact wpS_pure (r1 e)
  | false=>exact wpS_pure (r2 e)
 intro n hn1 hn2 hs hor
 refine aw (fun hq=>wpS_pure (h n st (SA.refl lo st) hn1 hn2 hs)) (fun hne=>?_)
 have hne:n≠nrem:=by simpa using hne
 have hlt:=hor.resolve_left hne
 refine aw (fun hgt=>?_) (fun hgt=>?_)
 ·refine wpS_bind (du O hk hI (show lo < _ by first|exact aq (by lia)|lia) (show lo+n - 1 < _ by first|exact aq (by lia)|lia) ?_)
  cases hrose:blt (G (arrOf st) lo) (G (arrOf st) (lo+n - 1)) with
  | true=>exact aw (fun _=>wpS_pure (h n st (SA.refl lo st) hn1 hn2 hs)) (fun z=>absurd rfl z)
  | false =>
   refine aw (fun z=>absurd z Bool.false_ne_true) (fun _=>?_)
   refine wpS_bind (iY ?_)
   have hsa1:=i6 (lo:=lo) (st:=st) (i:=lo) (j:=lo+n) (Nat.le_refl _) (by first|exact aq (by lia)|lia)
   have hall:∀ i j,lo≤i→i < lo+n→lo≤j→j < lo+n→blt (G (arrOf st) i) (G (arrOf st) j)=false:=fun i j a b c d =>
    O.trans _ _ _ (O.trans _ _ _ (hs j (lo+n - 1) c (by first|exact aq (by lia)|lia) (by first|exact aq (by lia)|lia)) hrose) (hs lo i (Nat.le_refl _) a b)
   have hni1:NI blt (mirror (arrOf st) lo (lo+n) ((lo+n - lo)/2)) lo (lo+(n+1)):=by
    have n3:=uo (xs:=arrOf st) (p:=lo) (hi:=lo+n) (by first|exact aq (by lia)|lia) (Nat.le_refl _) (fun i j a b c=>hall i j a (by first|exact aq (by lia)|lia) (by first|exact aq (by lia)|lia) c) hall
    have n4:=gw O n3 (by first|exact aq (by lia)|lia) (by
     rw [cq (by first|exact aq (by lia)|lia),cq (by first|exact aq (by lia)|lia),if_pos (by first|exact aq (by lia)|lia),if_neg (by first|exact aq (by lia)|lia)]
     exact O.trans _ _ _ (O.asymm _ _ hlt) (hall _ _ (by first|exact aq (by lia)|lia) (by first|exact aq (by lia)|lia) (by first|exact aq (by lia)|lia) (by first|exact aq (by lia)|lia)))
    rwa [show lo+n+1=lo+(n+1) by first|exact aq (by lia)|lia] at n4
   have hN:n+1≤nrem:=by first|exact aq (by lia)|lia
   refine wpS_bind (wpS_lift (wpAny_rule ⟨rfl,?_⟩))
   refine wpS_bind (wpS_mono (wpS_forRange (I:=fun x c st'=>SA lo st st'∧∃ neq,c=(none,x,neq)∧n+1≤x∧NI blt (arrOf st') lo (lo+x)∧neq+1≤x∧(∀ i j,lo+x - (neq+1)≤i→i < lo+x→lo+x - (neq+1)≤j→j < lo+x→blt (G (arrOf st') i) (G (arrOf st') j)=false))
    (Q:=fun c st'=>SA lo st st'∧∃ m neq,c=(none,m,neq)∧n+1≤m∧m≤nrem∧NI blt (arrOf st') lo (lo+m)∧neq+1≤m∧(∀ i j,lo+m - (neq+1)≤i→i < lo+m→lo+m - (neq+1)≤j→j < lo+m→blt (G (arrOf st') i) (G (arrOf st') j)=false)) ?step ?fin ⟨hsa1,0,rfl,by first|exact aq (by lia)|lia,hni1,by first|exact aq (by lia)|lia,fun i j a b c d=>by rw [show i=j by first|exact aq (by lia)|lia];exact O.refl _⟩) ?post)
   case fin =>
    rintro c st' ⟨hsa',neq,rfl,h2,h3,h4,h5⟩
    rw [show max (_+1) nrem=nrem by first|exact aq (by lia)|lia] at *
    exact ⟨hsa',nrem,neq,rfl,by first|exact aq (by lia)|lia,Nat.le_refl _,h3,h4,h5⟩
   case post =>
    rintro c st' ⟨hsa',m,neq,rfl,hm1,hm2,hni',hq1,heq⟩
    dsimp only
    have sz:=hsa'.size
    refine aw (fun hneq=>?_) (fun hneq=>?_)
    ·refine wpS_bind (iY ?_)
     have hsa3:=hsa'.trans (i6 (lo:=lo) (i:=lo+m - (neq+1)) (j:=lo+m) (by first|exact aq (by lia)|lia) (by first|exact aq (by lia)|lia))
     have hni3:=uo (xs:=arrOf st') (p:=lo+m - (neq+1)) (by first|exact aq (by lia)|lia) (by first|exact aq (by lia)|lia) hni' (fun i j a b c d=>heq i j a b c d)
     have sz3:=hsa3.size
     refine wpS_bind (iY ?_)
     have hsa4:=hsa3.trans (i6 (lo:=lo) (i:=lo) (j:=lo+m) (Nat.le_refl _) (by first|exact aq (by lia)|lia))
     have sg4:=pO (st:=setArr st' (mirror (arrOf st') (lo+m - (neq+1)) (lo+m) ((lo+m - (lo+m - (neq+1)))/2))) (by first|exact aq (by lia)|lia) hni3
     have sz4:=hsa4.size
     refine wpS_bind (lf O (lo:=lo) (n:=m) (hsa4.kind.trans hk) (hI.sa hsa4) (by first|exact aq (by lia)|lia) (by first|exact aq (by lia)|lia) hm2 sg4 ?hf ?_)
     case hf =>
      intro x n' R hn1' hn2' r1 r2
      refine wpS_bind (du O (hsa4.kind.trans hk) (hI.sa hsa4) (by first|exact aq (by lia)|lia) (by first|exact aq (by lia)|lia) ?_)
      split
      ·rename_i smaller heq'
       have heq':blt _ _=smaller:=Option.some.inj heq'
       cases smaller with
       | true=>exact wpS_pure (r1 heq')
       | false=>exact wpS_pure (r2 heq')
      ·rename_i hno
       exact absurd rfl (hno _)
     intro m' h1' h2' h3' _
     exact wpS_pure (h m' _ hsa4 (by first|exact aq (by lia)|lia) h2' h3')
    ·have hsa3:=hsa'
     have hni3:=hni'
     have sz3:=hsa3.size
     refine wpS_bind (iY ?_)
     have hsa4:=hsa3.trans (i6 (lo:=lo) (i:=lo) (j:=lo+m) (Nat.le_refl _) (by first|exact aq (by lia)|lia))
     have sg4:=pO (st:=st') (by first|exact aq (by lia)|lia) hni3
     have sz4:=hsa4.size
     refine wpS_bind (lf O (lo:=lo) (n:=m) (hsa4.kind.trans hk) (hI.sa hsa4) (by first|exact aq (by lia)|lia) (by first|exact aq (by lia)|lia) hm2 sg4 ?hf2 ?_)
     case hf2 =>
      intro x n' R hn1' hn2' r1 r2
      refine wpS_bind (du O (hsa4.kind.trans hk) (hI.sa hsa4) (by first|exact aq (by lia)|lia) (by first|exact aq (by lia)|lia) ?_)
      split
      ·rename_i smaller heq'
       have heq':blt _ _=smaller:=Option.some.inj heq'
       cases smaller with
       | true=>exact wpS_pure (r1 heq')
       | false=>exact wpS_pure (r2 heq')
      ·rename_i hno
       exact absurd rfl (hno _)
     intro m' h1' h2' h3' _
     exact wpS_pure (h m' _ hsa4 (by first|exact aq (by lia)|lia) h2' h3')
   case step =>
    rintro x c st' hx1 hx2 ⟨hsa',neq,rfl,h2,hni',hq1,heq⟩
    have sz:=hsa'.size
    refine wpS_bind (du O (hsa'.kind.trans hk) (hI.sa hsa') (show lo+x < _ by first|exact aq (by lia)|lia) (show lo+x - 1 < _ by first|exact aq (by lia)|lia) ?_)
    cases e:blt (G (arrOf st') (lo+x)) (G (arrOf st') (lo+x - 1)) with
    | true =>
     have up:=gw O hni' (by first|exact aq (by lia)|lia) (O.asymm _ _ e)
     refine aw (fun _=>?_) (fun z=>absurd rfl z)
     refine aw (fun hneq=>?_) (fun hneq=>?_)
     ·refine wpS_bind (iY ?_)
      refine wpS_pure ⟨hsa'.trans (i6 (i:=lo+x - (neq+1)) (j:=lo+x) (by first|exact aq (by lia)|lia) (by first|exact aq (by lia)|lia)),0,rfl,by first|exact aq (by lia)|lia,?_,by first|exact aq (by lia)|lia,fun i j a b c d=>by rw [show i=j by first|exact aq (by lia)|lia];exact O.refl _⟩
      have n3:=uo (xs:=arrOf st') (p:=lo+x - (neq+1)) (hi:=lo+x) (by first|exact aq (by lia)|lia) (by first|exact aq (by lia)|lia) hni' (fun i j a b c d=>heq i j a b c d)
      have n4:=gw O n3 (by first|exact aq (by lia)|lia) (by
       rw [cq (by first|exact aq (by lia)|lia),cq (by first|exact aq (by lia)|lia),if_pos (by first|exact aq (by lia)|lia),if_neg (by first|exact aq (by lia)|lia)]
       exact O.trans _ _ _ (O.asymm _ _ e) (hni' _ _ (by first|exact aq (by lia)|lia) (by first|exact aq (by lia)|lia) (by first|exact aq (by lia)|lia)))
      rwa [show lo+x+1=lo+(x+1) by first|exact aq (by lia)|lia] at n4
     ·refine wpS_pure ⟨hsa',0,rfl,by first|exact aq (by lia)|lia,?_,by first|exact aq (by lia)|lia,fun i j a b c d=>by rw [show i=j by first|exact aq (by lia)|lia];exact O.refl _⟩
      rwa [show lo+x+1=lo+(x+1) by first|exact aq (by lia)|lia] at up
    | false =>
     refine aw (fun z=>absurd z Bool.false_ne_true) (fun _=>?_)
     refine wpS_bind (du O (hsa'.kind.trans hk) (hI.sa hsa') (show lo+x - 1 < _ by first|exact aq (by lia)|lia) (show lo+x < _ by first|exact aq (by lia)|lia) ?_)
     cases e2:blt (G (arrOf st') (lo+x - 1)) (G (arrOf st') (lo+x)) with
     | true=>exact aw (fun _=>wpS_pure ⟨hsa',x,neq,rfl,by first|exact aq (by lia)|lia,by first|exact aq (by lia)|lia,hni',hq1,heq⟩) (fun z=>absurd rfl z)
     | false =>
      refine aw (fun z=>absurd z Bool.false_ne_true) (fun _=>wpS_pure ⟨hsa',neq+1,rfl,by first|exact aq (by lia)|lia,?_,by first|exact aq (by lia)|lia,fun i j a b c d=>?_⟩)
      ·have up:=gw O hni' (by first|exact aq (by lia)|lia) e2
       rwa [show lo+x+1=lo+(x+1) by first|exact aq (by lia)|lia] at up
      ·have q1:∀ k,lo+x - (neq+1)≤k→k < lo+x→blt (G (arrOf st') k) (G (arrOf st') (lo+x))=false∧blt (G (arrOf st') (lo+x)) (G (arrOf st') k)=false:=fun k k1 k2 =>
        ⟨O.trans _ _ _ e2 (heq k (lo+x - 1) k1 k2 (by first|exact aq (by lia)|lia) (by first|exact aq (by lia)|lia)),O.trans _ _ _ (heq (lo+x - 1) k (by first|exact aq (by lia)|lia) (by first|exact aq (by lia)|lia) k1 k2) e⟩
       by_cases hi':i=lo+x
       ·by_cases hj':j=lo+x
        ·rw [hi',hj'];exact O.refl _
        ·rw [hi'];exact (q1 j (by first|exact aq (by lia)|lia) (by first|exact aq (by lia)|lia)).2
       ·by_cases hj':j=lo+x
        ·rw [hj'];exact (q1 i (by first|exact aq (by lia)|lia) (by first|exact aq (by lia)|lia)).1
        ·exact heq i j (by first|exact aq (by lia)|lia) (by first|exact aq (by lia)|lia) (by first|exact aq (by lia)|lia) (by first|exact aq (by lia)|lia)
 ·have hgt:¬ (n > 1):=hgt
  have n1:n=1:=by first|exact aq (by lia)|lia
  have hni1:NI blt (arrOf st) lo (lo+(n+1)):=by
   have:=gw O (lo:=lo) (hi:=lo+n) (xs:=arrOf st) (fun i j a b c=>by
    have:i=j:=by first|exact aq (by lia)|lia
    rw [this];exact O.refl _) (by first|exact aq (by lia)|lia) (O.asymm _ _ hlt)
   rwa [show lo+n+1=lo+(n+1) by first|exact aq (by lia)|lia] at this
  have hsa1:=SA.refl lo st
  have hN:n+1≤nrem:=by first|exact aq (by lia)|lia
  refine wpS_bind (wpS_lift (wpAny_rule ⟨rfl,?_⟩))
  refine wpS_bind (wpS_mono (wpS_forRange (I:=fun x c st'=>SA lo st st'∧∃ neq,c=(none,x,neq)∧n+1≤x∧NI blt (arrOf st') lo (lo+x)∧neq+1≤x∧(∀ i j,lo+x - (neq+1)≤i→i < lo+x→lo+x - (neq+1)≤j→j < lo+x→blt (G (arrOf st') i) (G (arrOf st') j)=false))
   (Q:=fun c st'=>SA lo st st'∧∃ m neq,c=(none,m,neq)∧n+1≤m∧m≤nrem∧NI blt (arrOf st') lo (lo+m)∧neq+1≤m∧(∀ i j,lo+m - (neq+1)≤i→i < lo+m→lo+m - (neq+1)≤j→j < lo+m→blt (G (arrOf st') i) (G (arrOf st') j)=false)) ?step ?fin ⟨hsa1,0,rfl,by first|exact aq (by lia)|lia,hni1,by first|exact aq (by lia)|lia,fun i j a b c d=>by rw [show i=j by first|exact aq (by lia)|lia];exact O.refl _⟩) ?post)
  case fin =>
   rintro c st' ⟨hsa',neq,rfl,h2,h3,h4,h5⟩
   rw [show max (_+1) nrem=nrem by first|exact aq (by lia)|lia] at *
   exact ⟨hsa',nrem,neq,rfl,by first|exact aq (by lia)|lia,Nat.le_refl _,h3,h4,h5⟩
  case post =>
   rintro c st' ⟨hsa',m,neq,rfl,hm1,hm2,hni',hq1,heq⟩
   dsimp only
   have sz:=hsa'.size
   refine aw (fun hneq=>?_) (fun hneq=>?_)
   ·refine wpS_bind (iY ?_)
    have hsa3:=hsa'.trans (i6 (lo:=lo) (i:=lo+m - (neq+1)) (j:=lo+m) (by first|exact aq (by lia)|lia) (by first|exact aq (by lia)|lia))
    have hni3:=uo (xs:=arrOf st') (p:=lo+m - (neq+1)) (by first|exact aq (by lia)|lia) (by first|exact aq (by lia)|lia) hni' (fun i j a b c d=>heq i j a b c d)
    have sz3:=hsa3.size
    refine wpS_bind (iY ?_)
    have hsa4:=hsa3.trans (i6 (lo:=lo) (i:=lo) (j:=lo+m) (Nat.le_refl _) (by first|exact aq (by lia)|lia))
    have sg4:=pO (st:=setArr st' (mirror (arrOf st') (lo+m - (neq+1)) (lo+m) ((lo+m - (lo+m - (neq+1)))/2))) (by first|exact aq (by lia)|lia) hni3
    have sz4:=hsa4.size
    refine wpS_bind (lf O (lo:=lo) (n:=m) (hsa4.kind.trans hk) (hI.sa hsa4) (by first|exact aq (by lia)|lia) (by first|exact aq (by lia)|lia) hm2 sg4 ?hf ?_)
    case hf =>
     intro x n' R hn1' hn2' r1 r2
     refine wpS_bind (du O (hsa4.kind.trans hk) (hI.sa hsa4) (by first|exact aq (by lia)|lia) (by first|exact aq (by lia)|lia) ?_)
     split
     ·rename_i smaller heq'
      have heq':blt _ _=smaller:=Option.some.inj heq'
      cases smaller with
      | true=>exact wpS_pure (r1 heq')
      | false=>exact wpS_pure (r2 heq')
     ·rename_i hno
      exact absurd rfl (hno _)
    intro m' h1' h2' h3' _
    exact wpS_pure (h m' _ hsa4 (by first|exact aq (by lia)|lia) h2' h3')
   ·have hsa3:=hsa'
    have hni3:=hni'
    have sz3:=hsa3.size
    refine wpS_bind (iY ?_)
    have hsa4:=hsa3.trans (i6 (lo:=lo) (i:=lo) (j:=lo+m) (Nat.le_refl _) (by first|exact aq (by lia)|lia))
    have sg4:=pO (st:=st') (by first|exact aq (by lia)|lia) hni3
    have sz4:=hsa4.size
    refine wpS_bind (lf O (lo:=lo) (n:=m) (hsa4.kind.trans hk) (hI.sa hsa4) (by first|exact aq (by lia)|lia) (by first|exact aq (by lia)|lia) hm2 sg4 ?hf2 ?_)
    case hf2 =>
     intro x n' R hn1' hn2' r1 r2
     refine wpS_bind (du O (hsa4.kind.trans hk) (hI.sa hsa4) (by first|exact aq (by lia)|lia) (by first|exact aq (by lia)|lia) ?_)
     split
     ·rename_i smaller heq'
      have heq':blt _ _=smaller:=Option.some.inj heq'
      cases smaller with
      | true=>exact wpS_pure (r1 heq')
      | false=>exact wpS_pure (r2 heq')
     ·rename_i hno
      exact absurd rfl (hno _)
    intro m' h1' h2' h3' _
    exact wpS_pure (h m' _ hsa4 (by first|exact aq (by lia)|lia) h2' h3')
  case step =>
   rintro x c st' hx1 hx2 ⟨hsa',neq,rfl,h2,hni',hq1,heq⟩
   have sz:=hsa'.size
   refine wpS_bind (du O (hsa'.kind.trans hk) (hI.sa hsa') (show lo+x < _ by first|exact aq (by lia)|lia) (show lo+x - 1 < _ by first|exact aq (by lia)|lia) ?_)
   cases e:blt (G (arrOf st') (lo+x)) (G (arrOf st') (lo+x - 1)) with
   | true =>
    have up:=gw O hni' (by first|exact aq (by lia)|lia) (O.asymm _ _ e)
    refine aw (fun _=>?_) (fun z=>absurd rfl z)
    refine aw (fun hneq=>?_) (fun hneq=>?_)
    ·refine wpS_bind (iY ?_)
     refine wpS_pure ⟨hsa'.trans (i6 (i:=lo+x - (neq+1)) (j:=lo+x) (by first|exact aq (by lia)|lia) (by first|exact aq (by lia)|lia)),0,rfl,by first|exact aq (by lia)|lia,?_,by first|exact aq (by lia)|lia,fun i j a b c d=>by rw [show i=j by first|exact aq (by lia)|lia];exact O.refl _⟩
     have n3:=uo (xs:=arrOf st') (p:=lo+x - (neq+1)) (hi:=lo+x) (by first|exact aq (by lia)|lia) (by first|exact aq (by lia)|lia) hni' (fun i j a b c d=>heq i j a b c d)
     have n4:=gw O n3 (by first|exact aq (by lia)|lia) (by
      rw [cq (by first|exact aq (by lia)|lia),cq (by first|exact aq (by lia)|lia),if_pos (by first|exact aq (by lia)|lia),if_neg (by first|exact aq (by lia)|lia)]
      exact O.trans _ _ _ (O.asymm _ _ e) (hni' _ _ (by first|exact aq (by lia)|lia) (by first|exact aq (by lia)|lia) (by first|exact aq (by lia)|lia)))
     rwa [show lo+x+1=lo+(x+1) by first|exact aq (by lia)|lia] at n4
    ·refine wpS_pure ⟨hsa',0,rfl,by first|exact aq (by lia)|lia,?_,by first|exact aq (by lia)|lia,fun i j a b c d=>by rw [show i=j by first|exact aq (by lia)|lia];exact O.refl _⟩
     rwa [show lo+x+1=lo+(x+1) by first|exact aq (by lia)|lia] at up
   | false =>
    refine aw (fun z=>absurd z Bool.false_ne_true) (fun _=>?_)
    refine wpS_bind (du O (hsa'.kind.trans hk) (hI.sa hsa') (show lo+x - 1 < _ by first|exact aq (by lia)|lia) (show lo+x < _ by first|exact aq (by lia)|lia) ?_)
    cases e2:blt (G (arrOf st') (lo+x - 1)) (G (arrOf st') (lo+x)) with
    | true=>exact aw (fun _=>wpS_pure ⟨hsa',x,neq,rfl,by first|exact aq (by lia)|lia,by first|exact aq (by lia)|lia,hni',hq1,heq⟩) (fun z=>absurd rfl z)
    | false =>
     refine aw (fun z=>absurd z Bool.false_ne_true) (fun _=>wpS_pure ⟨hsa',neq+1,rfl,by first|exact aq (by lia)|lia,?_,by first|exact aq (by lia)|lia,fun i j a b c d=>?_⟩)
     ·have up:=gw O hni' (by first|exact aq (by lia)|lia) e2
      rwa [show lo+x+1=lo+(x+1) by first|exact aq (by lia)|lia] at up
     ·have q1:∀ k,lo+x - (neq+1)≤k→k < lo+x→blt (G (arrOf st') k) (G (arrOf st') (lo+x))=false∧blt (G (arrOf st') (lo+x)) (G (arrOf st') k)=false:=fun k k1 k2 =>
       ⟨O.trans _ _ _ e2 (heq k (lo+x - 1) k1 k2 (by first|exact aq (by lia)|lia) (by first|exact aq (by lia)|lia)),O.trans _ _ _ (heq (lo+x - 1) k (by first|exact aq (by lia)|lia) (by first|exact aq (by lia)|lia) k1 k2) e⟩
      by_cases hi':i=lo+x
      ·by_cases hj':j=lo+x
       ·rw [hi',hj'];exact O.refl _
       ·rw [hi'];exact (q1 j (by first|exact aq (by lia)|lia) (by first|exact aq (by lia)|lia)).2
      ·by_cases hj':j=lo+x
       ·rw [hj'];exact (q1 i (by first|exact aq (by lia)|lia) (by first|exact aq (by lia)|lia)).1
       ·exact heq i j (by first|exact aq (by lia)|lia) (by first|exact aq (by lia)|lia) (by first|exact aq (by lia)|lia) (by first|exact aq (by lia)|lia)
end
end TS
namespace TS
open PySem PyProof.Rows
section
variable {M:Model} {A:Around} {E:Value→Shared→Prop} {s:Shared} {blt:Keyed→Keyed→Bool} {k₀:SortKind} {In:Keyed→Prop}
theorem ym {lo:Nat} {st:SortSt} {src d:Nat} (h:lo≤src - d) (hd:d≤src) (hs:src < (arrOf st).size):SA lo st (setArr st (bubble (arrOf st) src d)) :=
 ⟨rfl,rfl,rfl,bubble_perm _ _ _,fun k hk=>by
  show G (bubble (arrOf st) src d) k=_
  rw [mZ hs hd,if_neg (by first|exact bz (by assumption) (by lia)|exact bw (by assumption) (by lia)|lia),if_neg (by first|exact bz (by assumption) (by lia)|exact bw (by assumption) (by lia)|lia)]⟩
theorem tT (O:Orc M A E s blt k₀ In) {st:SortSt} {lo n ok:Nat} {Q:Bool→SortSt→Prop} (hk:kindOf st=k₀) (hI:AllIn In st) (hn:lo+n≤(arrOf st).size) (hok:ok≤n) (h1:1≤ok) (hs:SegG blt (arrOf st) lo (lo+ok))
  (h:∀ st',SA lo st st'→SegG blt (arrOf st') lo (lo+n)→Q true st'):wpS M A E s (binarySort' lo n ok) Q st:=by
 refine wpS_bind (wpS_mono (wpS_forRange (I:=fun k c st'=>c=(none,())∧SA lo st st'∧SegG blt (arrOf st') lo (lo+k))
  (Q:=fun c st'=>c=(none,())∧SA lo st st'∧SegG blt (arrOf st') lo (lo+n)) ?step ?fin ⟨rfl,SA.refl lo st,by rw [show max ok 1=ok by first|exact bz (by assumption) (by lia)|exact bw (by assumption) (by lia)|lia];exact hs⟩) ?post)
 case post =>
  rintro c st' ⟨rfl,hsa,hsg⟩
  exact wpS_pure (h st' hsa hsg)
 case fin =>
  rintro c st' ⟨rfl,hsa,hsg⟩
  rw [show max (max ok 1) n=n by first|exact bz (by assumption) (by lia)|exact bw (by assumption) (by lia)|lia] at hsg
  exact ⟨rfl,hsa,hsg⟩
 case step =>
  rintro k c st1 hk1 hk2 ⟨rfl,hsa,hsg⟩
  have sz:=hsa.size
  have hk':lo+k < (arrOf st1).size:=by first|exact bz (by assumption) (by lia)|exact bw (by assumption) (by lia)|lia
  refine wpS_bind (wpS_mono (wpS_forRange (I:=fun x c st'=>st'=st1∧∃ l r,c=(none,l,r)∧l≤r∧r≤k∧r - l≤k - x∧(∀ i,lo≤i→i < lo+l→blt (G (arrOf st1) (lo+k)) (G (arrOf st1) i)=false)∧(∀ i,lo+r≤i→i < lo+k→blt (G (arrOf st1) (lo+k)) (G (arrOf st1) i)=true))
   (Q:=fun c st'=>st'=st1∧∃ l r,c=(none,l,r)∧l=r∧r≤k∧(∀ i,lo≤i→i < lo+l→blt (G (arrOf st1) (lo+k)) (G (arrOf st1) i)=false)∧(∀ i,lo+r≤i→i < lo+k→blt (G (arrOf st1) (lo+k)) (G (arrOf st1) i)=true)) ?step1 ?fin1 ⟨rfl,0,k,rfl,by first|exact bz (by assumption) (by lia)|exact bw (by assumption) (by lia)|lia,by first|exact bz (by assumption) (by lia)|exact bw (by assumption) (by lia)|lia,by first|exact bz (by assumption) (by lia)|exact bw (by assumption) (by lia)|lia,fun i a b=>by first|exact bz (by assumption) (by lia)|exact bw (by assumption) (by lia)|lia,fun i a b=>by first|exact bz (by assumption) (by lia)|exact bw (by assumption) (by lia)|lia⟩) ?post1)
  case fin1 =>
   rintro c st' ⟨rfl,l,r,rfl,a1,a2,a3,a4,a5⟩
   exact ⟨rfl,l,r,rfl,by first|exact bz (by assumption) (by lia)|exact bw (by assumption) (by lia)|lia,a2,a4,a5⟩
  case step1 =>
   rintro x c st' _ hx ⟨rfl,l,r,rfl,a1,a2,a3,a4,a5⟩
   refine aw (fun hge=>?_) (fun hge=>?_)
   ·have hge:l ≥ r:=hge
    exact wpS_pure ⟨rfl,l,r,rfl,by first|exact bz (by assumption) (by lia)|exact bw (by assumption) (by lia)|lia,a2,a4,a5⟩
   ·have hge:¬ (l ≥ r):=hge
    have hm:lo+(l+r)/2 < (arrOf st').size:=by first|exact bz (by assumption) (by lia)|exact bw (by assumption) (by lia)|lia
    refine wpS_bind (du O (hsa.kind.trans hk) (hI.sa hsa) hk' hm ?_)
    cases e:blt (G (arrOf st') (lo+k)) (G (arrOf st') (lo+(l+r)/2)) with
    | true =>
     refine aw (fun _=>wpS_pure ⟨rfl,l,(l+r)/2,rfl,by first|exact bz (by assumption) (by lia)|exact bw (by assumption) (by lia)|lia,by first|exact bz (by assumption) (by lia)|exact bw (by assumption) (by lia)|lia,by first|exact bz (by assumption) (by lia)|exact bw (by assumption) (by lia)|lia,a4,fun i b1 b2=>?_⟩) (fun z=>absurd rfl z)
     exact O.le_lt e (hsg (lo+(l+r)/2) i (by first|exact bz (by assumption) (by lia)|exact bw (by assumption) (by lia)|lia) (by first|exact bz (by assumption) (by lia)|exact bw (by assumption) (by lia)|lia) (by first|exact bz (by assumption) (by lia)|exact bw (by assumption) (by lia)|lia))
    | false =>
     refine aw (fun z=>absurd z Bool.false_ne_true) (fun _=>wpS_pure ⟨rfl,(l+r)/2+1,r,rfl,by first|exact bz (by assumption) (by lia)|exact bw (by assumption) (by lia)|lia,by first|exact bz (by assumption) (by lia)|exact bw (by assumption) (by lia)|lia,by first|exact bz (by assumption) (by lia)|exact bw (by assumption) (by lia)|lia,fun i b1 b2=>?_,a5⟩)
     exact O.trans _ _ _ (hsg i (lo+(l+r)/2) b1 (by first|exact bz (by assumption) (by lia)|exact bw (by assumption) (by lia)|lia) (by first|exact bz (by assumption) (by lia)|exact bw (by assumption) (by lia)|lia)) e
  case post1 =>
   rintro c st' ⟨rfl,l,r,rfl,rfl,a2,a4,a5⟩
   have e:(lo+k) - (lo+l)=k - l:=by first|exact bz (by assumption) (by lia)|exact bw (by assumption) (by lia)|lia
   have md:∀ (R:PUnit→SortSt→Prop),R ⟨⟩ (setArr st' (bubble (arrOf st') (lo+k) (lo+k - (lo+l))))→wpS M A E s (moveDown' (lo+k) (lo+l)) R st':=fun R hr=>by
    rw [moveDown'_eq];exact wpS_modify hr
   refine wpS_bind (md _ (wpS_pure ⟨rfl,hsa.trans (ym (by first|exact bz (by assumption) (by lia)|exact bw (by assumption) (by lia)|lia) (by first|exact bz (by assumption) (by lia)|exact bw (by assumption) (by lia)|lia) hk'),fun i j b1 b2 b3=>?_⟩))
   show blt (G (bubble (arrOf st') (lo+k) (lo+k - (lo+l))) j) (G (bubble (arrOf st') (lo+k) (lo+k - (lo+l))) i)=false
   rw [mZ hk' (by first|exact bz (by assumption) (by lia)|exact bw (by assumption) (by lia)|lia),mZ hk' (by first|exact bz (by assumption) (by lia)|exact bw (by assumption) (by lia)|lia),show lo+k - (lo+k - (lo+l))=lo+l by first|exact bz (by assumption) (by lia)|exact bw (by assumption) (by lia)|lia]
   repeat' split
   all_goals first
    | (exfalso;lia)
    | exact O.refl _
    | exact a4 _ (by first|exact bz (by assumption) (by lia)|exact bw (by assumption) (by lia)|lia) (by first|exact bz (by assumption) (by lia)|exact bw (by assumption) (by lia)|lia)
    | exact O.asymm _ _ (a5 _ (by first|exact bz (by assumption) (by lia)|exact bw (by assumption) (by lia)|lia) (by first|exact bz (by assumption) (by lia)|exact bw (by assumption) (by lia)|lia))
    | exact hsg _ _ (by first|exact bz (by assumption) (by lia)|exact bw (by assumption) (by lia)|lia) (by first|exact bz (by assumption) (by lia)|exact bw (by assumption) (by lia)|lia) (by first|exact bz (by assumption) (by lia)|exact bw (by assumption) (by lia)|lia)
noncomputable def splice (xs:Array Keyed) (off:Nat) (l:List Keyed) (n:Nat):Array Keyed:=(l.zipIdx n).foldl (fun a (p,j)=>a.setIfInBounds (off+j) p) xs
theorem hZ:∀ (l:List Keyed) (xs:Array Keyed) (off n:Nat),off+n+l.length≤xs.size→(splice xs off l n).toList=xs.toList.take (off+n)++l++xs.toList.drop (off+n+l.length)
 | [],xs,off,n,h=>by
  show xs.toList=_
  simp
 | x::r,xs,off,n,h=>by
  rw [List.length_cons] at h
  have ih:=hZ r (xs.setIfInBounds (off+n) x) off (n+1) (by simp;lia)
  show (splice (xs.setIfInBounds (off+n) x) off r (n+1)).toList=_
  rw [ih]
  have hs:off+n < xs.toList.length:=by rw [Array.length_toList];lia
  have e:(xs.setIfInBounds (off+n) x).toList=xs.toList.take (off+n)++x::xs.toList.drop (off+n+1):=by
   rw [Array.toList_setIfInBounds,List.set_eq_take_append_cons_drop,if_pos hs]
  have hl:(xs.toList.take (off+n)).length=off+n:=by rw [List.length_take];lia
  rw [e,show off+(n+1)=(xs.toList.take (off+n)).length+1 by first|exact bz (by assumption) (by lia)|exact bw (by assumption) (by lia)|lia,List.take_length_add_append,List.length_cons]
  rw [show (xs.toList.take (off+n)).length+1+r.length=(xs.toList.take (off+n)).length+(1+r.length) by first|exact bz (by assumption) (by lia)|exact bw (by assumption) (by lia)|lia,List.drop_length_add_append]
  rw [List.take_succ_cons,List.take_zero,show 1+r.length=r.length+1 by first|exact bz (by assumption) (by lia)|exact bw (by assumption) (by lia)|lia,List.drop_succ_cons,List.drop_drop]
  simp [show off+n+1+r.length=off+n+(r.length+1) by first|exact bz (by assumption) (by lia)|exact bw (by assumption) (by lia)|lia]
end
end TS
namespace TS
open PySem PyProof.Rows
theorem uf (xs:Array Keyed) (i:Nat):G xs i=(xs.toList[i]?).getD (.none,.none):=by unfold G;rw [Array.getElem?_toList]
theorem mU {xs:Array Keyed} {off:Nat} {l:List Keyed} (h:off+l.length≤xs.size) (i:Nat):G (splice xs off l 0) i=if off≤i∧i < off+l.length then (l[i - off]?).getD (.none,.none) else G xs i:=by
 rw [uf,hZ l xs off 0 (by lia),Nat.add_zero]
 have hl:(xs.toList.take off).length=off:=by rw [List.length_take,Array.length_toList];lia
 by_cases h1:i < off
 ·rw [if_neg (by lia),List.append_assoc,List.getElem?_append_left (by lia),List.getElem?_take_of_lt h1,← uf]
 ·by_cases h2:i < off+l.length
  ·rw [if_pos (by lia),List.getElem?_append_left (by rw [List.length_append];lia),List.getElem?_append_right (by lia),hl]
  ·rw [if_neg (by lia),List.getElem?_append_right (by rw [List.length_append];lia),List.length_append,hl,List.getElem?_drop,show off+l.length+(i - (off+l.length))=i by lia,← uf]
theorem oQ {xs:Array Keyed} {off:Nat} {l:List Keyed} (h:off+l.length≤xs.size) (hp:l.Perm ((xs.toList.drop off).take l.length)):(splice xs off l 0).Perm xs:=by
 rw [Array.perm_iff_toList_perm,hZ l xs off 0 (by lia),Nat.add_zero]
 have e:xs.toList=xs.toList.take off++(xs.toList.drop off).take l.length++xs.toList.drop (off+l.length):=by
  rw [List.append_assoc,← List.drop_drop,List.take_append_drop,List.take_append_drop]
 refine List.Perm.trans ?_ (List.Perm.of_eq e.symm)
 exact ((hp.append_left _)).append_right _
section
variable {M:Model} {A:Around} {E:Value→Shared→Prop} {s:Shared} {blt:Keyed→Keyed→Bool} {k₀:SortKind} {In:Keyed→Prop}
theorem zg {x:SortSt} {Q:PUnit→SortSt→Prop} {st:SortSt} (h:Q ⟨⟩ x):wpS M A E s (set x:StateT SortSt Sem PUnit) Q st:=by
 unfold wpS;rw [StateT.run_set];exact wpAny_pure ⟨rfl,h⟩
structure MA (sa hi:Nat) (P:Array (Nat×Nat×Nat)) (blt:Keyed→Keyed→Bool) (st st':SortSt):Prop where
 kind:kindOf st'=kindOf st
 pend:pendingOf st'=P
 failed:failedOf st'=failedOf st
 perm:(arrOf st').Perm (arrOf st)
 out:∀ k,k < sa∨hi≤k→G (arrOf st') k=G (arrOf st) k
 seg:SegG blt (arrOf st') sa hi
theorem tS {xs:Array Keyed} {lo hi i j:Nat} (h:SegG blt xs lo hi) (hi':hi≤xs.size) (h1:lo≤i) (h2:j≤hi):Seg blt (xs.extract i j) 0 (xs.extract i j).size:=fun p q hp hq _ hpq _=>by
 rw [Array.size_extract] at hp hq
 rw [Array.getElem_extract,Array.getElem_extract]
 have:=h (i+p) (i+q) (by lia) (by lia) (by lia)
 rwa [lD (by lia),lD (by lia)] at this
theorem re (O:Orc M A E s blt k₀ In) {st:SortSt} {i sa na pw sb nb qw:Nat} {Q:Bool→SortSt→Prop} (h1:(pendingOf st)[i]?=some (sa,na,pw)) (h2:(pendingOf st)[i+1]?=some (sb,nb,qw)) (hk:kindOf st=k₀) (hI:AllIn In st) (hf:failedOf st=none)
  (ha:1≤na) (hb:1≤nb) (hab:sb=sa+na) (hz:sb+nb≤(arrOf st).size) (sga:SegG blt (arrOf st) sa sb) (sgb:SegG blt (arrOf st) sb (sb+nb))
  (hq:∀ st',MA sa (sb+nb) (((pendingOf st).setIfInBounds i (sa,na+nb,pw)).eraseIdxIfInBounds (i+1)) blt st st'→Q true st'):wpS M A E s (mergeAt' i) Q st:=by
 have hA:∀ j (h:j < (arrOf st).size),In (arrOf st)[j]:=fun j h=>hI.at h
 refine wpS_bind (wpS_get ?_)
 rw [h1,h2]
 refine wpS_bind (zg ?_)
 have ib:sb < (arrOf st).size:=by lia
 refine wpS_bind (aN ib ?_)
 refine wpS_bind (cU O (arr:=arrOf st) (base:=sa) (n:=na) (hint:=0) (by lia) (by lia) (hA _ _) hA hk (by rw [← hab];exact sga.seg) fun k hkn u1 u2=>?_)
 have u1':∀ j,sa≤j→j < sa+k→blt (G (arrOf st) sb) (G (arrOf st) j)=false:=fun j a b=>by
  rw [lD ib,lD (show j < _ by lia)]
  exact qR (by have:=u1 (j - sa) (by lia) (by lia);simpa only [show sa+(j - sa)=j by lia] using this)
 have u2':∀ j,sa+k≤j→j < sb→blt (G (arrOf st) sb) (G (arrOf st) j)=true:=fun j a b=>by
  rw [lD ib,lD (show j < _ by lia)]
  exact qR (by have:=u2 (j - sa) (by lia) (by lia) (by lia);simpa only [show sa+(j - sa)=j by lia] using this)
 have same:∀ (sg:SegG blt (arrOf st) sa (sb+nb)),MA sa (sb+nb) (((pendingOf st).setIfInBounds i (sa,na+nb,pw)).eraseIdxIfInBounds (i+1)) blt st (SortSt.mk' (kindOf st) (arrOf st) (((pendingOf st).setIfInBounds i (sa,na+nb,pw)).eraseIdxIfInBounds (i+1)) (gallopOf st) (failedOf st)):=fun sg=>⟨rfl,rfl,rfl,Array.Perm.refl _,fun _ _=>rfl,sg⟩
 refine aw (fun hn0=>wpS_pure (hq _ (same fun p q a b c=>?_))) (fun hn0=>?_)
 ·have hn0:na - k=0:=by simpa using hn0
  by_cases hp:p < sb
  ·by_cases hq':q < sb
   ·exact sga p q a b hq'
   ·exact O.trans _ _ _ (u1' p a (by lia)) (sgb sb q (Nat.le_refl _) (by lia) c)
  ·exact sgb p q (by lia) b c
 have hn0:na - k≠0:=by simpa using hn0
 have il:sa+k+(na - k) - 1 < (arrOf st).size:=by lia
 refine wpS_bind (aN il ?_)
 refine wpS_bind (cU O (arr:=arrOf st) (base:=sb) (n:=nb) (hint:=nb - 1) (by lia) (by lia) (hA _ _) hA hk sgb.seg fun m hmn v1 v2=>?_)
 have el:sa+k+(na - k) - 1=sb - 1:=by lia
 have v1':∀ j,sb≤j→j < sb+m→blt (G (arrOf st) j) (G (arrOf st) (sb - 1))=true:=fun j a b=>by
  rw [← el,lD il,lD (show j < _ by lia)]
  exact ly (by have:=v1 (j - sb) (by lia) (by lia);simpa only [show sb+(j - sb)=j by lia] using this)
 have v2':∀ j,sb+m≤j→j < sb+nb→blt (G (arrOf st) j) (G (arrOf st) (sb - 1))=false:=fun j a b=>by
  rw [← el,lD il,lD (show j < _ by lia)]
  exact ly (by have:=v2 (j - sb) (by lia) (by lia) (by lia);simpa only [show sb+(j - sb)=j by lia] using this)
 refine aw (fun hm0=>wpS_pure (hq _ (same fun p q a b c=>?_))) (fun hm0=>?_)
 ·have hm0:m=0:=by simpa using hm0
  by_cases hp:p < sb
  ·by_cases hq':q < sb
   ·exact sga p q a b hq'
   ·exact O.trans _ _ _ (sga p (sb - 1) a (by lia) (by lia)) (v2' q (by lia) c)
  ·exact sgb p q (by lia) b c
 have hm0:m≠0:=by simpa using hm0
 -- the two stretches
 have zx:((arrOf st).extract (sa+k) sb).size=na - k:=by rw [Array.size_extract];lia
 have zy:((arrOf st).extract sb (sb+m)).size=m:=by rw [Array.size_extract];lia
 have gx:∀ j (h:j < ((arrOf st).extract (sa+k) sb).size),((arrOf st).extract (sa+k) sb)[j]=G (arrOf st) (sa+k+j):=fun j h=>by rw [Array.getElem_extract,lD]
 have gy:∀ j (h:j < ((arrOf st).extract sb (sb+m)).size),((arrOf st).extract sb (sb+m))[j]=G (arrOf st) (sb+j):=fun j h=>by rw [Array.getElem_extract,lD]
 have inx:∀ j (h:j < ((arrOf st).extract (sa+k) sb).size),In ((arrOf st).extract (sa+k) sb)[j]:=fun j h=>by rw [Array.getElem_extract];exact hA _ _
 have iny:∀ j (h:j < ((arrOf st).extract sb (sb+m)).size),In ((arrOf st).extract sb (sb+m))[j]:=fun j h=>by rw [Array.getElem_extract];exact hA _ _
 have sx:=tS sga (by lia) (show sa≤sa+k by lia) (Nat.le_refl sb)
 have sy:=tS sgb hz (Nat.le_refl sb) (show sb+m≤sb+nb by lia)
 have b0:blt (((arrOf st).extract sb (sb+m))[0]'(by lia)) (((arrOf st).extract (sa+k) sb)[0]'(by lia))=true:=by
  rw [gx,gy]
  exact u2' _ (by lia) (by lia)
 have bl:∀ j (h:j < ((arrOf st).extract sb (sb+m)).size),blt ((arrOf st).extract sb (sb+m))[j] (((arrOf st).extract (sa+k) sb)[((arrOf st).extract (sa+k) sb).size - 1]'(by lia))=true:=fun j h=>by
  rw [gx,gy,zx,show sa+k+(na - k - 1)=sb - 1 by lia]
  exact v1' _ (by lia) (by lia)
 have lx:((arrOf st).extract (sa+k) sb).toList++((arrOf st).extract sb (sb+m)).toList=((arrOf st).toList.drop (sa+k)).take (na - k+m):=by
  rw [fE,fE,show na - k+m=(sb - (sa+k))+m by lia,List.take_add,List.drop_drop,show sa+k+(sb - (sa+k))=sb by lia,show sb+m - sb=m by lia]
 have fin:∀ (r:Array Keyed) (st2:SortSt),SG (SortSt.mk' (kindOf st) (arrOf st) (((pendingOf st).setIfInBounds i (sa,na+nb,pw)).eraseIdxIfInBounds (i+1)) (gallopOf st) (failedOf st)) st2→Res (leB blt) (((arrOf st).extract (sa+k) sb).toList++((arrOf st).extract sb (sb+m)).toList) r.toList →
   MA sa (sb+nb) (((pendingOf st).setIfInBounds i (sa,na+nb,pw)).eraseIdxIfInBounds (i+1)) blt st (SortSt.mk' (kindOf st2) (splice (arrOf st2) (sa+k) r.toList 0) (pendingOf st2) (gallopOf st2) (failedOf st2)):=by
  intro r st2 g ⟨rp,rs⟩
  have ga:arrOf st2=arrOf st:=g.arr
  have rl:r.toList.length=na - k+m:=by rw [rp.length_eq,List.length_append,Array.length_toList,Array.length_toList,zx,zy]
  have hz2:sa+k+r.toList.length≤(arrOf st).size:=by lia
  rw [lx] at rp
  refine ⟨g.kind,g.pend,g.failed,?_,fun p hp=>?_,fun p q a b c=>?_⟩
  ·show (splice (arrOf st2) (sa+k) r.toList 0).Perm _
   rw [ga]
   exact oQ hz2 (by rw [rl];exact rp)
  ·show G (splice (arrOf st2) (sa+k) r.toList 0) p=_
   rw [ga,mU hz2,if_neg (by lia)]
  ·show blt (G (splice (arrOf st2) (sa+k) r.toList 0) q) (G (splice (arrOf st2) (sa+k) r.toList 0) p)=false
   rw [ga,mU hz2,mU hz2,rl]
   -- a thing of the merged stretch is one of the old
   have old:∀ x,sa+k≤x→x < sa+k+(na - k+m)→∃ y,sa+k≤y∧y < sb+m∧(r.toList[x - (sa+k)]?).getD (.none,.none)=G (arrOf st) y:=fun x x1 x2=>by
    have hx:x - (sa+k) < r.toList.length:=by lia
    rw [List.getElem?_eq_getElem hx]
    obtain ⟨j,hj,j1,j2,e⟩:=fw (rp.mem_iff.mp (List.getElem_mem hx))
    exact ⟨j,j1,by lia,by rw [lD hj,e];rfl⟩
   by_cases hp:sa+k≤p∧p < sa+k+(na - k+m)
   ·rw [if_pos hp]
    by_cases hq':sa+k≤q∧q < sa+k+(na - k+m)
    ·rw [if_pos hq',List.getElem?_eq_getElem (show p - (sa+k) < _ by lia),List.getElem?_eq_getElem (show q - (sa+k) < _ by lia)]
     by_cases hpq:p=q
     ·subst hpq;exact O.refl _
     ·exact (List.pairwise_iff_getElem.mp rs) _ _ _ _ (by lia)
    ·rw [if_neg hq']
     obtain ⟨y,y1,y2,e⟩:=old p hp.1 hp.2
     rw [e]
     by_cases hy:y < sb
     ·exact O.trans _ _ _ (sga y (sb - 1) (by lia) (by lia) (by lia)) (v2' q (by lia) c)
     ·exact sgb y q (by lia) (by lia) c
   ·rw [if_neg hp]
    by_cases hq':sa+k≤q∧q < sa+k+(na - k+m)
    ·rw [if_pos hq']
     obtain ⟨y,y1,y2,e⟩:=old q hq'.1 hq'.2
     rw [e]
     by_cases hy:y < sb
     ·exact sga p y a (by lia) hy
     ·exact O.trans _ _ _ (u1' p a (by lia)) (sgb sb y (Nat.le_refl _) (by lia) (by lia))
    ·rw [if_neg hq']
     by_cases hps:p < sb
     ·by_cases hqs:q < sb
      ·exact sga p q a b hqs
      ·exact O.trans _ _ _ (u1' p a (by lia)) (sgb sb q (Nat.le_refl _) (by lia) c)
     ·exact sgb p q (by lia) b c
 refine aw (fun _=>?_) (fun _=>?_)
 ·refine wpS_bind (qV O (a:=(arrOf st).extract (sa+k) sb) (b:=(arrOf st).extract sb (sb+m)) (st:=SortSt.mk' (kindOf st) (arrOf st) (((pendingOf st).setIfInBounds i (sa,na+nb,pw)).eraseIdxIfInBounds (i+1)) (gallopOf st) (failedOf st)) hk inx iny sx sy (by lia) (by lia) b0 bl fun r st2 g hr=>?_)
  refine wpS_bind (wpS_modify (wpS_bind (wpS_get ?_)))
  have hfn:(failedOf st2).isNone=true:=by rw [show failedOf st2=none from g.failed.trans hf];rfl
  exact wpS_pure (by
   show Q (failedOf st2).isNone _
   rw [hfn]
   exact hq _ (fin r st2 g hr))
 ·refine wpS_bind (qy O (a:=(arrOf st).extract (sa+k) sb) (b:=(arrOf st).extract sb (sb+m)) (st:=SortSt.mk' (kindOf st) (arrOf st) (((pendingOf st).setIfInBounds i (sa,na+nb,pw)).eraseIdxIfInBounds (i+1)) (gallopOf st) (failedOf st)) hk inx iny sx sy (by lia) (by lia) b0 bl fun r st2 g hr=>?_)
  refine wpS_bind (wpS_modify (wpS_bind (wpS_get ?_)))
  have hfn:(failedOf st2).isNone=true:=by rw [show failedOf st2=none from g.failed.trans hf];rfl
  exact wpS_pure (by
   show Q (failedOf st2).isNone _
   rw [hfn]
   exact hq _ (fin r st2 g hr))
end
end TS
namespace TS
open PySem PyProof.Rows
noncomputable def Runs (blt:Keyed→Keyed→Bool) (xs:Array Keyed):List (Nat×Nat×Nat)→Nat→Nat→Prop
 | [],lo,hi=>lo=hi
 | t::r,lo,hi=>t.1=lo∧1≤t.2.1∧SegG blt xs lo (lo+t.2.1)∧Runs blt xs r (lo+t.2.1) hi
section
variable {blt:Keyed→Keyed→Bool} {xs ys:Array Keyed}
theorem Runs.le:∀ {p:List (Nat×Nat×Nat)} {lo hi:Nat},Runs blt xs p lo hi→lo+p.length≤hi
 | [],lo,hi,h=>by
  have h:lo=hi:=h
  simp [h]
 | t::r,lo,hi,⟨h1,h2,h3,h4⟩=>by
  have:=Runs.le h4
  rw [List.length_cons];lia
theorem Runs.congr:∀ {p:List (Nat×Nat×Nat)} {lo hi:Nat},Runs blt xs p lo hi→(∀ k,lo≤k→k < hi→G ys k=G xs k)→Runs blt ys p lo hi
 | [],lo,hi,h,_=>h
 | t::r,lo,hi,⟨h1,h2,h3,h4⟩,e=>by
  have hle:=Runs.le h4
  refine ⟨h1,h2,fun i j a b c=>?_,Runs.congr h4 fun k a b=>e k (by lia) b⟩
  rw [e i a (by lia),e j (by lia) (by lia)]
  exact h3 i j a b c
theorem Runs.snoc:∀ {p:List (Nat×Nat×Nat)} {lo hi n w:Nat},Runs blt xs p lo hi→1≤n→SegG blt xs hi (hi+n)→Runs blt xs (p++[(hi,n,w)]) lo (hi+n)
 | [],lo,hi,n,w,h,h1,h2=>by
  have h:lo=hi:=h
  subst h
  exact ⟨rfl,h1,h2,rfl⟩
 | t::r,lo,hi,n,w,⟨a,b,c,d⟩,h1,h2=>⟨a,b,c,Runs.snoc d h1 h2⟩
theorem Runs.map {f:Nat×Nat×Nat→Nat×Nat×Nat} (hf:∀ t,(f t).1=t.1∧(f t).2.1=t.2.1):∀ {p:List (Nat×Nat×Nat)} {lo hi i:Nat},Runs blt xs p lo hi→Runs blt xs (p.modify i f) lo hi
 | [],lo,hi,i,h=>by rw [List.modify_nil];exact h
 | t::r,lo,hi,0,⟨a,b,c,d⟩=>by
  rw [List.modify_zero_cons]
  exact ⟨(hf t).1.trans a,by rw [(hf t).2];exact b,by rw [(hf t).2];exact c,by rw [(hf t).2];exact d⟩
 | t::r,lo,hi,i+1,⟨a,b,c,d⟩=>by
  rw [List.modify_succ_cons]
  exact ⟨a,b,c,Runs.map hf d⟩
theorem Runs.two:∀ {pre post:List (Nat×Nat×Nat)} {x y:Nat×Nat×Nat} {lo hi:Nat},Runs blt xs (pre++x::y::post) lo hi →
  1≤x.2.1∧1≤y.2.1∧y.1=x.1+x.2.1∧lo≤x.1∧y.1+y.2.1≤hi∧SegG blt xs x.1 y.1∧SegG blt xs y.1 (y.1+y.2.1) ∧
  ∀ (ys:Array Keyed) (w:Nat),(∀ k,k < x.1∨y.1+y.2.1≤k→G ys k=G xs k)→SegG blt ys x.1 (y.1+y.2.1)→Runs blt ys (pre++(x.1,x.2.1+y.2.1,w)::post) lo hi
 | [],post,x,y,lo,hi,⟨a,b,c,a2,b2,c2,d2⟩=>by
  have hle:=Runs.le d2
  subst a
  refine ⟨b,b2,a2,Nat.le_refl _,by lia,by rw [a2];exact c,by rw [a2];exact c2,fun ys w out sg=>?_⟩
  refine ⟨rfl,by show 1≤x.2.1+y.2.1;lia,?_,?_⟩
  ·show SegG blt ys x.1 (x.1+(x.2.1+y.2.1))
   rwa [show x.1+(x.2.1+y.2.1)=y.1+y.2.1 by lia]
  ·show Runs blt ys post (x.1+(x.2.1+y.2.1)) hi
   rw [show x.1+(x.2.1+y.2.1)=x.1+x.2.1+y.2.1 by lia]
   exact d2.congr fun k k1 k2=>out k (by lia)
 | t::pre,post,x,y,lo,hi,⟨a,b,c,d⟩=>by
  obtain ⟨e1,e2,e3,e4,e5,e6,e7,e8⟩:=Runs.two d
  refine ⟨e1,e2,e3,by lia,e5,e6,e7,fun ys w out sg=>⟨a,b,fun i j p q r=>?_,e8 ys w out sg⟩⟩
  rw [out i (by lia),out j (by lia)]
  exact c i j p q r
end
theorem eM {α:Type}:∀ {l:List α} {i:Nat},i+1 < l.length→∃ pre x y post,l=pre++x::y::post∧pre.length=i
 | a::b::r,0,_=>⟨[],a,b,r,rfl,rfl⟩
 | a::r,i+1,h=>by
  rw [List.length_cons] at h
  obtain ⟨pre,x,y,post,e,hl⟩:=eM (l:=r) (i:=i) (by lia)
  exact ⟨a::pre,x,y,post,by rw [e];rfl,by rw [List.length_cons,hl]⟩
theorem oX {p:Array (Nat×Nat×Nat)} {pre post:List (Nat×Nat×Nat)} {x y t:Nat×Nat×Nat} (e:p.toList=pre++x::y::post):((p.setIfInBounds pre.length t).eraseIdxIfInBounds (pre.length+1)).toList=pre++t::post:=by
 have hs:pre.length+1 < p.size:=by
  rw [← Array.length_toList,e];simp
 rw [Array.eraseIdxIfInBounds_eq,dif_pos (by rw [Array.size_setIfInBounds];exact hs),Array.toList_eraseIdx,Array.toList_setIfInBounds,e]
 rw [List.set_append_right _ _ (Nat.le_refl _),Nat.sub_self,List.set_cons_zero,List.eraseIdx_append_of_length_le (by lia)]
 rw [show pre.length+1 - pre.length=1 by lia]
 rfl
structure SR (blt:Keyed→Keyed→Bool) (st st':SortSt) (lo:Nat):Prop where
 kind:kindOf st'=kindOf st
 failed:failedOf st'=failedOf st
 perm:(arrOf st').Perm (arrOf st)
 runs:Runs blt (arrOf st') (pendingOf st').toList 0 lo
section
variable {M:Model} {A:Around} {E:Value→Shared→Prop} {s:Shared} {blt:Keyed→Keyed→Bool} {k₀:SortKind} {In:Keyed→Prop}
theorem AllIn.perm {st st':SortSt} (h:AllIn In st) (g:(arrOf st').Perm (arrOf st)):AllIn In st':=fun x hx=>h x ((Array.perm_iff_toList_perm.mp g).mem_iff.mp hx)
theorem km (O:Orc M A E s blt k₀ In) {st st1:SortSt} {i lo:Nat} {Q:Bool→SortSt→Prop} (hk:kindOf st=k₀) (hI:AllIn In st) (hf:failedOf st=none) (h:SR blt st st1 lo) (hl:lo≤(arrOf st).size) (hi:i+1 < (pendingOf st1).size)
  (hq:∀ st2,SR blt st st2 lo→(pendingOf st2).size+1=(pendingOf st1).size→(∀ k,lo≤k→G (arrOf st2) k=G (arrOf st1) k)→Q true st2):wpS M A E s (mergeAt' i) Q st1:=by
 obtain ⟨pre,x,y,post,e,el⟩:=eM (l:=(pendingOf st1).toList) (i:=i) (by rw [Array.length_toList];exact hi)
 subst el
 have hr:=h.runs
 rw [e] at hr
 obtain ⟨e1,e2,e3,e4,e5,e6,e7,e8⟩:=hr.two
 have gx:(pendingOf st1)[pre.length]?=some x:=by rw [← Array.getElem?_toList,e];simp
 have gy:(pendingOf st1)[pre.length+1]?=some y:=by rw [← Array.getElem?_toList,e];simp
 have sz:(arrOf st1).size=(arrOf st).size:=h.perm.size_eq
 refine re O (sa:=x.1) (na:=x.2.1) (pw:=x.2.2) (sb:=y.1) (nb:=y.2.1) (qw:=y.2.2) gx gy (h.kind.trans hk) (hI.perm h.perm) (h.failed.trans hf) e1 e2 e3 (by lia) e6 e7 fun st2 m=>?_
 have el:(pendingOf st2).toList=pre++(x.1,x.2.1+y.2.1,x.2.2)::post:=by rw [m.pend];exact oX e
 refine hq st2 ⟨m.kind.trans h.kind,m.failed.trans h.failed,m.perm.trans h.perm,by rw [el];exact e8 _ _ m.out m.seg⟩ ?_ fun k hk'=>m.out k (.inr (by lia))
 rw [← Array.length_toList,← Array.length_toList,el,e]
 simp
 lia
end
end TS
namespace TS
open PySem PyProof.Rows
section
variable {M:Model} {A:Around} {E:Value→Shared→Prop} {s:Shared} {blt:Keyed→Keyed→Bool} {k₀:SortKind} {In:Keyed→Prop}
theorem ln (O:Orc M A E s blt k₀ In) {st:SortSt} {Q:Unit→SortSt→Prop} (hk:kindOf st=k₀) (hI:AllIn In st) (hf:failedOf st=none) (hp:pendingOf st=#[]) (h2:2≤(arrOf st).size)
  (hq:∀ st',(arrOf st').Perm (arrOf st)→failedOf st'=none→SegG blt (arrOf st') 0 (arrOf st).size→Q () st'):wpS M A E s sortRuns' Q st:=by
 refine wpS_bind (wpS_get ?_)
 have r0:SR blt st st 0:=⟨rfl,rfl,Array.Perm.refl _,by rw [hp];rfl⟩
 refine wpS_bind (wpS_mono (wpS_forRange (a:=0) (b:=(arrOf st).size) (I:=fun x c st'=>∃ lo,c=(none,lo)∧SR blt st st' lo∧lo≤(arrOf st).size∧min x (arrOf st).size≤lo)
  (Q:=fun c st'=>c=(none,(arrOf st).size)∧SR blt st st' (arrOf st).size) ?step ?fin ⟨0,rfl,r0,Nat.zero_le _,by lia⟩) ?post)
 case fin =>
  rintro c st' ⟨lo,rfl,h,a,b⟩
  have:lo=(arrOf st).size:=by lia
  subst this
  exact ⟨rfl,h⟩
 case post =>
  rintro c st' ⟨rfl,h⟩
  have h0:=h.runs.le
  rw [Array.length_toList] at h0
  refine wpS_bind (wpS_mono (wpS_forRange (a:=0) (b:=(arrOf st).size) (I:=fun x c st'=>c=(none,())∧SR blt st st' (arrOf st).size∧(pendingOf st').size≤max 1 ((arrOf st).size - x))
   (Q:=fun c st'=>c=(none,())∧SR blt st st' (arrOf st).size∧(pendingOf st').size≤1) ?stepf ?finf ⟨rfl,h,by lia⟩) ?postf)
  case finf =>
   rintro c st1 ⟨rfl,h1,e1⟩
   exact ⟨rfl,h1,by lia⟩
  case stepf =>
   rintro x c st1 _ hx ⟨rfl,h1,e1⟩
   refine wpS_bind (wpS_get ?_)
   refine aw (fun hle=>wpS_pure ⟨rfl,h1,hle⟩) (fun hle=>?_)
   have hle:¬ ((pendingOf st1).size≤1):=hle
   refine wpS_bind (km O hk hI hf h1 (Nat.le_refl _) ?_ fun st5 h5 e5 _=>?_)
   ·have ix:∀ (c:Prop) [Decidable c],(if c then (pendingOf st1).size - 2 - 1 else (pendingOf st1).size - 2)+1 < (pendingOf st1).size:=by
     intro c _
     split <;> lia
    exact ix _
   ·exact aw (fun z=>by cases z) (fun _=>wpS_pure ⟨rfl,h5,by lia⟩)
  case postf =>
   rintro c st1 ⟨rfl,h1,e1⟩
   refine wpS_pure (hq st1 h1.perm (h1.failed.trans hf) ?_)
   have hr:=h1.runs
   rw [← Array.length_toList] at e1
   generalize (pendingOf st1).toList=l at hr e1
   match l,hr,e1 with
   | [],hr,_ =>
    have hr:0=(arrOf st).size:=hr
    lia
   | [t],⟨_,_,sg,e⟩,_ =>
    have e:0+t.2.1=(arrOf st).size:=e
    rw [e] at sg
    exact sg
   | _::_::_,_,e1=>simp at e1
 case step =>
  rintro x c st1 _ hx ⟨lo,rfl,h,a,b⟩
  refine aw (fun hge=>?_) (fun hge=>?_)
  ·have hge:lo ≥ (arrOf st).size:=hge
   have:lo=(arrOf st).size:=by lia
   subst this
   exact wpS_pure ⟨rfl,h⟩
  ·have hge:¬ (lo ≥ (arrOf st).size):=hge
   have sz:(arrOf st1).size=(arrOf st).size:=h.perm.size_eq
   refine wpS_bind (pM O (lo:=lo) (nrem:=(arrOf st).size - lo) (h.kind.trans hk) (hI.perm h.perm) (by lia) (by lia) fun m st2 sa m1 m2 sg=>?_)
   have sz2:=sa.size
   refine aw (fun hlt=>?_) (fun hlt=>?_)
   ·have hlt:m < minRun' (arrOf st).size (arrOf st).size 0:=hlt
    refine wpS_bind (wpS_lift (wpAny_rule ⟨rfl,?_⟩))
    refine wpS_bind (tT O (lo:=lo) (n:=min ((arrOf st).size - lo) (minRun' (arrOf st).size (arrOf st).size 0)) (ok:=m) (sa.kind.trans (h.kind.trans hk)) ((hI.perm h.perm).sa sa) (by lia) (by lia) m1 sg fun st3 sb sg3=>?_)
    refine aw (fun z=>by cases z) (fun _=>?_)
    have sa3:=sa.trans sb
    have n1':1≤min ((arrOf st).size - lo) (minRun' (arrOf st).size (arrOf st).size 0):=by lia
    have n2':min ((arrOf st).size - lo) (minRun' (arrOf st).size (arrOf st).size 0)≤(arrOf st).size - lo:=by lia
    have hr3:SR blt st st3 lo:=⟨sa3.kind.trans h.kind,sa3.failed.trans h.failed,sa3.perm.trans h.perm,by
     rw [sa3.pend]
     exact h.runs.congr fun k _ k2=>sa3.pre k k2⟩
    refine wpS_bind (wpS_get ?_)
    cases hb:(pendingOf st3).back? with
    | none =>
     refine wpS_bind (wpS_modify (wpS_pure ⟨lo+min ((arrOf st).size - lo) (minRun' (arrOf st).size (arrOf st).size 0),rfl,⟨hr3.kind,hr3.failed,hr3.perm,?_⟩,by lia,by lia⟩))
     show Runs blt (arrOf st3) ((pendingOf st3).push (lo,min ((arrOf st).size - lo) (minRun' (arrOf st).size (arrOf st).size 0),0)).toList 0 (lo+min ((arrOf st).size - lo) (minRun' (arrOf st).size (arrOf st).size 0))
     rw [Array.toList_push]
     exact hr3.runs.snoc n1' sg3
    | some t =>
     obtain ⟨s1,n1,w1⟩:=t
     refine wpS_bind (wpS_mono (wpS_forRange (I:=fun _ c st'=>c=(none,())∧SR blt st st' lo∧∀ k,lo≤k→G (arrOf st') k=G (arrOf st3) k) (Q:=fun c st'=>c=(none,())∧SR blt st st' lo∧∀ k,lo≤k→G (arrOf st') k=G (arrOf st3) k) ?step1 (fun _ _ z=>z) ⟨rfl,hr3,fun _ _=>rfl⟩) ?post1)
     case step1 =>
      rintro y c st4 _ hy ⟨rfl,h4,g4⟩
      refine wpS_bind (wpS_get ?_)
      dsimp only
      by_cases hp1:(pendingOf st4).size > 1
      ·rw [if_pos hp1,getElem?_pos (pendingOf st4) ((pendingOf st4).size - 2) (by lia)]
       refine aw (fun _=>wpS_pure ⟨rfl,h4,g4⟩) (fun _=>?_)
       refine wpS_bind (km O hk hI hf h4 a (show (pendingOf st4).size - 2+1 < _ by lia) fun st5 h5 _ g5=>?_)
       exact aw (fun z=>by cases z) (fun _=>wpS_pure ⟨rfl,h5,fun k hk=>(g5 k hk).trans (g4 k hk)⟩)
      ·rw [if_neg hp1]
       exact wpS_pure ⟨rfl,h4,g4⟩
     case post1 =>
      rintro c st4 ⟨rfl,h4,g4⟩
      refine wpS_bind (wpS_modify (wpS_bind (wpS_modify (wpS_pure ⟨lo+min ((arrOf st).size - lo) (minRun' (arrOf st).size (arrOf st).size 0),rfl,⟨h4.kind,h4.failed,h4.perm,?_⟩,by lia,by lia⟩))))
      show Runs blt (arrOf st4) (((pendingOf st4).modify ((pendingOf st4).size - 1) _).push (lo,min ((arrOf st).size - lo) (minRun' (arrOf st).size (arrOf st).size 0),0)).toList 0 (lo+min ((arrOf st).size - lo) (minRun' (arrOf st).size (arrOf st).size 0))
      rw [Array.toList_push,Array.toList_modify]
      refine Runs.snoc (Runs.map ?_ h4.runs) n1' (fun i j p q r=>?_)
      ·rintro ⟨u1,u2,u3⟩
       exact ⟨rfl,rfl⟩
      rw [g4 i p,g4 j (by lia)]
      exact sg3 i j p q r
   ·have sa3:=sa
    have sg3:=sg
    have n1':=m1
    have hr3:SR blt st st2 lo:=⟨sa3.kind.trans h.kind,sa3.failed.trans h.failed,sa3.perm.trans h.perm,by
     rw [sa3.pend]
     exact h.runs.congr fun k _ k2=>sa3.pre k k2⟩
    refine wpS_bind (wpS_get ?_)
    cases hb:(pendingOf st2).back? with
    | none =>
     refine wpS_bind (wpS_modify (wpS_pure ⟨lo+m,rfl,⟨hr3.kind,hr3.failed,hr3.perm,?_⟩,by lia,by lia⟩))
     show Runs blt (arrOf st2) ((pendingOf st2).push (lo,m,0)).toList 0 (lo+m)
     rw [Array.toList_push]
     exact hr3.runs.snoc n1' sg3
    | some t =>
     obtain ⟨s1,n1,w1⟩:=t
     refine wpS_bind (wpS_mono (wpS_forRange (I:=fun _ c st'=>c=(none,())∧SR blt st st' lo∧∀ k,lo≤k→G (arrOf st') k=G (arrOf st2) k) (Q:=fun c st'=>c=(none,())∧SR blt st st' lo∧∀ k,lo≤k→G (arrOf st') k=G (arrOf st2) k) ?step2 (fun _ _ z=>z) ⟨rfl,hr3,fun _ _=>rfl⟩) ?post2)
     case step2 =>
      rintro y c st4 _ hy ⟨rfl,h4,g4⟩
      refine wpS_bind (wpS_get ?_)
      dsimp only
      by_cases hp1:(pendingOf st4).size > 1
      ·rw [if_pos hp1,getElem?_pos (pendingOf st4) ((pendingOf st4).size - 2) (by lia)]
       refine aw (fun _=>wpS_pure ⟨rfl,h4,g4⟩) (fun _=>?_)
       refine wpS_bind (km O hk hI hf h4 a (show (pendingOf st4).size - 2+1 < _ by lia) fun st5 h5 _ g5=>?_)
       exact aw (fun z=>by cases z) (fun _=>wpS_pure ⟨rfl,h5,fun k hk=>(g5 k hk).trans (g4 k hk)⟩)
      ·rw [if_neg hp1]
       exact wpS_pure ⟨rfl,h4,g4⟩
     case post2 =>
      rintro c st4 ⟨rfl,h4,g4⟩
      refine wpS_bind (wpS_modify (wpS_bind (wpS_modify (wpS_pure ⟨lo+m,rfl,⟨h4.kind,h4.failed,h4.perm,?_⟩,by lia,by lia⟩))))
      show Runs blt (arrOf st4) (((pendingOf st4).modify ((pendingOf st4).size - 1) _).push (lo,m,0)).toList 0 (lo+m)
      rw [Array.toList_push,Array.toList_modify]
      refine Runs.snoc (Runs.map ?_ h4.runs) n1' (fun i j p q r=>?_)
      ·rintro ⟨u1,u2,u3⟩
       exact ⟨rfl,rfl⟩
      rw [g4 i p,g4 j (by lia)]
      exact sg3 i j p q r
end
end TS
namespace TS
open PySem PyProof.Rows
structure TO {α:Type} (lt:α→α→Prop):Prop where
 irr:∀ a,¬ lt a a
 tr:∀ a b c,lt a b→lt b c→lt a c
 tri:∀ a b,lt a b∨a=b∨lt b a
theorem TO.lex {α β:Type} {l1:α→α→Prop} {l2:β→β→Prop} (h1:TO l1) (h2:TO l2):TO fun x y:α×β=>l1 x.1 y.1∨(x.1=y.1∧l2 x.2 y.2):=by
 refine ⟨fun a h=>?_,fun a b c h g=>?_,fun a b=>?_⟩
 ·rcases h with h|⟨_,h⟩
  ·exact h1.irr _ h
  ·exact h2.irr _ h
 ·rcases h with h|⟨e,h⟩ <;> rcases g with g|⟨f,g⟩
  ·exact .inl (h1.tr _ _ _ h g)
  ·exact .inl (f ▸ h)
  ·exact .inl (e ▸ g)
  ·exact .inr ⟨e.trans f,h2.tr _ _ _ h g⟩
 ·rcases h1.tri a.1 b.1 with h|h|h
  ·exact .inl (.inl h)
  ·rcases h2.tri a.2 b.2 with g|g|g
   ·exact .inl (.inr ⟨h,g⟩)
   ·exact .inr (.inl (Prod.ext h g))
   ·exact .inr (.inr (.inr ⟨h.symm,g⟩))
  ·exact .inr (.inr (.inl h))
theorem tM:TO (fun a b:Int=>a < b):=⟨fun a=>Int.lt_irrefl a,fun a b c=>Int.lt_trans,fun a b=>by lia⟩
theorem tH:TO (fun a b:List Nat=>a < b):=⟨fun a=>List.lt_irrefl a,fun a b c=>List.lt_trans,fun a b=>by
 by_cases h:a < b
 ·exact .inl h
 ·by_cases g:b < a
  ·exact .inr (.inr g)
  ·exact .inr (.inl (List.le_antisymm (List.not_lt.mp g) (List.not_lt.mp h)))⟩
noncomputable abbrev K4:Type:=Int×Int×List Nat×Int
noncomputable def Lt4 (x y:K4):Prop:=x.1 < y.1∨(x.1=y.1∧(x.2.1 < y.2.1∨(x.2.1=y.2.1∧(x.2.2.1 < y.2.2.1∨(x.2.2.1=y.2.2.1∧x.2.2.2 < y.2.2.2)))))
theorem to4:TO Lt4:=tM.lex (tM.lex (tH.lex tM))
instance (x y:K4):Decidable (Lt4 x y):=by unfold Lt4;infer_instance
noncomputable def blt4 (kd:Value→K4) (x y:Keyed):Bool:=decide (Lt4 (kd x.1) (kd y.1))
noncomputable def In4 (s:Shared) (kd:Value→K4) (x:Keyed):Prop:=∃ p o xs n a t1 b t2 z t3 c t4,x.1=.ref p∧s.heap.get? p=some o∧o.data=.seq xs n∧xs.toList=[.int a t1,.int b t2,.str z t3,.int c t4]∧kd x.1=(a,b,z.cps.toList,c)
section
variable {prog:Program} {w:World} {A:Around} {E:Value→Shared→Prop} {s:Shared} {kd:Value→K4}
theorem pG {i j:Int} {t u:Tok} {Q:Bool→Shared→Prop} (h:Q (decide (i < j)) s):wpAny (model prog w) A (oneLt' false (.int i t) (.int j u)) Q E s :=
 PySem.W.kat_one _ _ (lt_int (show PySem.W.BoolBack Q (.bool (decide (i < j))) s from h))
theorem wl {x y:Str} {t u:Tok} {Q:Bool→Shared→Prop} (h:Q (decide (x.cps.toList < y.cps.toList)) s):wpAny (model prog w) A (oneLt' false (.str x t) (.str y u)) Q E s :=
 PySem.W.kat_one _ _ (lt_str (show PySem.W.BoolBack Q (.bool (decide (x.cps.toList < y.cps.toList))) s from h))
theorem v7 {x y:Str} (h:x≠y):x.cps.toList≠y.cps.toList:=fun z=>h (by cases x;cases y;congr 1;exact Array.toList_inj.mp z)
theorem l1 {a a':Int} {k l:Int×List Nat×Int} (h:a≠a'):Lt4 (a,k) (a',l) ↔ a < a':=by simp [Lt4,h]
theorem l2 {a b b':Int} {k l:List Nat×Int} (h:b≠b'):Lt4 (a,b,k) (a,b',l) ↔ b < b':=by simp [Lt4,h]
theorem l3 {a b c c':Int} {m n:List Nat} (h:m≠n):Lt4 (a,b,m,c) (a,b,n,c') ↔ m < n:=by simp [Lt4,h]
theorem l4 {a b c c':Int} {m:List Nat}:Lt4 (a,b,m,c) (a,b,m,c') ↔ c < c':=by simp [Lt4,List.lt_irrefl]
theorem orc4:Orc (model prog w) A E s (blt4 kd) (tuples' true) (In4 s kd):=by
 refine ⟨fun x y h=>?_,fun x y z h g=>?_,fun x y st Q hx hy hk hq=>?_⟩
 ·have h:=of_decide_eq_true h
  exact decide_eq_false fun g=>to4.irr _ (to4.tr _ _ _ h g)
 ·have h:=of_decide_eq_false h
  have g:=of_decide_eq_false g
  refine decide_eq_false fun e=>?_
  rcases to4.tri (kd y.1) (kd x.1) with q|q|q
  ·exact h q
  ·exact g (q ▸ e)
  ·exact g (to4.tr _ _ _ e q)
 ·obtain ⟨p,o,xs,n,a,t1,b,t2,z,t3,c,t4,e1,e2,e3,e4,e5⟩:=hx
  obtain ⟨p',o',xs',n',a',t1',b',t2',z',t3',c',t4',f1,f2,f3,f4,f5⟩:=hy
  rw [lt'_eq]
  refine wpS_bind (wpS_get ?_)
  rw [hk,e1,f1]
  have hb:blt4 kd x y=decide (Lt4 (a,b,z.cps.toList,c) (a',b',z'.cps.toList,c')):=by unfold blt4;rw [e5,f5]
  rw [hb] at hq
  have fin:∀ r:Bool,r=decide (Lt4 (a,b,z.cps.toList,c) (a',b',z'.cps.toList,c'))→(fun v s'=>s'=s∧(fun (u:Except Value Bool) (st':SortSt)=>wpS (model prog w) A E s (match u with|.ok b=>pure (some b)|.error e=>do modify (fun s=>SortSt.mk' (kindOf s) (arrOf s) (pendingOf s) (gallopOf s) (some e));pure none) Q st') (.ok v) st) r s:=fun r hr=>⟨rfl,by subst hr;exact wpS_pure hq⟩
  refine wpS_bind (wpS_lift (wpAny_attempt (PySem.W.kat_lt e2 e3 f2 f3 ?_)))
  rw [e4,f4]
  refine PySem.W.kat_cons (wpAny_eqBool_int (PySem.W.kat_go (fun q1=>PySem.W.kat_yes ?_) fun q1=>PySem.W.kat_no (oneLt_int (fin _ ?_))))
  ·refine PySem.W.kat_cons (wpAny_eqBool_int (PySem.W.kat_go (fun q2=>PySem.W.kat_yes ?_) fun q2=>PySem.W.kat_no (pG (fin _ ?_))))
   ·refine PySem.W.kat_cons (wpAny_eqBool_str (PySem.W.kat_go (fun q3=>PySem.W.kat_yes ?_) fun q3=>PySem.W.kat_no (wl (fin _ ?_))))
    ·refine PySem.W.kat_cons (wpAny_eqBool_int (PySem.W.kat_go (fun q4=>PySem.W.kat_yes ?_) fun q4=>PySem.W.kat_no (pG (fin _ ?_))))
     ·have z1:xs.size=4:=by rw [← Array.length_toList,e4];rfl
      have z2:xs'.size=4:=by rw [← Array.length_toList,f4];rfl
      refine PySem.W.kat_nil (fin _ ?_)
      have q1:a=a':=by simpa using q1
      have q2:b=b':=by simpa using q2
      have q3:z=z':=by simpa using q3
      have q4:c=c':=by simpa using q4
      subst q1;subst q2;subst q3;subst q4
      rw [z1,z2,decide_eq_false (to4.irr _)]
      rfl
     ·have q1:a=a':=by simpa using q1
      have q2:b=b':=by simpa using q2
      have q3:z=z':=by simpa using q3
      subst q1;subst q2;subst q3
      exact decide_eq_decide.mpr l4.symm
    ·have q1:a=a':=by simpa using q1
     have q2:b=b':=by simpa using q2
     have q3:z≠z':=by simpa using q3
     subst q1;subst q2
     exact decide_eq_decide.mpr (l3 (v7 q3)).symm
   ·have q1:a=a':=by simpa using q1
    have q2:b≠b':=by simpa using q2
    subst q1
    exact decide_eq_decide.mpr (l2 q2).symm
  ·have q1:a≠a':=by simpa using q1
   exact decide_eq_decide.mpr (l1 q1).symm
end
end TS
namespace TS
open PySem PyProof.Rows
section
variable {prog:Program} {w:World} {A:Around} {E:Value→Shared→Prop} {s:Shared} {kd:Value→K4} {a kS:Addr} {ks vs:List Value}
noncomputable def behind (h:Heap) (kS a:Addr) (out:List Value):Heap:=(h.update kS (Obj.mapSeq fun _=>(#[]:Array Value))).update a (Obj.mapSeq fun _=>out.toArray)
theorem pb {st:SortSt} {e e1:Nat} {out:List Value} {P:PySem.Fin→Shared→Prop} (na:s.heap.get? a=some (seqObj "list" #[] e1)) (nk:s.heap.get? kS=some (seqObj "list" ks.toArray e)) (hne:a≠kS)
  (hout:(arrOf st).map (·.2)=out.toArray) (hz:out.length≤1000000) (hkz:ks.length≤1000000) (hf:failedOf st=none) (h:P (.done (.ret .none)) { s with heap:=behind s.heap kS a out }):wpAny (model prog w) A (ksk_tail a false e1 (.ref kS) st) P E s:=by
 have na':(s.heap.update kS (Obj.mapSeq fun _=>(#[]:Array Value))).get? a=some (seqObj "list" #[] e1):=((Heap.SameBut.update s.heap kS (Obj.mapSeq fun _=>(#[]:Array Value))).2 a hne).trans na
 unfold ksk_tail
 try dsimp only
 rw [hout]
 refine wpAny_bind (listUpdate_at nk rfl ?_ (by rw [List.size_toArray,sizeLine_eq];omega) (Nat.zero_le _))
 refine wpAny_bind (wpAny_letGo ?_)
 refine wpAny_bind (seqEpoch_at na' rfl ?_)
 refine wpAny_bind (listUpdate_at na' rfl ?_ (Nat.zero_le _) (by simp only [Bool.false_eq_true,if_false,List.size_toArray,sizeLine_eq];omega))
 rw [hf]
 simp only [bne_self_eq_false,Bool.false_eq_true,if_false]
 exact wpAny_pure h
noncomputable def Key4 (s:Shared) (kd:Value→K4) (k:Value):Prop:=∃ p o xs n a t1 b t2 z t3 c t4,k=.ref p∧s.heap.get? p=some o∧o.cls=.type "tuple"∧o.data=.seq xs n∧xs.toList=[.int a t1,.int b t2,.str z t3,.int c t4]∧kd k=(a,b,z.cps.toList,c)
theorem firsts4:∀ {ks:List Value},(∀ k∈ks,Key4 s kd k)→∃ fs,PySem.W.KatTups s.heap ks fs∧fs.length=ks.length∧∀ v∈fs,∃ a t,v=Value.int a t
 | [],_=>⟨[],PySem.W.KatTups.nil,rfl,fun v hv=>nomatch hv⟩
 | k::r,h=>by
  obtain ⟨p,o,xs,n,a,t1,b,t2,z,t3,c,t4,rfl,e1,e2,e3,e4,_⟩:=h k (by simp)
  obtain ⟨fs,f1,f2,f3⟩:=firsts4 (ks:=r) fun x hx=>h x (List.mem_cons_of_mem _ hx)
  refine ⟨.int a t1::fs,PySem.W.KatTups.cons e1 e2 e3 (by rw [← Array.getElem?_toList,e4];rfl) f1,by simp [f2],fun v hv=>?_⟩
  rcases List.mem_cons.mp hv with rfl|hv
  ·exact ⟨a,t1,rfl⟩
  ·exact f3 v hv
theorem ya {e e1:Nat} {P:PySem.Fin→Shared→Prop} (hl:ks.length=vs.length) (h2:2≤vs.length) (hz:vs.length≤1000000) (na:s.heap.get? a=some (seqObj "list" #[] e1)) (nk:s.heap.get? kS=some (seqObj "list" ks.toArray e)) (hne:a≠kS) (hkeys:∀ k∈ks,Key4 s kd k)
  (h:∀ ps:List Keyed,ps.Perm (ks.zip vs)→ps.Pairwise (fun x y=>¬ Lt4 (kd y.1) (kd x.1))→P (.done (.ret .none)) { s with heap:=behind s.heap kS a (ps.map (·.2)) }) :
  wpAny (model prog w) A (ksk_end a false vs.toArray e1 (.ref kS) ks.toArray) P E s:=by
 obtain ⟨fs,f1,f2,f3⟩:=firsts4 hkeys
 have hn2:¬ vs.toArray.size < 2:=by rw [List.size_toArray];omega
 unfold ksk_end
 try dsimp only
 rw [if_neg Bool.false_ne_true,if_neg hn2,if_neg hn2]
 refine wpAny_bind (PySem.W.kat_kind (T:=.type "int") f1 (by omega) (fun v hv=>?_) (by decide +kernel) ?_)
 ·obtain ⟨x,t,rfl⟩:=f3 v hv
  exact PySem.W.Looks.of_pure rfl
 rw [if_neg Bool.false_ne_true]
 have zl:(ks.toArray.zip vs.toArray).toList=ks.zip vs:=by simp
 have zs:(ks.toArray.zip vs.toArray).size=vs.length:=by rw [← Array.length_toList,zl,List.length_zip];omega
 have ek:tuples' ((Value.type "int") != Value.type "tuple")=tuples' true:=by rfl
 rw [ek]
 refine wpAny_bind (wpAny_mono (ln (orc4 (kd:=kd)) (st:=SortSt.mk' (tuples' true) (ks.toArray.zip vs.toArray) #[] 7 none)
  (Q:=fun _ st'=>(arrOf st').Perm (ks.toArray.zip vs.toArray)∧failedOf st'=none∧SegG (blt4 kd) (arrOf st') 0 (ks.toArray.zip vs.toArray).size) rfl (fun x hx=>?_) rfl rfl (by show 2≤(ks.toArray.zip vs.toArray).size;omega) fun st' a1 a2 a3=>⟨a1,a2,a3⟩) ?_ fun _ _ z=>z)
 ·have hx:x∈ks.zip vs:=by rw [← zl];exact hx
  obtain ⟨p,o,xs,n,a,t1,b,t2,z,t3,c,t4,e0,e1,e2,e3,e4,e5⟩:=hkeys x.1 (List.of_mem_zip hx).1
  exact ⟨p,o,xs,n,a,t1,b,t2,z,t3,c,t4,e0,e1,e3,e4,e5⟩
 rintro ⟨⟨⟩,st'⟩ s' ⟨rfl,hp,hf,hs⟩
 have hpl:(arrOf st').toList.Perm (ks.zip vs):=by rw [← zl];exact Array.perm_iff_toList_perm.mp hp
 refine pb (out:=(arrOf st').toList.map (·.2)) na nk hne (by apply Array.toList_inj.mp;rw [Array.toList_map]) (by rw [List.length_map,hpl.length_eq,List.length_zip];omega) (by omega) hf (h _ hpl ?_)
 rw [List.pairwise_iff_getElem]
 intro i j hi hj hij
 rw [Array.length_toList] at hi hj
 have:=hs i j (by omega) (by omega) (by rw [← hp.size_eq];exact hj)
 rw [lD hi,lD hj] at this
 simpa using of_decide_eq_false this
end
end TS
namespace TS
open PySem PyProof.Rows PySem.SeqAt
section
variable {prog:Program} {w:World} {A:Around} {E:Value→Shared→Prop} {s:Shared} {kd:Value→K4} {a kS:Addr} {ks vs:List Value}
theorem qo {p q:Addr} {xs ys:Array Value} {l:Bool} (hp:IsTup s.heap p xs) (hq:IsTup s.heap q ys) (hx:LT.Lx A.in1 s xs.toList ys.toList l) (hu:A.units < cLine) {Q:Bool→Shared→Prop} (h:Q l s):wpAny (model prog w) A (oneLt' false (.ref p) (.ref q)) Q E s :=
 PySem.W.kat_one _ _ (LT.LtAt.tup hp hq hx hu prog w E _ (show PySem.W.BoolBack Q (.bool l) s from h))
theorem pS {p q:Addr} {x y x' y':Value} {e1 e2:Bool} (hp:IsTup s.heap p #[x,y]) (hq:IsTup s.heap q #[x',y']) (hu:A.units < cLine) (h1:EqAt A.in1 s x x' e1) (h2:EqAt A.in1 s y y' e2) (hs:p=q→(e1&&e2)=true):EqAt A s (.ref p) (.ref q) (e1&&e2):=by
 by_cases hpq:p=q
 ·rw [hs hpq,hpq];exact EqAt.same _
 ·have:=RcAt.tuples (e:=fun j=>if j=0 then e1 else e2) hp hq hu fun j g1 g2=>by
   match j,g1,g2 with
   | 0,_,_=>exact h1
   | 1,_,_=>exact h2
   | j+2,g1,_=>exact absurd g1 (by simp)
  refine EqAt.of_refs hpq ?_
  have e:((List.range (min (#[x,y]:Array Value).size (#[x',y']:Array Value).size)).all (fun j=>if j=0 then e1 else e2)&&(#[x,y]:Array Value).size==(#[x',y']:Array Value).size)=(e1&&e2):=by
   cases e1 <;> cases e2 <;> rfl
  rw [e] at this
  exact this
noncomputable def Key2 (s:Shared) (kd:Value→K4) (v:Value):Prop:=∃ p q a t y c u,v=.ref p∧IsTup s.heap p #[.ref q,.int c u]∧IsTup s.heap q #[.int a t,y] ∧
 ((∃ b r,y=.int b r∧a≠2∧kd v=(a,b,[],c))∨∃ z r,y=.str z r∧a=2∧kd v=(2,0,z.cps.toList,c))
noncomputable def In2 (s:Shared) (kd:Value→K4) (x:Keyed):Prop:=Key2 s kd x.1
theorem jY {p:Addr} {xs ys:Array Value} (h:IsTup s.heap p xs) (g:IsTup s.heap p ys):xs=ys:=by
 obtain ⟨o,e1,_,n,e2⟩:=h
 obtain ⟨o',f1,_,m,f2⟩:=g
 rw [e1] at f1
 cases f1
 rw [e2] at f2
 cases f2
 rfl
theorem ask2 {x y:Keyed} {st:SortSt} {Q:Option Bool→SortSt→Prop} {p q p' q':Addr} {c c':Int} {u u':Tok} {e l:Bool} (hx:x.1=.ref p) (hy:y.1=.ref p') (h1:IsTup s.heap p #[.ref q,.int c u]) (h2:IsTup s.heap p' #[.ref q',.int c' u'])
  (he:EqAt A s (.ref q) (.ref q') e) (hl:e=false→∀ (Q:Bool→Shared→Prop),Q l s→wpAny (model prog w) A (oneLt' false (.ref q) (.ref q')) Q (fun _ _=>False) s) (hk:kindOf st=tuples' false)
  (hq:Q (some (if e=true then decide (c < c') else l)) st):wpS (model prog w) A E s (lt' x y) Q st:=by
 obtain ⟨o,e1,_,n,e2⟩:=h1
 obtain ⟨o',f1,_,m,f2⟩:=h2
 rw [lt'_eq]
 refine wpS_bind (wpS_get ?_)
 rw [hk,hx,hy]
 have fin:∀ r:Bool,r=(if e=true then decide (c < c') else l)→(fun v s'=>s'=s∧(fun (u:Except Value Bool) (st':SortSt)=>wpS (model prog w) A E s (match u with|.ok b=>pure (some b)|.error e=>do modify (fun s=>SortSt.mk' (kindOf s) (arrOf s) (pendingOf s) (gallopOf s) (some e));pure none) Q st') v st) (.ok r) s:=fun r hr=>⟨rfl,by rw [hr];exact wpS_pure hq⟩
 refine wpS_bind (wpS_lift (wpAny_attempt (PySem.W.kat_lt e1 e2 f1 f2 ?_)))
 refine PySem.W.kat_cons (he prog w _ _ (PySem.W.kat_go (fun z=>PySem.W.kat_yes ?_) fun z=>PySem.W.kat_no (hl z _ (fin _ (by rw [z];rfl)))))
 refine PySem.W.kat_cons (wpAny_eqBool_int (PySem.W.kat_go (fun q4=>PySem.W.kat_yes ?_) fun q4=>PySem.W.kat_no (pG (fin _ (by rw [if_pos z])))))
 refine PySem.W.kat_nil (fin _ ?_)
 have q4:c=c':=by simpa using q4
 rw [if_pos z,q4,decide_eq_false (Int.lt_irrefl c')]
 rfl
theorem orc2 (hu:A.units+2 < cLine):Orc (model prog w) A E s (blt4 kd) (tuples' false) (In2 s kd):=by
 refine ⟨fun x y h=>?_,fun x y z h g=>?_,fun x y st Q hx hy hk hq=>?_⟩
 ·have h:=of_decide_eq_true h
  exact decide_eq_false fun g=>to4.irr _ (to4.tr _ _ _ h g)
 ·have h:=of_decide_eq_false h
  have g:=of_decide_eq_false g
  refine decide_eq_false fun e=>?_
  rcases to4.tri (kd y.1) (kd x.1) with q|q|q
  ·exact h q
  ·exact g (q ▸ e)
  ·exact g (to4.tr _ _ _ e q)
 ·obtain ⟨p,q,a,t,yy,c,u,e1,e2,e3,e4⟩:=hx
  obtain ⟨p',q',a',t',yy',c',u',f1,f2,f3,f4⟩:=hy
  have hu1:A.units < cLine:=by omega
  have hb:blt4 kd x y=decide (Lt4 (kd x.1) (kd y.1)):=rfl
  rw [hb] at hq
  have i0:EqAt A.in1 s (.int a t) (.int a' t') (a==a'):=EqAt.int_int _ _ _ _
  rcases e4 with ⟨b,r,rfl,a2,e5⟩|⟨z,r,rfl,a2,e5⟩ <;> rcases f4 with ⟨b',r',rfl,a2',f5⟩|⟨z',r',rfl,a2',f5⟩
  ·rw [e5,f5] at hq
   have hs:q=q'→((a==a')&&(b==b'))=true:=fun z=>by
    have:=jY e3 (z ▸ f3)
    simp at this
    simp [this.1.1,this.2.1]
   refine ask2 (l:=if a=a' then decide (b < b') else decide (a < a')) e1 f1 e2 f2 (pS e3 f3 hu1 i0 (EqAt.int_int _ _ _ _) hs) (fun z Q h=>qo e3 f3 ?_ hu1 h) hk ?_
   ·by_cases h1:a=a'
    ·subst h1
     rw [if_pos rfl]
     refine .eq (by have:=i0;rwa [beq_self_eq_true] at this) (.ne ?_ (LT.LtAt.int _ _ _ _))
     have e:(b==b')=false:=by rw [beq_self_eq_true,Bool.true_and] at z;exact z
     rw [← e];exact EqAt.int_int _ _ _ _
    ·rw [if_neg h1]
     exact .ne (by rw [← beq_eq_false_iff_ne.mpr h1];exact i0) (LT.LtAt.int _ _ _ _)
   ·have e:(if ((a==a')&&(b==b'))=true then decide (c < c') else if a=a' then decide (b < b') else decide (a < a'))=decide (Lt4 (a,b,[],c) (a',b',[],c')):=by
     by_cases h1:a=a'
     ·subst h1
      by_cases h2:b=b'
      ·subst h2
       rw [if_pos (by simp)]
       exact decide_eq_decide.mpr l4.symm
      ·rw [if_neg (by simp [h2]),if_pos rfl]
       exact decide_eq_decide.mpr (l2 h2).symm
     ·rw [if_neg (by simp [h1]),if_neg h1]
      exact decide_eq_decide.mpr (l1 h1).symm
    rw [e];exact hq
  ·rw [e5,f5] at hq
   subst a2'
   have h1:¬ a=2:=a2
   have hs:q=q'→((a==2)&&false)=true:=fun z=>by
    have:=jY e3 (z ▸ f3)
    simp at this
   refine ask2 (l:=decide (a < 2)) e1 f1 e2 f2 (pS e3 f3 hu1 i0 (EqAt.int_str _ _ _ _) hs) (fun z Q h=>qo e3 f3 (.ne (by rw [← beq_eq_false_iff_ne.mpr h1];exact i0) (LT.LtAt.int _ _ _ _)) hu1 h) hk ?_
   have e:(if ((a==2)&&false)=true then decide (c < c') else decide (a < 2))=decide (Lt4 (a,b,[],c) (2,0,z'.cps.toList,c')):=by
    rw [if_neg (by simp)]
    exact decide_eq_decide.mpr (l1 h1).symm
   rw [e];exact hq
  ·rw [e5,f5] at hq
   subst a2
   have h1:¬ (2:Int)=a':=fun z=>a2' z.symm
   have hs:q=q'→(((2:Int)==a')&&false)=true:=fun z=>by
    have:=jY e3 (z ▸ f3)
    simp at this
   refine ask2 (l:=decide ((2:Int) < a')) e1 f1 e2 f2 (pS e3 f3 hu1 i0 (EqAt.str_int _ _ _ _) hs) (fun z Q h=>qo e3 f3 (.ne (by rw [← beq_eq_false_iff_ne.mpr h1];exact i0) (LT.LtAt.int _ _ _ _)) hu1 h) hk ?_
   have e:(if (((2:Int)==a')&&false)=true then decide (c < c') else decide ((2:Int) < a'))=decide (Lt4 (2,0,z.cps.toList,c) (a',b',[],c')):=by
    rw [if_neg (by simp)]
    exact decide_eq_decide.mpr (l1 h1).symm
   rw [e];exact hq
  ·rw [e5,f5] at hq
   subst a2 a2'
   have hs:q=q'→(((2:Int)==2)&&(z==z'))=true:=fun w=>by
    have:=jY e3 (w ▸ f3)
    simp at this
    simp [this.2.1]
   refine ask2 (l:=decide (z.cps.toList < z'.cps.toList)) e1 f1 e2 f2 (pS e3 f3 hu1 i0 (EqAt.str_str _ _ _ _) hs) (fun w Q h=>qo e3 f3 ?_ hu1 h) hk ?_
   ·refine .eq (by have:=i0;rwa [beq_self_eq_true] at this) (.ne ?_ (LT.LtAt.str _ _ _ _))
    have e:(z==z')=false:=by rw [beq_self_eq_true,Bool.true_and] at w;exact w
    rw [← e];exact EqAt.str_str _ _ _ _
   ·have e:(if (((2:Int)==2)&&(z==z'))=true then decide (c < c') else decide (z.cps.toList < z'.cps.toList))=decide (Lt4 (2,0,z.cps.toList,c) (2,0,z'.cps.toList,c')):=by
     by_cases h2:z=z'
     ·subst h2
      rw [if_pos (by simp)]
      exact decide_eq_decide.mpr l4.symm
     ·rw [if_neg (by simp [h2])]
      exact decide_eq_decide.mpr (l3 (v7 h2)).symm
    rw [e];exact hq
end
end TS
namespace TS
open PySem PyProof.Rows PySem.SeqAt
section
variable {prog:Program} {w:World} {A:Around} {E:Value→Shared→Prop} {s:Shared} {kd:Value→K4} {a kS:Addr} {ks vs:List Value}
theorem firsts2:∀ {ks:List Value},(∀ k∈ks,Key2 s kd k)→∃ fs,PySem.W.KatTups s.heap ks fs∧fs.length=ks.length∧∀ v∈fs,∃ q xs,v=Value.ref q∧IsTup s.heap q xs
 | [],_=>⟨[],PySem.W.KatTups.nil,rfl,fun v hv=>nomatch hv⟩
 | k::r,h=>by
  obtain ⟨p,q,a,t,y,c,u,rfl,⟨o,e1,e2,n,e3⟩,h2,_⟩:=h k (by simp)
  obtain ⟨fs,f1,f2,f3⟩:=firsts2 (ks:=r) fun x hx=>h x (List.mem_cons_of_mem _ hx)
  refine ⟨.ref q::fs,PySem.W.KatTups.cons e1 e2 e3 rfl f1,by simp [f2],fun v hv=>?_⟩
  rcases List.mem_cons.mp hv with rfl|hv
  ·exact ⟨q,_,rfl,h2⟩
  ·exact f3 v hv
theorem wK {e e1:Nat} {P:PySem.Fin→Shared→Prop} (hu:A.units+2 < cLine) (hl:ks.length=vs.length) (h2:2≤vs.length) (hz:vs.length≤1000000) (na:s.heap.get? a=some (seqObj "list" #[] e1)) (nk:s.heap.get? kS=some (seqObj "list" ks.toArray e)) (hne:a≠kS) (hkeys:∀ k∈ks,Key2 s kd k)
  (h:∀ ps:List Keyed,ps.Perm (ks.zip vs)→ps.Pairwise (fun x y=>¬ Lt4 (kd y.1) (kd x.1))→P (.done (.ret .none)) { s with heap:=behind s.heap kS a (ps.map (·.2)) }) :
  wpAny (model prog w) A (ksk_end a false vs.toArray e1 (.ref kS) ks.toArray) P E s:=by
 obtain ⟨fs,f1,f2,f3⟩:=firsts2 hkeys
 have hn2:¬ vs.toArray.size < 2:=by rw [List.size_toArray];omega
 unfold ksk_end
 try dsimp only
 rw [if_neg Bool.false_ne_true,if_neg hn2,if_neg hn2]
 refine wpAny_bind (PySem.W.kat_kind (T:=.type "tuple") f1 (by omega) (fun v hv=>?_) (by decide +kernel) ?_)
 ·obtain ⟨x,xs,rfl,⟨o,g1,g2,_⟩⟩:=f3 v hv
  exact g2 ▸ (PySem.W.Looks.ld g1).andThen .now
 rw [if_neg Bool.false_ne_true]
 have zl:(ks.toArray.zip vs.toArray).toList=ks.zip vs:=by simp
 have zs:(ks.toArray.zip vs.toArray).size=vs.length:=by rw [← Array.length_toList,zl,List.length_zip];omega
 have ek:tuples' ((Value.type "tuple") != Value.type "tuple")=tuples' false:=by rfl
 rw [ek]
 refine wpAny_bind (wpAny_mono (ln (orc2 (kd:=kd) hu) (st:=SortSt.mk' (tuples' false) (ks.toArray.zip vs.toArray) #[] 7 none)
  (Q:=fun _ st'=>(arrOf st').Perm (ks.toArray.zip vs.toArray)∧failedOf st'=none∧SegG (blt4 kd) (arrOf st') 0 (ks.toArray.zip vs.toArray).size) rfl (fun x hx=>?_) rfl rfl (by show 2≤(ks.toArray.zip vs.toArray).size;omega) fun st' a1 a2 a3=>⟨a1,a2,a3⟩) ?_ fun _ _ z=>z)
 ·have hx:x∈ks.zip vs:=by rw [← zl];exact hx
  exact hkeys x.1 (List.of_mem_zip hx).1
 rintro ⟨⟨⟩,st'⟩ s' ⟨rfl,hp,hf,hs⟩
 have hpl:(arrOf st').toList.Perm (ks.zip vs):=by rw [← zl];exact Array.perm_iff_toList_perm.mp hp
 refine pb (out:=(arrOf st').toList.map (·.2)) na nk hne (by apply Array.toList_inj.mp;rw [Array.toList_map]) (by rw [List.length_map,hpl.length_eq,List.length_zip];omega) (by omega) hf (h _ hpl ?_)
 rw [List.pairwise_iff_getElem]
 intro i j hi hj hij
 rw [Array.length_toList] at hi hj
 have:=hs i j (by omega) (by omega) (by rw [← hp.size_eq];exact hj)
 rw [lD hi,lD hj] at this
 simpa using of_decide_eq_false this
end
end TS
namespace L2
open PySem PySem.Spec PyProof.Rows
open TS (K4 Lt4)
theorem mj {α:Type} {a:α} {P:Prop} (h:(none:Option α)=some a):P:=by cases h
noncomputable def asI:D→Option Int
 | .int n=>some n
 | _=>none
noncomputable def asS:D→Option Str
 | .str z=>some z
 | _=>none
theorem jw {d:D} {n:Int} (h:asI d=some n):d=.int n:=by
 cases d with
 | int i=>exact congrArg D.int (Option.some.inj h)
 | _=>exact mj (a:=n) h
theorem xj {d:D} {z:Str} (h:asS d=some z):d=.str z:=by
 cases d with
 | str i=>exact congrArg D.str (Option.some.inj h)
 | _=>exact mj (a:=z) h
noncomputable def entV (v:D) (n:Int):Option K4:=match v with
 | .non=>some (0,0,[],n)
 | .int i=>some (1,i,[],n)
 | .str z=>some (2,0,z.cps.toList,n)
 | _=>none
noncomputable def entL (xs:List D):Option K4:=match xs with
 | [v,w]=>(asI w).bind (entV v)
 | _=>none
noncomputable def entKey (d:D):Option K4:=match d with
 | .tup xs=>entL xs
 | _=>none
noncomputable def ag (k:K4):D:=if k.1=0 then .tup [.non,.int k.2.2.2] else if k.1=1 then .tup [.int k.2.1,.int k.2.2.2] else .tup [.str ⟨k.2.2.1.toArray⟩,.int k.2.2.2]
theorem jj {d:D} {k:K4} (h:entKey d=some k):ag k=d:=by
 cases d with
 | tup xs =>
  match xs,h with
  | [],h=>exact mj (a:=k) h
  | [v],h=>exact mj (a:=k) h
  | [v,w],h =>
   have h:(asI w).bind (entV v)=some k:=h
   obtain ⟨n,e1,e2⟩:=Option.bind_eq_some_iff.mp h
   rw [jw e1]
   cases v with
   | non=>cases e2;rfl
   | int i=>cases e2;rfl
   | str z=>cases e2;rfl
   | _=>exact mj (a:=k) e2
  | v::w::u::r,h=>exact mj (a:=k) h
 | _=>exact mj (a:=k) h
noncomputable def keyL (xs:List D):Option K4:=match xs with
 | [a,b,z,c]=>(asI a).bind fun a=>(asI b).bind fun b=>(asS z).bind fun z=>(asI c).bind fun c=>some (a,b,z.cps.toList,c)
 | _=>none
noncomputable def keyD (d:D):Option K4:=match d with
 | .tup xs=>keyL xs
 | _=>none
noncomputable def keyK (r:R D):Option K4:=match r with
 | .ok d=>keyD d
 | _=>none
theorem pY {r:R D} {k:K4} (h:keyK r=some k):∃ a b z c,r=.ok (.tup [.int a,.int b,.str z,.int c])∧k=(a,b,z.cps.toList,c):=by
 cases r with
 | ok d =>
  cases d with
  | tup xs =>
   match xs,h with
   | [],h=>exact mj (a:=k) h
   | [_],h=>exact mj (a:=k) h
   | [_,_],h=>exact mj (a:=k) h
   | [_,_,_],h=>exact mj (a:=k) h
   | [a,b,z,c],h =>
    have h:((asI a).bind fun a=>(asI b).bind fun b=>(asS z).bind fun z=>(asI c).bind fun c=>some (a,b,z.cps.toList,c))=some k:=h
    obtain ⟨a',e1,h⟩:=Option.bind_eq_some_iff.mp h
    obtain ⟨b',e2,h⟩:=Option.bind_eq_some_iff.mp h
    obtain ⟨z',e3,h⟩:=Option.bind_eq_some_iff.mp h
    obtain ⟨c',e4,h⟩:=Option.bind_eq_some_iff.mp h
    rw [jw e1,jw e2,xj e3,jw e4]
    exact ⟨_,_,_,_,rfl,(Option.some.inj h).symm⟩
   | _::_::_::_::_::_,h=>exact mj (a:=k) h
  | _=>exact mj (a:=k) h
 | _=>exact mj (a:=k) h
noncomputable def keysG (κ:R D→Option K4) (F:List D→R D):List D→Option (List K4)
 | []=>some []
 | d::r=>match entKey d,keysG κ F r with
  | some k,some ks=>if κ (F [d])=some k then some (k::ks) else none
  | _,_=>none
theorem lN {κ:R D→Option K4} {F:List D→R D} {d:D} {r:List D} {l:List K4} (h:keysG κ F (d::r)=some l):∃ k ks,l=k::ks∧entKey d=some k∧κ (F [d])=some k∧keysG κ F r=some ks:=by
 unfold keysG at h
 split at h
 ·rename_i k ks h1 h2
  split at h
  ·rename_i h3;cases h;exact ⟨k,ks,rfl,h1,h3,h2⟩
  ·cases h
 ·cases h
theorem nQ {κ:R D→Option K4} {F:List D→R D}:∀ {xs:List D} {l:List K4},keysG κ F xs=some l→∀ d∈xs,∃ k,entKey d=some k∧κ (F [d])=some k
 | [],_,_,_,h=>by cases h
 | d::r,l,h,x,hx=>by
  obtain ⟨k,ks,_,h1,h2,h3⟩:=lN h
  rcases List.mem_cons.mp hx with rfl|hx
  ·exact ⟨k,h1,h2⟩
  ·exact nQ h3 x hx
noncomputable def le4 (a b:K4):Bool:=!decide (Lt4 b a)
noncomputable def sortG (κ:R D→Option K4) (F:List D→R D) (ds:List D):R D:=match ds with
 | [.lst xs]=>if xs.length≤1000000 then (match keysG κ F xs with
  | some ks=>.ok (.lst ((ks.mergeSort le4).map ag))
  | none=>.no) else .no
 | _=>.no
noncomputable abbrev sortD (F:List D→R D):List D→R D:=sortG keyK F
noncomputable def kdat (F:List D→R D) (d:D):D:=match F [d] with
 | .ok k=>k
 | _=>.non
theorem pk {α β:Type} {f:α→β} {l m:List β} (h:l.Perm m):∀ {xs:List α},m=xs.map f→∃ ys:List α,ys.Perm xs∧l=ys.map f:=by
 induction h with
 | nil=>intro xs e;cases xs with
  | nil=>exact ⟨[],.nil,rfl⟩
  | cons _ _=>cases e
 | cons x _ ih=>intro xs e;cases xs with
  | nil=>cases e
  | cons a as =>
   rw [List.map_cons] at e
   obtain ⟨e1,e2⟩:=List.cons.inj e
   obtain ⟨ys,h1,h2⟩:=ih e2
   exact ⟨a::ys,.cons _ h1,by rw [List.map_cons,h2,e1]⟩
 | swap x y l=>intro xs e;cases xs with
  | nil=>cases e
  | cons a as=>cases as with
   | nil=>cases e
   | cons b bs =>
    rw [List.map_cons,List.map_cons] at e
    obtain ⟨e1,e2⟩:=List.cons.inj e
    obtain ⟨e3,e4⟩:=List.cons.inj e2
    exact ⟨b::a::bs,.swap _ _ _,by rw [List.map_cons,List.map_cons,e1,e3,e4]⟩
 | trans _ _ ih1 ih2 =>
  intro xs e
  obtain ⟨ys,h1,h2⟩:=ih2 e
  obtain ⟨zs,h3,h4⟩:=ih1 h2
  exact ⟨zs,h3.trans h1,h4⟩
theorem jE (m:List K4):(m.mergeSort le4).Pairwise fun x y=>¬ Lt4 y x:=by
 have:=List.pairwise_mergeSort (le:=le4) (fun a b c h1 h2=>?_) (fun a b=>?_) m
 ·exact this.imp fun h=>by unfold le4 at h;simpa using h
 ·unfold le4 at h1 h2 ⊢
  rw [Bool.not_eq_true',decide_eq_false_iff_not] at h1 h2 ⊢
  intro q
  rcases TS.to4.tri a b with z|z|z
  ·exact h2 (TS.to4.tr _ _ _ q z)
  ·exact h2 (z ▸ q)
  ·exact h1 z
 ·unfold le4
  by_cases h1:Lt4 b a
  ·have h2:¬ Lt4 a b:=fun z=>TS.to4.irr _ (TS.to4.tr _ _ _ h1 z)
   simp [h2]
  ·simp [h1]
theorem tm {l m:List K4} (h:l.Perm m) (hs:l.Pairwise fun x y=>¬ Lt4 y x):l=m.mergeSort le4:=by
 refine List.Perm.eq_of_pairwise (le:=fun x y=>¬ Lt4 y x) (fun a b _ _ h1 h2=>?_) hs ?_ (h.trans (List.mergeSort_perm _ _).symm)
 ·rcases TS.to4.tri a b with q|q|q
  ·exact absurd q h2
  ·exact q
  ·exact absurd q h1
 ·exact jE m
noncomputable def kdOf (h:Heap) (v:Value):K4:=match v with
 | .ref p=>(match h.get? p with
  | some o=>(match o.data with
   | .seq xs _=>(match xs.toList with
    | [.int a _,.int b _,.str z _,.int c _]=>(a,b,z.cps.toList,c)
    | _=>(0,0,[],0))
   | _=>(0,0,[],0))
  | none=>(0,0,[],0))
 | _=>(0,0,[],0)
structure It4 where
 k:Value
 u:Value
 x:V
 d:D
theorem items4 {K:PySem.W.Frag} {H:Hp} {kd:Value→K4}:∀ {ks us:List Value} {xs:List V} {ds:List D},Vals xs us→Dens K H ds xs→Paired (fun k d=>entKey d=some (kd k)) ks ds →
  ∃ m:List It4,m.map (fun q=>(q.k,q.u))=ks.zip us∧m.map It4.d=ds∧∀ q∈m,RelV q.x q.u∧Den K H q.d q.x∧entKey q.d=some (kd q.k)
 | _,_,_,[],r,dn,p=>by
  cases dn;cases r;cases p
  exact ⟨[],rfl,rfl,fun q hq=>nomatch hq⟩
 | _,_,_,d::ds,r,⟨v,vs,e,d1,d2⟩,p=>by
  subst e
  cases r with
  | @cons _ u _ us r1 r2 =>
   cases p with
   | @cons k _ ks _ p1 p2 =>
    obtain ⟨m,h1,h2,h3⟩:=items4 r2 d2 p2
    refine ⟨⟨k,u,v,d⟩::m,by rw [List.map_cons,h1];rfl,by rw [List.map_cons,h2],fun q hq=>?_⟩
    rcases List.mem_cons.mp hq with rfl|hq
    ·exact ⟨r1,d1,p1⟩
    ·exact h3 q hq
theorem lY {K:PySem.W.Frag} {H:Hp}:∀ {m:List It4},(∀ q∈m,RelV q.x q.u∧Den K H q.d q.x)→Vals (m.map It4.x) (m.map It4.u)∧Dens K H (m.map It4.d) (m.map It4.x)
 | [],_=>⟨.nil,Dens.nil⟩
 | q::m,h=>by
  obtain ⟨h1,h2⟩:=lY (m:=m) fun z hz=>h z (List.mem_cons_of_mem _ hz)
  obtain ⟨h3,h4⟩:=h q List.mem_cons_self
  exact ⟨.cons h3 h1,Dens.cons h4 h2⟩
theorem z7 {K:PySem.W.Frag} {H:Hp} {i:Int} {ds:List D} {vs:List V} {us:List Value} (dn:Dens K H (.int i::ds) vs) (r:Vals vs us):∃ t vs' us',us=.int i t::us'∧Dens K H ds vs'∧Vals vs' us':=by
 obtain ⟨v,vs',rfl,d1,d2⟩:=dn
 cases d1
 cases r with
 | cons r1 r2=>obtain ⟨t,rfl⟩:=r1;exact ⟨t,_,_,rfl,d2,r2⟩
theorem dv_s {K:PySem.W.Frag} {H:Hp} {i:Str} {ds:List D} {vs:List V} {us:List Value} (dn:Dens K H (.str i::ds) vs) (r:Vals vs us):∃ t vs' us',us=.str i t::us'∧Dens K H ds vs'∧Vals vs' us':=by
 obtain ⟨v,vs',rfl,d1,d2⟩:=dn
 cases d1
 cases r with
 | cons r1 r2=>obtain ⟨t,rfl⟩:=r1;exact ⟨t,_,_,rfl,d2,r2⟩
theorem xb {K:PySem.W.Frag} {H:Hp} {a b c:Int} {z:Str} {vs:List V} {us:List Value} (dn:Dens K H [.int a,.int b,.str z,.int c] vs) (r:Vals vs us):∃ t1 t2 t3 t4,us=[.int a t1,.int b t2,.str z t3,.int c t4]:=by
 obtain ⟨t1,_,_,rfl,dn,r⟩:=z7 dn r
 obtain ⟨t2,_,_,rfl,dn,r⟩:=z7 dn r
 obtain ⟨t3,_,_,rfl,dn,r⟩:=dv_s dn r
 obtain ⟨t4,_,_,rfl,dn,r⟩:=z7 dn r
 cases dn
 cases r
 exact ⟨t1,t2,t3,t4,rfl⟩
end L2
namespace L2
open PySem PySem.Spec PyProof.Rows
open TS (K4 Lt4)
section
variable {X:Cx} {pins:List (Addr×Obj)} {σ:St} {κ:R D→Option K4} {F:List D→R D} {k:Nat} {f a kS:Addr} {fd:FuncData} {ps:List Str} {mg:Str→Option Value} {E:Value→Shared→Prop}
theorem xt {H:Hp} {s:Shared} {Q:VK} {us:List Value} {vs:List V} {sp:Sp} (G:FnOk X.prog X.w X.K X.mg X.base CX0 k f fd ps sp) (hr:Room k X.A.in1.in1) (hb:Binds X.K fd ps [])
  (I:Inv X pins σ H s) (r:Vals vs us) (h:sp vs H Q E0):wpAny (model X.prog X.w) X.A.in1.in1 (call (.ref f) us) (EP X pins σ Q) E s:=by
 have hl:(us++[]).length=ps.length:=by rw [List.append_nil,← r.length];exact G.len _ _ _ _ h
 have b:=hb s us I.kIn hl
 rw [List.append_nil] at b
 refine wpAny_call (fJ I.tk (codeAny_mono (G.run X.A.in1.in1 X.stack s H ⟨us,[]⟩ us vs Q E0 hr I.env0.in1.in1 b r h) fun r s' hq htk=>?_))
 cases r with
 | error e=>exact False.elim hq
 | ok fl =>
  cases fl with
  | ret u=>exact I.after hq
  | next=>exact False.elim hq
  | brk=>exact False.elim hq
  | cont=>exact False.elim hq
noncomputable def But (kS:Addr) (H H':Hp):Prop:=∀ b o,b≠kS→H b=some o→H' b=some o
theorem But.masked {H H':Hp} {as:List Addr} (h:But kS H H'):Same (mask (kS::as) H) (mask (kS::as) H'):=fun b o e=>by
 by_cases hb:b∈kS::as
 ·rw [dI hb] at e;cases e
 ·rw [aJ hb] at e ⊢
  exact h b o (fun z=>hb (z ▸ List.mem_cons_self)) e
theorem But.upd {H:Hp} {o:HO}:But kS H (upd H kS o):=fun b u hb e=>by rw [aR hb];exact e
theorem But.trans {H H1 H2:Hp} (h:But kS H H1) (g:But kS H1 H2):But kS H H2:=fun b o hb e=>g b o hb (h b o hb e)
noncomputable def Keys (X:Cx) (pins:List (Addr×Obj)) (σ:St) (kS:Addr) (as:List Addr) (H:Hp) (ks:List D) (s':Shared):Prop :=
 ∃ H' kvs,Inv X pins σ H' s'∧But kS H H'∧H' kS=some (.lst kvs)∧Dens X.K (mask (kS::as) H') ks kvs
theorem rZ {H:Hp} {s:Shared} {as:List Addr} {us:List Value} {xs:List V} {ds:List D} {l:List K4} {e1:Nat} {P:PySem.Fin→Shared→Prop}
  (G:FnOk X.prog X.w X.K X.mg X.base CX0 k f fd ps (spD X.K mg F)) (hr:Room k X.A.in1.in1) (hb:Binds X.K fd ps []) (I:Inv X pins σ H s) (hk:H kS=some (.lst [])) (has:∀ b∈as,H b≠none) (hks:kS∉as)
  (r:Vals xs us) (dn:Dens X.K (mask (kS::as) H) ds xs) (hv:∀ r k,κ r=some k→∃ d,r=.ok d) (hl:keysG κ F ds=some l) (hz:ds.length≤1000000)
  (h:∀ H' kvs its n s',Inv X pins σ H' s'→But kS H H'→H' kS=some (.lst kvs)→Dens X.K (mask (kS::as) H') (ds.map (kdat F)) kvs→Vals kvs its→s'.heap.get? kS=some (seqObj "list" its.toArray n) →
   wpAny (model X.prog X.w) X.A.in1.in1 (ksk_end a false us.toArray e1 (.ref kS) its.toArray) P E s') :
  wpAny (model X.prog X.w) X.A.in1.in1 (ksk_rest a (.ref f) false us.toArray e1 (.ref kS)) P E s:=by
 have hlen:ds.length=us.length:=dn.len.trans r.length
 unfold ksk_rest
 refine wpAny_bind (wpAny_rule ?_)
 rw [List.forIn_toArray]
 refine wpAny_bind (ksk_fold (fun j s'=>Keys X pins σ kS as H ((ds.map (kdat F)).take j) s') us 0 s ⟨H,[],I,fun b o _ e=>e,hk,by rw [List.take_zero];exact Dens.nil⟩ (fun j x s' hx hI=>?_) fun s' hd=>?_)
 ·obtain ⟨H1,kvs,I1,b1,k1,d1⟩:=hI
  rw [Nat.zero_add] at d1 ⊢
  have hj:j < us.length:=by
   have:=List.getElem?_eq_some_iff.mp hx
   exact this.1
  have hjx:j < xs.length:=by rw [r.length];exact hj
  obtain ⟨u,hu,ru⟩:=r.get (i:=j) (List.getElem?_eq_getElem hjx)
  rw [hx] at hu
  cases hu
  obtain ⟨d,hd,dd⟩:=dn.got (i:=j) (List.getElem?_eq_getElem hjx)
  obtain ⟨kk,q1,q2⟩:=nQ hl d (List.mem_of_getElem? hd)
  obtain ⟨kk',q3⟩:=hv _ _ q2
  have ekd:kdat F d=kk':=by unfold kdat;rw [q3]
  have hkl:kvs.length≤j:=by rw [← d1.len,List.length_take];omega
  refine wpAny_bind (wpAny_attempt (wpAny_mono (xt (us:=[x]) (vs:=[xs[j]]) (Q:=fun v H2=>Same H1 H2∧Den X.K (mask (kS::as) H2) (kdat F d) v) (E:=fun _ _=>False) G hr hb I1 (.cons ru .nil) ⟨kS::as,[d],fun b hb=>?_,Dens.cons (dd.mono b1.masked) Dens.nil,?_⟩) (fun u s2 hq=>?_) fun _ _ hF=>hF.elim))
  ·rcases List.mem_cons.mp hb with rfl|hb
   ·rw [k1];simp
   ·cases e:H b with
    | none=>exact absurd e (has b hb)
    | some o=>rw [b1 b o (fun z=>hks (z ▸ hb)) e];simp
  ·rw [q3]
   exact fun v H' s dv=>⟨s,by rw [ekd];exact dv⟩
  ·obtain ⟨v,H2,I2,rv,s12,dv⟩:=hq
   have k2:=s12 _ _ k1
   obtain ⟨z2,its,n,ri,hil,e2⟩:=I2.lstM k2
   try dsimp only
   refine wpAny_bind (listUpdate_at e2 rfl ?_ (by rw [List.size_toArray,← hil,sizeLine_eq];omega) (Nat.le_trans (Nat.le_of_eq (Array.size_push ..)) (by rw [List.size_toArray,← hil,sizeLine_eq];omega)))
   refine wpAny_pure ⟨rfl,?_⟩
   have I3:=I2.lset (its':=its++[u]) (f:=(·.push u)) (t':=s2.toks) k2 e2 (by simp) (ri.append (.cons rv .nil)) (by rw [List.length_append,List.length_singleton,sizeLine_eq];omega) (by walk_at "tok")
   refine ⟨_,_,I3,(b1.trans fun b o _ e=>s12 b o e).trans But.upd,a9,?_⟩
   have e:(ds.map (kdat F)).take (j+1)=(ds.map (kdat F)).take j++[kdat F d]:=by
    rw [List.take_add_one,List.getElem?_map,hd];rfl
   rw [e]
   refine ((d1.mono (aG s12)).append (Dens.cons dv Dens.nil)).mono (But.upd (kS:=kS) (H:=H2)).masked
 ·obtain ⟨H1,kvs,I1,b1,k1,d1⟩:=hd
  have e:(ds.map (kdat F)).take (0+us.length)=ds.map (kdat F):=by rw [Nat.zero_add];exact List.take_of_length_le (by rw [List.length_map,hlen];exact Nat.le_refl _)
  rw [e] at d1
  obtain ⟨z2,its,n,ri,hil,e2⟩:=I1.lstM k1
  refine wpAny_bind (listItems_at e2 rfl ?_)
  exact h H1 kvs its n s' I1 b1 k1 d1 ri e2
end
end L2
namespace TS
open PySem PyProof.Rows
section
variable {prog:Program} {w:World} {A:Around} {E:Value→Shared→Prop} {s:Shared} {kd:Value→K4} {a kS:Addr} {ks vs:List Value}
theorem xL {e e1:Nat} {P:PySem.Fin→Shared→Prop} (hl:ks.length=vs.length) (h2:vs.length < 2) (na:s.heap.get? a=some (seqObj "list" #[] e1)) (nk:s.heap.get? kS=some (seqObj "list" ks.toArray e)) (hne:a≠kS)
  (h:∀ ps:List Keyed,ps.Perm (ks.zip vs)→ps.Pairwise (fun x y=>¬ Lt4 (kd y.1) (kd x.1))→P (.done (.ret .none)) { s with heap:=behind s.heap kS a (ps.map (·.2)) }) :
  wpAny (model prog w) A (ksk_end a false vs.toArray e1 (.ref kS) ks.toArray) P E s:=by
 have hn2:vs.toArray.size < 2:=by rw [List.size_toArray];omega
 unfold ksk_end
 try dsimp only
 rw [if_neg Bool.false_ne_true,if_pos hn2,if_pos hn2]
 refine wpAny_bind (wpAny_pure ?_)
 rw [if_neg Bool.false_ne_true]
 have zl:(ks.toArray.zip vs.toArray).toList=ks.zip vs:=by simp
 have hlen:(ks.zip vs).length < 2:=by rw [List.length_zip];omega
 refine wpAny_bind (wpAny_pure ?_)
 refine pb (st:=SortSt.mk' general' (ks.toArray.zip vs.toArray) #[] 7 none) (out:=(ks.zip vs).map (·.2)) na nk hne ?_ (by rw [List.length_map];omega) (by omega) rfl (h _ (List.Perm.refl _) ?_)
 ·show (ks.toArray.zip vs.toArray).map (·.2)=_
  apply Array.toList_inj.mp
  rw [Array.toList_map,zl]
 ·match hq:ks.zip vs with
  | []=>exact List.Pairwise.nil
  | [x]=>exact List.pairwise_singleton _ _
  | x::y::r=>rw [hq] at hlen;simp at hlen;omega
end
end TS
namespace L2
open PySem PySem.Spec PyProof.Rows
open TS (K4 Lt4)
section
variable {X:Cx} {pins:List (Addr×Obj)} {σ:St} {F:List D→R D} {k:Nat} {f a kS:Addr} {fd:FuncData} {ps:List Str} {mg:Str→Option Value} {E:Value→Shared→Prop}
structure KF (κ:R D→Option K4) where
 kd:Heap→Value→K4
 At:Shared→Value→Prop
 val:∀ r k,κ r=some k→∃ d,r=.ok d
 laid:∀ {X:Cx} {pins:List (Addr×Obj)} {σ:St} {H Hm:Hp} {s:Shared} {d:D} {k:K4} {v:V} {u:Value},Inv X pins σ H s→Same Hm H→κ (.ok d)=some k→Den X.K Hm d v→RelV v u→At s u∧kd s.heap u=k
 fin:∀ {prog:Program} {w:World} {A:Around} {E:Value→Shared→Prop} {s:Shared} {a kS:Addr} {ks vs:List Value} {e e1:Nat} {P:PySem.Fin→Shared→Prop},A.units+2 < cLine→ks.length=vs.length→2≤vs.length→vs.length≤1000000→s.heap.get? a=some (seqObj "list" #[] e1)→s.heap.get? kS=some (seqObj "list" ks.toArray e)→a≠kS→(∀ k∈ks,At s k) →
  (∀ ps:List Keyed,ps.Perm (ks.zip vs)→ps.Pairwise (fun x y=>¬ Lt4 (kd s.heap y.1) (kd s.heap x.1))→P (.done (.ret .none)) { s with heap:=TS.behind s.heap kS a (ps.map (·.2)) }) →
  wpAny (model prog w) A (ksk_end a false vs.toArray e1 (.ref kS) ks.toArray) P E s
noncomputable def kf4:KF keyK where
 kd:=kdOf
 At:=fun s v=>TS.Key4 s (kdOf s.heap) v
 val:=fun r k h=>by
  obtain ⟨a,b,z,c,e,_⟩:=pY h
  exact ⟨_,e⟩
 laid:=fun {X pins σ H Hm s d k v u} I hm h dn ru=>by
  obtain ⟨ka,kb,kz,kc,q3,q4⟩:=pY h
  cases q3
  obtain ⟨p,ys,rfl,hq,dy⟩:=dn
  cases ru
  obtain ⟨its2,ri,⟨o,e1,e2,n,e3⟩,_⟩:=I.tuple (hm.seqT hq)
  obtain ⟨t1,t2,t3,t4,rfl⟩:=xb dy ri
  have ek:kdOf s.heap (.ref p)=(ka,kb,kz.cps.toList,kc):=by
   unfold kdOf
   dsimp only
   rw [e1]
   dsimp only
   rw [e3]
  exact ⟨⟨p,o,_,n,ka,t1,kb,t2,kz,t3,kc,t4,rfl,e1,e2,e3,rfl,ek⟩,by rw [ek,q4]⟩
 fin:=fun _ hl h2 hz na nk hne hk h=>TS.ya hl h2 hz na nk hne hk h
noncomputable def two' (xs:List D):Option (D×D):=match xs with
 | [x,y]=>some (x,y)
 | _=>none
noncomputable def tupOf (d:D):Option (D×D):=match d with
 | .tup xs=>two' xs
 | _=>none
theorem wN {xs:List D} {p:D×D} (h:two' xs=some p):xs=[p.1,p.2]:=by
 match xs,h with
 | [],h=>exact mj h
 | [x],h=>exact mj h
 | [x,y],h=>cases h;rfl
 | x::y::z::r,h=>exact mj h
theorem nJ {d:D} {p:D×D} (h:tupOf d=some p):d=.tup [p.1,p.2]:=by
 cases d with
 | tup xs=>exact congrArg D.tup (wN h)
 | _=>exact mj (a:=p) h
noncomputable def keyV (a c:Int) (y:D):Option K4:=match y with
 | .int b=>if a=2 then none else some (a,b,[],c)
 | .str z=>if a=2 then some (2,0,z.cps.toList,c) else none
 | _=>none
noncomputable def keyN (r:R D):Option K4:=match r with
 | .ok d=>(tupOf d).bind fun p=>(asI p.2).bind fun c=>(tupOf p.1).bind fun q=>(asI q.1).bind fun a=>keyV a c q.2
 | _=>none
theorem qh {r:R D} {k:K4} (h:keyN r=some k):∃ a y c,r=.ok (.tup [.tup [.int a,y],.int c])∧keyV a c y=some k:=by
 cases r with
 | ok d =>
  obtain ⟨p,e1,h⟩:=Option.bind_eq_some_iff.mp h
  obtain ⟨c,e2,h⟩:=Option.bind_eq_some_iff.mp h
  obtain ⟨q,e3,h⟩:=Option.bind_eq_some_iff.mp h
  obtain ⟨a,e4,h⟩:=Option.bind_eq_some_iff.mp h
  exact ⟨a,q.2,c,by rw [nJ e1,jw e2,nJ e3,jw e4],h⟩
 | _=>exact mj (a:=k) h
noncomputable def seqAt (h:Heap) (v:Value):List Value:=match v with
 | .ref p=>(match h.get? p with
  | some o=>(match o.data with
   | .seq xs _=>xs.toList
   | _=>[])
  | none=>[])
 | _=>[]
theorem qb {h:Heap} {p:Addr} {xs:Array Value} (t:IsTup h p xs):seqAt h (.ref p)=xs.toList:=by
 obtain ⟨o,e1,_,n,e2⟩:=t
 unfold seqAt
 dsimp only
 rw [e1]
 dsimp only
 rw [e2]
noncomputable def kdIn (xs:List Value) (c:Int):K4:=match xs with
 | [.int a _,.int b _]=>(a,b,[],c)
 | [_,.str z _]=>(2,0,z.cps.toList,c)
 | _=>(0,0,[],0)
noncomputable def kdN (h:Heap) (v:Value):K4:=match seqAt h v with
 | [x,.int c _]=>kdIn (seqAt h x) c
 | _=>(0,0,[],0)
noncomputable def kfN:KF keyN where
 kd:=kdN
 At:=fun s v=>TS.Key2 s (kdN s.heap) v
 val:=fun r k h=>by
  obtain ⟨a,y,c,e,_⟩:=qh h
  exact ⟨_,e⟩
 laid:=fun {X pins σ H Hm s d k v u} I hm h dn ru=>by
  obtain ⟨a,y,c,q3,q4⟩:=qh h
  cases q3
  obtain ⟨p,ys,rfl,hq,dy⟩:=dn
  cases ru
  obtain ⟨its,ri,t1,_⟩:=I.tuple (hm.seqT hq)
  obtain ⟨v1,vs1,rfl,d1,v2,vs2,rfl,d2,rfl⟩:=dy
  cases d2
  obtain ⟨q,zs,rfl,hq2,dz⟩:=d1
  obtain ⟨its2,ri2,t2,_⟩:=I.tuple (hm.seqT hq2)
  obtain ⟨w1,ws1,rfl,g1,w2,ws2,rfl,g2,rfl⟩:=dz
  cases g1
  cases ri with
  | cons r1 rr =>
   cases r1
   cases rr with
   | cons r2 rr2 =>
    obtain ⟨tc,rfl⟩:=r2
    cases rr2
    cases ri2 with
    | cons r3 rr3 =>
     obtain ⟨ta,rfl⟩:=r3
     cases rr3 with
     | cons r4 rr4 =>
      cases rr4
      have ek:∀ yv,yv=_→kdN s.heap (.ref p)=kdIn [.int a ta,yv] c:=fun yv hy=>by
       unfold kdN
       rw [qb t1]
       dsimp only
       rw [qb t2,hy]
      cases y with
      | int b =>
       cases g2
       obtain ⟨tb,rfl⟩:=r4
       have e:=ek _ rfl
       have q4:(if a=2 then none else some (a,b,[],c))=some k:=q4
       by_cases h2:a=2
       ·rw [if_pos h2] at q4;cases q4
       ·rw [if_neg h2] at q4
        cases q4
        exact ⟨⟨p,q,a,ta,_,c,tc,rfl,t1,t2,.inl ⟨b,tb,rfl,h2,e⟩⟩,e⟩
      | str z =>
       cases g2
       obtain ⟨tb,rfl⟩:=r4
       have e:=ek _ rfl
       have q4:(if a=2 then some (2,0,z.cps.toList,c) else none)=some k:=q4
       by_cases h2:a=2
       ·rw [if_pos h2] at q4
        cases q4
        exact ⟨⟨p,q,a,ta,_,c,tc,rfl,t1,t2,.inr ⟨z,tb,rfl,h2,e⟩⟩,e⟩
       ·rw [if_neg h2] at q4;cases q4
      | _=>exact mj (a:=k) q4
 fin:=fun hu hl h2 hz na nk hne hk h=>TS.wK hu hl h2 hz na nk hne hk h
theorem KF.finA {κ:R D→Option K4} (C:KF κ) {prog:Program} {w:World} {A:Around} {E:Value→Shared→Prop} {s:Shared} {a kS:Addr} {ks vs:List Value} {e e1:Nat} {P:PySem.Fin→Shared→Prop} (hu:A.units+2 < cLine) (hl:ks.length=vs.length) (hz:vs.length≤1000000)
  (na:s.heap.get? a=some (seqObj "list" #[] e1)) (nk:s.heap.get? kS=some (seqObj "list" ks.toArray e)) (hne:a≠kS) (hk:∀ k∈ks,C.At s k)
  (h:∀ ps:List Keyed,ps.Perm (ks.zip vs)→ps.Pairwise (fun x y=>¬ Lt4 (C.kd s.heap y.1) (C.kd s.heap x.1))→P (.done (.ret .none)) { s with heap:=TS.behind s.heap kS a (ps.map (·.2)) }) :
  wpAny (model prog w) A (ksk_end a false vs.toArray e1 (.ref kS) ks.toArray) P E s:=by
 by_cases h2:vs.length < 2
 ·exact TS.xL (kd:=C.kd s.heap) hl h2 na nk hne h
 ·exact C.fin hu hl (by omega) hz na nk hne hk h
theorem keys4 {κ:R D→Option K4} (C:KF κ) {H Hm:Hp} {s:Shared} (I:Inv X pins σ H s) (hm:Same Hm H):∀ {ds:List D} {kvs:List V} {its:List Value} {l:List K4},Dens X.K Hm (ds.map (kdat F)) kvs→Vals kvs its→keysG κ F ds=some l →
  (∀ v∈its,C.At s v)∧Paired (fun v d=>entKey d=some (C.kd s.heap v)) its ds∧its.map (C.kd s.heap)=l
 | [],_,_,_,dn,r,h=>by cases dn;cases r;cases h;exact ⟨fun v hv=>(nomatch hv),.nil,rfl⟩
 | d::ds,_,_,_,⟨v,vs,e,d1,d2⟩,r,h=>by
  subst e
  obtain ⟨q,qs,rfl,h1,h2,h3⟩:=lN h
  cases r with
  | @cons _ u _ us r1 r2 =>
   obtain ⟨i1,i2,i3⟩:=keys4 C I hm d2 r2 h3
   obtain ⟨kk,q3⟩:=C.val _ _ h2
   have ekd:kdat F d=kk:=by unfold kdat;rw [q3]
   rw [ekd] at d1
   rw [q3] at h2
   obtain ⟨a1,a2⟩:=C.laid I hm h2 d1 r1
   refine ⟨fun v hv=>?_,.cons (by rw [h1,a2]) i2,by rw [List.map_cons,i3,a2]⟩
   rcases List.mem_cons.mp hv with rfl|hv
   ·exact a1
   ·exact i1 v hv
theorem tY {κ:R D→Option K4} (C:KF κ) {H0 H H':Hp} {s':Shared} {as:List Addr} {us its:List Value} {xs kvs:List V} {ds:List D} {l:List K4} {e1 n:Nat} {P:PySem.Fin→Shared→Prop} {oa:Obj}
  (I:Inv X (pins++[(a,seqObj "list" #[] e1)]) σ H' s') (fa:FpOk X pins H' a) (h0:Same H0 H) (h0k:H0 kS=none) (h0a:H0 a=none) (b:But kS H H') (hk:H' kS=some (.lst kvs)) (dk:Dens X.K (mask (kS::as) H') (ds.map (kdat F)) kvs) (rk:Vals kvs its)
  (ek:s'.heap.get? kS=some (seqObj "list" its.toArray n)) (has:a∉as) (hks:kS∉as) (hne:a≠kS)
  (r:Vals xs us) (dn:Dens X.K (mask (kS::as) H) ds xs) (hl:keysG κ F ds=some l) (hu:X.A.in1.in1.units+2 < cLine) (hz:ds.length≤1000000) (hbase:X.s₀.heap.get? a=none)
  (h:∀ H'' s'' outV,Inv X pins σ H'' s''→Same H0 H''→H'' a=some (.lst outV)→Dens X.K (mask (a::as) H'') ((l.mergeSort le4).map ag) outV→P (.done (.ret .none)) s'') :
  wpAny (model X.prog X.w) X.A.in1.in1 (ksk_end a false us.toArray e1 (.ref kS) its.toArray) P E s':=by
 have pa:=I.pin (a,seqObj "list" #[] e1) (by simp)
 have hlu:ds.length=us.length:=dn.len.trans r.length
 have hlk:its.length=us.length:=by rw [← rk.length,← dk.len,List.length_map,hlu]
 obtain ⟨k1,k2,k3⟩:=keys4 C I (aA _ _) dk rk hl
 refine C.finA hu hlk (by omega) pa.1 ek hne k1 fun qs hp hs=>?_
 obtain ⟨m,m1,m2,m3⟩:=items4 r (dn.mono b.masked) k2
 rw [← m1] at hp
 obtain ⟨m',p1,p2⟩:=pk hp rfl
 subst p2
 have m3':∀ q∈m',RelV q.x q.u∧Den X.K (mask (kS::as) H') q.d q.x∧entKey q.d=some (C.kd s'.heap q.k):=fun q hq=>m3 q (p1.mem_iff.mp hq)
 obtain ⟨v1,v2⟩:=lY (m:=m') fun q hq=>⟨(m3' q hq).1,(m3' q hq).2.1⟩
 have eo:(m'.map fun q=>(q.k,q.u)).map (·.2)=m'.map It4.u:=by rw [List.map_map];rfl
 rw [eo]
 have ed:m'.map It4.d=(l.mergeSort le4).map ag:=by
  have e1:m'.map It4.d=(m'.map fun q=>C.kd s'.heap q.k).map ag:=by
   rw [List.map_map]
   exact List.map_congr_left fun q hq=>(jj (m3' q hq).2.2).symm
  have e2:m'.map (fun q=>C.kd s'.heap q.k)=l.mergeSort le4:=by
   refine tm ?_ ?_
   ·have e3:m.map (fun q=>C.kd s'.heap q.k)=l:=by
     rw [← k3]
     have:m.map (fun q=>q.k)=its:=by
      have:=congrArg (List.map Prod.fst) m1
      rw [List.map_map,List.map_fst_zip (by omega)] at this
      exact this
     rw [← this,List.map_map];rfl
    rw [← e3]
    exact p1.map _
   ·rw [List.pairwise_map] at hs ⊢
    exact hs
  rw [e1,e2]
 rw [ed] at v2
 have hol:(m'.map It4.x).length≤sizeLine:=by
  rw [v1.length,List.length_map,p1.length_eq,← List.length_map (as:=m) (f:=It4.d),m2,sizeLine_eq];omega
 -- the keys go
 have I1:=I.lset (its':=[]) (ys:=[]) (f:=fun _=>(#[]:Array Value)) (t':=s'.toks) hk ek rfl .nil (Nat.zero_le _) (by walk_at "tok")
 have I2:Inv X pins σ (upd H' kS (.lst [])) { s' with heap:=s'.heap.update kS (Obj.mapSeq fun _=>(#[]:Array Value)) }:=I1.unpinned
 obtain ⟨f0,f1,f2,f3,f4,f5⟩:=fa
 have f0':upd H' kS (.lst []) a=none:=by rw [aR hne];exact f0
 have na:(s'.heap.update kS (Obj.mapSeq fun _=>(#[]:Array Value))).get? a=some (seqObj "list" #[] e1):=((Heap.SameBut.update s'.heap kS (Obj.mapSeq fun _=>(#[]:Array Value))).2 a hne).trans pa.1
 have I3:=I2.turned (t':=s'.toks) (h':=(s'.heap.update kS (Obj.mapSeq fun _=>(#[]:Array Value))).update a (Obj.mapSeq fun _=>(m'.map It4.u).toArray)) (it:=a) (fun b' u hb hu=>(Heap.get?_update_other _ _ (Ne.symm hb)).trans hu) f0' f1 f3 f4 f5 (by walk_at "tok")
 have I4:=I3.track (y:=a) (o:=.lst (m'.map It4.x)) ⟨hbase,f1,f2,f4,f5⟩ f0' ⟨hol,_,_,v1,PySem.IsL.update na _⟩
 refine h _ _ (m'.map It4.x) I4 (fun b' o e=>?_) a9 (v2.mono fun b' o e=>?_)
 ·have n1:b'≠a:=fun z=>by rw [z,h0a] at e;cases e
  have n2:b'≠kS:=fun z=>by rw [z,h0k] at e;cases e
  rw [aR n1,aR n2]
  exact b b' o n2 (h0 b' o e)
 ·by_cases hb:b'∈kS::as
  ·rw [dI hb] at e;cases e
  ·rw [aJ hb] at e
   have n1:b'≠a:=fun z=>by rw [z,f0] at e;cases e
   have n2:b'≠kS:=fun z=>hb (z ▸ List.mem_cons_self)
   rw [aJ (fun z=>(List.mem_cons.mp z).elim n1 fun z=>hb (List.mem_cons_of_mem _ z)),aR n1,aR n2]
   exact e
end
end L2
namespace L2
open PySem PySem.Spec PyProof.Rows
open TS (K4 Lt4)
section
variable {X:Cx} {pins:List (Addr×Obj)} {σ:St} {F:List D→R D} {k:Nat} {f a:Addr} {fd:FuncData} {ps:List Str} {mg:Str→Option Value} {E:Value→Shared→Prop}
theorem sv {κ:R D→Option K4} (C:KF κ) {H:Hp} {s:Shared} {as:List Addr} {us:List Value} {xs:List V} {ds:List D} {l:List K4} {n:Nat} {P:PySem.Fin→Shared→Prop}
  (G:FnOk X.prog X.w X.K X.mg X.base CX0 k f fd ps (spD X.K mg F)) (hr:Room k X.A.in1.in1) (hb:Binds X.K fd ps []) (I:Inv X pins σ H s) (fa:FpOk X pins H a) (ho:s.heap.get? a=some (seqObj "list" us.toArray n)) (has:∀ b∈as,H b≠none)
  (r:Vals xs us) (dn:Dens X.K (mask as H) ds xs) (hl:keysG κ F ds=some l) (hz:ds.length≤1000000) (hbase:X.s₀.heap.get? a=none)
  (h:∀ H'' s'' outV,Inv X pins σ H'' s''→Same H H''→H'' a=some (.lst outV)→Dens X.K (mask (a::as) H'') ((l.mergeSort le4).map ag) outV→P (.done (.ret .none)) s'') :
  wpAny (model X.prog X.w) X.A.in1.in1 (ksk_tree a (.ref f) false) P E s:=by
 have hlu:ds.length=us.length:=dn.len.trans r.length
 have ha:a < s.heap.objs.size:=Heap.lt_size ho
 obtain ⟨e1,ho1⟩:∃ e1,(s.heap.update a (Obj.mapSeq fun _=>(#[]:Array Value))).get? a=some (seqObj "list" #[] e1):=⟨_,get?_update_seq ho fun _=>#[]⟩
 obtain ⟨f0,f1,f2,f3,f4,f5⟩:=id fa
 have I1:=I.turned (t':=s.toks) (h':=s.heap.update a (Obj.mapSeq fun _=>(#[]:Array Value))) (it:=a) (fun b' u hb hu=>(Heap.get?_update_other _ _ (Ne.symm hb)).trans hu) f0 f1 f3 f4 f5 (by walk_at "tok")
 have I2:=I1.kept (t':=s.toks) (h':=(s.heap.update a (Obj.mapSeq fun _=>(#[]:Array Value))).push (seqObj "tuple" us.toArray 0)) (fun _ _ q=>Heap.get?_push_of_some _ q) (by walk_at "tok")
 have I3:=I2.lnew (its:=[]) (ys:=[]) (t':=s.toks) .nil (Nat.zero_le _) (by walk_at "tok")
 have hkS:((s.heap.update a (Obj.mapSeq fun _=>(#[]:Array Value))).push (seqObj "tuple" us.toArray 0)).objs.size=s.heap.objs.size+1:=by rw [size_push',Heap.size_update]
 have hkn:H ((s.heap.update a (Obj.mapSeq fun _=>(#[]:Array Value))).push (seqObj "tuple" us.toArray 0)).objs.size=none:=I2.fresh
 have ho3:(((s.heap.update a (Obj.mapSeq fun _=>(#[]:Array Value))).push (seqObj "tuple" us.toArray 0)).push (seqObj "list" #[] 0)).get? a=some (seqObj "list" #[] e1):=Heap.get?_push_of_some _ (Heap.get?_push_of_some _ ho1)
 unfold ksk_tree
 refine wpAny_bind (listItems_at ho rfl ?_)
 refine wpAny_bind (listUpdate_at ho rfl ?_ (by rw [List.size_toArray,sizeLine_eq];omega) (Nat.zero_le _))
 refine wpAny_bind (seqEpoch_at ho1 rfl ?_)
 refine wpAny_bind (wpAny_newTuple ?_ (by show us.length≤_;rw [sizeLine_eq];omega))
 refine wpAny_bind (wpAny_newList ?_ (Nat.zero_le _))
 refine wpAny_holding ?_
 have hne:a≠((s.heap.update a (Obj.mapSeq fun _=>(#[]:Array Value))).push (seqObj "tuple" us.toArray 0)).objs.size:=by rw [hkS];exact Nat.ne_of_lt (Nat.lt_succ_of_lt ha)
 generalize hq:((s.heap.update a (Obj.mapSeq fun _=>(#[]:Array Value))).push (seqObj "tuple" us.toArray 0)).objs.size=kS at *
 have hkas:kS∉as:=fun z=>has _ z hkn
 have haas:a∉as:=fun z=>has _ z f0
 have I4:Inv X (pins++[(a,seqObj "list" #[] e1)]) σ (upd H kS (.lst [])) { s with heap:=((s.heap.update a (Obj.mapSeq fun _=>(#[]:Array Value))).push (seqObj "tuple" us.toArray 0)).push (seqObj "list" #[] 0) }:=by
  have I3':Inv X pins σ (upd H kS (.lst [])) { s with heap:=((s.heap.update a (Obj.mapSeq fun _=>(#[]:Array Value))).push (seqObj "tuple" us.toArray 0)).push (seqObj "list" #[] 0) }:=I3
  refine I3'.pins_of fun p hp=>?_
  rcases List.mem_append.mp hp with hp|hp
  ·exact I3'.pin p (List.mem_append_right _ hp)
  ·obtain rfl:p=_:=by simpa using hp
   exact ⟨ho3,by rw [aR hne];exact f0,f1,f2,fun v z=>by cases z⟩
 have up:Same H (upd H kS (.lst [])):=aZ hkn _
 have dn':Dens X.K (mask (kS::as) (upd H kS (.lst []))) ds xs:=dn.mono fun b o e=>by
  by_cases hb:b∈as
  ·rw [dI hb] at e;cases e
  ·rw [aJ hb] at e
   have n1:b≠kS:=fun z=>by rw [z,hkn] at e;cases e
   rw [aJ (fun z=>(List.mem_cons.mp z).elim n1 hb)]
   exact up b o e
 refine rZ (a:=a) (kS:=kS) (as:=as) (mg:=mg) (F:=F) G hr hb I4 a9 (fun b hb=>by
  cases e:H b with
  | none=>exact absurd e (has b hb)
  | some o=>rw [up b o e];simp) hkas r dn' C.val hl hz fun H' kvs its n' s' I' b' k' d' r' e'=>?_
 have pa:=I'.pin (a,seqObj "list" #[] e1) (by simp)
 exact tY C (oa:=seqObj "list" #[] e1) (F:=F) (as:=as) (n:=n') (H0:=H) I' ⟨pa.2.1,f1,f2,f3,f4,f5⟩ up hkn f0 b' k' d' r' e' haas hkas hne r dn' hl (by have:=hr.un;omega) hz hbase h
theorem oY {κ:R D→Option K4} (C:KF κ) {H:Hp} {s:Shared} {as:List Addr} {us:List Value} {xs:List V} {ds:List D} {l:List K4} {lA:Addr} {Q:VK}
  (G:FnOk X.prog X.w X.K X.mg X.base CX0 k f fd ps (spD X.K mg F)) (hr:Room k X.A.in1.in1) (hb:Binds X.K fd ps []) (I:Inv X pins σ H s) (hp:s.heap.IsList lA us.toArray) (has:∀ b∈as,H b≠none)
  (r:Vals xs us) (dn:Dens X.K (mask as H) ds xs) (hl:keysG κ F ds=some l) (hz:ds.length≤1000000)
  (h:∀ p H' outV,Same H H'→H p=none→H' p=some (.lst outV)→Dens X.K (mask (p::as) H') ((l.mergeSort le4).map ag) outV→Q (.ref p) H') :
  wpAny (model X.prog X.w) X.A (call (.builtin "sorted") [.ref lA] [(Str.ofString "key",.ref f)]) (EP X pins σ Q) E s:=by
 have hlu:ds.length=us.length:=dn.len.trans r.length
 refine call_function_entry_kw kind_sorted plain_sorted entry_sorted (ksk_s1 _ _) ?_
 unfold Builtin.«sorted»
 refine wpAny_bind (m:=checkCount "sorted" 1 1 _) (wpAny_pure ?_)
 refine wpAny_bind (collect_list hp ?_ (by rw [sizeLine_eq];omega))
 refine wpAny_bind (wpAny_newList ?_ (by rw [sizeLine_eq];omega))
 have hsz:((s.heap.push (seqObj "list" #[] 0)).update s.heap.objs.size (Obj.mapSeq (·++us.toArray))).objs.size=s.heap.objs.size+1:=by
  rw [Heap.size_update,size_push']
 have hoL:(((s.heap.push (seqObj "list" #[] 0)).update s.heap.objs.size (Obj.mapSeq (·++us.toArray))).push (seqObj "list" us.toArray 0)).get? (s.heap.objs.size+1)=some (seqObj "list" us.toArray 0):=by
  rw [← hsz];exact Heap.get?_push_size _ rfl
 have keep:∀ b o,s.heap.get? b=some o→(((s.heap.push (seqObj "list" #[] 0)).update s.heap.objs.size (Obj.mapSeq (·++us.toArray))).push (seqObj "list" us.toArray 0)).get? b=some o:=fun b o q=>by
  have hlt:b < s.heap.objs.size:=Heap.lt_size q
  rw [Heap.get?_push_ne _ _ _ (by rw [hsz];exact Nat.ne_of_lt (Nat.lt_succ_of_lt hlt)),Heap.get?_update_ne _ _ _ _ (Nat.ne_of_lt hlt),Heap.get?_push_ne _ _ _ (Nat.ne_of_lt hlt)]
  exact q
 have hfr:H (s.heap.objs.size+1)=none:=I.hok.fresh (Nat.le_succ _)
 have I1:=I.kept (t':=s.toks) keep (by walk_at "tok")
 show wpAny _ _ _ _ _ { s with heap:=((s.heap.push (seqObj "list" #[] 0)).update s.heap.objs.size (Obj.mapSeq (·++us.toArray))).push (seqObj "list" us.toArray 0) }
 rw [hsz]
 refine wpAny_bind (wpAny_holding (wpAny_call_entry_kw slot_list_sort ⟨_,hoL,rfl⟩ entry_list_sort ?body (ksk_l1 _ _)))
 show wpAny (model X.prog X.w) X.A.in1.in1 (Builtin.«list.sort» ⟨[.ref (s.heap.objs.size+1)],[(Str.ofString "key",.ref f)]⟩) _ _ _
 rw [ksk_t1]
 refine sv C (a:=s.heap.objs.size+1) (mg:=mg) (F:=F) (as:=as) G hr hb I1 (I.fpOk (Nat.le_succ _) hfr) hoL has r dn hl hz (Heap.get?_none_of_le (Nat.le_trans I.sz (Nat.le_succ _))) fun H'' s'' outV I'' s0 e'' d''=>⟨_,rfl,?_⟩
 exact wpAny_pure ⟨_,rfl,.ref (s.heap.objs.size+1),H'',I'',rfl,h _ H'' outV s0 hfr e'' d''⟩
end
theorem oj {κ:R D→Option K4} (C:KF κ) {X:Cx} {K:PySem.W.Frag} {mg:Str→Option Value} {O:List Nat} {F:List D→R D} {x:Str} {st:Stmt} {ps:List Str} {f:Addr} {fd:FuncData} {j k:Nat} {e:Expr} {φ:FE} {p p2 p3 pos:Pos}
  (Df:Def X.K X.mg x st ps f fd) (G:FnOk X.prog X.w X.K X.mg X.base CX0 j f fd ps (spD K mg F)) (hr:Room k X.A) (hm:X.mg "sorted"=none) (ha:JE X e (tD ⟨K,mg,E0⟩ O φ)) (hj:j+1≤k:=by decide) (hg:Gl X "sorted":=by rfl) (hgx:Gl X x:=by rfl) (hdb:(x==("__debug__":Str))=false:=by decide)
  (h1:noStar e=true:=by rfl) (hK:X.K=K:=by rfl):JE X (.Call (.Name "sorted" p) [e] [⟨some "key",.Name x p2,p3⟩] pos) (tN ⟨K,mg,E0⟩ O (ao (sortG κ F) (ae φ av))):=by
 subst hK
 refine ⟨fun pins s σ H Q I h=>?_⟩
 obtain ⟨as0,B,own,δ,J,h⟩:=h
 have hA:JA X [e] (tDA ⟨X.K,mg,E0⟩ O (ae φ av)):=aa ha ah (hn:=h1)
 refine wpAny_Call_Name_kw (l8 I hg hm (u:=.builtin "sorted") (by with_unfolding_all rfl) ?_ (by decide) (by decide))
 have he:backTo pos (starEach [e] X.env)=(false,eval e X.env)::backTo pos (starEach [] X.env):=by rw [cJ h1];rfl
 refine callWith_kw (thn (hA.out pos pins s σ H (fun vs H1=>Same H H1∧∃ ds,Dens X.K (mask (own++as0) H1) ds vs∧FitsN ⟨X.K,mg,E0⟩ (own++as0) H1 (sortG κ F ds) Q) I ⟨as0,B,own,δ,J,oO h fun ds vs H1 s1 d1 h1=>⟨s1,ds,d1,h1⟩⟩) fun us s1 ⟨vs,H1,I1,r,sm,ds,dn,q⟩ =>
  thn (wB (nm:=some "key") (kpos:=p3) (sq (pos:=p2) (v:=.ref f) hgx Df.m rfl hdb) yM pos pins s1 σ H1 (fun zs H2=>zs=[.ref f]∧H2=H1) I1 ⟨rfl,rfl⟩) fun ws s2 ⟨zs,H2,I2,rz,e1,e2⟩=>?_) he ?_ rfl rfl
 ·subst e1 e2
  obtain ⟨w0,rfl,rw0⟩:=rz.one
  cases rw0
  have exi:∀ b∈own++as0,H2 b≠none:=(J.mono sm).exi
  unfold sortG at q
  split at q
  ·rename_i ys
   split at q
   ·rename_i hz
    split at q
    ·rename_i l hl
     obtain ⟨v0,_,rfl,d0,d00⟩:=dn
     cases d00
     obtain ⟨lA,xs,rfl,hS,dx⟩:=d0
     obtain ⟨u0,rfl,ru⟩:=r.one
     cases ru
     obtain ⟨its,ri,hp,_⟩:=I2.list ((aA _ _).seq hS)
     have rm:Room j X.A.in1.in1:=⟨hr.hd,by have:=hr.dp;show X.A.depth+3*j+5 < _;omega,by have:=hr.un;show X.A.units+1+1+16*j+200 < _;omega⟩
     refine oY C (mg:=mg) (F:=F) (as:=own++as0) G rm Df.b I2 hp.isList exi ri dx hl hz fun p H' outV s' hn hp' dd=>?_
     exact q p _ H' s' hn hp' ⟨outV,rfl,dd⟩
    ·exact q.elim
   ·exact q.elim
  ·exact q.elim
 ·exact dX (es:=[e]) (by rw [List.all_cons,h1];rfl)
theorem vB {X:Cx} {K:PySem.W.Frag} {mg:Str→Option Value} {O:List Nat} {F:List D→R D} {x:Str} {st:Stmt} {ps:List Str} {f:Addr} {fd:FuncData} {j k:Nat} {e:Expr} {φ:FE} {p p2 p3 pos:Pos}
  (Df:Def X.K X.mg x st ps f fd) (G:FnOk X.prog X.w X.K X.mg X.base CX0 j f fd ps (spD K mg F)) (hr:Room k X.A) (hm:X.mg "sorted"=none) (ha:JE X e (tD ⟨K,mg,E0⟩ O φ)) (hj:j+1≤k:=by decide) (hg:Gl X "sorted":=by rfl) (hgx:Gl X x:=by rfl) (hdb:(x==("__debug__":Str))=false:=by decide)
  (h1:noStar e=true:=by rfl) (hK:X.K=K:=by rfl):JE X (.Call (.Name "sorted" p) [e] [⟨some "key",.Name x p2,p3⟩] pos) (tN ⟨K,mg,E0⟩ O (ao (sortD F) (ae φ av))) :=
 oj kf4 Df G hr hm ha hj hg hgx hdb h1 hK
end L2
namespace L2
open PySem PySem.Spec PyProof.Rows
section
variable {X:Cx} {W:Wd} {Ob O O2:List Nat} {e:Expr} {φ:FE} {pos p1 apos cpos:Pos} {x:Str}
noncomputable def sClear (i:Nat):FS:=fun δ=>match δ[i]? with
 | some (some (.lst xs))=>.ok (.nx (δ.set i (some (.lst []))))
 | _=>.no
theorem vz {i:Nat} (hi:i∈O) (hN:X.N[i]?=some x:=by rfl) (hline:(apos.endLine==cpos.line)=true:=by rfl) (hv:Vis X.env.scope x:=by first|exact Or.inl rfl|exact Or.inr (Or.inl rfl)|exact Or.inr (Or.inr rfl)) (hd:(x==("__debug__":Str))=false:=by decide)
  (hcd:(x==("__classdict__":Str))=false:=by decide) (hbase:attributeBase (.Name x p1) "clear" X.env (eval (.Name x p1) X.env)=eval (.Name x p1) X.env:=by rfl)
  (hs:swapsWith (.Call (.Attribute (.Name x p1) "clear" apos) [] [] cpos) none pos.line X.env=pure false:=by rfl) (hW:W.K=X.K:=by rfl) :
  JS X (.Expr (.Call (.Attribute (.Name x p1) "clear" apos) [] [] cpos) pos) (sD W Ob O O (sClear i)) :=
 (oG (z9 PySem.F.plainAttrs_list PySem.F.slot_list_clear PySem.F.type_list_clear uI (jv i hN hv hd hcd) hbase hline) hs).imp fun D σ H hh=>exE hh fun as0 B own δ I h=>by
  obtain ⟨a,ha⟩:=c6 I.olen hi
  obtain ⟨d,o,h1,h2,h3,h4⟩:=I.owns i a ha
  show kVar σ[i]? H (fun x H1=>tyV X.K "list" x H1∧rClear x [] H1 (fun _ H3=>D.nx σ H3))
  rw [h2]
  unfold sClear at h
  rw [h1] at h
  cases d with
  | lst ds =>
   obtain ⟨xs,rfl,q⟩:=h4
   refine ⟨.inl ⟨rfl,xs,SqL.of h3⟩,a,xs,rfl,rfl,h3,?_⟩
   exact h own σ _ (I.mutate ha ⟨[],rfl,Dens.nil⟩)
  | _=>exact h.elim
end
section
variable {W:Wd} {X:Cx}
noncomputable def deepAny (p:PyData):List PyData→Option Bool
 | []=>some false
 | q::r=>if SeqAt.shaped q=true∧q.depth≤32 then (deepAny p r).map fun b=>PyData.eqv q p||b else none
noncomputable def deepIn (x:D) (xs:List D):Option Bool:=match toPy x,toPys xs with
 | some p,some ps=>if SeqAt.shaped p=true then deepAny p ps else none
 | _,_=>none
noncomputable def uInQ (K:PySem.W.Frag):R2:=fun x y H Q=>∃ p a ds xs k,y=.ref p∧SqT K H p xs∧Den K H a x∧Dens K H ds xs∧deepIn a ds=some k∧Q (.bl k) H
open Classical in
noncomputable def deepF (s:Shared) (p:PyData) (u:Value):Bool:=decide (∃ q bs,Reads s.heap u q bs∧q.canLay0=true∧PyData.eqv q p=true)
theorem vf {s:Shared} {p q:PyData} {u:Value} {bs:List Addr} (r:Reads s.heap u q bs) (hq:q.canLay0=true):deepF s p u=PyData.eqv q p:=by
 classical
 unfold deepF
 cases e:PyData.eqv q p with
 | true=>exact @decide_eq_true _ (_) ⟨q,bs,r,hq,e⟩
 | false =>
  refine @decide_eq_false _ (_) fun ⟨q',bs',r',_,e'⟩=>?_
  have:=SeqAt.Reads.unique q q' u bs bs' hq r r'
  subst this
  rw [e] at e';cases e'
theorem qf {pins:List (Addr×Obj)} {σ:St} {H:Hp} {s:Shared} (I:Inv X pins σ H s) (hu:X.A.units+64 < cLine) {v:Value} {p:PyData} {as:List Addr} (rv:Reads s.heap v p as) (hp:SeqAt.shaped p=true):∀ {ds:List D} {vs:List V} {us:List Value} {ps:List PyData} {k:Bool},Dens X.K H ds vs→Vals vs us→toPys ds=some ps→deepAny p ps=some k →
  (∀ u∈us,SeqAt.EqAt X.A.in1 s u v (deepF s p u))∧us.any (deepF s p)=k
 | [],_,_,_,_,h,r,e,q=>by
  cases h;cases r;cases e;cases q
  exact ⟨fun u hu=>(nomatch hu),rfl⟩
 | d::ds,_,_,_,k,⟨w1,ws,h0,h1,h2⟩,r,e,q=>by
  subst h0
  unfold toPys at e
  cases q1:toPy d with
  | none=>rw [q1] at e;cases e
  | some x =>
   rw [q1] at e
   have e:(toPys ds).map (x::·)=some _:=e
   cases q2:toPys ds with
   | none=>rw [q2] at e;cases e
   | some xs =>
    rw [q2] at e
    cases e
    unfold deepAny at q
    split at q
    ·rename_i hs
     cases q3:deepAny p xs with
     | none=>rw [q3] at q;cases q
     | some k2 =>
      rw [q3] at q
      cases q
      cases r with
      | @cons _ u _ us r1 r2 =>
       obtain ⟨bs,hb⟩:=fI I h1 r1 q1
       obtain ⟨i1,i2⟩:=qf I hu rv hp h2 r2 q2 q3
       have hq:=SeqAt.canLay_of_shaped hs.1
       have ef:=vf (p:=p) hb hq
       refine ⟨fun u' hu'=>?_,by rw [List.any_cons,ef,i2]⟩
       rcases List.mem_cons.mp hu' with z|z
       ·subst z
        rw [ef]
        refine SeqAt.eqAt_reads x p X.A.in1 s _ v bs as hb rv hq (SeqAt.canLay_of_shaped hp) ?_
        have h1:=Nat.min_le_left x.depth p.depth
        have h2:=hs.2
        have h3:X.A.in1.units=X.A.units+1:=rfl
        omega
       ·exact i1 u' z
    ·cases q
theorem x4 {x:D} {xs:List D} {k:Bool} (h:deepIn x xs=some k):∃ p ps,toPy x=some p∧toPys xs=some ps∧SeqAt.shaped p=true∧deepAny p ps=some k:=by
 unfold deepIn at h
 split at h
 ·rename_i p ps h1 h2
  split at h
  ·rename_i hs;exact ⟨p,ps,h1,h2,hs,h⟩
  ·cases h
 ·cases h
theorem oInQ (K:PySem.W.Frag) (hu:X.A.units+64 < cLine) (hK:X.K=K:=by rfl):OpR X (compareOp .In) (uInQ K):=by
 subst hK
 intro pins s σ H x y v u Q I rx ry h
 obtain ⟨p,a,ds,xs,k,rfl,hl,da,dd,e,q⟩:=h
 cases ry
 obtain ⟨pa,ps,h1,h2,h3,h4⟩:=x4 e
 obtain ⟨as,ra⟩:=fI I da rx h1
 obtain ⟨its,r,pl,hz⟩:=I.tuple hl
 obtain ⟨i1,i2⟩:=qf I hu ra h3 dd r h2 h4
 refine SeqAt.in_tupleAt (deepF s pa) pl (fun y hy=>i1 y (by simpa using hy)) ⟨.bl k,H,I,?_,q⟩
 rw [show (its.toArray.any (deepF s pa))=its.any (deepF s pa) by simp,i2]
 rfl
noncomputable def inQO (x y:D):Option Bool:=match y with
 | .tup ds=>deepIn x ds
 | _=>none
noncomputable def inQD (x y:D):R D:=optR (inQO x y) fun k=>k
theorem pInQ (K:PySem.W.Frag) (hW:W.K=K:=by rfl):OpD W (uInQ K) inQD:=by
 subst hW
 intro as H x y a b Q hn da db h
 unfold inQD at h
 cases e:inQO a b with
 | none=>rw [e] at h;exact h.elim
 | some k =>
  rw [e] at h
  have fin:=aU h (show Den W.K (mask as H) (.bl k) (.bl k) from rfl)
  cases b with
  | tup ds =>
   obtain ⟨p,xs,rfl,h1,h2⟩:=db
   exact ⟨p,a,_,xs,k,rfl,(aA _ _).seqT h1,da.mono (aA _ _),h2.mono (aA _ _),e,fin⟩
  | _=>cases e
end
theorem xa {X:Cx} {K:PySem.W.Frag} {mg:Str→Option Value} {O:List Nat} {F:List D→R D} {x:Str} {st:Stmt} {ps:List Str} {f:Addr} {fd:FuncData} {j k:Nat} {p pos:Pos}
  (Df:Def X.K X.mg x st ps f fd) (G:FnOk X.prog X.w X.K X.mg X.base CX0 j f fd ps (spD K mg F)) (hr:Room k X.A) (hj:j≤k:=by decide) (hg:Gl X x:=by rfl) (hdb:(x==("__debug__":Str))=false:=by decide) :
  JE X (.Call (.Name x p) [] [] pos) (tD ⟨K,mg,E0⟩ O (ao F av)) :=
 (JE.mk (uQ (dvs:=[]) G (hr.mono hj) hg Df.m Df.F.kp Df.b .nil pass0 hdb)).imp fun σ H Q hh=>exE hh fun as0 B own δ I h=>⟨own++as0,[],I.exi,Dens.nil,h⟩
end L2
namespace HT
open PySem PySem.Spec PyProof.Rows L2
section
variable {prog:Program} {w:World} {A:Around} {E:Value→Shared→Prop} {s:Shared}
theorem ik {t sl:Addr} {items:Array Value} {vl vu:Value} {lo hi:Option Int} {Q:Value→Shared→Prop} (ht:IsTup s.heap t items) (hs:s.heap.IsSliceOf sl vl vu .none) (pl:IsPart vl lo) (pu:IsPart vu hi)
  (hw:sIx items.size 0 lo=0∧sIx items.size items.size hi=items.size) (h:Q (.ref t) s):wpAny (model prog w) A (getItem (.ref t) (.ref sl)) Q E s:=by
 obtain ⟨os,hos,hcs,hds⟩:=id hs
 have hTs:s.TypeIs (.ref sl) "slice":=⟨os,hos,hcs⟩
 unfold getItem
 try with_reducible refine wpAny_holding ?_
 first|refine wpAny_bind (wpAny_pure ?_)|skip
 refine wpAny_bind (wpAny_sequenceKey ht.typeIs (by decide) ?_)
 refine wpAny_bind (wpAny_callSpecial?_slot (name:=Str.ofString "__getitem__") ht.typeIs PyProof.Rows.slot_tuple_getitem
  (wpAny_call_entry PyProof.Rows.slot_tuple_getitem ht.typeIs entry_tuple_getitem ?_ (args_tuple_getitem _ _)))
 show wpAny _ _ (Builtin.Tuple.tupleItemsOf (.ref t) >>= _) _ _ s
 refine wpAny_bind (tupleItemsOf_ ht ?_)
 refine wpAny_bind (wpAny_typeOf hTs ?_)
 rw [if_pos (by decide)]
 refine wpAny_bind (fU hs pl pu ?_)
 have hyes:(((sIx items.size 0 lo:Nat):Int)==0&&(1:Int)==1&&(sIx items.size items.size hi - sIx items.size 0 lo)==items.size)=true:=by
  rw [hw.1,hw.2];simp
 show wpAny _ _ (if (((sIx items.size 0 lo:Nat):Int)==0&&(1:Int)==1&&(sIx items.size items.size hi - sIx items.size 0 lo)==items.size)=true then _ else _) _ _ s
 rw [if_pos hyes]
 refine wpAny_bind (m:=Builtin.Tuple.tupleIsExact (.ref t)) ?_
 unfold Builtin.Tuple.tupleIsExact
 refine wpAny_bind (wpAny_typeOf ht.typeIs (wpAny_pure ?_))
 rw [if_pos (by decide)]
 first
  | exact wpAny_pure ⟨_,rfl,wpAny_pure h⟩
  | exact wpAny_bind (wpAny_pure (wpAny_pure ⟨_,rfl,wpAny_pure h⟩))
  | exact wpAny_bind (m:=rule _) (wpAny_pure (wpAny_pure ⟨_,rfl,wpAny_pure h⟩))
  | exact wpAny_bind (wpAny_rule (wpAny_pure ⟨_,rfl,wpAny_pure h⟩))
end
end HT
namespace L2
open PySem PySem.Spec PyProof.Rows
section
variable {X:Cx} {W:Wd}
noncomputable def rSlW (K:PySem.W.Frag):V→Option Int→Option Int→Hp→VK→Prop:=fun x lo hi H Q=>∃ a xs,x=.ref a∧SqT K H a xs∧(HT.sIx xs.length 0 lo=0∧HT.sIx xs.length xs.length hi=xs.length)∧Q (.ref a) H
theorem uM:SlR X (rSlW X.K):=by
 intro pins s σ H x v vl vu lo hi sl Q I rx hs pl pu h
 obtain ⟨a,xs,rfl,hx,hw,q⟩:=h
 cases rx
 obtain ⟨its,r,ht,hz⟩:=I.tuple hx
 have hlen:its.toArray.size=xs.length:=by rw [List.size_toArray];exact r.length.symm
 refine ⟨"tuple",_,PyProof.Rows.slot_tuple_getitem.lookup,ht.typeIs,?_⟩
 exact HT.ik ht hs pl pu (by rw [hlen];exact hw) ⟨.ref a,H,I,rfl,q⟩
noncomputable def uSlW (K:PySem.W.Frag) (x:V) (lo hi:Option Int) (H:Hp) (Q:VK):Prop:=uSl K x lo hi H Q∨rSlW K x lo hi H Q
theorem oSlW (K:PySem.W.Frag) (hK:X.K=K:=by rfl):SlR X (uSlW K):=by
 subst hK
 exact oSl0.or uM
noncomputable def xM (a:D) (lo hi:Option Int):R D:=match a with
 | .tup xs=>if HT.sIx xs.length 0 lo=0∧HT.sIx xs.length xs.length hi=xs.length then .ok (.tup xs) else .ok (.tup (cutD xs lo hi))
 | d=>slD d lo hi
theorem pSlW (K:PySem.W.Frag) (hW:W.K=K:=by rfl):SlD W (uSlW K) xM:=by
 subst hW
 intro as H x lo hi a Q hn da h
 unfold xM at h
 split at h
 ·rename_i xs
  split at h
  ·rename_i hc
   have hd:=da
   obtain ⟨p,vs,rfl,q1,q2⟩:=da
   rw [q2.len] at hc
   exact .inr ⟨p,vs,rfl,(aA _ _).seqT q1,hc,aU h hd⟩
  ·rename_i hc
   refine .inl (pSl W.K rfl as H x lo hi _ Q hn da ?_)
   unfold slD
   dsimp only
   rw [if_neg hc]
   exact h
 ·exact .inl (pSl W.K rfl as H x lo hi _ Q hn da h)
theorem Aq {xs:List D} {lo hi:Option Int}:xM (.tup xs) lo hi=.ok (.tup (cutD xs lo hi)):=by
 unfold xM
 dsimp only
 split
 ·rename_i h
  unfold cutD
  rw [h.1,h.2,List.drop_zero,Nat.sub_zero,List.take_length]
 ·rfl
end
end L2
namespace L2
open PySem PySem.Spec PyProof.Rows
mutual
noncomputable def noL:D→Bool
 | .non=>true
 | .bl _=>true
 | .int _=>true
 | .str _=>true
 | .ty _=>true
 | .tup xs=>noLs xs
 | _=>false
noncomputable def noLs:List D→Bool
 | []=>true
 | d::r=>noL d&&noLs r
end
noncomputable def NoTup (o:Option HO):Prop:=∀ xs,o≠some (.tup xs)∧∀ u,o≠some (.frz u (.tup xs))
section
variable {K:PySem.W.Frag} {H:Hp} {as as2:List Addr}
mutual
theorem Den.lend (h:∀ b∈as,b∈as2∨NoTup (H b)):∀ {d:D} {v:V},noL d=true→Den K (mask as2 H) d v→Den K (mask as H) d v
 | .non,_,_,g=>g
 | .bl _,_,_,g=>g
 | .int _,_,_,g=>g
 | .str _,_,_,g=>g
 | .ty _,_,_,g=>g
 | .tup ds,v,e,⟨a,xs,e1,h1,h2⟩=>⟨a,xs,e1,by
   rcases h1 with h1|h1
   ·refine .inl ?_
    have ha:a∉as2:=fun z=>by rcases h1 with h1|⟨o,h1⟩ <;> (rw [dI z] at h1;cases h1)
    have hb:a∉as:=fun z=>by
     rcases h a z with q|q
     ·exact ha q
     ·rcases h1 with h1|⟨o,h1⟩
      ·rw [aJ ha] at h1;exact (q xs).1 h1
      ·rw [aJ ha] at h1;exact (q xs).2 o h1
    rcases h1 with h1|⟨o,h1⟩
    ·rw [aJ ha] at h1;exact .inl (by rw [aJ hb];exact h1)
    ·rw [aJ ha] at h1;exact .inr ⟨o,by rw [aJ hb];exact h1⟩
   ·exact .inr h1,Dens.lend h e h2⟩
 | .lst _,_,e,_=>by cases e
 | .dct _,_,e,_=>by cases e
 | .obj _ _,_,e,_=>by cases e
 | .exn _,_,e,_=>by cases e
 | .cls _,_,e,_=>by cases e
theorem Dens.lend (h:∀ b∈as,b∈as2∨NoTup (H b)):∀ {ds:List D} {vs:List V},noLs ds=true→Dens K (mask as2 H) ds vs→Dens K (mask as H) ds vs
 | [],_,_,g=>g
 | d::ds,_,e,⟨v,vs,e1,h1,h2⟩=>by
  have e':=Bool.and_eq_true_iff.mp e
  exact ⟨v,vs,e1,Den.lend h e'.1 h1,Dens.lend h e'.2 h2⟩
end
end
theorem OwnD.noTup {K:PySem.W.Frag} {H:Hp} {o:HO} {d:D} (h:OwnD K H o d):NoTup (some o):=fun xs=>by
 cases d with
 | lst ds=>obtain ⟨_,rfl,_⟩:=h;exact ⟨(fun z=>nomatch z),(fun u z=>nomatch z)⟩
 | dct ds=>obtain ⟨_,rfl,_⟩:=h;exact ⟨(fun z=>nomatch z),(fun u z=>nomatch z)⟩
 | obj C ds=>obtain ⟨_,_,rfl,_⟩:=h;exact ⟨(fun z=>nomatch z),(fun u z=>nomatch z)⟩
 | _=>exact h.elim
section
variable {X:Cx} {W:Wd} {Ob O O2:List Nat} {e ie:Expr} {φ ε:FE} {pos p1 spos:Pos} {x:Str}
noncomputable def vLnd (φ:FE):FE:=fun δ=>(φ δ).bind fun d=>if noL d=true then .ok d else .no
theorem yH (h:JE X e (tD W O2 φ)) (hO:O.filter (fun i=>decide (i∈O2))=O2:=by decide):JE X e (tD W O (vLnd φ)):=h.imp fun σ H Q hh=>exE hh fun as0 B own δ I h=>by
 obtain ⟨own2,I2⟩:=I.freeze hO
 refine ⟨as0,B,own2,δ,I2,?_⟩
 unfold vLnd at h
 cases hr:φ δ with
 | ok d =>
  rw [hr] at h
  have h:Fits W (own++as0) H (if noL d=true then .ok d else .no) Q:=h
  by_cases hn:noL d=true
  ·rw [if_pos hn] at h
   refine fun v H' s dv=>h v H' s (Den.lend (fun b hb=>?_) hn dv)
   rcases List.mem_append.mp hb with hb|hb
   ·obtain ⟨i,hi⟩:=li I.olen hb
    obtain ⟨d',o,_,_,h3,h4⟩:=I.owns i b hi
    rw [s _ _ h3]
    exact .inr h4.noTup
   ·exact .inl (List.mem_append_right _ hb)
  ·rw [if_neg hn] at h;exact h.elim
 | er y=>rw [hr] at h;exact h
 | no=>rw [hr] at h;exact h
noncomputable abbrev FG:Type:=D→Sd→R Sd
noncomputable def gF (W:Wd) (O:List Nat) (f:FG):TG:=fun v σ H Q=>∃ as0 B own δ d,DI W.K as0 B O own σ δ H∧Den W.K (mask (own++as0) H) d v∧match f d δ with
 | .ok δ'=>∀ σ' H',Same (mask (own++as0) H) (mask (own++as0) H')→DI W.K as0 B O own σ' δ' H'→Q σ' H'
 | _=>False
theorem zq {t:Expr} {tg:TgD} (h:JG X t (gD W O tg)):JG X t (gF W O (bindD tg)):=h.imp fun v σ H Q ⟨as0,B,own,δ,d,I,dv,h⟩=>by
 refine ⟨as0,B,own,δ,d,I,dv,?_⟩
 cases q:bindD tg d δ with
 | ok δ'=>rw [q] at h;exact fun σ' I'=>h σ' H (fun _ _ e=>e) I'
 | er y=>rw [q] at h;exact h
 | no=>rw [q] at h;exact h
noncomputable def fSub (i:Nat) (k:Int):FG:=fun d δ=>match δ[i]? with
 | some (some (.lst xs))=>(match ixN xs.length k with
  | some j=>.ok (δ.set i (some (.lst (xs.set j d))))
  | none=>.no)
 | _=>.no
theorem uv {i:Nat} {k:Int} (hi:i∈O) (hie:JE X ie (tD W O (vC (.int k)))) (hN:X.N[i]?=some x:=by rfl) (hv:Vis X.env.scope x:=by first|exact Or.inl rfl|exact Or.inr (Or.inl rfl)|exact Or.inr (Or.inr rfl)) (hd:(x==("__debug__":Str))=false:=by decide)
  (hcd:(x==("__classdict__":Str))=false:=by decide)
  (ha:∀ v,assign (.Subscript (.Name x p1) ie spos) X.env v=(do
   let ov ← holding [v] (eval (.Name x p1) X.env)
   let iv ← holding [v,ov] (eval ie X.env)
   standAt spos
   holding [v,ov,iv] (setItem ov iv v)
   release [v,ov,iv] []):=by intro _;rfl):JG X (.Subscript (.Name x p1) ie spos) (gF W O (fSub i k)) :=
 (wk (jv i hN hv hd hcd) hie set_list ha).imp fun v σ H Q ⟨as0,B,own,δ,d,I,dv,h⟩=>by
  obtain ⟨a,hza⟩:=c6 I.olen hi
  obtain ⟨d',o,h1,h2,h3,h4⟩:=I.owns i a hza
  unfold fSub at h
  rw [h1] at h
  have e0:gSub (uVar i) (tD W O (vC (.int k))) rSetL v σ H Q=kVar σ[i]? H (fun o H1=>tD W O (vC (.int k)) σ H1 fun i H2=>rSetL o i v H2 fun H3=>Q σ H3):=rfl
  rw [e0,h2]
  cases d' with
  | lst ds =>
   obtain ⟨xs,rfl,q⟩:=h4
   refine ⟨as0,B,own,δ,I,fun u H2 s2 d2=>?_⟩
   cases d2
   dsimp only at h
   rw [q.len] at h
   cases e:ixN xs.length k with
   | none=>rw [e] at h;exact h.elim
   | some j =>
    rw [e] at h
    refine ⟨a,xs,k,j,rfl,rfl,s2 _ _ h3,e,?_⟩
    have hm:a∈own++as0:=List.mem_append_left _ (List.of_mem_zip hza).2
    exact h σ _ (fun b o e=>by rw [m8 hm];exact aG s2 b o e) ((I.mono s2).mutate hza ⟨xs.set j v,rfl,(q.mono (aG s2)).set (dv.mono (aG s2)) j⟩)
  | _=>exact h.elim
noncomputable def fTwo (f g:FG):FG:=fun d δ=>match d with
 | .tup [x,y]=>(f x δ).bind fun δ'=>g y δ'
 | _=>.no
theorem xA (K:PySem.W.Frag) {t1 t2:Expr} {k:Nat} {f g:FG} (h1:JG X t1 (gF W O f)) (h2:JG X t2 (gF W O g)) (hs1:(assignEach [t1,t2] X.env).map (·.2)=assign t1 X.env::(assignEach [t2] X.env).map (·.2):=by rfl) (hs2:(assignEach [t2] X.env).map (·.2)=assign t2 X.env::(assignEach [] X.env).map (·.2):=by rfl)
  (hc:X.calm=true:=by rfl) (hn:(assignEach [t1,t2] X.env).length=2:=by rfl) (hst:(assignEach [t1,t2] X.env).findIdx? (·.1)=none:=by rfl) (hK:X.K=K:=by rfl) (hW:W.K=K:=by rfl):JG X (.Tuple [t1,t2] k pos) (gF W O (fTwo f g)):=by
 refine (vN K (mm h1 (mm h2 tZ hs2) hs1) hc hn hst hK).imp fun v σ H Q ⟨as0,B,own,δ,d,I,dv,h⟩=>?_
 cases d with
 | tup ds =>
  match ds,dv,h with
  | [],_,h=>exact h.elim
  | [_],_,h=>exact h.elim
  | [a,b],dv,h =>
   obtain ⟨ad,xs,rfl,q1,v1,vs1,rfl,d1,v2,vs2,rfl,d2,rfl⟩:=dv
   have h:(match (f a δ).bind (fun δ'=>g b δ') with|.ok δ'=>∀ σ' H',Same (mask (own++as0) H) (mask (own++as0) H')→DI W.K as0 B O own σ' δ' H'→Q σ' H'|_=>False):=h
   subst hW
   refine ⟨ad,_,rfl,(aA _ _).seqT q1,rfl,v1,[v2],rfl,as0,B,own,δ,a,I,d1,?_⟩
   cases e1:f a δ with
   | ok δ1 =>
    rw [e1] at h
    have h:(match g b δ1 with|.ok δ'=>∀ σ' H',Same (mask (own++as0) H) (mask (own++as0) H')→DI W.K as0 B O own σ' δ' H'→Q σ' H'|_=>False):=h
    refine fun σ1 H1 s1 I1=>⟨v2,[],rfl,as0,B,own,δ1,b,I1,d2.mono s1,?_⟩
    cases e2:g b δ1 with
    | ok δ2 =>
     rw [e2] at h
     exact fun σ2 H2 s2 I2=>⟨rfl,h σ2 H2 (fun z o e=>s2 z o (s1 z o e)) I2⟩
    | er y=>rw [e2] at h;exact h
    | no=>rw [e2] at h;exact h
   | er y=>rw [e1] at h;exact h
   | no=>rw [e1] at h;exact h
  | _::_::_::_,_,h=>exact h.elim
 | _=>exact h.elim
noncomputable def sUnp (f:FG) (ε:FE):FS:=fun δ=>(ε δ).bind fun d=>match f d δ with
 | .ok δ'=>.ok (.nx δ')
 | _=>.no
theorem vQ {t:Expr} {f:FG} (he:JE X e (tD W O ε)) (hg:JG X t (gF W O f)) (hs:swapsWithSole [t] e pos.line X.env=pure false:=by rfl) (hw:swappedStores [t] e X.env=pure none:=by rfl)
  (h1:(assignEach [t] X.env).map (·.2)=[assign t X.env]:=by rfl):JS X (.Assign [t] e pos) (sD W Ob O O (sUnp f ε)):=(vP he hg hs hw h1).imp fun D σ H hh=>exE hh fun as0 B own δ I h =>
 ⟨as0,B,own,δ,I,ci I h fun d v H' s dv h'=>by
  refine ⟨as0,B,own,δ,d,I.mono s,dv,?_⟩
  cases e1:f d δ with
  | ok δ'=>rw [e1] at h';exact fun σ' H2 _ I2=>h' own σ' H2 I2
  | er y=>rw [e1] at h';exact h'
  | no=>rw [e1] at h';exact h'⟩
theorem vO {f:FG} {ε:FE} {δ δ':Sd} {d:D} (h:ε δ=.ok d) (hf:f d δ=.ok δ'):sUnp f ε δ=.ok (.nx δ'):=by
 unfold sUnp;rw [h];show (match f d δ with|.ok δ'=>R.ok (Fl.nx δ')|_=>.no)=_;rw [hf]
theorem vX {φ:FE} {δ:Sd} {d:D} (h:φ δ=.ok d) (hd:noL d=true):vLnd φ δ=.ok d:=by unfold vLnd;rw [h];show (if noL d=true then R.ok d else .no)=_;rw [if_pos hd]
end
end L2
namespace T26
open PySem L2
noncomputable def iy:D:=(.tup [(.str "none"),(.str "number"),(.str "text")])
noncomputable def mo:D:=(.int 4)
noncomputable def je:D:=(.int 8)
noncomputable abbrev nw:List Str:=["value"]
noncomputable abbrev gb:List Str:=["value"]
noncomputable def i9:FS:=(aK (sIf (qBl (vOp isD (ai 0) (vC .non))) (bv (vC (.str "none"))) bb) (bv (vIf (eT (ao iE (ae (ai 0) (ae (vC (.ty "str")) av)))) (vC (.str "text")) (vC (.str "number")))))
noncomputable def bF:List D→R D:=runD i9 nw gb
theorem ux (a0:D):bF [a0]=fin (i9 [some a0]):=rfl
noncomputable abbrev oi:List Str:=["one","other"]
noncomputable abbrev gn:List Str:=["one","other"]
noncomputable def jc:FS:=(aK (sIf (qBl (vOp neD (ao bF (ae (ai 0) av)) (ao bF (ae (ai 1) av)))) (bv (vIf (qBl (vOp ltD (vTIx iy (ae (ao bF (ae (ai 0) av)) av)) (vTIx iy (ae (ao bF (ae (ai 1) av)) av)))) (vUn negD (vC (.int 1))) (vC (.int 1)))) bb) (aK (sIf (qBl (vOp eqD (ai 0) (ai 1))) (bv (vC (.int 0))) bb) (bv (vIf (qBl (vOp ltD (ai 0) (ai 1))) (vUn negD (vC (.int 1))) (vC (.int 1))))))
noncomputable def iP:List D→R D:=runD jc oi gn
theorem tO (a0 a1:D):iP [a0,a1]=fin (jc [some a0,some a1]):=rfl
noncomputable abbrev lh:List Str:=["value"]
noncomputable abbrev dG:List Str:=["value"]
noncomputable def fD:FS:=(aK (sIf (qBl (vOp isD (ai 0) (vC .non))) (bv (g9 (ae (vC (.int 0)) (ae (vC (.int 0)) av)))) bb) (bv (g9 (ae (vTIx iy (ae (ao bF (ae (ai 0) av)) av)) (ae (ai 0) av)))))
noncomputable def fF:List D→R D:=runD fD lh dG
theorem oF (a0:D):fF [a0]=fin (fD [some a0]):=rfl
noncomputable abbrev i4:List Str:=["one","other","told"]
noncomputable abbrev bS:List Str:=["one","other"]
noncomputable def c9:FS:=(aK (bJ 2 (ao iP (ae (vOp ixD (ai 0) (vC (.int 0))) (ae (vOp ixD (ai 1) (vC (.int 0))) av)))) (bv (vOr (vOp ltD (ai 2) (vC (.int 0))) (vAnd (vOp eqD (ai 2) (vC (.int 0))) (vOp ltD (vOp ixD (ai 0) (vC (.int 1))) (vOp ixD (ai 1) (vC (.int 1))))))))
noncomputable def aW:List D→R D:=runD c9 i4 bS
theorem mR (a0 a1:D):aW [a0,a1]=fin (c9 [some a0,some a1,none]):=rfl
noncomputable abbrev iG:List Str:=[]
noncomputable abbrev cw:List Str:=[]
noncomputable def c7:FS:=(bv (g9 (ae (vC (.str "leaf")) (ae (g9 av) av))))
noncomputable def cZ:List D→R D:=runD c7 iG cw
theorem mC:cZ []=fin (c7 []):=rfl
noncomputable abbrev kF:List Str:=["cells","things","cell"]
noncomputable abbrev dD:List Str:=["cells"]
noncomputable abbrev tB:FS:=(kG 1 (vOp ixD (ai 2) (vC (.int 1))))
noncomputable def fO:FS:=(aK (sOwn 1 (eR av)) (aK (sFor (lH (ai 0)) (.one 2) tB) (bv (ai 1))))
noncomputable def dH:List D→R D:=runD fO kF dD
theorem pH (a0:D):dH [a0]=fin (fO [some a0,none,none]):=rfl
noncomputable abbrev gm:List Str:=["index","cells"]
noncomputable abbrev cS:List Str:=["index"]
noncomputable abbrev eQ:FT:=(qBl (vOp eqD (vOp ixD (vOp ixD (ai 1) (vC (.int 0))) (vC (.int 0))) (vC (.str "branch"))))
noncomputable abbrev eB:FS:=(bJ 1 (fX [none] (lH (ao dH (ae (ai 1) av))) (.one 0) qYes (vOp ixD (ai 0) (vC (.int 1)))))
noncomputable def eD:FS:=(aK (bJ 1 (eR (ae (ai 0) av))) (aK (b7 eQ eB 1000) (bv (ao dH (ae (ai 1) av)))))
noncomputable def bB:List D→R D:=runD eD gm cS
theorem nF (a0:D):bB [a0]=fin (eD [some a0,none]):=rfl
noncomputable abbrev nO:List Str:=["index"]
noncomputable abbrev gq:List Str:=["index"]
noncomputable def jb:FS:=(bv (ao lenD (ae (ao bB (ae (ai 0) av)) av)))
noncomputable def eX:List D→R D:=runD jb nO gq
theorem sJ (a0:D):eX [a0]=fin (jb [some a0]):=rfl
noncomputable abbrev jK:List Str:=["parts","entry","place"]
noncomputable abbrev bR:List Str:=["parts","entry"]
noncomputable abbrev lQ:FT:=(qAnd (qBl (vOp ltD (vOp addD (ai 2) (vC (.int 1))) (ao lenD (ae (ai 0) av)))) (iC (eT (ao aW (ae (ai 1) (ae (vOp ixD (vOp ixD (ai 0) (vOp addD (ai 2) (vC (.int 1)))) (vC (.int 0))) av))))))
noncomputable def eF:FS:=(aK (bJ 2 (vC (.int 0))) (aK (b7 lQ (sAugAdd 2 (vC (.int 1))) 1000) (bv (ai 2))))
noncomputable def bp:List D→R D:=runD eF jK bR
theorem n5 (a0 a1:D):bp [a0,a1]=fin (eF [some a0,some a1,none]):=rfl
noncomputable abbrev kJ:List Str:=["index","value","number","entry","cell","parts"]
noncomputable abbrev dq:List Str:=["index","value","number"]
noncomputable abbrev hQ:FT:=(qBl (vOp eqD (vOp ixD (ai 4) (vC (.int 0))) (vC (.str "branch"))))
noncomputable abbrev hB:FS:=(aK (bJ 5 (vOp ixD (ai 4) (vC (.int 1)))) (bJ 4 (vOp ixD (vOp ixD (ai 5) (ao bp (ae (ai 5) (ae (ai 3) av)))) (vC (.int 1)))))
noncomputable def fv:FS:=(aK (bJ 3 (g9 (ae (ai 1) (ae (ai 2) av)))) (aK (bJ 4 (ai 0)) (aK (b7 hQ hB 1000) (bv (vOp inQD (ai 3) (vOp ixD (ai 4) (vC (.int 1))))))))
noncomputable def cA:List D→R D:=runD fv kJ dq
theorem oH (a0 a1 a2:D):cA [a0,a1,a2]=fin (fv [some a0,some a1,some a2,none,none,none]):=rfl
noncomputable abbrev lM:List Str:=["cell"]
noncomputable abbrev eZ:List Str:=["cell"]
noncomputable def gY:FS:=(bv (vIf (qBl (vOp eqD (vOp ixD (ai 0) (vC (.int 0))) (vC (.str "leaf")))) (vOp ixD (vOp ixD (ai 0) (vC (.int 1))) (vC (.int 0))) (vOp ixD (vOp ixD (vOp ixD (ai 0) (vC (.int 1))) (vC (.int 0))) (vC (.int 0)))))
noncomputable def gR:List D→R D:=runD gY lM eZ
theorem qX (a0:D):gR [a0]=fin (gY [some a0]):=rfl
noncomputable abbrev l9:List Str:=["word","things","many","cells","place","start","end"]
noncomputable abbrev dg:List Str:=["word","things"]
noncomputable abbrev cB:FS:=(aK (bJ 5 (vOp divD (vOp mulD (ai 4) (ao lenD (ae (ai 1) av))) (ai 2))) (aK (bJ 6 (vOp divD (vOp mulD (vOp addD (ai 4) (vC (.int 1))) (ao lenD (ae (ai 1) av))) (ai 2))) (dm 3 (g9 (ae (ai 0) (ae (ao tupD (ae (vSl xM (ai 1) (fZ (ai 5)) (fZ (ai 6))) av)) av))))))
noncomputable def df:FS:=(aK (bJ 2 (vOp divD (vOp subD (vOp addD (ao lenD (ae (ai 1) av)) (vC je)) (vC (.int 1))) (vC je))) (aK (sOwn 3 (eR av)) (aK (sFor (iRng1D (ae (ai 2) av)) (.one 4) cB) (bv (ai 3)))))
noncomputable def aV:List D→R D:=runD df l9 dg
theorem jo (a0 a1:D):aV [a0,a1]=fin (df [some a0,some a1,none,none,none,none,none]):=rfl
noncomputable abbrev jD:List Str:=["cells"]
noncomputable abbrev cG:List Str:=["cells"]
noncomputable def gP:FS:=(bv (fX [none] (lH (ai 0)) (.one 0) qYes (g9 (ae (ao gR (ae (ai 0) av)) (ae (ai 0) av)))))
noncomputable def bG:List D→R D:=runD gP jD cG
theorem qU (a0:D):bG [a0]=fin (gP [some a0]):=rfl
noncomputable abbrev qq:List Str:=["cells","level"]
noncomputable abbrev jm:List Str:=["cells"]
noncomputable abbrev rQ:FT:=(qBl (vOp gtD (ao lenD (ae (ai 1) av)) (vC (.int 1))))
noncomputable abbrev rB:FS:=(bJ 1 (ao aV (ae (vC (.str "branch")) (ae (ao bG (ae (ai 1) av)) av))))
noncomputable def ja:FS:=(aK (bJ 1 (ai 0)) (aK (b7 rQ rB 1000) (bv (vOp ixD (ai 1) (vC (.int 0))))))
noncomputable def gK:List D→R D:=runD ja qq jm
theorem qe (a0:D):gK [a0]=fin (ja [some a0,none]):=rfl
noncomputable abbrev eG:List Str:=["cell","entry","ahead","behind","parts","place","fresh"]
noncomputable abbrev bK:List Str:=["cell","entry"]
noncomputable def cM (eI:List D→R D):FS:=(aK (sIf (qBl (vOp eqD (vOp ixD (ai 0) (vC (.int 0))) (vC (.str "leaf")))) (aK (bJ 2 (fX [none,some 1] (lH (vOp ixD (ai 0) (vC (.int 1)))) (.one 0) (eT (ao aW (ae (ai 0) (ae (ai 1) av)))) (ai 0))) (aK (bJ 3 (fX [none,some 1] (lH (vOp ixD (ai 0) (vC (.int 1)))) (.one 0) (eT (ao aW (ae (ai 1) (ae (ai 0) av)))) (ai 0))) (bv (ao aV (ae (vC (.str "leaf")) (ae (vOp addD (vOp addD (ai 2) (eR (ae (ai 1) av))) (ai 3)) av)))))) bb) (aK (bJ 4 (ao lstD (ae (vOp ixD (ai 0) (vC (.int 1))) av))) (aK (bJ 5 (ao bp (ae (ai 4) (ae (ai 1) av)))) (aK (bJ 6 (ao eI (ae (vOp ixD (vOp ixD (ai 4) (ai 5)) (vC (.int 1))) (ae (ai 1) av)))) (bv (ao aV (ae (vC (.str "branch")) (ae (vOp addD (vOp addD (vSl slD (ai 4) jr (fZ (ai 5))) (ao bG (ae (ai 6) av))) (vSl slD (ai 4) (fZ (vOp addD (ai 5) (vC (.int 1)))) jr)) av))))))))
noncomputable def bA:Nat→(List D→R D)
 | 0=>(fun _=>.no)
 | n+1=>(runD (cM ((bA n))) eG bK)
noncomputable def eI:List D→R D:=(bA 10)
theorem jL (n:Nat) (a0 a1:D):(bA (n+1)) [a0,a1]=fin (cM ((bA n)) [some a0,some a1,none,none,none,none,none]):=rfl
noncomputable abbrev jP:List Str:=["index","value","number"]
noncomputable abbrev cV:List Str:=["index","value","number"]
noncomputable def cO:FS:=(aK (sIf (eT (ao cA (ae (ai 0) (ae (ai 1) (ae (ai 2) av))))) (bv (ai 0)) bb) (bv (ao gK (ae (ao eI (ae (ai 0) (ae (g9 (ae (ai 1) (ae (ai 2) av))) av))) av))))
noncomputable def cj:List D→R D:=runD cO jP cV
theorem jT (a0 a1 a2:D):cj [a0,a1,a2]=fin (cO [some a0,some a1,some a2]):=rfl
noncomputable abbrev qd:List Str:=["parts","place","smaller","start","things","fresh"]
noncomputable abbrev gJ:List Str:=["parts","place","smaller"]
noncomputable def jZ:FS:=(aK (sIf (qBl (vOp eqD (ai 1) (vC (.int 0)))) (aK (bJ 3 (vC (.int 0))) (bJ 4 (vOp addD (vOp ixD (ai 2) (vC (.int 1))) (vOp ixD (vOp ixD (vOp ixD (ai 0) (vC (.int 1))) (vC (.int 1))) (vC (.int 1)))))) (aK (bJ 3 (vOp subD (ai 1) (vC (.int 1)))) (bJ 4 (vOp addD (vOp ixD (vOp ixD (vOp ixD (ai 0) (ai 3)) (vC (.int 1))) (vC (.int 1))) (vOp ixD (ai 2) (vC (.int 1))))))) (aK (bJ 5 (ao aV (ae (vOp ixD (ai 2) (vC (.int 0))) (ae (ai 4) av)))) (bv (g9 (ae (vC (.str "branch")) (ae (ao tupD (ae (vOp addD (vOp addD (vSl slD (ai 0) jr (fZ (ai 3))) (ao bG (ae (ai 5) av))) (vSl slD (ai 0) (fZ (vOp addD (ai 3) (vC (.int 2)))) jr)) av)) av))))))
noncomputable def iW:List D→R D:=runD jZ qd gJ
theorem u8 (a0 a1 a2:D):iW [a0,a1,a2]=fin (jZ [some a0,some a1,some a2,none,none,none]):=rfl
noncomputable abbrev eN:List Str:=["cell","entry","parts","place","smaller"]
noncomputable abbrev bt:List Str:=["cell","entry"]
noncomputable def ca (cb:List D→R D):FS:=(aK (sIf (qBl (vOp eqD (vOp ixD (ai 0) (vC (.int 0))) (vC (.str "leaf")))) (bv (g9 (ae (vC (.str "leaf")) (ae (ao tupD (ae (fX [none,some 1] (lH (vOp ixD (ai 0) (vC (.int 1)))) (.one 0) (qBl (vOp neD (ai 0) (ai 1))) (ai 0)) av)) av)))) bb) (aK (bJ 2 (ao lstD (ae (vOp ixD (ai 0) (vC (.int 1))) av))) (aK (bJ 3 (ao bp (ae (ai 2) (ae (ai 1) av)))) (aK (bJ 4 (ao cb (ae (vOp ixD (vOp ixD (ai 2) (ai 3)) (vC (.int 1))) (ae (ai 1) av)))) (aK (sIf (qBl (vOp geD (ao lenD (ae (vOp ixD (ai 4) (vC (.int 1))) av)) (vC mo))) (bv (g9 (ae (vC (.str "branch")) (ae (ao tupD (ae (vOp addD (vOp addD (vSl slD (ai 2) jr (fZ (ai 3))) (ao bG (ae (eR (ae (ai 4) av)) av))) (vSl slD (ai 2) (fZ (vOp addD (ai 3) (vC (.int 1)))) jr)) av)) av)))) bb) (bv (ao iW (ae (ai 2) (ae (ai 3) (ae (ai 4) av))))))))))
noncomputable def ba:Nat→(List D→R D)
 | 0=>(fun _=>.no)
 | n+1=>(runD (ca ((ba n))) eN bt)
noncomputable def cb:List D→R D:=(ba 10)
theorem hJ (n:Nat) (a0 a1:D):(ba (n+1)) [a0,a1]=fin (ca ((ba n)) [some a0,some a1,none,none,none]):=rfl
noncomputable abbrev gB:List Str:=["index","value","number","root"]
noncomputable abbrev bO:List Str:=["index","value","number"]
noncomputable def bM:FS:=(aK (sIf (iC (eT (ao cA (ae (ai 0) (ae (ai 1) (ae (ai 2) av)))))) (bv (ai 0)) bb) (aK (bJ 3 (ao cb (ae (ai 0) (ae (g9 (ae (ai 1) (ae (ai 2) av))) av)))) (aK (sIf (qAnd (qBl (vOp eqD (vOp ixD (ai 3) (vC (.int 0))) (vC (.str "branch")))) (qBl (vOp eqD (ao lenD (ae (vOp ixD (ai 3) (vC (.int 1))) av)) (vC (.int 1))))) (bv (vOp ixD (vOp ixD (vOp ixD (ai 3) (vC (.int 1))) (vC (.int 0))) (vC (.int 1)))) bb) (bv (ai 3)))))
noncomputable def bj:List D→R D:=runD bM gB bO
theorem fY (a0 a1 a2:D):bj [a0,a1,a2]=fin (bM [some a0,some a1,some a2,none]):=rfl
noncomputable abbrev lp:List Str:=["entry"]
noncomputable abbrev dt:List Str:=["entry"]
noncomputable def fM:FS:=(bv (g9 (ae (ao fF (ae (vOp ixD (ai 0) (vC (.int 0))) av)) (ae (vOp ixD (ai 0) (vC (.int 1))) av))))
noncomputable def bL:List D→R D:=runD fM lp dt
theorem pB (a0:D):bL [a0]=fin (fM [some a0]):=rfl
noncomputable abbrev jO:List Str:=["entries","once","entry"]
noncomputable abbrev cN:List Str:=["entries"]
noncomputable abbrev nB:FS:=(sIf (qOr (qBl (vOp eqD (ai 1) (eR av))) (qBl (vOp neD (vOp ixD (ai 1) (vUn negD (vC (.int 1)))) (ai 2)))) (dm 1 (ai 2)) bb)
noncomputable def dY:FS:=(aK (sOwn 1 (eR av)) (aK (sFor (lH (ao (sortG keyN bL) (ae (ai 0) av))) (.one 2) nB) (aK (sIf (qBl (vOp eqD (ai 1) (eR av))) (bv (ao cZ av)) bb) (bv (ao gK (ae (ao aV (ae (vC (.str "leaf")) (ae (ai 1) av))) av))))))
noncomputable def cP:List D→R D:=runD dY jO cN
theorem nj (a0:D):cP [a0]=fin (dY [some a0,none,none]):=rfl
noncomputable abbrev kW:List Str:=["_law_script","_law_k"]
noncomputable abbrev dM:List Str:=["_law_script","_law_k"]
noncomputable def fN:FS:=(aK (sIf (qBl (vOp ltD (ai 1) (ao lenD (ae (ai 0) av)))) (bv (vOp ixD (ai 0) (ai 1))) bb) (bv (vC (.int 0))))
noncomputable def bN:List D→R D:=runD fN kW dM
theorem pF (a0 a1:D):bN [a0,a1]=fin (fN [some a0,some a1]):=rfl
noncomputable abbrev on:List Str:=["_law_found"]
noncomputable abbrev fW:List Str:=["_law_found"]
noncomputable def iL:FS:=(bv (vAnd (ao iE (ae (ai 0) (ae (vC (.ty "int")) av))) (vNot (ao iE (ae (ai 0) (ae (vC (.ty "bool")) av))))))
noncomputable def dj:List D→R D:=runD iL on fW
theorem sR (a0:D):dj [a0]=fin (iL [some a0]):=rfl
noncomputable abbrev me:List Str:=["_law_cell","_law_many","_law_found","_law_number","_law_k"]
noncomputable abbrev e9:List Str:=["_law_cell","_law_many"]
noncomputable abbrev sB:FS:=(aK (bJ 3 (vOp modD (vOp addD (vOp addD (vOp mulD (ai 3) (vC (.int 48271))) (vC (.int 11))) (ai 4)) (vC (.int 2147483647)))) (dm 2 (ai 3)))
noncomputable def gO:FS:=(aK (sOwn 2 (eR av)) (aK (bJ 3 (vOp modD (ai 0) (vC (.int 2147483647)))) (aK (sFor (iRng1D (ae (ai 1) av)) (.one 4) sB) (bv (ai 2)))))
noncomputable def gN:List D→R D:=runD gO me e9
theorem q5 (a0 a1:D):gN [a0,a1]=fin (gO [some a0,some a1,none,none,none]):=rfl
noncomputable abbrev kT:List Str:=["_law_x","_law_some","_law_way"]
noncomputable abbrev gk:List Str:=["_law_x"]
noncomputable def ji:FS:=(aK (bJ 1 (vC (.str " !\"#$&'()*+,-./0123456789:;<=>?@ABCDEFGHIJKLMNOPQRSTUVWXYZ[\\]^_`"))) (aK (bJ 1 (vOp addD (ai 1) (vC (.str "abcdefghijklmnopqrstuvwxyz{|}~")))) (aK (bJ 2 (vOp modD (ai 0) (vC (.int 8)))) (aK (sIf (qBl (vOp eqD (ai 2) (vC (.int 0)))) (bv (vC .non)) bb) (aK (sIf (qBl (vOp ltD (ai 2) (vC (.int 4)))) (bv (vOp subD (vOp modD (vOp divD (ai 0) (vC (.int 8))) (vC (.int 7))) (vC (.int 3)))) bb) (aK (sIf (qBl (vOp eqD (ai 2) (vC (.int 4)))) (bv (vOp ixD (eR (ae (vOp subD (vOp powD (vC (.int 10)) (vC (.int 18))) (vC (.int 1))) (ae (vOp subD (vC (.int 1)) (vOp powD (vC (.int 10)) (vC (.int 18)))) (ae (vOp powD (vC (.int 10)) (vC (.int 9))) (ae (vUn negD (vC (.int 10))) av))))) (vOp modD (vOp divD (ai 0) (vC (.int 8))) (vC (.int 4))))) bb) (aK (sIf (qBl (vOp eqD (ai 2) (vC (.int 5)))) (bv (vOp subD (vOp modD (vOp mulD (vOp mulD (ai 0) (ai 0)) (vC (.int 48271))) (vOp subD (vOp mulD (vC (.int 2)) (vOp powD (vC (.int 10)) (vC (.int 18)))) (vC (.int 1)))) (vOp subD (vOp powD (vC (.int 10)) (vC (.int 18))) (vC (.int 1))))) bb) (aK (sIf (qBl (vOp eqD (ai 2) (vC (.int 6)))) (bv (vOp ixD (eR (ae (vC (.str "")) (ae (vC (.str "a")) (ae (vC (.str "ab")) (ae (vC (.str "b")) (ae (vC (.str "aB")) (ae (vC (.str " ")) (ae (vC (.str "~")) (ae (vC (.str "a ")) av))))))))) (vOp modD (vOp divD (ai 0) (vC (.int 8))) (vC (.int 8))))) bb) (bv (vSM joinD (vC (.str "")) (ae (fX [none,some 1,some 0] (iRng1D (ae (vOp modD (vOp divD (ai 0) (vC (.int 64))) (vC (.int 41))) av)) (.one 0) qYes (vOp ixD (ai 1) (vOp modD (vOp addD (vOp divD (vOp divD (ai 2) (vC (.int 8))) (vOp addD (ai 0) (vC (.int 1)))) (ai 0)) (vC (.int 94))))) av)))))))))))
noncomputable def jg:List D→R D:=runD ji kT gk
theorem uc (a0:D):jg [a0]=fin (ji [some a0,none,none]):=rfl
noncomputable abbrev tP:List Str:=["_law_entry_here"]
noncomputable abbrev lj:List Str:=["_law_entry_here"]
noncomputable def mL:FS:=(aK (sIf (qBl (vOp isD (vOp ixD (ai 0) (vC (.int 0))) (vC .non))) (bv (g9 (ae (vC (.int 0)) (ae (vC (.int 0)) (ae (vC (.str "")) (ae (vOp ixD (ai 0) (vC (.int 1))) av)))))) bb) (aK (sIf (eT (ao iE (ae (vOp ixD (ai 0) (vC (.int 0))) (ae (vC (.ty "str")) av)))) (bv (g9 (ae (vC (.int 2)) (ae (vC (.int 0)) (ae (vOp ixD (ai 0) (vC (.int 0))) (ae (vOp ixD (ai 0) (vC (.int 1))) av)))))) bb) (bv (g9 (ae (vC (.int 1)) (ae (vOp ixD (ai 0) (vC (.int 0))) (ae (vC (.str "")) (ae (vOp ixD (ai 0) (vC (.int 1))) av))))))))
noncomputable def iw:List D→R D:=runD mL tP lj
theorem xm (a0:D):iw [a0]=fin (mL [some a0]):=rfl
noncomputable abbrev n8:List Str:=["_law_x"]
noncomputable abbrev gC:List Str:=["_law_x"]
noncomputable def jh:FS:=(bv (g9 (ae (ao jg (ae (vOp divD (ai 0) (vC (.int 3))) av)) (ae (vOp addD (vC (.int 1)) (vOp modD (vOp modD (vOp mulD (ai 0) (vC (.int 69621))) (vC (.int 2147483647))) (vOp ixD (eR (ae (vC (.int 9)) (ae (vC (.int 60)) (ae (vOp powD (vC (.int 10)) (vC (.int 9))) av)))) (vOp modD (ai 0) (vC (.int 3)))))) av))))
noncomputable def cT:List D→R D:=runD jh n8 gC
theorem sw (a0:D):cT [a0]=fin (jh [some a0]):=rfl
noncomputable abbrev m5:List Str:=["_law_entries","_law_rows"]
noncomputable abbrev iS:List Str:=["_law_entries"]
noncomputable def ki:FS:=(aK (bJ 1 (ao (sortD iw) (ae (ai 0) av))) (bv (fX [none,some 1] (iRng1D (ae (ao lenD (ae (ai 1) av)) av)) (.one 0) (qOr (qBl (vOp eqD (ai 0) (vC (.int 0)))) (qBl (vOp neD (vOp ixD (ai 1) (ai 0)) (vOp ixD (ai 1) (vOp subD (ai 0) (vC (.int 1))))))) (vOp ixD (ai 1) (ai 0)))))
noncomputable def jd:List D→R D:=runD ki m5 iS
theorem vt (a0:D):jd [a0]=fin (ki [some a0,none]):=rfl
noncomputable abbrev qt:List Str:=["_law_one","_law_other"]
noncomputable abbrev gX:List Str:=["_law_one","_law_other"]
noncomputable def j3:FS:=(aK (sIf (qOr (iC (eT (ao iE (ae (ai 0) (ae (vC (.ty "tuple")) av))))) (qOr (qBl (vOp neD (ao lenD (ae (ai 0) av)) (vC (.int 2)))) (qOr (iC (eT (ao dj (ae (vOp ixD (ai 0) (vC (.int 1))) av)))) (qBl (vOp neD (vOp ixD (ai 0) (vC (.int 1))) (vOp ixD (ai 1) (vC (.int 1)))))))) (bv (vC (.bl false))) bb) (aK (sIf (qOr (qBl (vOp isD (vOp ixD (ai 1) (vC (.int 0))) (vC .non))) (qBl (vOp isD (vOp ixD (ai 0) (vC (.int 0))) (vC .non)))) (bv (vAnd (vOp isD (vOp ixD (ai 0) (vC (.int 0))) (vC .non)) (vOp isD (vOp ixD (ai 1) (vC (.int 0))) (vC .non)))) bb) (aK (sIf (qBl (vOp neD (ao iE (ae (vOp ixD (ai 0) (vC (.int 0))) (ae (vC (.ty "str")) av))) (ao iE (ae (vOp ixD (ai 1) (vC (.int 0))) (ae (vC (.ty "str")) av))))) (bv (vC (.bl false))) bb) (bv (vAnd (vOp eqD (vOp ixD (ai 0) (vC (.int 0))) (vOp ixD (ai 1) (vC (.int 0)))) (vOr (ao iE (ae (vOp ixD (ai 0) (vC (.int 0))) (ae (vC (.ty "str")) av))) (ao dj (ae (vOp ixD (ai 0) (vC (.int 0))) av))))))))
noncomputable def c8:List D→R D:=runD j3 qt gX
theorem vA (a0 a1:D):c8 [a0,a1]=fin (j3 [some a0,some a1]):=rfl
noncomputable abbrev oq:List Str:=["_law_found","_law_rows","_law_k"]
noncomputable abbrev gA:List Str:=["_law_found","_law_rows"]
noncomputable abbrev aB:FS:=(sIf (iC (eT (ao c8 (ae (vOp ixD (ai 0) (ai 2)) (ae (vOp ixD (ai 1) (ai 2)) av))))) (bv (vC (.bl false))) bb)
noncomputable def jl:FS:=(aK (sIf (qOr (iC (eT (ao iE (ae (ai 0) (ae (vC (.ty "list")) av))))) (qBl (vOp neD (ao lenD (ae (ai 0) av)) (ao lenD (ae (ai 1) av))))) (bv (vC (.bl false))) bb) (aK (sFor (iRng1D (ae (ao lenD (ae (ai 1) av)) av)) (.one 2) aB) (bv (vC (.bl true)))))
noncomputable def b6:List D→R D:=runD jl oq gA
theorem uD (a0 a1:D):b6 [a0,a1]=fin (jl [some a0,some a1,none]):=rfl
noncomputable abbrev oe:List Str:=["_law_cell","_law_root","_law_leaves","_law_part","_law_beneath","_law_depth","_law_entries"]
noncomputable abbrev dr:List Str:=["_law_cell","_law_root"]
noncomputable abbrev iB:FS:=(aK (sIf (qAnd (qBl (vOp neD (ai 2) (eR av))) (qBl (vOp neD (vOp ixD (vOp ixD (ai 2) (vC (.int 0))) (vC (.int 0))) (vOp addD (ai 5) (vC (.int 1)))))) (bv (vC .non)) bb) (dm 2 (g9 (ae (vOp addD (ai 5) (vC (.int 1))) (ae (ai 6) av)))))
noncomputable def gH (iZ:List D→R D):FS:=(aK (sIf (qOr (iC (eT (ao iE (ae (ai 0) (ae (vC (.ty "tuple")) av))))) (qOr (qBl (vOp neD (ao lenD (ae (ai 0) av)) (vC (.int 2)))) (qOr (iC (eT (ao iE (ae (vOp ixD (ai 0) (vC (.int 1))) (ae (vC (.ty "tuple")) av))))) (qBl (vOp gtD (ao lenD (ae (vOp ixD (ai 0) (vC (.int 1))) av)) (vC (.int 8))))))) (bv (vC .non)) bb) (aK (sIf (qBl (vOp eqD (vOp ixD (ai 0) (vC (.int 0))) (vC (.str "leaf")))) (bv (vIf (qOr (eT (ai 1)) (qBl (vOp gtD (ao lenD (ae (vOp ixD (ai 0) (vC (.int 1))) av)) (vC (.int 3))))) (eR (ae (g9 (ae (vC (.int 0)) (ae (ao lstD (ae (vOp ixD (ai 0) (vC (.int 1))) av)) av))) av)) (vC .non))) bb) (aK (sIf (qOr (qBl (vOp neD (vOp ixD (ai 0) (vC (.int 0))) (vC (.str "branch")))) (qBl (vOp ltD (ao lenD (ae (vOp ixD (ai 0) (vC (.int 1))) av)) (vOp ixD (eR (ae (vC (.int 4)) (ae (vC (.int 2)) av))) (ao intD (ae (ai 1) av)))))) (bv (vC .non)) bb) (aK (sOwn 2 (eR av)) (aK (sFor (lH (vOp ixD (ai 0) (vC (.int 1)))) (.one 3) (aK (bJ 4 (vC .non)) (aK (sIf (qAnd (eT (ao iE (ae (ai 3) (ae (vC (.ty "tuple")) av)))) (qBl (vOp eqD (ao lenD (ae (ai 3) av)) (vC (.int 2))))) (bJ 4 (ao iZ (ae (vOp ixD (ai 3) (vC (.int 1))) (ae (vC (.bl false)) av)))) bb) (aK (sIf (qOr (qBl (vOp isD (ai 4) (vC .non))) (iC (eT (ao c8 (ae (vOp ixD (ai 3) (vC (.int 0))) (ae (vOp ixD (vOp ixD (vOp ixD (ai 4) (vC (.int 0))) (vC (.int 1))) (vC (.int 0))) av)))))) (bv (vC .non)) bb) (sFor (lH (ai 4)) (.tup [5,6]) iB))))) (bv (ai 2)))))))
noncomputable def cx:Nat→(List D→R D)
 | 0=>(fun _=>.no)
 | n+1=>(runD (gH ((cx n))) oe dr)
noncomputable def iZ:List D→R D:=(cx 10)
theorem n9 (n:Nat) (a0 a1:D):(cx (n+1)) [a0,a1]=fin (gH ((cx n)) [some a0,some a1,none,none,none,none,none]):=rfl
noncomputable abbrev uy:List Str:=["_law_found","_law_rows","_law_leaves","_law_entries","_law_depth","_law_some"]
noncomputable abbrev kP:List Str:=["_law_found","_law_rows"]
noncomputable def mT:FS:=(aK (bJ 2 (ao iZ (ae (ai 0) (ae (vC (.bl true)) av)))) (aK (sIf (qBl (vOp isD (ai 2) (vC .non))) (bv (vC (.bl false))) bb) (aK (bJ 3 (eR av)) (aK (sFor (lH (ai 2)) (.tup [4,5]) (bJ 3 (vOp addD (ai 3) (ai 5)))) (bv (ao b6 (ae (ai 3) (ae (ai 1) av))))))))
noncomputable def jH:List D→R D:=runD mT uy kP
theorem xC (a0 a1:D):jH [a0,a1]=fin (mT [some a0,some a1,none,none,none,none]):=rfl
noncomputable abbrev mn:List Str:=["_law_cell","_law_many","_law_entries"]
noncomputable abbrev i7:List Str:=["_law_cell"]
noncomputable abbrev lI:FS:=(sIf (qBl (vOp eqD (vOp modD (vOp divD (ai 0) (vC (.int 20))) (vC (.int 3))) (vC (.int 1)))) (bJ 1 (vOp addD (vC (.int 20)) (vOp modD (vOp divD (ai 0) (vC (.int 60))) (vC (.int 100))))) bb)
noncomputable def j6:FS:=(aK (bJ 1 (vOp modD (ai 0) (vC (.int 20)))) (aK lI (aK (bJ 2 (fX [none] (lH (ao gN (ae (ai 0) (ae (ai 1) av)))) (.one 0) qYes (ao cT (ae (ai 0) av)))) (bv (vOp addD (ai 2) (vSl slD (ai 2) jr (fZ (vOp modD (ai 0) (vC (.int 3))))))))))
noncomputable def kh:List D→R D:=runD j6 mn i7
theorem uJ (a0:D):kh [a0]=fin (j6 [some a0,none,none]):=rfl
noncomputable abbrev kq:List Str:=["_law_index","_law_rows","_law_x","_law_k","_law_at"]
noncomputable abbrev dl:List Str:=["_law_index","_law_rows","_law_x"]
noncomputable abbrev tB':FS:=(aK (bJ 4 (vOp ixD (eR (ae (vC (.int 0)) (ae (vOp mulD (vOp subD (ao lenD (ae (ai 1) av)) (vC (.int 1))) (vOp modD (ai 3) (vC (.int 2)))) (ae (vOp divD (ao lenD (ae (ai 1) av)) (vC (.int 2))) av)))) (vOp modD (ai 2) (vC (.int 3))))) (aK (bJ 0 (ao bj (ae (ai 0) (ae (vOp ixD (vOp ixD (ai 1) (ai 4)) (vC (.int 0))) (ae (vOp ixD (vOp ixD (ai 1) (ai 4)) (vC (.int 1))) av))))) (bJ 1 (vOp addD (vSl slD (ai 1) jr (fZ (ai 4))) (vSl slD (ai 1) (fZ (vOp addD (ai 4) (vC (.int 1)))) jr)))))
noncomputable abbrev thA:FA:=(ae (vOp subD (ao lenD (ae (ai 1) av)) (vOp modD (vOp divD (ai 2) (vC (.int 3))) (vC (.int 9)))) av)
noncomputable def fK:FS:=(aK (sFor (iRng1D thA) (.one 3) tB') (bv (g9 (ae (ai 0) (ae (ai 1) av)))))
noncomputable def fB:List D→R D:=runD fK kq dl
theorem pJ (a0 a1 a2:D):fB [a0,a1,a2]=fin (fK [some a0,some a1,some a2,none,none]):=rfl
noncomputable abbrev qu:List Str:=["_law_x","_law_rows","_law_gone","_law_entry_here","_law_one"]
noncomputable abbrev iJ:List Str:=["_law_x","_law_rows","_law_gone"]
noncomputable abbrev dQ1:FT:=(qAnd (qBl (vOp neD (ai 1) (eR av))) (qBl (vOp gtD (vOp modD (ai 0) (vC (.int 8))) (vC (.int 2)))))
noncomputable abbrev dQ2:FT:=(qAnd (qBl (vOp neD (ai 2) (eR av))) (qBl (vOp eqD (vOp modD (ai 0) (vC (.int 8))) (vC (.int 2)))))
noncomputable abbrev dS2:FS:=(bJ 3 (vOp ixD (ai 2) (vOp modD (vOp divD (ai 0) (vC (.int 8))) (ao lenD (ae (ai 2) av)))))
noncomputable abbrev dR:FS:=(bv (g9 (ae (vOr (vOp gtD (vOp modD (ai 0) (vC (.int 8))) (vC (.int 4))) (vOp eqD (vOp modD (ai 0) (vC (.int 8))) (vC (.int 1)))) (ae (ai 3) av))))
noncomputable def j0:FS:=(aK (bJ 3 (ao cT (ae (vOp divD (ai 0) (vC (.int 8))) av))) (aK (sIf dQ1 (aK (bJ 4 (vOp ixD (ai 1) (vOp modD (vOp divD (ai 0) (vC (.int 8))) (ao lenD (ae (ai 1) av))))) (bJ 3 (vOp ixD (eR (ae (g9 (ae (vOp ixD (ai 3) (vC (.int 0))) (ae (vOp ixD (ai 4) (vC (.int 1))) av))) (ae (g9 (ae (vOp ixD (ai 4) (vC (.int 0))) (ae (vOp ixD (ai 3) (vC (.int 1))) av))) (ae (ai 4) (ae (ai 4) (ae (ai 4) av)))))) (vOp subD (vOp modD (ai 0) (vC (.int 8))) (vC (.int 3)))))) bb) (aK (sIf dQ2 dS2 bb) dR)))
noncomputable def j4:List D→R D:=runD j0 qu iJ
theorem u7 (a0 a1 a2:D):j4 [a0,a1,a2]=fin (j0 [some a0,some a1,some a2,none,none]):=rfl
noncomputable abbrev jt:List Str:=["_law_rows","_law_less","_law_entry_here"]
noncomputable abbrev eV:List Str:=["_law_rows","_law_less","_law_entry_here"]
noncomputable def eU:FS:=(aK (sIf (eT (ai 1)) (bv (fX [none,some 2] (lH (ai 0)) (.one 0) (iC (eT (ao c8 (ae (ai 0) (ae (ai 1) av))))) (ai 0))) bb) (bv (ao jd (ae (vOp addD (ai 0) (eR (ae (ai 2) av))) av))))
noncomputable def fb:List D→R D:=runD eU jt eV
theorem ma (a0 a1 a2:D):fb [a0,a1,a2]=fin (eU [some a0,some a1,some a2]):=rfl
noncomputable abbrev zw:List Str:=["_law_script","_law_entries","_law_handed","_law_indexes","_law_rows","_law_kept","_law_held","_law_gone","_law_turn","_law_cell","_law_which","_law_less","_law_entry_here","_law_found","_law_some","_law_index"]
noncomputable abbrev oD:List Str:=["_law_script"]
noncomputable abbrev L1:FS:=(bJ 10 (vOp divD (vOp modD (ai 9) (vC (.int 3))) (vC (.int 2))))
noncomputable abbrev L2':FS:=(sUnp (bindD (.tup [11,12])) (vLnd (ao j4 (ae (vOp modD (vOp addD (vOp mulD (vOp divD (ai 9) (vC (.int 3))) (vC (.int 48271))) (vOp mulD (vC (.int 11)) (ai 8))) (vC (.int 2147483647))) (ae (vOp ixD (ai 4) (ai 10)) (ae (ai 7) av))))))
noncomputable abbrev L3:FS:=(sIf (eT (ai 11)) (aK (dm 7 (ai 12)) (ll 3 (ai 10) (ao bj (ae (vOp ixD (ai 3) (ai 10)) (ae (vOp ixD (ai 12) (vC (.int 0))) (ae (vOp ixD (ai 12) (vC (.int 1))) av)))))) (ll 3 (ai 10) (ao cj (ae (vOp ixD (ai 3) (ai 10)) (ae (vOp ixD (ai 12) (vC (.int 0))) (ae (vOp ixD (ai 12) (vC (.int 1))) av))))))
noncomputable abbrev L4:FS:=(ll 4 (ai 10) (ao fb (ae (vOp ixD (ai 4) (ai 10)) (ae (ai 11) (ae (ai 12) av)))))
noncomputable abbrev L5:FS:=(bJ 13 (ao bB (ae (vOp ixD (ai 3) (ai 10)) av)))
noncomputable abbrev L6:FS:=(dm 6 (g9 (ae (ai 13) (ae (vOp ixD (ai 4) (ai 10)) av))))
noncomputable abbrev L7:FS:=(sIf (qOr (qBl (vOp neD (ao eX (ae (vOp ixD (ai 3) (ai 10)) av)) (ao lenD (ae (vOp ixD (ai 4) (ai 10)) av)))) (iC (eT (ao b6 (ae (ai 13) (ae (vOp ixD (ai 4) (ai 10)) av)))))) (bv (vC (.bl false))) bb)
noncomputable abbrev L8:FS:=(sIf (qBl (vOp eqD (vOp modD (ai 8) (vC (.int 3))) (vC (.int 0)))) (dm 5 (g9 (ae (vOp ixD (ai 3) (ai 10)) (ae (vOp ixD (ai 4) (ai 10)) av)))) bb)
noncomputable abbrev LB:FS:=(aK L1 (aK L2' (aK L3 (aK L4 (aK L5 (aK L6 (aK L7 L8)))))))
noncomputable abbrev HB:FS:=(sIf (iC (eT (ao b6 (ae (ai 13) (ae (ai 14) av))))) (bv (vC (.bl false))) bb)
noncomputable abbrev KB:FS:=(sIf (qOr (iC (eT (ao jH (ae (ai 15) (ae (ai 14) av))))) (iC (eT (ao b6 (ae (ao bB (ae (ai 15) av)) (ae (ai 14) av)))))) (bv (vC (.bl false))) bb)
noncomputable abbrev W1:FS:=(bJ 1 (ao kh (ae (vOp modD (ao bN (ae (ai 0) (ae (vC (.int 0)) av))) (vOp powD (vC (.int 10)) (vC (.int 12)))) av)))
noncomputable abbrev W3:FS:=(sOwn 3 (eR (ae (vLnd (ao cP (ae (ai 2) av))) (ae (ao cP (ae (eR av) av)) av))))
noncomputable abbrev W4:FS:=(sOwn 4 (eR (ae (ao jd (ae (ai 1) av)) (ae (eR av) av))))
noncomputable abbrev W5:FS:=(sIf (qBl (vOp eqD (vOp modD (ao bN (ae (ai 0) (ae (vC (.int 1)) av))) (vC (.int 3))) (vC (.int 1)))) (sUnp (fTwo (fSub 3 0) (fSub 4 0)) (ao fB (ae (vOp ixD (ai 3) (vC (.int 0))) (ae (vOp ixD (ai 4) (vC (.int 0))) (ae (vOp modD (vOp divD (ao bN (ae (ai 0) (ae (vC (.int 1)) av))) (vC (.int 3))) (vOp powD (vC (.int 10)) (vC (.int 9)))) av))))) bb)
noncomputable abbrev W6:FT:=(qOr (qBl (vOp neD (ai 2) (ai 1))) (iC (eT (ao jH (ae (vOp ixD (ai 3) (vC (.int 0))) (ae (vOp ixD (ai 4) (vC (.int 0))) av))))))
noncomputable abbrev W7:FT:=(iC (eT (ao b6 (ae (ao bB (ae (vOp ixD (ai 3) (vC (.int 0))) av)) (ae (vOp ixD (ai 4) (vC (.int 0))) av)))))
noncomputable abbrev W8:FA:=(lH (vOp addD (vSl slD (ai 5) jr (fZ (vC (.int 6)))) (eR (ae (g9 (ae (vOp ixD (ai 3) (vC (.int 0))) (ae (vOp ixD (ai 4) (vC (.int 0))) av))) (ae (g9 (ae (vOp ixD (ai 3) (vC (.int 1))) (ae (vOp ixD (ai 4) (vC (.int 1))) av))) av)))))
noncomputable def uL:FS:=(aK W1 (aK (sOwn 2 (ao lstD (ae (ai 1) av))) (aK W3 (aK W4 (aK (sIf W6 (bv (vC (.bl false))) bb) (aK (sClear 2) (aK (sIf W7 (bv (vC (.bl false))) bb) (aK W5 (aK (sOwn 5 (eR av)) (aK (sOwn 6 (eR av)) (aK (sOwn 7 (eR av)) (aK (sFor (iEnumerate (ae (vSl slD (ai 0) (fZ (vC (.int 2))) jr) av)) (.tup [8,9]) LB) (aK (sFor (lH (ai 6)) (.tup [13,14]) HB) (aK (sFor W8 (.tup [15,14]) KB) (bv (vC (.bl true)))))))))))))))))
noncomputable def qG:List D→R D:=runD uL zw oD
theorem A8 (a0:D):qG [a0]=fin (uL [some a0,none,none,none,none,none,none,none,none,none,none,none,none,none,none,none]):=rfl
noncomputable def top (i:Nat):Stmt:=PySem.Challenge.pw_tablestore_k26_whole_many_deeds.main.body.getD i (.Pass ⟨0,0,0,0⟩)
noncomputable abbrev kM:Stmt:=top 2
local macro_rules | `(tactic| walk_at "sc") => `(tactic| exact ⟨rfl, rfl, rfl, by decide +kernel, rfl, by decide +kernel, by decide +kernel⟩)
theorem qP:FnScope nw gb (ap kM):=by walk_at "sc"
noncomputable abbrev lc:Stmt:=top 3
theorem qF:FnScope oi gn (ap lc):=by walk_at "sc"
noncomputable abbrev iA:Stmt:=top 4
theorem nR:FnScope lh dG (ap iA):=by walk_at "sc"
noncomputable abbrev fH:Stmt:=top 8
theorem hG:FnScope i4 bS (ap fH):=by walk_at "sc"
noncomputable abbrev fA:Stmt:=top 9
theorem lC:FnScope iG cw (ap fA):=by walk_at "sc"
noncomputable abbrev ii:Stmt:=top 11
theorem gi:FnScope kF dD (ap ii):=by walk_at "sc"
noncomputable abbrev eL:Stmt:=top 10
theorem fz:FnScope gm cS (ap eL):=by walk_at "sc"
noncomputable abbrev kA:Stmt:=top 12
theorem qz:FnScope nO gq (ap kA):=by walk_at "sc"
noncomputable abbrev gd:Stmt:=top 14
theorem fP:FnScope jK bR (ap gd):=by walk_at "sc"
noncomputable abbrev iz:Stmt:=top 13
theorem cL:FnScope kJ dq (ap iz):=by walk_at "sc"
noncomputable abbrev jp:Stmt:=top 15
theorem pE:FnScope lM eZ (ap jp):=by walk_at "sc"
noncomputable abbrev ju:Stmt:=top 19
theorem cz:FnScope l9 dg (ap ju):=by walk_at "sc"
noncomputable abbrev gT:Stmt:=top 20
theorem oV:FnScope jD cG (ap gT):=by walk_at "sc"
noncomputable abbrev mG:Stmt:=top 21
theorem kQ:FnScope qq jm (ap mG):=by walk_at "sc"
noncomputable abbrev cR:Stmt:=top 18
theorem bT:FnScope eG bK (ap cR):=by walk_at "sc"
noncomputable abbrev gG:Stmt:=top 17
theorem mN:FnScope jP cV (ap gG):=by walk_at "sc"
noncomputable abbrev mQ:Stmt:=top 24
theorem fh:FnScope qd gJ (ap mQ):=by walk_at "sc"
noncomputable abbrev cH:Stmt:=top 23
theorem cu:FnScope eN bt (ap cH):=by walk_at "sc"
noncomputable abbrev dL:Stmt:=top 22
theorem fS:FnScope gB bO (ap dL):=by walk_at "sc"
noncomputable abbrev ip:Stmt:=top 26
theorem ni:FnScope lp dt (ap ip):=by walk_at "sc"
noncomputable abbrev gh:Stmt:=top 25
theorem fG:FnScope jO cN (ap gh):=by walk_at "sc"
noncomputable abbrev ir:Stmt:=top 28
theorem nH:FnScope kW dM (ap ir):=by walk_at "sc"
noncomputable abbrev lu:Stmt:=top 29
theorem qD:FnScope on fW (ap lu):=by walk_at "sc"
noncomputable abbrev jF:Stmt:=top 30
theorem dF:FnScope me e9 (ap jF):=by walk_at "sc"
noncomputable abbrev jf:Stmt:=top 31
theorem gW:FnScope kT gk (ap jf):=by walk_at "sc"
noncomputable abbrev oS:Stmt:=top 32
theorem uW:FnScope tP lj (ap oS):=by walk_at "sc"
noncomputable abbrev lg:Stmt:=top 33
theorem rj:FnScope n8 gC (ap lg):=by walk_at "sc"
noncomputable abbrev jX:Stmt:=top 34
theorem nz:FnScope m5 iS (ap jX):=by walk_at "sc"
noncomputable abbrev mJ:Stmt:=top 35
theorem sQ:FnScope qt gX (ap mJ):=by walk_at "sc"
noncomputable abbrev kL:Stmt:=top 36
theorem lJ:FnScope oq gA (ap kL):=by walk_at "sc"
noncomputable abbrev kK:Stmt:=top 37
theorem cC:FnScope oe dr (ap kK):=by walk_at "sc"
noncomputable abbrev pq:Stmt:=top 38
theorem gM:FnScope uy kP (ap pq):=by walk_at "sc"
noncomputable abbrev kl:Stmt:=top 39
theorem i5:FnScope mn i7 (ap kl):=by walk_at "sc"
noncomputable abbrev ic:Stmt:=top 40
theorem cK:FnScope kq dl (ap ic):=by walk_at "sc"
noncomputable abbrev mB:Stmt:=top 41
theorem gt:FnScope qu iJ (ap mB):=by walk_at "sc"
noncomputable abbrev gS:Stmt:=top 42
theorem oJ:FnScope jt eV (ap gS):=by walk_at "sc"
noncomputable abbrev rC:Stmt:=top 43
theorem cy:FnScope zw oD (ap rC):=by walk_at "sc"
structure Txt (w:World) (K:PySem.W.Frag) (mg:Str→Option Value) (f1 f2 f3 f4 f5 f6 f7 f8 f9 f10 f11 f12 f13 f14 f15 f16 f17 f18 f19 f20 f21 f22 f23 f24 f25 f26 f27 f28 f29 f30 f31 f32 f33 f34 f35 f36 f37:Addr) (d1 d2 d3 d4 d5 d6 d7 d8 d9 d10 d11 d12 d13 d14 d15 d16 d17 d18 d19 d20 d21 d22 d23 d24 d25 d26 d27 d28 d29 d30 d31 d32 d33 d34 d35 d36 d37:FuncData) (a_KINDS:Addr) (tk_FEWEST:Tok) (tk_MOST:Tok):Prop where
 D_kind_of:Def K mg "kind_of" kM gb f1 d1
 D_compare:Def K mg "compare" lc gn f2 d2
 D_order_key:Def K mg "order_key" iA dG f3 d3
 D_comes_ahead:Def K mg "comes_ahead" fH bS f4 d4
 D_empty_index:Def K mg "empty_index" fA cw f5 d5
 D_things_in:Def K mg "things_in" ii dD f6 d6
 D_entries_of:Def K mg "entries_of" eL cS f7 d7
 D_many_in:Def K mg "many_in" kA gq f8 d8
 D_part_place:Def K mg "part_place" gd bR f9 d9
 D_has_entry:Def K mg "has_entry" iz dq f10 d10
 D_first_of:Def K mg "first_of" jp eZ f11 d11
 D_cells_of:Def K mg "cells_of" ju dg f12 d12
 D_parts_of:Def K mg "parts_of" gT cG f13 d13
 D_rooted:Def K mg "rooted" mG jm f14 d14
 D_cells_with:Def K mg "cells_with" cR bK f15 d15
 D_with_entry:Def K mg "with_entry" gG cV f16 d16
 D_mended:Def K mg "mended" mQ gJ f17 d17
 D_cell_without:Def K mg "cell_without" cH bt f18 d18
 D_without_entry:Def K mg "without_entry" dL bO f19 d19
 D_entry_key:Def K mg "entry_key" ip dt f20 d20
 D_index_from:Def K mg "index_from" gh cN f21 d21
 D_l_cell_at:Def K mg "_law_cell_at" ir dM f22 d22
 D_l_whole:Def K mg "_law_whole" lu fW f23 d23
 D_l_stream:Def K mg "_law_stream" jF e9 f24 d24
 D_l_value:Def K mg "_law_value" jf gk f25 d25
 D_l_key:Def K mg "_law_key" oS lj f26 d26
 D_l_entry:Def K mg "_law_entry" lg gC f27 d27
 D_l_once:Def K mg "_law_once" jX iS f28 d28
 D_l_same:Def K mg "_law_same" mJ gX f29 d29
 D_l_alike:Def K mg "_law_alike" kL gA f30 d30
 D_l_cells:Def K mg "_law_cells" kK dr f31 d31
 D_l_has:Def K mg "_law_has" pq kP f32 d32
 D_l_list:Def K mg "_law_list" kl i7 f33 d33
 D_l_thinned:Def K mg "_law_thinned" ic dl f34 d34
 D_l_deed:Def K mg "_law_deed" mB iJ f35 d35
 D_l_behind:Def K mg "_law_behind" gS eV f36 d36
 D_law:Def K mg "law" rC oD f37 d37
 o_KINDS:∃ ob,K.lookup a_KINDS=some ob∧ob.cls=.type "tuple"∧ob.dict=none
 c_KINDS:mg "KINDS"=some (.ref a_KINDS)
 r_KINDS:RelV (.ref a_KINDS) (.ref a_KINDS)
 e_KINDS:∀ H,Den K H iy (.ref a_KINDS)
 c_FEWEST:mg "FEWEST"=some (.int 4 tk_FEWEST)
 r_FEWEST:RelV (.int 4) (.int 4 tk_FEWEST)
 e_FEWEST:∀ H,Den K H mo (.int 4)
 c_MOST:mg "MOST"=some (.int 8 tk_MOST)
 r_MOST:RelV (.int 8) (.int 8 tk_MOST)
 e_MOST:∀ H,Den K H je (.int 8)
 z_isinstance:mg "isinstance"=none
 z_str:mg "str"=none
 z_len:mg "len"=none
 z_list:mg "list"=none
 z_range:mg "range"=none
 z_tuple:mg "tuple"=none
 z_sorted:mg "sorted"=none
 z_bool:mg "bool"=none
 z_int:mg "int"=none
 z_enumerate:mg "enumerate"=none
section
variable {P:Program} {w:World} {K:PySem.W.Frag} {mg:Str→Option Value} {base:Heap} {f1 f2 f3 f4 f5 f6 f7 f8 f9 f10 f11 f12 f13 f14 f15 f16 f17 f18 f19 f20 f21 f22 f23 f24 f25 f26 f27 f28 f29 f30 f31 f32 f33 f34 f35 f36 f37:Addr} {d1 d2 d3 d4 d5 d6 d7 d8 d9 d10 d11 d12 d13 d14 d15 d16 d17 d18 d19 d20 d21 d22 d23 d24 d25 d26 d27 d28 d29 d30 d31 d32 d33 d34 d35 d36 d37:FuncData} {a_KINDS:Addr} {tk_FEWEST:Tok} {tk_MOST:Tok}
variable (T:Txt w K mg f1 f2 f3 f4 f5 f6 f7 f8 f9 f10 f11 f12 f13 f14 f15 f16 f17 f18 f19 f20 f21 f22 f23 f24 f25 f26 f27 f28 f29 f30 f31 f32 f33 f34 f35 f36 f37 d1 d2 d3 d4 d5 d6 d7 d8 d9 d10 d11 d12 d13 d14 d15 d16 d17 d18 d19 d20 d21 d22 d23 d24 d25 d26 d27 d28 d29 d30 d31 d32 d33 d34 d35 d36 d37 a_KINDS tk_FEWEST tk_MOST)
include T
theorem eY:FnOk P w K mg base CX0 1 f1 d1 gb (spD K mg bF):=by
 exact T.D_kind_of.F.okD (φ:=i9) (O':=[]) qP (fun cdv A outer s H E hr=>(al (bn (aH oIs pIs (af 0) g7 (aC _)) (ar (ax cc)) aO) (ar (ax (sK (aQ K (aL (qIsiD K) (pIsi K) T.z_isinstance aP (aa (af 0) (aa (rT T.z_str nU) ah)))) cc cc)))))
theorem q0:FnOk P w K mg base CX0 2 f2 d2 gn (spD K mg iP):=by
 exact T.D_compare.F.okD (φ:=jc) (O':=[]) qF (fun cdv A outer s H E hr=>(al (bn (aH (oNeD K hr.units) (pNe K) (az T.D_kind_of (eY T) hr (aa (af 0) ah)) (az T.D_kind_of (eY T) hr (aa (af 1) ah)) (aC _)) (ar (ax (sK (aH oLt pLt (my T.c_KINDS T.e_KINDS T.o_KINDS (aa (az T.D_kind_of (eY T) hr (aa (af 0) ah)) ah)) (my T.c_KINDS T.e_KINDS T.o_KINDS (aa (az T.D_kind_of (eY T) hr (aa (af 1) ah)) ah)) (aC _)) (zT oNeg pNeg ak) ak))) aO) (al (bn (aH (oEqD K hr.units) (pEq K) (af 0) (af 1) (aC _)) (ar (ax ak)) aO) (ar (ax (sK (aH oLt pLt (af 0) (af 1) (aC _)) (zT oNeg pNeg ak) ak))))))
theorem nq:FnOk P w K mg base CX0 2 f3 d3 dG (spD K mg fF):=by
 exact T.D_order_key.F.okD (φ:=fD) (O':=[]) nR (fun cdv A outer s H E hr=>(al (bn (aH oIs pIs (af 0) g7 (aC _)) (ar (ax (cF (aa ak (aa ak ah))))) aO) (ar (ax (cF (aa (my T.c_KINDS T.e_KINDS T.o_KINDS (aa (az T.D_kind_of (eY T) hr (aa (af 0) ah)) ah)) (aa (af 0) ah)))))))
theorem g8:FnOk P w K mg base CX0 3 f4 d4 bS (spD K mg aW):=by
 exact T.D_comes_ahead.F.okD (φ:=c9) (O':=[]) hG (fun cdv A outer s H E hr=>(al (aM (i:=2) (by decide) hG.nd (Or.inl rfl) (az T.D_compare (q0 T) hr (aa (a7 (oIx K) (pIx K) (af 0) ak) (aa (a7 (oIx K) (pIx K) (af 1) ak) ah)))) (ar (ax (AD (mv oLt pLt (af 2) ak (aC _)) (ph (vg (mv (oEqD K hr.units) (pEq K) (af 2) ak (aC _)) (ph (mv oLt pLt (a7 (oIx K) (pIx K) (af 0) ak) (a7 (oIx K) (pIx K) (af 1) ak) (aC _))))))))))
theorem lF:FnOk P w K mg base CX0 1 f5 d5 cw (spD K mg cZ):=by
 exact T.D_empty_index.F.okD (φ:=c7) (O':=[]) lC (fun cdv A outer s H E hr=>(ar (ax (cF (aa cc (aa (cF ah) ah))))))
theorem jN:FnOk P w K mg base CX0 1 f6 d6 dD (spD K mg dH):=by
 exact T.D_things_in.F.okD (φ:=fO) (O':=[]) gi (fun cdv A outer s H E hr=>(al (ge (i:=1) (by decide) gi.nd (Or.inl rfl) (ck ah)) (al (fQ PassesOwn.never (eu K (af 0)) (bu (i:=2) (by decide) gi.nd rfl (Or.inl rfl)) (ar (rV (i:=1) (by decide) (a7 (oIx K) (pIx K) (af 2) ak)))) (ku (O:=[1]) (O2:=[]) (ar (ax (af 1)))))))
theorem dc:FnOk P w K mg base CX0 2 f7 d7 cS (spD K mg bB):=by
 exact T.D_entries_of.F.okD (φ:=eD) (O':=[]) fz (fun cdv A outer s H E hr=>(al (aM (i:=1) (by decide) fz.nd (Or.inl rfl) (cp (ck (aa (af 0) ah)))) (al (j7 1000 PassesOwn.never (aH (oEqD K hr.units) (pEq K) (a7 (oIx K) (pIx K) (a7 (oIx K) (pIx K) (af 1) ak) ak) cc (aC _)) (ar (mF (by decide) (ml (i:=1) fz.nd (Or.inl rfl) (Wb:=⟨K,mg,E0⟩) (osc:=ap eL) (ON:=gm) (N:=["part"]) (ix:=[none]) (by decide +kernel) (eu K (az T.D_things_in (jN T) hr (aa (af 1) ah))) (fun _=>(bu (i:=0) (by decide) (by decide +kernel:(["part"]:List Str).Nodup) rfl (Or.inl rfl))) (fun _=>mM) (fun _=>(a7 (oIx K) (pIx K) (af 0) ak)) (de (by decide)))))) (ar (ax (az T.D_things_in (jN T) hr (aa (af 1) ah)))))))
theorem rO:FnOk P w K mg base CX0 3 f8 d8 gq (spD K mg eX):=by
 exact T.D_many_in.F.okD (φ:=jb) (O':=[]) qz (fun cdv A outer s H E hr=>(ar (ax (aL (qLen K) (pLen K) T.z_len bD (aa (az T.D_entries_of (dc T) hr (aa (af 0) ah)) ah)))))
theorem fL:FnOk P w K mg base CX0 4 f9 d9 bR (spD K mg bp):=by
 exact T.D_part_place.F.okD (φ:=eF) (O':=[]) fP (fun cdv A outer s H E hr=>(al (aM (i:=2) (by decide) fP.nd (Or.inl rfl) ak) (al (j7 1000 PassesOwn.never (bH (lL (aH oLt pLt (aY (bZ K) (pAdd K) (af 2) ak) (aL (qLen K) (pLen K) T.z_len bD (aa (af 0) ah)) (aC _)) (jG (cY (aQ K (az T.D_comes_ahead (g8 T) hr (aa (af 1) (aa (a7 (oIx K) (pIx K) (a7 (oIx K) (pIx K) (af 0) (aY (bZ K) (pAdd K) (af 2) ak)) ak) ah)))))))) (ar (rY (i:=2) (by decide) fP.nd (Or.inl rfl) ak))) (ar (ax (af 2))))))
theorem jQ:FnOk P w K mg base CX0 5 f10 d10 dq (spD K mg cA):=by
 exact T.D_has_entry.F.okD (φ:=fv) (O':=[]) cL (fun cdv A outer s H E hr=>(al (aM (i:=3) (by decide) cL.nd (Or.inl rfl) (cF (aa (af 1) (aa (af 2) ah)))) (al (aM (i:=4) (by decide) cL.nd (Or.inl rfl) (af 0)) (al (j7 1000 PassesOwn.never (aH (oEqD K hr.units) (pEq K) (a7 (oIx K) (pIx K) (af 4) ak) cc (aC _)) (al (aM (i:=5) (by decide) cL.nd (Or.inl rfl) (a7 (oIx K) (pIx K) (af 4) ak)) (ar (aM (i:=4) (by decide) cL.nd (Or.inl rfl) (a7 (oIx K) (pIx K) (a7 (oIx K) (pIx K) (af 5) (az T.D_part_place (fL T) hr (aa (af 5) (aa (af 3) ah)))) ak))))) (ar (ax (mv (oInQ K hr.units) (pInQ K) (af 3) (a7 (oIx K) (pIx K) (af 4) ak) (by with_unfolding_all rfl))))))))
theorem o7:FnOk P w K mg base CX0 1 f11 d11 eZ (spD K mg gR):=by
 exact T.D_first_of.F.okD (φ:=gY) (O':=[]) pE (fun cdv A outer s H E hr=>(ar (ax (sK (aH (oEqD K hr.units) (pEq K) (a7 (oIx K) (pIx K) (af 0) ak) cc (aC _)) (a7 (oIx K) (pIx K) (a7 (oIx K) (pIx K) (af 0) ak) ak) (a7 (oIx K) (pIx K) (a7 (oIx K) (pIx K) (a7 (oIx K) (pIx K) (af 0) ak) ak) ak)))))
theorem ft:FnOk P w K mg base CX0 1 f12 d12 dg (spD K mg aV):=by
 exact T.D_cells_of.F.okD (φ:=df) (O':=[]) cz (fun cdv A outer s H E hr=>(al (aM (i:=2) (by decide) cz.nd (Or.inl rfl) (aY oDiv pDiv (aY oSub pSub (aY (bZ K) (pAdd K) (aL (qLen K) (pLen K) T.z_len bD (aa (af 1) ah)) (tR T.c_MOST T.r_MOST T.e_MOST)) ak) (tR T.c_MOST T.r_MOST T.e_MOST))) (al (ge (i:=3) (by decide) cz.nd (Or.inl rfl) (ck ah)) (al (fQ PassesOwn.never (fk T.z_range (aa (af 2) ah)) (bu (i:=4) (by decide) cz.nd rfl (Or.inl rfl)) (al (aM (i:=5) (by decide) cz.nd (Or.inl rfl) (aY oDiv pDiv (aY oMulD pMul (af 4) (aL (qLen K) (pLen K) T.z_len bD (aa (af 1) ah))) (af 2))) (al (aM (i:=6) (by decide) cz.nd (Or.inl rfl) (aY oDiv pDiv (aY oMulD pMul (aY (bZ K) (pAdd K) (af 4) ak) (aL (qLen K) (pLen K) T.z_len bD (aa (af 1) ah))) (af 2))) (ar (dE (i:=3) (by decide) (cF (aa (af 0) (aa (kI (qTupOf K) (pTup K) T.z_tuple eJ (aa (cW (oSlW K) (pSlW K) (af 1) (cD (af 5)) (cD (af 6))) ah)) ah)))))))) (ku (O:=[3]) (O2:=[]) (ar (ax (af 3))))))))
theorem fm:FnOk P w K mg base CX0 2 f13 d13 cG (spD K mg bG):=by
 exact T.D_parts_of.F.okD (φ:=gP) (O':=[]) oV (fun cdv A outer s H E hr=>(ar (ax (cp (n6 (Wb:=⟨K,mg,E0⟩) (osc:=ap gT) (ON:=jD) (N:=["cell"]) (ix:=[none]) (by decide +kernel) (eu K (af 0)) (fun _=>(bu (i:=0) (by decide) (by decide +kernel:(["cell"]:List Str).Nodup) rfl (Or.inl rfl))) (fun _=>mM) (fun _=>(cF (aa (az T.D_first_of (o7 T) hr (aa (af 0) ah)) (aa (af 0) ah)))) (de (by decide)))))))
theorem nA:FnOk P w K mg base CX0 3 f14 d14 jm (spD K mg gK):=by
 exact T.D_rooted.F.okD (φ:=ja) (O':=[]) kQ (fun cdv A outer s H E hr=>(al (aM (i:=1) (by decide) kQ.nd (Or.inl rfl) (af 0)) (al (j7 1000 PassesOwn.never (aH oGt pGt (aL (qLen K) (pLen K) T.z_len bD (aa (af 1) ah)) ak (aC _)) (ar (aM (i:=1) (by decide) kQ.nd (Or.inl rfl) (az T.D_cells_of (ft T) hr (aa cc (aa (az T.D_parts_of (fm T) hr (aa (af 1) ah)) ah)))))) (ar (ax (a7 (oIx K) (pIx K) (af 1) ak))))))
theorem iX:∀ n:Nat,FnOk P w K mg base CX0 (5+n) f15 d15 bK (spD K mg (bA n))
 | 0=>FnOk.void
 | n+1=>by
  have ih:=iX n
  have G_cells_with:FnOk P w K mg base CX0 (5+n) f15 d15 bK (spD K mg (bA n)):=ih
  have G_comes_ahead:FnOk P w K mg base CX0 3 f4 d4 bS (spD K mg aW):=g8 T
  have G_cells_of:FnOk P w K mg base CX0 1 f12 d12 dg (spD K mg aV):=ft T
  have G_part_place:FnOk P w K mg base CX0 4 f9 d9 bR (spD K mg bp):=fL T
  have G_parts_of:FnOk P w K mg base CX0 2 f13 d13 cG (spD K mg bG):=fm T
  exact T.D_cells_with.F.okD (k:=5+n) (φ:=cM ((bA n))) (O':=[]) bT (fun cdv A outer s H E hr=>(al (bn (aH (oEqD K hr.units) (pEq K) (a7 (oIx K) (pIx K) (af 0) ak) cc (aC _)) (al (mF (by decide) (ml (i:=2) bT.nd (Or.inl rfl) (Wb:=⟨K,mg,E0⟩) (osc:=ap cR) (ON:=eG) (N:=["other","entry"]) (ix:=[none,some 1]) (by decide +kernel) (eu K (a7 (oIx K) (pIx K) (af 0) ak)) (fun _=>(bu (i:=0) (by decide) (by decide +kernel:(["other","entry"]:List Str).Nodup) rfl (Or.inl rfl))) (fun _=>(kZ (aQ K (az T.D_comes_ahead G_comes_ahead hr (aa (af 0) (aa (af 1) ah)) (hj:=by omega))))) (fun _=>(af 0)) (de (by decide)))) (al (mF (by decide) (ml (i:=3) bT.nd (Or.inl rfl) (Wb:=⟨K,mg,E0⟩) (osc:=ap cR) (ON:=eG) (N:=["other","entry"]) (ix:=[none,some 1]) (by decide +kernel) (eu K (a7 (oIx K) (pIx K) (af 0) ak)) (fun _=>(bu (i:=0) (by decide) (by decide +kernel:(["other","entry"]:List Str).Nodup) rfl (Or.inl rfl))) (fun _=>(kZ (aQ K (az T.D_comes_ahead G_comes_ahead hr (aa (af 1) (aa (af 0) ah)) (hj:=by omega))))) (fun _=>(af 0)) (de (by decide)))) (ar (ax (az T.D_cells_of G_cells_of hr (aa cc (aa (aY (bZ K) (pAdd K) (aY (bZ K) (pAdd K) (af 2) (cp (ck (aa (af 1) ah)))) (af 3)) ah)) (hj:=by omega)))))) aO) (al (aM (i:=4) (by decide) bT.nd (Or.inl rfl) (cp (mH (qLstOf K) (pLst K) T.z_list kE (aa (a7 (oIx K) (pIx K) (af 0) ak) ah)))) (al (aM (i:=5) (by decide) bT.nd (Or.inl rfl) (az T.D_part_place G_part_place hr (aa (af 4) (aa (af 1) ah)) (hj:=by omega))) (al (aM (i:=6) (by decide) bT.nd (Or.inl rfl) (az T.D_cells_with G_cells_with hr (aa (a7 (oIx K) (pIx K) (a7 (oIx K) (pIx K) (af 4) (af 5)) ak) (aa (af 1) ah)) (hj:=by omega))) (ar (ax (az T.D_cells_of G_cells_of hr (aa cc (aa (aY (bZ K) (pAdd K) (aY (bZ K) (pAdd K) (cW (oSl K) (pSl K) (af 4) dU (cD (af 5))) (az T.D_parts_of G_parts_of hr (aa (af 6) ah) (hj:=by omega))) (cW (oSl K) (pSl K) (af 4) (cD (aY (bZ K) (pAdd K) (af 5) ak)) dU)) ah)) (hj:=by omega)))))))))
theorem mV:FnOk P w K mg base CX0 15 f15 d15 bK (spD K mg eI):=(iX T 10)
theorem mO:FnOk P w K mg base CX0 16 f16 d16 cV (spD K mg cj):=by
 exact T.D_with_entry.F.okD (φ:=cO) (O':=[]) mN (fun cdv A outer s H E hr=>(al (bn (aQ K (az T.D_has_entry (jQ T) hr (aa (af 0) (aa (af 1) (aa (af 2) ah))))) (ar (ax (af 0))) aO) (ar (ax (az T.D_rooted (nA T) hr (aa (az T.D_cells_with (mV T) hr (aa (af 0) (aa (cF (aa (af 1) (aa (af 2) ah))) ah))) ah))))))
theorem sP:FnOk P w K mg base CX0 3 f17 d17 gJ (spD K mg iW):=by
 exact T.D_mended.F.okD (φ:=jZ) (O':=[]) fh (fun cdv A outer s H E hr=>(al (bn (aH (oEqD K hr.units) (pEq K) (af 1) ak (aC _)) (al (aM (i:=3) (by decide) fh.nd (Or.inl rfl) ak) (ar (aM (i:=4) (by decide) fh.nd (Or.inl rfl) (aY (bZ K) (pAdd K) (a7 (oIx K) (pIx K) (af 2) ak) (a7 (oIx K) (pIx K) (a7 (oIx K) (pIx K) (a7 (oIx K) (pIx K) (af 0) ak) ak) ak))))) (al (aM (i:=3) (by decide) fh.nd (Or.inl rfl) (aY oSub pSub (af 1) ak)) (ar (aM (i:=4) (by decide) fh.nd (Or.inl rfl) (aY (bZ K) (pAdd K) (a7 (oIx K) (pIx K) (a7 (oIx K) (pIx K) (a7 (oIx K) (pIx K) (af 0) (af 3)) ak) ak) (a7 (oIx K) (pIx K) (af 2) ak)))))) (al (aM (i:=5) (by decide) fh.nd (Or.inl rfl) (az T.D_cells_of (ft T) hr (aa (a7 (oIx K) (pIx K) (af 2) ak) (aa (af 4) ah)))) (ar (ax (cF (aa cc (aa (kI (qTupOf K) (pTup K) T.z_tuple eJ (aa (aY (bZ K) (pAdd K) (aY (bZ K) (pAdd K) (cW (oSl K) (pSl K) (af 0) dU (cD (af 3))) (az T.D_parts_of (fm T) hr (aa (af 5) ah))) (cW (oSl K) (pSl K) (af 0) (cD (aY (bZ K) (pAdd K) (af 3) ak)) dU)) ah)) ah))))))))
theorem gz:∀ n:Nat,FnOk P w K mg base CX0 (5+n) f18 d18 bt (spD K mg (ba n))
 | 0=>FnOk.void
 | n+1=>by
  have ih:=gz n
  have G_cell_without:FnOk P w K mg base CX0 (5+n) f18 d18 bt (spD K mg (ba n)):=ih
  have G_part_place:FnOk P w K mg base CX0 4 f9 d9 bR (spD K mg bp):=fL T
  have G_parts_of:FnOk P w K mg base CX0 2 f13 d13 cG (spD K mg bG):=fm T
  have G_mended:FnOk P w K mg base CX0 3 f17 d17 gJ (spD K mg iW):=sP T
  exact T.D_cell_without.F.okD (k:=5+n) (φ:=ca ((ba n))) (O':=[]) cu (fun cdv A outer s H E hr=>(al (bn (aH (oEqD K hr.units) (pEq K) (a7 (oIx K) (pIx K) (af 0) ak) cc (aC _)) (ar (ax (cF (aa cc (aa (kI (qTupOf K) (pTup K) T.z_tuple eJ (aa (cp (n6 (Wb:=⟨K,mg,E0⟩) (osc:=ap cH) (ON:=eN) (N:=["other","entry"]) (ix:=[none,some 1]) (by decide +kernel) (eu K (a7 (oIx K) (pIx K) (af 0) ak)) (fun _=>(bu (i:=0) (by decide) (by decide +kernel:(["other","entry"]:List Str).Nodup) rfl (Or.inl rfl))) (fun _=>(kZ (aH (oNeD K hr.units) (pNe K) (af 0) (af 1) (aC _)))) (fun _=>(af 0)) (de (by decide)))) ah)) ah))))) aO) (al (aM (i:=2) (by decide) cu.nd (Or.inl rfl) (cp (mH (qLstOf K) (pLst K) T.z_list kE (aa (a7 (oIx K) (pIx K) (af 0) ak) ah)))) (al (aM (i:=3) (by decide) cu.nd (Or.inl rfl) (az T.D_part_place G_part_place hr (aa (af 2) (aa (af 1) ah)) (hj:=by omega))) (al (aM (i:=4) (by decide) cu.nd (Or.inl rfl) (az T.D_cell_without G_cell_without hr (aa (a7 (oIx K) (pIx K) (a7 (oIx K) (pIx K) (af 2) (af 3)) ak) (aa (af 1) ah)) (hj:=by omega))) (al (bn (aH oGe pGe (aL (qLen K) (pLen K) T.z_len bD (aa (a7 (oIx K) (pIx K) (af 4) ak) ah)) (tR T.c_FEWEST T.r_FEWEST T.e_FEWEST) (aC _)) (ar (ax (cF (aa cc (aa (kI (qTupOf K) (pTup K) T.z_tuple eJ (aa (aY (bZ K) (pAdd K) (aY (bZ K) (pAdd K) (cW (oSl K) (pSl K) (af 2) dU (cD (af 3))) (az T.D_parts_of G_parts_of hr (aa (cp (ck (aa (af 4) ah))) ah) (hj:=by omega))) (cW (oSl K) (pSl K) (af 2) (cD (aY (bZ K) (pAdd K) (af 3) ak)) dU)) ah)) ah))))) aO) (ar (ax (az T.D_mended G_mended hr (aa (af 2) (aa (af 3) (aa (af 4) ah))) (hj:=by omega))))))))))
theorem kH:FnOk P w K mg base CX0 15 f18 d18 bt (spD K mg cb):=(gz T 10)
theorem fR:FnOk P w K mg base CX0 16 f19 d19 bO (spD K mg bj):=by
 exact T.D_without_entry.F.okD (φ:=bM) (O':=[]) fS (fun cdv A outer s H E hr=>(al (bn (cY (aQ K (az T.D_has_entry (jQ T) hr (aa (af 0) (aa (af 1) (aa (af 2) ah)))))) (ar (ax (af 0))) aO) (al (aM (i:=3) (by decide) fS.nd (Or.inl rfl) (az T.D_cell_without (kH T) hr (aa (af 0) (aa (cF (aa (af 1) (aa (af 2) ah))) ah)))) (al (bn (bH (lL (aH (oEqD K hr.units) (pEq K) (a7 (oIx K) (pIx K) (af 3) ak) cc (aC _)) (jG (aH (oEqD K hr.units) (pEq K) (aL (qLen K) (pLen K) T.z_len bD (aa (a7 (oIx K) (pIx K) (af 3) ak) ah)) ak (aC _))))) (ar (ax (a7 (oIx K) (pIx K) (a7 (oIx K) (pIx K) (a7 (oIx K) (pIx K) (af 3) ak) ak) ak))) aO) (ar (ax (af 3)))))))
theorem nN:FnOk P w K mg base CX0 3 f20 d20 dt (spD K mg bL):=by
 exact T.D_entry_key.F.okD (φ:=fM) (O':=[]) ni (fun cdv A outer s H E hr=>(ar (ax (cF (aa (az T.D_order_key (nq T) hr (aa (a7 (oIx K) (pIx K) (af 0) ak) ah)) (aa (a7 (oIx K) (pIx K) (af 0) ak) ah))))))
theorem i8:FnOk P w K mg base CX0 5 f21 d21 cN (spD K mg cP):=by
 exact T.D_index_from.F.okD (φ:=dY) (O':=[]) fG (fun cdv A outer s H E hr=>(al (ge (i:=1) (by decide) fG.nd (Or.inl rfl) (ck ah)) (al (fQ PassesOwn.never (eu K (cp (oj kfN T.D_entry_key (nN T) hr T.z_sorted (af 0)))) (bu (i:=2) (by decide) fG.nd rfl (Or.inl rfl)) (ar (bn (bH (gZ (m6 K (fun k=>k) (i:=1) (by decide) (oEqD K hr.units) (cp (ck ah)) (aC _)) (fT (aH (oNeD K hr.units) (pNe K) (dC K (i:=1) (by decide) (zT oNeg pNeg ak)) (af 2) (aC _))))) (ar (dE (i:=1) (by decide) (af 2))) aO))) (al (bn (m6 K (fun k=>k) (i:=1) (by decide) (oEqD K hr.units) (cp (ck ah)) (aC _)) (ar (ax (xa T.D_empty_index (lF T) hr))) aO) (ku (O:=[1]) (O2:=[]) (ar (ax (az T.D_rooted (nA T) hr (aa (az T.D_cells_of (ft T) hr (aa cc (aa (af 1) ah))) ah)))))))))
theorem gr:FnOk P w K mg base CX0 1 f22 d22 dM (spD K mg bN):=by
 exact T.D_l_cell_at.F.okD (φ:=fN) (O':=[]) nH (fun cdv A outer s H E hr=>(al (bn (aH oLt pLt (af 1) (aL (qLen K) (pLen K) T.z_len bD (aa (af 0) ah)) (aC _)) (ar (ax (a7 (oIx K) (pIx K) (af 0) (af 1)))) aO) (ar (ax ak))))
theorem lP:FnOk P w K mg base CX0 1 f23 d23 fW (spD K mg dj):=by
 exact T.D_l_whole.F.okD (φ:=iL) (O':=[]) qD (fun cdv A outer s H E hr=>(ar (ax (vg (aL (qIsiD K) (pIsi K) T.z_isinstance aP (aa (af 0) (aa (rT T.z_int wc) ah))) (ph (Ao (aL (qIsiD K) (pIsi K) T.z_isinstance aP (aa (af 0) (aa (rT T.z_bool xH) ah)))))))))
theorem oE:FnOk P w K mg base CX0 1 f24 d24 e9 (spD K mg gN):=by
 exact T.D_l_stream.F.okD (φ:=gO) (O':=[]) dF (fun cdv A outer s H E hr=>(al (ge (i:=2) (by decide) dF.nd (Or.inl rfl) (ck ah)) (al (aM (i:=3) (by decide) dF.nd (Or.inl rfl) (aY oMod pMod (af 0) ak)) (al (fQ PassesOwn.never (fk T.z_range (aa (af 1) ah)) (bu (i:=4) (by decide) dF.nd rfl (Or.inl rfl)) (al (aM (i:=3) (by decide) dF.nd (Or.inl rfl) (aY oMod pMod (aY (bZ K) (pAdd K) (aY (bZ K) (pAdd K) (aY oMulD pMul (af 3) ak) ak) (af 4)) ak)) (ar (dE (i:=2) (by decide) (af 3))))) (ku (O:=[2]) (O2:=[]) (ar (ax (af 2))))))))
theorem qA:FnOk P w K mg base CX0 1 f25 d25 gk (spD K mg jg):=by
 exact T.D_l_value.F.okD (φ:=ji) (O':=[]) gW (fun cdv A outer s H E hr=>(al (aM (i:=1) (by decide) gW.nd (Or.inr rfl) cc) (al (aM (i:=1) (by decide) gW.nd (Or.inr rfl) (aY (bZ K) (pAdd K) (af 1) cc)) (al (aM (i:=2) (by decide) gW.nd (Or.inl rfl) (aY oMod pMod (af 0) ak)) (al (bn (aH (oEqD K hr.units) (pEq K) (af 2) ak (aC _)) (ar (ax g7)) aO) (al (bn (aH oLt pLt (af 2) ak (aC _)) (ar (ax (aY oSub pSub (aY oMod pMod (aY oDiv pDiv (af 0) ak) ak) ak))) aO) (al (bn (aH (oEqD K hr.units) (pEq K) (af 2) ak (aC _)) (ar (ax (a7 (oIx K) (pIx K) (cp (ck (aa (aY oSub pSub (aY oPow pPow ak ak) ak) (aa (aY oSub pSub ak (aY oPow pPow ak ak)) (aa (aY oPow pPow ak ak) (aa (zT oNeg pNeg ak) ah)))))) (aY oMod pMod (aY oDiv pDiv (af 0) ak) ak)))) aO) (al (bn (aH (oEqD K hr.units) (pEq K) (af 2) ak (aC _)) (ar (ax (aY oSub pSub (aY oMod pMod (aY oMulD pMul (aY oMulD pMul (af 0) (af 0)) ak) (aY oSub pSub (aY oMulD pMul ak (aY oPow pPow ak ak)) ak)) (aY oSub pSub (aY oPow pPow ak ak) ak)))) aO) (al (bn (aH (oEqD K hr.units) (pEq K) (af 2) ak (aC _)) (ar (ax (a7 (oIx K) (pIx K) (cp (ck (aa cc (aa cc (aa cc (aa cc (aa cc (aa cc (aa cc (aa cc ah)))))))))) (aY oMod pMod (aY oDiv pDiv (af 0) ak) ak)))) aO) (ar (ax (d_sm PySem.F.slot_str_join PySem.F.type_str_join (wP K) (pJoin K) cc (aa (cp (n6 (Wb:=⟨K,mg,E0⟩) (osc:=ap jf) (ON:=kT) (N:=["_law_k","_law_some","_law_x"]) (ix:=[none,some 1,some 0]) (by decide +kernel) (fk T.z_range (aa (aY oMod pMod (aY oDiv pDiv (af 0) ak) ak) ah)) (fun _=>(bu (i:=0) (by decide) (by decide +kernel:(["_law_k","_law_some","_law_x"]:List Str).Nodup) rfl (Or.inl rfl))) (fun _=>mM) (fun _=>(a7 (oIx K) (pIx K) (af 1) (aY oMod pMod (aY (bZ K) (pAdd K) (aY oDiv pDiv (aY oDiv pDiv (af 2) ak) (aY (bZ K) (pAdd K) (af 0) ak)) (af 0)) ak))) (de (by decide)))) ah)))))))))))))
theorem vq:FnOk P w K mg base CX0 1 f26 d26 lj (spD K mg iw):=by
 exact T.D_l_key.F.okD (φ:=mL) (O':=[]) uW (fun cdv A outer s H E hr=>(al (bn (aH oIs pIs (a7 (oIx K) (pIx K) (af 0) ak) g7 (aC _)) (ar (ax (cF (aa ak (aa ak (aa cc (aa (a7 (oIx K) (pIx K) (af 0) ak) ah))))))) aO) (al (bn (aQ K (aL (qIsiD K) (pIsi K) T.z_isinstance aP (aa (a7 (oIx K) (pIx K) (af 0) ak) (aa (rT T.z_str nU) ah)))) (ar (ax (cF (aa ak (aa ak (aa (a7 (oIx K) (pIx K) (af 0) ak) (aa (a7 (oIx K) (pIx K) (af 0) ak) ah))))))) aO) (ar (ax (cF (aa ak (aa (a7 (oIx K) (pIx K) (af 0) ak) (aa cc (aa (a7 (oIx K) (pIx K) (af 0) ak) ah))))))))))
theorem lS:FnOk P w K mg base CX0 2 f27 d27 gC (spD K mg cT):=by
 exact T.D_l_entry.F.okD (φ:=jh) (O':=[]) rj (fun cdv A outer s H E hr=>(ar (ax (cF (aa (az T.D_l_value (qA T) hr (aa (aY oDiv pDiv (af 0) ak) ah)) (aa (aY (bZ K) (pAdd K) ak (aY oMod pMod (aY oMod pMod (aY oMulD pMul (af 0) ak) ak) (a7 (oIx K) (pIx K) (cp (ck (aa ak (aa ak (aa (aY oPow pPow ak ak) ah))))) (aY oMod pMod (af 0) ak)))) ah))))))
theorem ow:FnOk P w K mg base CX0 3 f28 d28 iS (spD K mg jd):=by
 exact T.D_l_once.F.okD (φ:=ki) (O':=[]) nz (fun cdv A outer s H E hr=>(al (aM (i:=1) (by decide) nz.nd (Or.inr rfl) (cp (vB T.D_l_key (vq T) hr T.z_sorted (af 0)))) (ar (ax (cp (n6 (Wb:=⟨K,mg,E0⟩) (osc:=ap jX) (ON:=m5) (N:=["_law_k","_law_rows"]) (ix:=[none,some 1]) (by decide +kernel) (fk T.z_range (aa (aL (qLen K) (pLen K) T.z_len bD (aa (af 1) ah)) ah)) (fun _=>(bu (i:=0) (by decide) (by decide +kernel:(["_law_k","_law_rows"]:List Str).Nodup) rfl (Or.inl rfl))) (fun _=>(kZ (bH (gZ (aH (oEqD K hr.units) (pEq K) (af 0) ak (aC _)) (fT (aH (oNeD K hr.units) (pNe K) (a7 (oIx K) (pIx K) (af 1) (af 0)) (a7 (oIx K) (pIx K) (af 1) (aY oSub pSub (af 0) ak)) (aC _))))))) (fun _=>(a7 (oIx K) (pIx K) (af 1) (af 0))) (de (by decide))))))))
theorem kB:FnOk P w K mg base CX0 2 f29 d29 gX (spD K mg c8):=by
 exact T.D_l_same.F.okD (φ:=j3) (O':=[]) sQ (fun cdv A outer s H E hr=>(al (bn (bH (gZ (cY (aQ K (aL (qIsiD K) (pIsi K) T.z_isinstance aP (aa (af 0) (aa (rT T.z_tuple eJ) ah))))) (gZ (aH (oNeD K hr.units) (pNe K) (aL (qLen K) (pLen K) T.z_len bD (aa (af 0) ah)) ak (aC _)) (gZ (cY (aQ K (az T.D_l_whole (lP T) hr (aa (a7 (oIx K) (pIx K) (af 0) ak) ah)))) (fT (aH (oNeD K hr.units) (pNe K) (a7 (oIx K) (pIx K) (af 0) ak) (a7 (oIx K) (pIx K) (af 1) ak) (aC _))))))) (ar (ax ql)) aO) (al (bn (bH (gZ (aH oIs pIs (a7 (oIx K) (pIx K) (af 1) ak) g7 (aC _)) (fT (aH oIs pIs (a7 (oIx K) (pIx K) (af 0) ak) g7 (aC _))))) (ar (ax (vg (mv oIs pIs (a7 (oIx K) (pIx K) (af 0) ak) g7 (aC _)) (ph (mv oIs pIs (a7 (oIx K) (pIx K) (af 1) ak) g7 (aC _)))))) aO) (al (bn (aH (oNeD K hr.units) (pNe K) (aL (qIsiD K) (pIsi K) T.z_isinstance aP (aa (a7 (oIx K) (pIx K) (af 0) ak) (aa (rT T.z_str nU) ah))) (aL (qIsiD K) (pIsi K) T.z_isinstance aP (aa (a7 (oIx K) (pIx K) (af 1) ak) (aa (rT T.z_str nU) ah))) (aC _)) (ar (ax ql)) aO) (ar (ax (vg (mv (oEqD K hr.units) (pEq K) (a7 (oIx K) (pIx K) (af 0) ak) (a7 (oIx K) (pIx K) (af 1) ak) (aC _)) (ph (AD (aL (qIsiD K) (pIsi K) T.z_isinstance aP (aa (a7 (oIx K) (pIx K) (af 0) ak) (aa (rT T.z_str nU) ah))) (ph (az T.D_l_whole (lP T) hr (aa (a7 (oIx K) (pIx K) (af 0) ak) ah))))))))))))
theorem ff:FnOk P w K mg base CX0 3 f30 d30 gA (spD K mg b6):=by
 exact T.D_l_alike.F.okD (φ:=jl) (O':=[]) lJ (fun cdv A outer s H E hr=>(al (bn (bH (gZ (cY (aQ K (aL (qIsiD K) (pIsi K) T.z_isinstance aP (aa (af 0) (aa (rT T.z_list kE) ah))))) (fT (aH (oNeD K hr.units) (pNe K) (aL (qLen K) (pLen K) T.z_len bD (aa (af 0) ah)) (aL (qLen K) (pLen K) T.z_len bD (aa (af 1) ah)) (aC _))))) (ar (ax ql)) aO) (al (fQ PassesOwn.never (fk T.z_range (aa (aL (qLen K) (pLen K) T.z_len bD (aa (af 1) ah)) ah)) (bu (i:=2) (by decide) lJ.nd rfl (Or.inl rfl)) (ar (bn (cY (aQ K (az T.D_l_same (kB T) hr (aa (a7 (oIx K) (pIx K) (af 0) (af 2)) (aa (a7 (oIx K) (pIx K) (af 1) (af 2)) ah))))) (ar (ax ql)) aO))) (ar (ax ql)))))
theorem lG:∀ n:Nat,FnOk P w K mg base CX0 (3+n) f31 d31 dr (spD K mg (cx n))
 | 0=>FnOk.void
 | n+1=>by
  have ih:=lG n
  have G_l_cells:FnOk P w K mg base CX0 (3+n) f31 d31 dr (spD K mg (cx n)):=ih
  have G_l_same:FnOk P w K mg base CX0 2 f29 d29 gX (spD K mg c8):=kB T
  exact T.D_l_cells.F.okD (k:=3+n) (φ:=gH ((cx n))) (O':=[]) cC (fun cdv A outer s H E hr=>(al (bn (bH (gZ (cY (aQ K (aL (qIsiD K) (pIsi K) T.z_isinstance aP (aa (af 0) (aa (rT T.z_tuple eJ) ah))))) (gZ (aH (oNeD K hr.units) (pNe K) (aL (qLen K) (pLen K) T.z_len bD (aa (af 0) ah)) ak (aC _)) (gZ (cY (aQ K (aL (qIsiD K) (pIsi K) T.z_isinstance aP (aa (a7 (oIx K) (pIx K) (af 0) ak) (aa (rT T.z_tuple eJ) ah))))) (fT (aH oGt pGt (aL (qLen K) (pLen K) T.z_len bD (aa (a7 (oIx K) (pIx K) (af 0) ak) ah)) ak (aC _))))))) (ar (ax g7)) aO) (al (bn (aH (oEqD K hr.units) (pEq K) (a7 (oIx K) (pIx K) (af 0) ak) cc (aC _)) (ar (ax (sK (bH (gZ (aQ K (af 1)) (fT (aH oGt pGt (aL (qLen K) (pLen K) T.z_len bD (aa (a7 (oIx K) (pIx K) (af 0) ak) ah)) ak (aC _))))) (cp (ck (aa (cF (aa ak (aa (cp (mH (qLstOf K) (pLst K) T.z_list kE (aa (a7 (oIx K) (pIx K) (af 0) ak) ah))) ah))) ah))) g7))) aO) (al (bn (bH (gZ (aH (oNeD K hr.units) (pNe K) (a7 (oIx K) (pIx K) (af 0) ak) cc (aC _)) (fT (aH oLt pLt (aL (qLen K) (pLen K) T.z_len bD (aa (a7 (oIx K) (pIx K) (af 0) ak) ah)) (a7 (oIx K) (pIx K) (cp (ck (aa ak (aa ak ah)))) (kI qInt pInt T.z_int wc (aa (af 1) ah))) (aC _))))) (ar (ax g7)) aO) (al (ge (i:=2) (by decide) cC.nd (Or.inl rfl) (ck ah)) (al (fQ PassesOwn.never (eu K (a7 (oIx K) (pIx K) (af 0) ak)) (bu (i:=3) (by decide) cC.nd rfl (Or.inl rfl)) (al (aM (i:=4) (by decide) cC.nd (Or.inl rfl) g7) (al (bn (bH (lL (aQ K (aL (qIsiD K) (pIsi K) T.z_isinstance aP (aa (af 3) (aa (rT T.z_tuple eJ) ah)))) (jG (aH (oEqD K hr.units) (pEq K) (aL (qLen K) (pLen K) T.z_len bD (aa (af 3) ah)) ak (aC _))))) (ar (aM (i:=4) (by decide) cC.nd (Or.inl rfl) (az T.D_l_cells G_l_cells hr (aa (a7 (oIx K) (pIx K) (af 3) ak) (aa ql ah)) (hj:=by omega)))) aO) (al (bn (bH (gZ (aH oIs pIs (af 4) g7 (aC _)) (fT (cY (aQ K (az T.D_l_same G_l_same hr (aa (a7 (oIx K) (pIx K) (af 3) ak) (aa (a7 (oIx K) (pIx K) (a7 (oIx K) (pIx K) (a7 (oIx K) (pIx K) (af 4) ak) ak) ak) ah)) (hj:=by omega))))))) (ar (ax g7)) aO) (ar (fQ PassesOwn.never (eu K (af 4)) (l0 K (ce (bu (i:=5) (by decide) cC.nd rfl (Or.inl rfl)) (ce (bu (i:=6) (by decide) cC.nd rfl (Or.inl rfl)) jA))) (al (bn (bH (lL (m6 K (fun k=>!k) (i:=2) (by decide) (oNeD K hr.units) (cp (ck ah)) (aC _)) (jG (aH (oNeD K hr.units) (pNe K) (a7 (oIx K) (pIx K) (dC K (i:=2) (by decide) ak) ak) (aY (bZ K) (pAdd K) (af 5) ak) (aC _))))) (ar (ax g7)) aO) (ar (dE (i:=2) (by decide) (cF (aa (aY (bZ K) (pAdd K) (af 5) ak) (aa (af 6) ah)))))))))))) (ku (O:=[2]) (O2:=[]) (ar (ax (af 2))))))))))
theorem qQ:FnOk P w K mg base CX0 13 f31 d31 dr (spD K mg iZ):=(lG T 10)
theorem qj:FnOk P w K mg base CX0 14 f32 d32 kP (spD K mg jH):=by
 exact T.D_l_has.F.okD (φ:=mT) (O':=[]) gM (fun cdv A outer s H E hr=>(al (aM (i:=2) (by decide) gM.nd (Or.inl rfl) (az T.D_l_cells (qQ T) hr (aa (af 0) (aa ql ah)))) (al (bn (aH oIs pIs (af 2) g7 (aC _)) (ar (ax ql)) aO) (al (aM (i:=3) (by decide) gM.nd (Or.inl rfl) (cp (ck ah))) (al (fQ PassesOwn.never (eu K (af 2)) (l0 K (ce (bu (i:=4) (by decide) gM.nd rfl (Or.inl rfl)) (ce (bu (i:=5) (by decide) gM.nd rfl (Or.inl rfl)) jA))) (ar (aM (i:=3) (by decide) gM.nd (Or.inl rfl) (aY (bZ K) (pAdd K) (af 3) (af 5))))) (ar (ax (az T.D_l_alike (ff T) hr (aa (af 3) (aa (af 1) ah))))))))))
theorem sF:FnOk P w K mg base CX0 3 f33 d33 i7 (spD K mg kh):=by
 exact T.D_l_list.F.okD (φ:=j6) (O':=[]) i5 (fun cdv A outer s H E hr=>(al (aM (i:=1) (by decide) i5.nd (Or.inl rfl) (aY oMod pMod (af 0) ak)) (al (bn (aH (oEqD K hr.units) (pEq K) (aY oMod pMod (aY oDiv pDiv (af 0) ak) ak) ak (aC _)) (ar (aM (i:=1) (by decide) i5.nd (Or.inl rfl) (aY (bZ K) (pAdd K) ak (aY oMod pMod (aY oDiv pDiv (af 0) ak) ak)))) aO) (al (mF (by decide) (ml (i:=2) i5.nd (Or.inl rfl) (Wb:=⟨K,mg,E0⟩) (osc:=ap kl) (ON:=mn) (N:=["_law_x"]) (ix:=[none]) (by decide +kernel) (eu K (az T.D_l_stream (oE T) hr (aa (af 0) (aa (af 1) ah)))) (fun _=>(bu (i:=0) (by decide) (by decide +kernel:(["_law_x"]:List Str).Nodup) rfl (Or.inl rfl))) (fun _=>mM) (fun _=>(az T.D_l_entry (lS T) hr (aa (af 0) ah))) (de (by decide)))) (ar (ax (aY (bZ K) (pAdd K) (af 2) (cW (oSl K) (pSl K) (af 2) dU (cD (aY oMod pMod (af 0) ak))))))))))
theorem oy:FnOk P w K mg base CX0 17 f34 d34 dl (spD K mg fB):=by
 exact T.D_l_thinned.F.okD (φ:=fK) (O':=[]) cK (fun cdv A outer s H E hr=>(al (fQ PassesOwn.never (fk T.z_range (aa (aY oSub pSub (aL (qLen K) (pLen K) T.z_len bD (aa (af 1) ah)) (aY oMod pMod (aY oDiv pDiv (af 2) ak) ak)) ah)) (bu (i:=3) (by decide) cK.nd rfl (Or.inl rfl)) (al (aM (i:=4) (by decide) cK.nd (Or.inl rfl) (a7 (oIx K) (pIx K) (cp (ck (aa ak (aa (aY oMulD pMul (aY oSub pSub (aL (qLen K) (pLen K) T.z_len bD (aa (af 1) ah)) ak) (aY oMod pMod (af 3) ak)) (aa (aY oDiv pDiv (aL (qLen K) (pLen K) T.z_len bD (aa (af 1) ah)) ak) ah))))) (aY oMod pMod (af 2) ak))) (al (aM (i:=0) (by decide) cK.nd (Or.inl rfl) (az T.D_without_entry (fR T) hr (aa (af 0) (aa (a7 (oIx K) (pIx K) (a7 (oIx K) (pIx K) (af 1) (af 4)) ak) (aa (a7 (oIx K) (pIx K) (a7 (oIx K) (pIx K) (af 1) (af 4)) ak) ah))))) (ar (aM (i:=1) (by decide) cK.nd (Or.inl rfl) (aY (bZ K) (pAdd K) (cW (oSl K) (pSl K) (af 1) dU (cD (af 4))) (cW (oSl K) (pSl K) (af 1) (cD (aY (bZ K) (pAdd K) (af 4) ak)) dU))))))) (ar (ax (cF (aa (af 0) (aa (af 1) ah)))))))
theorem sr:FnOk P w K mg base CX0 3 f35 d35 iJ (spD K mg j4):=by
 exact T.D_l_deed.F.okD (φ:=j0) (O':=[]) gt (fun cdv A outer s H E hr=>(al (aM (i:=3) (by decide) gt.nd (Or.inl rfl) (az T.D_l_entry (lS T) hr (aa (aY oDiv pDiv (af 0) ak) ah))) (al (bn (bH (lL (aH (oNeD K hr.units) (pNe K) (af 1) (cp (ck ah)) (aC _)) (jG (aH oGt pGt (aY oMod pMod (af 0) ak) ak (aC _))))) (al (aM (i:=4) (by decide) gt.nd (Or.inl rfl) (a7 (oIx K) (pIx K) (af 1) (aY oMod pMod (aY oDiv pDiv (af 0) ak) (aL (qLen K) (pLen K) T.z_len bD (aa (af 1) ah))))) (ar (aM (i:=3) (by decide) gt.nd (Or.inl rfl) (a7 (oIx K) (pIx K) (cp (ck (aa (cF (aa (a7 (oIx K) (pIx K) (af 3) ak) (aa (a7 (oIx K) (pIx K) (af 4) ak) ah))) (aa (cF (aa (a7 (oIx K) (pIx K) (af 4) ak) (aa (a7 (oIx K) (pIx K) (af 3) ak) ah))) (aa (af 4) (aa (af 4) (aa (af 4) ah))))))) (aY oSub pSub (aY oMod pMod (af 0) ak) ak))))) aO) (al (bn (bH (lL (aH (oNeD K hr.units) (pNe K) (af 2) (cp (ck ah)) (aC _)) (jG (aH (oEqD K hr.units) (pEq K) (aY oMod pMod (af 0) ak) ak (aC _))))) (ar (aM (i:=3) (by decide) gt.nd (Or.inl rfl) (a7 (oIx K) (pIx K) (af 2) (aY oMod pMod (aY oDiv pDiv (af 0) ak) (aL (qLen K) (pLen K) T.z_len bD (aa (af 2) ah)))))) aO) (ar (ax (cF (aa (AD (mv oGt pGt (aY oMod pMod (af 0) ak) ak (aC _)) (ph (mv (oEqD K hr.units) (pEq K) (aY oMod pMod (af 0) ak) ak (aC _)))) (aa (af 3) ah)))))))))
theorem oT:FnOk P w K mg base CX0 4 f36 d36 eV (spD K mg fb):=by
 exact T.D_l_behind.F.okD (φ:=eU) (O':=[]) oJ (fun cdv A outer s H E hr=>(al (bn (aQ K (af 1)) (ar (ax (cp (n6 (Wb:=⟨K,mg,E0⟩) (osc:=ap gS) (ON:=jt) (N:=["_law_one","_law_entry_here"]) (ix:=[none,some 2]) (by decide +kernel) (eu K (af 0)) (fun _=>(bu (i:=0) (by decide) (by decide +kernel:(["_law_one","_law_entry_here"]:List Str).Nodup) rfl (Or.inl rfl))) (fun _=>(kZ (cY (aQ K (az T.D_l_same (kB T) hr (aa (af 0) (aa (af 1) ah))))))) (fun _=>(af 0)) (de (by decide)))))) aO) (ar (ax (az T.D_l_once (ow T) hr (aa (aY (bZ K) (pAdd K) (af 0) (cp (ck (aa (af 2) ah)))) ah))))))
theorem zK:FnOk P w K mg base CX0 18 f37 d37 oD (spD K mg qG):=by
 exact T.D_law.F.okD (φ:=uL) (O':=[]) cy (fun cdv A outer s H E hr=>(al (aM (i:=1) (by decide) cy.nd (Or.inl rfl) (az T.D_l_list (sF T) hr (aa (aY oMod pMod (az T.D_l_cell_at (gr T) hr (aa (af 0) (aa ak ah))) (aY oPow pPow ak ak)) ah))) (al (ge (i:=2) (by decide) cy.nd (Or.inl rfl) (mH (qLstOf K) (pLst K) T.z_list kE (aa (af 1) ah))) (al (ge (i:=3) (by decide) cy.nd (Or.inl rfl) (ck (aa (yH (O:=[2]) (O2:=[]) (az T.D_index_from (i8 T) hr (aa (af 2) ah))) (aa (az T.D_index_from (i8 T) hr (aa (cp (ck ah)) ah)) ah)))) (al (ge (i:=4) (by decide) cy.nd (Or.inl rfl) (ck (aa (az T.D_l_once (ow T) hr (aa (af 1) ah)) (aa (cp (ck ah)) ah)))) (al (bn (bH (gZ (m6 K (fun k=>!k) (i:=2) (by decide) (oNeD K hr.units) (af 1) (aC _)) (fT (cY (aQ K (az T.D_l_has (qj T) hr (aa (dC K (i:=3) (by decide) ak) (aa (dC K (i:=4) (by decide) ak) ah)))))))) (ar (ax ql)) aO) (al (vz (i:=2) (by decide)) (al (bn (cY (aQ K (az T.D_l_alike (ff T) hr (aa (az T.D_entries_of (dc T) hr (aa (dC K (i:=3) (by decide) ak) ah)) (aa (dC K (i:=4) (by decide) ak) ah))))) (ar (ax ql)) aO) (al (bn (aH (oEqD K hr.units) (pEq K) (aY oMod pMod (az T.D_l_cell_at (gr T) hr (aa (af 0) (aa ak ah))) ak) ak (aC _)) (ar (vQ (az T.D_l_thinned (oy T) hr (aa (dC K (i:=3) (by decide) ak) (aa (dC K (i:=4) (by decide) ak) (aa (aY oMod pMod (aY oDiv pDiv (az T.D_l_cell_at (gr T) hr (aa (af 0) (aa ak ah))) ak) (aY oPow pPow ak ak)) ah)))) (xA K (uv (i:=3) (by decide) ak) (uv (i:=4) (by decide) ak)))) aO) (al (ge (i:=5) (by decide) cy.nd (Or.inl rfl) (ck ah)) (al (ge (i:=6) (by decide) cy.nd (Or.inl rfl) (ck ah)) (al (ge (i:=7) (by decide) cy.nd (Or.inl rfl) (ck ah)) (al (fQ PassesOwn.never (nK T.z_enumerate (aa (cW (oSl K) (pSl K) (af 0) (cD ak) dU) ah)) (l0 K (ce (bu (i:=8) (by decide) cy.nd rfl (Or.inl rfl)) (ce (bu (i:=9) (by decide) cy.nd rfl (Or.inl rfl)) jA))) (al (aM (i:=10) (by decide) cy.nd (Or.inl rfl) (aY oDiv pDiv (aY oMod pMod (af 9) ak) ak)) (al (vQ (yH (O:=[7,6,5,4,3,2]) (O2:=[6,5,4,3,2]) (az T.D_l_deed (sr T) hr (aa (aY oMod pMod (aY (bZ K) (pAdd K) (aY oMulD pMul (aY oDiv pDiv (af 9) ak) ak) (aY oMulD pMul ak (af 8))) ak) (aa (dC K (i:=4) (by decide) (af 10)) (aa (af 7) ah))))) (zq (l0 K (ce (bu (i:=11) (by decide) cy.nd rfl (Or.inl rfl)) (ce (bu (i:=12) (by decide) cy.nd rfl (Or.inl rfl)) jA))))) (al (bn (aQ K (af 11)) (al (dE (i:=7) (by decide) (af 12)) (ar (mq (i:=3) (by decide) (az T.D_without_entry (fR T) hr (aa (dC K (i:=3) (by decide) (af 10)) (aa (a7 (oIx K) (pIx K) (af 12) ak) (aa (a7 (oIx K) (pIx K) (af 12) ak) ah)))) (af 10)))) (ar (mq (i:=3) (by decide) (az T.D_with_entry (mO T) hr (aa (dC K (i:=3) (by decide) (af 10)) (aa (a7 (oIx K) (pIx K) (af 12) ak) (aa (a7 (oIx K) (pIx K) (af 12) ak) ah)))) (af 10)))) (al (mq (i:=4) (by decide) (az T.D_l_behind (oT T) hr (aa (dC K (i:=4) (by decide) (af 10)) (aa (af 11) (aa (af 12) ah)))) (af 10)) (al (aM (i:=13) (by decide) cy.nd (Or.inl rfl) (az T.D_entries_of (dc T) hr (aa (dC K (i:=3) (by decide) (af 10)) ah))) (al (dE (i:=6) (by decide) (cF (aa (af 13) (aa (dC K (i:=4) (by decide) (af 10)) ah)))) (al (bn (bH (gZ (aH (oNeD K hr.units) (pNe K) (az T.D_many_in (rO T) hr (aa (dC K (i:=3) (by decide) (af 10)) ah)) (aL (qLen K) (pLen K) T.z_len bD (aa (dC K (i:=4) (by decide) (af 10)) ah)) (aC _)) (fT (cY (aQ K (az T.D_l_alike (ff T) hr (aa (af 13) (aa (dC K (i:=4) (by decide) (af 10)) ah)))))))) (ar (ax ql)) aO) (ar (bn (aH (oEqD K hr.units) (pEq K) (aY oMod pMod (af 8) ak) ak (aC _)) (ar (dE (i:=5) (by decide) (cF (aa (dC K (i:=3) (by decide) (af 10)) (aa (dC K (i:=4) (by decide) (af 10)) ah))))) aO)))))))))) (ku (O:=[7,6,5,4,3,2]) (O2:=[7,5,4,3,2]) (al (fQ PassesOwn.never (eu K (af 6)) (l0 K (ce (bu (i:=13) (by decide) cy.nd rfl (Or.inl rfl)) (ce (bu (i:=14) (by decide) cy.nd rfl (Or.inl rfl)) jA))) (ar (bn (cY (aQ K (az T.D_l_alike (ff T) hr (aa (af 13) (aa (af 14) ah))))) (ar (ax ql)) aO))) (ku (O:=[7,5,4,3,2]) (O2:=[7,4,3,2]) (al (fQ PassesOwn.never (eu K (aY (bZ K) (pAdd K) (cW (oSl K) (pSl K) (af 5) dU (cD ak)) (cp (ck (aa (cF (aa (dC K (i:=3) (by decide) ak) (aa (dC K (i:=4) (by decide) ak) ah))) (aa (cF (aa (dC K (i:=3) (by decide) ak) (aa (dC K (i:=4) (by decide) ak) ah))) ah)))))) (l0 K (ce (bu (i:=15) (by decide) cy.nd rfl (Or.inl rfl)) (ce (bu (i:=14) (by decide) cy.nd rfl (Or.inl rfl)) jA))) (ar (bn (bH (gZ (cY (aQ K (az T.D_l_has (qj T) hr (aa (af 15) (aa (af 14) ah))))) (fT (cY (aQ K (az T.D_l_alike (ff T) hr (aa (az T.D_entries_of (dc T) hr (aa (af 15) ah)) (aa (af 14) ah)))))))) (ar (ax ql)) aO))) (ar (ax ql)))))))))))))))))))
end
open TS (K4 Lt4)
theorem bi {τ:FT} {S T:FS} {δ:Sd} (h:τ δ=.ok true):sIf τ S T δ=S δ:=by rw [Bi,h,aD,Bg,if_pos rfl]
theorem nM {τ:FT} {S T:FS} {δ:Sd} (h:τ δ=.ok false):sIf τ S T δ=T δ:=by rw [Bi,h,aD,Bg,if_neg Bool.false_ne_true]
theorem au {S T:FS} {δ δ':Sd} (h:S δ=.ok (.nx δ')):aK S T δ=T δ':=by rw [zF,h,aD,yF]
theorem bQ {S T:FS} {δ:Sd} {d:D} (h:S δ=.ok (.rt d)):aK S T δ=.ok (.rt d):=by rw [zF,h];rfl
theorem ay {φ:FE} {δ:Sd} {d:D} (h:φ δ=.ok d):bv φ δ=.ok (.rt d):=by rw [AH,h];rfl
theorem aF {k:Nat} {φ:FE} {δ:Sd} {d:D} (h:φ δ=.ok d):bJ k φ δ=.ok (.nx (δ.set k (some d))):=by rw [Ax,h];rfl
theorem fc {k:Nat} {φ:FE} {δ:Sd} {d:D} (h:φ δ=.ok d) (hk:k < δ.length:=by simp):sOwn k φ δ=.ok (.nx (δ.set k (some d))):=by rw [AA,h,aD,Au,if_pos hk]
theorem aE {r:R Fl} {d:D} (h:r=.ok (.rt d)):fin r=.ok d:=by rw [h];rfl
theorem skip {τ:FT} {S T:FS} {δ:Sd} (h:τ δ=.ok false):aK (sIf τ S bb) T δ=T δ:=au ((nM h).trans rfl)
theorem ac {φ:FE} {α:FA} {δ:Sd} {d:D} {ds:List D} (h:φ δ=.ok d) (h2:α δ=.ok ds):ae φ α δ=.ok (d::ds):=by unfold ae;rw [h,aD,h2];rfl
theorem bq {α:FA} {δ:Sd} {ds:List D} (h:α δ=.ok ds) (hl:ds.length≤100:=by simp):g9 α δ=.ok (.tup ds):=by rw [Ab,h,aD,ze,if_pos (by lia)]
theorem bh {α:FA} {δ:Sd} {ds:List D} (h:α δ=.ok ds) (hl:ds.length≤100:=by simp):eR α δ=.ok (.lst ds):=by rw [AL,h,aD,yz,if_pos (by lia)]
theorem aj {f:D→D→R D} {φ ψ:FE} {δ:Sd} {a b c:D} (h1:φ δ=.ok a) (h2:ψ δ=.ok b) (h:f a b=.ok c):vOp f φ ψ δ=.ok c:=by rw [v_op,h1,aD,op_k,h2,aD,h]
theorem aI {φ:FE} {δ:Sd} {b:Bool} (h:φ δ=.ok (.bl b)):qBl φ δ=.ok b:=by rw [q_bl,h];rfl
theorem am {F:List D→R D} {α:FA} {δ:Sd} {ds:List D} {r:R D} (h:α δ=.ok ds) (hf:F ds=r):ao F α δ=r:=by rw [zB,h,aD,hf]
theorem dJ {i:Nat} {B:FS} {x:D} {r:List D} {δ δ':Sd} (h:B (δ.set i (some x))=.ok (.nx δ')):forD (.one i) B (x::r) δ=forD (.one i) B r δ':=by
 rw [p7]
 have e:bindD (.one i) x δ=.ok (δ.set i (some x)):=rfl
 rw [e,aD,vT,h,aD,um]
theorem eH {ι:FA} {g:TgD} {B:FS} {δ δ':Sd} {xs:List D} (h:ι δ=.ok xs) (hf:forD g B xs δ=.ok (.nx δ')):sFor ι g B δ=.ok (.nx δ'):=by rw [AJ,h,aD,zU,hf]
theorem nW {τ:FT} {B:FS} {n:Nat} {δ δ':Sd} (h:τ δ=.ok true) (hb:B δ=.ok (.nx δ')):b7 τ B (n+1) δ=b7 τ B n δ':=by
 rw [b7,h,aD,if_pos rfl,hb];rfl
theorem pC {τ:FT} {B:FS} {n:Nat} {δ:Sd} (h:τ δ=.ok false):b7 τ B (n+1) δ=.ok (.nx δ):=by
 rw [b7,h,aD,if_neg Bool.false_ne_true]
theorem bV {φ:FE} {δ:Sd} {d:D} {b:Bool} (h:φ δ=.ok d) (ht:truD d=.ok b):eT φ δ=.ok b:=by rw [AU,h,aD,ht]
theorem v6 {τ:FT} {δ:Sd} {b:Bool} (h:τ δ=.ok b):iC τ δ=.ok (!b):=by rw [AE,h];rfl
theorem qY {τ:FT} {δ:Sd} (h:τ δ=.ok true):iC τ δ=.ok false:=v6 h
theorem zR {τ υ:FT} {δ:Sd} (h:τ δ=.ok true):qOr τ υ δ=.ok true:=by rw [Bb,h];rfl
theorem m9 {τ υ:FT} {δ:Sd} {b:Bool} (h:τ δ=.ok false) (h2:υ δ=.ok b):qOr τ υ δ=.ok b:=by rw [Bb,h,aD,Ar,if_neg Bool.false_ne_true,h2]
theorem lB {τ υ:FT} {δ:Sd} {b:Bool} (h:τ δ=.ok true) (h2:υ δ=.ok b):qAnd τ υ δ=.ok b:=by rw [zi,h,aD,x6,if_pos rfl,h2]
theorem sk {τ υ:FT} {δ:Sd} (h:τ δ=.ok false):qAnd τ υ δ=.ok false:=by rw [zi,h];rfl
theorem lU {φ ψ:FE} {δ:Sd} {d:D} (h:φ δ=.ok (.bl true)) (h2:ψ δ=.ok d):vAnd φ ψ δ=.ok d:=by rw [v_and,h,aD,A3,if_pos rfl,h2]
theorem qi {φ ψ:FE} {δ:Sd} (h:φ δ=.ok (.bl false)):vAnd φ ψ δ=.ok (.bl false):=by rw [v_and,h];rfl
theorem yj {φ ψ:FE} {δ:Sd} (h:φ δ=.ok (.bl true)):vOr φ ψ δ=.ok (.bl true):=by rw [v_or,h];rfl
theorem zh {φ ψ:FE} {δ:Sd} {d:D} (h:φ δ=.ok (.bl false)) (h2:ψ δ=.ok d):vOr φ ψ δ=.ok d:=by rw [v_or,h,aD,or_k,if_neg Bool.false_ne_true,h2]
theorem xD {φ:FE} {δ:Sd} {b:Bool} (h:φ δ=.ok (.bl b)):vNot φ δ=.ok (.bl (!b)):=by rw [v_not,h];rfl
theorem kC {i:Nat} {ε:FE} {δ:Sd} {xs:List D} {d:D} (h:δ[i]?=some (some (.lst xs))) (he:ε δ=.ok d) (hl:xs.length < 1000):dm i ε δ=.ok (.nx (δ.set i (some (.lst (xs++[d]))))):=by
 unfold dm
 rw [h]
 dsimp only
 rw [he,aD,if_pos (by lia)]
theorem yZ {i:Nat} {ε:FE} {δ:Sd} {xs ys:List D} {d:D} (h:δ[i]?=some (some (.lst xs))) (he:ε δ=.ok d) (hd:seqOf d=some ys) (hl:xs.length+ys.length≤1000000):kG i ε δ=.ok (.nx (δ.set i (some (.lst (xs++ys))))):=by
 unfold kG
 rw [h]
 dsimp only
 rw [he,aD,hd]
 dsimp only
 rw [if_pos hl]
theorem xR {i:Nat} {ε:FE} {δ:Sd} {a b:Int} (h:δ[i]?=some (some (.int a))) (he:ε δ=.ok (.int b)):sAugAdd i ε δ=.ok (.nx (δ.set i (some (.int (a+b))))):=by
 rw [Ap,h]
 dsimp only
 rw [he];rfl
theorem jz {φ:FE} {l u:Sd→R (Option Int)} {δ:Sd} {a d:D} {lo hi:Option Int} (h:φ δ=.ok a) (h1:l δ=.ok lo) (h2:u δ=.ok hi) (hd:slD a lo hi=.ok d):vSl slD φ l u δ=.ok d:=by
 rw [Bd,h,aD,yR,h1,aD,yD,h2,aD,yT,hd]
theorem cf {φ:FE} {δ:Sd} {i:Int} (h:φ δ=.ok (.int i)):fZ φ δ=.ok (some i):=by rw [yr,h];rfl
theorem dZ {φ:FE} {δ:Sd} {d:D} {xs:List D} (h:φ δ=.ok d) (hx:kN d=.ok xs):lH φ δ=.ok xs:=by rw [Ae,h,aD,hx]
theorem lm {φ:FE} {δ:Sd} {n:Nat} (h:φ δ=.ok (.int (n:Int))) (hn:n≤1000000):iRng1D (ae φ av) δ=.ok (hU 0 n):=by
 rw [vJ,ac h rfl,aD,yN (by lia),Int.toNat_natCast]
theorem cX {ix:List (Option Nat)} {ι:FA} {t:TgD} {τ:FT} {ε:FE} {δ:Sd} {xs:List D} {d:D} (h:ι δ=.ok xs) (hc:bX t τ ε (captD ix δ) xs=.ok d):fX ix ι t τ ε δ=.ok d:=by rw [zc,h,aD,hc]
theorem uz {β:Type} {ε:FE} {rest:Sd} (u f:β→D) (xs:List β) (h:∀ x∈xs,ε (some (u x)::rest)=.ok (f x)) (hl:xs.length≤1000):bX (.one 0) qYes ε (none::rest) (xs.map u)=.ok (.lst (xs.map f)) :=
 qS u f rfl (by lia) h
theorem kR {β:Type} {τ:FT} {ε:FE} {rest:Sd} (u f:β→D) (p:β→Bool) (xs:List β) (h:∀ x∈xs,τ (some (u x)::rest)=.ok (p x)) (h2:∀ x∈xs,p x=true→ε (some (u x)::rest)=.ok (f x)) (hl:xs.length≤1000):bX (.one 0) τ ε (none::rest) (xs.map u)=.ok (.lst ((xs.filter p).map f)):=by
 refine pA rfl (by rw [List.length_map];lia) ?_
 clear hl
 induction xs with
 | nil=>rfl
 | cons x r ih =>
  have h1:=h x (by simp)
  have h3:=h2 x (by simp)
  have h4:=ih (fun y hy=>h y (List.mem_cons_of_mem _ hy)) fun y hy=>h2 y (List.mem_cons_of_mem _ hy)
  show (τ (some (u x)::rest)).bind _=_
  rw [h1,aD]
  cases e:p x with
  | true =>
   rw [if_pos rfl,List.filter_cons_of_pos e]
   show (ε (some (u x)::rest)).bind _=_
   rw [h3 e,aD,h4]
   rfl
  | false=>rw [if_neg Bool.false_ne_true,List.filter_cons_of_neg (by rw [e];exact Bool.false_ne_true)];exact h4
theorem bm {φ:FE} {δ:Sd} {a d:D} (h:φ δ=.ok a) (hl:lenD [a]=.ok d):ao lenD (ae φ av) δ=.ok d:=am (ac h rfl) hl
theorem jU {β:Type} (f:β→D) (xs:List β) {i:Nat} {x:β} (h:xs[i]?=some x):ixD (.lst (xs.map f)) (.int (i:Int))=.ok (f x):=se (cr (by rw [List.getElem?_map,h];rfl))
theorem Bf {β:Type} (f:β→D) (xs:List β) {i:Nat} {x:β} (h:xs[i]?=some x):ixD (.tup (xs.map f)) (.int (i:Int))=.ok (f x):=zZ (cr (by rw [List.getElem?_map,h];rfl))
theorem g6 {β:Type} (f:β→D) (xs:List β):lenD [.lst (xs.map f)]=.ok (.int (xs.length:Int)):=by rw [si,List.length_map]
theorem qp {β:Type} (f:β→D) (xs:List β):lenD [.tup (xs.map f)]=.ok (.int (xs.length:Int)):=by rw [oN,List.length_map]
theorem iO {φ ψ:FE} {δ:Sd} {i j:Int} (h1:φ δ=.ok (.int i)) (h2:ψ δ=.ok (.int j)) (h:-(2 ^ 64) < j∧j < 2 ^ 64:=by decide):vOp mulD φ ψ δ=.ok (.int (i*j)):=aj h1 h2 (mul_r h)
theorem bg {φ ψ:FE} {δ:Sd} {i j:Int} (h1:φ δ=.ok (.int i)) (h2:ψ δ=.ok (.int j)) (h:0 < j:=by decide):vOp modD φ ψ δ=.ok (.int (i % j)):=aj h1 h2 (zV h)
theorem bW {φ ψ:FE} {δ:Sd} {i j:Int} (h1:φ δ=.ok (.int i)) (h2:ψ δ=.ok (.int j)) (h:0 < j∧j < 1073741824:=by decide):vOp divD φ ψ δ=.ok (.int (i/j)):=aj h1 h2 (Aj h)
theorem cg {φ ψ:FE} {δ:Sd} {i j:Int} (h1:φ δ=.ok (.int i)) (h2:ψ δ=.ok (.int j)):vOp addD φ ψ δ=.ok (.int (i+j)):=aj h1 h2 rfl
theorem fe {φ ψ:FE} {δ:Sd} {i j:Int} (h1:φ δ=.ok (.int i)) (h2:ψ δ=.ok (.int j)):vOp subD φ ψ δ=.ok (.int (i - j)):=aj h1 h2 rfl
theorem iI {φ ψ:FE} {δ:Sd} {i j:Int} (h1:φ δ=.ok (.int i)) (h2:ψ δ=.ok (.int j)):qBl (vOp eqD φ ψ) δ=.ok (decide (i=j)):=aI (aj h1 h2 jW)
theorem sO {τ:FT} {φ ψ:FE} {δ:Sd} {d:D} (h:τ δ=.ok true) (h2:φ δ=.ok d):vIf τ φ ψ δ=.ok d:=by rw [vE,h,aD,vk,if_pos rfl,h2]
theorem vG {τ:FT} {φ ψ:FE} {δ:Sd} {d:D} (h:τ δ=.ok false) (h2:ψ δ=.ok d):vIf τ φ ψ δ=.ok d:=by rw [vE,h,aD,vk,if_neg Bool.false_ne_true,h2]
theorem zm {φ ψ:FE} {δ:Sd} {a b:Bool} (h:φ δ=.ok (.bl a)) (h2:ψ δ=.ok (.bl b)):vOr φ ψ δ=.ok (.bl (a||b)):=by
 cases a with
 | true=>exact yj h
 | false=>exact zh h h2
theorem yc {φ ψ:FE} {δ:Sd} {a b:Bool} (h:φ δ=.ok (.bl a)) (h2:ψ δ=.ok (.bl b)):vAnd φ ψ δ=.ok (.bl (a&&b)):=by
 cases a with
 | true=>exact lU h h2
 | false=>exact qi h
theorem gf {φ:FE} {δ:Sd} {d:D} {C:String} {b:Bool} (h:φ δ=.ok d) (hd:iE [d,.ty C]=.ok (.bl b)):ao iE (ae φ (ae (vC (.ty C)) av)) δ=.ok (.bl b):=am (ac h (ac rfl rfl)) hd
theorem rf {T C:String} {b:Bool} (h:known C=true∧subT T C=b):(if known C=true then R.ok (D.bl (subT T C)) else .no)=.ok (.bl b):=by rw [if_pos h.1,h.2]
noncomputable def cell (ns:List Int) (k:Int):Int:=ns.getD k.toNat 0
theorem xF (ns:List Int) (k:Int) (h0:0≤k):bN [.lst (ns.map D.int),.int k]=.ok (.int (cell ns k)):=by
 rw [pF,fN]
 obtain ⟨n,rfl⟩:∃ n:Nat,k=(n:Int):=⟨k.toNat,by lia⟩
 have hq:qBl (vOp ltD (ai 1) (ao lenD (ae (ai 0) av))) [some (.lst (ns.map D.int)),some (.int (n:Int))]=.ok (decide ((n:Int) < (ns.length:Int))):=aI (aj rfl (bm rfl (g6 _ _)) u6)
 unfold cell
 rw [Int.toNat_natCast,List.getD_eq_getElem?_getD]
 by_cases h:n < ns.length
 ·rw [decide_eq_true (by lia)] at hq
  rw [List.getElem?_eq_getElem h]
  exact aE (bQ ((bi hq).trans (ay (aj rfl rfl (jU _ _ (List.getElem?_eq_getElem h))))))
 ·rw [decide_eq_false (by lia)] at hq
  rw [List.getElem?_eq_none (by lia)]
  exact aE ((skip hq).trans (ay rfl))
noncomputable abbrev tabA:Str:=Str.ofString " !\"#$&'()*+,-./0123456789:;<=>?@ABCDEFGHIJKLMNOPQRSTUVWXYZ[\\]^_`"
noncomputable abbrev tabS:Str:=tabA++Str.ofString "abcdefghijklmnopqrstuvwxyz{|}~"
noncomputable def tab:List Nat:=tabS.cps.toList
theorem xk:tab.length=94:=by decide +kernel
noncomputable def signOf (i:Int):Nat:=tab.getD (i % 94).toNat 0
theorem wf (i:Int):tab[(i % 94).toNat]?=some (signOf i):=by
 have hk:(i % 94).toNat < tab.length:=by rw [xk];lia
 unfold signOf
 rw [List.getD_eq_getElem?_getD,List.getElem?_eq_getElem hk]
 rfl
theorem yI (i:Int):atI tabS.cps.toList (i % 94)=some (signOf i):=by
 have h:=cr (xs:=tab) (wf i)
 rw [show (((i % 94).toNat:Nat):Int)=i % 94 by lia] at h
 exact h
theorem xi (i:Int):signOf i∈tab:=List.mem_of_getElem? (wf i)
noncomputable def Vl (n:Nat):D→Prop
 | .non=>True
 | .int _=>True
 | .str z=>z.length≤n∧∀ c∈z.cps.toList,c∈tab
 | _=>False
theorem Vl.mono {n m:Nat} {d:D} (h:Vl n d) (hm:n≤m):Vl m d:=by
 cases d with
 | str z=>exact ⟨Nat.le_trans h.1 hm,h.2⟩
 | non=>exact True.intro
 | int _=>exact True.intro
 | _=>exact h.elim
noncomputable def cmpI (a b:Int):Int:=if a=b then 0 else if a < b then -1 else 1
noncomputable def cmpL (a b:List Nat):Int:=if a=b then 0 else if a < b then -1 else 1
noncomputable def cmp:D→D→Int
 | .non,.non=>0
 | .non,_=>-1
 | _,.non=>1
 | .int a,.int b=>cmpI a b
 | .int _,_=>-1
 | _,.int _=>1
 | .str a,.str b=>cmpL a.cps.toList b.cps.toList
 | _,_=>0
noncomputable def kx:D→Int
 | .non=>0
 | .int _=>1
 | _=>2
noncomputable def kw (i:Int):Str:=if i=0 then "none" else if i=1 then "number" else "text"
theorem kind {d:D} (h:Vl 100 d):bF [d]=.ok (.str (kw (kx d))):=by
 rw [ux,i9]
 cases d with
 | non=>exact aE (bQ ((bi (aI (aj rfl rfl rfl))).trans (ay rfl)))
 | int i=>exact aE ((skip (aI (aj rfl rfl rfl))).trans (ay (vG (bV (gf rfl (tz.trans (rf (by decide +kernel)))) rfl) rfl)))
 | str z=>exact aE ((skip (aI (aj rfl rfl rfl))).trans (ay (sO (bV (gf rfl (wQ.trans (rf (by decide +kernel)))) rfl) rfl)))
 | _=>exact h.elim
theorem rq (d:D):kx d=0∨kx d=1∨kx d=2:=by
 unfold kx;split
 ·exact .inl rfl
 ·exact .inr (.inl rfl)
 ·exact .inr (.inr rfl)
theorem zS (i:Int) (h:i=0∨i=1∨i=2):tIxD iy [.str (kw i)]=.ok (.int i):=by
 rcases h with rfl|rfl|rfl <;> with_unfolding_all rfl
theorem zY {i j:Int} (h:i=0∨i=1∨i=2) (g:j=0∨j=1∨j=2):decide (kw i=kw j)=decide (i=j):=by
 rcases h with rfl|rfl|rfl <;> rcases g with rfl|rfl|rfl <;> decide +kernel
theorem wO {a b:Str} (h:a.cps.toList=b.cps.toList):a=b:=by
 cases a;cases b
 congr 1
 exact Array.toList_inj.mp h
theorem qc {φ:FE} {δ:Sd} {k d r:D} (h:φ δ=.ok d) (hr:tIxD k [d]=.ok r):vTIx k (ae φ av) δ=.ok r:=by rw [AN,ac h rfl,aD,hr]
theorem vK {d e:D} (hd:Vl 100 d) (he:Vl 100 e) (h:¬ kx d=kx e):cmp d e=if kx d < kx e then -1 else 1:=by
 cases d with
 | non=>cases e with
  | non=>exact absurd rfl h
  | int j=>rfl
  | str z=>rfl
  | _=>exact he.elim
 | int i=>cases e with
  | non=>rfl
  | int j=>exact absurd rfl h
  | str z=>rfl
  | _=>exact he.elim
 | str x=>cases e with
  | non=>rfl
  | int j=>rfl
  | str z=>exact absurd rfl h
  | _=>exact he.elim
 | _=>exact hd.elim
theorem compare (d e:D) (hd:Vl 100 d) (he:Vl 100 e):iP [d,e]=.ok (.int (cmp d e)):=by
 rw [tO,jc]
 have hq:qBl (vOp neD (ao bF (ae (ai 0) av)) (ao bF (ae (ai 1) av))) [some d,some e]=.ok (!decide (kx d=kx e)):=aI (aj (am (ac rfl rfl) (kind hd)) (am (ac rfl rfl) (kind he)) (yd.trans (by rw [zY (rq d) (rq e)])))
 by_cases h:kx d=kx e
 ·rw [decide_eq_true h] at hq
  refine aE ((skip hq).trans ?_)
  cases d with
  | non=>cases e with
   | non=>exact bQ ((bi (aI (aj rfl rfl z5))).trans (ay rfl))
   | int j=>cases h
   | str z=>cases h
   | _=>exact he.elim
  | int i=>cases e with
   | non=>cases h
   | int j =>
    show _=R.ok (Fl.rt (.int (cmpI i j)))
    unfold cmpI
    by_cases q:i=j
    ·rw [if_pos q];exact bQ ((bi (aI (aj rfl rfl (jW.trans (by rw [decide_eq_true q]))))).trans (ay rfl))
    ·rw [if_neg q]
     refine (skip (aI (aj rfl rfl (jW.trans (by rw [decide_eq_false q]))))).trans (ay ?_)
     by_cases q2:i < j
     ·rw [if_pos q2];exact sO (aI (aj rfl rfl (u6.trans (by rw [decide_eq_true q2])))) rfl
     ·rw [if_neg q2];exact vG (aI (aj rfl rfl (u6.trans (by rw [decide_eq_false q2])))) rfl
   | str z=>cases h
   | _=>exact he.elim
  | str x=>cases e with
   | non=>cases h
   | int j=>cases h
   | str z =>
    show _=R.ok (Fl.rt (.int (cmpL x.cps.toList z.cps.toList)))
    unfold cmpL
    by_cases q:x=z
    ·rw [if_pos (by rw [q])];exact bQ ((bi (aI (aj rfl rfl (fV.trans (by rw [decide_eq_true q]))))).trans (ay rfl))
    ·rw [if_neg fun w=>q (wO w)]
     refine (skip (aI (aj rfl rfl (fV.trans (by rw [decide_eq_false q]))))).trans (ay ?_)
     by_cases q2:x.cps.toList < z.cps.toList
     ·rw [if_pos q2];exact sO (aI (aj rfl rfl (Be.trans (by rw [decide_eq_true q2])))) rfl
     ·rw [if_neg q2];exact vG (aI (aj rfl rfl (Be.trans (by rw [decide_eq_false q2])))) rfl
   | _=>exact he.elim
  | _=>exact hd.elim
 ·rw [decide_eq_false h] at hq
  refine aE (bQ ((bi hq).trans (ay ?_)))
  rw [vK hd he h]
  have hl:qBl (vOp ltD (vTIx iy (ae (ao bF (ae (ai 0) av)) av)) (vTIx iy (ae (ao bF (ae (ai 1) av)) av))) [some d,some e]=.ok (decide (kx d < kx e)):=aI (aj (qc (am (ac rfl rfl) (kind hd)) (zS _ (rq d))) (qc (am (ac rfl rfl) (kind he)) (zS _ (rq e))) u6)
  by_cases q:kx d < kx e
  ·rw [decide_eq_true q] at hl;rw [if_pos q];exact sO hl rfl
  ·rw [decide_eq_false q] at hl;rw [if_neg q];exact vG hl rfl
theorem qH (x:Int):∃ z:Str,vSM joinD (vC (.str "")) (ae (fX [none,some 1,some 0] (iRng1D (ae (vOp modD (vOp divD (ai 0) (vC (.int 64))) (vC (.int 41))) av)) (.one 0) qYes (vOp ixD (ai 1) (vOp modD (vOp addD (vOp divD (vOp divD (ai 2) (vC (.int 8))) (vOp addD (ai 0) (vC (.int 1)))) (ai 0)) (vC (.int 94))))) av) [some (.int x),some (.str tabS),some (.int (x % 8))]=.ok (.str z)∧Vl 40 (.str z):=by
 obtain ⟨n,en,hn⟩:∃ n:Nat,x/64 % 41=(n:Int)∧n < 41:=⟨(x/64 % 41).toNat,by lia,by lia⟩
 have e:bX (.one 0) qYes (vOp ixD (ai 1) (vOp modD (vOp addD (vOp divD (vOp divD (ai 2) (vC (.int 8))) (vOp addD (ai 0) (vC (.int 1)))) (ai 0)) (vC (.int 94)))) [none,some (.str tabS),some (.int x)] (hU 0 n)=.ok (.lst ((List.range n).map fun (k:Nat)=>D.str ⟨#[signOf (x/8/(0+(k:Int)+1)+(0+(k:Int)))]⟩)):=by
  refine uz _ _ _ (fun k hk=>?_) (by rw [List.length_range];lia)
  have hk':=List.mem_range.mp hk
  exact aj rfl (bg (cg (bW (bW rfl rfl) (cg rfl rfl) (by lia)) rfl) rfl) (ix_s (by decide +kernel) (yI _))
 have hc:((List.range n).map fun (k:Nat)=>(⟨#[signOf (x/8/(0+(k:Int)+1)+(0+(k:Int)))]⟩:Str))=(((List.range n).map fun (k:Nat)=>signOf (x/8/(0+(k:Int)+1)+(0+(k:Int)))).map fun c=>(⟨#[c]⟩:Str)):=by rw [List.map_map];rfl
 have e0:(Str.ofString "").length=0:=by decide +kernel
 have ej:=yQ (z:="") (strs_map (fun (k:Nat)=>(⟨#[signOf (x/8/(0+(k:Int)+1)+(0+(k:Int)))]⟩:Str)) (List.range n)) (by rw [hc,ui,e0,List.length_map,List.length_map,List.length_range];lia)
 refine ⟨Txt.join "" ((List.range n).map fun (k:Nat)=>(⟨#[signOf (x/8/(0+(k:Int)+1)+(0+(k:Int)))]⟩:Str)),?_,?_,fun d hd=>?_⟩
 ·rw [v_sm]
  show (smK joinD _ _ (.str ""))=_
  rw [sm_k,ac (cX (lm (n:=n) ((bg (bW rfl rfl) rfl).trans (by rw [en])) (by lia)) e) rfl,aD]
  exact ej
 ·rw [str_len,hc,l7,List.length_map,List.length_range]
  lia
 ·rw [hc,l7] at hd
  obtain ⟨k,_,rfl⟩:=List.mem_map.mp hd
  exact xi _
theorem four {a b c d i:Int} (h0:0≤i) (h1:i < 4):∃ m,ixD (.lst [.int a,.int b,.int c,.int d]) (.int i)=.ok (.int m):=by
 rcases (show i=0∨i=1∨i=2∨i=3 by lia) with rfl|rfl|rfl|rfl
 ·exact ⟨_,eO⟩
 ·exact ⟨_,pN⟩
 ·exact ⟨_,wv⟩
 ·exact ⟨_,xV⟩
theorem eight {i:Int} (h0:0≤i) (h1:i < 8):∃ z:Str,ixD (.lst [.str "",.str "a",.str "ab",.str "b",.str "aB",.str " ",.str "~",.str "a "]) (.int i)=.ok (.str z)∧Vl 40 (.str z):=by
 rcases (show i=0∨i=1∨i=2∨i=3∨i=4∨i=5∨i=6∨i=7 by lia) with rfl|rfl|rfl|rfl|rfl|rfl|rfl|rfl
 ·exact ⟨_,eO,by decide +kernel,by decide +kernel⟩
 ·exact ⟨_,pN,by decide +kernel,by decide +kernel⟩
 ·exact ⟨_,wv,by decide +kernel,by decide +kernel⟩
 ·exact ⟨_,xV,by decide +kernel,by decide +kernel⟩
 ·exact ⟨_,Af,by decide +kernel,by decide +kernel⟩
 ·exact ⟨_,A7,by decide +kernel,by decide +kernel⟩
 ·exact ⟨_,Av,by decide +kernel,by decide +kernel⟩
 ·exact ⟨_,z3,by decide +kernel,by decide +kernel⟩
theorem pow18 {δ:Sd}:vOp powD (vC (.int 10)) (vC (.int 18)) δ=.ok (.int 1000000000000000000):=aj rfl rfl ((wG (by decide)).trans rfl)
theorem pow9 {δ:Sd}:vOp powD (vC (.int 10)) (vC (.int 9)) δ=.ok (.int 1000000000):=aj rfl rfl ((wG (by decide)).trans rfl)
noncomputable def GoodV (r:R Fl):Prop:=∃ d,fin r=.ok d∧Vl 40 d
theorem sW {τ:FT} {φ:FE} {T:FS} {δ:Sd} {b:Bool} (h:τ δ=.ok b) (h1:b=true→∃ d,φ δ=.ok d∧Vl 40 d) (h2:b=false→GoodV (T δ)):GoodV (aK (sIf τ (bv φ) bb) T δ):=by
 cases b with
 | true=>obtain ⟨d,e,v⟩:=h1 rfl;exact ⟨d,aE (bQ ((bi h).trans (ay e))),v⟩
 | false=>rw [skip h];exact h2 rfl
theorem value (x:Int) (h0:0≤x) (h1:x < 10 ^ 12):∃ d,jg [.int x]=.ok d∧Vl 40 d:=by
 rw [uc,ji]
 show GoodV _
 have e2:addD (.str tabA) (.str "abcdefghijklmnopqrstuvwxyz{|}~")=.ok (.str tabS):=AM.trans (if_pos (by decide +kernel))
 rw [au (aF rfl),au (aF (aj rfl rfl e2)),au (aF (bg rfl rfl))]
 refine sW (iI rfl rfl) (fun _=>⟨_,rfl,True.intro⟩) fun h2=>?_
 refine sW (aI (aj rfl rfl u6)) (fun _=>⟨_,fe (bg (bW rfl rfl) rfl) rfl,True.intro⟩) fun h3=>?_
 refine sW (iI rfl rfl) (fun _=>?_) fun h4=>?_
 ·obtain ⟨m,em⟩:=four (a:=1000000000000000000 - 1) (b:=1 - 1000000000000000000) (c:=1000000000) (d:=-10) (i:=x/8 % 4) (by lia) (by lia)
  exact ⟨_,aj (bh (ac (fe pow18 rfl) (ac (fe rfl pow18) (ac pow9 (ac rfl rfl))))) (bg (bW rfl rfl) rfl) em,True.intro⟩
 refine sW (iI rfl rfl) (fun _=>⟨_,fe (bg (iO (aj rfl rfl (AO (by lia))) rfl) (fe (iO rfl pow18) rfl)) (fe pow18 rfl),True.intro⟩) fun h5=>?_
 refine sW (iI rfl rfl) (fun _=>?_) fun h6=>?_
 ·obtain ⟨z,ez,hz⟩:=eight (i:=x/8 % 8) (by lia) (by lia)
  exact ⟨_,aj (bh (ac rfl (ac rfl (ac rfl (ac rfl (ac rfl (ac rfl (ac rfl (ac rfl rfl))))))))) (bg (bW rfl rfl) rfl) ez,hz⟩
 obtain ⟨z,ez,hz⟩:=qH x
 exact ⟨_,aE (ay ez),hz⟩
theorem three {i:Int} (h0:0≤i) (h1:i < 3):∃ m,ixD (.lst [.int 9,.int 60,.int 1000000000]) (.int i)=.ok (.int m)∧0 < m:=by
 rcases (show i=0∨i=1∨i=2 by lia) with rfl|rfl|rfl
 ·exact ⟨_,eO,by decide⟩
 ·exact ⟨_,pN,by decide⟩
 ·exact ⟨_,wv,by decide⟩
theorem entry (x:Int) (h0:0≤x) (h1:x < 10 ^ 12):∃ d n,cT [.int x]=.ok (.tup [d,.int n])∧Vl 40 d∧1≤n:=by
 obtain ⟨d,hd,hv⟩:=value (x/3) (by lia) (by lia)
 obtain ⟨m,em,hm⟩:=three (i:=x % 3) (by lia) (by lia)
 rw [sw,jh]
 have:=Int.emod_nonneg (x*69621 % 2147483647) (show m≠0 by lia)
 exact ⟨d,1+x*69621 % 2147483647 % m,aE (ay (bq (ac (am (ac (bW rfl rfl) rfl) hd) (ac (cg rfl (bg (bg (iO rfl rfl) rfl) (aj (bh (ac rfl (ac rfl (ac pow9 rfl)))) (bg rfl rfl) em) hm)) rfl)))),hv,by lia⟩
noncomputable def ahead (d:D) (n:Int) (e:D) (m:Int):Bool:=decide (cmp d e < 0)||(decide (cmp d e=0)&&decide (n < m))
theorem oI (d e:D) (n m:Int) (hd:Vl 40 d) (he:Vl 40 e):aW [.tup [d,.int n],.tup [e,.int m]]=.ok (.bl (ahead d n e m)):=by
 rw [mR,c9]
 exact aE ((au (aF (am (ac (aj rfl rfl bI) (ac (aj rfl rfl bI) rfl)) (compare d e (hd.mono (by decide)) (he.mono (by decide)))))).trans (ay (zm (aj rfl rfl u6) (yc (aj rfl rfl jW) (aj (aj rfl rfl bE) (aj rfl rfl bE) u6)))))
noncomputable def keyOf:D→Int→List D
 | .non,n=>[.int 0,.int 0,.str "",.int n]
 | .str z,n=>[.int 2,.int 0,.str z,.int n]
 | .int i,n=>[.int 1,.int i,.str "",.int n]
 | _,_=>[]
theorem key (d:D) (n:Int) (hd:Vl 40 d):iw [.tup [d,.int n]]=.ok (.tup (keyOf d n)):=by
 rw [xm,mL]
 cases d with
 | non=>exact aE (bQ ((bi (aI (aj (aj rfl rfl bI) rfl rfl))).trans (ay (bq (ds:=[.int 0,.int 0,.str "",.int n]) (ac rfl (ac rfl (ac rfl (ac (aj rfl rfl bE) rfl))))))))
 | int i=>exact aE ((skip (aI (aj (aj rfl rfl bI) rfl rfl))).trans ((skip (bV (gf (aj rfl rfl bI) (tz.trans (rf (by decide +kernel)))) rfl)).trans (ay (bq (ds:=[.int 1,.int i,.str "",.int n]) (ac rfl (ac (aj rfl rfl bI) (ac rfl (ac (aj rfl rfl bE) rfl))))))))
 | str z=>exact aE ((skip (aI (aj (aj rfl rfl bI) rfl rfl))).trans (bQ ((bi (bV (gf (aj rfl rfl bI) (wQ.trans (rf (by decide +kernel)))) rfl)).trans (ay (bq (ds:=[.int 2,.int 0,.str z,.int n]) (ac rfl (ac rfl (ac (aj rfl rfl bI) (ac (aj rfl rfl bE) rfl)))))))))
 | _=>exact hd.elim
theorem sok (x:Str) (h:∀ c∈x.cps.toList,c∈tab):PyData.strOk x=true:=by
 have hr:∀ c∈tab,32≤c∧c≤126:=by decide +kernel
 show x.cps.all (· < 0x110000)=true
 rw [← Array.all_toList,List.all_eq_true]
 intro c hc
 have:=hr c (h c hc)
 simp
 lia
noncomputable def dW (k:K4):D:=if k.1=0 then .non else if k.1=1 then .int k.2.1 else .str ⟨k.2.2.1.toArray⟩
theorem un (k:K4):ag k=.tup [dW k,.int k.2.2.2]:=by
 unfold ag dW
 split
 ·rfl
 ·split <;> rfl
structure Ok (k:K4):Prop where
 v:Vl 40 (dW k)
 e:entKey (ag k)=some k
theorem Ok.of {v:D} {n:Int} {k:K4} (h:entKey (.tup [v,.int n])=some k) (hv:Vl 40 v):Ok k:=by
 have e:=jj h
 have e2:=e
 rw [un] at e2
 have:dW k=v:=by injection e2 with e3;injection e3
 exact ⟨this ▸ hv,e ▸ h⟩
theorem Ok.make (v:D) (n:Int) (hv:Vl 40 v):∃ k,Ok k∧ag k=.tup [v,.int n]:=by
 cases v with
 | non=>exact ⟨_,Ok.of rfl hv,jj rfl⟩
 | int i=>exact ⟨_,Ok.of rfl hv,jj rfl⟩
 | str z=>exact ⟨_,Ok.of rfl hv,jj rfl⟩
 | _=>exact hv.elim
theorem Ok.inj {k l:K4} (h:Ok k) (g:Ok l) (e:ag k=ag l):k=l:=Option.some.inj (h.e.symm.trans ((congrArg entKey e).trans g.e))
theorem Ok.key {k:K4} (h:Ok k):keyK (iw [ag k])=some k:=by
 have e:=h.e
 rw [un] at e ⊢
 rw [T26.key _ _ h.v]
 rw [← e]
 have hv:=h.v
 cases q:dW k with
 | non=>rfl
 | int i=>rfl
 | str z=>rfl
 | _=>rw [q] at hv;exact hv.elim
theorem keys:∀ {l:List K4},(∀ k∈l,Ok k)→keysG keyK iw (l.map ag)=some l
 | [],_=>rfl
 | k::r,h=>by
  have hk:=h k (by simp)
  rw [List.map_cons,keysG,hk.e,keys fun x hx=>h x (List.mem_cons_of_mem _ hx)]
  dsimp only
  rw [if_pos hk.key]
noncomputable def pyV:D→PyData
 | .int i=>.int i
 | .str z=>.str z
 | _=>.none
theorem yw {v:D} (h:Vl 40 v):toPy v=some (pyV v):=by
 cases v with
 | non=>rfl
 | int i=>rfl
 | str z=>rfl
 | _=>exact h.elim
theorem AK {v:D} (h:Vl 40 v):(pyV v).canLay0=true∧(pyV v).depth=0:=by
 cases v with
 | non=>exact ⟨rfl,rfl⟩
 | int i=>exact ⟨rfl,rfl⟩
 | str z=>exact ⟨sok z h.2,rfl⟩
 | _=>exact h.elim
noncomputable def eqV:D→D→Bool
 | .non,.non=>true
 | .int i,.int j=>decide (i=j)
 | .str x,.str z=>decide (x=z)
 | _,_=>false
theorem An {v w:D} (h:Vl 40 v) (g:Vl 40 w):PyData.eqv (pyV v) (pyV w)=eqV v w:=by
 cases v with
 | non=>cases w with
  | non=>rfl
  | int i=>rfl
  | str z=>rfl
  | _=>exact g.elim
 | int i=>cases w with
  | non=>rfl
  | int j=>show (i==j)=decide (i=j);first|rfl|(rw [Bool.eq_iff_iff];simp)
  | str z=>rfl
  | _=>exact g.elim
 | str x=>cases w with
  | non=>rfl
  | int i=>rfl
  | str z=>show (x==z)=decide (x=z);first|rfl|(rw [Bool.eq_iff_iff];simp)
  | _=>exact g.elim
 | _=>exact h.elim
theorem kf {v:D} (h:Vl 40 v):eqV v v=true:=by
 cases v with
 | non=>rfl
 | int i=>exact decide_eq_true rfl
 | str z=>exact decide_eq_true rfl
 | _=>exact h.elim
theorem lr {v w:D} (hv:Vl 40 v) (hw:Vl 40 w) (h:v≠w):eqV v w=false:=by
 cases v with
 | non=>cases w with
  | non=>exact absurd rfl h
  | int i=>rfl
  | str z=>rfl
  | _=>exact hw.elim
 | int i=>cases w with
  | non=>rfl
  | int j=>exact decide_eq_false fun z=>h (congrArg D.int z)
  | str z=>rfl
  | _=>exact hw.elim
 | str x=>cases w with
  | non=>rfl
  | int i=>rfl
  | str z=>exact decide_eq_false fun q=>h (congrArg D.str q)
  | _=>exact hw.elim
 | _=>exact hv.elim
noncomputable def pyK (k:K4):PyData:=.tuple [pyV (dW k),.int k.2.2.2]
theorem Ok.py {k:K4} (h:Ok k):toPy (ag k)=some (pyK k):=by
 rw [un,toPy,toPys,yw h.v];rfl
theorem Ok.lay {k:K4} (h:Ok k):(pyK k).canLay0=true∧(pyK k).depth=1:=by
 obtain ⟨h1,h2⟩:=AK h.v
 unfold pyK
 rw [PyData.canLay0,PyData.canLayAll0,h1,PyData.depth,PyData.depthAll,h2]
 exact ⟨rfl,rfl⟩
theorem Ok.shaped {k:K4} (h:Ok k):SeqAt.shaped (pyK k)=true:=by
 unfold SeqAt.shaped
 rw [h.lay.1,decide_eq_true (by rw [h.lay.2];lia)]
 rfl
theorem Ok.eqv {k l:K4} (h:Ok k) (g:Ok l):PyData.eqv (pyK k) (pyK l)=decide (k=l):=by
 show (PyData.eqv (pyV (dW k)) (pyV (dW l))&&((k.2.2.2==l.2.2.2)&&true))=_
 rw [An h.v g.v]
 by_cases e:k=l
 ·subst e;rw [kf h.v];simp
 ·rw [decide_eq_false e]
  by_cases q:dW k=dW l
  ·by_cases q2:k.2.2.2=l.2.2.2
   ·exact absurd (h.inj g (by rw [un,un,q,q2])) e
   ·simp [q2]
  ·rw [lr h.v g.v q];rfl
theorem Ok.deep {k l:K4} (h:Ok k) (g:Ok l):eqO (ag k) (ag l)=some (decide (k=l)):=by
 have e:eqO (ag k) (ag l)=deepEq (ag k) (ag l):=by rw [un,un];rfl
 rw [e,deepEq,h.py,g.py]
 dsimp only
 rw [if_pos ⟨h.shaped,g.shaped⟩,h.eqv g]
theorem Ok.ne {k l:K4} (h:Ok k) (g:Ok l):neD (ag k) (ag l)=.ok (.bl (!decide (k=l))):=by
 unfold neD;rw [h.deep g];rfl
theorem pys:∀ {ls:List K4},(∀ k∈ls,Ok k)→toPys (ls.map ag)=some (ls.map pyK)
 | [],_=>rfl
 | k::r,h=>by
  rw [List.map_cons,toPys,(h k (by simp)).py,pys fun x hx=>h x (List.mem_cons_of_mem _ hx)];rfl
theorem yO {k:K4} (h:Ok k):∀ {ls:List K4},(∀ k∈ls,Ok k)→deepAny (pyK k) (ls.map pyK)=some (decide (k∈ls))
 | [],_=>rfl
 | l::r,g=>by
  have gl:=g l (by simp)
  rw [List.map_cons,deepAny,if_pos ⟨gl.shaped,by rw [gl.lay.2];lia⟩,yO h fun x hx=>g x (List.mem_cons_of_mem _ hx),gl.eqv h]
  show some _=some _
  congr 1
  by_cases e:l=k
  ·subst e;simp
  ·have e':¬ k=l:=fun z=>e z.symm
   simp [e,e']
theorem Ok.mem {k:K4} (h:Ok k) {ls:List K4} (g:∀ k∈ls,Ok k):inQD (ag k) (.tup (ls.map ag))=.ok (.bl (decide (k∈ls))):=by
 have e:inQO (ag k) (.tup (ls.map ag))=some (decide (k∈ls)):=by
  show deepIn _ _=_
  rw [deepIn,h.py,pys g]
  dsimp only
  rw [if_pos h.shaped,yO h g]
 unfold inQD;rw [e];rfl
theorem depths:∀ {ls:List K4},(∀ k∈ls,Ok k)→PyData.canLayAll0 (ls.map pyK)=true∧PyData.depthAll (ls.map pyK)≤1
 | [],_=>⟨rfl,Nat.zero_le _⟩
 | k::r,h=>by
  have hk:=(h k (by simp)).lay
  obtain ⟨h1,h2⟩:=depths fun x hx=>h x (List.mem_cons_of_mem (a:=x) _ hx)
  rw [List.map_cons,PyData.canLayAll0,PyData.depthAll,hk.1,h1,hk.2]
  exact ⟨rfl,Nat.max_le.mpr ⟨Nat.le_refl _,h2⟩⟩
theorem pV {ls:List K4} (h:∀ k∈ls,Ok k):eqO (.lst (ls.map ag)) (.lst [])=some (decide (ls=[])):=by
 have e:eqO (.lst (ls.map ag)) (.lst [])=deepEq (.lst (ls.map ag)) (.lst []):=rfl
 have e1:toPy (.lst (ls.map ag))=some (.list (ls.map pyK)):=by rw [toPy,pys h];rfl
 have e2:toPy (.lst [])=some (.list []):=rfl
 obtain ⟨h1,h2⟩:=depths h
 have hs:SeqAt.shaped (.list (ls.map pyK))=true:=by
  unfold SeqAt.shaped
  rw [PyData.canLay0,h1,PyData.depth,decide_eq_true (by lia)]
  rfl
 rw [e,deepEq,e1,e2]
 dsimp only
 rw [if_pos ⟨hs,by decide⟩]
 cases ls with
 | nil=>rfl
 | cons k r=>rfl
theorem ne_nil {ls:List K4} (h:∀ k∈ls,Ok k):neD (.lst (ls.map ag)) (.lst [])=.ok (.bl (!decide (ls=[]))):=by
 unfold neD;rw [pV h];rfl
theorem eq_nil {ls:List K4} (h:∀ k∈ls,Ok k):eqD (.lst (ls.map ag)) (.lst [])=.ok (.bl (decide (ls=[]))):=by
 unfold eqD;rw [pV h];rfl
theorem u0 (k:K4):ixD (ag k) (.int 0)=.ok (dW k):=by rw [un];exact bI
theorem u1 (k:K4):ixD (ag k) (.int 1)=.ok (.int k.2.2.2):=by rw [un];exact bE
theorem mx {k:K4} (h:Ok k) (e:dW k=.non):k=(0,0,[],k.2.2.2):=by
 have:=h.e;rw [un,e] at this;exact (Option.some.inj this).symm
theorem mE {k:K4} (h:Ok k) {i:Int} (e:dW k=.int i):k=(1,i,[],k.2.2.2):=by
 have:=h.e;rw [un,e] at this;exact (Option.some.inj this).symm
theorem mw {k:K4} (h:Ok k) {z:Str} (e:dW k=.str z):k=(2,0,z.cps.toList,k.2.2.2):=by
 have:=h.e;rw [un,e] at this;exact (Option.some.inj this).symm
theorem lt0 (n m:Int):ahead .non n .non m=decide (Lt4 (0,0,[],n) (0,0,[],m)):=by simp [ahead,cmp,Lt4]
theorem lt1 (i j n m:Int):ahead (.int i) n (.int j) m=decide (Lt4 (1,i,[],n) (1,j,[],m)):=by
 show (decide (cmpI i j < 0)||(decide (cmpI i j=0)&&decide (n < m)))=_
 unfold cmpI
 by_cases h:i=j
 ·simp [h,Lt4]
 ·by_cases h2:i < j
  ·simp [h,h2,Lt4]
  ·simp [h,h2,Lt4]
theorem lt2 (x z:Str) (n m:Int):ahead (.str x) n (.str z) m=decide (Lt4 (2,0,x.cps.toList,n) (2,0,z.cps.toList,m)):=by
 show (decide (cmpL x.cps.toList z.cps.toList < 0)||(decide (cmpL x.cps.toList z.cps.toList=0)&&decide (n < m)))=_
 unfold cmpL
 generalize x.cps.toList=a
 generalize z.cps.toList=b
 by_cases h:a=b
 ·subst h
  have:=TS.tH.irr a
  simp [Lt4,this]
 ·by_cases h2:a < b
  ·simp [h,h2,Lt4]
  ·simp [h,h2,Lt4]
theorem Ok.kx {k:K4} (h:Ok k):kx (dW k)=k.1:=by
 have hv:=h.v
 cases q:dW k with
 | non=>rw [mx h q];rfl
 | int i=>rw [mE h q];rfl
 | str z=>rw [mw h q];rfl
 | _=>rw [q] at hv;exact hv.elim
theorem Ok.ahead {k l:K4} (h:Ok k) (g:Ok l):aW [ag k,ag l]=.ok (.bl (decide (Lt4 k l))):=by
 have hv:=h.v
 have gv:=g.v
 rw [un,un,oI _ _ _ _ hv gv]
 congr 2
 by_cases e:k.1=l.1
 ·rw [← h.kx,← g.kx] at e
  cases q:dW k with
  | non=>cases p:dW l with
   | non=>rw [mx h q,mx g p];exact lt0 _ _
   | int j=>rw [q,p] at e;cases e
   | str z=>rw [q,p] at e;cases e
   | _=>rw [p] at gv;exact gv.elim
  | int i=>cases p:dW l with
   | non=>rw [q,p] at e;cases e
   | int j=>rw [mE h q,mE g p];exact lt1 _ _ _ _
   | str z=>rw [q,p] at e;cases e
   | _=>rw [p] at gv;exact gv.elim
  | str x=>cases p:dW l with
   | non=>rw [q,p] at e;cases e
   | int j=>rw [q,p] at e;cases e
   | str z=>rw [mw h q,mw g p];exact lt2 _ _ _ _
   | _=>rw [p] at gv;exact gv.elim
  | _=>rw [q] at hv;exact hv.elim
 ·obtain ⟨a,k⟩:=k
  obtain ⟨b,l⟩:=l
  have c:=vK (hv.mono (by decide)) (gv.mono (by decide)) (by rw [h.kx,g.kx];exact e)
  rw [h.kx,g.kx] at c
  have e:a≠b:=e
  have c:cmp (dW (a,k)) (dW (b,l))=if a < b then -1 else 1:=c
  have e5:decide (Lt4 (a,k) (b,l))=decide (a < b):=decide_eq_decide.mpr (TS.l1 e)
  rw [e5]
  unfold T26.ahead
  rw [c]
  by_cases q:a < b
  ·simp [q]
  ·simp [q]
theorem t0 (i:Int):dj [.int i]=.ok (.bl true):=by
 rw [sR,iL]
 exact aE (ay (lU (gf rfl (tz.trans (rf (by decide +kernel)))) (xD (b:=false) (gf rfl (tz.trans (rf (by decide +kernel)))))))
theorem ky {φ:FE} {δ:Sd} {b:Bool} (h:φ δ=.ok (.bl b)):iC (eT φ) δ=.ok (!b):=v6 (bV h rfl)
noncomputable def isS:D→Bool
 | .str _=>true
 | _=>false
theorem rD {v:D} (h:Vl 40 v):iE [v,.ty "str"]=.ok (.bl (isS v)):=by
 cases v with
 | non=>exact As.trans (rf (b:=false) (by decide +kernel))
 | int i=>exact tz.trans (rf (b:=false) (by decide +kernel))
 | str z=>exact wQ.trans (rf (b:=true) (by decide +kernel))
 | _=>exact h.elim
theorem r9 {v w:D} {n:Int} (hv:Vl 40 v) (hw:Vl 40 w):(aK (sIf (qOr (qBl (vOp isD (vOp ixD (ai 1) (vC (.int 0))) (vC .non))) (qBl (vOp isD (vOp ixD (ai 0) (vC (.int 0))) (vC .non)))) (bv (vAnd (vOp isD (vOp ixD (ai 0) (vC (.int 0))) (vC .non)) (vOp isD (vOp ixD (ai 1) (vC (.int 0))) (vC .non)))) bb) (aK (sIf (qBl (vOp neD (ao iE (ae (vOp ixD (ai 0) (vC (.int 0))) (ae (vC (.ty "str")) av))) (ao iE (ae (vOp ixD (ai 1) (vC (.int 0))) (ae (vC (.ty "str")) av))))) (bv (vC (.bl false))) bb) (bv (vAnd (vOp eqD (vOp ixD (ai 0) (vC (.int 0))) (vOp ixD (ai 1) (vC (.int 0)))) (vOr (ao iE (ae (vOp ixD (ai 0) (vC (.int 0))) (ae (vC (.ty "str")) av))) (ao dj (ae (vOp ixD (ai 0) (vC (.int 0))) av))))))) [some (.tup [v,.int n]),some (.tup [w,.int n])]=.ok (.rt (.bl (eqV v w))):=by
 have a0:vOp ixD (ai 0) (vC (.int 0)) [some (.tup [v,.int n]),some (.tup [w,.int n])]=.ok v:=aj rfl rfl bI
 have a1:vOp ixD (ai 1) (vC (.int 0)) [some (.tup [v,.int n]),some (.tup [w,.int n])]=.ok w:=aj rfl rfl bI
 by_cases hn:w=.non
 ·subst hn
  refine bQ ((bi (zR (aI (aj a1 rfl rfl)))).trans ?_)
  by_cases hm:v=.non
  ·subst hm;exact ay (lU (aj a0 rfl rfl) (aj a1 rfl rfl))
  ·rw [lr hv hw hm]
   refine ay (qi (aj a0 rfl ?_))
   cases v with
   | non=>exact absurd rfl hm
   | int i=>rfl
   | str z=>rfl
   | _=>exact hv.elim
 ·have n1:isD w .non=.ok (.bl false):=by
   cases w with
   | non=>exact absurd rfl hn
   | int i=>rfl
   | str z=>rfl
   | _=>exact hw.elim
  by_cases hm:v=.non
  ·subst hm
   rw [lr hv hw fun z=>hn z.symm]
   exact bQ ((bi (m9 (aI (aj a1 rfl n1)) (aI (aj a0 rfl rfl)))).trans (ay (lU (aj a0 rfl rfl) (aj a1 rfl n1))))
  ·have n0:isD v .non=.ok (.bl false):=by
    cases v with
    | non=>exact absurd rfl hm
    | int i=>rfl
    | str z=>rfl
    | _=>exact hv.elim
   refine (skip (m9 (aI (aj a1 rfl n1)) (aI (aj a0 rfl n0)))).trans ?_
   by_cases hs:isS v=isS w
   ·refine (skip (aI (aj (gf a0 (rD hv)) (gf a1 (rD hw)) (xZ.trans (by rw [decide_eq_true hs];rfl))))).trans ?_
    cases v with
    | non=>exact absurd rfl hm
    | int i=>cases w with
     | non=>exact absurd rfl hn
     | str z=>cases hs
     | int j =>
      by_cases e:i=j
      ·subst e
       rw [kf hv]
       exact ay (lU (aj a0 a1 (jW.trans (by rw [decide_eq_true rfl]))) (zh (gf a0 (rD hv)) (am (ac a0 rfl) (t0 i))))
      ·rw [lr hv hw fun z=>e (by injection z)]
       exact ay (qi (aj a0 a1 (jW.trans (by rw [decide_eq_false e]))))
     | _=>exact hw.elim
    | str x=>cases w with
     | non=>exact absurd rfl hn
     | int i=>cases hs
     | str z =>
      by_cases e:x=z
      ·subst e
       rw [kf hv]
       exact ay (lU (aj a0 a1 (fV.trans (by rw [decide_eq_true rfl]))) (yj (gf a0 (rD hv))))
      ·rw [lr hv hw fun z=>e (by injection z)]
       exact ay (qi (aj a0 a1 (fV.trans (by rw [decide_eq_false e]))))
     | _=>exact hw.elim
    | _=>exact hv.elim
   ·rw [lr hv hw fun z=>hs (by rw [z])]
    exact bQ ((bi (aI (aj (gf a0 (rD hv)) (gf a1 (rD hw)) (xZ.trans (by rw [decide_eq_false hs];rfl))))).trans rfl)
theorem Ok.same {k l:K4} (h:Ok k) (g:Ok l):c8 [ag k,ag l]=.ok (.bl (decide (k=l))):=by
 rw [vA,j3]
 refine aE ?_
 have hn:qOr (iC (eT (ao iE (ae (ai 0) (ae (vC (.ty "tuple")) av))))) (qOr (qBl (vOp neD (ao lenD (ae (ai 0) av)) (vC (.int 2)))) (qOr (iC (eT (ao dj (ae (vOp ixD (ai 0) (vC (.int 1))) av)))) (qBl (vOp neD (vOp ixD (ai 0) (vC (.int 1))) (vOp ixD (ai 1) (vC (.int 1))))))) [some (ag k),some (ag l)]=.ok (!decide (k.2.2.2=l.2.2.2)) :=
  m9 (ky (b:=true) (gf rfl (by rw [un];exact xo.trans (rf (by decide +kernel))))) (m9 (aI (aj (bm rfl (by rw [un];exact oN)) rfl (rh.trans (by simp)))) (m9 (ky (b:=true) (am (ac (aj rfl rfl (u1 k)) rfl) (t0 _))) (aI (aj (aj rfl rfl (u1 k)) (aj rfl rfl (u1 l)) rh))))
 by_cases e:k.2.2.2=l.2.2.2
 ·rw [decide_eq_true e] at hn
  refine (skip hn).trans ?_
  have e2:decide (k=l)=eqV (dW k) (dW l):=by
   by_cases q:dW k=dW l
   ·rw [decide_eq_true (h.inj g (by rw [un,un,q,e])),q,kf g.v]
   ·rw [lr h.v g.v q,decide_eq_false fun z=>q (by rw [z])]
  rw [e2,un,un,e]
  exact r9 h.v g.v
 ·rw [decide_eq_false e] at hn
  rw [decide_eq_false fun z=>e (by rw [z])]
  exact bQ ((bi hn).trans rfl)
theorem iQ (n:Nat):hU 0 n=(List.range n).map fun (k:Nat)=>D.int (k:Int):=by
 unfold hU
 refine List.map_congr_left fun k _=>?_
 rw [Int.zero_add]
noncomputable def newAt (ss:List K4) (i:Nat):Bool:=decide (i=0)||!decide (ss[i]?=ss[i - 1]?)
structure Rows (rs:List K4):Prop where
 s:rs.Pairwise Lt4
 o:∀ k∈rs,Ok k
theorem w9 {ss:List K4} (hs:ss.Pairwise fun x y=>¬ Lt4 y x) (ho:∀ k∈ss,Ok k):Rows (((List.range ss.length).filter (newAt ss)).map fun i=>ss.getD i (0,0,[],0)):=by
 refine ⟨?_,fun k hk=>?_⟩
 ·rw [List.pairwise_map]
  refine List.Pairwise.imp_of_mem (R:=fun a b:Nat=>a < b) (fun {i j} hi hj hij=>?_) (List.pairwise_lt_range.filter _)
  have hi':=List.mem_range.mp (List.mem_filter.mp hi).1
  obtain ⟨hj1,hj2⟩:=List.mem_filter.mp hj
  have hj':=List.mem_range.mp hj1
  have hp:=List.pairwise_iff_getElem.mp hs
  have hne:ss[j]≠ss[j - 1]:=by
   intro z
   unfold newAt at hj2
   rw [decide_eq_false (show ¬ j=0 by lia),List.getElem?_eq_getElem hj',List.getElem?_eq_getElem (show j - 1 < ss.length by lia),z] at hj2
   simp at hj2
  have h1:=hp (j - 1) j (by lia) hj' (by lia)
  have h2:Lt4 ss[j - 1] ss[j]:=by
   rcases TS.to4.tri ss[j - 1] ss[j] with q|q|q
   ·exact q
   ·exact absurd q.symm hne
   ·exact absurd q h1
  rw [List.getD_eq_getElem?_getD,List.getD_eq_getElem?_getD,List.getElem?_eq_getElem hi',List.getElem?_eq_getElem hj']
  show Lt4 ss[i] ss[j]
  by_cases e:i=j - 1
  ·subst e;exact h2
  ·have h3:=hp i (j - 1) hi' (by lia) (by lia)
   rcases TS.to4.tri ss[i] ss[j - 1] with q|q|q
   ·exact TS.to4.tr _ _ _ q h2
   ·rw [q];exact h2
   ·exact absurd q h3
 ·obtain ⟨i,hi,rfl⟩:=List.mem_map.mp hk
  have hi':=List.mem_range.mp (List.mem_filter.mp hi).1
  rw [List.getD_eq_getElem?_getD,List.getElem?_eq_getElem hi']
  exact ho _ (List.getElem_mem hi')
theorem yK {ss:List K4} (k:K4):k∈((List.range ss.length).filter (newAt ss)).map (fun i=>ss.getD i (0,0,[],0)) ↔ k∈ss:=by
 constructor
 ·intro hk
  obtain ⟨i,hi,rfl⟩:=List.mem_map.mp hk
  have hi':=List.mem_range.mp (List.mem_filter.mp hi).1
  rw [List.getD_eq_getElem?_getD,List.getElem?_eq_getElem hi']
  exact List.getElem_mem hi'
 ·intro hk
  obtain ⟨i,hi,e⟩:=List.mem_iff_getElem.mp hk
  have main:∀ i,(hi:i < ss.length)→ss[i]=k→∃ j,j < ss.length∧newAt ss j=true∧ss.getD j (0,0,[],0)=k:=by
   intro i
   induction i with
   | zero=>exact fun hi e=>⟨0,hi,rfl,by rw [List.getD_eq_getElem?_getD,List.getElem?_eq_getElem hi];exact e⟩
   | succ i ih =>
    intro hi e
    by_cases q:ss[i+1]=ss[i]
    ·exact ih (by lia) (q ▸ e)
    ·refine ⟨i+1,hi,?_,by rw [List.getD_eq_getElem?_getD,List.getElem?_eq_getElem hi];exact e⟩
     unfold newAt
     rw [Nat.add_sub_cancel,List.getElem?_eq_getElem hi,List.getElem?_eq_getElem (show i < ss.length by lia),decide_eq_false (show ¬ some ss[i+1]=some ss[i] from fun z=>q (Option.some.inj z))]
     simp
  obtain ⟨j,h1,h2,h3⟩:=main i hi e
  exact List.mem_map.mpr ⟨j,List.mem_filter.mpr ⟨List.mem_range.mpr h1,h2⟩,h3⟩
theorem once {xs:List K4} (ho:∀ k∈xs,Ok k) (hl:xs.length≤1000):∃ rs:List K4,jd [.lst (xs.map ag)]=.ok (.lst (rs.map ag))∧Rows rs∧rs.length≤xs.length∧∀ k,k∈rs ↔ k∈xs:=by
 have e1:sortG keyK iw [.lst (xs.map ag)]=.ok (.lst ((xs.mergeSort le4).map ag)):=by
  unfold sortG
  dsimp only
  rw [if_pos (by rw [List.length_map];lia),keys ho]
 have hp:=List.mergeSort_perm xs le4
 have hs:(xs.mergeSort le4).Pairwise fun x y=>¬ Lt4 y x:=jE xs
 have ho':∀ k∈xs.mergeSort le4,Ok k:=fun k hk=>ho k (hp.mem_iff.mp hk)
 have hln:(xs.mergeSort le4).length=xs.length:=hp.length_eq
 generalize xs.mergeSort le4=ss at *
 refine ⟨_,?_,w9 hs ho',by rw [List.length_map];exact Nat.le_trans (List.length_filter_le _ _) (by rw [List.length_range];lia),fun k=>(yK k).trans hp.mem_iff⟩
 rw [vt,ki,List.map_map]
 refine aE ((au (aF (am (ac rfl rfl) e1))).trans (ay (cX (lm (bm rfl (g6 _ _)) (by lia)) ?_)))
 rw [iQ]
 refine kR _ _ _ _ (fun i hi=>?_) (fun i hi _=>?_) (by rw [List.length_range];lia)
 ·have hi':=List.mem_range.mp hi
  by_cases e:i=0
  ·subst e;exact zR (aI (aj rfl rfl (jW.trans rfl)))
  ·have hj:i - 1 < ss.length:=by lia
   have e3:newAt ss i=!decide (ss[i]=ss[i - 1]):=by
    unfold newAt
    rw [decide_eq_false e,List.getElem?_eq_getElem hi',List.getElem?_eq_getElem hj]
    simp
   rw [e3]
   refine m9 (aI (aj rfl rfl (jW.trans (by rw [decide_eq_false (by lia)])))) (aI (aj (aj rfl rfl (jU _ _ (List.getElem?_eq_getElem hi'))) (aj rfl (fe rfl rfl) ?_) ((ho' _ (List.getElem_mem hi')).ne (ho' _ (List.getElem_mem hj)))))
   have e4:(i:Int) - 1=((i - 1:Nat):Int):=by lia
   rw [e4]
   exact jU _ _ (List.getElem?_eq_getElem hj)
 ·have hi':=List.mem_range.mp hi
  refine aj rfl rfl ?_
  show _=R.ok (ag (ss.getD i (0,0,[],0)))
  rw [List.getD_eq_getElem?_getD,List.getElem?_eq_getElem hi']
  exact jU _ _ (List.getElem?_eq_getElem hi')
theorem we (a b:D):∀ (js:List Nat) (xs:List Int) (x:Int) (o:Option D),xs.length+js.length≤1000→(∀ y∈xs,0≤y∧y < 2147483647) →
  ∃ (ys:List Int) (x':Int) (o':Option D),forD (.one 4) sB (js.map fun (k:Nat)=>D.int (k:Int)) [some a,some b,some (.lst (xs.map D.int)),some (.int x),o]=.ok (.nx [some a,some b,some (.lst (ys.map D.int)),some (.int x'),o'])∧ys.length=xs.length+js.length∧(∀ y∈ys,0≤y∧y < 2147483647)
 | [],xs,x,o,_,h=>⟨xs,x,o,rfl,rfl,h⟩
 | j::r,xs,x,o,hl,h=>by
  rw [List.length_cons] at hl
  have b0:0≤(x*48271+11+(j:Int)) % 2147483647:=Int.emod_nonneg _ (by decide)
  have b1:(x*48271+11+(j:Int)) % 2147483647 < 2147483647:=Int.emod_lt_of_pos _ (by decide)
  obtain ⟨ys,x',o',e,h1,h2⟩:=we a b r (xs++[(x*48271+11+(j:Int)) % 2147483647]) ((x*48271+11+(j:Int)) % 2147483647) (some (.int (j:Int))) (by rw [List.length_append];simp;lia) (fun y hy=>by
   rcases List.mem_append.mp hy with z|z
   ·exact h y z
   ·obtain rfl:y=_:=by simpa using z
    exact ⟨b0,b1⟩)
  refine ⟨ys,x',o',?_,by rw [h1,List.length_append];simp;lia,h2⟩
  rw [← e,List.map_cons,List.map_append]
  exact dJ ((au (aF (bg (cg (cg (iO rfl rfl) rfl) rfl) rfl))).trans (kC (xs:=xs.map D.int) rfl rfl (by rw [List.length_map];lia)))
theorem stream (c:Int) (m:Nat) (hm:m≤1000):∃ ys:List Int,gN [.int c,.int (m:Int)]=.ok (.lst (ys.map D.int))∧ys.length=m∧∀ y∈ys,0≤y∧y < 2147483647:=by
 obtain ⟨ys,x',o',e,h1,h2⟩:=we (.int c) (.int (m:Int)) (List.range m) [] (c % 2147483647) none (by simp;lia) (fun y hy=>by cases hy)
 refine ⟨ys,?_,by rw [h1];simp,h2⟩
 rw [q5,gO]
 rw [← iQ] at e
 exact aE ((au (fc (bh rfl))).trans ((au (aF (bg rfl rfl))).trans ((au (eH (lm rfl (by lia)) e)).trans (ay rfl))))
theorem entries {ys:List Int} (h:∀ y∈ys,0≤y∧y < 2147483647) (hl:ys.length≤1000):∃ ks:List K4,bX (.one 0) qYes (ao cT (ae (ai 0) av)) [none] (ys.map D.int)=.ok (.lst (ks.map ag))∧ks.length=ys.length∧∀ k∈ks,Ok k:=by
 have:∃ ks:List K4,compD (.one 0) qYes (ao cT (ae (ai 0) av)) [none] (ys.map D.int)=.ok (ks.map ag)∧ks.length=ys.length∧∀ k∈ks,Ok k:=by
  clear hl
  induction ys with
  | nil=>exact ⟨[],rfl,rfl,fun k hk=>by cases hk⟩
  | cons y r ih =>
   obtain ⟨ks,e,h1,h2⟩:=ih fun z hz=>h z (List.mem_cons_of_mem _ hz)
   have hy:=h y (by simp)
   obtain ⟨d,n,e1,hv,_⟩:=entry y hy.1 (by lia)
   obtain ⟨k,hk,e2⟩:=Ok.make d n hv
   refine ⟨k::ks,?_,by rw [List.length_cons,List.length_cons,h1],fun x hx=>?_⟩
   ·show ((ao cT (ae (ai 0) av)) [some (.int y)]).bind _=_
    rw [am (ac rfl rfl) e1,aD,e,List.map_cons,e2];rfl
   ·rcases List.mem_cons.mp hx with z|z
    ·exact z ▸ hk
    ·exact h2 x z
 obtain ⟨ks,e,h⟩:=this
 exact ⟨ks,pA rfl (by rw [List.length_map];lia) e,h⟩
theorem pP {xs:List D} {i:Int} (h:0≤i):cutD xs none (some i)=xs.take i.toNat:=by
 obtain ⟨n,rfl⟩:∃ n:Nat,i=(n:Int):=⟨i.toNat,by lia⟩
 unfold cutD
 rw [HT.qx,HT.jC,Int.toNat_natCast,List.drop_zero,Nat.sub_zero,List.take_eq_take_iff]
 lia
theorem qm {xs:List D} {i:Int} (h:0≤i):cutD xs (some i) none=xs.drop i.toNat:=by
 obtain ⟨n,rfl⟩:∃ n:Nat,i=(n:Int):=⟨i.toNat,by lia⟩
 unfold cutD
 rw [HT.qx,HT.jC,Int.toNat_natCast]
 by_cases q:n≤xs.length
 ·rw [Nat.min_eq_left q,List.take_of_length_le (by rw [List.length_drop];lia)]
 ·rw [Nat.min_eq_right (by lia),List.drop_eq_nil_of_le (Nat.le_refl _),List.drop_eq_nil_of_le (by lia),List.take_nil]
noncomputable def hd (ks:List K4):K4:=ks.headD (0,0,[],0)
noncomputable def aX (p:List K4×D):D:=.tup [ag (hd p.1),p.2]
noncomputable def brN (q:List (List K4×D)):List K4×D:=((q.map Prod.fst).flatten,.tup [.str "branch",.tup (q.map aX)])
noncomputable def lfN (ks:List K4):List K4×D:=(ks,.tup [.str "leaf",.tup (ks.map ag)])
noncomputable def Nd:Nat→Nat→List K4×D→Prop
 | 0,lo,q=>lo≤q.1.length∧q.1.length≤8∧q=lfN q.1
 | h+1,lo,q=>∃ ps:List (List K4×D),lo≤ps.length∧ps.length≤8∧(∀ p∈ps,Nd h 4 p)∧q=brN ps
noncomputable def rt:Nat→Nat
 | 0=>0
 | _+1=>2
theorem tI {c:Nat}:∀ {ps:List (List K4×D)},(∀ p∈ps,c≤p.1.length)→ps.length*c≤((ps.map Prod.fst).flatten).length
 | [],_=>by simp
 | p::r,h=>by
  have h1:=h p (by simp)
  have h2:=tI fun x hx=>h x (List.mem_cons_of_mem (a:=x) _ hx)
  rw [List.map_cons,List.flatten_cons,List.length_append,List.length_cons,Nat.add_mul,Nat.one_mul]
  lia
theorem Nd.many:∀ {h lo:Nat} {q:List K4×D},Nd h lo q→lo*4 ^ h≤q.1.length
 | 0,lo,q,hq=>by rw [Nat.pow_zero,Nat.mul_one];exact hq.1
 | h+1,lo,q,⟨ps,h1,h2,h3,h4⟩=>by
  subst h4
  have:=tI fun p hp=>(h3 p hp).many
  refine Nat.le_trans ?_ this
  rw [Nat.pow_succ,Nat.mul_comm (4 ^ h) 4]
  exact Nat.mul_le_mul_right _ h1
theorem Nd.pos {h lo:Nat} {q:List K4×D} (hq:Nd h lo q) (hl:1≤lo):q.1≠[]:=fun z=>by
 have:=hq.many
 rw [z] at this
 have h2:1≤lo*4 ^ h:=Nat.mul_pos hl (Nat.pow_pos (by decide))
 simp at this
 lia
theorem Nd.mono:∀ {h lo lo':Nat} {q:List K4×D},Nd h lo q→lo'≤lo→Nd h lo' q
 | 0,_,_,_,⟨a,b,c⟩,hl=>⟨Nat.le_trans hl a,b,c⟩
 | _+1,_,_,_,⟨ps,a,b,c,d⟩,hl=>⟨ps,Nat.le_trans hl a,b,c,d⟩
theorem xh {p:List K4×D} {r:List (List K4×D)} (h:p.1≠[]):hd (brN (p::r)).1=hd p.1:=by
 cases ep:p.1 with
 | nil=>exact absurd ep h
 | cons k ks=>show hd ((p.1::r.map Prod.fst).flatten)=_;rw [ep];rfl
theorem tF (pss:List (List (List K4×D))):((pss.map brN).map Prod.fst).flatten=(pss.flatten.map Prod.fst).flatten:=by
 rw [List.map_flatten,List.flatten_flatten,List.map_map,List.map_map];rfl
noncomputable def Tr:Nat→List K4→D→Prop
 | 0,ks,d=>d=.tup [.str "leaf",.tup (ks.map ag)]
 | h+1,ks,d=>∃ ps:List (List K4×D),ps≠[]∧(∀ p∈ps,p.1≠[]∧Tr h p.1 p.2)∧ks=(ps.map Prod.fst).flatten∧d=.tup [.str "branch",.tup (ps.map aX)]
theorem Nd.tr:∀ {h lo:Nat} {q:List K4×D},Nd h lo q→(h=0∨1≤lo)→Tr h q.1 q.2
 | 0,_,q,⟨_,_,e⟩,_=>by rw [e];rfl
 | h+1,lo,q,⟨ps,h1,_,h3,e⟩,hl=>by
  subst e
  refine ⟨ps,fun z=>?_,fun p hp=>⟨(h3 p hp).pos (by decide),(h3 p hp).tr (.inr (by decide))⟩,rfl,rfl⟩
  rw [z] at h1
  simp at h1
  lia
theorem qE (h:Nat):h=0∨1≤rt h:=by
 cases h with
 | zero=>exact .inl rfl
 | succ h=>exact .inr (by show 1≤2;lia)
noncomputable def cellD (c:D×List D):D:=.tup [c.1,.tup c.2]
theorem vH (a:D):∀ (cs:List (D×List D)) (xs:List D) (o:Option D),xs.length+((cs.map Prod.snd).flatten).length≤1000000 →
  ∃ o':Option D,forD (.one 2) tB (cs.map cellD) [some a,some (.lst xs),o]=.ok (.nx [some a,some (.lst (xs++(cs.map Prod.snd).flatten)),o'])
 | [],xs,o,_=>⟨o,by rw [List.map_nil,List.map_nil,List.flatten_nil,List.append_nil];rfl⟩
 | c::r,xs,o,hl=>by
  rw [List.map_cons,List.flatten_cons,List.length_append] at hl
  obtain ⟨o',e⟩:=vH a r (xs++c.2) (some (cellD c)) (by rw [List.length_append];lia)
  refine ⟨o',?_⟩
  rw [List.map_cons,List.map_cons,List.flatten_cons,← List.append_assoc,← e]
  exact dJ (yZ (xs:=xs) (ys:=c.2) rfl (aj rfl rfl bE) rfl (by lia))
theorem things {cs:List (D×List D)} (hl:((cs.map Prod.snd).flatten).length≤1000000):dH [.lst (cs.map cellD)]=.ok (.lst ((cs.map Prod.snd).flatten)):=by
 obtain ⟨o',e⟩:=vH (.lst (cs.map cellD)) cs [] none (by simpa using hl)
 rw [pH,fO]
 exact aE ((au (fc (bh rfl))).trans ((au (eH (dZ rfl rfl) e)).trans (ay rfl)))
theorem nlb:decide (("leaf":Str)="branch")=false:=by decide +kernel
theorem nbl:decide (("branch":Str)="leaf")=false:=by decide +kernel
theorem mr:∀ {ps:List (List K4×D)},(∀ p∈ps,p.1≠[])→ps.length≤((ps.map Prod.fst).flatten).length
 | [],_=>Nat.zero_le _
 | p::r,h=>by
  have h1:0 < p.1.length:=List.length_pos_iff.mpr (h p (by simp))
  have h2:=mr fun x hx=>h x (List.mem_cons_of_mem (a:=x) _ hx)
  rw [List.map_cons,List.flatten_cons,List.length_append,List.length_cons]
  lia
theorem unz {h:Nat}:∀ {qs:List (List K4×D)},(∀ q∈qs,Tr (h+1) q.1 q.2)→∃ pss:List (List (List K4×D)),qs=pss.map brN∧∀ ps∈pss,ps≠[]∧∀ p∈ps,p.1≠[]∧Tr h p.1 p.2
 | [],_=>⟨[],rfl,fun ps h=>(by cases h)⟩
 | q::r,hq=>by
  obtain ⟨pss,e,hp⟩:=unz fun x hx=>hq x (List.mem_cons_of_mem (a:=x) _ hx)
  obtain ⟨ps,h1,h2,h3,h4⟩:=hq q (by simp)
  refine ⟨ps::pss,?_,fun x hx=>?_⟩
  ·rw [List.map_cons,← e]
   congr 1
   exact Prod.ext h3 h4
  ·rcases List.mem_cons.mp hx with z|z
   ·subst z;exact ⟨h1,h2⟩
   ·exact hp x z
theorem v5 {ks:List K4} {a:D} (hl:ks.length≤600):∀ (h n:Nat) (qs:List (List K4×D)),h < n→qs≠[]→(∀ q∈qs,Tr h q.1 q.2)→(qs.map Prod.fst).flatten=ks →
  ∃ qs':List (List K4×D),b7 eQ eB n [some a,some (.lst (qs.map Prod.snd))]=.ok (.nx [some a,some (.lst (qs'.map Prod.snd))])∧(∀ q∈qs',Tr 0 q.1 q.2)∧(qs'.map Prod.fst).flatten=ks
 | _,0,_,hn,_,_,_=>absurd hn (Nat.not_lt_zero _)
 | 0,n+1,qs,hn,hne,ht,hf=>by
  refine ⟨qs,pC ?_,ht,hf⟩
  cases qs with
  | nil=>exact absurd rfl hne
  | cons q r =>
   have e:q.2=_:=ht q (by simp)
   exact aI (aj (aj (aj rfl rfl eO) rfl (by rw [e];exact bI)) rfl (fV.trans (by rw [nlb])))
 | h+1,n+1,qs,hn,hne,ht,hf=>by
  obtain ⟨pss,rfl,hp⟩:=unz ht
  rw [tF] at hf
  have hin:∀ p∈pss.flatten,p.1≠[]∧Tr h p.1 p.2:=fun p hpp=>by
   obtain ⟨ps,h1,h2⟩:=List.mem_flatten.mp hpp
   exact (hp ps h1).2 p h2
  have hlen:pss.flatten.length≤600:=by
   have:=mr fun p h=>(hin p h).1
   rw [hf] at this
   omega
  have hne2:pss.flatten≠[]:=by
   cases pss with
   | nil=>exact absurd rfl hne
   | cons ps r =>
    intro z
    rw [List.flatten_cons] at z
    exact (hp ps (by simp)).1 (List.append_eq_nil_iff.mp z).1
  obtain ⟨qs',e1,h1,h2⟩:=v5 (a:=a) hl h n pss.flatten (by omega) hne2 (fun q hq=>(hin q hq).2) hf
  have ec:(pss.map brN).map Prod.snd=(pss.map fun ps=>(D.str "branch",ps.map aX)).map cellD:=by rw [List.map_map,List.map_map];rfl
  have es:((pss.map fun ps=>(D.str "branch",ps.map aX)).map Prod.snd).flatten=pss.flatten.map aX:=by rw [List.map_map,List.map_flatten];rfl
  refine ⟨qs',(nW ?_ ?_).trans e1,h1,h2⟩
  ·cases pss with
   | nil=>exact absurd rfl hne
   | cons ps r=>exact aI (aj (aj (aj rfl rfl eO) rfl bI) rfl (fV.trans (by rw [decide_eq_true rfl])))
  ·rw [ec]
   refine aF (cX (dZ (am (ac rfl rfl) (things (by rw [es,List.length_map];omega))) rfl) ?_)
   rw [es]
   exact uz _ _ _ (fun p hpp=>aj rfl rfl bE) (by omega)
theorem lW {h:Nat} {ks:List K4} {d:D} (ht:Tr h ks d) (hh:h≤700) (hl:ks.length≤600):bB [d]=.ok (.lst (ks.map ag)):=by
 obtain ⟨qs,e,h1,h2⟩:=v5 (a:=d) hl h 1000 [(ks,d)] (by omega) (by simp) (fun q hq=>by rw [List.mem_singleton.mp hq];exact ht) (by simp)
 have ec:qs.map Prod.snd=(qs.map fun q=>(D.str "leaf",q.1.map ag)).map cellD:=by
  rw [List.map_map]
  exact List.map_congr_left fun q hq=>h1 q hq
 have es:((qs.map fun q=>(D.str "leaf",q.1.map ag)).map Prod.snd).flatten=ks.map ag:=by
  rw [← h2,List.map_map,List.map_flatten,List.map_map];rfl
 rw [ec] at e
 rw [nF,eD]
 refine aE ((au (aF (bh (ac rfl rfl)))).trans ((au e).trans (ay (am (ac rfl rfl) ((things (by rw [es,List.length_map];omega)).trans (by rw [es]))))))
theorem wX {h:Nat} {ks:List K4} {d:D} (ht:Tr h ks d) (hh:h≤700) (hl:ks.length≤600):eX [d]=.ok (.int (ks.length:Int)):=by
 rw [sJ,jb]
 exact aE (ay (bm (am (ac rfl rfl) (lW ht hh hl)) (g6 _ _)))
structure Place (k:K4) (ps:List (List K4×D)) (j:Nat):Prop where
 l:j < ps.length
 b:∀ p,ps[j]?=some p→j=0∨¬ Lt4 k (hd p.1)
 a:∀ p,ps[j+1]?=some p→Lt4 k (hd p.1)
theorem vW {k:K4} {ps:List (List K4×D)} {c:D} (hk:Ok k) (hp:∀ p∈ps,Ok (hd p.1)) (hc:lenD [c]=.ok (.int (ps.length:Int))) (hx:∀ (i:Nat) p,ps[i]?=some p→ixD c (.int (i:Int))=.ok (aX p)):∀ (n j:Nat),j < ps.length→ps.length≤j+n→(∀ p,ps[j]?=some p→j=0∨¬ Lt4 k (hd p.1)) →
  ∃ i:Nat,b7 lQ (sAugAdd 2 (vC (.int 1))) n [some c,some (ag k),some (.int (j:Int))]=.ok (.nx [some c,some (ag k),some (.int (i:Int))])∧Place k ps i
 | 0,j,h1,h2,_=>absurd h1 (by lia)
 | n+1,j,h1,h2,h3=>by
  have ej:(j:Int)+1=((j+1:Nat):Int):=by lia
  have hq1:qBl (vOp ltD (vOp addD (ai 2) (vC (.int 1))) (ao lenD (ae (ai 0) av))) [some c,some (ag k),some (.int (j:Int))]=.ok (decide ((j:Int)+1 < (ps.length:Int))):=aI (aj (cg rfl rfl) (bm rfl hc) u6)
  by_cases hj:j+1 < ps.length
  ·rw [decide_eq_true (by lia)] at hq1
   have eg:=List.getElem?_eq_getElem hj
   have ha:iC (eT (ao aW (ae (ai 1) (ae (vOp ixD (vOp ixD (ai 0) (vOp addD (ai 2) (vC (.int 1)))) (vC (.int 0))) av)))) [some c,some (ag k),some (.int (j:Int))]=.ok (!decide (Lt4 k (hd ps[j+1].1))) :=
    ky (am (ac rfl (ac (aj (aj rfl (cg rfl rfl) (by rw [ej];exact hx _ _ eg)) rfl bI) rfl)) (hk.ahead (hp _ (List.getElem_mem hj))))
   by_cases hlt:Lt4 k (hd ps[j+1].1)
   ·rw [decide_eq_true hlt] at ha
    refine ⟨j,pC (lB hq1 ha),h1,h3,fun p hpp=>?_⟩
    rw [eg] at hpp
    cases hpp
    exact hlt
   ·rw [decide_eq_false hlt] at ha
    obtain ⟨i,e,hi⟩:=vW hk hp hc hx n (j+1) hj (by lia) (fun p hpp=>by
     rw [eg] at hpp
     cases hpp
     exact .inr hlt)
    rw [← ej] at e
    exact ⟨i,(nW (lB hq1 ha) (xR rfl rfl)).trans e,hi⟩
  ·rw [decide_eq_false (by lia)] at hq1
   refine ⟨j,pC (sk hq1),h1,h3,fun p hpp=>?_⟩
   rw [List.getElem?_eq_none (by lia)] at hpp
   cases hpp
theorem jy {k:K4} {ps:List (List K4×D)} {c:D} (hk:Ok k) (hp:∀ p∈ps,Ok (hd p.1)) (hc:lenD [c]=.ok (.int (ps.length:Int))) (hx:∀ (i:Nat) p,ps[i]?=some p→ixD c (.int (i:Int))=.ok (aX p)) (hn:ps≠[]) (hl:ps.length≤1000):∃ i:Nat,bp [c,ag k]=.ok (.int (i:Int))∧Place k ps i:=by
 obtain ⟨i,e,hi⟩:=vW hk hp hc hx 1000 0 (List.length_pos_iff.mpr hn) (by lia) (fun _ _=>.inl rfl)
 refine ⟨i,?_,hi⟩
 rw [n5,eF]
 exact aE ((au (aF rfl)).trans ((au e).trans (ay rfl)))
theorem iK {ks:List K4} (h:ks≠[]):hd ks∈ks:=by
 cases ks with
 | nil=>exact absurd rfl h
 | cons k r=>exact List.mem_cons_self
theorem y3 {ks:List K4} (hs:ks.Pairwise Lt4) {k:K4} (h:k∈ks):¬ Lt4 k (hd ks):=by
 cases ks with
 | nil=>cases h
 | cons x r =>
  show ¬ Lt4 k x
  rcases List.mem_cons.mp h with z|z
  ·subst z;exact TS.to4.irr _
  ·exact fun q=>TS.to4.irr _ (TS.to4.tr _ _ _ q ((List.pairwise_cons.mp hs).1 k z))
theorem seek {k:K4} {ps:List (List K4×D)} {j:Nat} {p:List K4×D} (hs:((ps.map Prod.fst).flatten).Pairwise Lt4) (hn:∀ p∈ps,p.1≠[]) (hj:Place k ps j) (hp:ps[j]?=some p):k∈(ps.map Prod.fst).flatten ↔ k∈p.1:=by
 obtain ⟨s1,s2⟩:=List.pairwise_flatten.mp hs
 rw [List.pairwise_map] at s2
 have s3:=List.pairwise_iff_getElem.mp s2
 have ejl:=hj.l
 have ep:ps[j]=p:=by rw [List.getElem?_eq_getElem ejl] at hp;exact Option.some.inj hp
 constructor
 ·intro hk
  obtain ⟨l,hl,hkl⟩:=List.mem_flatten.mp hk
  obtain ⟨q,hq,rfl⟩:=List.mem_map.mp hl
  obtain ⟨i,hi,eq⟩:=List.mem_iff_getElem.mp hq
  rcases Nat.lt_trichotomy i j with h|h|h
  ·rcases hj.b p hp with z|z
   ·lia
   ·refine absurd (s3 i j hi ejl h k (by rw [eq];exact hkl) (hd p.1) (by rw [ep];exact iK (hn p (ep ▸ List.getElem_mem ejl)))) z
  ·subst h
   rw [← ep,eq]
   exact hkl
  ·have hj1:j+1 < ps.length:=by lia
   have hlt:=hj.a _ (List.getElem?_eq_getElem hj1)
   by_cases h2:i=j+1
   ·subst h2
    rw [eq] at hlt
    exact absurd hlt (y3 (s1 _ hl) hkl)
   ·have:=s3 (j+1) i hj1 hi (by lia) (hd ps[j+1].1) (iK (hn _ (List.getElem_mem hj1))) k (by rw [eq];exact hkl)
    exact absurd (TS.to4.tr _ _ _ hlt this) (TS.to4.irr _)
 ·intro hk
  exact List.mem_flatten.mpr ⟨p.1,List.mem_map.mpr ⟨p,List.mem_of_getElem? hp,rfl⟩,hk⟩
theorem vY {k:K4} {a b c:D} (hk:Ok k):∀ (h n:Nat) (ks:List K4) (d:D) (o:Option D),h < n→Tr h ks d→Rows ks→ks.length≤601 →
  ∃ (ks':List K4) (o':Option D),b7 hQ hB n [some a,some b,some c,some (ag k),some d,o]=.ok (.nx [some a,some b,some c,some (ag k),some (.tup [.str "leaf",.tup (ks'.map ag)]),o'])∧(k∈ks ↔ k∈ks')∧∀ l∈ks',Ok l
 | _,0,_,_,_,hn,_,_,_=>absurd hn (Nat.not_lt_zero _)
 | 0,n+1,ks,d,o,hn,ht,hr,hl=>by
  have e:d=_:=ht
  subst e
  exact ⟨ks,o,pC (aI (aj (aj rfl rfl bI) rfl (fV.trans (by rw [nlb])))),Iff.rfl,hr.o⟩
 | h+1,n+1,ks,d,o,hn,ht,hr,hl=>by
  obtain ⟨ps,h1,h2,rfl,rfl⟩:=ht
  have hne:∀ p∈ps,p.1≠[]:=fun p hp=>(h2 p hp).1
  have hin:∀ p∈ps,∀ x∈p.1,x∈(ps.map Prod.fst).flatten:=fun p hp x hx=>List.mem_flatten.mpr ⟨p.1,List.mem_map.mpr ⟨p,hp,rfl⟩,hx⟩
  have hfl:=mr hne
  obtain ⟨i,e,hi⟩:=jy hk (fun p hp=>hr.o _ (hin p hp _ (iK (hne p hp)))) (qp _ _) (fun i p h=>Bf _ _ h) h1 (by lia)
  have hil:=hi.l
  have eg:=List.getElem?_eq_getElem hil
  have hm:ps[i]∈ps:=List.getElem_mem hi.l
  have hsub:(ps[i].1).Sublist ((ps.map Prod.fst).flatten):=List.sublist_flatten_of_mem (List.mem_map.mpr ⟨_,hm,rfl⟩)
  obtain ⟨ks',o',e2,q1,q2⟩:=vY (a:=a) (b:=b) (c:=c) hk h n ps[i].1 ps[i].2 (some (.tup (ps.map aX))) (by lia) (h2 _ hm).2 ⟨hr.s.sublist hsub,fun x hx=>hr.o x (hin _ hm x hx)⟩ (Nat.le_trans hsub.length_le hl)
  refine ⟨ks',o',(nW (aI (aj (aj rfl rfl bI) rfl (fV.trans (by rw [decide_eq_true rfl])))) ?_).trans e2,(seek hr.s hne hi eg).trans q1,q2⟩
  exact (au (aF (aj rfl rfl bE))).trans (aF (aj (aj rfl (am (ac rfl (ac rfl rfl)) e) (Bf _ _ eg)) rfl bE))
theorem iT {h:Nat} {k:K4} {ks:List K4} {d:D} (hk:Ok k) (ht:Tr h ks d) (hh:h≤700) (hr:Rows ks) (hl:ks.length≤601):cA [d,dW k,.int k.2.2.2]=.ok (.bl (decide (k∈ks))):=by
 obtain ⟨ks',o',e,q1,q2⟩:=vY (a:=d) (b:=dW k) (c:=.int k.2.2.2) hk h 1000 ks d none (by lia) ht hr hl
 rw [un] at e
 have em:decide (k∈ks)=decide (k∈ks'):=decide_eq_decide.mpr q1
 have hm:=hk.mem q2
 rw [un] at hm
 rw [oH,fv,em]
 exact aE ((au (aF (bq (ac rfl (ac rfl rfl))))).trans ((au (aF rfl)).trans ((au e).trans (ay (aj rfl (aj rfl rfl bE) hm)))))
theorem v8 {ks:List K4} (ho:∀ k∈ks,Ok k):∀ (js:List Nat) (o:Option D),(∀ j∈js,j < ks.length) →
  ∃ o':Option D,forD (.one 2) aB (js.map fun (k:Nat)=>D.int (k:Int)) [some (.lst (ks.map ag)),some (.lst (ks.map ag)),o]=.ok (.nx [some (.lst (ks.map ag)),some (.lst (ks.map ag)),o'])
 | [],o,_=>⟨o,rfl⟩
 | j::r,o,h=>by
  obtain ⟨o',e⟩:=v8 ho r (some (.int (j:Int))) fun x hx=>h x (List.mem_cons_of_mem _ hx)
  refine ⟨o',?_⟩
  rw [← e]
  have hj:=h j (by simp)
  have eg:=List.getElem?_eq_getElem hj
  have hk:=ho _ (List.getElem_mem hj)
  exact dJ ((nM (ky (b:=true) (am (ac (aj rfl rfl (jU _ _ eg)) (ac (aj rfl rfl (jU _ _ eg)) rfl)) ((hk.same hk).trans (by rw [decide_eq_true rfl]))))).trans rfl)
theorem alike {ks:List K4} (ho:∀ k∈ks,Ok k) (hl:ks.length≤1000):b6 [.lst (ks.map ag),.lst (ks.map ag)]=.ok (.bl true):=by
 obtain ⟨o',e⟩:=v8 ho (List.range ks.length) none fun j hj=>List.mem_range.mp hj
 rw [← iQ] at e
 rw [uD,jl]
 exact aE ((skip (m9 (ky (b:=true) (gf rfl (z0.trans (rf (by decide +kernel))))) (aI (aj (bm rfl (g6 _ _)) (bm rfl (g6 _ _)) (rh.trans (by rw [decide_eq_true rfl];rfl)))))).trans ((au (eH (lm (bm rfl (g6 _ _)) (by lia)) e)).trans (ay rfl)))
theorem xW {g:D→Option Int→Option Int→R D} {φ:FE} {l u:Sd→R (Option Int)} {δ:Sd} {a d:D} {lo hi:Option Int} (h:φ δ=.ok a) (h1:l δ=.ok lo) (h2:u δ=.ok hi) (hd:g a lo hi=.ok d):vSl g φ l u δ=.ok d:=by
 rw [Bd,h,aD,yR,h1,aD,yD,h2,aD,yT,hd]
theorem m7 {xs:List D} {i j:Int} (h0:0≤i) (h1:i≤j) (h2:j≤(xs.length:Int)):cutD xs (some i) (some j)=(xs.drop i.toNat).take (j.toNat - i.toNat):=by
 obtain ⟨n,rfl⟩:∃ n:Nat,i=(n:Int):=⟨i.toNat,by lia⟩
 obtain ⟨m,rfl⟩:∃ n:Nat,j=(n:Int):=⟨j.toNat,by lia⟩
 unfold cutD
 rw [HT.jC,HT.jC,Int.toNat_natCast,Int.toNat_natCast,Nat.min_eq_left (by lia),Nat.min_eq_left (by lia)]
structure Rw (c:D) (xs:List D):Prop where
 l:lenD [c]=.ok (.int (xs.length:Int))
 s:∀ lo hi,∃ y,xM c lo hi=.ok y∧tupD [y]=.ok (.tup (cutD xs lo hi))
theorem xO (xs:List D):Rw (.lst xs) xs:=⟨si,fun lo hi=>⟨_,zz,ua⟩⟩
theorem Bc (xs:List D):Rw (.tup xs) xs:=⟨oN,fun lo hi=>⟨_,Aq,AR⟩⟩
theorem pZ {w c:D} {xs zs:List D} {m p:Int} {o5 o6:Option D} (hc:Rw c xs) (hx:xs.length≤1000) (hz:zs.length < 100) (hm:0 < m∧m < 100) :
  cB [some w,some c,some (.int m),some (.lst zs),some (.int p),o5,o6]=.ok (.nx [some w,some c,some (.int m),some (.lst (zs++[.tup [w,.tup (cutD xs (some (p*(xs.length:Int)/m)) (some ((p+1)*(xs.length:Int)/m)))]])),some (.int p),some (.int (p*(xs.length:Int)/m)),some (.int ((p+1)*(xs.length:Int)/m))]):=by
 obtain ⟨y,e1,e2⟩:=hc.s (some (p*(xs.length:Int)/m)) (some ((p+1)*(xs.length:Int)/m))
 exact (au (aF (bW (iO rfl (bm rfl hc.l) (by lia)) rfl (by lia)))).trans ((au (aF (bW (iO (cg rfl rfl) (bm rfl hc.l) (by lia)) rfl (by lia)))).trans (kC (xs:=zs) rfl (bq (ac rfl (ac (am (ac (xW rfl (cf rfl) (cf rfl) e1) rfl) e2) rfl))) (by lia)))
theorem gu {β:Type} (f:β→D) (w:D) {c:D} {xs:List β} (hc:Rw c (xs.map f)) (h0:1≤xs.length) (h1:xs.length≤8):aV [w,c]=.ok (.lst [.tup [w,.tup (xs.map f)]]):=by
 rw [jo,df]
 have el:(xs.map f).length=xs.length:=List.length_map _
 have e1:(((xs.map f).length:Int)+8 - 1)/8=1:=by lia
 have t:=pZ (w:=w) (zs:=[]) (m:=1) (p:=0) (o5:=none) (o6:=none) hc (by lia) (by simp) (by decide)
 have ec:cutD (xs.map f) (some (0*((xs.map f).length:Int)/1)) (some ((0+1)*((xs.map f).length:Int)/1))=xs.map f:=by
  rw [Int.ediv_one,Int.ediv_one,Int.zero_mul,Int.zero_add,Int.one_mul,m7 (by lia) (by lia) (by lia),Int.toNat_zero,List.drop_zero,Int.toNat_natCast,Nat.sub_zero,List.take_length]
 rw [ec] at t
 have hm:vOp divD (vOp subD (vOp addD (ao lenD (ae (ai 1) av)) (vC je)) (vC (.int 1))) (vC je) [some w,some c,none,none,none,none,none]=.ok (.int 1) :=
  (bW (fe (cg (bm rfl hc.l) rfl) rfl) rfl (by decide)).trans (by rw [e1])
 exact aE ((au (aF hm)).trans ((au (fc (bh rfl))).trans ((au (eH (lm (n:=1) rfl (by decide)) ((dJ t).trans rfl))).trans (ay rfl))))
theorem oz {β:Type} (f:β→D) (w:D) {c:D} {xs:List β} (hc:Rw c (xs.map f)) (h0:9≤xs.length) (h1:xs.length≤16):aV [w,c]=.ok (.lst [.tup [w,.tup ((xs.take (xs.length/2)).map f)],.tup [w,.tup ((xs.drop (xs.length/2)).map f)]]):=by
 rw [jo,df]
 have el:(xs.map f).length=xs.length:=List.length_map _
 have e1:(((xs.map f).length:Int)+8 - 1)/8=2:=by lia
 have t1:=pZ (w:=w) (zs:=[]) (m:=2) (p:=0) (o5:=none) (o6:=none) hc (by lia) (by simp) (by decide)
 have ec1:cutD (xs.map f) (some (0*((xs.map f).length:Int)/2)) (some ((0+1)*((xs.map f).length:Int)/2))=(xs.take (xs.length/2)).map f:=by
  have h2:(0*((xs.map f).length:Int)/2)=0:=by rw [Int.zero_mul];rfl
  have h3:((0+1)*((xs.map f).length:Int)/2)=((xs.length/2:Nat):Int):=by lia
  rw [h2,h3,m7 (by lia) (by lia) (by lia),Int.toNat_zero,List.drop_zero,Int.toNat_natCast,Nat.sub_zero,List.map_take]
 rw [ec1] at t1
 have t2:=pZ (w:=w) (zs:=[.tup [w,.tup ((xs.take (xs.length/2)).map f)]]) (m:=2) (p:=1) (o5:=some (.int (0*((xs.map f).length:Int)/2))) (o6:=some (.int ((0+1)*((xs.map f).length:Int)/2))) hc (by lia) (by simp) (by decide)
 have ec2:cutD (xs.map f) (some (1*((xs.map f).length:Int)/2)) (some ((1+1)*((xs.map f).length:Int)/2))=(xs.drop (xs.length/2)).map f:=by
  have h2:(1*((xs.map f).length:Int)/2)=((xs.length/2:Nat):Int):=by lia
  have h3:((1+1)*((xs.map f).length:Int)/2)=((xs.length:Nat):Int):=by lia
  rw [h2,h3,m7 (by lia) (by lia) (by lia),Int.toNat_natCast,Int.toNat_natCast,List.take_of_length_le (by rw [List.length_drop,List.length_map];lia),List.map_drop]
 rw [ec2] at t2
 have hm:vOp divD (vOp subD (vOp addD (ao lenD (ae (ai 1) av)) (vC je)) (vC (.int 1))) (vC je) [some w,some c,none,none,none,none,none]=.ok (.int 2) :=
  (bW (fe (cg (bm rfl hc.l) rfl) rfl) rfl (by decide)).trans (by rw [e1])
 exact aE ((au (aF hm)).trans ((au (fc (bh rfl))).trans ((au (eH (lm (n:=2) rfl (by decide)) ((dJ t1).trans ((dJ t2).trans rfl)))).trans (ay rfl))))
theorem uO {h:Nat} {q:List K4×D} (ht:Tr h q.1 q.2) (hn:q.1≠[]):gR [q.2]=.ok (ag (hd q.1)):=by
 rw [qX,gY]
 cases h with
 | zero =>
  have e:q.2=_:=ht
  rw [e]
  cases eq:q.1 with
  | nil=>exact absurd eq hn
  | cons k r =>
   refine aE (ay ?_)
   rw [vE,aI (b:=true) (aj (aj rfl rfl bI) rfl (fV.trans (by rw [decide_eq_true rfl]))),aD,vk,if_pos rfl]
   exact aj (aj rfl rfl bE) rfl bI
 | succ h =>
  obtain ⟨ps,h1,h2,h3,h4⟩:=ht
  rw [h4,h3]
  cases ps with
  | nil=>exact absurd rfl h1
  | cons p r =>
   refine aE (ay ?_)
   rw [vE,aI (b:=false) (aj (aj rfl rfl bI) rfl (fV.trans (by rw [nbl]))),aD,vk,if_neg Bool.false_ne_true]
   have:=xh (r:=r) (h2 p (by simp)).1
   rw [show ((p::r).map Prod.fst).flatten=(brN (p::r)).1 from rfl,this]
   exact aj (aj (aj rfl rfl bE) rfl bI) rfl bI
theorem gI {qs:List (List K4×D)} (h:∀ q∈qs,(∃ h,Tr h q.1 q.2)∧q.1≠[]) (hl:qs.length≤100):bG [.lst (qs.map Prod.snd)]=.ok (.lst (qs.map aX)):=by
 rw [qU,gP]
 refine aE (ay (cX (dZ rfl rfl) (uz _ _ _ (fun q hq=>?_) (by lia))))
 obtain ⟨⟨g,ht⟩,hn⟩:=h q hq
 exact bq (ac (am (ac rfl rfl) (uO ht hn)) (ac rfl rfl))
noncomputable def ins (k:K4) (ks:List K4):List K4:=ks.filter (fun l=>decide (Lt4 l k))++k::ks.filter (fun l=>decide (Lt4 k l))
theorem sj {k:K4} {A B C:List K4} (ha:∀ l∈A,Lt4 l k) (hc:∀ l∈C,Lt4 k l):ins k (A++B++C)=A++ins k B++C:=by
 have a1:A.filter (fun l=>decide (Lt4 l k))=A:=List.filter_eq_self.mpr fun l hl=>decide_eq_true (ha l hl)
 have a2:A.filter (fun l=>decide (Lt4 k l))=[]:=List.filter_eq_nil_iff.mpr fun l hl z=>TS.to4.irr _ (TS.to4.tr _ _ _ (ha l hl) (of_decide_eq_true z))
 have c1:C.filter (fun l=>decide (Lt4 k l))=C:=List.filter_eq_self.mpr fun l hl=>decide_eq_true (hc l hl)
 have c2:C.filter (fun l=>decide (Lt4 l k))=[]:=List.filter_eq_nil_iff.mpr fun l hl z=>TS.to4.irr _ (TS.to4.tr _ _ _ (hc l hl) (of_decide_eq_true z))
 unfold ins
 simp only [List.filter_append,a1,a2,c1,c2,List.append_nil,List.nil_append,List.append_assoc,List.cons_append]
theorem sE {k:K4}:∀ {ks:List K4},k∉ks→(ins k ks).length=ks.length+1
 | [],_=>rfl
 | l::r,h=>by
  have ih:=sE (k:=k) (ks:=r) fun z=>h (List.mem_cons_of_mem _ z)
  have hne:l≠k:=fun z=>h (by rw [z];simp)
  unfold ins at ih ⊢
  rw [List.length_append,List.length_cons] at ih ⊢
  rw [List.length_cons]
  rcases TS.to4.tri l k with q|q|q
  ·have q2:¬ Lt4 k l:=fun z=>TS.to4.irr _ (TS.to4.tr _ _ _ q z)
   rw [List.filter_cons_of_pos (by exact decide_eq_true q),List.filter_cons_of_neg (by simpa using q2),List.length_cons]
   lia
  ·exact absurd q hne
  ·have q2:¬ Lt4 l k:=fun z=>TS.to4.irr _ (TS.to4.tr _ _ _ q z)
   rw [List.filter_cons_of_neg (by simpa using q2),List.filter_cons_of_pos (by exact decide_eq_true q),List.length_cons]
   lia
theorem uE {k:K4} {ks:List K4} (x:K4):x∈ins k ks ↔ x=k∨x∈ks:=by
 unfold ins
 rw [List.mem_append,List.mem_cons,List.mem_filter,List.mem_filter]
 constructor
 ·rintro (⟨h,_⟩|h|⟨h,_⟩)
  ·exact .inr h
  ·exact .inl h
  ·exact .inr h
 ·rintro (h|h)
  ·exact .inr (.inl h)
  ·rcases TS.to4.tri x k with q|q|q
   ·exact .inl ⟨h,decide_eq_true q⟩
   ·exact .inr (.inl q)
   ·exact .inr (.inr ⟨h,decide_eq_true q⟩)
theorem vx {k:K4} {ks:List K4} (hk:Ok k) (hr:Rows ks):Rows (ins k ks):=by
 refine ⟨?_,fun x hx=>?_⟩
 ·unfold ins
  rw [List.pairwise_append]
  refine ⟨hr.s.filter _,List.pairwise_cons.mpr ⟨fun y hy=>of_decide_eq_true (List.mem_filter.mp hy).2,hr.s.filter _⟩,fun x hx y hy=>?_⟩
  have h1:=of_decide_eq_true (List.mem_filter.mp hx).2
  rcases List.mem_cons.mp hy with z|z
  ·rw [z];exact h1
  ·exact TS.to4.tr _ _ _ h1 (of_decide_eq_true (List.mem_filter.mp z).2)
 ·rcases (uE x).mp hx with z|z
  ·rw [z];exact hk
  ·exact hr.o x z
noncomputable def del (k:K4) (ks:List K4):List K4:=ks.filter (fun l=>!decide (l=k))
theorem jn {k:K4} {ks:List K4} (h:k∉ks):del k ks=ks:=List.filter_eq_self.mpr fun l hl=>by
 rw [decide_eq_false (show ¬ l=k from fun z=>h (z ▸ hl))];rfl
theorem wI {k x:K4} {ks:List K4}:x∈del k ks ↔ x∈ks∧x≠k:=by
 unfold del;rw [List.mem_filter];simp
theorem pL (k:K4) (A B:List K4):del k (A++B)=del k A++del k B:=List.filter_append ..
theorem pj {k:K4}:∀ {ks:List K4},ks.Pairwise Lt4→k∈ks→(del k ks).length+1=ks.length
 | [],_,h=>by cases h
 | l::r,hs,h=>by
  obtain ⟨h1,h2⟩:=List.pairwise_cons.mp hs
  by_cases e:l=k
  ·subst e
   have hn:l∉r:=fun z=>TS.to4.irr _ (h1 l z)
   have:del l (l::r)=r:=by
    unfold del
    rw [List.filter_cons_of_neg (by simp)]
    exact jn hn
   rw [this,List.length_cons]
  ·have hk:k∈r:=(List.mem_cons.mp h).resolve_left fun z=>e z.symm
   have ih:=pj h2 hk
   have:del k (l::r)=l::del k r:=by
    unfold del
    rw [List.filter_cons_of_pos (by simp [e])]
   rw [this,List.length_cons,List.length_cons,ih]
theorem pR {k:K4} {ks:List K4} (hr:Rows ks):Rows (del k ks):=⟨hr.s.filter _,fun x hx=>hr.o x (wI.mp hx).1⟩
structure Fresh (h:Nat) (ks:List K4) (qs:List (List K4×D)):Prop where
 n:∀ q∈qs,Nd h 4 q
 f:(qs.map Prod.fst).flatten=ks
 a:1≤qs.length
 b:qs.length≤2
theorem lZ {c:D} {ks:List K4} (hc:Rw c (ks.map ag)) (h0:4≤ks.length) (h9:ks.length≤16):∃ qs:List (List K4×D),aV [.str "leaf",c]=.ok (.lst (qs.map Prod.snd))∧Fresh 0 ks qs:=by
 by_cases h:ks.length≤8
 ·refine ⟨[lfN ks],gu ag _ hc (by lia) h,fun q hq=>?_,by simp [lfN],by simp,by simp⟩
  obtain rfl:q=lfN ks:=by simpa using hq
  exact ⟨h0,h,rfl⟩
 ·refine ⟨[lfN (ks.take (ks.length/2)),lfN (ks.drop (ks.length/2))],oz ag _ hc (by lia) (by lia),fun q hq=>?_,by simp [lfN],by simp,by simp⟩
  rcases List.mem_cons.mp hq with z|z
  ·subst z
   refine ⟨?_,?_,rfl⟩
   ·show 4≤(ks.take _).length;rw [List.length_take];lia
   ·show (ks.take _).length≤8;rw [List.length_take];lia
  ·obtain rfl:q=lfN (ks.drop (ks.length/2)):=by simpa using z
   refine ⟨?_,?_,rfl⟩
   ·show 4≤(ks.drop _).length;rw [List.length_drop];lia
   ·show (ks.drop _).length≤8;rw [List.length_drop];lia
theorem jS {c:D} {h:Nat} {ps:List (List K4×D)} (hc:Rw c (ps.map aX)) (hp:∀ p∈ps,Nd h 4 p) (h0:4≤ps.length) (h9:ps.length≤16):∃ qs:List (List K4×D),aV [.str "branch",c]=.ok (.lst (qs.map Prod.snd))∧Fresh (h+1) ((ps.map Prod.fst).flatten) qs:=by
 by_cases h8:ps.length≤8
 ·refine ⟨[brN ps],gu aX _ hc (by lia) h8,fun q hq=>?_,by simp [brN],by simp,by simp⟩
  obtain rfl:q=brN ps:=by simpa using hq
  exact ⟨ps,h0,h8,hp,rfl⟩
 ·refine ⟨[brN (ps.take (ps.length/2)),brN (ps.drop (ps.length/2))],oz aX _ hc (by lia) (by lia),fun q hq=>?_,?_,by simp,by simp⟩
  ·rcases List.mem_cons.mp hq with z|z
   ·subst z
    exact ⟨_,by rw [List.length_take];lia,by rw [List.length_take];lia,fun p h=>hp p (List.mem_of_mem_take h),rfl⟩
   ·obtain rfl:q=brN (ps.drop (ps.length/2)):=by simpa using z
    exact ⟨_,by rw [List.length_drop];lia,by rw [List.length_drop];lia,fun p h=>hp p (List.mem_of_mem_drop h),rfl⟩
  ·show (((ps.take (ps.length/2)).map Prod.fst).flatten::[((ps.drop (ps.length/2)).map Prod.fst).flatten]).flatten=_
   rw [List.flatten_cons,List.flatten_cons,List.flatten_nil,List.append_nil,← List.flatten_append,← List.map_append,List.take_append_drop]
noncomputable def Made (h lo:Nat) (ks:List K4) (qs:List (List K4×D)):Prop:=(∃ q,qs=[q]∧q.1=ks∧Nd h lo q)∨Fresh h ks qs
theorem t5 {lo:Nat} {ks:List K4} (h0:1≤ks.length) (h1:lo≤ks.length) (h9:ks.length≤9):∃ qs:List (List K4×D),aV [.str "leaf",.lst (ks.map ag)]=.ok (.lst (qs.map Prod.snd))∧Made 0 lo ks qs:=by
 by_cases h:ks.length≤8
 ·exact ⟨[lfN ks],gu ag _ (xO _) h0 h,.inl ⟨_,rfl,rfl,h1,h,rfl⟩⟩
 ·obtain ⟨qs,e,f⟩:=lZ (xO (ks.map ag)) (by lia) (by lia)
  exact ⟨qs,e,.inr f⟩
theorem oZ {h lo:Nat} {ps:List (List K4×D)} (hp:∀ p∈ps,Nd h 4 p) (h0:1≤ps.length) (h1:lo≤ps.length) (h9:ps.length≤9):∃ qs:List (List K4×D),aV [.str "branch",.lst (ps.map aX)]=.ok (.lst (qs.map Prod.snd))∧Made (h+1) lo ((ps.map Prod.fst).flatten) qs:=by
 by_cases h8:ps.length≤8
 ·exact ⟨[brN ps],gu aX _ (xO _) h0 h8,.inl ⟨_,rfl,rfl,ps,h1,h8,hp,rfl⟩⟩
 ·obtain ⟨qs,e,f⟩:=jS (xO (ps.map aX)) hp (by lia) (by lia)
  exact ⟨qs,e,.inr f⟩
theorem Made.fresh {h:Nat} {ks:List K4} {qs:List (List K4×D)} (hm:Made h 4 ks qs):Fresh h ks qs:=by
 rcases hm with ⟨q,rfl,f,n⟩|f
 ·exact ⟨fun x hx=>by rw [List.mem_singleton.mp hx];exact n,by simpa using f,by simp,by simp⟩
 ·exact f
noncomputable def wordOf:Nat→D
 | 0=>.str "leaf"
 | _+1=>.str "branch"
theorem Nd.things:∀ {h lo:Nat} {q:List K4×D},Nd h lo q→∃ xs:List D,q.2=.tup [wordOf h,.tup xs]∧lo≤xs.length∧xs.length≤8∧∀ lo',lo'≤xs.length→Nd h lo' q
 | 0,lo,q,⟨a,b,c⟩=>⟨q.1.map ag,by rw [c];rfl,by rw [List.length_map];exact a,by rw [List.length_map];exact b,fun lo' h=>⟨by rw [List.length_map] at h;exact h,b,c⟩⟩
 | h+1,lo,q,⟨ps,a,b,c,d⟩=>⟨ps.map aX,by rw [d];rfl,by rw [List.length_map];exact a,by rw [List.length_map];exact b,fun lo' h=>⟨ps,by rw [List.length_map] at h;exact h,b,c,d⟩⟩
theorem merged:∀ {h:Nat} {a b:List K4×D} {xs ys:List D},Nd h 3 a→Nd h 3 b→a.2=.tup [wordOf h,.tup xs]→b.2=.tup [wordOf h,.tup ys]→∃ qs:List (List K4×D),aV [wordOf h,.tup (xs++ys)]=.ok (.lst (qs.map Prod.snd))∧Fresh h (a.1++b.1) qs
 | 0,a,b,xs,ys,⟨a1,a2,a3⟩,⟨b1,b2,b3⟩,ea,eb=>by
  have e1:D.tup [wordOf 0,.tup xs]=D.tup [.str "leaf",.tup (a.1.map ag)]:=ea.symm.trans (congrArg Prod.snd a3)
  have e2:D.tup [wordOf 0,.tup ys]=D.tup [.str "leaf",.tup (b.1.map ag)]:=eb.symm.trans (congrArg Prod.snd b3)
  obtain rfl:xs=a.1.map ag:=by injection e1 with e;injection e with _ e;injection e with e;injection e
  obtain rfl:ys=b.1.map ag:=by injection e2 with e;injection e with _ e;injection e with e;injection e
  rw [← List.map_append]
  exact lZ (Bc _) (by rw [List.length_append];lia) (by rw [List.length_append];lia)
 | h+1,a,b,xs,ys,⟨ps,a1,a2,a4,a3⟩,⟨qs,b1,b2,b4,b3⟩,ea,eb=>by
  have e1:D.tup [wordOf (h+1),.tup xs]=D.tup [.str "branch",.tup (ps.map aX)]:=ea.symm.trans (congrArg Prod.snd a3)
  have e2:D.tup [wordOf (h+1),.tup ys]=D.tup [.str "branch",.tup (qs.map aX)]:=eb.symm.trans (congrArg Prod.snd b3)
  obtain rfl:xs=ps.map aX:=by injection e1 with e;injection e with _ e;injection e with e;injection e
  obtain rfl:ys=qs.map aX:=by injection e2 with e;injection e with _ e;injection e with e;injection e
  subst a3 b3
  rw [← List.map_append,show (brN ps).1++(brN qs).1=((ps++qs).map Prod.fst).flatten by rw [List.map_append,List.flatten_append];rfl]
  exact jS (Bc _) (fun p hp=>(List.mem_append.mp hp).elim (a4 p) (b4 p)) (by rw [List.length_append];lia) (by rw [List.length_append];lia)
theorem iR {h:Nat} {ks:List K4} {qs:List (List K4×D)} (hm:Fresh h ks qs):∀ q∈qs,(∃ h,Tr h q.1 q.2)∧q.1≠[] :=
 fun q hq=>⟨⟨h,(hm.n q hq).tr (.inr (by decide))⟩,(hm.n q hq).pos (by decide)⟩
theorem eM {α:Type} {ps:List α} {j:Nat} {p:α} (hp:ps[j]?=some p):ps=ps.take j++p::ps.drop (j+1):=by
 obtain ⟨hj,e⟩:=List.getElem?_eq_some_iff.mp hp
 rw [← e,← List.drop_eq_getElem_cons hj,List.take_append_drop]
theorem apart {k:K4} {ps:List (List K4×D)} {j:Nat} {p:List K4×D} (hs:((ps.map Prod.fst).flatten).Pairwise Lt4) (hn:∀ p∈ps,p.1≠[]) (hj:Place k ps j) (hp:ps[j]?=some p) :
  (∀ l∈((ps.take j).map Prod.fst).flatten,Lt4 l k)∧(∀ l∈((ps.drop (j+1)).map Prod.fst).flatten,Lt4 k l):=by
 obtain ⟨s1,s2⟩:=List.pairwise_flatten.mp hs
 rw [List.pairwise_map] at s2
 have hsp:=eM hp
 rw [hsp] at s2
 obtain ⟨_,sc,sa⟩:=List.pairwise_append.mp s2
 obtain ⟨_,sd⟩:=List.pairwise_cons.mp sc
 have hpm:p∈ps:=List.mem_of_getElem? hp
 constructor
 ·intro l hl
  obtain ⟨x,hx,hlx⟩:=List.mem_flatten.mp hl
  obtain ⟨a,ha,rfl⟩:=List.mem_map.mp hx
  have h1:Lt4 l (hd p.1):=sa a ha p List.mem_cons_self l hlx _ (iK (hn p hpm))
  rcases hj.b p hp with z|z
  ·subst z;rw [List.take_zero] at ha;cases ha
  ·rcases TS.to4.tri k (hd p.1) with q|q|q
   ·exact absurd q z
   ·rw [q];exact h1
   ·exact TS.to4.tr _ _ _ h1 q
 ·intro l hl
  obtain ⟨x,hx,hlx⟩:=List.mem_flatten.mp hl
  obtain ⟨c,hc,rfl⟩:=List.mem_map.mp hx
  cases ed:ps.drop (j+1) with
  | nil=>rw [ed] at hc;cases hc
  | cons c0 r =>
   have e0:ps[j+1]?=some c0:=by
    have:=congrArg (fun l=>l[0]?) ed
    simpa [List.getElem?_drop] using this
   have h1:=hj.a c0 e0
   have hm0:c0∈ps:=List.mem_of_getElem? e0
   rw [ed] at hc sd
   rcases List.mem_cons.mp hc with z|z
   ·subst z
    have h2:=y3 (s1 _ (List.mem_map.mpr ⟨c,hm0,rfl⟩)) hlx
    rcases TS.to4.tri l (hd c.1) with q|q|q
    ·exact absurd q h2
    ·rw [q];exact h1
    ·exact TS.to4.tr _ _ _ h1 q
   ·exact TS.to4.tr _ _ _ h1 ((List.pairwise_cons.mp sd).1 c z _ (iK (hn c0 hm0)) l hlx)
theorem flat3 (A B C:List (List K4×D)):((A++B++C).map Prod.fst).flatten=(A.map Prod.fst).flatten++(B.map Prod.fst).flatten++(C.map Prod.fst).flatten:=by
 rw [List.map_append,List.map_append,List.flatten_append,List.flatten_append]
theorem catT {xs ys:List D} (h:1≤xs.length) (hl:xs.length+ys.length≤1000000):addD (.tup xs) (.tup ys)=.ok (.tup (xs++ys)):=by
 cases xs with
 | nil=>simp at h
 | cons x r=>exact if_pos ⟨rfl,hl⟩
theorem catL {β:Type} (f:β→D) {xs ys:List β} (hl:xs.length+ys.length≤1000):addD (.lst (xs.map f)) (.lst (ys.map f))=.ok (.lst ((xs++ys).map f)):=by
 rw [List.map_append]
 exact add_l.trans (if_pos (by rw [List.length_map,List.length_map];lia))
theorem slT {β:Type} (f:β→D) (xs:List β) (j:Nat):slD (.lst (xs.map f)) none (some (j:Int))=.ok (.lst ((xs.take j).map f)):=by
 rw [zz,pP (by lia),Int.toNat_natCast,List.map_take]
theorem slF {β:Type} (f:β→D) (xs:List β) {j:Nat} {i:Int} (h:i=(j:Int)):slD (.lst (xs.map f)) (some i) none=.ok (.lst ((xs.drop j).map f)):=by
 rw [h,zz,qm (by lia),Int.toNat_natCast,List.map_drop]
theorem pp {h:Nat} {lo s t:Nat} {ps qs:List (List K4×D)} {ks:List K4} (hp:∀ p∈ps,Nd h 4 p) (hf:Fresh h ks qs) (h8:ps.length≤8) (hs:s≤t) (ht:t≤ps.length) (hn:lo≤s+qs.length+(ps.length - t)) (hm:s+qs.length+(ps.length - t)≤8) :
  Nd (h+1) lo (brN (ps.take s++qs++ps.drop t)):=by
 refine ⟨_,?_,?_,fun x hx=>?_,rfl⟩
 ·rw [List.length_append,List.length_append,List.length_take,List.length_drop];lia
 ·rw [List.length_append,List.length_append,List.length_take,List.length_drop];lia
 ·rcases List.mem_append.mp hx with hx|hx
  ·rcases List.mem_append.mp hx with hx|hx
   ·exact hp x (List.mem_of_mem_take hx)
   ·exact hf.n x hx
  ·exact hp x (List.mem_of_mem_drop hx)
theorem mended {h j:Nat} {ps:List (List K4×D)} {p q:List K4×D} (hp:∀ p∈ps,Nd h 4 p) (h2:2≤ps.length) (h8:ps.length≤8) (hj:ps[j]?=some p) (hq:Nd h 3 q) :
  ∃ q':List K4×D,iW [.lst (ps.map aX),.int (j:Int),q.2]=.ok q'.2∧q'.1=((ps.take j).map Prod.fst).flatten++q.1++((ps.drop (j+1)).map Prod.fst).flatten∧Nd (h+1) (ps.length - 1) q':=by
 obtain ⟨hjl,_⟩:=List.getElem?_eq_some_iff.mp hj
 obtain ⟨xs,ex,x3,x8,_⟩:=hq.things
 rw [u8,jZ]
 cases j with
 | zero =>
  have e1:=List.getElem?_eq_getElem (show 1 < ps.length by lia)
  have hm:ps[1]∈ps:=List.getElem_mem _
  generalize ps[1]=s at e1 hm
  obtain ⟨ys,ey,y4,y8,_⟩:=(hp s hm).things
  obtain ⟨qs,ec,hf⟩:=merged hq ((hp s hm).mono (by decide)) ex ey
  refine ⟨brN (ps.take 0++qs++ps.drop 2),?_,?_,pp hp hf h8 (by lia) (by lia) (by have:=hf.a;lia) (by have:=hf.b;lia)⟩
  ·have eS:ixD (.lst (ps.map aX)) (.int 1)=.ok (aX s):=jU (i:=1) _ _ e1
   rw [ex]
   have st:sIf (qBl (vOp eqD (ai 1) (vC (.int 0)))) (aK (bJ 3 (vC (.int 0))) (bJ 4 (vOp addD (vOp ixD (ai 2) (vC (.int 1))) (vOp ixD (vOp ixD (vOp ixD (ai 0) (vC (.int 1))) (vC (.int 1))) (vC (.int 1)))))) (aK (bJ 3 (vOp subD (ai 1) (vC (.int 1)))) (bJ 4 (vOp addD (vOp ixD (vOp ixD (vOp ixD (ai 0) (ai 3)) (vC (.int 1))) (vC (.int 1))) (vOp ixD (ai 2) (vC (.int 1)))))) [some (.lst (ps.map aX)),some (.int ((0:Nat):Int)),some (.tup [wordOf h,.tup xs]),none,none,none]=.ok (.nx [some (.lst (ps.map aX)),some (.int ((0:Nat):Int)),some (.tup [wordOf h,.tup xs]),some (.int ((0:Nat):Int)),some (.tup (xs++ys)),none]) :=
    (bi (aI (aj rfl rfl (jW.trans rfl)))).trans ((au (aF rfl)).trans (aF (aj (aj rfl rfl bE) (aj (aj (aj rfl rfl eS) rfl bE) rfl (by rw [ey];exact bE)) (catT (by lia) (by lia)))))
   refine aE ((au st).trans ((au (aF (am (ac (aj rfl rfl bI) (ac rfl rfl)) ec))).trans (ay (bq (ac rfl (ac (am (ac (aj (aj (jz rfl rfl (cf rfl) (slT aX ps 0)) (am (ac rfl rfl) (gI (iR hf) (by have:=hf.b;lia))) (catL aX (by rw [List.length_take];have:=hf.b;lia))) (jz rfl (cf (cg rfl rfl)) rfl (slF aX ps (j:=2) rfl)) (catL aX (by rw [List.length_append,List.length_take,List.length_drop];have:=hf.b;lia))) rfl) ua) rfl))))))
  ·show ((ps.take 0++qs++ps.drop 2).map Prod.fst).flatten=_
   rw [flat3,hf.f,List.take_zero]
   have:=eM e1
   have e2:ps.drop (0+1)=s::ps.drop 2:=by
    obtain ⟨hj,e⟩:=List.getElem?_eq_some_iff.mp e1
    rw [← e]
    exact List.drop_eq_getElem_cons hj
   rw [e2,List.map_cons,List.flatten_cons]
   simp
 | succ j =>
  have e1:=List.getElem?_eq_getElem (show j < ps.length by lia)
  have hm:ps[j]∈ps:=List.getElem_mem _
  generalize ps[j]=s at e1 hm
  obtain ⟨ys,ey,y4,y8,_⟩:=(hp s hm).things
  obtain ⟨qs,ec,hf⟩:=merged ((hp s hm).mono (by decide)) hq ey ex
  refine ⟨brN (ps.take j++qs++ps.drop (j+2)),?_,?_,pp hp hf h8 (by lia) (by lia) (by have:=hf.a;lia) (by have:=hf.b;lia)⟩
  ·have eS:ixD (.lst (ps.map aX)) (.int (j:Int))=.ok (aX s):=jU _ _ e1
   have ej:((j+1:Nat):Int) - 1=(j:Int):=by lia
   rw [ex]
   have st:sIf (qBl (vOp eqD (ai 1) (vC (.int 0)))) (aK (bJ 3 (vC (.int 0))) (bJ 4 (vOp addD (vOp ixD (ai 2) (vC (.int 1))) (vOp ixD (vOp ixD (vOp ixD (ai 0) (vC (.int 1))) (vC (.int 1))) (vC (.int 1)))))) (aK (bJ 3 (vOp subD (ai 1) (vC (.int 1)))) (bJ 4 (vOp addD (vOp ixD (vOp ixD (vOp ixD (ai 0) (ai 3)) (vC (.int 1))) (vC (.int 1))) (vOp ixD (ai 2) (vC (.int 1)))))) [some (.lst (ps.map aX)),some (.int ((j+1:Nat):Int)),some (.tup [wordOf h,.tup xs]),none,none,none]=.ok (.nx [some (.lst (ps.map aX)),some (.int ((j+1:Nat):Int)),some (.tup [wordOf h,.tup xs]),some (.int (j:Int)),some (.tup (ys++xs)),none]) :=
    (nM (aI (aj rfl rfl (jW.trans (by rw [decide_eq_false (by lia)]))))).trans ((au (aF (aj rfl rfl (Ac.trans (by rw [ej]))))).trans (aF (aj (aj (aj (aj rfl rfl eS) rfl bE) rfl (by rw [ey];exact bE)) (aj rfl rfl bE) (catT (by lia) (by lia)))))
   refine aE ((au st).trans ((au (aF (am (ac (aj rfl rfl bI) (ac rfl rfl)) ec))).trans (ay (bq (ac rfl (ac (am (ac (aj (aj (jz rfl rfl (cf rfl) (slT aX ps j)) (am (ac rfl rfl) (gI (iR hf) (by have:=hf.b;lia))) (catL aX (by rw [List.length_take];have:=hf.b;lia))) (jz rfl (cf (cg rfl rfl)) rfl (slF aX ps (j:=j+2) (by lia))) (catL aX (by rw [List.length_append,List.length_take,List.length_drop];have:=hf.b;lia))) rfl) ua) rfl))))))
  ·show ((ps.take j++qs++ps.drop (j+2)).map Prod.fst).flatten=_
   rw [flat3,hf.f]
   have e2:ps.take (j+1)=ps.take j++[s]:=by
    obtain ⟨hj,e⟩:=List.getElem?_eq_some_iff.mp e1
    rw [← e]
    exact List.take_succ_eq_append_getElem hj
   rw [e2,List.map_append,List.flatten_append]
   simp
theorem mf {k:K4} (hk:Ok k):∀ (h n lo:Nat) (q:List K4×D),h < n→Nd h lo q→(h=0∨1≤lo)→Rows q.1→k∉q.1 →
  ∃ qs:List (List K4×D),bA n [q.2,ag k]=.ok (.lst (qs.map Prod.snd))∧Made h lo (ins k q.1) qs
 | _,0,_,_,hn,_,_,_,_=>absurd hn (Nat.not_lt_zero _)
 | 0,n+1,lo,q,hn,⟨h1,h2,h3⟩,hlo,hr,hnk=>by
  obtain ⟨ks,d⟩:=q
  obtain rfl:d=(lfN ks).2:=congrArg Prod.snd h3
  have hlen:=sE hnk
  have h1:lo≤ks.length:=h1
  have h2:ks.length≤8:=h2
  have hlen:(ins k ks).length=ks.length+1:=hlen
  obtain ⟨qs,e,m⟩:=t5 (lo:=lo) (ks:=ins k ks) (by lia) (by lia) (by lia)
  refine ⟨qs,?_,m⟩
  rw [jL,cM]
  have la:=List.length_filter_le (fun l=>decide (Lt4 l k)) ks
  have lb:=List.length_filter_le (fun l=>decide (Lt4 k l)) ks
  have ea:bX (.one 0) (eT (ao aW (ae (ai 0) (ae (ai 1) av)))) (ai 0) [none,some (ag k)] (ks.map ag)=.ok (.lst ((ks.filter fun l=>decide (Lt4 l k)).map ag)) :=
   kR ag ag _ ks (fun l hl=>bV (am (ac rfl (ac rfl rfl)) ((hr.o l hl).ahead hk)) rfl) (fun _ _ _=>rfl) (by lia)
  have eb:bX (.one 0) (eT (ao aW (ae (ai 1) (ae (ai 0) av)))) (ai 0) [none,some (ag k)] (ks.map ag)=.ok (.lst ((ks.filter fun l=>decide (Lt4 k l)).map ag)) :=
   kR ag ag _ ks (fun l hl=>bV (am (ac rfl (ac rfl rfl)) (hk.ahead (hr.o l hl))) rfl) (fun _ _ _=>rfl) (by lia)
  have hcond:qBl (vOp eqD (vOp ixD (ai 0) (vC (.int 0))) (vC (.str "leaf"))) [some (lfN ks).2,some (ag k),none,none,none,none,none]=.ok true:=aI (aj (aj rfl rfl bI) rfl (fV.trans (by rw [decide_eq_true rfl])))
  have es:(ins k ks).map ag=((ks.filter fun l=>decide (Lt4 l k)).map ag++[ag k])++(ks.filter fun l=>decide (Lt4 k l)).map ag:=by
   unfold ins
   rw [List.map_append,List.map_cons,List.append_assoc]
   rfl
  rw [es] at e
  exact aE (bQ ((bi hcond).trans ((au (aF (cX (dZ (aj rfl rfl bE) rfl) ea))).trans ((au (aF (cX (dZ (aj rfl rfl bE) rfl) eb))).trans (ay (am (ac rfl (ac (aj (aj rfl (bh (ac rfl rfl)) (add_l.trans (if_pos (by rw [List.length_map];simp;lia)))) rfl (add_l.trans (if_pos (by rw [List.length_append,List.length_map,List.length_map];simp;lia)))) rfl)) e))))))
 | h+1,n+1,lo,q,hn,⟨ps,h1,h2,h3,h4⟩,hlo,hr,hnk=>by
  subst h4
  have hlo:1≤lo:=by lia
  have hne:∀ p∈ps,p.1≠[]:=fun p hp=>(h3 p hp).pos (by decide)
  have hin:∀ p∈ps,∀ x∈p.1,x∈(ps.map Prod.fst).flatten:=fun p hp x hx=>List.mem_flatten.mpr ⟨p.1,List.mem_map.mpr ⟨p,hp,rfl⟩,hx⟩
  have hpn:ps≠[]:=fun z=>by rw [z] at h1;simp at h1;lia
  obtain ⟨j,ej,hj⟩:=jy (c:=.lst (ps.map aX)) hk (fun p hp=>hr.o _ (hin p hp _ (iK (hne p hp)))) (g6 _ _) (fun i p h=>jU _ _ h) hpn (by lia)
  have hjl:=hj.l
  have eg:=List.getElem?_eq_getElem hjl
  have hm:ps[j]∈ps:=List.getElem_mem hj.l
  generalize ps[j]=p at eg hm
  have hsub:p.1.Sublist ((ps.map Prod.fst).flatten):=List.sublist_flatten_of_mem (List.mem_map.mpr ⟨_,hm,rfl⟩)
  obtain ⟨qs,e1,m1⟩:=mf hk h n 4 p (by lia) (h3 p hm) (.inr (by decide)) ⟨hr.s.sublist hsub,fun x hx=>hr.o x (hin _ hm x hx)⟩ (fun z=>hnk (hin p hm k z))
  have hf:=m1.fresh
  have q2:=hf.a
  have q3:=hf.b
  obtain ⟨ha,hc⟩:=apart hr.s hne hj eg
  have hsp:=eM eg
  have ltk:(ps.take j).length=j:=by rw [List.length_take];have:=hj.l;lia
  have ldr:(ps.drop (j+1)).length=ps.length - (j+1):=List.length_drop
  have hjl:=hj.l
  have hlen:(ps.take j++qs++ps.drop (j+1)).length=ps.length - 1+qs.length:=by rw [List.length_append,List.length_append,ltk,ldr];lia
  obtain ⟨rs,e,m⟩:=oZ (lo:=lo) (h:=h) (ps:=ps.take j++qs++ps.drop (j+1)) (fun x hx=>by
   rcases List.mem_append.mp hx with hx|hx
   ·rcases List.mem_append.mp hx with hx|hx
    ·exact h3 x (List.mem_of_mem_take hx)
    ·exact hf.n x hx
   ·exact h3 x (List.mem_of_mem_drop hx)) (by lia) (by lia) (by lia)
  have em:((ps.take j++qs++ps.drop (j+1)).map Prod.fst).flatten=ins k (brN ps).1:=by
   rw [flat3,hf.f,← sj ha hc]
   show ins k _=ins k ((ps.map Prod.fst).flatten)
   congr 1
   conv=>rhs;rw [hsp]
   rw [List.map_append,List.map_cons,List.flatten_append,List.flatten_cons,List.append_assoc]
  rw [em] at m
  refine ⟨rs,?_,m⟩
  ·rw [jL,cM]
   have hcond:qBl (vOp eqD (vOp ixD (ai 0) (vC (.int 0))) (vC (.str "leaf"))) [some (brN ps).2,some (ag k),none,none,none,none,none]=.ok false:=aI (aj (aj rfl rfl bI) rfl (fV.trans (by rw [nbl])))
   rw [List.map_append,List.map_append] at e
   have j1:(j:Int)+1=((j+1:Nat):Int):=by lia
   have s1:slD (.lst (ps.map aX)) none (some (j:Int))=.ok (.lst ((ps.take j).map aX)):=by rw [zz,pP (by lia),Int.toNat_natCast,List.map_take]
   have s2:slD (.lst (ps.map aX)) (some ((j:Int)+1)) none=.ok (.lst ((ps.drop (j+1)).map aX)):=by rw [j1,zz,qm (by lia),Int.toNat_natCast,List.map_drop]
   exact aE ((skip hcond).trans ((au (aF (am (ac (aj rfl rfl bE) rfl) wR))).trans ((au (aF (am (ac rfl (ac rfl rfl)) ej))).trans ((au (aF (am (ac (aj (aj rfl rfl (jU _ _ eg)) rfl bE) (ac rfl rfl)) e1))).trans (ay (am (ac rfl (ac (aj (aj (jz rfl rfl (cf rfl) s1) (am (ac rfl rfl) (gI (iR hf) (by lia))) (add_l.trans (if_pos (by rw [List.length_map,List.length_map];lia)))) (jz rfl (cf (cg rfl rfl)) rfl s2) (add_l.trans (if_pos (by rw [List.length_append,List.length_map,List.length_map,List.length_map];lia)))) rfl)) e))))))
theorem jI {k:K4} (hk:Ok k):∀ (h n lo:Nat) (q:List K4×D),h < n→Nd h lo q→(h=0∨2≤lo)→Rows q.1→k∈q.1 →
  ∃ q':List K4×D,ba n [q.2,ag k]=.ok q'.2∧q'.1=del k q.1∧Nd h (lo - 1) q'
 | _,0,_,_,hn,_,_,_,_=>absurd hn (Nat.not_lt_zero _)
 | 0,n+1,lo,q,hn,⟨h1,h2,h3⟩,hlo,hr,hnk=>by
  obtain ⟨ks,d⟩:=q
  obtain rfl:d=(lfN ks).2:=congrArg Prod.snd h3
  have h1:lo≤ks.length:=h1
  have h2:ks.length≤8:=h2
  have hlen:(del k ks).length+1=ks.length:=pj hr.s hnk
  refine ⟨lfN (del k ks),?_,rfl,?_,?_,rfl⟩
  ·rw [hJ,ca]
   have ea:bX (.one 0) (qBl (vOp neD (ai 0) (ai 1))) (ai 0) [none,some (ag k)] (ks.map ag)=.ok (.lst ((del k ks).map ag)) :=
    kR ag ag _ ks (fun l hl=>aI (aj rfl rfl ((hr.o l hl).ne hk))) (fun _ _ _=>rfl) (by lia)
   have hcond:qBl (vOp eqD (vOp ixD (ai 0) (vC (.int 0))) (vC (.str "leaf"))) [some (lfN ks).2,some (ag k),none,none,none]=.ok true:=aI (aj (aj rfl rfl bI) rfl (fV.trans (by rw [decide_eq_true rfl])))
   exact aE (bQ ((bi hcond).trans (ay (bq (ac rfl (ac (am (ac (cX (dZ (aj rfl rfl bE) rfl) ea) rfl) ua) rfl))))))
  ·show lo - 1≤(del k ks).length;lia
  ·show (del k ks).length≤8;lia
 | h+1,n+1,lo,q,hn,⟨ps,h1,h2,h3,h4⟩,hlo,hr,hnk=>by
  subst h4
  have hlo:2≤lo:=by lia
  have hne:∀ p∈ps,p.1≠[]:=fun p hp=>(h3 p hp).pos (by decide)
  have hin:∀ p∈ps,∀ x∈p.1,x∈(ps.map Prod.fst).flatten:=fun p hp x hx=>List.mem_flatten.mpr ⟨p.1,List.mem_map.mpr ⟨p,hp,rfl⟩,hx⟩
  have hpn:ps≠[]:=fun z=>by rw [z] at h1;simp at h1;lia
  obtain ⟨j,ej,hj⟩:=jy (c:=.lst (ps.map aX)) hk (fun p hp=>hr.o _ (hin p hp _ (iK (hne p hp)))) (g6 _ _) (fun i p h=>jU _ _ h) hpn (by lia)
  have hjl:=hj.l
  have eg:=List.getElem?_eq_getElem hjl
  have hm:ps[j]∈ps:=List.getElem_mem hj.l
  generalize ps[j]=p at eg hm
  have hsub:p.1.Sublist ((ps.map Prod.fst).flatten):=List.sublist_flatten_of_mem (List.mem_map.mpr ⟨_,hm,rfl⟩)
  obtain ⟨q,e1,f1,m1⟩:=jI hk h n 4 p (by lia) (h3 p hm) (.inr (by decide)) ⟨hr.s.sublist hsub,fun x hx=>hr.o x (hin _ hm x hx)⟩ ((seek hr.s hne hj eg).mp hnk)
  obtain ⟨ha,hc⟩:=apart hr.s hne hj eg
  have hjl:=hj.l
  have eA:del k (((ps.take j).map Prod.fst).flatten)=((ps.take j).map Prod.fst).flatten:=jn fun z=>TS.to4.irr _ (ha k z)
  have eC:del k (((ps.drop (j+1)).map Prod.fst).flatten)=((ps.drop (j+1)).map Prod.fst).flatten:=jn fun z=>TS.to4.irr _ (hc k z)
  have ef:((ps.take j).map Prod.fst).flatten++q.1++((ps.drop (j+1)).map Prod.fst).flatten=del k ((ps.map Prod.fst).flatten):=by
   have hsp:=eM eg
   conv=>rhs;rw [hsp]
   rw [List.map_append,List.map_cons,List.flatten_append,List.flatten_cons,pL,pL,eA,eC,f1,List.append_assoc]
  obtain ⟨xs,ex,x3,x8,xN⟩:=m1.things
  have x3:3≤xs.length:=x3
  have hcond:qBl (vOp eqD (vOp ixD (ai 0) (vC (.int 0))) (vC (.str "leaf"))) [some (brN ps).2,some (ag k),none,none,none]=.ok false:=aI (aj (aj rfl rfl bI) rfl (fV.trans (by rw [nbl])))
  have start:∀ T:FS,aK (sIf (qBl (vOp eqD (vOp ixD (ai 0) (vC (.int 0))) (vC (.str "leaf")))) (bv (g9 (ae (vC (.str "leaf")) (ae (ao tupD (ae (fX [none,some 1] (lH (vOp ixD (ai 0) (vC (.int 1)))) (.one 0) (qBl (vOp neD (ai 0) (ai 1))) (ai 0)) av)) av)))) bb) (aK (bJ 2 (ao lstD (ae (vOp ixD (ai 0) (vC (.int 1))) av))) (aK (bJ 3 (ao bp (ae (ai 2) (ae (ai 1) av)))) (aK (bJ 4 (ao (ba n) (ae (vOp ixD (vOp ixD (ai 2) (ai 3)) (vC (.int 1))) (ae (ai 1) av)))) T))) [some (brN ps).2,some (ag k),none,none,none]=T [some (brN ps).2,some (ag k),some (.lst (ps.map aX)),some (.int (j:Int)),some q.2]:=fun T =>
   (skip hcond).trans ((au (aF (am (ac (aj rfl rfl bE) rfl) wR))).trans ((au (aF (am (ac rfl (ac rfl rfl)) ej))).trans (au (aF (am (ac (aj (aj rfl rfl (jU _ _ eg)) rfl bE) (ac rfl rfl)) e1)))))
  have hq:qBl (vOp geD (ao lenD (ae (vOp ixD (ai 4) (vC (.int 1))) av)) (vC mo)) [some (brN ps).2,some (ag k),some (.lst (ps.map aX)),some (.int (j:Int)),some q.2]=.ok (decide ((4:Int)≤(xs.length:Int))):=aI (aj (bm (aj rfl rfl (by rw [ex];exact bE)) oN) rfl ge_i)
  rw [hJ,ca]
  by_cases h4:4≤xs.length
  ·rw [decide_eq_true (by lia)] at hq
   have hF:Fresh h q.1 [q]:=⟨fun x hx=>by rw [List.mem_singleton.mp hx];exact xN 4 h4,by simp,by simp,by simp⟩
   refine ⟨brN (ps.take j++[q]++ps.drop (j+1)),aE ((start _).trans (bQ ((bi hq).trans (ay (bq (ac rfl (ac (am (ac (aj (aj (jz rfl rfl (cf rfl) (slT aX ps j)) (am (ac (bh (ac rfl rfl)) rfl) (gI (qs:=[q]) (iR hF) (by simp))) (catL aX (by rw [List.length_take];simp;lia))) (jz rfl (cf (cg rfl rfl)) rfl (slF aX ps (j:=j+1) (by lia))) (catL aX (by rw [List.length_append,List.length_take,List.length_drop];simp;lia))) rfl) ua) rfl))))))),?_,?_⟩
   ·show ((ps.take j++[q]++ps.drop (j+1)).map Prod.fst).flatten=_
    rw [flat3,hF.f]
    exact ef
   ·exact pp h3 hF h2 (by lia) (by lia) (by simp;lia) (by simp;lia)
  ·rw [decide_eq_false (by lia)] at hq
   obtain ⟨q',e2,f2,n2⟩:=mended h3 (by lia) h2 eg m1
   exact ⟨q',aE ((start _).trans ((skip hq).trans (ay (am (ac rfl (ac rfl (ac rfl rfl))) e2)))),f2.trans ef,n2.mono (by lia)⟩
theorem rooted {h:Nat} {ks:List K4} {qs:List (List K4×D)} (hm:Made h (rt h) ks qs):∃ h' d,gK [.lst (qs.map Prod.snd)]=.ok d∧Nd h' (rt h') (ks,d):=by
 rw [qe,ja]
 have one:∀ q:List K4×D,q.1=ks→Nd h (rt h) q→∃ h' d,fin ((aK (bJ 1 (ai 0)) (aK (b7 (qBl (vOp gtD (ao lenD (ae (ai 1) av)) (vC (.int 1)))) (bJ 1 (ao aV (ae (vC (.str "branch")) (ae (ao bG (ae (ai 1) av)) av)))) 1000) (bv (vOp ixD (ai 1) (vC (.int 0)))))) [some (.lst [q.2]),none])=.ok d∧Nd h' (rt h') (ks,d):=fun q e n=>by
  refine ⟨h,q.2,aE ((au (aF rfl)).trans ((au (pC (aI (aj (bm rfl si) rfl (wE.trans rfl))))).trans (ay (aj rfl rfl eO)))),?_⟩
  rw [← e]
  exact n
 rcases hm with ⟨q,rfl,f,n⟩|f
 ·exact one q f n
 ·have ha:=f.a
  have hb:=f.b
  rcases (show qs.length=1∨qs.length=2 by lia) with z|z
  ·obtain ⟨q,rfl⟩:=List.length_eq_one_iff.mp z
   exact one q (by simpa using f.f) ((f.n q (by simp)).mono (by cases h with|zero=>exact Nat.zero_le _|succ h=>show 2≤4;lia))
  ·have hp:=gI (iR f) (by lia)
   have ec:=gu aX (.str "branch") (xO (qs.map aX)) (by lia) (by lia)
   refine ⟨h+1,(brN qs).2,aE ((au (aF rfl)).trans ((au ((nW (aI (aj (bm rfl (g6 _ _)) rfl (wE.trans (by rw [z];rfl)))) (aF (am (ac rfl (ac (am (ac rfl rfl) hp) rfl)) ec))).trans (pC (aI (aj (bm rfl si) rfl (wE.trans rfl)))))).trans (ay (aj rfl rfl eO)))),qs,by show 2≤qs.length;lia,by lia,f.n,?_⟩
   rw [← f.f]
   rfl
theorem low {h:Nat} {q:List K4×D} (hq:Nd h (rt h) q) (hl:q.1.length≤700):h≤5:=by
 cases h with
 | zero=>lia
 | succ h =>
  have h1:=hq.many
  have h2:rt (h+1)=2:=rfl
  rw [h2] at h1
  rcases Nat.lt_or_ge h 5 with z|z
  ·lia
  ·have:4 ^ 6≤4 ^ (h+1):=Nat.pow_le_pow_right (by decide) (by lia)
   lia
theorem rH {h:Nat} {k:K4} {ks:List K4} {d:D} (hk:Ok k) (ht:Nd h (rt h) (ks,d)) (hr:Rows ks) (hl:ks.length≤600) (hn:k∉ks):∃ h' d',cj [d,dW k,.int k.2.2.2]=.ok d'∧Nd h' (rt h') (ins k ks,d'):=by
 have h5:=low ht (by show ks.length≤700;lia)
 obtain ⟨qs,e,m⟩:=mf hk h 10 (rt h) (ks,d) (by lia) ht (qE h) hr hn
 obtain ⟨h',d',e2,n2⟩:=rooted m
 refine ⟨h',d',?_,n2⟩
 have hh:=iT hk (ht.tr (qE h)) (by lia) hr (by show ks.length≤601;lia)
 rw [decide_eq_false hn] at hh
 rw [un] at e
 rw [jT,cO]
 exact aE ((skip (bV (am (ac rfl (ac rfl (ac rfl rfl))) hh) rfl)).trans (ay (am (ac (am (ac rfl (ac (bq (ac rfl (ac rfl rfl))) rfl)) e) rfl) e2)))
theorem rg {h:Nat} {k:K4} {ks:List K4} {d:D} (hk:Ok k) (ht:Nd h (rt h) (ks,d)) (hr:Rows ks) (hl:ks.length≤601) (hn:k∈ks):cj [d,dW k,.int k.2.2.2]=.ok d:=by
 have h5:=low ht (by show ks.length≤700;lia)
 have hh:=iT hk (ht.tr (qE h)) (by lia) hr (by show ks.length≤601;lia)
 rw [decide_eq_true hn] at hh
 rw [jT,cO]
 exact aE (bQ ((bi (bV (am (ac rfl (ac rfl (ac rfl rfl))) hh) rfl)).trans (ay rfl)))
theorem mW {h:Nat} {k:K4} {ks:List K4} {d:D} (hk:Ok k) (ht:Nd h (rt h) (ks,d)) (hr:Rows ks) (hl:ks.length≤601) (hn:k∈ks):∃ h' d',bj [d,dW k,.int k.2.2.2]=.ok d'∧Nd h' (rt h') (del k ks,d'):=by
 have h5:=low ht (by show ks.length≤700;lia)
 obtain ⟨q,e,f,m⟩:=jI hk h 10 (rt h) (ks,d) (by lia) ht (by cases h with|zero=>exact .inl rfl|succ h=>exact .inr (Nat.le_refl _)) hr hn
 have f:q.1=del k ks:=f
 have hh:=iT hk (ht.tr (qE h)) (by lia) hr (by show ks.length≤601;lia)
 rw [decide_eq_true hn] at hh
 rw [un] at e
 rw [fY,bM]
 have start:∀ T:FS,aK (sIf (iC (eT (ao cA (ae (ai 0) (ae (ai 1) (ae (ai 2) av)))))) (bv (ai 0)) bb) (aK (bJ 3 (ao cb (ae (ai 0) (ae (g9 (ae (ai 1) (ae (ai 2) av))) av)))) T) [some d,some (dW k),some (.int k.2.2.2),none]=T [some d,some (dW k),some (.int k.2.2.2),some q.2]:=fun T =>
  (skip (ky (b:=true) (am (ac rfl (ac rfl (ac rfl rfl))) hh))).trans (au (aF (am (ac rfl (ac (bq (ac rfl (ac rfl rfl))) rfl)) e)))
 cases h with
 | zero =>
  obtain ⟨m1,m2,m3⟩:=m
  refine ⟨0,q.2,aE ((start _).trans ((skip (sk (aI (aj (aj rfl rfl (by rw [m3];exact bI)) rfl (fV.trans (by rw [nlb])))))).trans (ay rfl))),?_⟩
  rw [← f]
  exact ⟨Nat.zero_le _,m2,m3⟩
 | succ h =>
  obtain ⟨ps,m1,m2,m3,m4⟩:=m
  subst m4
  have m1:1≤ps.length:=m1
  have q1:qBl (vOp eqD (vOp ixD (ai 3) (vC (.int 0))) (vC (.str "branch"))) [some d,some (dW k),some (.int k.2.2.2),some (brN ps).2]=.ok true:=aI (aj (aj rfl rfl bI) rfl (fV.trans (by rw [decide_eq_true rfl])))
  have q2:qBl (vOp eqD (ao lenD (ae (vOp ixD (ai 3) (vC (.int 1))) av)) (vC (.int 1))) [some d,some (dW k),some (.int k.2.2.2),some (brN ps).2]=.ok (decide ((ps.length:Int)=1)):=iI (bm (aj rfl rfl bE) (qp _ _)) rfl
  by_cases h1:ps.length=1
  ·rw [decide_eq_true (by lia)] at q2
   obtain ⟨p,rfl⟩:=List.length_eq_one_iff.mp h1
   refine ⟨h,p.2,aE ((start _).trans (bQ ((bi (lB q1 q2)).trans (ay (aj (aj (aj rfl rfl bE) rfl bI) rfl bE))))),?_⟩
   have e6:p.1=del k ks:=by rw [← f];show p.1=([p.1]:List (List K4)).flatten;simp
   rw [← e6]
   exact (m3 p (by simp)).mono (by cases h with|zero=>exact Nat.zero_le _|succ h=>show 2≤4;lia)
  ·rw [decide_eq_false (by lia)] at q2
   refine ⟨h+1,(brN ps).2,aE ((start _).trans ((skip (lB q1 q2)).trans (ay rfl))),?_⟩
   rw [← f]
   exact ⟨ps,by show 2≤ps.length;lia,m2,m3,rfl⟩
theorem mP {h:Nat} {k:K4} {ks:List K4} {d:D} (hk:Ok k) (ht:Nd h (rt h) (ks,d)) (hr:Rows ks) (hl:ks.length≤601) (hn:k∉ks):bj [d,dW k,.int k.2.2.2]=.ok d:=by
 have h5:=low ht (by show ks.length≤700;lia)
 have hh:=iT hk (ht.tr (qE h)) (by lia) hr hl
 rw [decide_eq_false hn] at hh
 rw [fY,bM]
 exact aE (bQ ((bi (ky (b:=false) (am (ac rfl (ac rfl (ac rfl rfl))) hh))).trans (ay rfl)))
noncomputable def Py (k:Nat) (d:D):Prop:=∃ p,toPy d=some p∧p.canLay0=true∧p.depth≤k
theorem Py.list {k:Nat}:∀ {ds:List D},(∀ d∈ds,Py k d)→∃ ps,toPys ds=some ps∧PyData.canLayAll0 ps=true∧PyData.depthAll ps≤k∧ps.length=ds.length
 | [],_=>⟨[],rfl,rfl,Nat.zero_le _,rfl⟩
 | d::r,h=>by
  obtain ⟨p,h1,h2,h3⟩:=h d (by simp)
  obtain ⟨ps,e1,e2,e3,e4⟩:=Py.list fun x hx=>h x (List.mem_cons_of_mem _ hx)
  refine ⟨p::ps,?_,?_,?_,by simp [e4]⟩
  ·rw [toPys,h1,e1];rfl
  ·rw [PyData.canLayAll0,h2,e2];rfl
  ·rw [PyData.depthAll];exact Nat.max_le.mpr ⟨h3,e3⟩
theorem Py.tup {k:Nat} {ds:List D} (h:∀ d∈ds,Py k d):Py (k+1) (.tup ds):=by
 obtain ⟨ps,e1,e2,e3,e4⟩:=Py.list h
 exact ⟨.tuple ps,by rw [toPy,e1];rfl,e2,by rw [PyData.depth];lia⟩
theorem Py.lst {k:Nat} {ds:List D} (h:∀ d∈ds,Py k d):Py (k+1) (.lst ds):=by
 obtain ⟨ps,e1,e2,e3,e4⟩:=Py.list h
 exact ⟨.list ps,by rw [toPy,e1];rfl,e2,by rw [PyData.depth];lia⟩
theorem Py.mono {k l:Nat} {d:D} (h:Py k d) (hk:k≤l):Py l d:=let ⟨p,a,b,c⟩:=h;⟨p,a,b,Nat.le_trans c hk⟩
theorem Py.two {k:Nat} {a b:D} (ha:Py k a) (hb:Py k b):Py (k+1) (.tup [a,b]):=Py.tup fun d hd=>by
 rcases List.mem_cons.mp hd with z|z
 ·rw [z];exact ha
 ·obtain rfl:d=b:=by simpa using z
  exact hb
theorem Py.int (i:Int):Py 0 (.int i):=⟨.int i,rfl,rfl,Nat.le_refl _⟩
theorem Ok.laid {k:K4} (h:Ok k):Py 1 (ag k):=⟨pyK k,h.py,h.lay.1,Nat.le_of_eq h.lay.2⟩
theorem Py.shaped {k:Nat} {p:PyData} (h1:p.canLay0=true) (h2:p.depth≤k) (hk:k≤60):SeqAt.shaped p=true:=by
 unfold SeqAt.shaped
 rw [h1,decide_eq_true (by lia)]
 rfl
theorem Py.self {k:Nat} {d:D} (h:Py k d) (hk:k≤60) (hs:scalD d=none):eqO d d=some true:=by
 obtain ⟨p,e1,e2,e3⟩:=h
 have e:eqO d d=deepEq d d:=by unfold eqO;rw [hs]
 have s:=Py.shaped e2 e3 hk
 rw [e,deepEq,e1]
 dsimp only
 rw [if_pos ⟨s,s⟩,SeqAt.eqv_refl _ e2]
theorem Py.ne {k:Nat} {d:D} (h:Py k d) (hk:k≤60) (hs:scalD d=none):neD d d=.ok (.bl false):=by
 unfold neD;rw [h.self hk hs];rfl
theorem Py.eq {k:Nat} {d:D} (h:Py k d) (hk:k≤60) (hs:scalD d=none):eqD d d=.ok (.bl true):=by
 unfold eqD;rw [h.self hk hs];rfl
theorem Py.nil {k:Nat} {ds:List D} (h:∀ d∈ds,Py k d) (hk:k≤50):neD (.lst ds) (.lst [])=.ok (.bl (decide (0 < ds.length))):=by
 obtain ⟨ps,e1,e2,e3,e4⟩:=Py.list h
 have et:toPy (.lst ds)=some (.list ps):=by rw [toPy,e1];rfl
 have e0:toPy (.lst [])=some (.list []):=rfl
 have ed:deepEq (.lst ds) (.lst [])=some (PyData.eqv (.list ps) (.list [])):=by
  unfold deepEq
  rw [et,e0]
  simp only
  rw [if_pos ⟨Py.shaped (k:=k+1) e2 (by rw [PyData.depth];lia) (by lia),by decide⟩]
 have eo:eqO (.lst ds) (.lst [])=deepEq (.lst ds) (.lst []):=rfl
 unfold neD
 rw [eo,ed]
 cases ps with
 | nil =>
  have:ds.length=0:=by simpa using e4.symm
  rw [this]
  rfl
 | cons p r =>
  have:0 < ds.length:=by rw [← e4];simp
  rw [decide_eq_true this]
  rfl
noncomputable def leafD (h:Nat) (l:List K4):D:=.tup [.int (h:Int),.lst (l.map ag)]
theorem sZ {h:Nat} {l:List K4} (ho:∀ k∈l,Ok k):Py 3 (leafD h l):=Py.two ((Py.int _).mono (by omega)) (Py.lst fun d hd=>by
 obtain ⟨k,hk,rfl⟩:=List.mem_map.mp hd
 exact (ho k hk).laid)
theorem kr {i j:Nat} {B:FS} {a b:D} {r:List D} {δ δ':Sd} (h:B ((δ.set i (some a)).set j (some b))=.ok (.nx δ')):forD (.tup [i,j]) B (.tup [a,b]::r) δ=forD (.tup [i,j]) B r δ':=by
 rw [p7,uF,aD,vT,h,aD,um]
theorem vS {c b p z:D} {h:Nat}:∀ (ls acc:List (List K4)) (o5 o6:Option D),(∀ l∈acc,∀ k∈l,Ok k)→(∀ l∈ls,∀ k∈l,Ok k)→acc.length+ls.length < 1000 →
  ∃ o5' o6':Option D,forD (.tup [5,6]) iB (ls.map (leafD h)) [some c,some b,some (.lst (acc.map (leafD (h+1)))),some p,some z,o5,o6]=.ok (.nx [some c,some b,some (.lst ((acc++ls).map (leafD (h+1)))),some p,some z,o5',o6'])
 | [],acc,o5,o6,_,_,_=>⟨o5,o6,by rw [List.append_nil];rfl⟩
 | l::r,acc,o5,o6,ha,hl,hn=>by
  rw [List.length_cons] at hn
  obtain ⟨o5',o6',e⟩:=vS (c:=c) (b:=b) (p:=p) (z:=z) (h:=h) r (acc++[l]) (some (.int (h:Int))) (some (.lst (l.map ag))) (fun x hx=>by
   rcases List.mem_append.mp hx with q|q
   ·exact ha x q
   ·obtain rfl:x=l:=by simpa using q
    exact hl x (by simp)) (fun x hx=>hl x (List.mem_cons_of_mem _ hx)) (by rw [List.length_append];simp;omega)
  refine ⟨o5',o6',?_⟩
  rw [show acc++l::r=acc++[l]++r by simp,← e,List.map_cons]
  have hq1:qBl (vOp neD (ai 2) (eR av)) [some c,some b,some (.lst (acc.map (leafD (h+1)))),some p,some z,some (.int (h:Int)),some (.lst (l.map ag))]=.ok (decide (0 < (acc.map (leafD (h+1))).length)):=aI (aj rfl (bh rfl) (Py.nil (k:=3) (fun d hd=>by
   obtain ⟨x,hx,rfl⟩:=List.mem_map.mp hd
   exact sZ (ha x hx)) (by decide)))
  have eh:(h:Int)+1=((h+1:Nat):Int):=by omega
  have hq:qAnd (qBl (vOp neD (ai 2) (eR av))) (qBl (vOp neD (vOp ixD (vOp ixD (ai 2) (vC (.int 0))) (vC (.int 0))) (vOp addD (ai 5) (vC (.int 1))))) [some c,some b,some (.lst (acc.map (leafD (h+1)))),some p,some z,some (.int (h:Int)),some (.lst (l.map ag))]=.ok false:=by
   cases acc with
   | nil=>exact sk hq1
   | cons x y=>exact lB (hq1.trans (by simp)) (aI (aj (aj (aj rfl rfl eO) rfl bI) (cg rfl rfl) (rh.trans (by rw [decide_eq_true eh.symm];rfl))))
  rw [List.map_append]
  refine kr ((skip hq).trans (kC (xs:=acc.map (leafD (h+1))) rfl ?_ (by rw [List.length_map];omega)))
  show _=R.ok (D.tup [.int ((h+1:Nat):Int),.lst (l.map ag)])
  rw [← eh]
  exact bq (ac (cg rfl rfl) (ac rfl rfl))
structure Lv (ks:List K4) (ls:List (List K4)):Prop where
 f:ls.flatten=ks
 n:ls≠[]
theorem wb:∀ {ls:List (List K4)},(∀ l∈ls,l≠[])→ls.length≤ls.flatten.length
 | [],_=>Nat.zero_le _
 | l::r,h=>by
  have h1:0 < l.length:=List.length_pos_iff.mpr (h l (by simp))
  have h2:=wb fun x hx=>h x (List.mem_cons_of_mem (a:=x) _ hx)
  rw [List.flatten_cons,List.length_append,List.length_cons]
  omega
noncomputable abbrev oB (F:List D→R D):FS:=(aK (bJ 4 (vC .non)) (aK (sIf (qAnd (eT (ao iE (ae (ai 3) (ae (vC (.ty "tuple")) av)))) (qBl (vOp eqD (ao lenD (ae (ai 3) av)) (vC (.int 2))))) (bJ 4 (ao F (ae (vOp ixD (ai 3) (vC (.int 1))) (ae (vC (.bl false)) av)))) bb) (aK (sIf (qOr (qBl (vOp isD (ai 4) (vC .non))) (iC (eT (ao c8 (ae (vOp ixD (ai 3) (vC (.int 0))) (ae (vOp ixD (vOp ixD (vOp ixD (ai 4) (vC (.int 0))) (vC (.int 1))) (vC (.int 0))) av)))))) (bv (vC .non)) bb) (sFor (lH (ai 4)) (.tup [5,6]) iB))))
theorem zW {l:List K4} {r:List (List K4)} (h:l≠[]):hd ((l::r).flatten)=hd l:=by
 cases l with
 | nil=>exact absurd rfl h
 | cons k ks=>rfl
theorem vR {c b:D} {h:Nat} {F:List D→R D}:∀ (ps:List (List K4×D)) (acc:List (List K4)) (o3 o4 o5 o6:Option D),(∀ l∈acc,∀ k∈l,Ok k)→(∀ p∈ps,(∀ k∈p.1,Ok k)∧∃ ls:List (List K4),F [p.2,.bl false]=.ok (.lst (ls.map (leafD h)))∧Lv p.1 ls∧∀ l∈ls,l≠[])→acc.length+((ps.map Prod.fst).flatten).length < 1000 →
  ∃ (ls:List (List K4)) (o3' o4' o5' o6':Option D),forD (.one 3) (oB F) (ps.map aX) [some c,some b,some (.lst (acc.map (leafD (h+1)))),o3,o4,o5,o6]=.ok (.nx [some c,some b,some (.lst ((acc++ls).map (leafD (h+1)))),o3',o4',o5',o6'])∧ls.flatten=(ps.map Prod.fst).flatten∧(∀ l∈ls,l≠[])
 | [],acc,o3,o4,o5,o6,_,_,_=>⟨[],o3,o4,o5,o6,by rw [List.append_nil];rfl,rfl,fun l hl=>by cases hl⟩
 | p::r,acc,o3,o4,o5,o6,ha,hp,hn=>by
  obtain ⟨hok,ls,e1,lv,hne⟩:=hp p (by simp)
  have hll:=wb hne
  rw [lv.f] at hll
  rw [List.map_cons,List.flatten_cons,List.length_append] at hn
  have hlo:∀ l∈ls,∀ k∈l,Ok k:=fun l hl k hk=>hok k (by rw [← lv.f];exact List.mem_flatten.mpr ⟨l,hl,hk⟩)
  obtain ⟨o5',o6',e2⟩:=vS (c:=c) (b:=b) (p:=aX p) (z:=.lst (ls.map (leafD h))) (h:=h) ls acc o5 o6 ha hlo (by omega)
  obtain ⟨ms,p3,p4,p5,p6,e3,f3,n3⟩:=vR (c:=c) (b:=b) (h:=h) (F:=F) r (acc++ls) (some (aX p)) (some (.lst (ls.map (leafD h)))) o5' o6' (fun x hx=>by
   rcases List.mem_append.mp hx with q|q
   ·exact ha x q
   ·exact hlo x q) (fun x hx=>hp x (List.mem_cons_of_mem _ hx)) (by rw [List.length_append];omega)
  refine ⟨ls++ms,p3,p4,p5,p6,?_,by rw [List.flatten_append,lv.f,f3,List.map_cons,List.flatten_cons],fun l hl=>?_⟩
  ·rw [← List.append_assoc,← e3,List.map_cons]
   refine dJ ((au (aF rfl)).trans ((au ((bi (lB (bV (gf rfl (xo.trans (rf (by decide +kernel)))) rfl) (aI (aj (bm rfl oN) rfl (jW.trans rfl))))).trans (aF (am (ac (aj rfl rfl bE) (ac rfl rfl)) e1)))).trans ((skip (m9 (aI (aj rfl rfl rfl)) ?_)).trans (eH (dZ rfl rfl) e2))))
   cases ls with
   | nil=>exact absurd rfl lv.n
   | cons l t =>
    have hl:=hne l (by simp)
    have eh:hd l=hd p.1:=by rw [← lv.f,zW hl]
    have ok1:=hok _ (iK (fun z=>by have:=lv.f;rw [z,List.flatten_cons] at this;exact hl (List.append_eq_nil_iff.mp this).1))
    have hix:ixD (.lst (l.map ag)) (.int 0)=.ok (ag (hd p.1)):=by
     rw [← eh]
     cases l with
     | nil=>exact absurd rfl hl
     | cons k ks=>exact eO
    exact ky (b:=true) (am (ac (aj rfl rfl bI) (ac (aj (aj (aj rfl rfl eO) rfl bE) rfl hix) rfl)) ((ok1.same ok1).trans (by rw [decide_eq_true rfl])))
  ·rcases List.mem_append.mp hl with q|q
   ·exact hne l q
   ·exact n3 l q
theorem Ay {c b:D} {n lo:Nat} (hb:b=.bl true∧2≤n∨b=.bl false∧4≤n):∃ i,vOp ixD (eR (ae (vC (.int 4)) (ae (vC (.int 2)) av))) (ao intD (ae (ai 1) av)) [some c,some b,none,none,none,none,none]=.ok (.int i)∧i≤(n:Int):=by
 rcases hb with ⟨rfl,h⟩|⟨rfl,h⟩
 ·exact ⟨2,aj (bh (ac rfl (ac rfl rfl))) (am (ac rfl rfl) yh) pN,by omega⟩
 ·exact ⟨4,aj (bh (ac rfl (ac rfl rfl))) (am (ac rfl rfl) yh) eO,by omega⟩
theorem x9 (xs:List D):iE [.tup xs,.ty "tuple"]=.ok (.bl true):=xo.trans (rf (by decide +kernel))
theorem l5 {w:D} {xs:List D} {b:D} (hx:xs.length≤8):qOr (iC (eT (ao iE (ae (ai 0) (ae (vC (.ty "tuple")) av))))) (qOr (qBl (vOp neD (ao lenD (ae (ai 0) av)) (vC (.int 2)))) (qOr (iC (eT (ao iE (ae (vOp ixD (ai 0) (vC (.int 1))) (ae (vC (.ty "tuple")) av))))) (qBl (vOp gtD (ao lenD (ae (vOp ixD (ai 0) (vC (.int 1))) av)) (vC (.int 8)))))) [some (.tup [w,.tup xs]),some b,none,none,none,none,none]=.ok false :=
 m9 (ky (b:=true) (gf rfl (x9 _))) (m9 (aI (aj (bm rfl oN) rfl (rh.trans rfl))) (m9 (ky (b:=true) (gf (aj rfl rfl bE) (x9 _))) (aI (aj (bm (aj rfl rfl bE) oN) rfl (wE.trans (by rw [decide_eq_false (by omega)]))))))
theorem tJ:∀ (h n:Nat) (q:List K4×D) (b:Bool),h < n→Nd h (if b=true then rt h else 4) q→(∀ k∈q.1,Ok k)→q.1.length≤700 →
  ∃ ls:List (List K4),cx n [q.2,.bl b]=.ok (.lst (ls.map (leafD h)))∧Lv q.1 ls∧(b=false∨1≤h→∀ l∈ls,l≠[])
 | _,0,_,_,hn,_,_,_=>absurd hn (Nat.not_lt_zero _)
 | 0,n+1,q,b,hn,⟨h1,h2,h3⟩,ho,hl=>by
  obtain ⟨ks,d⟩:=q
  obtain rfl:d=(lfN ks).2:=congrArg Prod.snd h3
  have h2:ks.length≤8:=h2
  refine ⟨[ks],?_,⟨by simp,by simp⟩,fun hb l hl=>?_⟩
  ·rw [n9,gH]
   have hq:qOr (eT (ai 1)) (qBl (vOp gtD (ao lenD (ae (vOp ixD (ai 0) (vC (.int 1))) av)) (vC (.int 3)))) [some (lfN ks).2,some (.bl b),none,none,none,none,none]=.ok true:=by
    cases b with
    | true=>exact zR (bV rfl rfl)
    | false =>
     have h1:4≤ks.length:=h1
     exact m9 (bV rfl rfl) (aI (aj (bm (aj rfl rfl bE) (qp _ _)) rfl (wE.trans (by rw [decide_eq_true (by omega)]))))
   refine aE ((skip (l5 (by rw [List.length_map];exact h2))).trans (bQ ((bi (aI (aj (aj rfl rfl bI) rfl (fV.trans (by rw [decide_eq_true rfl]))))).trans (ay ?_))))
   exact sO hq (bh (ac (bq (ac rfl (ac (am (ac (aj rfl rfl bE) rfl) wR) rfl))) rfl))
  ·obtain rfl:l=ks:=by simpa using hl
   rcases hb with rfl|z
   ·have h1:4≤l.length:=h1
    intro z
    rw [z] at h1
    simp at h1
   ·omega
 | h+1,n+1,q,b,hn,⟨ps,h1,h2,h3,h4⟩,ho,hl=>by
  subst h4
  have hok:∀ p∈ps,∀ k∈p.1,Ok k:=fun p hp x hx=>ho x (List.mem_flatten.mpr ⟨p.1,List.mem_map.mpr ⟨p,hp,rfl⟩,hx⟩)
  have hlen:∀ p∈ps,p.1.length≤700:=fun p hp=>Nat.le_trans (List.sublist_flatten_of_mem (List.mem_map.mpr ⟨p,hp,rfl⟩)).length_le hl
  have hl:((ps.map Prod.fst).flatten).length≤700:=hl
  obtain ⟨ls,o3,o4,o5,o6,e,f,hne⟩:=vR (c:=(brN ps).2) (b:=.bl b) (h:=h) (F:=cx n) ps [] none none none none (fun l hl=>by cases hl) (fun p hp=>⟨hok p hp,by
   obtain ⟨ls,e,lv,hne⟩:=tJ h n p false (by omega) (h3 p hp) (hok p hp) (hlen p hp)
   exact ⟨ls,e,lv,hne (.inl rfl)⟩⟩) (by simpa using (by omega:((ps.map Prod.fst).flatten).length < 1000))
  have hpl:2≤ps.length:=by
   cases b with
   | true=>exact h1
   | false=>have h1:4≤ps.length:=h1;omega
  refine ⟨ls,?_,⟨f,fun z=>?_⟩,fun _=>hne⟩
  ·rw [n9,gH]
   obtain ⟨i,ei,hi⟩:=Ay (c:=(brN ps).2) (b:=.bl b) (n:=ps.length) (lo:=0) (by
    cases b with
    | true=>exact .inl ⟨rfl,h1⟩
    | false=>exact .inr ⟨rfl,h1⟩)
   exact aE ((skip (l5 (by rw [List.length_map];exact h2))).trans ((skip (aI (aj (aj rfl rfl bI) rfl (fV.trans (by rw [nbl]))))).trans ((skip (m9 (aI (aj (aj rfl rfl bI) rfl (yd.trans (by rw [decide_eq_true rfl];rfl)))) (aI (aj (bm (aj rfl rfl bE) (qp _ _)) ei (u6.trans (by rw [decide_eq_false (by omega)])))))).trans ((au (fc (bh rfl))).trans ((au (eH (dZ (aj rfl rfl bE) rfl) e)).trans (ay rfl))))))
  ·rw [z] at f
   cases ps with
   | nil=>simp at hpl
   | cons p r =>
    have f:[]=p.1++(r.map Prod.fst).flatten:=f
    exact (h3 p (by simp)).pos (by decide) (List.append_eq_nil_iff.mp f.symm).1
theorem wj {a b c:D} {h:Nat}:∀ (ls:List (List K4)) (xs:List K4) (o4 o5:Option D),xs.length+ls.flatten.length≤1000 →
  ∃ o4' o5':Option D,forD (.tup [4,5]) (bJ 3 (vOp addD (ai 3) (ai 5))) (ls.map (leafD h)) [some a,some b,some c,some (.lst (xs.map ag)),o4,o5]=.ok (.nx [some a,some b,some c,some (.lst ((xs++ls.flatten).map ag)),o4',o5'])
 | [],xs,o4,o5,_=>⟨o4,o5,by rw [List.flatten_nil,List.append_nil];rfl⟩
 | l::r,xs,o4,o5,hl=>by
  rw [List.flatten_cons,List.length_append] at hl
  obtain ⟨o4',o5',e⟩:=wj (a:=a) (b:=b) (c:=c) (h:=h) r (xs++l) (some (.int (h:Int))) (some (.lst (l.map ag))) (by rw [List.length_append];omega)
  refine ⟨o4',o5',?_⟩
  rw [List.flatten_cons,← List.append_assoc,← e,List.map_cons,List.map_append]
  exact kr (aF (aj rfl rfl (add_l.trans (if_pos (by rw [List.length_map,List.length_map];omega)))))
theorem Aa {h:Nat} {ks:List K4} {d:D} (ht:Nd h (rt h) (ks,d)) (hr:Rows ks) (hl:ks.length≤601):jH [d,.lst (ks.map ag)]=.ok (.bl true):=by
 have h5:=low ht (by show ks.length≤700;omega)
 obtain ⟨ls,e,lv,_⟩:=tJ h 10 (ks,d) true (by omega) ht hr.o (by show ks.length≤700;omega)
 have ef:ls.flatten=ks:=lv.f
 obtain ⟨o4,o5,e2⟩:=wj (a:=d) (b:=.lst (ks.map ag)) (c:=.lst (ls.map (leafD h))) (h:=h) ls [] none none (by rw [ef];simp;omega)
 rw [ef,List.nil_append] at e2
 rw [xC,mT]
 exact aE ((au (aF (am (ac rfl (ac rfl rfl)) e))).trans ((skip (aI (aj rfl rfl rfl))).trans ((au (aF (bh rfl))).trans ((au (eH (dZ rfl rfl) e2)).trans (ay (am (ac rfl (ac rfl rfl)) (alike hr.o (by omega))))))))
noncomputable def ov:D→D
 | .non=>.int 0
 | d=>d
theorem ut {d:D} (h:Vl 40 d):fF [d]=.ok (.tup [.int (kx d),ov d]):=by
 rw [oF,fD]
 cases d with
 | non=>exact aE (bQ ((bi (aI (aj rfl rfl rfl))).trans (ay (bq (ac rfl (ac rfl rfl))))))
 | int i=>exact aE ((skip (aI (aj rfl rfl rfl))).trans (ay (bq (ac (qc (am (ac rfl rfl) (kind (d:=.int i) (h.mono (by decide)))) (zS _ (rq _))) (ac rfl rfl)))))
 | str z=>exact aE ((skip (aI (aj rfl rfl rfl))).trans (ay (bq (ac (qc (am (ac rfl rfl) (kind (d:=.str z) (h.mono (by decide)))) (zS _ (rq _))) (ac rfl rfl)))))
 | _=>exact h.elim
theorem Ok.keyN {k:K4} (h:Ok k):keyN (bL [ag k])=some k:=by
 have e:bL [ag k]=.ok (.tup [.tup [.int (T26.kx (dW k)),ov (dW k)],.int k.2.2.2]):=by
  rw [pB,fM]
  exact aE (ay (bq (ac (am (ac (aj rfl rfl (u0 k)) rfl) (ut h.v)) (ac (aj rfl rfl (u1 k)) rfl))))
 rw [e]
 have hv:=h.v
 cases q:dW k with
 | non=>exact congrArg some (mx h q).symm
 | int i=>exact congrArg some (mE h q).symm
 | str z=>exact congrArg some (mw h q).symm
 | _=>rw [q] at hv;exact hv.elim
theorem keysN:∀ {l:List K4},(∀ k∈l,Ok k)→keysG L2.keyN bL (l.map ag)=some l
 | [],_=>rfl
 | k::r,h=>by
  have hk:=h k (by simp)
  rw [List.map_cons,keysG,hk.e,keysN fun x hx=>h x (List.mem_cons_of_mem _ hx)]
  dsimp only
  rw [if_pos hk.keyN]
theorem cuts {n m p:Nat} (hm:0 < m) (h8:n≤8*m):p*n/m≤(p+1)*n/m∧(p+1)*n/m≤p*n/m+8∧(4*m≤n→p*n/m+4≤(p+1)*n/m):=by
 have e:(p+1)*n=p*n+n:=Nat.succ_mul p n
 rw [e]
 have a8:(p*n+8*m)/m=p*n/m+8:=Nat.add_mul_div_right _ _ hm
 have a4:(p*n+4*m)/m=p*n/m+4:=Nat.add_mul_div_right _ _ hm
 refine ⟨Nat.div_le_div_right (by lia),?_,fun h=>?_⟩
 ·rw [← a8];exact Nat.div_le_div_right (by lia)
 ·rw [← a4];exact Nat.div_le_div_right (by lia)
theorem zL {β:Type} (f:β→D) (w:D) {xs:List β} {m:Nat} (hl:xs.length≤1000) (hm:0 < m) (hm9:m < 100) (h8:xs.length≤8*m):∀ (k p:Nat) (runs:List (List β)) (o4 o5 o6:Option D),p+k=m→runs.length=p→runs.flatten=xs.take (p*xs.length/m)→(∀ r∈runs,r.length≤8∧(4*m≤xs.length→4≤r.length)) →
  ∃ (runs':List (List β)) (o4' o5' o6':Option D),forD (.one 4) cB ((List.range' p k).map fun (j:Nat)=>D.int (j:Int)) [some w,some (.lst (xs.map f)),some (.int (m:Int)),some (.lst (runs.map fun r=>D.tup [w,.tup (r.map f)])),o4,o5,o6]=.ok (.nx [some w,some (.lst (xs.map f)),some (.int (m:Int)),some (.lst (runs'.map fun r=>D.tup [w,.tup (r.map f)])),o4',o5',o6']) ∧
   runs'.length=m∧runs'.flatten=xs∧∀ r∈runs',r.length≤8∧(4*m≤xs.length→4≤r.length)
 | 0,p,runs,o4,o5,o6,hk,hr,hf,hb=>by
  obtain rfl:p=m:=by lia
  refine ⟨runs,o4,o5,o6,rfl,hr,?_,hb⟩
  rw [hf,Nat.mul_div_cancel_left _ hm,List.take_length]
 | k+1,p,runs,o4,o5,o6,hk,hr,hf,hb=>by
  obtain ⟨c1,c2,c3⟩:=cuts (p:=p) hm h8
  have cm:(p+1)*xs.length/m≤xs.length:=by
   have:(p+1)*xs.length≤m*xs.length:=Nat.mul_le_mul_right _ (by lia)
   exact Nat.div_le_of_le_mul this
  have el:(xs.map f).length=xs.length:=List.length_map _
  have t:=pZ (w:=w) (zs:=runs.map fun r=>D.tup [w,.tup (r.map f)]) (m:=(m:Int)) (p:=(p:Int)) (o5:=o5) (o6:=o6) (xO (xs.map f)) (by lia) (by rw [List.length_map];lia) (by lia)
  have e1:((p:Int)*((xs.map f).length:Int)/(m:Int))=((p*xs.length/m:Nat):Int):=by rw [el,Int.natCast_ediv,Int.natCast_mul]
  have e2:(((p:Int)+1)*((xs.map f).length:Int)/(m:Int))=(((p+1)*xs.length/m:Nat):Int):=by rw [el,Int.natCast_ediv,Int.natCast_mul];rfl
  rw [e1,e2] at t
  have ec:cutD (xs.map f) (some ((p*xs.length/m:Nat):Int)) (some (((p+1)*xs.length/m:Nat):Int))=(((xs.drop (p*xs.length/m)).take ((p+1)*xs.length/m - p*xs.length/m))).map f:=by
   rw [m7 (Int.natCast_nonneg _) (Int.ofNat_le.mpr c1) (by rw [el];exact Int.ofNat_le.mpr cm),Int.toNat_natCast,Int.toNat_natCast,List.map_take,List.map_drop]
  rw [ec] at t
  have ea:(runs.map fun r=>D.tup [w,.tup (r.map f)])++[.tup [w,.tup (((xs.drop (p*xs.length/m)).take ((p+1)*xs.length/m - p*xs.length/m)).map f)]]=(runs++[(xs.drop (p*xs.length/m)).take ((p+1)*xs.length/m - p*xs.length/m)]).map fun r=>D.tup [w,.tup (r.map f)]:=by
   rw [List.map_append];rfl
  rw [ea] at t
  have hln:((xs.drop (p*xs.length/m)).take ((p+1)*xs.length/m - p*xs.length/m)).length=(p+1)*xs.length/m - p*xs.length/m:=by
   rw [List.length_take,List.length_drop];lia
  obtain ⟨runs',o4',o5',o6',g1,g2,g3,g4⟩:=zL f w hl hm hm9 h8 k (p+1) (runs++[(xs.drop (p*xs.length/m)).take ((p+1)*xs.length/m - p*xs.length/m)]) (some (.int (p:Int))) (some (.int ((p*xs.length/m:Nat):Int))) (some (.int (((p+1)*xs.length/m:Nat):Int))) (by lia) (by rw [List.length_append,hr];rfl) (by
   rw [List.flatten_append,hf,List.flatten_singleton]
   have:(p+1)*xs.length/m=p*xs.length/m+((p+1)*xs.length/m - p*xs.length/m):=by lia
   rw [show xs.take ((p+1)*xs.length/m)=xs.take (p*xs.length/m+((p+1)*xs.length/m - p*xs.length/m)) by rw [← this],List.take_add]) (fun r hr'=>by
    rcases List.mem_append.mp hr' with z|z
    ·exact hb r z
    ·rw [List.mem_singleton.mp z,hln]
     exact ⟨by lia,fun q=>by have:=c3 q;lia⟩)
  refine ⟨runs',o4',o5',o6',?_,g2,g3,g4⟩
  rw [List.range'_succ,List.map_cons]
  have t':cB (List.set [some w,some (.lst (xs.map f)),some (.int (m:Int)),some (.lst (runs.map fun r=>D.tup [w,.tup (r.map f)])),o4,o5,o6] 4 (some (.int (p:Int))))=_:=t
  rw [dJ t']
  exact g1
theorem oh {β:Type} (f:β→D) (w:D) {xs:List β} (h0:1≤xs.length) (h1:xs.length≤700):∃ runs:List (List β),aV [w,.lst (xs.map f)]=.ok (.lst (runs.map fun r=>D.tup [w,.tup (r.map f)]))∧runs.flatten=xs∧runs.length=(xs.length+7)/8∧∀ r∈runs,r.length≤8∧(9≤xs.length→4≤r.length):=by
 rw [jo,df]
 have el:(xs.map f).length=xs.length:=List.length_map _
 have hq:(((xs.map f).length:Int)+8 - 1)/8=(((xs.length+7)/8:Nat):Int):=by rw [el];lia
 have hm:vOp divD (vOp subD (vOp addD (ao lenD (ae (ai 1) av)) (vC je)) (vC (.int 1))) (vC je) [some w,some (.lst (xs.map f)),none,none,none,none,none]=.ok (.int (((xs.length+7)/8:Nat):Int)) :=
  (bW (fe (cg (bm rfl si) rfl) rfl) rfl (by decide)).trans (by rw [hq])
 obtain ⟨runs,o4,o5,o6,g1,g2,g3,g4⟩:=zL f w (xs:=xs) (m:=(xs.length+7)/8) (by lia) (by lia) (by lia) (by lia) ((xs.length+7)/8) 0 [] none none none (by lia) rfl (by simp) (fun r hr=>by cases hr)
 refine ⟨runs,aE ((au (aF hm)).trans ((au (fc (bh rfl))).trans ((au (eH (δ':=[some w,some (.lst (xs.map f)),some (.int (((xs.length+7)/8:Nat):Int)),some (.lst (runs.map fun r=>D.tup [w,.tup (r.map f)])),o4,o5,o6]) (lm (n:=(xs.length+7)/8) rfl (by lia)) ?_)).trans (ay rfl)))),g3,g2,fun r hr=>⟨(g4 r hr).1,fun h9=>(g4 r hr).2 (by lia)⟩⟩
 rw [iQ,List.range_eq_range']
 exact g1
structure Lev (h:Nat) (ks:List K4) (qs:List (List K4×D)):Prop where
 f:(qs.map Prod.fst).flatten=ks
 a:1≤qs.length
 b:qs.length≤100
 o:qs.length=1→∀ q∈qs,Nd h (rt h) q
 n:2≤qs.length→∀ q∈qs,Nd h 4 q
theorem vU {ks:List K4} {a:D}:∀ (n h:Nat) (qs:List (List K4×D)),qs.length≤n→Lev h ks qs→∃ h' q,b7 rQ rB (n+1) [some a,some (.lst (qs.map Prod.snd))]=.ok (.nx [some a,some (.lst [q.2])])∧Nd h' (rt h') q∧q.1=ks
 | 0,h,qs,hn,L=>absurd L.a (by lia)
 | n+1,h,qs,hn,L=>by
  have hq:rQ [some a,some (.lst (qs.map Prod.snd))]=.ok (decide ((1:Int) < (qs.length:Int))):=aI (aj (bm rfl (g6 _ _)) rfl wE)
  by_cases h1:qs.length=1
  ·obtain ⟨q,rfl⟩:=List.length_eq_one_iff.mp h1
   rw [decide_eq_false (by simp)] at hq
   exact ⟨h,q,pC hq,L.o h1 q (by simp),by simpa using L.f⟩
  ·have h2:2≤qs.length:=by have:=L.a;lia
   rw [decide_eq_true (by lia)] at hq
   have hN:=L.n h2
   have hp:=gI (qs:=qs) (fun q hq=>⟨⟨h,(hN q hq).tr (.inr (by decide))⟩,(hN q hq).pos (by decide)⟩) L.b
   obtain ⟨runs,e,r1,r2,r3⟩:=oh aX (.str "branch") (xs:=qs) (by lia) (by have:=L.b;lia)
   have ed:(runs.map fun r=>D.tup [.str "branch",.tup (r.map aX)])=(runs.map brN).map Prod.snd:=by rw [List.map_map];rfl
   rw [ed] at e
   have hsub:∀ r∈runs,∀ q∈r,Nd h 4 q:=fun r hr q hq'=>hN q (by rw [← r1];exact List.mem_flatten.mpr ⟨r,hr,hq'⟩)
   have L':Lev (h+1) ks (runs.map brN):=by
    refine ⟨by rw [tF,r1];exact L.f,by rw [List.length_map];lia,by rw [List.length_map];have:=L.b;lia,fun o q hq'=>?_,fun o q hq'=>?_⟩
    ·obtain ⟨r,hr,rfl⟩:=List.mem_map.mp hq'
     rw [List.length_map] at o
     obtain ⟨r0,rfl⟩:=List.length_eq_one_iff.mp o
     obtain rfl:=List.mem_singleton.mp hr
     have:r.length=qs.length:=by rw [← r1];simp
     exact ⟨r,by show 2≤r.length;lia,(r3 r (by simp)).1,hsub r (by simp),rfl⟩
    ·obtain ⟨r,hr,rfl⟩:=List.mem_map.mp hq'
     rw [List.length_map] at o
     exact ⟨r,(r3 r hr).2 (by lia),(r3 r hr).1,hsub r hr,rfl⟩
   obtain ⟨h',q,g1,g2,g3⟩:=vU (a:=a) n (h+1) (runs.map brN) (by rw [List.length_map];lia) L'
   exact ⟨h',q,(nW hq (aF (am (ac rfl (ac (am (ac rfl rfl) hp) rfl)) e))).trans g1,g2,g3⟩
theorem rK {h:Nat} {ks:List K4} {qs:List (List K4×D)} (L:Lev h ks qs):∃ h' d,gK [.lst (qs.map Prod.snd)]=.ok d∧Nd h' (rt h') (ks,d):=by
 rw [qe,ja]
 obtain ⟨h',q,e,n,f⟩:=vU (a:=.lst (qs.map Prod.snd)) 999 h qs (by have:=L.b;lia) L
 exact ⟨h',q.2,aE ((au (aF rfl)).trans ((au e).trans (ay (aj rfl rfl eO)))),by rw [← f];exact n⟩
theorem wy {xs:List D} {x:D}:atI (xs++[x]) (-1)=some x:=by
 have e:ixN (xs++[x]).length (-1)=some xs.length:=by
  unfold ixN
  rw [if_neg (by decide),List.length_append,List.length_singleton,if_pos (by lia)]
  congr 1
  lia
 unfold atI
 rw [e]
 show (xs++[x])[xs.length]?=some x
 simp
theorem A2 {a k:K4} (h:¬ Lt4 k a) (hn:a≠k):Lt4 a k:=by
 rcases TS.to4.tri a k with z|z|z
 ·exact z
 ·exact absurd z hn
 ·exact absurd z h
theorem sL {a:D}:∀ (rest acc:List K4) (o:Option D),(∀ x∈acc,∀ y∈rest,¬ Lt4 y x)→rest.Pairwise (fun x y=>¬ Lt4 y x)→acc.Pairwise Lt4→(∀ k∈acc,Ok k)→(∀ k∈rest,Ok k)→acc.length+rest.length≤900 →
  ∃ (acc':List K4) (o':Option D),forD (.one 2) nB (rest.map ag) [some a,some (.lst (acc.map ag)),o]=.ok (.nx [some a,some (.lst (acc'.map ag)),o'])∧acc'.Pairwise Lt4∧(∀ k,k∈acc' ↔ k∈acc∨k∈rest)∧acc'.length≤acc.length+rest.length
 | [],acc,o,_,_,hp,_,_,_=>⟨acc,o,rfl,hp,fun k=>by simp,by simp⟩
 | k::rest,acc,o,hs,hr,hp,oa,orr,hl=>by
  have ok:=orr k (by simp)
  rw [List.length_cons] at hl
  have hr':=List.pairwise_cons.mp hr
  have hq0:qBl (vOp eqD (ai 1) (eR av)) [some a,some (.lst (acc.map ag)),some (ag k)]=.ok (decide (acc=[])):=aI (aj rfl (bh rfl) (eq_nil oa))
  have more:(∀ x∈acc,Lt4 x k)→qOr (qBl (vOp eqD (ai 1) (eR av))) (qBl (vOp neD (vOp ixD (ai 1) (vUn negD (vC (.int 1)))) (ai 2))) [some a,some (.lst (acc.map ag)),some (ag k)]=.ok true →
    ∃ (acc':List K4) (o':Option D),forD (.one 2) nB ((k::rest).map ag) [some a,some (.lst (acc.map ag)),o]=.ok (.nx [some a,some (.lst (acc'.map ag)),o'])∧acc'.Pairwise Lt4∧(∀ x,x∈acc' ↔ x∈acc∨x∈k::rest)∧acc'.length≤acc.length+(k::rest).length:=fun hlt hq=>by
   obtain ⟨acc',o',e,p1,p2,p3⟩:=sL (a:=a) rest (acc++[k]) (some (ag k)) (fun x hx y hy=>by
    rcases List.mem_append.mp hx with z|z
    ·exact hs x z y (List.mem_cons_of_mem _ hy)
    ·rw [List.mem_singleton.mp z];exact hr'.1 y hy) hr'.2 (List.pairwise_append.mpr ⟨hp,List.pairwise_singleton _ _,fun x hx y hy=>by rw [List.mem_singleton.mp hy];exact hlt x hx⟩) (fun x hx=>by
    rcases List.mem_append.mp hx with z|z
    ·exact oa x z
    ·rw [List.mem_singleton.mp z];exact ok) (fun x hx=>orr x (List.mem_cons_of_mem _ hx)) (by rw [List.length_append,List.length_singleton];lia)
   refine ⟨acc',o',?_,p1,fun x=>?_,by rw [List.length_append,List.length_singleton] at p3;rw [List.length_cons];lia⟩
   ·have t:nB (List.set [some a,some (.lst (acc.map ag)),o] 2 (some (ag k)))=.ok (.nx [some a,some (.lst ((acc++[k]).map ag)),some (ag k)]):=by
     rw [List.map_append]
     exact (bi hq).trans (kC rfl rfl (by rw [List.length_map];lia))
    rw [List.map_cons,dJ t]
    exact e
   ·rw [p2,List.mem_append,List.mem_singleton,List.mem_cons,or_assoc]
  cases hacc:acc.reverse with
  | nil =>
   have:acc=[]:=List.reverse_eq_nil_iff.mp hacc
   subst this
   exact more (fun x hx=>by cases hx) (zR hq0)
  | cons l r =>
   have ea:acc=r.reverse++[l]:=by rw [← List.reverse_reverse acc,hacc,List.reverse_cons]
   have hne:¬ acc=[]:=fun z=>by rw [z] at hacc;cases hacc
   rw [decide_eq_false hne] at hq0
   have hlm:l∈acc:=by rw [ea];simp
   have hix:ixD (.lst (acc.map ag)) (.int (-1))=.ok (ag l):=se (by rw [ea,List.map_append];exact wy)
   have hq1:qBl (vOp neD (vOp ixD (ai 1) (vUn negD (vC (.int 1)))) (ai 2)) [some a,some (.lst (acc.map ag)),some (ag k)]=.ok (!decide (l=k)):=aI (aj (aj rfl rfl hix) rfl ((oa l hlm).ne ok))
   by_cases hlk:l=k
   ·rw [decide_eq_true hlk] at hq1
    obtain ⟨acc',o',e,p1,p2,p3⟩:=sL (a:=a) rest acc (some (ag k)) (fun x hx y hy=>hs x hx y (List.mem_cons_of_mem _ hy)) hr'.2 hp oa (fun x hx=>orr x (List.mem_cons_of_mem _ hx)) (by lia)
    refine ⟨acc',o',?_,p1,fun x=>?_,by rw [List.length_cons];lia⟩
    ·have t:nB (List.set [some a,some (.lst (acc.map ag)),o] 2 (some (ag k)))=.ok (.nx [some a,some (.lst (acc.map ag)),some (ag k)]):=(nM (m9 hq0 hq1)).trans rfl
     rw [List.map_cons,dJ t]
     exact e
    ·rw [p2,List.mem_cons]
     constructor
     ·rintro (z|z)
      ·exact .inl z
      ·exact .inr (.inr z)
     ·rintro (z|z|z)
      ·exact .inl z
      ·exact .inl (by rw [z,← hlk];exact hlm)
      ·exact .inr z
   ·rw [decide_eq_false hlk] at hq1
    refine more (fun x hx=>?_) (m9 hq0 hq1)
    have hkx:=hs x hx k (by simp)
    refine A2 hkx fun z=>?_
    subst z
    rw [ea] at hp hx
    rcases List.mem_append.mp hx with q|q
    ·exact hs l hlm x (by simp) ((List.pairwise_append.mp hp).2.2 x q l (by simp))
    ·exact hlk (List.mem_singleton.mp q).symm
theorem lO {xs:List K4} (ho:∀ k∈xs,Ok k) (hl:xs.length≤600):∃ h ks d,cP [.lst (xs.map ag)]=.ok d∧Nd h (rt h) (ks,d)∧Rows ks∧ks.length≤xs.length∧∀ k,k∈ks ↔ k∈xs:=by
 have e1:sortG L2.keyN bL [.lst (xs.map ag)]=.ok (.lst ((xs.mergeSort le4).map ag)):=by
  unfold sortG
  dsimp only
  rw [if_pos (by rw [List.length_map];lia),keysN ho]
 have hp:=List.mergeSort_perm xs le4
 have hs:(xs.mergeSort le4).Pairwise fun x y=>¬ Lt4 y x:=jE xs
 have ho':∀ k∈xs.mergeSort le4,Ok k:=fun k hk=>ho k (hp.mem_iff.mp hk)
 have hln:(xs.mergeSort le4).length=xs.length:=hp.length_eq
 have hmem:∀ k,k∈xs.mergeSort le4 ↔ k∈xs:=fun k=>hp.mem_iff
 generalize xs.mergeSort le4=ss at *
 obtain ⟨ks,o,e,p1,p2,p3⟩:=sL (a:=.lst (xs.map ag)) ss [] none (fun x hx=>by cases hx) hs List.Pairwise.nil (fun x hx=>by cases hx) ho' (by simp;lia)
 have hk:∀ k,k∈ks ↔ k∈xs:=fun k=>by rw [p2,hmem];simp
 have hR:Rows ks:=⟨p1,fun k hk'=>ho k ((hk k).mp hk')⟩
 have hkl:ks.length≤xs.length:=by simpa [hln] using p3
 rw [nj,dY]
 have start:∀ T:FS,(aK (sOwn 1 (eR av)) (aK (sFor (lH (ao (sortG L2.keyN bL) (ae (ai 0) av))) (.one 2) nB) T)) [some (.lst (xs.map ag)),none,none]=T [some (.lst (xs.map ag)),some (.lst (ks.map ag)),o]:=fun T =>
  (au (fc (bh rfl))).trans (au (eH (dZ (am (ac rfl rfl) e1) rfl) e))
 have hq:qBl (vOp eqD (ai 1) (eR av)) [some (.lst (xs.map ag)),some (.lst (ks.map ag)),o]=.ok (decide (ks=[])):=aI (aj rfl (bh rfl) (eq_nil hR.o))
 by_cases h0:ks=[]
 ·rw [decide_eq_true h0] at hq
  have ee:cZ []=.ok (.tup [.str "leaf",.tup []]):=by
   rw [mC,c7]
   exact aE (ay (bq (ac rfl (ac (bq rfl) rfl))))
  refine ⟨0,ks,_,aE ((start _).trans (bQ ((bi hq).trans (ay (am rfl ee))))),?_,hR,hkl,hk⟩
  subst h0
  exact ⟨Nat.zero_le _,Nat.zero_le _,rfl⟩
 ·rw [decide_eq_false h0] at hq
  have hk1:1≤ks.length:=List.length_pos_iff.mpr h0
  obtain ⟨runs,ec,r1,r2,r3⟩:=oh ag (.str "leaf") (xs:=ks) hk1 (by lia)
  have ed:(runs.map fun r=>D.tup [.str "leaf",.tup (r.map ag)])=(runs.map lfN).map Prod.snd:=by rw [List.map_map];rfl
  rw [ed] at ec
  have ef:((runs.map lfN).map Prod.fst).flatten=ks:=by rw [List.map_map,← r1];congr 1;exact List.map_id' runs
  have L:Lev 0 ks (runs.map lfN):=by
   refine ⟨ef,by rw [List.length_map];lia,by rw [List.length_map];lia,fun _ q hq'=>?_,fun o2 q hq'=>?_⟩
   ·obtain ⟨r,hr,rfl⟩:=List.mem_map.mp hq'
    exact ⟨Nat.zero_le _,(r3 r hr).1,rfl⟩
   ·obtain ⟨r,hr,rfl⟩:=List.mem_map.mp hq'
    rw [List.length_map] at o2
    exact ⟨(r3 r hr).2 (by lia),(r3 r hr).1,rfl⟩
  obtain ⟨h,d,er,nr⟩:=rK L
  exact ⟨h,ks,d,aE ((start _).trans ((skip hq).trans (ay (am (ac (am (ac rfl (ac rfl rfl)) ec) rfl) er)))),nr,hR,hkl,hk⟩
theorem xg {k:K4} (h:Ok k):noL (dW k)=true:=by
 have hv:=h.v
 cases q:dW k with
 | non=>rfl
 | int i=>rfl
 | str z=>rfl
 | _=>rw [q] at hv;exact hv.elim
theorem Ok.noL {k:K4} (h:Ok k):L2.noL (ag k)=true:=by
 rw [un]
 show (L2.noL (dW k)&&(true&&true))=true
 rw [xg h];rfl
theorem pe:∀ {ds:List D},(∀ d∈ds,noL d=true)→noLs ds=true
 | [],_=>rfl
 | d::r,h=>by
  show (noL d&&noLs r)=true
  rw [h d (by simp),pe fun x hx=>h x (List.mem_cons_of_mem _ hx)];rfl
theorem Nd.noL:∀ {h lo:Nat} {q:List K4×D},Nd h lo q→(∀ k∈q.1,Ok k)→L2.noL q.2=true
 | 0,lo,q,⟨_,_,e⟩,ho=>by
  rw [e]
  show (true&&(noLs (q.1.map ag)&&true))=true
  rw [pe fun d hd=>by obtain ⟨k,hk,rfl⟩:=List.mem_map.mp hd;exact (ho k hk).noL];rfl
 | h+1,lo,q,⟨ps,_,_,hp,e⟩,ho=>by
  subst e
  show (true&&(noLs (ps.map aX)&&true))=true
  rw [pe fun d hdd=>by
   obtain ⟨p,hp',rfl⟩:=List.mem_map.mp hdd
   have hk:∀ k∈p.1,Ok k:=fun k hk=>ho k (List.mem_flatten.mpr ⟨p.1,List.mem_map_of_mem hp',hk⟩)
   have hn:=(hp p hp').pos (by decide)
   show (L2.noL (ag (hd p.1))&&(L2.noL p.2&&true))=true
   rw [(hk _ (iK hn)).noL,Nd.noL (hp p hp') hk];rfl];rfl
theorem zo (c:Int):∃ ks:List K4,kh [.int c]=.ok (.lst (ks.map ag))∧ks.length≤130∧∀ k∈ks,Ok k:=by
 rw [uJ,j6]
 have b20:0≤c % 20∧c % 20 < 20:=⟨Int.emod_nonneg _ (by decide),Int.emod_lt_of_pos _ (by decide)⟩
 have b100:0≤c/60 % 100∧c/60 % 100 < 100:=⟨Int.emod_nonneg _ (by decide),Int.emod_lt_of_pos _ (by decide)⟩
 have b3:0≤c % 3∧c % 3 < 3:=⟨Int.emod_nonneg _ (by decide),Int.emod_lt_of_pos _ (by decide)⟩
 have first:∃ m:Nat,m≤119∧∀ T:FS,(aK (bJ 1 (vOp modD (ai 0) (vC (.int 20)))) (aK lI T)) [some (.int c),none,none]=T [some (.int c),some (.int (m:Int)),none]:=by
  have hq:qBl (vOp eqD (vOp modD (vOp divD (ai 0) (vC (.int 20))) (vC (.int 3))) (vC (.int 1))) [some (.int c),some (.int (c % 20)),none]=.ok (decide (c/20 % 3=1)):=iI (bg (bW rfl rfl) rfl) rfl
  by_cases h:c/20 % 3=1
  ·rw [decide_eq_true h] at hq
   refine ⟨(20+c/60 % 100).toNat,by lia,fun T=>?_⟩
   rw [Int.toNat_of_nonneg (by lia)]
   exact (au (aF (bg rfl rfl))).trans (au ((bi hq).trans (aF (cg rfl (bg (bW rfl rfl) rfl)))))
  ·rw [decide_eq_false h] at hq
   refine ⟨(c % 20).toNat,by lia,fun T=>?_⟩
   rw [Int.toNat_of_nonneg b20.1]
   exact (au (aF (bg rfl rfl))).trans (skip hq)
 obtain ⟨m,hm,e0⟩:=first
 obtain ⟨ys,e1,y1,y2⟩:=stream c m (by lia)
 obtain ⟨ks,e2,k1,k2⟩:=entries y2 (by lia)
 refine ⟨ks++ks.take (c % 3).toNat,aE ((e0 _).trans ((au (aF (cX (dZ (am (ac rfl (ac rfl rfl)) e1) rfl) e2))).trans (ay (aj rfl (jz rfl rfl (cf (bg rfl rfl)) ?_) (catL ag (by rw [List.length_take];lia)))))),by rw [List.length_append,List.length_take];lia,fun k hk=>?_⟩
 ·have:=slT ag ks (c % 3).toNat
  rw [Int.toNat_of_nonneg b3.1] at this
  exact this
 ·rcases List.mem_append.mp hk with z|z
  ·exact k2 k z
  ·exact k2 k (List.mem_of_mem_take z)
theorem uT {a b c i:Int} (h0:0≤i) (h1:i < 3):∃ m,ixD (.lst [.int a,.int b,.int c]) (.int i)=.ok (.int m)∧(m=a∨m=b∨m=c):=by
 rcases (show i=0∨i=1∨i=2 by lia) with rfl|rfl|rfl
 ·exact ⟨a,eO,.inl rfl⟩
 ·exact ⟨b,pN,.inr (.inl rfl)⟩
 ·exact ⟨c,se (cr (j:=2) rfl),.inr (.inr rfl)⟩
theorem yp {rs:List K4} {i:Nat} {k:K4} (hr:Rows rs) (h:rs[i]?=some k):rs.take i++rs.drop (i+1)=del k rs:=by
 have e:=eM h
 have hs:=hr.s
 rw [e] at hs
 obtain ⟨s1,s2,s3⟩:=List.pairwise_append.mp hs
 obtain ⟨s4,s5⟩:=List.pairwise_cons.mp s2
 have n1:k∉rs.take i:=fun z=>TS.to4.irr k (s3 k z k (by simp))
 have n2:k∉rs.drop (i+1):=fun z=>TS.to4.irr k (s4 k z)
 have e2:del k rs=del k (rs.take i++k::rs.drop (i+1)):=congrArg _ e
 rw [e2,pL,jn n1]
 have:del k (k::rs.drop (i+1))=del k (rs.drop (i+1)):=by
  unfold del
  rw [List.filter_cons_of_neg (by simp)]
 rw [this,jn n2]
theorem less {h:Nat} {k:K4} {rs:List K4} {d:D} (hk:Ok k) (ht:Nd h (rt h) (rs,d)) (hr:Rows rs) (hl:rs.length≤601):∃ g fd,bj [d,dW k,.int k.2.2.2]=.ok fd∧Nd g (rt g) (del k rs,fd):=by
 by_cases q:k∈rs
 ·exact mW hk ht hr hl q
 ·refine ⟨h,d,mP hk ht hr (by lia) q,?_⟩
  rw [jn q]
  exact ht
theorem wW {h:Nat} {rs:List K4} {d:D} {x:Int} {j:Nat} {o4:Option D} (ht:Nd h (rt h) (rs,d)) (hr:Rows rs) (hl:rs.length≤600) (hn:1≤rs.length) :
  ∃ (g:Nat) (k:K4) (d':D) (i:Nat),tB' [some d,some (.lst (rs.map ag)),some (.int x),some (.int (j:Int)),o4]=.ok (.nx [some d',some (.lst ((del k rs).map ag)),some (.int x),some (.int (j:Int)),some (.int (i:Int))])∧Nd g (rt g) (del k rs,d')∧k∈rs:=by
 have b3:0≤x % 3∧x % 3 < 3:=⟨Int.emod_nonneg _ (by decide),Int.emod_lt_of_pos _ (by decide)⟩
 have b2:(j:Int) % 2=0∨(j:Int) % 2=1:=by lia
 obtain ⟨m,e,hm⟩:=uT (a:=0) (b:=((rs.length:Int) - 1)*((j:Int) % 2)) (c:=(rs.length:Int)/2) b3.1 b3.2
 have hb:0≤m∧m < (rs.length:Int):=by
  rcases hm with rfl|rfl|rfl
  ·lia
  ·rcases b2 with z|z <;> rw [z]
   ·rw [Int.mul_zero];lia
   ·rw [Int.mul_one];lia
  ·lia
 obtain ⟨i,rfl⟩:∃ i:Nat,m=(i:Int):=⟨m.toNat,by lia⟩
 have hi:i < rs.length:=by lia
 have hk:rs[i]?=some rs[i]:=List.getElem?_eq_getElem hi
 have okk:=hr.o rs[i] (List.getElem_mem hi)
 obtain ⟨g,d',e2,n2⟩:=less okk ht hr (by lia)
 have ex:=jU ag rs hk
 refine ⟨g,rs[i],d',i,?_,n2,List.getElem_mem hi⟩
 have ec:=catL ag (xs:=rs.take i) (ys:=rs.drop (i+1)) (by rw [List.length_take,List.length_drop];lia)
 rw [yp hr hk] at ec
 exact (au (aF (aj (bh (ac rfl (ac (iO (fe (bm rfl (g6 _ _)) rfl) (bg rfl rfl) (by lia)) (ac (bW (bm rfl (g6 _ _)) rfl) rfl)))) (bg rfl rfl) e))).trans ((au (aF (am (ac rfl (ac (aj (aj rfl rfl ex) rfl (u0 _)) (ac (aj (aj rfl rfl ex) rfl (u1 _)) rfl))) e2))).trans (aF (aj (jz rfl rfl (cf rfl) (slT ag rs i)) (jz rfl (cf (cg rfl rfl)) rfl (slF ag rs (j:=i+1) (by lia))) ec)))
theorem sS {x:Int}:∀ (js:List Nat) (h:Nat) (rs:List K4) (d:D) (o3 o4:Option D),Nd h (rt h) (rs,d)→Rows rs→rs.length≤600→js.length≤rs.length →
  ∃ (g:Nat) (rs':List K4) (d':D) (o3' o4':Option D),forD (.one 3) tB' (js.map fun (j:Nat)=>D.int (j:Int)) [some d,some (.lst (rs.map ag)),some (.int x),o3,o4]=.ok (.nx [some d',some (.lst (rs'.map ag)),some (.int x),o3',o4'])∧Nd g (rt g) (rs',d')∧Rows rs'∧rs'.length≤rs.length
 | [],h,rs,d,o3,o4,ht,hr,hl,hj=>⟨h,rs,d,o3,o4,rfl,ht,hr,Nat.le_refl _⟩
 | j::js,h,rs,d,o3,o4,ht,hr,hl,hj=>by
  rw [List.length_cons] at hj
  obtain ⟨g,k,d',i,e,n,hk⟩:=wW (x:=x) (j:=j) (o4:=o4) ht hr hl (by lia)
  have hd:=pj hr.s hk
  obtain ⟨g2,rs2,d2,o3',o4',e2,n2,r2,l2⟩:=sS (x:=x) js g (del k rs) d' (some (.int (j:Int))) (some (.int (i:Int))) n (pR hr) (by lia) (by lia)
  refine ⟨g2,rs2,d2,o3',o4',?_,n2,r2,by lia⟩
  have t:tB' (List.set [some d,some (.lst (rs.map ag)),some (.int x),o3,o4] 3 (some (.int (j:Int))))=_:=e
  rw [List.map_cons,dJ t]
  exact e2
theorem sM {h:Nat} {rs:List K4} {d:D} (x:Int) (ht:Nd h (rt h) (rs,d)) (hr:Rows rs) (hl:rs.length≤600):∃ (g:Nat) (rs':List K4) (d':D),fB [d,.lst (rs.map ag),.int x]=.ok (.tup [d',.lst (rs'.map ag)])∧Nd g (rt g) (rs',d')∧Rows rs'∧rs'.length≤rs.length:=by
 rw [pJ,fK]
 have b9:0≤x/3 % 9∧x/3 % 9 < 9:=⟨Int.emod_nonneg _ (by decide),Int.emod_lt_of_pos _ (by decide)⟩
 obtain ⟨g,rs',d',o3,o4,e,n,r,l⟩:=sS (x:=x) (List.range ((rs.length:Int) - x/3 % 9).toNat) h rs d none none ht hr hl (by rw [List.length_range];lia)
 have hi:iRng1D thA [some d,some (.lst (rs.map ag)),some (.int x),none,none]=.ok ((List.range ((rs.length:Int) - x/3 % 9).toNat).map fun (j:Nat)=>D.int (j:Int)):=by
  unfold thA
  rw [vJ,ac (fe (bm rfl (g6 _ _)) (bg (bW rfl rfl) rfl)) rfl,aD,yN (by lia),iQ]
 exact ⟨g,rs',d',aE ((au (eH hi e)).trans (ay (bq (ac rfl (ac rfl rfl))))),n,r,l⟩
theorem at_of {rs:List K4} {c:D} {i:Int} (hn:rs≠[]):∃ k,k∈rs∧ixD (.lst (rs.map ag)) (.int (i % (rs.length:Int)))=.ok (ag k):=by
 have hl:0 < rs.length:=List.length_pos_iff.mpr hn
 have b:0≤i % (rs.length:Int)∧i % (rs.length:Int) < (rs.length:Int):=⟨Int.emod_nonneg _ (by lia),Int.emod_lt_of_pos _ (by lia)⟩
 generalize i % (rs.length:Int)=m at b
 obtain ⟨j,rfl⟩:∃ j:Nat,m=(j:Int):=⟨m.toNat,by lia⟩
 have hj:j < rs.length:=by lia
 exact ⟨rs[j],List.getElem_mem hj,jU ag rs (List.getElem?_eq_getElem hj)⟩
theorem vM {φ ψ:FE} {δ:Sd} {i j:Int} (h1:φ δ=.ok (.int i)) (h2:ψ δ=.ok (.int j)):vOp gtD φ ψ δ=.ok (.bl (decide (j < i))):=aj h1 h2 wE
theorem zO {x:Int} (h0:0≤x) (h1:x < 10 ^ 12) {rs gs:List K4} (ho:∀ k∈rs,Ok k) (go:∀ k∈gs,Ok k):∃ (b:Bool) (k:K4),Ok k∧j4 [.int x,.lst (rs.map ag),.lst (gs.map ag)]=.ok (.tup [.bl b,ag k]):=by
 rw [u7,j0]
 have b8:0≤x % 8∧x % 8 < 8:=⟨Int.emod_nonneg _ (by decide),Int.emod_lt_of_pos _ (by decide)⟩
 obtain ⟨v,n,e0,hv,_⟩:=entry (x/8) (by lia) (by lia)
 obtain ⟨k0,ok0,ek0⟩:=Ok.make v n hv
 rw [← ek0] at e0
 have second:∀ (k:K4) (o4:Option D),Ok k→∃ (b:Bool) (k':K4),Ok k'∧fin ((aK (sIf dQ2 dS2 bb) dR) [some (.int x),some (.lst (rs.map ag)),some (.lst (gs.map ag)),some (ag k),o4])=.ok (.tup [.bl b,ag k']):=fun k o4 okk=>by
  have hq0:qBl (vOp neD (ai 2) (eR av)) [some (.int x),some (.lst (rs.map ag)),some (.lst (gs.map ag)),some (ag k),o4]=.ok (!decide (gs=[])):=aI (aj rfl (bh rfl) (ne_nil go))
  have hq1:qBl (vOp eqD (vOp modD (ai 0) (vC (.int 8))) (vC (.int 2))) [some (.int x),some (.lst (rs.map ag)),some (.lst (gs.map ag)),some (ag k),o4]=.ok (decide (x % 8=2)):=iI (bg rfl rfl) rfl
  have last:∀ k',fin (dR [some (.int x),some (.lst (rs.map ag)),some (.lst (gs.map ag)),some (ag k'),o4])=.ok (.tup [.bl (decide (4 < x % 8)||decide (x % 8=1)),ag k']):=fun k' =>
   aE (ay (bq (ac (zm (vM (bg rfl rfl) rfl) (aj (bg rfl rfl) rfl jW)) (ac rfl rfl))))
  by_cases hc:gs≠[]∧x % 8=2
  ·obtain ⟨kg,hkg,eg⟩:=at_of (c:=.non) (i:=x/8) hc.1
   rw [decide_eq_false hc.1] at hq0
   rw [decide_eq_true hc.2] at hq1
   have hlen:0 < gs.length:=List.length_pos_iff.mpr hc.1
   refine ⟨decide (4 < x % 8)||decide (x % 8=1),kg,go kg hkg,?_⟩
   rw [au ((bi (lB hq0 hq1)).trans (aF (aj rfl (bg (bW rfl rfl) (bm rfl (g6 _ _)) (by lia)) eg)))]
   exact last kg
  ·have hq:dQ2 [some (.int x),some (.lst (rs.map ag)),some (.lst (gs.map ag)),some (ag k),o4]=.ok false:=by
    by_cases hg:gs=[]
    ·rw [decide_eq_true hg] at hq0;exact sk hq0
    ·rw [decide_eq_false hg] at hq0
     rw [decide_eq_false (fun z=>hc ⟨hg,z⟩)] at hq1
     exact lB hq0 hq1
   refine ⟨decide (4 < x % 8)||decide (x % 8=1),k,okk,?_⟩
   rw [skip hq]
   exact last k
 have hq0:qBl (vOp neD (ai 1) (eR av)) [some (.int x),some (.lst (rs.map ag)),some (.lst (gs.map ag)),some (ag k0),none]=.ok (!decide (rs=[])):=aI (aj rfl (bh rfl) (ne_nil ho))
 have hq1:qBl (vOp gtD (vOp modD (ai 0) (vC (.int 8))) (vC (.int 2))) [some (.int x),some (.lst (rs.map ag)),some (.lst (gs.map ag)),some (ag k0),none]=.ok (decide (2 < x % 8)):=aI (vM (bg rfl rfl) rfl)
 rw [au (aF (am (ac (bW rfl rfl) rfl) e0))]
 by_cases hc:rs≠[]∧2 < x % 8
 ·obtain ⟨ko,hko,eo⟩:=at_of (c:=.non) (i:=x/8) hc.1
  have oko:=ho ko hko
  rw [decide_eq_false hc.1] at hq0
  rw [decide_eq_true hc.2] at hq1
  have hlen:0 < rs.length:=List.length_pos_iff.mpr hc.1
  obtain ⟨ka,oka,eka⟩:=Ok.make (dW k0) ko.2.2.2 ok0.v
  obtain ⟨kb,okb,ekb⟩:=Ok.make (dW ko) k0.2.2.2 oko.v
  obtain ⟨j,hj,hj5⟩:∃ j:Nat,x % 8 - 3=(j:Int)∧j < 5:=⟨(x % 8 - 3).toNat,by lia,by lia⟩
  have h5:([ka,kb,ko,ko,ko]:List K4)[j]?=some ([ka,kb,ko,ko,ko][j]):=List.getElem?_eq_getElem hj5
  have okj:Ok ([ka,kb,ko,ko,ko][j]):=by
   have:∀ k∈[ka,kb,ko,ko,ko],Ok k:=fun k hk=>by
    simp only [List.mem_cons,List.not_mem_nil,or_false] at hk
    rcases hk with rfl|rfl|rfl|rfl|rfl
    ·exact oka
    ·exact okb
    ·exact oko
    ·exact oko
    ·exact oko
   exact this _ (List.getElem_mem hj5)
  have e5:=jU ag _ h5
  obtain ⟨b,k',ok',e'⟩:=second _ (some (ag ko)) okj
  refine ⟨b,k',ok',?_⟩
  rw [← e']
  congr 1
  refine au ((bi (lB hq0 hq1)).trans ((au (aF (aj rfl (bg (bW rfl rfl) (bm rfl (g6 _ _)) (by lia)) eo))).trans (aF (aj (bh (ac (bq (ac (aj rfl rfl (u0 k0)) (ac (aj rfl rfl (u1 ko)) rfl))) (ac (bq (ac (aj rfl rfl (u0 ko)) (ac (aj rfl rfl (u1 k0)) rfl))) (ac rfl (ac rfl (ac rfl rfl)))))) (fe (bg rfl rfl) rfl) ?_))))
  rw [hj,← eka,← ekb]
  exact e5
 ·have hq:dQ1 [some (.int x),some (.lst (rs.map ag)),some (.lst (gs.map ag)),some (ag k0),none]=.ok false:=by
   by_cases hg:rs=[]
   ·rw [decide_eq_true hg] at hq0;exact sk hq0
   ·rw [decide_eq_false hg] at hq0
    rw [decide_eq_false (fun z=>hc ⟨hg,z⟩)] at hq1
    exact lB hq0 hq1
  obtain ⟨b,k',ok',e'⟩:=second k0 none ok0
  exact ⟨b,k',ok',by rw [← e'];congr 1;exact skip hq⟩
theorem oW {rs:List K4} {k:K4} (hr:Rows rs) (hk:Ok k) (hl:rs.length≤900):fb [.lst (rs.map ag),.bl true,ag k]=.ok (.lst ((del k rs).map ag)):=by
 rw [ma,eU]
 have ec:bX (.one 0) (iC (eT (ao c8 (ae (ai 0) (ae (ai 1) av))))) (ai 0) [none,some (ag k)] (rs.map ag)=.ok (.lst ((del k rs).map ag)) :=
  kR ag ag _ rs (fun l hl=>ky (am (ac rfl (ac rfl rfl)) ((hr.o l hl).same hk))) (fun _ _ _=>rfl) (by lia)
 exact aE (bQ ((bi (bV rfl rfl)).trans (ay (cX (dZ rfl rfl) ec))))
theorem oP {rs:List K4} {k:K4} (hr:Rows rs) (hk:Ok k) (hl:rs.length≤900):∃ rs':List K4,fb [.lst (rs.map ag),.bl false,ag k]=.ok (.lst (rs'.map ag))∧Rows rs'∧rs'.length≤rs.length+1∧∀ x,x∈rs' ↔ x∈rs++[k]:=by
 rw [ma,eU]
 obtain ⟨rs',e,r1,r2,r3⟩:=once (xs:=rs++[k]) (fun x hx=>by
  rcases List.mem_append.mp hx with z|z
  ·exact hr.o x z
  ·rw [List.mem_singleton.mp z];exact hk) (by rw [List.length_append,List.length_singleton];lia)
 refine ⟨rs',aE ((skip (bV rfl rfl)).trans (ay (am (ac (aj rfl (bh (ac rfl rfl)) (catL ag (ys:=[k]) (by rw [List.length_singleton];lia))) rfl) e))),r1,by rw [List.length_append,List.length_singleton] at r2;exact r2,r3⟩
theorem ve {i j:Nat} {a b:D} {δ:Sd}:bindD (.tup [i,j]) (.tup [a,b]) δ=.ok ((δ.set i (some a)).set j (some b)):=by
 show (if ([a,b]:List D).length=[i,j].length then R.ok (setsD [i,j] [a,b] δ) else .no)=_
 rw [if_pos (show ([a,b]:List D).length=[i,j].length from rfl)]
 rfl
theorem j9 {i j:Nat} {ψ ε:FE} {δ:Sd} {xs:List D} {d:D} (h:δ[i]?=some (some (.lst xs))) (he:ε δ=.ok d) (hk:ψ δ=.ok (.int (j:Int))) (hj:j < xs.length):ll i ψ ε δ=.ok (.nx (δ.set i (some (.lst (xs.set j d))))):=by
 have e:ixN xs.length (j:Int)=some j:=by unfold ixN;rw [if_pos (by lia),if_pos (by lia),Int.toNat_natCast]
 unfold ll
 rw [h]
 show (ε δ).bind _=_
 rw [he,aD,hk,aD]
 show (match ixN xs.length (j:Int) with|some j=>R.ok (Fl.nx (δ.set i (some (.lst (xs.set j d)))))|none=>.no)=_
 rw [e]
theorem mi {a b:List K4} (ha:a.Pairwise Lt4) (hb:b.Pairwise Lt4) (h:∀ x,x∈a ↔ x∈b):a=b:=by
 have na:a.Nodup:=List.Pairwise.imp (R:=Lt4) (fun {x y} (q:Lt4 x y) (z:x=y)=>TS.to4.irr y (z ▸ q)) ha
 have nb:b.Nodup:=List.Pairwise.imp (R:=Lt4) (fun {x y} (q:Lt4 x y) (z:x=y)=>TS.to4.irr y (z ▸ q)) hb
 refine List.Perm.eq_of_pairwise (le:=Lt4) (fun x y _ _ h1 h2=>absurd (TS.to4.tr _ _ _ h1 h2) (TS.to4.irr _)) ha hb ?_
 exact (List.perm_ext_iff_of_nodup na nb).mpr h
theorem more {h:Nat} {k:K4} {rs:List K4} {d:D} (hk:Ok k) (ht:Nd h (rt h) (rs,d)) (hr:Rows rs) (hl:rs.length≤600):∃ (g:Nat) (fs:List K4) (fd:D),cj [d,dW k,.int k.2.2.2]=.ok fd∧Nd g (rt g) (fs,fd)∧Rows fs∧(∀ x,x∈fs ↔ x∈rs++[k]):=by
 by_cases q:k∈rs
 ·refine ⟨h,rs,d,rg hk ht hr (by lia) q,ht,hr,fun x=>?_⟩
  rw [List.mem_append,List.mem_singleton]
  exact ⟨.inl,fun z=>z.elim id fun z=>z ▸ q⟩
 ·obtain ⟨g,fd,e,n⟩:=rH hk ht hr hl q
  refine ⟨g,ins k rs,fd,e,n,vx hk hr,fun x=>?_⟩
  rw [uE,List.mem_append,List.mem_singleton]
  exact Or.comm
noncomputable def jM (p:List K4×D):D:=.lst (p.1.map ag)
noncomputable def lz (p:List K4×D):D:=.tup [p.2,jM p]
noncomputable def pf (l:List K4):D:=.tup [.lst (l.map ag),.lst (l.map ag)]
structure Good (n:Nat) (p:List K4×D):Prop where
 t:∃ h,Nd h (rt h) p
 r:Rows p.1
 l:p.1.length≤n
theorem Good.mono {n m:Nat} {p:List K4×D} (h:Good n p) (hm:n≤m):Good m p:=⟨h.t,h.r,Nat.le_trans h.l hm⟩
theorem Good.all {n:Nat} {p:List K4×D} (h:Good n p) (hn:n≤600):bB [p.2]=.ok (.lst (p.1.map ag))∧eX [p.2]=.ok (.int (p.1.length:Int))∧jH [p.2,jM p]=.ok (.bl true)∧b6 [.lst (p.1.map ag),jM p]=.ok (.bl true):=by
 obtain ⟨g,hg⟩:=h.t
 have hl:=h.l
 have h5:=low hg (by lia)
 have tr:=hg.tr (qE g)
 exact ⟨lW tr (by lia) (by lia),wX tr (by lia) (by lia),Aa (d:=p.2) (ks:=p.1) hg h.r (by lia),alike h.r.o (by lia)⟩
noncomputable abbrev stt (s e:D) (ps kp:List (List K4×D)) (hs:List (List K4)) (gs:List K4) (o8 o9 o10 o11 o12 o13 o14 o15:Option D):Sd :=
 [some s,some e,some (.lst []),some (.lst (ps.map Prod.snd)),some (.lst (ps.map jM)),some (.lst (kp.map lz)),some (.lst (hs.map pf)),some (.lst (gs.map ag)),o8,o9,o10,o11,o12,o13,o14,o15]
theorem doing {s e:D} {ps kp:List (List K4×D)} {hs:List (List K4)} {gs:List K4} {n w:Nat} {b:Bool} {k:K4} {p:List K4×D} {o8 o9 o13 o14 o15:Option D} (hp:ps[w]?=some p) (hg:Good n p) (hn:n≤500) (hk:Ok k) (hl:gs.length < 900) :
  ∃ (p':List K4×D) (gs':List K4),Good (n+1) p'∧(gs'=gs∨gs'=gs++[k])∧∀ T:FS,(aK L3 (aK L4 T)) (stt s e ps kp hs gs o8 o9 (some (.int (w:Int))) (some (.bl b)) (some (ag k)) o13 o14 o15)=T (stt s e (ps.set w p') kp hs gs' o8 o9 (some (.int (w:Int))) (some (.bl b)) (some (ag k)) o13 o14 o15):=by
 obtain ⟨g,hgn⟩:=hg.t
 have hlen:=hg.l
 have hw:w < ps.length:=(List.getElem?_eq_some_iff.mp hp).1
 have ex:=jU Prod.snd ps hp
 have er:=jU jM ps hp
 have sets:∀ (p':List K4×D),(ps.map Prod.snd).set w p'.2=(ps.set w p').map Prod.snd∧(ps.map jM).set w (jM p')=(ps.set w p').map jM:=fun p'=>⟨(List.map_set ..).symm,(List.map_set ..).symm⟩
 cases b with
 | true =>
  obtain ⟨g2,d',e2,n2⟩:=less hk (d:=p.2) (rs:=p.1) hgn hg.r (by lia)
  have eb:=oW hg.r hk (by lia)
  have hdl:(del k p.1).length≤p.1.length:=List.length_filter_le _ _
  obtain ⟨s1,s2⟩:=sets (del k p.1,d')
  refine ⟨(del k p.1,d'),gs++[k],⟨⟨g2,n2⟩,pR hg.r,by show (del k p.1).length≤n+1;lia⟩,.inr rfl,fun T=>?_⟩
  have t3:L3 (stt s e ps kp hs gs o8 o9 (some (.int (w:Int))) (some (.bl true)) (some (ag k)) o13 o14 o15)=.ok (.nx [some s,some e,some (.lst []),some (.lst ((ps.map Prod.snd).set w d')),some (.lst (ps.map jM)),some (.lst (kp.map lz)),some (.lst (hs.map pf)),some (.lst ((gs++[k]).map ag)),o8,o9,some (.int (w:Int)),some (.bl true),some (ag k),o13,o14,o15]):=by
   rw [List.map_append]
   exact (bi (bV rfl rfl)).trans ((au (kC rfl rfl (by rw [List.length_map];lia))).trans (j9 rfl (am (ac (aj rfl rfl ex) (ac (aj rfl rfl (u0 k)) (ac (aj rfl rfl (u1 k)) rfl))) e2) rfl (by rw [List.length_map];exact hw)))
  rw [au t3]
  refine (au (j9 rfl (am (ac (aj rfl rfl er) (ac rfl (ac rfl rfl))) eb) rfl (by rw [List.length_map];exact hw))).trans ?_
  show T _=T _
  congr 1
  have s2':(ps.map jM).set w (.lst ((del k p.1).map ag))=(ps.set w (del k p.1,d')).map jM:=s2
  have s1':(ps.map Prod.snd).set w d'=(ps.set w (del k p.1,d')).map Prod.snd:=s1
  show [some s,some e,some (.lst []),some (.lst ((ps.map Prod.snd).set w d')),some (.lst ((ps.map jM).set w (.lst ((del k p.1).map ag)))),some (.lst (kp.map lz)),some (.lst (hs.map pf)),some (.lst ((gs++[k]).map ag)),o8,o9,some (.int (w:Int)),some (.bl true),some (ag k),o13,o14,o15]=_
  rw [s1',s2']
 | false =>
  obtain ⟨g2,fs,d',e2,n2,r2,m2⟩:=more hk (d:=p.2) (rs:=p.1) hgn hg.r (by lia)
  obtain ⟨rs',eb,rb,lb,mb⟩:=oP hg.r hk (by lia)
  have hfs:fs=rs':=mi r2.s rb.s fun x=>(m2 x).trans (mb x).symm
  subst hfs
  obtain ⟨s1,s2⟩:=sets (fs,d')
  refine ⟨(fs,d'),gs,⟨⟨g2,n2⟩,r2,by show fs.length≤n+1;lia⟩,.inl rfl,fun T=>?_⟩
  have t3:L3 (stt s e ps kp hs gs o8 o9 (some (.int (w:Int))) (some (.bl false)) (some (ag k)) o13 o14 o15)=.ok (.nx [some s,some e,some (.lst []),some (.lst ((ps.map Prod.snd).set w d')),some (.lst (ps.map jM)),some (.lst (kp.map lz)),some (.lst (hs.map pf)),some (.lst (gs.map ag)),o8,o9,some (.int (w:Int)),some (.bl false),some (ag k),o13,o14,o15]) :=
   (nM (bV rfl rfl)).trans (j9 rfl (am (ac (aj rfl rfl ex) (ac (aj rfl rfl (u0 k)) (ac (aj rfl rfl (u1 k)) rfl))) e2) rfl (by rw [List.length_map];exact hw))
  rw [au t3]
  refine (au (j9 rfl (am (ac (aj rfl rfl er) (ac rfl (ac rfl rfl))) eb) rfl (by rw [List.length_map];exact hw))).trans ?_
  show T _=T _
  congr 1
  have s2':(ps.map jM).set w (.lst (fs.map ag))=(ps.set w (fs,d')).map jM:=s2
  have s1':(ps.map Prod.snd).set w d'=(ps.set w (fs,d')).map Prod.snd:=s1
  show [some s,some e,some (.lst []),some (.lst ((ps.map Prod.snd).set w d')),some (.lst ((ps.map jM).set w (.lst (fs.map ag)))),some (.lst (kp.map lz)),some (.lst (hs.map pf)),some (.lst (gs.map ag)),o8,o9,some (.int (w:Int)),some (.bl false),some (ag k),o13,o14,o15]=_
  rw [s1',s2']
structure Now (n:Nat) (ps kp:List (List K4×D)) (hs:List (List K4)) (gs:List K4):Prop where
 p2:ps.length=2
 pg:∀ p∈ps,Good n p
 kg:∀ p∈kp,Good 600 p
 hg:∀ l∈hs,(∀ k∈l,Ok k)∧l.length≤600
 gg:∀ k∈gs,Ok k
theorem turn {s e:D} {ps kp:List (List K4×D)} {hs:List (List K4)} {gs:List K4} {n t:Nat} {c:Int} {o10 o11 o12 o13 o14 o15:Option D} (N:Now n ps kp hs gs) (hn:n≤500) (hl:gs.length < 900∧hs.length < 900∧kp.length < 900) (ht:t < 1000) :
  ∃ (ps' kp':List (List K4×D)) (hs':List (List K4)) (gs':List K4) (o10' o11' o12' o13':Option D),LB (stt s e ps kp hs gs (some (.int (t:Int))) (some (.int c)) o10 o11 o12 o13 o14 o15)=.ok (.nx (stt s e ps' kp' hs' gs' (some (.int (t:Int))) (some (.int c)) o10' o11' o12' o13' o14 o15))∧Now (n+1) ps' kp' hs' gs' ∧
   gs'.length≤gs.length+1∧hs'.length≤hs.length+1∧kp'.length≤kp.length+1:=by
 obtain ⟨w,hw,hw2⟩:∃ w:Nat,c % 3/2=(w:Int)∧w < 2:=⟨(c % 3/2).toNat,by lia,by lia⟩
 have e1:∀ T:FS,(aK L1 T) (stt s e ps kp hs gs (some (.int (t:Int))) (some (.int c)) o10 o11 o12 o13 o14 o15)=T (stt s e ps kp hs gs (some (.int (t:Int))) (some (.int c)) (some (.int (w:Int))) o11 o12 o13 o14 o15):=fun T=>by
  rw [← hw]
  exact au (aF (bW (bg rfl rfl) rfl))
 have hwl:w < ps.length:=by rw [N.p2];exact hw2
 have hp:ps[w]?=some ps[w]:=List.getElem?_eq_getElem hwl
 have hg:=N.pg ps[w] (List.getElem_mem hwl)
 have bx:0≤(c/3*48271+11*(t:Int)) % 2147483647∧(c/3*48271+11*(t:Int)) % 2147483647 < 2147483647:=⟨Int.emod_nonneg _ (by decide),Int.emod_lt_of_pos _ (by decide)⟩
 obtain ⟨b,k,okk,ed⟩:=zO (x:=(c/3*48271+11*(t:Int)) % 2147483647) bx.1 (by have:=bx.2;lia) (rs:=ps[w].1) (gs:=gs) hg.r.o N.gg
 have hno:noL (.tup [.bl b,ag k])=true:=by
  show (true&&(noL (ag k)&&true))=true
  rw [okk.noL];rfl
 have e2:∀ T:FS,(aK L2' T) (stt s e ps kp hs gs (some (.int (t:Int))) (some (.int c)) (some (.int (w:Int))) o11 o12 o13 o14 o15)=T (stt s e ps kp hs gs (some (.int (t:Int))) (some (.int c)) (some (.int (w:Int))) (some (.bl b)) (some (ag k)) o13 o14 o15):=fun T =>
  au (vO (vX (am (ac (bg (cg (iO (bW rfl rfl) rfl) (iO rfl rfl (by lia))) rfl) (ac (aj rfl rfl (jU jM ps hp)) (ac rfl rfl))) ed) hno) ve)
 obtain ⟨p',gs',g',hgs,e3⟩:=doing (s:=s) (e:=e) (kp:=kp) (hs:=hs) (b:=b) (o8:=some (.int (t:Int))) (o9:=some (.int c)) (o13:=o13) (o14:=o14) (o15:=o15) hp hg hn okk hl.1
 have hp':(ps.set w p')[w]?=some p':=List.getElem?_set_self hwl
 obtain ⟨a1,a2,a3,a4⟩:=g'.all (by lia)
 have e5:∀ T:FS,(aK L5 (aK L6 (aK L7 T))) (stt s e (ps.set w p') kp hs gs' (some (.int (t:Int))) (some (.int c)) (some (.int (w:Int))) (some (.bl b)) (some (ag k)) o13 o14 o15)=T (stt s e (ps.set w p') kp (hs++[p'.1]) gs' (some (.int (t:Int))) (some (.int c)) (some (.int (w:Int))) (some (.bl b)) (some (ag k)) (some (.lst (p'.1.map ag))) o14 o15):=fun T=>by
  have q:qOr (qBl (vOp neD (ao eX (ae (vOp ixD (ai 3) (ai 10)) av)) (ao lenD (ae (vOp ixD (ai 4) (ai 10)) av)))) (iC (eT (ao b6 (ae (ai 13) (ae (vOp ixD (ai 4) (ai 10)) av))))) (stt s e (ps.set w p') kp (hs++[p'.1]) gs' (some (.int (t:Int))) (some (.int c)) (some (.int (w:Int))) (some (.bl b)) (some (ag k)) (some (.lst (p'.1.map ag))) o14 o15)=.ok false :=
   m9 (aI (aj (am (ac (aj rfl rfl (jU Prod.snd _ hp')) rfl) a2) (bm (aj rfl rfl (jU jM _ hp')) (g6 ag p'.1)) (rh.trans (by rw [decide_eq_true rfl];rfl)))) (qY (bV (am (ac rfl (ac (aj rfl rfl (jU jM _ hp')) rfl)) a4) rfl))
  refine (au (aF (am (ac (aj rfl rfl (jU Prod.snd _ hp')) rfl) a1))).trans ?_
  have t6:L6 (stt s e (ps.set w p') kp hs gs' (some (.int (t:Int))) (some (.int c)) (some (.int (w:Int))) (some (.bl b)) (some (ag k)) (some (.lst (p'.1.map ag))) o14 o15)=.ok (.nx (stt s e (ps.set w p') kp (hs++[p'.1]) gs' (some (.int (t:Int))) (some (.int c)) (some (.int (w:Int))) (some (.bl b)) (some (ag k)) (some (.lst (p'.1.map ag))) o14 o15)):=by
   unfold stt
   rw [List.map_append]
   exact kC rfl (bq (ac rfl (ac (aj rfl rfl (jU jM _ hp')) rfl))) (by rw [List.length_map];lia)
  exact (au t6).trans (skip q)
 have hgl:gs'.length≤gs.length+1:=by
  rcases hgs with rfl|rfl
  ·lia
  ·rw [List.length_append,List.length_singleton];exact Nat.le_refl _
 have hN:∀ kp',(∀ p∈kp',p∈kp∨p=p')→Now (n+1) (ps.set w p') kp' (hs++[p'.1]) gs':=fun kp' hk'=>by
  refine ⟨by rw [List.length_set];exact N.p2,fun p hpp=>?_,fun p hpp=>?_,fun l hll=>?_,fun x hx=>?_⟩
  ·rcases List.mem_or_eq_of_mem_set hpp with z|z
   ·exact (N.pg p z).mono (by lia)
   ·rw [z];exact g'
  ·rcases hk' p hpp with z|z
   ·exact N.kg p z
   ·rw [z];exact g'.mono (by lia)
  ·rcases List.mem_append.mp hll with z|z
   ·exact N.hg l z
   ·rw [List.mem_singleton.mp z];exact ⟨g'.r.o,by have:=g'.l;lia⟩
  ·rcases hgs with rfl|rfl
   ·exact N.gg x hx
   ·rcases List.mem_append.mp hx with z|z
    ·exact N.gg x z
    ·rw [List.mem_singleton.mp z];exact okk
 have q8:qBl (vOp eqD (vOp modD (ai 8) (vC (.int 3))) (vC (.int 0))) (stt s e (ps.set w p') kp (hs++[p'.1]) gs' (some (.int (t:Int))) (some (.int c)) (some (.int (w:Int))) (some (.bl b)) (some (ag k)) (some (.lst (p'.1.map ag))) o14 o15)=.ok (decide ((t:Int) % 3=0)):=iI (bg rfl rfl) rfl
 by_cases h8:(t:Int) % 3=0
 ·rw [decide_eq_true h8] at q8
  have t8:L8 (stt s e (ps.set w p') kp (hs++[p'.1]) gs' (some (.int (t:Int))) (some (.int c)) (some (.int (w:Int))) (some (.bl b)) (some (ag k)) (some (.lst (p'.1.map ag))) o14 o15)=.ok (.nx (stt s e (ps.set w p') (kp++[p']) (hs++[p'.1]) gs' (some (.int (t:Int))) (some (.int c)) (some (.int (w:Int))) (some (.bl b)) (some (ag k)) (some (.lst (p'.1.map ag))) o14 o15)):=by
   refine (bi q8).trans ?_
   unfold stt
   rw [List.map_append (l₁:=kp)]
   exact kC rfl (bq (ac (aj rfl rfl (jU Prod.snd _ hp')) (ac (aj rfl rfl (jU jM _ hp')) rfl))) (by rw [List.length_map];lia)
  refine ⟨ps.set w p',kp++[p'],hs++[p'.1],gs',some (.int (w:Int)),some (.bl b),some (ag k),some (.lst (p'.1.map ag)),(e1 _).trans ((e2 _).trans ((e3 _).trans ((e5 _).trans t8))),hN _ (fun p hpp=>?_),hgl,by rw [List.length_append];exact Nat.le_refl _,by rw [List.length_append];exact Nat.le_refl _⟩
  rcases List.mem_append.mp hpp with z|z
  ·exact .inl z
  ·exact .inr (List.mem_singleton.mp z)
 ·rw [decide_eq_false h8] at q8
  exact ⟨ps.set w p',kp,hs++[p'.1],gs',some (.int (w:Int)),some (.bl b),some (ag k),some (.lst (p'.1.map ag)),(e1 _).trans ((e2 _).trans ((e3 _).trans ((e5 _).trans ((nM q8).trans rfl)))),hN _ (fun p hpp=>.inl hpp),hgl,by rw [List.length_append];exact Nat.le_refl _,by lia⟩
theorem nV {s e:D} {o14 o15:Option D}:∀ (cs:List Int) (n t:Nat) (ps kp:List (List K4×D)) (hs:List (List K4)) (gs:List K4) (o8 o9 o10 o11 o12 o13:Option D),Now n ps kp hs gs→n+cs.length≤500→gs.length+cs.length≤900→hs.length+cs.length≤900→kp.length+cs.length≤900→t+cs.length≤1000 →
  ∃ (n':Nat) (ps' kp':List (List K4×D)) (hs':List (List K4)) (gs':List K4) (o8' o9' o10' o11' o12' o13':Option D),forD (.tup [8,9]) LB (bU t (cs.map D.int)) (stt s e ps kp hs gs o8 o9 o10 o11 o12 o13 o14 o15)=.ok (.nx (stt s e ps' kp' hs' gs' o8' o9' o10' o11' o12' o13' o14 o15))∧Now n' ps' kp' hs' gs'∧n'≤500∧hs'.length≤900∧kp'.length≤900
 | [],n,t,ps,kp,hs,gs,o8,o9,o10,o11,o12,o13,N,h1,h2,h3,h4,h5=>⟨n,ps,kp,hs,gs,o8,o9,o10,o11,o12,o13,rfl,N,by simpa using h1,by simpa using h3,by simpa using h4⟩
 | c::cs,n,t,ps,kp,hs,gs,o8,o9,o10,o11,o12,o13,N,h1,h2,h3,h4,h5=>by
  rw [List.length_cons] at h1 h2 h3 h4 h5
  obtain ⟨ps',kp',hs',gs',o10',o11',o12',o13',e1,N',l1,l2,l3⟩:=turn (s:=s) (e:=e) (t:=t) (c:=c) (o10:=o10) (o11:=o11) (o12:=o12) (o13:=o13) (o14:=o14) (o15:=o15) N (by lia) ⟨by lia,by lia,by lia⟩ (by lia)
  obtain ⟨n2,ps2,kp2,hs2,gs2,p8,p9,p10,p11,p12,p13,e2,N2,r1,r2,r3⟩:=nV (s:=s) (e:=e) (o14:=o14) (o15:=o15) cs (n+1) (t+1) ps' kp' hs' gs' (some (.int (t:Int))) (some (.int c)) o10' o11' o12' o13' N' (by lia) (by lia) (by lia) (by lia) (by lia)
  refine ⟨n2,ps2,kp2,hs2,gs2,p8,p9,p10,p11,p12,p13,?_,N2,r1,r2,r3⟩
  show forD (.tup [8,9]) LB (.tup [.int (t:Int),.int c]::bU (t+1) (cs.map D.int)) _=_
  rw [kr e1]
  exact e2
theorem p12 {δ:Sd}:vOp powD (vC (.int 10)) (vC (.int 12)) δ=.ok (.int 1000000000000):=aj rfl rfl ((wG (by decide)).trans rfl)
theorem uU {i:Nat} {δ:Sd} {xs:List D} (h:δ[i]?=some (some (.lst xs))):sClear i δ=.ok (.nx (δ.set i (some (.lst [])))):=by
 unfold sClear;rw [h]
theorem vd {ks:List K4} (ho:∀ k∈ks,Ok k):Py 2 (.lst (ks.map ag)):=Py.lst fun d hd=>by
 obtain ⟨k,hk,rfl⟩:=List.mem_map.mp hd
 exact (ho k hk).laid
theorem nY {s e:D} {ps kp:List (List K4×D)} {xs:List (List K4)} {gs:List K4} {o8 o9 o10 o11 o12 o15:Option D}:∀ (hs:List (List K4)) (o13 o14:Option D),(∀ l∈hs,(∀ k∈l,Ok k)∧l.length≤600)→∃ o13' o14':Option D,forD (.tup [13,14]) HB (hs.map pf) (stt s e ps kp xs gs o8 o9 o10 o11 o12 o13 o14 o15)=.ok (.nx (stt s e ps kp xs gs o8 o9 o10 o11 o12 o13' o14' o15))
 | [],o13,o14,_=>⟨o13,o14,rfl⟩
 | l::hs,o13,o14,h=>by
  obtain ⟨h1,h2⟩:=h l (by simp)
  obtain ⟨p13,p14,e1⟩:=nY (s:=s) (e:=e) (ps:=ps) (kp:=kp) (xs:=xs) (gs:=gs) (o8:=o8) (o9:=o9) (o10:=o10) (o11:=o11) (o12:=o12) (o15:=o15) hs (some (.lst (l.map ag))) (some (.lst (l.map ag))) fun x hx=>h x (List.mem_cons_of_mem _ hx)
  refine ⟨p13,p14,?_⟩
  have t:HB (stt s e ps kp xs gs o8 o9 o10 o11 o12 (some (.lst (l.map ag))) (some (.lst (l.map ag))) o15)=.ok (.nx (stt s e ps kp xs gs o8 o9 o10 o11 o12 (some (.lst (l.map ag))) (some (.lst (l.map ag))) o15)):=(nM (qY (bV (am (ac rfl (ac rfl rfl)) (alike h1 (by lia))) rfl))).trans rfl
  show forD (.tup [13,14]) HB (.tup [.lst (l.map ag),.lst (l.map ag)]::hs.map pf) _=_
  rw [kr t]
  exact e1
theorem og {s e:D} {ps kp:List (List K4×D)} {xs:List (List K4)} {gs:List K4} {o8 o9 o10 o11 o12 o13:Option D}:∀ (qs:List (List K4×D)) (o14 o15:Option D),(∀ q∈qs,Good 600 q)→∃ o14' o15':Option D,forD (.tup [15,14]) KB (qs.map lz) (stt s e ps kp xs gs o8 o9 o10 o11 o12 o13 o14 o15)=.ok (.nx (stt s e ps kp xs gs o8 o9 o10 o11 o12 o13 o14' o15'))
 | [],o14,o15,_=>⟨o14,o15,rfl⟩
 | q::qs,o14,o15,h=>by
  obtain ⟨a1,a2,a3,a4⟩:=(h q (by simp)).all (Nat.le_refl _)
  obtain ⟨p14,p15,e1⟩:=og (s:=s) (e:=e) (ps:=ps) (kp:=kp) (xs:=xs) (gs:=gs) (o8:=o8) (o9:=o9) (o10:=o10) (o11:=o11) (o12:=o12) (o13:=o13) qs (some (jM q)) (some q.2) fun x hx=>h x (List.mem_cons_of_mem _ hx)
  refine ⟨p14,p15,?_⟩
  have t:KB (stt s e ps kp xs gs o8 o9 o10 o11 o12 o13 (some (jM q)) (some q.2))=.ok (.nx (stt s e ps kp xs gs o8 o9 o10 o11 o12 o13 (some (jM q)) (some q.2))):=(nM (m9 (qY (bV (am (ac rfl (ac rfl rfl)) a3) rfl)) (qY (bV (am (ac (am (ac rfl rfl) a1) (ac rfl rfl)) a4) rfl)))).trans rfl
  show forD (.tup [15,14]) KB (.tup [q.2,jM q]::qs.map lz) _=_
  rw [kr t]
  exact e1
theorem law_true (ns:List Int) (h:ns.length≤63):qG [.lst (ns.map D.int)]=.ok (.bl true):=by
 rw [A8,uL]
 obtain ⟨ks,e1,l1,o1⟩:=zo (cell ns 0 % 1000000000000)
 obtain ⟨h0,rs0,d0,e2,n2,R2,l2,m2⟩:=lO o1 (by lia)
 obtain ⟨h1,rs1,d1,e3,n3,R3,l3,m3⟩:=lO (xs:=[]) (fun k hk=>by cases hk) (by simp)
 have hr1:rs1=[]:=List.length_eq_zero_iff.mp (by simpa using l3)
 subst hr1
 obtain ⟨rs,e4,R4,l4,m4⟩:=once o1 (by lia)
 have hrs:rs=rs0:=mi R4.s R2.s fun x=>(m4 x).trans (m2 x).symm
 subst hrs
 have g0:Good 200 (rs,d0):=⟨⟨h0,n2⟩,R2,by show rs.length≤200;lia⟩
 have g1:Good 200 (([]:List K4),d1):=⟨⟨h1,n3⟩,R3,Nat.zero_le _⟩
 obtain ⟨a1,a2,a3,a4⟩:=g0.all (by decide)
 have hno:noL d0=true:=Nd.noL n2 R2.o
 have hcell:∀ (j:Nat) (δ:Sd),δ[0]?=some (some (.lst (ns.map D.int)))→ao bN (ae (ai 0) (ae (vC (.int (j:Int))) av)) δ=.ok (.int (cell ns j)):=fun j δ hδ=>am (ac (by rw [v_var,hδ];rfl) (ac rfl rfl)) (xF ns j (by lia))
 -- the beginning
 have s1:∀ T:FS,(aK W1 (aK (sOwn 2 (ao lstD (ae (ai 1) av))) (aK W3 (aK W4 T))))
   [some (.lst (ns.map D.int)),none,none,none,none,none,none,none,none,none,none,none,none,none,none,none]=T [some (.lst (ns.map D.int)),some (.lst (ks.map ag)),some (.lst (ks.map ag)),some (.lst [d0,d1]),some (.lst [.lst (rs.map ag),.lst []]),none,none,none,none,none,none,none,none,none,none,none]:=fun T =>
  (au (aF (am (ac (bg (hcell 0 _ rfl) p12) rfl) e1))).trans ((au (fc (am (ac rfl rfl) rfl))).trans ((au (fc (bh (ac (vX (am (ac rfl rfl) e2) hno) (ac (am (ac (bh rfl) rfl) e3) rfl))))).trans (au (fc (bh (ac (am (ac rfl rfl) e4) (ac (bh rfl) rfl)))))))
 refine aE ((s1 _).trans ?_)
 have q1:W6 [some (.lst (ns.map D.int)),some (.lst (ks.map ag)),some (.lst (ks.map ag)),some (.lst [d0,d1]),some (.lst [.lst (rs.map ag),.lst []]),none,none,none,none,none,none,none,none,none,none,none]=.ok false :=
  m9 (aI (aj rfl rfl ((vd o1).ne (by decide) rfl))) (qY (bV (am (ac (aj rfl rfl eO) (ac (aj rfl rfl eO) rfl)) a3) rfl))
 refine (skip q1).trans ((au (uU rfl)).trans ?_)
 have q2:W7 [some (.lst (ns.map D.int)),some (.lst (ks.map ag)),some (.lst []),some (.lst [d0,d1]),some (.lst [.lst (rs.map ag),.lst []]),none,none,none,none,none,none,none,none,none,none,none]=.ok false :=
  qY (bV (am (ac (am (ac (aj rfl rfl eO) rfl) a1) (ac (aj rfl rfl eO) rfl)) a4) rfl)
 refine (skip q2).trans ?_
 -- perhaps most of it is taken out
 have s2:∃ p:List K4×D,Good 200 p∧∀ T:FS,(aK W5 T)
   [some (.lst (ns.map D.int)),some (.lst (ks.map ag)),some (.lst []),some (.lst [d0,d1]),some (.lst [.lst (rs.map ag),.lst []]),none,none,none,none,none,none,none,none,none,none,none]=T [some (.lst (ns.map D.int)),some (.lst (ks.map ag)),some (.lst []),some (.lst [p.2,d1]),some (.lst [jM p,.lst []]),none,none,none,none,none,none,none,none,none,none,none]:=by
  have q3:qBl (vOp eqD (vOp modD (ao bN (ae (ai 0) (ae (vC (.int 1)) av))) (vC (.int 3))) (vC (.int 1))) [some (.lst (ns.map D.int)),some (.lst (ks.map ag)),some (.lst []),some (.lst [d0,d1]),some (.lst [.lst (rs.map ag),.lst []]),none,none,none,none,none,none,none,none,none,none,none]=.ok (decide (cell ns 1 % 3=1)):=iI (bg (hcell 1 _ rfl) rfl) rfl
  by_cases hc:cell ns 1 % 3=1
  ·rw [decide_eq_true hc] at q3
   obtain ⟨g,rs',d',et,nt,rt',lt⟩:=sM (cell ns 1/3 % 1000000000) n2 R2 (by lia)
   refine ⟨(rs',d'),⟨⟨g,nt⟩,rt',by show rs'.length≤200;lia⟩,fun T=>au ((bi q3).trans (vO (am (ac (aj rfl rfl eO) (ac (aj rfl rfl eO) (ac (bg (bW (hcell 1 _ rfl) rfl) pow9) rfl))) et) rfl))⟩
  ·rw [decide_eq_false hc] at q3
   exact ⟨(rs,d0),g0,fun T=>skip q3⟩
 obtain ⟨p,gp,s2⟩:=s2
 refine (s2 _).trans ((au (fc (bh rfl))).trans ((au (fc (bh rfl))).trans ((au (fc (bh rfl))).trans ?_)))
 -- the deeds
 have N0:Now 200 [p,([],d1)] [] [] []:=⟨rfl,fun q hq=>by
  simp only [List.mem_cons,List.not_mem_nil,or_false] at hq
  rcases hq with rfl|rfl
  ·exact gp
  ·exact g1,fun q hq=>(by cases hq),fun q hq=>(by cases hq),fun q hq=>(by cases hq)⟩
 have hd:(ns.drop 2).length≤63:=by rw [List.length_drop];lia
 obtain ⟨n',ps,kp,hs,gs,o8,o9,o10,o11,o12,o13,ea,N,b1,b2,b3⟩:=nV (s:=.lst (ns.map D.int)) (e:=.lst (ks.map ag)) (o14:=none) (o15:=none) (ns.drop 2) 200 0 [p,([],d1)] [] [] [] none none none none none none N0 (by lia) (by simp;lia) (by simp;lia) (by simp;lia) (by lia)
 have hi:iEnumerate (ae (vSl slD (ai 0) (fZ (vC (.int 2))) jr) av) (stt (.lst (ns.map D.int)) (.lst (ks.map ag)) [p,([],d1)] [] [] [] none none none none none none none none)=.ok (bU 0 ((ns.drop 2).map D.int)):=by
  rw [yG,ac (jz rfl (cf rfl) rfl (slF D.int ns (j:=2) rfl)) rfl,aD]
  exact yJ rfl
 refine (au (eH hi ea)).trans ?_
 -- all that was told
 obtain ⟨p13,p14,eh⟩:=nY (s:=.lst (ns.map D.int)) (e:=.lst (ks.map ag)) (ps:=ps) (kp:=kp) (xs:=hs) (gs:=gs) (o8:=o8) (o9:=o9) (o10:=o10) (o11:=o11) (o12:=o12) (o15:=none) hs o13 none N.hg
 refine (au (eH (dZ rfl rfl) eh)).trans ?_
 -- and all that stands
 obtain ⟨p0,p1,rfl⟩:∃ p0 p1,ps=[p0,p1]:=by
  match ps,N.p2 with
  | [a,b],_=>exact ⟨a,b,rfl⟩
 obtain ⟨q14,q15,ek⟩:=og (s:=.lst (ns.map D.int)) (e:=.lst (ks.map ag)) (ps:=[p0,p1]) (kp:=kp) (xs:=hs) (gs:=gs) (o8:=o8) (o9:=o9) (o10:=o10) (o11:=o11) (o12:=o12) (o13:=p13) (kp.take 6++[p0,p1]) p14 none fun q hq=>by
  rcases List.mem_append.mp hq with z|z
  ·exact N.kg q (List.mem_of_mem_take z)
  ·exact (N.pg q z).mono (by lia)
 have hk:W8 (stt (.lst (ns.map D.int)) (.lst (ks.map ag)) [p0,p1] kp hs gs o8 o9 o10 o11 o12 p13 p14 none)=.ok ((kp.take 6++[p0,p1]).map lz) :=
  dZ (aj (jz rfl rfl (cf rfl) (slT lz kp 6)) (bh (ac (bq (ac (aj rfl rfl eO) (ac (aj rfl rfl eO) rfl))) (ac (bq (ac (aj rfl rfl pN) (ac (aj rfl rfl pN) rfl))) rfl))) (catL lz (ys:=[p0,p1]) (by rw [List.length_take];simp;lia))) rfl
 exact (au (eH hk ek)).trans (ay rfl)
end T26
noncomputable section
namespace HD
open PySem PySem.W PySem.Calls PyProof.Rows
noncomputable abbrev p:Program:=PySem.Challenge.pw_tablestore_k26_whole_many_deeds
noncomputable def bd:List Stmt:=behindTheImports p
noncomputable def S (i:Nat):Stmt:=match p.main.body[i]? with|some s=>s|none=>.Pass default
noncomputable def dA (s:Stmt):Arguments:=match s with
 | .FunctionDef _ a _ _ _ _ _ _ _ _=>a
 | _=>⟨[],[],none,[],[],none,[]⟩
noncomputable def dB (s:Stmt):List Stmt:=match s with
 | .FunctionDef _ _ b _ _ _ _ _ _ _=>b
 | _=>[]
noncomputable def dS (s:Stmt):Scope:=match s with
 | .FunctionDef _ _ _ _ _ _ sc _ _ _=>sc
 | _=>{ kind:=.function,names:=[],isGenerator:=false,isCoroutine:=false }
noncomputable def fn (s:Stmt) (n qn:Str) (g:Addr) (cl:List (Str×Addr)) (d kd doc pm:Value) (an:Option Addr) (cd ct:Value) (bl:Addr):FuncData:=⟨n,qn,dA s,.stmts (dB s),dS s,g,cl,d,kd,doc,pm,an,cd,ct,bl⟩
noncomputable def dN (s:Stmt):Str:=match s with
 | .FunctionDef n _ _ _ _ _ _ _ _ _=>n
 | _=>""
noncomputable def tu (l:List Value):Obj:=⟨.type "tuple",none,.seq l.toArray 0,#[]⟩
noncomputable def tn (t:Nat):List Str→List Value
 | []=>[]
 | x::r=>.str x t::tn (t+1) r
noncomputable def tr (k:Int):List (Int×Nat)→List Value
 | []=>[]
 | x::r=>.int x.1 0::.int k 0::.ref x.2::tr k r
noncomputable def fi (l:List Value):Obj:=⟨.none,none,.fields l.toArray,#[]⟩
noncomputable def fu (s:Stmt) (m:Value) (c:Nat):Obj:=⟨.type "function",none,.func (fn s (dN s) (dN s) 3 [] .none .none .none m none (.ref c) .none 0),#[]⟩
noncomputable def pr (s:Stmt):Obj:=⟨.none,none,.func (fn s (dN s) (dN s) 0 [] .none .none .none .none none .none .none 0),#[]⟩
noncomputable def co (n q:Str) (t:Nat) (l a b c d:Int) (v:Nat) (o:Bool) (u:Nat) (x y z:Value) (k:Nat):Obj:=⟨.type "code",none,.fields #[.str n t,.str q (t+1),.str "/claim/cut.py" (t+2),.int l 0,.int a 0,.int b 0,.int c 0,.int d 0,.ref v,.bool o,.int 181 0,.ref u,.none,x,y,z,.int k 0,.int l 0,.str "/claim/cut.py" (k+1)],#[]⟩
noncomputable abbrev nd:=BT.node
noncomputable def ke (P:Params) (x:Str) (t:Nat) (v:Value):DictEntry:=⟨PyData.keyHash P x,.str x t,v⟩
noncomputable def en:Env:={ scope:=p.main.scope,locals:=mainNs,globals:=mainNs,cells:=[],code:=(.ref 13),frame:=some 14 }
noncomputable def cE:Code:=.body bd en
noncomputable abbrev fq:Pos:=⟨0,0,0,0⟩
noncomputable def o11:Obj:=tu []
noncomputable def o12:Obj:=fi []
noncomputable def o13:Obj:=co "<module>" "<module>" 182 1 0 0 0 0 11 false 12 .none .none .none 185
noncomputable def o14:Obj:=⟨(.type "frame"),none,.plain,#[(some (.ref 13)),(some (.ref 3)),(some (.ref 3)),none,(some (.str "__main__" 164)),none,(some (.ref 0))]⟩
noncomputable def T0 (P:Params):BT:=nd (boot_o_0 P) (nd (boot_o_1 P) (nd (boot_o_3 P) (nd (boot_o_7 P) .nil .nil) (nd o11 .nil .nil)) (nd (boot_o_5 P) (nd (boot_o_9 P) .nil .nil) (nd o13 .nil .nil))) (nd (boot_o_2 P) (nd (boot_o_4 P) (nd (boot_o_8 P) .nil .nil) (nd o12 .nil .nil)) (nd (boot_o_6 P) (nd (boot_o_10 P) .nil .nil) (nd o14 .nil .nil)))
theorem rA (w:World) (os:OsState):topGo treeTable p w 11 (some (.ref 6)) 12 ⟨boot_heap w.params,Array.mk [],boot_drawn,boot_toks,os⟩ (topStub p)=some ((⟨T0 w.params,15,{},#[],{},187,os⟩:SharedT).abs,⟨denote treeTable cE,cE,⟨0,0,0,0⟩,[topFrame fq]⟩):=by
 rw [PySem.W.Fast.te15667345088766844465,PySem.W.Fast.te14364793385576792824,PySem.W.Fast.te11892475500146522536]
 kernel_rfl
theorem rB (w:World) (os:OsState):segRunT treeTable p w 11 (some (.ref 6)) 1 1 (⟨T0 w.params,15,{},#[],{},187,os⟩:SharedT) (blockOf bd en cE ⟨0,0,0,0⟩ [topFrame fq])=some (.next,(⟨T0 w.params,15,{},#[],{},187,os⟩:SharedT),cE,⟨0,0,0,0⟩):=by
 rw [PySem.W.Fast.te10110043849684766642,PySem.W.Fast.te14364793385576792824]
 kernel_rfl
noncomputable def Bh (P:Params):Obj:=⟨(.type "dict"),none,(.dict #[ke P "__name__" 165 (.str "law_tablestore_k26_whole_many_deeds" 374),ke P "__doc__" 166 .none,ke P "__package__" 167 .none,ke P "__loader__" 168 (.builtin "__main__.__loader__#opaque"),ke P "__spec__" 169 .none,ke P "__annotations__" 170 (.ref 6),ke P "__builtins__" 171 (.ref 4),ke P "__file__" 173 (.str "/claim/cut.py" 172),ke P "__cached__" 174 .none,ke P "KINDS" 192 (.ref 15),ke P "kind_of" 199 (.ref 22),ke P "compare" 207 (.ref 29),ke P "order_key" 214 (.ref 36),ke P "FEWEST" 218 (.int 4 217),ke P "MOST" 220 (.int 8 219),ke P "comes_ahead" 229 (.ref 43),ke P "empty_index" 235 (.ref 50),ke P "entries_of" 241 (.ref 55),ke P "things_in" 250 (.ref 62),ke P "many_in" 257 (.ref 69),ke P "has_entry" 269 (.ref 76),ke P "part_place" 278 (.ref 83),ke P "first_of" 285 (.ref 90),ke P "with_entry" 296 (.ref 97),ke P "cells_with" 302 (.ref 102),ke P "cells_of" 315 (.ref 109),ke P "parts_of" 321 (.ref 114),ke P "rooted" 329 (.ref 121),ke P "without_entry" 339 (.ref 128),ke P "cell_without" 345 (.ref 133),ke P "mended" 357 (.ref 140),ke P "index_from" 366 (.ref 147),ke P "entry_key" 373 (.ref 154),ke P "_law_cell_at" 383 (.ref 161),ke P "_law_whole" 390 (.ref 168),ke P "_law_stream" 401 (.ref 175),ke P "_law_value" 407 (.ref 180),ke P "_law_key" 414 (.ref 187),ke P "_law_entry" 421 (.ref 194),ke P "_law_once" 427 (.ref 199),ke P "_law_same" 435 (.ref 206),ke P "_law_alike" 444 (.ref 213),ke P "_law_cells" 457 (.ref 220),ke P "_law_has" 469 (.ref 227),ke P "_law_list" 475 (.ref 232),ke P "_law_thinned" 486 (.ref 239),ke P "_law_deed" 497 (.ref 246),ke P "_law_behind" 503 (.ref 251),ke P "law" 525 (.ref 258)] 49),#[]⟩
noncomputable def zH:Obj:=fi (tr 0 [(3,21),(7,28),(13,35),(20,42),(23,49),(25,54),(30,61),(35,68),(37,75),(44,82),(49,89),(52,96),(56,101),(65,108),(73,113),(75,120),(80,127),(87,132),(96,139),(105,146),(113,153),(116,160),(120,167),(122,174),(129,179),(144,186),(150,193),(152,198),(155,205),(163,212),(170,219),(189,226),(197,231),(203,238),(209,245),(217,250),(221,257)])
noncomputable def o15:Obj:=tu (tn 189 ["none","number","text"])
noncomputable def o18:Obj:=tu (tn 196 ["value"])
noncomputable def o20:Obj:=pr (S 2)
noncomputable def o21:Obj:=co "kind_of" "kind_of" 193 3 1 0 0 3 16 true 17 (.ref 18) (.ref 19) (.ref 20) 197
noncomputable def m187:Value:=.str "tablestore.values" 187
noncomputable def o22:Obj:=fu (S 2) m187 21
noncomputable def o25:Obj:=tu (tn 203 ["one","other"])
noncomputable def o27:Obj:=pr (S 3)
noncomputable def o28:Obj:=co "compare" "compare" 200 7 2 0 0 3 23 true 24 (.ref 25) (.ref 26) (.ref 27) 205
noncomputable def o29:Obj:=fu (S 3) m187 28
noncomputable def o32:Obj:=tu (tn 211 ["value"])
noncomputable def o34:Obj:=pr (S 4)
noncomputable def o35:Obj:=co "order_key" "order_key" 208 13 1 0 0 3 30 true 31 (.ref 32) (.ref 33) (.ref 34) 212
noncomputable def o36:Obj:=fu (S 4) m187 35
noncomputable def o39:Obj:=tu (tn 224 ["one","other","told"])
noncomputable def o41:Obj:=pr (S 8)
noncomputable def o42:Obj:=co "comes_ahead" "comes_ahead" 221 20 2 0 0 3 37 true 38 (.ref 39) (.ref 40) (.ref 41) 227
noncomputable def m215:Value:=.str "tablestore.ordered" 215
noncomputable def o43:Obj:=fu (S 8) m215 42
noncomputable def o48:Obj:=pr (S 9)
noncomputable def o49:Obj:=co "empty_index" "empty_index" 230 23 0 0 0 3 44 true 45 (.ref 46) (.ref 47) (.ref 48) 233
noncomputable def o50:Obj:=fu (S 9) m215 49
noncomputable def o53:Obj:=pr (S 10)
noncomputable def o54:Obj:=co "entries_of" "entries_of" 236 25 1 0 0 3 51 true 52 .none .none (.ref 53) 239
noncomputable def o55:Obj:=fu (S 10) m215 54
noncomputable def o58:Obj:=tu (tn 245 ["cells","things","cell"])
noncomputable def o60:Obj:=pr (S 11)
noncomputable def o61:Obj:=co "things_in" "things_in" 242 30 1 0 0 3 56 true 57 (.ref 58) (.ref 59) (.ref 60) 248
noncomputable def o62:Obj:=fu (S 11) m215 61
noncomputable def o65:Obj:=tu (tn 254 ["index"])
noncomputable def o67:Obj:=pr (S 12)
noncomputable def o68:Obj:=co "many_in" "many_in" 251 35 1 0 0 3 63 true 64 (.ref 65) (.ref 66) (.ref 67) 255
noncomputable def o69:Obj:=fu (S 12) m215 68
noncomputable def o72:Obj:=tu (tn 261 ["index","value","number","entry","cell","parts"])
noncomputable def o74:Obj:=pr (S 13)
noncomputable def o75:Obj:=co "has_entry" "has_entry" 258 37 3 0 0 3 70 true 71 (.ref 72) (.ref 73) (.ref 74) 267
noncomputable def o76:Obj:=fu (S 13) m215 75
noncomputable def o79:Obj:=tu (tn 273 ["parts","entry","place"])
noncomputable def o81:Obj:=pr (S 14)
noncomputable def o82:Obj:=co "part_place" "part_place" 270 44 2 0 0 3 77 true 78 (.ref 79) (.ref 80) (.ref 81) 276
noncomputable def o83:Obj:=fu (S 14) m215 82
noncomputable def o86:Obj:=tu (tn 282 ["cell"])
noncomputable def o88:Obj:=pr (S 15)
noncomputable def o89:Obj:=co "first_of" "first_of" 279 49 1 0 0 3 84 true 85 (.ref 86) (.ref 87) (.ref 88) 283
noncomputable def o90:Obj:=fu (S 15) m215 89
noncomputable def o93:Obj:=tu (tn 291 ["index","value","number"])
noncomputable def o95:Obj:=pr (S 17)
noncomputable def o96:Obj:=co "with_entry" "with_entry" 288 52 3 0 0 3 91 true 92 (.ref 93) (.ref 94) (.ref 95) 294
noncomputable def m286:Value:=.str "tablestore.balance" 286
noncomputable def o97:Obj:=fu (S 17) m286 96
noncomputable def o100:Obj:=pr (S 18)
noncomputable def o101:Obj:=co "cells_with" "cells_with" 297 56 2 0 0 3 98 true 99 .none .none (.ref 100) 300
noncomputable def o102:Obj:=fu (S 18) m286 101
noncomputable def o105:Obj:=tu (tn 306 ["word","things","many","cells","place","start","end"])
noncomputable def o107:Obj:=pr (S 19)
noncomputable def o108:Obj:=co "cells_of" "cells_of" 303 65 2 0 0 3 103 true 104 (.ref 105) (.ref 106) (.ref 107) 313
noncomputable def o109:Obj:=fu (S 19) m286 108
noncomputable def o112:Obj:=pr (S 20)
noncomputable def o113:Obj:=co "parts_of" "parts_of" 316 73 1 0 0 3 110 true 111 .none .none (.ref 112) 319
noncomputable def o114:Obj:=fu (S 20) m286 113
noncomputable def o117:Obj:=tu (tn 325 ["cells","level"])
noncomputable def o119:Obj:=pr (S 21)
noncomputable def o120:Obj:=co "rooted" "rooted" 322 75 1 0 0 3 115 true 116 (.ref 117) (.ref 118) (.ref 119) 327
noncomputable def o121:Obj:=fu (S 21) m286 120
noncomputable def o124:Obj:=tu (tn 333 ["index","value","number","root"])
noncomputable def o126:Obj:=pr (S 22)
noncomputable def o127:Obj:=co "without_entry" "without_entry" 330 80 3 0 0 3 122 true 123 (.ref 124) (.ref 125) (.ref 126) 337
noncomputable def o128:Obj:=fu (S 22) m286 127
noncomputable def o131:Obj:=pr (S 23)
noncomputable def o132:Obj:=co "cell_without" "cell_without" 340 87 2 0 0 3 129 true 130 .none .none (.ref 131) 343
noncomputable def o133:Obj:=fu (S 23) m286 132
noncomputable def o136:Obj:=tu (tn 349 ["parts","place","smaller","start","things","fresh"])
noncomputable def o138:Obj:=pr (S 24)
noncomputable def o139:Obj:=co "mended" "mended" 346 96 3 0 0 3 134 true 135 (.ref 136) (.ref 137) (.ref 138) 355
noncomputable def o140:Obj:=fu (S 24) m286 139
noncomputable def o143:Obj:=tu (tn 361 ["entries","once","entry"])
noncomputable def o145:Obj:=pr (S 25)
noncomputable def o146:Obj:=co "index_from" "index_from" 358 105 1 0 0 3 141 true 142 (.ref 143) (.ref 144) (.ref 145) 364
noncomputable def o147:Obj:=fu (S 25) m286 146
noncomputable def o150:Obj:=tu (tn 370 ["entry"])
noncomputable def o152:Obj:=pr (S 26)
noncomputable def o153:Obj:=co "entry_key" "entry_key" 367 113 1 0 0 3 148 true 149 (.ref 150) (.ref 151) (.ref 152) 371
noncomputable def o154:Obj:=fu (S 26) m286 153
noncomputable def o157:Obj:=tu (tn 379 ["_law_script","_law_k"])
noncomputable def o159:Obj:=pr (S 28)
noncomputable def o160:Obj:=co "_law_cell_at" "_law_cell_at" 376 116 2 0 0 3 155 true 156 (.ref 157) (.ref 158) (.ref 159) 381
noncomputable def m374:Value:=.str "law_tablestore_k26_whole_many_deeds" 374
noncomputable def o161:Obj:=fu (S 28) m374 160
noncomputable def o164:Obj:=tu (tn 387 ["_law_found"])
noncomputable def o166:Obj:=pr (S 29)
noncomputable def o167:Obj:=co "_law_whole" "_law_whole" 384 120 1 0 0 3 162 true 163 (.ref 164) (.ref 165) (.ref 166) 388
noncomputable def o168:Obj:=fu (S 29) m374 167
noncomputable def o171:Obj:=tu (tn 394 ["_law_cell","_law_many","_law_found","_law_number","_law_k"])
noncomputable def o173:Obj:=pr (S 30)
noncomputable def o174:Obj:=co "_law_stream" "_law_stream" 391 122 2 0 0 3 169 true 170 (.ref 171) (.ref 172) (.ref 173) 399
noncomputable def o175:Obj:=fu (S 30) m374 174
noncomputable def o178:Obj:=pr (S 31)
noncomputable def o179:Obj:=co "_law_value" "_law_value" 402 129 1 0 0 3 176 true 177 .none .none (.ref 178) 405
noncomputable def o180:Obj:=fu (S 31) m374 179
noncomputable def o183:Obj:=tu (tn 411 ["_law_entry_here"])
noncomputable def o185:Obj:=pr (S 32)
noncomputable def o186:Obj:=co "_law_key" "_law_key" 408 144 1 0 0 3 181 true 182 (.ref 183) (.ref 184) (.ref 185) 412
noncomputable def o187:Obj:=fu (S 32) m374 186
noncomputable def o190:Obj:=tu (tn 418 ["_law_x"])
noncomputable def o192:Obj:=pr (S 33)
noncomputable def o193:Obj:=co "_law_entry" "_law_entry" 415 150 1 0 0 3 188 true 189 (.ref 190) (.ref 191) (.ref 192) 419
noncomputable def o194:Obj:=fu (S 33) m374 193
noncomputable def o197:Obj:=pr (S 34)
noncomputable def o198:Obj:=co "_law_once" "_law_once" 422 152 1 0 0 3 195 true 196 .none .none (.ref 197) 425
noncomputable def o199:Obj:=fu (S 34) m374 198
noncomputable def o202:Obj:=tu (tn 431 ["_law_one","_law_other"])
noncomputable def o204:Obj:=pr (S 35)
noncomputable def o205:Obj:=co "_law_same" "_law_same" 428 155 2 0 0 3 200 true 201 (.ref 202) (.ref 203) (.ref 204) 433
noncomputable def o206:Obj:=fu (S 35) m374 205
noncomputable def o209:Obj:=tu (tn 439 ["_law_found","_law_rows","_law_k"])
noncomputable def o211:Obj:=pr (S 36)
noncomputable def o212:Obj:=co "_law_alike" "_law_alike" 436 163 2 0 0 3 207 true 208 (.ref 209) (.ref 210) (.ref 211) 442
noncomputable def o213:Obj:=fu (S 36) m374 212
noncomputable def o216:Obj:=tu (tn 448 ["_law_cell","_law_root","_law_leaves","_law_part","_law_beneath","_law_depth","_law_entries"])
noncomputable def o218:Obj:=pr (S 37)
noncomputable def o219:Obj:=co "_law_cells" "_law_cells" 445 170 2 0 0 3 214 true 215 (.ref 216) (.ref 217) (.ref 218) 455
noncomputable def o220:Obj:=fu (S 37) m374 219
noncomputable def o223:Obj:=tu (tn 461 ["_law_found","_law_rows","_law_leaves","_law_entries","_law_depth","_law_some"])
noncomputable def o225:Obj:=pr (S 38)
noncomputable def o226:Obj:=co "_law_has" "_law_has" 458 189 2 0 0 3 221 true 222 (.ref 223) (.ref 224) (.ref 225) 467
noncomputable def o227:Obj:=fu (S 38) m374 226
noncomputable def o230:Obj:=pr (S 39)
noncomputable def o231:Obj:=co "_law_list" "_law_list" 470 197 1 0 0 3 228 true 229 .none .none (.ref 230) 473
noncomputable def o232:Obj:=fu (S 39) m374 231
noncomputable def o235:Obj:=tu (tn 479 ["_law_index","_law_rows","_law_x","_law_k","_law_at"])
noncomputable def o237:Obj:=pr (S 40)
noncomputable def o238:Obj:=co "_law_thinned" "_law_thinned" 476 203 3 0 0 3 233 true 234 (.ref 235) (.ref 236) (.ref 237) 484
noncomputable def o239:Obj:=fu (S 40) m374 238
noncomputable def o242:Obj:=tu (tn 490 ["_law_x","_law_rows","_law_gone","_law_entry_here","_law_one"])
noncomputable def o244:Obj:=pr (S 41)
noncomputable def o245:Obj:=co "_law_deed" "_law_deed" 487 209 3 0 0 3 240 true 241 (.ref 242) (.ref 243) (.ref 244) 495
noncomputable def o246:Obj:=fu (S 41) m374 245
noncomputable def o249:Obj:=pr (S 42)
noncomputable def o250:Obj:=co "_law_behind" "_law_behind" 498 217 3 0 0 3 247 true 248 .none .none (.ref 249) 501
noncomputable def o251:Obj:=fu (S 42) m374 250
noncomputable def o254:Obj:=tu (tn 507 ["_law_script","_law_entries","_law_handed","_law_indexes","_law_rows","_law_kept","_law_held","_law_gone","_law_turn","_law_cell","_law_which","_law_less","_law_entry_here","_law_found","_law_some","_law_index"])
noncomputable def o256:Obj:=pr (S 43)
noncomputable def o257:Obj:=co "law" "law" 504 221 1 0 0 3 252 true 253 (.ref 254) (.ref 255) (.ref 256) 523
noncomputable def o258:Obj:=fu (S 43) m374 257
noncomputable def g0:List Stmt:=(bd.drop 0).take 44
noncomputable def T1 (P:Params):BT:=nd (boot_o_0 P) (nd (boot_o_1 P) (nd (Bh P) (nd (boot_o_7 P) (nd o15 (nd o12 (nd o11 (nd o127 (nd o11 .nil .nil) .nil) (nd o11 .nil .nil)) (nd o95 (nd o159 .nil .nil) (nd o223 .nil .nil))) (nd o11 (nd o79 (nd o143 .nil .nil) (nd o11 .nil .nil)) (nd o12 (nd o175 .nil .nil) (nd o239 .nil .nil)))) (nd o11 (nd o39 (nd o12 (nd o12 .nil .nil) (nd o199 .nil .nil)) (nd o11 (nd o167 .nil .nil) (nd o231 .nil .nil))) (nd o55 (nd o11 (nd o11 .nil .nil) (nd o12 .nil .nil)) (nd o119 (nd o183 .nil .nil) (nd o11 .nil .nil))))) (nd o11 (nd o11 (nd o35 (nd o67 (nd o131 .nil .nil) (nd o11 .nil .nil)) (nd o12 (nd o12 .nil .nil) (nd o227 .nil .nil))) (nd o11 (nd o83 (nd o147 .nil .nil) (nd o211 .nil .nil)) (nd o11 (nd o179 .nil .nil) (nd o11 .nil .nil)))) (nd o27 (nd o43 (nd o75 (nd o139 .nil .nil) (nd o11 .nil .nil)) (nd o107 (nd o171 .nil .nil) (nd o235 .nil .nil))) (nd o11 (nd o11 (nd o11 .nil .nil) (nd o219 .nil .nil)) (nd o12 (nd o187 .nil .nil) (nd o251 .nil .nil)))))) (nd (boot_o_5 P) (nd (boot_o_9 P) (nd o12 (nd o11 (nd o65 (nd o11 (nd o257 .nil .nil) .nil) (nd o193 .nil .nil)) (nd o97 (nd o161 .nil .nil) (nd o225 .nil .nil))) (nd o49 (nd o81 (nd o145 .nil .nil) (nd o209 .nil .nil)) (nd o113 (nd o12 .nil .nil) (nd o12 .nil .nil)))) (nd o25 (nd o41 (nd o11 (nd o11 .nil .nil) (nd o12 .nil .nil)) (nd o105 (nd o11 .nil .nil) (nd o11 .nil .nil))) (nd o12 (nd o89 (nd o153 .nil .nil) (nd o11 .nil .nil)) (nd o121 (nd o185 .nil .nil) (nd o249 .nil .nil))))) (nd o13 (nd o21 (nd o11 (nd o69 (nd o133 .nil .nil) (nd o197 .nil .nil)) (nd o101 (nd o11 .nil .nil) (nd o12 .nil .nil))) (nd o53 (nd o12 (nd o12 .nil .nil) (nd o213 .nil .nil)) (nd o117 (nd o11 .nil .nil) (nd o245 .nil .nil)))) (nd o29 (nd o12 (nd o11 (nd o11 .nil .nil) (nd o205 .nil .nil)) (nd o109 (nd o173 .nil .nil) (nd o237 .nil .nil))) (nd o61 (nd o93 (nd o157 .nil .nil) (nd o11 .nil .nil)) (nd o11 (nd o12 .nil .nil) (nd o12 .nil .nil))))))) (nd (boot_o_2 P) (nd (boot_o_4 P) (nd (boot_o_8 P) (nd o11 (nd o32 (nd o12 (nd o128 (nd o256 .nil .nil) .nil) (nd o192 .nil .nil)) (nd o96 (nd o160 .nil .nil) (nd o11 .nil .nil))) (nd o48 (nd o11 (nd o11 .nil .nil) (nd o12 .nil .nil)) (nd o112 (nd o11 .nil .nil) (nd o11 .nil .nil)))) (nd o12 (nd o11 (nd o72 (nd o136 .nil .nil) (nd o11 .nil .nil)) (nd o12 (nd o168 .nil .nil) (nd o232 .nil .nil))) (nd o11 (nd o88 (nd o152 .nil .nil) (nd o216 .nil .nil)) (nd o120 (nd o11 .nil .nil) (nd o12 .nil .nil))))) (nd zH (nd o20 (nd o36 (nd o68 (nd o132 .nil .nil) (nd o12 .nil .nil)) (nd o100 (nd o164 .nil .nil) (nd o11 .nil .nil))) (nd o12 (nd o11 (nd o11 .nil .nil) (nd o212 .nil .nil)) (nd o12 (nd o180 .nil .nil) (nd o244 .nil .nil)))) (nd o28 (nd o11 (nd o76 (nd o140 .nil .nil) (nd o204 .nil .nil)) (nd o108 (nd o11 .nil .nil) (nd o11 .nil .nil))) (nd o60 (nd o12 (nd o12 .nil .nil) (nd o220 .nil .nil)) (nd o124 (nd o11 .nil .nil) (nd o11 .nil .nil)))))) (nd (boot_o_6 P) (nd (boot_o_10 P) (nd o18 (nd o34 (nd o11 (nd o12 (nd o258 .nil .nil) .nil) (nd o194 .nil .nil)) (nd o11 (nd o11 .nil .nil) (nd o226 .nil .nil))) (nd o50 (nd o82 (nd o146 .nil .nil) (nd o11 .nil .nil)) (nd o114 (nd o178 .nil .nil) (nd o242 .nil .nil)))) (nd o11 (nd o42 (nd o74 (nd o138 .nil .nil) (nd o202 .nil .nil)) (nd o11 (nd o12 .nil .nil) (nd o12 .nil .nil))) (nd o58 (nd o90 (nd o154 .nil .nil) (nd o218 .nil .nil)) (nd o11 (nd o186 .nil .nil) (nd o250 .nil .nil))))) (nd o14 (nd o22 (nd o12 (nd o11 (nd o11 .nil .nil) (nd o198 .nil .nil)) (nd o102 (nd o166 .nil .nil) (nd o230 .nil .nil))) (nd o54 (nd o86 (nd o150 .nil .nil) (nd o11 .nil .nil)) (nd o11 (nd o12 .nil .nil) (nd o246 .nil .nil)))) (nd o11 (nd o11 (nd o12 (nd o12 .nil .nil) (nd o206 .nil .nil)) (nd o11 (nd o174 .nil .nil) (nd o238 .nil .nil))) (nd o62 (nd o11 (nd o11 .nil .nil) (nd o12 .nil .nil)) (nd o126 (nd o190 .nil .nil) (nd o254 .nil .nil)))))))
theorem rG0 (w:World) (os:OsState):segRunT treeTable p w 11 (some (.ref 6)) 1 1189 (⟨T0 w.params,15,{},#[],{},187,os⟩:SharedT) (piecesOf g0 en cE ⟨0,0,0,0⟩ [topFrame fq])=some (.next,(⟨T1 w.params,259,{},#[],{},526,os⟩:SharedT),cE,⟨221,0,257,15⟩):=by
 rw [PySem.W.Fast.te10110043849684766642,PySem.W.Fast.te14364793385576792824]
 kernel_rfl
noncomputable def L1 (P:Params):List Obj:=[boot_o_0 P,boot_o_1 P,boot_o_2 P,Bh P,boot_o_4 P,boot_o_5 P,boot_o_6 P,boot_o_7 P,boot_o_8 P,boot_o_9 P,boot_o_10 P,o11,zH,o13,o14,o15,o11,o12,o18,o11,o20,o21,o22,o11,o12,o25,o11,o27,o28,o29,o11,o12,o32,o11,o34,o35,o36,o11,o12,o39,o11,o41,o42,o43,o11,o12,o11,o11,o48,o49,o50,o11,o12,o53,o54,o55,o11,o12,o58,o11,o60,o61,o62,o11,o12,o65,o11,o67,o68,o69,o11,o12,o72,o11,o74,o75,o76,o11,o12,o79,o11,o81,o82,o83,o11,o12,o86,o11,o88,o89,o90,o11,o12,o93,o11,o95,o96,o97,o11,o12,o100,o101,o102,o11,o12,o105,o11,o107,o108,o109,o11,o12,o112,o113,o114,o11,o12,o117,o11,o119,o120,o121,o11,o12,o124,o11,o126,o127,o128,o11,o12,o131,o132,o133,o11,o12,o136,o11,o138,o139,o140,o11,o12,o143,o11,o145,o146,o147,o11,o12,o150,o11,o152,o153,o154,o11,o12,o157,o11,o159,o160,o161,o11,o12,o164,o11,o166,o167,o168,o11,o12,o171,o11,o173,o174,o175,o11,o12,o178,o179,o180,o11,o12,o183,o11,o185,o186,o187,o11,o12,o190,o11,o192,o193,o194,o11,o12,o197,o198,o199,o11,o12,o202,o11,o204,o205,o206,o11,o12,o209,o11,o211,o212,o213,o11,o12,o216,o11,o218,o219,o220,o11,o12,o223,o11,o225,o226,o227,o11,o12,o230,o231,o232,o11,o12,o235,o11,o237,o238,o239,o11,o12,o242,o11,o244,o245,o246,o11,o12,o249,o250,o251,o11,o12,o254,o11,o256,o257,o258]
noncomputable def H1 (P:Params):Heap:=⟨Array.mk (L1 P),{}⟩
noncomputable abbrev sf (w:World) (os:OsState):Shared:=⟨H1 w.params,#[],{},526,os⟩
theorem rF (w:World) (os:OsState):topRun treeTable p w 11 (some (.ref 6)) 2 (⟨T1 w.params,259,{},#[],{},526,os⟩:SharedT).abs ⟨doneF .next,cE,⟨221,0,257,15⟩,[topFrame fq]⟩=some (sf w os):=by
 rw [PySem.W.Fast.te14082659384304107361,PySem.W.Fast.te14364793385576792824]
 kernel_rfl
theorem A1:bd=g0++([]):=by kernel_rfl
theorem run (w:World) (os:OsState):topRun treeTable p w 11 (some (.ref 6)) (12+(1+(1189+2))) ⟨boot_heap w.params,Array.mk [],boot_drawn,boot_toks,os⟩ (topStub p)=some (sf w os) :=
 go_top (n:=12) (rA w os) (piece_block (n:=1) (segRun_of (rB w os)) (A1 ▸ piece_app (n:=1189) (l:=g0) (segRun_of (rG0 w os)) (piece_nil (rF w os))))
noncomputable def q:Program:=view p [1,2,3,4,6,7,8,9,10,11,12,13,14,15,17,18,19,20,21,22,23,24,25,26,28,29,30,31,32,33,34,35,36,37,38,39,40,41,42,43]
theorem zX (w:World):(fencedOpening treeTable p w 2502).map (fun s=>(s.heap,s.gens,s.drawn,s.toks))=some (boot_heap w.params,Array.mk [],boot_drawn,boot_toks) :=
 boot_open (by kernel_rfl) (by decide) (fun s=>by kernel_rfl) w
theorem size (w:World):((boot_heap w.params).isNs mainGlobals&&(Array.mk []:Array GenState).size==0,(boot_heap w.params).objs.size,(boot_heap w.params).nsMap mainGlobals "__annotations__")=(true,11,(some (.ref 6))):=by
 kernel_rfl
theorem k0 (w:World) (os:OsState):(staticsOk (importedModules p.main.body) (boot_heap w.params) (H1 w.params)&&namesBound p (H1 w.params)&&gensDone (sf w os)&&laidKept (boot_heap w.params) (H1 w.params))=true:=by kernel_rfl
theorem k1 (w:World) (os:OsState):seen ((recsOf q).map (·.name)) (ownsOf q) [] { (sf w os) with gens:=#[] }=expectedOf q:=by
 kernel_rfl
theorem k2 (w:World) (os:OsState):(sf w os).heap.bltView=bltViewBooted:=by
 kernel_rfl
theorem k3 (w:World) (os:OsState):((sf w os).heap.keysOk (looseW q []) ((recsOf q).map (·.name)) ((litsOf q).map (·.1)) ((clssOf q (looseW q [])).map (·.name))&&(sf w os).heap.accountedOkI (importedModules p.main.body)&&(sf w os).heap.isNs mainGlobals&&(sf w os).heap.isNs builtinsNs&&tablesOk q (sf w os).heap&&(xlAt q [] (sf w os)&&recOk [] (sf w os))&&(if true then (sf w os).gens.size==0 else !leftWithCleanup (sf w os).gens))=true:=by
 kernel_rfl
theorem k4 (w:World) (os:OsState):tabsOk q (sf w os)=true:=by
 kernel_rfl
theorem k5 (w:World) (os:OsState):pinSeenD q (drecsOf q) (sf w os)=pinGoodD (drecsOf q):=by
 kernel_rfl
theorem k6 (w:World) (os:OsState):plainSeenE q (looseW q []) (sf w os)=plainGoodE q (looseW q []):=by
 kernel_rfl
theorem k7 (w:World) (os:OsState):plainSeenD q [] (sf w os)=plainGoodD q []:=by
 kernel_rfl
theorem k8 (w:World) (os:OsState):wideSeen q (sf w os)=wideGood q:=by
 kernel_rfl
theorem k9 (w:World) (os:OsState):clsSeenW q [] (sf w os)=clsGoodW q []:=by
 kernel_rfl
noncomputable def ad:List Addr:=List.range 259
noncomputable def K (P:Params):Frag:=ad.zip (L1 P)
theorem kY (w:World) (os:OsState):X.obsZ ad (sf w os)=X.valZ K 259 526 w:=by kernel_rfl
theorem left:LeftO p q [] (fun s=>xlAt q [] s&&recOk [] s) (X.obsZ ad) (X.valZ K 259 526) 2502 :=
 LeftO.of_pieces (H₀:=boot_heap) (H₁:=H1) (gs₀:=Array.mk []) (gs₁:=#[]) (d₀:=boot_drawn) (d₁:={}) (k₀:=boot_toks) (k₁:=526) (m₀:=11) (ann:=(some (.ref 6))) (M:=(12+(1+(1189+2)))) zX size run (by decide) fun w=>funext fun os=>looks_pair (k0 w os) (looks_pair (looks_pair (k1 w os) (looks_pair (k2 w os) (looks_pair (k3 w os) (looks_pair (k4 w os) (looks_pair (k5 w os) (looks_pair (k6 w os) (looks_pair (k7 w os) (looks_pair (k8 w os) (k9 w os))))))))) (kY w os))
noncomputable def dP (s:Stmt):Pos:=match s with
 | .FunctionDef _ _ _ _ _ _ _ _ _ x=>x
 | _=>default
noncomputable def d:DefRec:=⟨"law",dA (S 43),dB (S 43),dS (S 43),dP (S 43)⟩
theorem ws:PySem.Challenge.rw_tablestore_k26_whole_many_deeds.wellSaid=true:=by kernel_rfl
theorem hold (hc:WalkX q [] (XL q []) (X.obsZ ad) (X.valZ K 259 526) PySem.Challenge.rw_tablestore_k26_whole_many_deeds.row.toRowW d [] fun f vs=>PySem.call f vs):PySem.Challenge.rw_tablestore_k26_whole_many_deeds.Holds:=by
 refine holds_law ws fun said=>?_
 refine holds_openX (q:=q) (loose:=[]) (Xt:=fun s=>xlAt q [] s&&recOk [] s) (XP:=XL q []) (N:=2502) left (fun s e=>xl_of s (Bool.and_eq_true_iff.mp e).1) XL.keeps (d:=d) (kwd:=[]) (by kernel_rfl) (by kernel_rfl) (by kernel_rfl) (fun s e=>recFacts_of (Bool.and_eq_true_iff.mp e).2) (by rfl) said (by decide +kernel) ⟨rfl,rfl,rfl,rfl,rfl,by decide +kernel⟩ ?hw hc
 case hw=>w_witness2
end HD
end
namespace T26
open PySem L2
theorem dk {w:World} {h:Heap} {mg:Str→Option Value} (X:(HD.K w.params).In h) (G:h.Ns mainGlobals mg) {n:Str} {st:Stmt} {f:Nat} (c:Nat) (m:Value) {ps:List Str}
  (a:PySem.W.nsIn (HD.K w.params) mainGlobals n=some (some (.ref f))∧(HD.K w.params).lookup f=some ⟨.type "function",none,.func (PySem.W.fnOf n n (gj st) (dw st) (ap st) .none .none .none m none (.ref c) .none),#[]⟩∧PySem.W.codeIn (HD.K w.params) (.ref c) n=true∧PySem.W.keepIn (HD.K w.params) (.ref f)=true)
  (b:∀ (kV doc pm:Value) (an:Option Addr) (cdv ct:Value) (us:List Value),us.length=ps.length→bindArgs (PySem.W.fnOf n n (gj st) (dw st) (ap st) .none kV doc pm an cdv ct) ⟨us,[]⟩=pure (ps.zip us)) :
  Def (HD.K w.params) mg n st ps f (PySem.W.fnOf n n (gj st) (dw st) (ap st) .none .none .none m none (.ref c) .none) :=
 have F:=xY (st:=st) a.2.1 a.2.2.1 a.2.2.2
 ⟨F,F.binds b,PySem.W.mg_of X G a.1⟩
local macro_rules | `(tactic| walk_at "kk") => `(tactic| exact ⟨by kernel_rfl, by kernel_rfl, by kernel_rfl, by kernel_rfl⟩)
local macro_rules | `(tactic| walk_at "kz") => `(tactic| kernel_rfl)
theorem all_mk {l:PySem.W.OpenLaw} {w:World} {h:Heap} {mg:Str→Option Value} {fa:Addr} (X:(HD.K w.params).In h) (G:h.Ns mainGlobals mg) (hfa:mg "law"=some (.ref fa)) :
  ∃ fd:FuncData,(∀ (s:Shared) (v:Value),BindsTo s fd ⟨[v],[]⟩ [("_law_script",v)])∧∀ base:Heap,(HD.K w.params).In base→base.Ns mainGlobals mg→FnOk l.prog w (HD.K w.params) mg base CX0 18 fa fd oD (spD (HD.K w.params) mg qG):=by
 have a37:PySem.W.nsIn (HD.K w.params) mainGlobals "law"=some (some (.ref 258)):=by kernel_rfl
 have v_KINDS:PySem.W.nsIn (HD.K w.params) mainGlobals "KINDS"=some (some (.ref 15)):=by kernel_rfl
 have w_KINDS:(HD.K w.params).lookup 15=some ⟨.type "tuple",none,.seq #[.str "none" 189,.str "number" 190,.str "text" 191] 0,#[]⟩:=by kernel_rfl
 have v_FEWEST:PySem.W.nsIn (HD.K w.params) mainGlobals "FEWEST"=some (some (.int 4 217)):=by kernel_rfl
 have v_MOST:PySem.W.nsIn (HD.K w.params) mainGlobals "MOST"=some (some (.int 8 219)):=by kernel_rfl
 have zn:∀ {n:Str},PySem.W.nsIn (HD.K w.params) mainGlobals n=some none→mg n=none:=fun e=>PySem.W.mg_none_of X G e
 have e:=hfa.symm.trans (PySem.W.mg_of X G a37)
 cases e
 have D_kind_of:Def _ mg "kind_of" kM gb 22 _:=dk X G 21 HD.m187 (by walk_at "kk") fun _ _ _ _ _ _=>ln1 (fun _=>rfl)
 have D_compare:Def _ mg "compare" lc gn 29 _:=dk X G 28 HD.m187 (by walk_at "kk") fun _ _ _ _ _ _=>ln2 (fun _ _=>rfl)
 have D_order_key:Def _ mg "order_key" iA dG 36 _:=dk X G 35 HD.m187 (by walk_at "kk") fun _ _ _ _ _ _=>ln1 (fun _=>rfl)
 have D_comes_ahead:Def _ mg "comes_ahead" fH bS 43 _:=dk X G 42 HD.m215 (by walk_at "kk") fun _ _ _ _ _ _=>ln2 (fun _ _=>rfl)
 have D_empty_index:Def _ mg "empty_index" fA cw 50 _:=dk X G 49 HD.m215 (by walk_at "kk") fun _ _ _ _ _ _=>ln0 (rfl)
 have D_things_in:Def _ mg "things_in" ii dD 62 _:=dk X G 61 HD.m215 (by walk_at "kk") fun _ _ _ _ _ _=>ln1 (fun _=>rfl)
 have D_entries_of:Def _ mg "entries_of" eL cS 55 _:=dk X G 54 HD.m215 (by walk_at "kk") fun _ _ _ _ _ _=>ln1 (fun _=>rfl)
 have D_many_in:Def _ mg "many_in" kA gq 69 _:=dk X G 68 HD.m215 (by walk_at "kk") fun _ _ _ _ _ _=>ln1 (fun _=>rfl)
 have D_part_place:Def _ mg "part_place" gd bR 83 _:=dk X G 82 HD.m215 (by walk_at "kk") fun _ _ _ _ _ _=>ln2 (fun _ _=>rfl)
 have D_has_entry:Def _ mg "has_entry" iz dq 76 _:=dk X G 75 HD.m215 (by walk_at "kk") fun _ _ _ _ _ _=>ln3 (fun _ _ _=>rfl)
 have D_first_of:Def _ mg "first_of" jp eZ 90 _:=dk X G 89 HD.m215 (by walk_at "kk") fun _ _ _ _ _ _=>ln1 (fun _=>rfl)
 have D_cells_of:Def _ mg "cells_of" ju dg 109 _:=dk X G 108 HD.m286 (by walk_at "kk") fun _ _ _ _ _ _=>ln2 (fun _ _=>rfl)
 have D_parts_of:Def _ mg "parts_of" gT cG 114 _:=dk X G 113 HD.m286 (by walk_at "kk") fun _ _ _ _ _ _=>ln1 (fun _=>rfl)
 have D_rooted:Def _ mg "rooted" mG jm 121 _:=dk X G 120 HD.m286 (by walk_at "kk") fun _ _ _ _ _ _=>ln1 (fun _=>rfl)
 have D_cells_with:Def _ mg "cells_with" cR bK 102 _:=dk X G 101 HD.m286 (by walk_at "kk") fun _ _ _ _ _ _=>ln2 (fun _ _=>rfl)
 have D_with_entry:Def _ mg "with_entry" gG cV 97 _:=dk X G 96 HD.m286 (by walk_at "kk") fun _ _ _ _ _ _=>ln3 (fun _ _ _=>rfl)
 have D_mended:Def _ mg "mended" mQ gJ 140 _:=dk X G 139 HD.m286 (by walk_at "kk") fun _ _ _ _ _ _=>ln3 (fun _ _ _=>rfl)
 have D_cell_without:Def _ mg "cell_without" cH bt 133 _:=dk X G 132 HD.m286 (by walk_at "kk") fun _ _ _ _ _ _=>ln2 (fun _ _=>rfl)
 have D_without_entry:Def _ mg "without_entry" dL bO 128 _:=dk X G 127 HD.m286 (by walk_at "kk") fun _ _ _ _ _ _=>ln3 (fun _ _ _=>rfl)
 have D_entry_key:Def _ mg "entry_key" ip dt 154 _:=dk X G 153 HD.m286 (by walk_at "kk") fun _ _ _ _ _ _=>ln1 (fun _=>rfl)
 have D_index_from:Def _ mg "index_from" gh cN 147 _:=dk X G 146 HD.m286 (by walk_at "kk") fun _ _ _ _ _ _=>ln1 (fun _=>rfl)
 have D_l_cell_at:Def _ mg "_law_cell_at" ir dM 161 _:=dk X G 160 HD.m374 (by walk_at "kk") fun _ _ _ _ _ _=>ln2 (fun _ _=>rfl)
 have D_l_whole:Def _ mg "_law_whole" lu fW 168 _:=dk X G 167 HD.m374 (by walk_at "kk") fun _ _ _ _ _ _=>ln1 (fun _=>rfl)
 have D_l_stream:Def _ mg "_law_stream" jF e9 175 _:=dk X G 174 HD.m374 (by walk_at "kk") fun _ _ _ _ _ _=>ln2 (fun _ _=>rfl)
 have D_l_value:Def _ mg "_law_value" jf gk 180 _:=dk X G 179 HD.m374 (by walk_at "kk") fun _ _ _ _ _ _=>ln1 (fun _=>rfl)
 have D_l_key:Def _ mg "_law_key" oS lj 187 _:=dk X G 186 HD.m374 (by walk_at "kk") fun _ _ _ _ _ _=>ln1 (fun _=>rfl)
 have D_l_entry:Def _ mg "_law_entry" lg gC 194 _:=dk X G 193 HD.m374 (by walk_at "kk") fun _ _ _ _ _ _=>ln1 (fun _=>rfl)
 have D_l_once:Def _ mg "_law_once" jX iS 199 _:=dk X G 198 HD.m374 (by walk_at "kk") fun _ _ _ _ _ _=>ln1 (fun _=>rfl)
 have D_l_same:Def _ mg "_law_same" mJ gX 206 _:=dk X G 205 HD.m374 (by walk_at "kk") fun _ _ _ _ _ _=>ln2 (fun _ _=>rfl)
 have D_l_alike:Def _ mg "_law_alike" kL gA 213 _:=dk X G 212 HD.m374 (by walk_at "kk") fun _ _ _ _ _ _=>ln2 (fun _ _=>rfl)
 have D_l_cells:Def _ mg "_law_cells" kK dr 220 _:=dk X G 219 HD.m374 (by walk_at "kk") fun _ _ _ _ _ _=>ln2 (fun _ _=>rfl)
 have D_l_has:Def _ mg "_law_has" pq kP 227 _:=dk X G 226 HD.m374 (by walk_at "kk") fun _ _ _ _ _ _=>ln2 (fun _ _=>rfl)
 have D_l_list:Def _ mg "_law_list" kl i7 232 _:=dk X G 231 HD.m374 (by walk_at "kk") fun _ _ _ _ _ _=>ln1 (fun _=>rfl)
 have D_l_thinned:Def _ mg "_law_thinned" ic dl 239 _:=dk X G 238 HD.m374 (by walk_at "kk") fun _ _ _ _ _ _=>ln3 (fun _ _ _=>rfl)
 have D_l_deed:Def _ mg "_law_deed" mB iJ 246 _:=dk X G 245 HD.m374 (by walk_at "kk") fun _ _ _ _ _ _=>ln3 (fun _ _ _=>rfl)
 have D_l_behind:Def _ mg "_law_behind" gS eV 251 _:=dk X G 250 HD.m374 (by walk_at "kk") fun _ _ _ _ _ _=>ln3 (fun _ _ _=>rfl)
 have D_law:Def _ mg "law" rC oD 258 _:=dk X G 257 HD.m374 (by walk_at "kk") fun _ _ _ _ _ _=>ln1 (fun _=>rfl)
 refine ⟨PySem.W.fnOf "law" "law" (gj rC) (dw rC) (ap rC) .none .none .none (.str "law_tablestore_k26_whole_many_deeds" 374) none (.ref 257) .none,fun s v=>.of_eq rfl,fun base _ _=>?_⟩
 exact zK ⟨D_kind_of,D_compare,D_order_key,D_comes_ahead,D_empty_index,D_things_in,D_entries_of,D_many_in,D_part_place,D_has_entry,D_first_of,D_cells_of,D_parts_of,D_rooted,D_cells_with,D_with_entry,D_mended,D_cell_without,D_without_entry,D_entry_key,D_index_from,D_l_cell_at,D_l_whole,D_l_stream,D_l_value,D_l_key,D_l_entry,D_l_once,D_l_same,D_l_alike,D_l_cells,D_l_has,D_l_list,D_l_thinned,D_l_deed,D_l_behind,D_law,⟨_,w_KINDS,rfl,rfl⟩,PySem.W.mg_of X G v_KINDS,rfl,fun H=>⟨15,[V.str "none",V.str "number",V.str "text"],rfl,.inr ⟨_,_,_,w_KINDS,rfl,rfl,(by rw [sizeLine_eq];exact Nat.le_trans (show 3≤1000 by decide) (by decide)),(.cons ⟨_,rfl⟩ (.cons ⟨_,rfl⟩ (.cons ⟨_,rfl⟩ .nil)))⟩,(Dens.cons rfl (Dens.cons rfl (Dens.cons rfl Dens.nil)))⟩,PySem.W.mg_of X G v_FEWEST,⟨_,rfl⟩,fun H=>rfl,PySem.W.mg_of X G v_MOST,⟨_,rfl⟩,fun H=>rfl,zn (by kernel_rfl),zn (by kernel_rfl),zn (by kernel_rfl),zn (by kernel_rfl),zn (by kernel_rfl),zn (by kernel_rfl),zn (by kernel_rfl),zn (by kernel_rfl),zn (by kernel_rfl),zn (by kernel_rfl)⟩
theorem walk {l:PySem.W.OpenLaw} {q:Program} {loose:List Str} {XP:(Str→Option Value)→Heap→Prop} {YP:World→Heap→Prop} {d:DefRec} {K:Params→PySem.W.Frag} (hn:l.most=some 63) (hdf:d.params.defaults=[])
  (hY:∀ (w:World) (h:Heap),YP w h→(K w.params).In h)
  (F:∀ (w:World) (mg:Str→Option Value) (fa:Addr) (h:Heap),(K w.params).In h→h.Ns mainGlobals mg→mg d.name=some (.ref fa) →
   ∃ fd:FuncData,(∀ (s:Shared) (u:Value),BindsTo s fd ⟨[u],[]⟩ [("_law_script",u)])∧∀ base:Heap,(K w.params).In base→base.Ns mainGlobals mg→FnOk l.prog w (K w.params) mg base CX0 18 fa fd oD (spD (K w.params) mg qG)) :
  PySem.W.WalkO q loose XP YP l.row.toRowW d [] (fun f vs=>PySem.call f vs) :=
 L2.xl (n:=63) (k:=18) (x:="_law_script") (CX:=fun _=>CX0) (sp:=fun w=>spLaw (K w.params) qG) hn (by decide) hdf ⟨rfl,by decide,by decide⟩ hY (fun w mg fa h h1 h2 h3=>xG (F w mg fa h h1 h2 h3)) (fun _ _ a ns hl _ hS=>xf hS (law_true ns hl) fun _=>rfl) fun _ _ _ _ _ z=>z
end T26
open PySem PySem.W PyProof.Rows
set_option maxRecDepth 100000 in
set_option maxHeartbeats 0 in
theorem PySem.Challenge.cw_tablestore_k26_whole_many_deeds_holds : PySem.Challenge.rw_tablestore_k26_whole_many_deeds.Holds := by
 refine HD.hold (L2.walkX (fun _=>by kernel_rfl) ?_)
 exact T26.walk (l:=PySem.Challenge.rw_tablestore_k26_whole_many_deeds) (K:=HD.K) rfl (by kernel_rfl) (fun w h Y=>Y) fun w mg fa h KX G hmg=>T26.all_mk KX G hmg
