import PyProof.Rows.All
import Wide.All
import OpenK.AllK
import Wide.FinOn
import Lean
import PyProof.EqAt
import PyProof.EqKinds
import PyProof.TupleCall
import PyProof.ZipIter
import PyProof.Draws
import PyProof.EnumMake
import PyProof.Rows.SetFrom
import KE.KIntText
import KE.IntTextLaws
import PyProof.StrLawsChain
import PyProof.StrCalls6
import PyProof.ExcAttrAll.ValueError
import PySem.Challenge.RW_tablestore_k40_keys_of_changes
set_option compiler.extract_closed false
namespace L2
theorem exE {α β γ ε : Type} {p q : α → β → γ → ε → Prop} {r : Prop} (h : ∃ a b c d, p a b c d ∧ q a b c d) (k : ∀ a b c d, p a b c d → q a b c d → r) : r := by
  obtain ⟨a, b, c, d, x, y⟩ := h; exact k a b c d x y
theorem exF {α β : Type} {p q r : α → β → Prop} {z : Prop} (h : ∃ a b, p a b ∧ q a b ∧ r a b) (k : ∀ a b, p a b → q a b → r a b → z) : z := by
  obtain ⟨a, b, x, y, w⟩ := h; exact k a b x y w
end L2
-- CHANGE: your row's module here, as the last of these rows
set_option Elab.async false
set_option linter.all false
set_option maxRecDepth 100000
namespace L2
open PySem Sem
set_option linter.unusedVariables false
theorem runs_toks {M : Model} {Γ : Ctx} {p : Pos} {t : Sem Fin} {fs : List Frame} {s : Shared} {e : End} {s' : Shared} (h : Runs M Γ p t fs s e s') : s.toks ≤ s'.toks := by
  induction h <;> first
    | exact Nat.le_refl _
    | assumption
    | (rename_i ih; exact Nat.le_of_succ_le ih)
    | (rename_i ih1 ih2; exact Nat.le_trans ih1 ih2)
    | (rename_i h1 h2 h3 ih1 ih2; exact Nat.le_trans ih1 ih2)
theorem wakes_toks {M : Model} {Γ : Ctx} {p : Pos} {g : Nat} {r : Resume} {s : Shared} {res : GenResult} {s' : Shared} (h : Wakes M Γ p g r s res s') : s.toks ≤ s'.toks := by
  unfold Wakes at h
  split at h
  · exact h.elim
  · split at h
    · obtain ⟨e1, s1, h1, _, _, rfl⟩ := h; have q := runs_toks h1; exact q
    · rw [h.2]; exact Nat.le_refl _
    · rw [h.2]; exact Nat.le_refl _
  · obtain ⟨e1, s1, h1, _, _, rfl⟩ := h; have q := runs_toks h1; exact q
  · rw [h.2]; exact Nat.le_refl _
  · rw [h.2]; exact Nat.le_refl _
theorem wp_toks {X : Type} {n : Nat} {post : X → Pos → Shared → Prop} {exc : Value → Pos → Shared → Prop} (M : Model) (Γ : Ctx) (tree : Sem X) (pos : Pos) (sh : Shared) (hn : n ≤ sh.toks)
    (known : wp M Γ tree (fun x p s => n ≤ s.toks → post x p s) (fun x p s => n ≤ s.toks → exc x p s) pos sh) : wp M Γ tree post exc pos sh := by
  revert known hn
  induction tree generalizing pos sh with
  | pure x => exact fun hn h => h hn
  | raise v => exact fun hn h => h hn
  | unsupported | finish | yield | fork | await | register => exact fun _ h => h
  | rule _ k ih | «at» _ k ih | alloc _ k ih | loadIfAlive _ k ih | point _ k ih | ask k ih | os _ _ k ih | handled _ k ih | newGen _ k ih | stack k ih | thread k ih => exact fun hn h => ih _ _ _ hn h
  | fresh k ih => exact fun hn h => ih _ _ _ (Nat.le_succ_of_le hn) h
  | load a _ k ih | genState a k ih => exact fun hn ⟨o, ho, h⟩ => ⟨o, ho, ih _ _ _ hn h⟩
  | update a _ f k ih | choose _ _ k ih => exact fun hn ⟨ha, h⟩ => ⟨ha, ih _ _ _ hn h⟩
  | call c h g l k ih => exact fun hn ⟨r, s', hr, hk⟩ => ⟨r, s', hr, ih r pos s' (Nat.le_trans hn (runs_toks hr)) hk⟩
  | resume g r l k ih => exact fun hn ⟨res, s', hw, h⟩ => ⟨res, s', hw, ih _ _ _ (Nat.le_trans hn (wakes_toks hw)) h⟩
theorem wpAny_guard {α : Type} {M : Model} {A : Around} {t : Sem α} {Q : α → Shared → Prop} {E : Value → Shared → Prop} {s : Shared} {n : Nat} (hn : n ≤ s.toks)
    (h : wpAny M A t (fun v s' => n ≤ s'.toks → Q v s') (fun e s' => n ≤ s'.toks → E e s') s) : wpAny M A t Q E s := fun Γ p hΓ => wp_toks M Γ t p s hn (h Γ p hΓ)
theorem codeAny_guard {M : Model} {A : Around} {c : Code} {R : Result → Shared → Prop} {s : Shared} {n : Nat} (hn : n ≤ s.toks) (h : codeAny M A c (fun r s' => n ≤ s'.toks → R r s') s) : codeAny M A c R s := fun Γ p e hΓ =>
  let ⟨r, s', hr, hR⟩ := h Γ p e hΓ
  ⟨r, s', hr, hR (Nat.le_trans hn (runs_toks hr))⟩
end L2
namespace L2
open PySem PySem.Spec PyProof.Rows
noncomputable abbrev Key := Sum Int Str
noncomputable def keyIs : Key → Value → Bool
  | .inl k, v => Value.isInt k v
  | .inr x, v => Value.isStrOf x v
noncomputable def keyH (w : World) : Key → Int
  | .inl k => hashInt k
  | .inr x => hashStr w x
theorem keyIs_shape : ∀ {k : Key} {v : Value}, keyIs k v = true → (∃ i t, k = Sum.inl i ∧ v = Value.int i t) ∨ (∃ x t, k = Sum.inr x ∧ v = Value.str x t)
  | .inl i, v, h => by
    obtain ⟨t, e⟩ := Value.isInt_shape (k := i) (v := v) h
    exact .inl ⟨i, t, rfl, e⟩
  | .inr x, v, h => by
    obtain ⟨t, e⟩ := Value.isStrOf_shape (x := x) (v := v) h
    exact .inr ⟨x, t, rfl, e⟩
theorem keyIs_int (i : Int) (t : Tok) : keyIs (.inl i) (.int i t) = true := by simp [keyIs, Value.isInt]
theorem keyIs_str (x : Str) (t : Tok) : keyIs (.inr x) (.str x t) = true := by simp [keyIs, Value.isStrOf]
theorem key_ll (a b : Int) : decide ((Sum.inl a : Key) = Sum.inl b) = (a == b) := by
  by_cases e : a = b
  · subst e; simp
  · have h : ¬ (Sum.inl a : Key) = Sum.inl b := fun q => e (Sum.inl.inj q)
    rw [decide_eq_false h]
    exact (beq_eq_false_iff_ne.mpr e).symm
theorem key_rr (a b : Str) : decide ((Sum.inr a : Key) = Sum.inr b) = decide (a = b) := by
  by_cases e : a = b
  · subst e; simp
  · have h : ¬ (Sum.inr a : Key) = Sum.inr b := fun q => e (Sum.inr.inj q)
    rw [decide_eq_false h, decide_eq_false e]
theorem key_lr (a : Int) (b : Str) : decide ((Sum.inl a : Key) = Sum.inr b) = false := decide_eq_false (fun q => nomatch q)
theorem key_rl (a : Str) (b : Int) : decide ((Sum.inr a : Key) = Sum.inl b) = false := decide_eq_false (fun q => nomatch q)
noncomputable def mixKind (prog : Program) (w : World) : PySem.KeyKind prog w Key where
  is := keyIs
  hash := keyH w
  inj := fun v a b ha hb => by
    rcases keyIs_shape ha with ⟨i, t, rfl, rfl⟩ | ⟨x, t, rfl, rfl⟩
    · rcases keyIs_shape hb with ⟨j, u, rfl, e⟩ | ⟨y, u, rfl, e⟩
      · injection e with e1 _; rw [e1]
      · exact nomatch e
    · rcases keyIs_shape hb with ⟨j, u, rfl, e⟩ | ⟨y, u, rfl, e⟩
      · exact nomatch e
      · injection e with e1 _; rw [e1]
  byValue := fun k v h => by
    rcases keyIs_shape h with ⟨i, t, rfl, rfl⟩ | ⟨x, t, rfl, rfl⟩ <;> rfl
  pyHash := fun hv h => by
    rcases keyIs_shape hv with ⟨i, t, rfl, rfl⟩ | ⟨x, t, rfl, rfl⟩
    · exact wpAny_pyHash_int h
    · exact wpAny_pyHash_str h
  eqBool := fun hu hv h => by
    rcases keyIs_shape hu with ⟨i, t, rfl, rfl⟩ | ⟨x, t, rfl, rfl⟩
    · rcases keyIs_shape hv with ⟨j, u, rfl, rfl⟩ | ⟨y, u, rfl, rfl⟩
      · rw [key_ll] at h; exact wpAny_eqBool_int h
      · rw [key_lr] at h; exact SeqAt.EqAt.int_str i t y u _ _ _ _ h
    · rcases keyIs_shape hv with ⟨j, u, rfl, rfl⟩ | ⟨y, u, rfl, rfl⟩
      · rw [key_rl] at h; exact SeqAt.EqAt.str_int x t j u _ _ _ _ h
      · rw [key_rr] at h; exact wpAny_eqBool_str h
  «strs» := fun k x t v h => by
    rcases keyIs_shape h with ⟨i, u, rfl, e⟩ | ⟨y, u, rfl, e⟩
    · exact nomatch e
    · injection e with e1 _
      subst e1
      cases v <;> rfl
theorem mixKind_int (prog : Program) (w : World) (i : Int) (t : Tok) : (mixKind prog w).is (.inl i) (.int i t) = true := keyIs_int i t
theorem mixKind_str (prog : Program) (w : World) (x : Str) (t : Tok) : (mixKind prog w).is (.inr x) (.str x t) = true := keyIs_str x t
end L2
namespace L2
open PySem PySem.Spec PyProof.Rows
inductive V where
  | non | bl (b : Bool) | int (i : Int) | str (x : Str) | byt (b : Array UInt8) | flt (b : UInt64) | ref (a : Addr) | ty (n : String)
  deriving DecidableEq
noncomputable def RelV : V → Value → Prop
  | .non, u => u = Value.none
  | .bl b, u => u = Value.bool b
  | .int i, u => ∃ t, u = Value.int i t
  | .str x, u => ∃ t, u = Value.str x t
  | .byt b, u => ∃ t, u = Value.bytes b t
  | .flt b, u => ∃ t, u = Value.float b t
  | .ref a, u => u = Value.ref a
  | .ty n, u => u = Value.type n
noncomputable abbrev Vals : List V → List Value → Prop := Paired RelV
theorem Vals.length {xs : List V} {us : List Value} (r : Vals xs us) : xs.length = us.length := Paired.length r
theorem Vals.get : ∀ {xs : List V} {us : List Value} {i : Nat} {x : V}, Vals xs us → xs[i]? = some x → ∃ u, us[i]? = some u ∧ RelV x u
  | _, _, _, _, .nil, e => by simp at e
  | _, _, 0, _, .cons r _, e => by simp at e; subst e; exact ⟨_, rfl, r⟩
  | _, _, i + 1, x, .cons _ t, e => by
    obtain ⟨u, h1, h2⟩ := Vals.get (i := i) (x := x) t (by simpa using e)
    exact ⟨u, by simpa using h1, h2⟩
theorem Vals.append : ∀ {xs ys : List V} {us ws : List Value}, Vals xs us → Vals ys ws → Vals (xs ++ ys) (us ++ ws)
  | _, _, _, _, .nil, s => s
  | _, _, _, _, .cons r t, s => .cons r (Vals.append t s)
theorem Vals.take : ∀ {xs : List V} {us : List Value} (n : Nat), Vals xs us → Vals (xs.take n) (us.take n)
  | _, _, 0, _ => .nil
  | _, _, _ + 1, .nil => .nil
  | _, _, n + 1, .cons r t => .cons r (Vals.take n t)
theorem Vals.drop : ∀ {xs : List V} {us : List Value} (n : Nat), Vals xs us → Vals (xs.drop n) (us.drop n)
  | _, _, 0, r => r
  | _, _, _ + 1, .nil => .nil
  | _, _, n + 1, .cons _ t => Vals.drop n t
noncomputable def RelO : Option V → Option Value → Prop
  | some v, some u => RelV v u
  | none, none => True
  | _, _ => False
noncomputable def KV {κ : Type} : List (κ × V) → List (κ × Value) → Prop := Paired fun (p : κ × V) (q : κ × Value) => p.1 = q.1 ∧ RelV p.2 q.2
noncomputable def kV : Key → V
  | .inl i => .int i
  | .inr x => .str x
inductive HO where
  /-- a list -/
  | lst (xs : List V)
  /-- a tuple (never changes) -/
  | tup (xs : List V)
  /-- a dict whose keys are ints and texts; one whose keys are tuples of ints and texts (the empty one is both) -/
  | dK (kvs : List (Key × V)) | dT (kvs : List (List Key × V))
  /-- one whose keys are tuples, with the places of the keys -/
  | dA (kvs : List (List Key × Addr × V))
  /-- a set of ints: its members, its size -/
  | set (S : Int → Bool) (n : Nat)
  /-- an instance of the class at C, its dict at dx, its attributes -/
  | ins (C dx : Addr) (fs : List (Str × V))
  /-- the dict of the instance at x -/
  | own (x : Addr)
  /-- the dict of an exception -/
  | xd (fs : List (Str × V))
  /-- a bound method, f of x -/
  | met (f x : Addr)
  /-- a range object lo, lo + 1, .. below hi -/
  | rng (lo hi : Int)
  /-- a thing that is known to the object (the script; a dict while a loop walks it): read, never written while it is so -/
  | frz (o : Obj) (u : HO)
  /-- a code object's table -/
  | tbl (ps : Array Value)
  /-- any other thing, by what is true of its one object (a def of one's own: SetO a S n := HO.ext fun h => ..) -/
  | ext (φ : Heap → Prop)
noncomputable abbrev Hp := Addr → Option HO
noncomputable def upd (H : Hp) (a : Addr) (o : HO) : Hp := fun b => if b = a then some o else H b
theorem upd_same {H : Hp} {a : Addr} {o : HO} : upd H a o a = some o := by unfold upd; rw [if_pos rfl]
theorem upd_ne {H : Hp} {a b : Addr} {o : HO} (h : b ≠ a) : upd H a o b = H b := by unfold upd; rw [if_neg h]
theorem ne_of {H : Hp} {a b : Addr} {o u : HO} (h : H a = some o) (h' : H b = some u) (d : o ≠ u) : a ≠ b := by
  intro e; subst e; rw [h] at h'; exact d (Option.some.inj h')
theorem ne_of_none {H : Hp} {a b : Addr} {o : HO} (h : H a = some o) (h' : H b = none) : a ≠ b := by
  intro e; subst e; rw [h] at h'; cases h'
section
variable (P : Program) (w : World)
noncomputable def ObjOk (H : Hp) (h : Heap) (a : Addr) : HO → Prop
  | .lst xs => xs.length ≤ sizeLine ∧ ∃ (its : List Value) (n : Nat), Vals xs its ∧ h.get? a = some { cls := .type "list", data := .seq its.toArray n }
  | .tup xs => xs.length ≤ sizeLine ∧ ∃ its : List Value, Vals xs its ∧ IsTup h a its.toArray
  | .dK kvs => kvs.length ≤ sizeLine ∧ (a == sysModules) = false ∧ ∃ vs, KV kvs vs ∧ h.DictOf (mixKind P w) a vs
  | .dT kvs => kvs.length ≤ sizeLine ∧ (a == sysModules) = false ∧ ∃ xs : List (List Key × Addr × Value),
      Paired (fun (p : List Key × V) (q : List Key × Addr × Value) => p.1 = q.1 ∧ H q.2.1 = some (.tup (p.1.map kV)) ∧ RelV p.2 q.2.2) kvs xs ∧
      ∃ o es ep, h.get? a = some o ∧ o.ExactDict ∧ o.data = .dict es ep ∧ es.toList = xs.map (entryOfKey (tupleKind (mixKind P w))) ∧ (xs.map (·.1)).Nodup
  | .dA kvs => kvs.length ≤ sizeLine ∧ (a == sysModules) = false ∧ ∃ xs : List (List Key × Addr × Value),
      Paired (fun (p : List Key × Addr × V) (q : List Key × Addr × Value) => p.1 = q.1 ∧ p.2.1 = q.2.1 ∧ H p.2.1 = some (.tup (p.1.map kV)) ∧ RelV p.2.2 q.2.2) kvs xs ∧
      ∃ o es ep, h.get? a = some o ∧ o.ExactDict ∧ o.data = .dict es ep ∧ es.toList = xs.map (entryOfKey (tupleKind (mixKind P w))) ∧ (xs.map (·.1)).Nodup
  | .set S n => h.SetOf (intKind P w) a S n
  | .ins C dx fs => H dx = some (.own a) ∧ fs.length ≤ 1000 ∧ dx ≠ a ∧ h.get? a = some (PySem.W.instObj C dx) ∧
      ∃ mA, h.Ns1 dx mA ∧ (∀ f, RelO (fs.lookup f) (mA f)) ∧ PySem.Within mA (fs.map (·.1))
  | .own _ => ∃ o, h.get? a = some o
  | .xd fs => ∃ mA, h.Ns1 a mA ∧ ∀ f, RelO (fs.lookup f) (mA f)
  | .rng lo hi => ∃ t u v, h.get? a = some { cls := .type "range", data := .fields #[.int lo t, .int hi u, .int 1 v] }
  | .frz o u => h.get? a = some o ∧ ObjOk H h a u
  | .tbl ps => h.get? a = some { cls := .none, data := .fields ps }
  | .met f x => h.get? a = some (PySem.W.methodObj (.ref f) (.ref x))
  | .ext φ => φ h ∧ (∃ o, h.get? a = some o) ∧ ∀ h1 h2 : Heap, φ h1 → (∀ o, h1.get? a = some o → h2.get? a = some o) → φ h2
noncomputable def HOk (H : Hp) (h : Heap) : Prop := ∀ a o, H a = some o → ObjOk P w H h a o
end
section
variable {P : Program} {w : World} {H H' : Hp} {h h' : Heap} {a : Addr} {o : HO}
theorem ObjOk.lt (x : ObjOk P w H h a o) : a < h.objs.size := by
  cases o with
  | lst xs => obtain ⟨_, _, _, _, e⟩ := x; exact Heap.lt_size e
  | tup xs => obtain ⟨_, _, _, p⟩ := x; exact p.lt
  | dK kvs => obtain ⟨_, _, _, _, o, _, _, e, _⟩ := x; exact Heap.lt_size e
  | dT kvs => obtain ⟨_, _, _, _, o, _, _, e, _⟩ := x; exact Heap.lt_size e
  | dA kvs => obtain ⟨_, _, _, _, o, _, _, e, _⟩ := x; exact Heap.lt_size e
  | set S n => obtain ⟨o, _, _, _, e, _⟩ := x; exact Heap.lt_size e
  | ins C dx fs => obtain ⟨_, _, _, e, _⟩ := x; exact Heap.lt_size e
  | own y => obtain ⟨_, e⟩ := x; exact Heap.lt_size e
  | xd fs => obtain ⟨_, ⟨_, _, _, e, _⟩, _⟩ := x; exact Heap.lt_size e
  | rng lo hi => obtain ⟨_, _, _, e⟩ := x; exact Heap.lt_size e
  | frz ob u => obtain ⟨e, _⟩ := x; exact Heap.lt_size e
  | tbl ps => exact Heap.lt_size (show h.get? a = some _ from x)
  | met f y => exact Heap.lt_size (show h.get? a = some _ from x)
  | ext φ => obtain ⟨_, ⟨_, e⟩, _⟩ := x; exact Heap.lt_size e
theorem Paired.mapP {α β : Type} {F G : α → β → Prop} : ∀ {l₁ : List α} {l₂ : List β}, Paired F l₁ l₂ → (∀ a b, F a b → G a b) → Paired G l₁ l₂
  | _, _, .nil, _ => .nil
  | _, _, .cons r t, f => .cons (f _ _ r) (Paired.mapP t f)
theorem ObjOk.stay (x : ObjOk P w H h a o) (k : ∀ b u, (b = a ∨ H b = some (.own a)) → h.get? b = some u → h'.get? b = some u)
    (ho : ∀ b, H b = some (.own a) → H' b = some (.own a)) (ht : ∀ b xs, H b = some (.tup xs) → H' b = some (.tup xs)) : ObjOk P w H' h' a o := by
  induction o with
  | lst xs => obtain ⟨z, its, n, r, e⟩ := x; exact ⟨z, its, n, r, k _ _ (.inl rfl) e⟩
  | tup xs => obtain ⟨z, its, r, ob, e, c⟩ := x; exact ⟨z, its, r, ob, k _ _ (.inl rfl) e, c⟩
  | dK kvs => obtain ⟨z, y, vs, r, ob, es, ep, e, c⟩ := x; exact ⟨z, y, vs, r, ob, es, ep, k _ _ (.inl rfl) e, c⟩
  | dT kvs =>
    obtain ⟨z, y, xs, r, ob, es, ep, e, c⟩ := x
    exact ⟨z, y, xs, Paired.mapP r fun p q z => ⟨z.1, ht _ _ z.2.1, z.2.2⟩, ob, es, ep, k _ _ (.inl rfl) e, c⟩
  | dA kvs =>
    obtain ⟨z, y, xs, r, ob, es, ep, e, c⟩ := x
    exact ⟨z, y, xs, Paired.mapP r fun p q z => ⟨z.1, z.2.1, ht _ _ z.2.2.1, z.2.2.2⟩, ob, es, ep, k _ _ (.inl rfl) e, c⟩
  | set S n => obtain ⟨ob, es, ep, t, e, c⟩ := x; exact ⟨ob, es, ep, t, k _ _ (.inl rfl) e, c⟩
  | ins C dx fs =>
    obtain ⟨d, z, ne, e, mA, ⟨od, es, ep, e2, c⟩, r⟩ := x
    exact ⟨ho _ d, z, ne, k _ _ (.inl rfl) e, mA, ⟨od, es, ep, k _ _ (.inr d) e2, c⟩, r⟩
  | own y => obtain ⟨ob, e⟩ := x; exact ⟨ob, k _ _ (.inl rfl) e⟩
  | xd fs => obtain ⟨mA, ⟨od, es, ep, e, c⟩, r⟩ := x; exact ⟨mA, ⟨od, es, ep, k _ _ (.inl rfl) e, c⟩, r⟩
  | rng lo hi => obtain ⟨t, u, v, e⟩ := x; exact ⟨t, u, v, k _ _ (.inl rfl) e⟩
  | frz ob u ih => obtain ⟨e, q⟩ := x; exact ⟨k _ _ (.inl rfl) e, ih q⟩
  | tbl ps =>
    have e : h.get? a = some { cls := .none, data := .fields ps } := x
    show h'.get? a = some { cls := .none, data := .fields ps }
    exact k a _ (.inl rfl) e
  | met f y =>
    have e : h.get? a = some (PySem.W.methodObj (.ref f) (.ref y)) := x
    show h'.get? a = some (PySem.W.methodObj (.ref f) (.ref y))
    exact k a _ (.inl rfl) e
  | ext φ => obtain ⟨p, ⟨o, e⟩, st⟩ := x; exact ⟨st _ _ p fun o q => k _ _ (.inl rfl) q, ⟨o, k _ _ (.inl rfl) e⟩, st⟩
theorem HOk.lt (x : HOk P w H h) (e : H a = some o) : a < h.objs.size := (x a o e).lt
theorem HOk.fresh (x : HOk P w H h) (e : h.objs.size ≤ a) : H a = none := by
  cases q : H a with
  | none => rfl
  | some u => exact absurd (Nat.lt_of_lt_of_le (x.lt q) e) (Nat.lt_irrefl _)
theorem HOk.kept (x : HOk P w H h) (k : ∀ b u, h.get? b = some u → h'.get? b = some u) : HOk P w H h' := fun a o e =>
  (x a o e).stay (fun b u _ q => k b u q) (fun _ q => q) fun _ _ q => q
theorem HOk.laid (x : HOk P w H h) (k : ∀ b u, h.get? b = some u → h'.get? b = some u) (hp : h.objs.size ≤ a) (new : ObjOk P w (upd H a o) h' a o) : HOk P w (upd H a o) h' := fun b u e => by
  have hn := x.fresh hp
  by_cases hb : b = a
  · subst hb; rw [upd_same] at e; cases e; exact new
  · rw [upd_ne hb] at e
    exact (x b u e).stay (fun c v _ q => k c v q) (fun c q => by rw [upd_ne (ne_of_none q hn)]; exact q) fun c xs q => by rw [upd_ne (ne_of_none q hn)]; exact q
end
noncomputable def Rd (H : Hp) (a : Addr) (u : HO) : Prop := H a = some u ∨ ∃ o, H a = some (.frz o u)
theorem Rd.ok {P : Program} {w : World} {H : Hp} {h : Heap} {a : Addr} {u : HO} (r : Rd H a u) (x : HOk P w H h) : ObjOk P w H h a u := by
  rcases r with r | ⟨o, r⟩
  · exact x a u r
  · obtain ⟨_, q⟩ := x a _ r
    exact q
noncomputable def Mut : Option HO → Prop
  | some (.lst _) => True
  | some (.dK _) => True
  | some (.dT _) => True
  | some (.dA _) => True
  | some (.set _ _) => True
  | some (.ins _ _ _) => True
  | some (.ext _) => True
  | _ => False
section
variable {P : Program} {w : World} {H : Hp} {h h' : Heap} {x e : Addr} {o' : HO}
theorem HOk.write (ok : HOk P w H h) (mu : Mut (H x)) (he : e = x ∨ H e = some (.own x)) (k : ∀ b u, b ≠ e → h.get? b = some u → h'.get? b = some u) (heo : ∃ u, h'.get? e = some u)
    (new : ObjOk P w (upd H x o') h' x o') : HOk P w (upd H x o') h' := fun b u q => by
  have nown : ∀ c y, H c = some (.own y) → c ≠ x := fun c y r z => by subst z; rw [r] at mu; exact mu
  have ntup : ∀ c xs, H c = some (.tup xs) → c ≠ x := fun c xs r z => by subst z; rw [r] at mu; exact mu
  by_cases hb : b = x
  · subst hb; rw [upd_same] at q; cases q; exact new
  · rw [upd_ne hb] at q
    by_cases hbe : b = e
    · have q' : H b = some (.own x) := by
        rcases he with z | z
        · exact absurd (hbe.trans z) hb
        · rw [hbe]; exact z
      rw [q] at q'; cases q'
      obtain ⟨v, hv⟩ := heo
      exact ⟨v, by rw [hbe]; exact hv⟩
    · refine (ok b u q).stay (fun c v hc r => k c v ?_ r) (fun c r => by rw [upd_ne (nown c b r)]; exact r) fun c xs r => by rw [upd_ne (ntup c xs r)]; exact r
      rcases hc with rfl | hc
      · exact hbe
      · rintro rfl
        rcases he with z | z
        · exact nown c b hc z
        · rw [hc] at z; cases z; exact hb rfl
end
structure Un (fs ex : List Addr) (H H' : Hp) (h h' : Heap) : Prop where
  keep : ∀ b o, h.get? b = some o → H b = none → b ∉ fs → b ∉ ex → h'.get? b = some o
  slot : ∀ b o, h.get? b = some o → H b = none → b ∈ fs → b ∉ ex → ∃ sl, h'.get? b = some { o with slots := sl }
  free : ∀ b o, h.get? b = some o → H b = none → b ∉ ex → H' b = none
  there : ∀ b o, h.get? b = some o → b ∉ ex → ∃ o', h'.get? b = some o'
  tups : ∀ b xs, H b = some (.tup xs) → H' b = some (.tup xs)
  frzs : ∀ b o u, H b = some (.frz o u) → H' b = some (.frz o u)
  tbls : ∀ b ps, H b = some (.tbl ps) → ∃ more, H' b = some (.tbl (ps ++ more))
section
variable {fs fs' ex ex' : List Addr} {H H1 H2 : Hp} {h h1 h2 h' : Heap} {a x e : Addr} {o : HO}
theorem Un.any (u : Un fs ex H H1 h h1) {b : Addr} {ob : Obj} (q : h.get? b = some ob) (n : H b = none) (hx : b ∉ ex) : ∃ sl, h1.get? b = some { ob with slots := sl } := by
  by_cases hb : b ∈ fs
  · exact u.slot b ob q n hb hx
  · exact ⟨ob.slots, u.keep b ob q n hb hx⟩
theorem Un.trans (a : Un fs ex H H1 h h1) (b : Un fs ex H1 H2 h1 h2) : Un fs ex H H2 h h2 where
  keep := fun c ob q n hc hx => b.keep c ob (a.keep c ob q n hc hx) (a.free c ob q n hx) hc hx
  slot := fun c ob q n hc hx => by
    obtain ⟨sl, e1⟩ := a.slot c ob q n hc hx
    obtain ⟨sl', e2⟩ := b.slot c _ e1 (a.free c ob q n hx) hc hx
    exact ⟨sl', e2⟩
  free := fun c ob q n hx => by
    obtain ⟨o', e1⟩ := a.there c ob q hx
    exact b.free c o' e1 (a.free c ob q n hx) hx
  there := fun c ob q hx => by
    obtain ⟨o', e1⟩ := a.there c ob q hx
    exact b.there c o' e1 hx
  tups := fun c xs q => b.tups c xs (a.tups c xs q)
  frzs := fun c ob xs q => b.frzs c ob xs (a.frzs c ob xs q)
  tbls := fun c ps q => by
    obtain ⟨m1, e1⟩ := a.tbls c ps q
    obtain ⟨m2, e2⟩ := b.tbls c _ e1
    exact ⟨m1 ++ m2, by rw [e2, Array.append_assoc]⟩
theorem Un.kept (k : ∀ b u, h.get? b = some u → h'.get? b = some u) : Un fs ex H H h h' :=
  ⟨fun b ob q _ _ _ => k b ob q, fun b ob q _ _ _ => ⟨ob.slots, k b ob q⟩, fun _ _ _ n _ => n, fun b ob q _ => ⟨ob, k b ob q⟩, fun _ _ q => q, fun _ _ _ q => q, fun _ ps q => ⟨#[], by rw [q]; simp⟩⟩
theorem Un.refl : Un fs ex H H h h := Un.kept fun _ _ q => q
theorem Un.laid (k : ∀ b u, h.get? b = some u → h'.get? b = some u) (hp : h.objs.size ≤ a) (hn : H a = none) : Un fs ex H (upd H a o) h h' where
  keep := fun b u q _ _ _ => k b u q
  slot := fun b u q _ _ _ => ⟨u.slots, k b u q⟩
  free := fun b u q n _ => by rw [upd_ne (Nat.ne_of_lt (Nat.lt_of_lt_of_le (Heap.lt_size q) hp))]; exact n
  there := fun b u q _ => ⟨u, k b u q⟩
  tups := fun b xs q => by rw [upd_ne (ne_of_none q hn)]; exact q
  frzs := fun b u xs q => by rw [upd_ne (ne_of_none q hn)]; exact q
  tbls := fun b ps q => ⟨#[], by rw [upd_ne (ne_of_none q hn), q]; simp⟩
theorem Un.write (mu : Mut (H x)) (he : e = x ∨ H e = some (.own x)) (k : ∀ b u, b ≠ e → h.get? b = some u → h'.get? b = some u) (heo : ∃ u, h'.get? e = some u) : Un fs ex H (upd H x o) h h' := by
  have hx : ∀ b, H b = none → b ≠ x := fun b n z => by subst z; rw [n] at mu; exact mu
  have hb : ∀ b, H b = none → b ≠ e := fun b n z => by
    subst z
    rcases he with r | r
    · exact hx b n r
    · rw [n] at r; cases r
  have hm : ∀ b u, H b = some u → ¬ Mut (some u) → b ≠ x := fun b u q nm z => by subst z; rw [q] at mu; exact nm mu
  refine ⟨fun b u q n _ _ => k b u (hb b n) q, fun b u q n _ _ => ⟨u.slots, k b u (hb b n) q⟩, fun b u q n _ => by rw [upd_ne (hx b n)]; exact n, fun b u q _ => ?_,
    fun b xs q => by rw [upd_ne (hm b _ q fun z => z)]; exact q, fun b u xs q => by rw [upd_ne (hm b _ q fun z => z)]; exact q, fun b ps q => ⟨#[], by rw [upd_ne (hm b _ q fun z => z), q]; simp⟩⟩
  by_cases hbe : b = e
  · subst hbe; exact heo
  · exact ⟨u, k b u hbe q⟩
end
noncomputable def trk (h : Heap) (H : Hp) : List Addr := (List.range h.objs.size).filter fun a => (H a).isSome
noncomputable def hidT (h : Heap) (H : Hp) : Heap := PySem.W.hideAll h (trk h H)
theorem hidT_size (h : Heap) (H : Hp) : (hidT h H).objs.size = h.objs.size := PySem.W.hideAll_size _ _
theorem hidT_get {h : Heap} {H : Hp} {b : Addr} {o : Obj} (e : h.get? b = some o) (n : H b = none) : (hidT h H).get? b = some o :=
  PySem.W.hideAll_get _ e fun hm => by
    have q : (H b).isSome = true := (List.mem_filter.mp hm).2
    rw [n] at q; simp at q
theorem of_hidT {h : Heap} {H : Hp} {b : Addr} {o : Obj} (e : (hidT h H).get? b = some o) : h.get? b = some o ∧ H b = none := by
  have e' : h.get? b = some o := PySem.W.of_hideAll (trk h H) e
  refine ⟨e', ?_⟩
  cases q : H b with
  | none => rfl
  | some x =>
    have hm : b ∈ trk h H := List.mem_filter.mpr ⟨List.mem_range.mpr (Heap.lt_size e'), by simp [q]⟩
    have z : (hidT h H).get? b = none := PySem.W.hideAll_none (trk h H) hm
    rw [z] at e; cases e
noncomputable def allNews (g h : Heap) (L : Addr) : List (Addr × Obj) := (List.range h.objs.size).filterMap fun a => if a = L ∨ (g.get? a).isSome = true then none else (h.get? a).map fun o => (a, o)
noncomputable def rest (g h : Heap) (L d : Addr) : List (Addr × Obj) := (allNews g h L).filter fun p => decide (p.1 ≠ d)
end L2
namespace L2
open PySem PySem.Spec PyProof.Rows
structure Mod (K : PySem.W.Frag) (mg : Str → Option Value) (base : Heap) : Prop where
  kin : K.In base
  glob : base.Ns mainGlobals mg
  blt : ∃ mb, base.Ns builtinsNs mb ∧ ∀ x : Str, x ≠ "__name__" → mb x = bootBuiltins x
  nolimit : base.NoLimit
structure Cx where
  prog : Program
  w : World
  K : PySem.W.Frag
  mg : Str → Option Value
  base : Heap
  A : Around
  N : List Str
  s₀ : Shared
  H₀ : Hp
  env : Env
  outer : List Env
  stack : List Env
  ex : List Addr
  fn : Str → Bool
  calm : Bool
  tn : Nat := 0
  pn : List (Addr × Obj)
  xe : Value → Shared → Prop
noncomputable def frs (l : List Env) : List Addr := l.filterMap (·.frame)
noncomputable abbrev Cx.fs (X : Cx) : List Addr := frs X.outer
noncomputable def Vis (sc : Scope) (x : Str) : Prop := sc.names.lookup x = some .local ∨ sc.names.lookup x = some .cell ∨ sc.names.lookup x = some .free
noncomputable def Loc (sc : Scope) (x : Str) : Prop := sc.names.lookup x = some .local ∨ sc.names.lookup x = some .cell
noncomputable def Look (env : Env) (h : Heap) (m : Str → Option Value) (x : Str) (u : Value) : Prop :=
  (env.kindOf x = some .local ∧ m x = some u) ∨ ((env.kindOf x = some .cell ∨ env.kindOf x = some .free) ∧ ∃ c, env.cells.lookup x = some c ∧ h.IsCell c (some u))
structure Cx.Ok (X : Cx) : Prop where
  mod : Mod X.K X.mg X.base
  kind : X.env.scope.kind = .function
  glob : X.env.globals = mainGlobals
  blt : X.env.builtins = builtinsNs
  above : X.s₀.heap.objs.size ≤ X.env.locals
  inj : ∀ x y c, X.env.cells.lookup x = some c → X.env.cells.lookup y = some c → x = y
  has : ∀ x, (X.env.kindOf x = some .cell ∨ X.env.kindOf x = some .free) → ∃ c, X.env.cells.lookup x = some c
  cab : ∀ x c, X.fn x = true → X.env.cells.lookup x = some c → X.s₀.heap.objs.size ≤ c
  hd : X.calm = true → X.A.handled = none
  frames : X.A.frames = some X.stack
  stk : X.stack = X.outer ∨ (X.stack = X.env :: X.outer ∧ X.env.frame = some X.env.locals)
  exf : ∀ b ∈ X.ex, b ≠ X.env.locals ∧ ∀ x c, X.env.cells.lookup x = some c → c ≠ b
  bs : ∀ b o, X.base.get? b = some o → X.s₀.heap.get? b = some o ∧ X.H₀ b = none
  bsz : X.base.objs.size ≤ X.s₀.heap.objs.size
  noex : ∀ b o, X.base.get? b = some o → b ∉ X.ex
  exfs : ∀ b ∈ X.ex, b ∉ X.fs
  funs : X.s₀.heap.FunFrames X.base X.outer
  frf : ∀ b ∈ X.fs, X.H₀ b = none
structure Inv (X : Cx) (pins : List (Addr × Obj)) (σ : List (Option V)) (H : Hp) (s : Shared) : Prop where
  ok : X.Ok
  os : s.os = X.s₀.os
  bare : AllBare s.gens
  base : Un X.fs X.ex X.H₀ H X.s₀.heap s.heap
  loc : ∃ m, s.heap.Ns X.env.locals m ∧ ∀ (i : Nat) (x : Str) (v : V), X.N[i]? = some x → σ[i]? = some (some v) → Vis X.env.scope x → ∃ u, RelV v u ∧ Look X.env s.heap m x u
  cell : ∀ x c, X.env.cells.lookup x = some c → ∃ v, s.heap.IsCell c v
  free : H X.env.locals = none
  freeC : ∀ x c, X.env.cells.lookup x = some c → H c = none
  pin : ∀ p ∈ X.pn ++ pins, s.heap.get? p.1 = some p.2 ∧ H p.1 = none ∧ p.1 ≠ X.env.locals ∧ p.1 ∉ X.fs ∧ ∀ v, p.2.data ≠ .cell v
  hok : HOk X.prog X.w H s.heap
  len : σ.length = X.N.length
  tk : X.tn ≤ s.toks
end L2
local macro_rules | `(tactic| walk_at "tok") => `(tactic| first | assumption | exact L2.Inv.tk (by assumption) | exact Nat.le_succ_of_le (L2.Inv.tk (by assumption)) | exact Nat.le_succ_of_le (Nat.le_succ_of_le (L2.Inv.tk (by assumption))) | (have hI := L2.Inv.tk (by assumption); omega) | exact Nat.zero_le _)
namespace L2
open PySem PySem.Spec PyProof.Rows
section
variable {X : Cx} {pins : List (Addr × Obj)} {σ : List (Option V)} {H H' : Hp} {s : Shared} {h' : Heap}
theorem Cx.Ok.nofr (ok : X.Ok) {b : Addr} {o : Obj} (e : X.base.get? b = some o) : b ∉ X.fs := fun hb => by
  have := (ok.funs.mem hb).1
  rw [e] at this; cases this
theorem Inv.bs (I : Inv X pins σ H s) : ∀ b o, X.base.get? b = some o → s.heap.get? b = some o ∧ H b = none := fun b o e =>
  ⟨I.base.keep b o (I.ok.bs b o e).1 (I.ok.bs b o e).2 (I.ok.nofr e) (I.ok.noex b o e), I.base.free b o (I.ok.bs b o e).1 (I.ok.bs b o e).2 (I.ok.noex b o e)⟩
theorem Inv.bk (I : Inv X pins σ H s) : ∀ b o, X.base.get? b = some o → s.heap.get? b = some o := fun b o e => (I.bs b o e).1
theorem Inv.mod (I : Inv X pins σ H s) : Mod X.K X.mg X.base := I.ok.mod
theorem Inv.kIn (I : Inv X pins σ H s) : X.K.In s.heap := I.ok.mod.kin.keeps I.bk
theorem Inv.lt (I : Inv X pins σ H s) : X.env.locals < s.heap.objs.size := let ⟨_, hn, _⟩ := I.loc; hn.lt
theorem Inv.sz (I : Inv X pins σ H s) : X.s₀.heap.objs.size ≤ s.heap.objs.size := Nat.le_trans I.ok.above (Nat.le_of_lt I.lt)
theorem Inv.nofs (I : Inv X pins σ H s) {a : Addr} (h : s.heap.objs.size ≤ a) : a ∉ X.fs := fun hb => by
  obtain ⟨_, o, ho, _⟩ := I.ok.funs.mem hb
  exact absurd (Nat.lt_of_lt_of_le (Heap.lt_size ho) (Nat.le_trans I.sz h)) (Nat.lt_irrefl _)
theorem Inv.cne (I : Inv X pins σ H s) : ∀ x c, X.env.cells.lookup x = some c → c ≠ X.env.locals := fun x c e z => by
  obtain ⟨v, o, ho, hd⟩ := I.cell x c e
  obtain ⟨m, ⟨o', es, ep, ho', hd', _⟩, _⟩ := I.loc
  rw [z, ho'] at ho; cases ho; rw [hd'] at hd; cases hd
theorem Inv.funs (I : Inv X pins σ H s) : s.heap.FunFrames X.base X.outer := by
  have all : ∀ (l : List Env), (∀ b ∈ frs l, b ∈ X.fs) → X.s₀.heap.FunFrames X.base l → s.heap.FunFrames X.base l := by
    intro l
    induction l with
    | nil => intro _ _; trivial
    | cons env r ih =>
      intro hs hl
      obtain ⟨hk, ⟨L, o, hf, hn, ho, hd⟩, hr⟩ := hl
      have hL : L ∈ X.fs := hs L (by unfold frs; rw [List.filterMap_cons, hf]; exact List.mem_cons_self)
      obtain ⟨sl, e⟩ := I.base.slot L o ho (I.ok.frf L hL) hL fun z => I.ok.exfs L z hL
      exact ⟨hk, ⟨L, _, hf, hn, e, hd⟩, ih (fun b hb => hs b (by unfold frs; rw [List.filterMap_cons, hf]; exact List.mem_cons_of_mem _ hb)) hr⟩
  exact all X.outer (fun _ hb => hb) I.ok.funs
theorem Inv.stack (I : Inv X pins σ H s) : s.heap.FunFrames X.base X.stack := by
  rcases I.ok.stk with e | ⟨e, hf⟩
  · rw [e]; exact I.funs
  · rw [e]
    obtain ⟨m, hn, _⟩ := I.loc
    refine .cons (by rw [I.ok.kind]; decide) hf hn ?_ I.funs
    exact Heap.get?_none_of_le (Nat.le_trans I.ok.bsz I.ok.above)
theorem Inv.stkSub (I : Inv X pins σ H s) : ∀ b ∈ frs X.stack, b ∈ X.env.locals :: X.fs := fun b hb => by
  rcases I.ok.stk with e | ⟨e, hf⟩
  · rw [e] at hb; exact List.mem_cons_of_mem _ hb
  · rw [e] at hb
    unfold frs at hb
    rw [List.filterMap_cons, hf] at hb
    exact hb
theorem Inv.stkFree (I : Inv X pins σ H s) : ∀ b ∈ frs X.stack, H b = none := fun b hb => by
  rcases List.mem_cons.mp (I.stkSub b hb) with e | hb
  · rw [e]; exact I.free
  · obtain ⟨_, o, ho, _⟩ := I.ok.funs.mem hb
    exact I.base.free b o ho (I.ok.frf b hb) fun z => I.ok.exfs b z hb
theorem Inv.step {g' : Array GenState} {t' : Nat} {d' : Drawn} {ch : List Addr} (I : Inv X pins σ H s)
    (hch : ∀ b ∈ ch, (b ∈ X.ex ∨ X.s₀.heap.objs.size ≤ b) ∧ b ≠ X.env.locals ∧ (∀ x c, X.env.cells.lookup x = some c → c ≠ b) ∧ ∀ p ∈ X.pn ++ pins, p.1 ≠ b)
    (keep : ∀ b o, b ≠ X.env.locals → b ∉ X.fs → b ∉ ch → s.heap.get? b = some o → H b = none → h'.get? b = some o)
    (slot : ∀ b o, b ≠ X.env.locals → b ∈ X.fs → b ∉ ch → s.heap.get? b = some o → H b = none → ∃ sl, h'.get? b = some { o with slots := sl }) (free : ∀ b o, b ∉ ch → s.heap.get? b = some o → H b = none → H' b = none)
    (there : ∀ b o, b ∉ ch → s.heap.get? b = some o → ∃ o', h'.get? b = some o')
    (tups : ∀ b xs, H b = some (.tup xs) → H' b = some (.tup xs)) (frzs : ∀ b o u, H b = some (.frz o u) → H' b = some (.frz o u)) (tbls : ∀ b ps, H b = some (.tbl ps) → ∃ more, H' b = some (.tbl (ps ++ more)))
    (ns : ∀ m, s.heap.Ns X.env.locals m → h'.Ns X.env.locals m) (hok : HOk X.prog X.w H' h') (hg : AllBare g') (ht : X.tn ≤ t' := by walk_at "tok") :
    Inv X pins σ H' { s with heap := h', gens := g', drawn := d', toks := t' } := by
  have neL : ∀ b o, X.s₀.heap.get? b = some o → b ≠ X.env.locals := fun b o e => Nat.ne_of_lt (Nat.lt_of_lt_of_le (Heap.lt_size e) I.ok.above)
  have neC : ∀ b o, X.s₀.heap.get? b = some o → b ∉ X.ex → b ∉ ch := fun b o e hx hb => by
    rcases (hch b hb).1 with z | z
    · exact hx z
    · exact absurd (Nat.lt_of_lt_of_le (Heap.lt_size e) z) (Nat.lt_irrefl _)
  have cellK : ∀ x c, X.env.cells.lookup x = some c → ∀ v, s.heap.IsCell c v → h'.IsCell c v := fun x c e v ⟨o, ho, hd⟩ => by
    have nch : c ∉ ch := fun z => (hch c z).2.2.1 x c e rfl
    by_cases hc : c ∈ X.fs
    · obtain ⟨sl, q⟩ := slot c o (I.cne x c e) hc nch ho (I.freeC x c e)
      exact ⟨_, q, hd⟩
    · exact ⟨o, keep c o (I.cne x c e) hc nch ho (I.freeC x c e), hd⟩
  refine ⟨I.ok, I.os, hg, ⟨fun b o e n hb hx => ?_, fun b o e n hb hx => ?_, fun b o e n hx => ?_, fun b o e hx => ?_, fun b xs e => tups b xs (I.base.tups b xs e), fun b o xs e => frzs b o xs (I.base.frzs b o xs e), fun b ps e => ?_⟩, ?_, fun x c e => ?_, ?_, fun x c e => ?_, fun p hp => ?_, hok, I.len, ht⟩
  · exact keep b o (neL b o e) hb (neC b o e hx) (I.base.keep b o e n hb hx) (I.base.free b o e n hx)
  · obtain ⟨sl, e1⟩ := I.base.slot b o e n hb hx
    obtain ⟨sl', e2⟩ := slot b _ (neL b o e) hb (neC b o e hx) e1 (I.base.free b o e n hx)
    exact ⟨sl', e2⟩
  · obtain ⟨o', e1⟩ := I.base.there b o e hx
    exact free b o' (neC b o e hx) e1 (I.base.free b o e n hx)
  · obtain ⟨o', e1⟩ := I.base.there b o e hx
    exact there b o' (neC b o e hx) e1
  · obtain ⟨m1, e1⟩ := I.base.tbls b ps e
    obtain ⟨m2, e2⟩ := tbls b _ e1
    exact ⟨m1 ++ m2, by rw [e2, Array.append_assoc]⟩
  · obtain ⟨m, hn, hl⟩ := I.loc
    refine ⟨m, ns m hn, fun i x v e1 e2 e3 => ?_⟩
    obtain ⟨u, r, l⟩ := hl i x v e1 e2 e3
    refine ⟨u, r, ?_⟩
    rcases l with l | ⟨k, c, e, z⟩
    · exact .inl l
    · exact .inr ⟨k, c, e, cellK x c e _ z⟩
  · obtain ⟨v, z⟩ := I.cell x c e
    exact ⟨v, cellK x c e v z⟩
  · obtain ⟨m, ⟨o, _, _, ho, _⟩, _⟩ := I.loc
    exact free _ o (fun z => (hch _ z).2.1 rfl) ho I.free
  · obtain ⟨v, o, ho, hd⟩ := I.cell x c e
    exact free c o (fun z => (hch c z).2.2.1 x c e rfl) ho (I.freeC x c e)
  · obtain ⟨e, n, ne, nf, d⟩ := I.pin p hp
    have nch : p.1 ∉ ch := fun z => (hch p.1 z).2.2.2 p hp rfl
    exact ⟨keep p.1 p.2 ne nf nch e n, free p.1 p.2 nch e n, ne, nf, d⟩
theorem Inv.un {t' : Nat} (I : Inv X pins σ H s) (u : Un X.fs [] H H' s.heap h') (hok : HOk X.prog X.w H' h') (ht : X.tn ≤ t' := by walk_at "tok") : Inv X pins σ H' { s with heap := h', toks := t' } := by
  obtain ⟨m, ⟨o, es, ep, ho, r⟩, _⟩ := id I.loc
  obtain ⟨sl, hL⟩ := u.any ho I.free (by simp)
  exact I.step (g' := s.gens) (d' := s.drawn) (ch := []) (fun _ z => nomatch z) (fun b o _ hb _ e n => u.keep b o e n hb (by simp)) (fun b o _ hb _ e n => u.slot b o e n hb (by simp)) (fun b o _ e n => u.free b o e n (by simp)) (fun b o _ e => u.there b o e (by simp)) u.tups u.frzs u.tbls (fun m' hm => by
    obtain ⟨o', es', ep', ho', r'⟩ := hm
    rw [ho] at ho'; cases ho'
    exact ⟨_, es', ep', hL, r'⟩) hok I.bare
theorem Inv.call {g' : Array GenState} {t' : Nat} {d' : Drawn} {ch : List Addr} (I : Inv X pins σ H s) (u : Un (frs X.stack) ch H H' s.heap h') (hok : HOk X.prog X.w H' h') (hg : AllBare g')
    (hch : ∀ b ∈ ch, (b ∈ X.ex ∨ X.s₀.heap.objs.size ≤ b) ∧ b ≠ X.env.locals ∧ (∀ x c, X.env.cells.lookup x = some c → c ≠ b) ∧ ∀ p ∈ X.pn ++ pins, p.1 ≠ b) (ht : X.tn ≤ t' := by walk_at "tok") :
    Inv X pins σ H' { s with heap := h', gens := g', drawn := d', toks := t' } := by
  obtain ⟨m, ⟨o, es, ep, ho, r⟩, _⟩ := id I.loc
  obtain ⟨sl, hL⟩ := u.any ho I.free fun z => (hch _ z).2.1 rfl
  exact I.step (ch := ch) hch (fun b o hL hb hc e n => u.keep b o e n (fun z => (List.mem_cons.mp (I.stkSub b z)).elim hL hb) hc) (fun b o _ _ hc e n => u.any e n hc) (fun b o hc e n => u.free b o e n hc) (fun b o hc e => u.there b o e hc) u.tups u.frzs u.tbls (fun m' hm => by
    obtain ⟨o', es', ep', ho', r'⟩ := hm
    rw [ho] at ho'; cases ho'
    exact ⟨_, es', ep', hL, r'⟩) hok hg
theorem Inv.turned {t' : Nat} {it : Addr} (I : Inv X pins σ H s) (k : ∀ b o, b ≠ it → s.heap.get? b = some o → h'.get? b = some o) (hn : H it = none) (hL : it ≠ X.env.locals)
    (h1 : it ∈ X.ex ∨ X.s₀.heap.objs.size ≤ it) (h2 : ∀ x c, X.env.cells.lookup x = some c → c ≠ it) (h3 : ∀ p ∈ X.pn ++ pins, p.1 ≠ it) (ht : X.tn ≤ t' := by walk_at "tok") : Inv X pins σ H { s with heap := h', toks := t' } := by
  have nit : ∀ b u, H b = some u → b ≠ it := fun b u e z => by rw [z, hn] at e; cases e
  refine I.step (g' := s.gens) (d' := s.drawn) (ch := [it]) (fun b hb => ?_) (fun b o _ _ hc e _ => k b o (fun z => hc (by simp [z])) e) (fun b o _ _ hc e _ => ⟨o.slots, k b o (fun z => hc (by simp [z])) e⟩) (fun _ _ _ _ n => n)
    (fun b o hc e => ⟨o, k b o (fun z => hc (by simp [z])) e⟩) (fun _ _ e => e) (fun _ _ _ e => e) (fun b ps e => ⟨#[], by rw [e]; simp⟩) (fun m hm => ?_) (fun b u e => ?_) I.bare
  · have e : b = it := by simpa using hb
    subst e
    exact ⟨h1, hL, h2, h3⟩
  · obtain ⟨o, es, ep, ho, r⟩ := hm
    exact ⟨o, es, ep, k _ o (Ne.symm hL) ho, r⟩
  · refine (I.hok b u e).stay (fun c v hc q => k c v ?_ q) (fun _ q => q) fun _ _ q => q
    rcases hc with z | z
    · rw [z]; exact nit b u e
    · exact nit c _ z
theorem Inv.tok (I : Inv X pins σ H s) (t : Nat) (ht : X.tn ≤ t := by walk_at "tok") : Inv X pins σ H { s with toks := t } := I.un (h' := s.heap) (t' := t) Un.refl I.hok
theorem Inv.kept {t' : Nat} (I : Inv X pins σ H s) (k : ∀ b u, s.heap.get? b = some u → h'.get? b = some u) (ht : X.tn ≤ t' := by walk_at "tok") : Inv X pins σ H { s with heap := h', toks := t' } := I.un (Un.kept k) (I.hok.kept k)
theorem Inv.laid {a : Addr} {o : HO} {t' : Nat} (I : Inv X pins σ H s) (k : ∀ b u, s.heap.get? b = some u → h'.get? b = some u) (hp : s.heap.objs.size ≤ a) (new : ObjOk X.prog X.w (upd H a o) h' a o) (ht : X.tn ≤ t' := by walk_at "tok") :
    Inv X pins σ (upd H a o) { s with heap := h', toks := t' } := I.un (Un.laid k hp (I.hok.fresh hp)) (I.hok.laid k hp new)
theorem Inv.write {x e : Addr} {o : HO} {t' : Nat} (I : Inv X pins σ H s) (mu : Mut (H x)) (he : e = x ∨ H e = some (.own x)) (k : ∀ b u, b ≠ e → s.heap.get? b = some u → h'.get? b = some u) (heo : ∃ u, h'.get? e = some u)
    (new : ObjOk X.prog X.w (upd H x o) h' x o) (ht : X.tn ≤ t' := by walk_at "tok") : Inv X pins σ (upd H x o) { s with heap := h', toks := t' } := I.un (Un.write mu he k heo) (I.hok.write mu he k heo new)
theorem Inv.pins_of {pins' : List (Addr × Obj)} (I : Inv X pins σ H s) (h : ∀ p ∈ pins', s.heap.get? p.1 = some p.2 ∧ H p.1 = none ∧ p.1 ≠ X.env.locals ∧ p.1 ∉ X.fs ∧ ∀ v, p.2.data ≠ .cell v) : Inv X pins' σ H s :=
  ⟨I.ok, I.os, I.bare, I.base, I.loc, I.cell, I.free, I.freeC, fun p hp => (List.mem_append.mp hp).elim (fun z => I.pin p (List.mem_append_left _ z)) (h p), I.hok, I.len, I.tk⟩
theorem nodup_ix {N : List Str} (hN : N.Nodup) {i j : Nat} {x : Str} (a : N[i]? = some x) (b : N[j]? = some x) : i = j := by
  obtain ⟨h1, e1⟩ := List.getElem?_eq_some_iff.mp a
  obtain ⟨h2, e2⟩ := List.getElem?_eq_some_iff.mp b
  exact (List.getElem_inj hN).mp (e1.trans e2.symm)
theorem store_ok2 {M : Model} {A : Around} {E : Value → Shared → Prop} {i : Nat} {x : Str} {v : V} {u : Value} {Q : Unit → Shared → Prop} (I : Inv X pins σ H s) (hN : X.N.Nodup) (hi : X.N[i]? = some x) (hx : Loc X.env.scope x) (r : RelV v u)
    (h : ∀ s', Inv X pins (σ.set i (some v)) H s' → (∃ a, Heap.SameBut a s.heap s'.heap ∧ (a = X.env.locals ∨ X.env.cells.lookup x = some a)) → Q () s') (hf : X.fn x = true ∨ X.env.scope.names.lookup x = some .local := by first | exact .inl rfl | exact .inr rfl | assumption) : wpAny M A (storeName X.env x u) Q E s := by
  obtain ⟨m, hn, hl⟩ := id I.loc
  have hcls : (X.env.scope.kind == .class || (X.env.scope.kind == .module && X.env.locals != X.env.globals)) = false := by rw [I.ok.kind]; rfl
  have hiσ : i < σ.length := by rw [I.len]; exact (List.getElem?_eq_some_iff.mp hi).1
  have cne := I.cne
  have tracked : ∀ {a : Addr} {h' : Heap}, (∃ o, s.heap.get? a = some o ∧ H a = none) → Heap.SameBut a s.heap h' → HOk X.prog X.w H h' := fun {a h'} ha hs b ob e => by
    obtain ⟨_, _, hfree⟩ := ha
    refine (I.hok b ob e).stay (fun c w' hc q => (hs.2 c ?_).trans q) (fun _ q => q) fun _ _ q => q
    rintro rfl
    rcases hc with rfl | hc
    · rw [hfree] at e; cases e
    · rw [hfree] at hc; cases hc
  rcases hx with hk | hk
  · refine wpAny_storeName_local hk hn (fun h' hn' hs => ?_) hcls
    obtain ⟨oL, _, _, hoL, _⟩ := id hn
    refine h _ ⟨I.ok, I.os, I.bare, ⟨fun b o e n hb hx => ?_, fun b o e n hb hx => ?_, I.base.free, fun b o e hx => ?_, I.base.tups, I.base.frzs, I.base.tbls⟩, ⟨_, hn', fun j y v' e1 e2 e3 => ?_⟩, fun y c e => ?_, I.free, I.freeC, fun p hp => ?_, tracked ⟨oL, hoL, I.free⟩ hs, by simpa using I.len, by walk_at "tok"⟩ ⟨_, hs, .inl rfl⟩
    · exact (hs.2 b (Nat.ne_of_lt (Nat.lt_of_lt_of_le (Heap.lt_size e) I.ok.above))).trans (I.base.keep b o e n hb hx)
    · obtain ⟨sl, e1⟩ := I.base.slot b o e n hb hx
      exact ⟨sl, (hs.2 b (Nat.ne_of_lt (Nat.lt_of_lt_of_le (Heap.lt_size e) I.ok.above))).trans e1⟩
    · obtain ⟨o', e1⟩ := I.base.there b o e hx
      exact ⟨o', (hs.2 b (Nat.ne_of_lt (Nat.lt_of_lt_of_le (Heap.lt_size e) I.ok.above))).trans e1⟩
    · by_cases hj : j = i
      · subst hj
        rw [hi] at e1; cases e1
        rw [List.getElem?_set_self hiσ] at e2
        cases e2
        exact ⟨u, r, .inl ⟨hk, by simp⟩⟩
      · rw [List.getElem?_set_ne (Ne.symm hj)] at e2
        obtain ⟨u', r', q⟩ := hl j y v' e1 e2 e3
        refine ⟨u', r', ?_⟩
        rcases q with ⟨k, e⟩ | ⟨k, c, e, z⟩
        · refine .inl ⟨k, ?_⟩
          have : y ≠ x := fun e => hj (nodup_ix hN e1 (e ▸ hi))
          simp [this, e]
        · exact .inr ⟨k, c, e, z.sameBut hs (cne y c e)⟩
    · obtain ⟨w', z⟩ := I.cell y c e
      exact ⟨w', z.sameBut hs (cne y c e)⟩
    · obtain ⟨e, n, ne, nf, d⟩ := I.pin p hp
      exact ⟨(hs.2 p.1 ne).trans e, n, ne, nf, d⟩
  · have hfn : X.fn x = true := by
      rcases hf with z | z
      · exact z
      · rw [z] at hk; cases hk
    obtain ⟨c, hc⟩ := I.ok.has x (.inl hk)
    obtain ⟨w', z⟩ := I.cell x c hc
    refine wpAny_storeName_cell I.ok.kind hk hc z (fun h' hc' hs => ?_)
    obtain ⟨oc, hoc, hocd⟩ := id z
    refine h { s with heap := h' } ⟨I.ok, I.os, I.bare, ⟨fun b o e n hb hx => ?_, fun b o e n hb hx => ?_, I.base.free, fun b o e hx => ?_, I.base.tups, I.base.frzs, I.base.tbls⟩, ⟨m, hn.sameBut hs (Ne.symm (cne x c hc)), fun j y v' e1 e2 e3 => ?_⟩, fun y c' e => ?_, I.free, I.freeC, fun p hp => ?_, tracked ⟨oc, hoc, I.freeC x c hc⟩ hs, by simpa using I.len, I.tk⟩ ⟨c, hs, .inr hc⟩
    · exact (hs.2 b (Nat.ne_of_lt (Nat.lt_of_lt_of_le (Heap.lt_size e) (I.ok.cab x c hfn hc)))).trans (I.base.keep b o e n hb hx)
    · obtain ⟨sl, e1⟩ := I.base.slot b o e n hb hx
      exact ⟨sl, (hs.2 b (Nat.ne_of_lt (Nat.lt_of_lt_of_le (Heap.lt_size e) (I.ok.cab x c hfn hc)))).trans e1⟩
    · obtain ⟨o', e1⟩ := I.base.there b o e hx
      exact ⟨o', (hs.2 b (Nat.ne_of_lt (Nat.lt_of_lt_of_le (Heap.lt_size e) (I.ok.cab x c hfn hc)))).trans e1⟩
    · by_cases hj : j = i
      · subst hj
        rw [hi] at e1; cases e1
        rw [List.getElem?_set_self hiσ] at e2
        cases e2
        exact ⟨u, r, .inr ⟨.inl hk, c, hc, hc'⟩⟩
      · rw [List.getElem?_set_ne (Ne.symm hj)] at e2
        obtain ⟨u', r', q⟩ := hl j y v' e1 e2 e3
        refine ⟨u', r', ?_⟩
        rcases q with q | ⟨k, c', e, z'⟩
        · exact .inl q
        · refine .inr ⟨k, c', e, z'.sameBut hs ?_⟩
          rintro rfl
          exact hj (nodup_ix hN e1 (I.ok.inj _ _ _ e hc ▸ hi))
    · by_cases hcc : c' = c
      · subst hcc; exact ⟨_, hc'⟩
      · obtain ⟨w2, z2⟩ := I.cell y c' e
        exact ⟨w2, z2.sameBut hs hcc⟩
    · obtain ⟨e, n, ne, nf, d⟩ := I.pin p hp
      refine ⟨(hs.2 p.1 ?_).trans e, n, ne, nf, d⟩
      intro q
      rw [q, hoc] at e
      have q' : oc = p.2 := Option.some.inj e
      exact d w' (by rw [← q']; exact hocd)
theorem store_ok {M : Model} {A : Around} {E : Value → Shared → Prop} {i : Nat} {x : Str} {v : V} {u : Value} {Q : Unit → Shared → Prop} (I : Inv X pins σ H s) (hN : X.N.Nodup) (hi : X.N[i]? = some x) (hx : Loc X.env.scope x) (r : RelV v u)
    (h : ∀ s', Inv X pins (σ.set i (some v)) H s' → Q () s') (hf : X.fn x = true ∨ X.env.scope.names.lookup x = some .local := by first | exact .inl rfl | exact .inr rfl | assumption) : wpAny M A (storeName X.env x u) Q E s :=
  store_ok2 I hN hi hx r (fun s' I' _ => h s' I') hf
theorem Inv.call' {s' : Shared} {ch : List Addr} (I : Inv X pins σ H s) (ho : s'.os = s.os) (u : Un (frs X.stack) ch H H' s.heap s'.heap) (hok : HOk X.prog X.w H' s'.heap) (hg : AllBare s'.gens)
    (hch : ∀ b ∈ ch, (b ∈ X.ex ∨ X.s₀.heap.objs.size ≤ b) ∧ b ≠ X.env.locals ∧ (∀ x c, X.env.cells.lookup x = some c → c ≠ b) ∧ ∀ p ∈ X.pn ++ pins, p.1 ≠ b) (ht : X.tn ≤ s'.toks := by walk_at "tok") : Inv X pins σ H' s' := by
  obtain ⟨h', g', d', t', o'⟩ := s'
  have e : o' = s.os := ho
  subst e
  exact I.call (g' := g') (t' := t') (d' := d') u hok hg hch
end
noncomputable abbrev XK := Value → Option Addr → Hp → Prop
noncomputable abbrev St := List (Option V)
noncomputable abbrev VK := V → Hp → Prop
noncomputable abbrev TE := St → Hp → VK → Prop
noncomputable abbrev TT := St → Hp → (Bool → Hp → Prop) → Prop
noncomputable abbrev TA := St → Hp → (List V → Hp → Prop) → Prop
structure Ends where
  nx : St → Hp → Prop
  rt : VK
  bk : St → Hp → Prop := fun _ _ => False
  ct : St → Hp → Prop := fun _ _ => False
noncomputable abbrev TS := Ends → St → Hp → Prop
noncomputable def EP (X : Cx) (pins : List (Addr × Obj)) (σ : St) (Q : VK) (u : Value) (s' : Shared) : Prop := ∃ v H', Inv X pins σ H' s' ∧ RelV v u ∧ Q v H'
noncomputable def TP (X : Cx) (pins : List (Addr × Obj)) (σ : St) (Q : Bool → Hp → Prop) (b : Bool) (s' : Shared) : Prop := ∃ H', Inv X pins σ H' s' ∧ Q b H'
noncomputable def AP (X : Cx) (pins : List (Addr × Obj)) (σ : St) (Q : List V → Hp → Prop) (us : List Value) (s' : Shared) : Prop := ∃ vs H', Inv X pins σ H' s' ∧ Vals vs us ∧ Q vs H'
noncomputable def SP (X : Cx) (pins : List (Addr × Obj)) (D : Ends) (f : Flow) (s' : Shared) : Prop :=
  match f with
  | .next => ∃ σ' H', Inv X pins σ' H' s' ∧ D.nx σ' H'
  | .brk => ∃ σ' H', Inv X pins σ' H' s' ∧ D.bk σ' H'
  | .cont => ∃ σ' H', Inv X pins σ' H' s' ∧ D.ct σ' H'
  | .ret u => ∃ v σ' H', Inv X pins σ' H' s' ∧ RelV v u ∧ D.rt v H'
noncomputable def PE (X : Cx) (e : Expr) (t : TE) : Prop :=
  ∀ (pins : List (Addr × Obj)) (s : Shared) (σ : St) (H : Hp) (Q : VK), Inv X pins σ H s → t σ H Q → wpAny (model X.prog X.w) X.A (eval e X.env) (EP X pins σ Q) X.xe s
noncomputable def PT (X : Cx) (e : Expr) (t : TT) : Prop :=
  ∀ (pins : List (Addr × Obj)) (s : Shared) (σ : St) (H : Hp) (Q : Bool → Hp → Prop), Inv X pins σ H s → t σ H Q → wpAny (model X.prog X.w) X.A (isTrue e X.env (eval e X.env)) (TP X pins σ Q) X.xe s
noncomputable def PW (X : Cx) (e : Expr) (t : TT) : Prop :=
  ∀ (whole : Sem Value) (pins : List (Addr × Obj)) (s : Shared) (σ : St) (H : Hp) (Q : Bool → Hp → Prop), Inv X pins σ H s → t σ H Q → wpAny (model X.prog X.w) X.A (isTrue e X.env whole) (TP X pins σ Q) X.xe s
theorem PW.pt {X : Cx} {e : Expr} {t : TT} (h : PW X e t) : PT X e t := h _
noncomputable def PA (X : Cx) (es : List Expr) (t : TA) : Prop :=
  ∀ (pos : Pos) (pins : List (Addr × Obj)) (s : Shared) (σ : St) (H : Hp) (Q : List V → Hp → Prop), Inv X pins σ H s → t σ H Q → wpAny (model X.prog X.w) X.A (spliced (backTo pos (starEach es X.env))) (AP X pins σ Q) X.xe s
noncomputable def PS (X : Cx) (st : Stmt) (t : TS) : Prop :=
  ∀ (pins : List (Addr × Obj)) (s : Shared) (σ : St) (H : Hp) (D : Ends), Inv X pins σ H s → t D σ H → wpAny (model X.prog X.w) X.A (exec st X.env) (SP X pins D) X.xe s
noncomputable def PSs (X : Cx) (st : List Stmt) (t : TS) : Prop :=
  ∀ (pins : List (Addr × Obj)) (s : Shared) (σ : St) (H : Hp) (D : Ends), Inv X pins σ H s → t D σ H → wpAny (model X.prog X.w) X.A (execs st X.env) (SP X pins D) X.xe s
theorem thn {α : Type} {t : Sem α} {Q Q' : α → Shared → Prop} {M : Model} {A : Around} {E : Value → Shared → Prop} {s : Shared} (h : wpAny M A t Q E s) (hQ : ∀ a s, Q a s → Q' a s) : wpAny M A t Q' E s := wpAny_mono h hQ fun _ _ x => x
end L2
namespace L2
open PySem PySem.Spec PyProof.Rows
section
variable {X : Cx}
noncomputable def tVar (i : Nat) : TE := fun σ H Q => ∃ v, σ[i]? = some (some v) ∧ Q v H
noncomputable def tC (v : V) : TE := fun _ H Q => Q v H
theorem pe_var {i : Nat} {x : Str} {pos : Pos} (hN : X.N[i]? = some x) (hv : Vis X.env.scope x) (hd : (x == ("__debug__" : Str)) = false := by decide) (hcd : (x == ("__classdict__" : Str)) = false := by decide) : PE X (.Name x pos) (tVar i) := by
  intro pins s σ H Q I h
  obtain ⟨v, e, h⟩ := h
  obtain ⟨m, hn, hl⟩ := I.loc
  obtain ⟨u, r, l⟩ := hl i x v hN e hv
  have fin : EP X pins σ Q u s := ⟨v, H, I, r, h⟩
  rcases l with ⟨hk, hm⟩ | ⟨hk, c, hc, hcell⟩
  · exact wpAny_Name (wpAny_loadName_local I.ok.kind hk hn hm fin) hd
  · rcases hk with hk | hk
    · exact wpAny_Name (wpAny_loadName_cell I.ok.kind hk hc hcell fin) hd
    · exact wpAny_Name (wpAny_loadName_free I.ok.kind hk hc hcell fin hcd) hd
theorem pe_int {i j pos} : PE X (.Constant (.int i) j pos) (tC (.int i)) := fun _ _ _ H _ I h => wpAny_Constant_int ⟨.int i, H, I.tok _, ⟨_, rfl⟩, h⟩
theorem pe_bl {b j pos} : PE X (.Constant (.bool b) j pos) (tC (.bl b)) := fun _ _ _ H _ I h => Constant_bool ⟨.bl b, H, I, rfl, h⟩
theorem pe_non {j pos} : PE X (.Constant .none j pos) (tC .non) := fun _ _ _ H _ I h => Constant_none ⟨.non, H, I, rfl, h⟩
theorem pe_str {x j pos} : PE X (.Constant (.str x) j pos) (tC (.str x)) := fun _ _ _ H _ I h => Calls.Constant_str ⟨.str x, H, I.tok _, ⟨_, rfl⟩, h⟩
noncomputable def Gl (X : Cx) (x : Str) : Prop := X.env.kindOf x = some .globalImplicit
theorem ld_glob {E : Value → Shared → Prop} {pins : List (Addr × Obj)} {s : Shared} {σ : St} {H : Hp} {x : Str} {u : Value} {pos : Pos} {Q : Value → Shared → Prop} (I : Inv X pins σ H s) (hg : Gl X x) (hm : X.mg x = some u) (h : Q u s)
    (hd : (x == ("__debug__" : Str)) = false := by decide) : wpAny (model X.prog X.w) X.A (eval (.Name x pos) X.env) Q E s :=
  Calls.Name_function_global I.ok.kind hg (Calls.loadGlobal_global (by rw [I.ok.glob]; exact I.mod.glob.keeps I.bk) hm h) hd
theorem ld_blt {E : Value → Shared → Prop} {pins : List (Addr × Obj)} {s : Shared} {σ : St} {H : Hp} {x : Str} {u : Value} {pos : Pos} {Q : Value → Shared → Prop} (I : Inv X pins σ H s) (hg : Gl X x) (hm : X.mg x = none) (hv : bootBuiltins x = some u) (h : Q u s)
    (hn : x ≠ "__name__" := by decide) (hd : (x == ("__debug__" : Str)) = false := by decide) : wpAny (model X.prog X.w) X.A (eval (.Name x pos) X.env) Q E s := by
  obtain ⟨mb, h1, h2⟩ := I.mod.blt
  exact Calls.Name_function_global I.ok.kind hg (Calls.loadGlobal_builtin (by rw [I.ok.glob]; exact I.mod.glob.keeps I.bk) hm (by rw [I.ok.blt]; exact h1.keeps I.bk) ((h2 x hn).trans hv) h) hd
theorem pe_bltn {x : Str} {v : V} {u : Value} {pos : Pos} (hg : Gl X x) (hm : X.mg x = none) (hv : bootBuiltins x = some u) (r : RelV v u) (hn : x ≠ "__name__" := by decide) (hd : (x == ("__debug__" : Str)) = false := by decide) : PE X (.Name x pos) (tC v) :=
  fun _ _ _ H _ I h => ld_blt I hg hm hv ⟨v, H, I, r, h⟩ hn hd
variable {a b : Expr} {ta tb : TE} {pos : Pos}
noncomputable def tB (t : TE) : TT := fun σ H Q => t σ H fun x H1 => ∃ c, x = .bl c ∧ Q c H1
variable {tA tB' : TT} {rest : List Expr}
noncomputable def tOr (t u : TT) : TT := fun σ H Q => t σ H fun c H1 => if c = true then Q true H1 else u σ H1 Q
noncomputable def tNot (t : TT) : TT := fun σ H Q => t σ H fun c H1 => Q (!c) H1
theorem pw_or1 (ha : PT X a tA) : PW X (.BoolOp .Or [a] pos) tA := by
  intro wh pins s σ H Q I h
  refine isTrue_or (thn (ha pins s σ H Q I h) fun c s1 e => ?_)
  cases c with
  | false => exact isTrue_or_nil e
  | true => exact e
theorem pw_or (ha : PT X a tA) (hb : PW X (.BoolOp .Or (b :: rest) pos) tB') : PW X (.BoolOp .Or (a :: b :: rest) pos) (tOr tA tB') := by
  intro wh pins s σ H Q I h
  refine isTrue_or (thn (ha pins s σ H _ I h) fun c s1 ⟨H1, I1, q1⟩ => ?_)
  cases c with
  | true => exact ⟨H1, I1, q1⟩
  | false => exact hb wh pins s1 σ H1 Q I1 q1
theorem pt_not (ha : PT X a tA) : PT X (.UnaryOp .Not a pos) (tNot tA) := by
  intro pins s σ H Q I h
  exact isTrue_not (ha pins s σ H (fun c H1 => Q (!c) H1) I h)
end
end L2
namespace L2
open PySem PySem.Spec PyProof.Rows
noncomputable def SqL (K : PySem.W.Frag) (H : Hp) (a : Addr) (xs : List V) : Prop :=
  Rd H a (.lst xs) ∨
    ∃ (o : Obj) (its : Array Value) (n : Nat), K.lookup a = some o ∧ o.cls = .type "list" ∧ o.dict = none ∧ o.data = .seq its n ∧ its.size ≤ sizeLine ∧ Vals xs its.toList
noncomputable def SqT (_ : PySem.W.Frag) (H : Hp) (a : Addr) (xs : List V) : Prop := H a = some (.tup xs)
noncomputable def absV : Value → Option V
  | .none => some .non
  | .bool b => some (.bl b)
  | .int i _ => some (.int i)
  | .str x _ => some (.str x)
  | .bytes b _ => some (.byt b)
  | .float b _ => some (.flt b)
  | .ref a => some (.ref a)
  | .type n => some (.ty n)
  | _ => none
theorem RelV.abs {x : V} {u : Value} (r : RelV x u) : absV u = some x := by
  cases x with
  | non => cases r; rfl
  | bl _ => cases r; rfl
  | int _ => obtain ⟨t, rfl⟩ := r; rfl
  | str _ => obtain ⟨t, rfl⟩ := r; rfl
  | byt _ => obtain ⟨t, rfl⟩ := r; rfl
  | flt _ => obtain ⟨t, rfl⟩ := r; rfl
  | ref _ => cases r; rfl
  | ty _ => cases r; rfl
theorem RelV.inj {x y : V} {u : Value} (r : RelV x u) (q : RelV y u) : x = y := Option.some.inj (r.abs.symm.trans q.abs)
theorem Vals.inj : ∀ {xs ys : List V} {us : List Value}, Vals xs us → Vals ys us → xs = ys
  | _, _, _, .nil, .nil => rfl
  | _, _, _, .cons r t, .cons r' t' => by rw [r.inj r', Vals.inj t t']
section
variable {X : Cx} {pins : List (Addr × Obj)} {σ : St} {H : Hp} {s : Shared} {a : Addr} {xs ys : List V}
theorem SqL.of {K : PySem.W.Frag} (h : H a = some (.lst xs)) : SqL K H a xs := .inl (.inl h)
theorem Inv.list (I : Inv X pins σ H s) (h : SqL X.K H a xs) : ∃ its : List Value, Vals xs its ∧ PlainL s.heap a its.toArray ∧ xs.length ≤ sizeLine := by
  rcases h with h | ⟨o, its, n, hk, hc, hd, hs, hz, r⟩
  · obtain ⟨z, its, n, r, e⟩ := h.ok I.hok
    exact ⟨its, r, ⟨_, n, e, rfl, rfl, rfl⟩, z⟩
  · refine ⟨its.toList, r, ⟨o, n, I.kIn a o hk, hc, hd, by simpa using hs⟩, ?_⟩
    have e := r.length
    simp only [Array.length_toList] at e
    omega
theorem Inv.tuple (I : Inv X pins σ H s) (h : SqT X.K H a xs) : ∃ its : List Value, Vals xs its ∧ IsTup s.heap a its.toArray ∧ xs.length ≤ sizeLine := by
  obtain ⟨z, its, r, p⟩ := I.hok a _ h
  exact ⟨its, r, p, z⟩
theorem Inv.list_inj (I : Inv X pins σ H s) (h : SqL X.K H a xs) (h' : SqL X.K H a ys) : xs = ys := by
  obtain ⟨its, r, ⟨o, n, e, _, _, d⟩, _⟩ := I.list h
  obtain ⟨its', r', ⟨o', n', e', _, _, d'⟩, _⟩ := I.list h'
  rw [e] at e'; cases e'
  rw [d] at d'
  injection d' with d1 _
  have : its = its' := by simpa using congrArg Array.toList d1
  subst this
  exact r.inj r'
theorem Inv.tuple_inj (I : Inv X pins σ H s) (h : SqT X.K H a xs) (h' : SqT X.K H a ys) : xs = ys := by
  obtain ⟨its, r, ⟨o, e, _, n, d⟩, _⟩ := I.tuple h
  obtain ⟨its', r', ⟨o', e', _, n', d'⟩, _⟩ := I.tuple h'
  rw [e] at e'; cases e'
  rw [d] at d'
  injection d' with d1 _
  have : its = its' := by simpa using congrArg Array.toList d1
  subst this
  exact r.inj r'
end
noncomputable abbrev Cx.wish (X : Cx) (E : Value → Shared → Prop) : Cx := { X with xe := E }
noncomputable abbrev Cx.nox (X : Cx) : Cx := X.wish fun _ _ => False
theorem Cx.Ok.wish {X : Cx} (ok : X.Ok) (E : Value → Shared → Prop) : (X.wish E).Ok :=
  ⟨ok.mod, ok.kind, ok.glob, ok.blt, ok.above, ok.inj, ok.has, ok.cab, ok.hd, ok.frames, ok.stk, ok.exf, ok.bs, ok.bsz, ok.noex, ok.exfs, ok.funs, ok.frf⟩
theorem Cx.Ok.unwish {X : Cx} {E : Value → Shared → Prop} (ok : (X.wish E).Ok) : X.Ok :=
  ⟨ok.mod, ok.kind, ok.glob, ok.blt, ok.above, ok.inj, ok.has, ok.cab, ok.hd, ok.frames, ok.stk, ok.exf, ok.bs, ok.bsz, ok.noex, ok.exfs, ok.funs, ok.frf⟩
section
variable {X : Cx} {pins : List (Addr × Obj)} {σ : St} {H : Hp} {s : Shared} {E : Value → Shared → Prop}
theorem Inv.wish (I : Inv X pins σ H s) (E : Value → Shared → Prop) : Inv (X.wish E) pins σ H s := ⟨I.ok.wish E, I.os, I.bare, I.base, I.loc, I.cell, I.free, I.freeC, I.pin, I.hok, I.len, I.tk⟩
theorem Inv.unwish (I : Inv (X.wish E) pins σ H s) : Inv X pins σ H s := ⟨I.ok.unwish, I.os, I.bare, I.base, I.loc, I.cell, I.free, I.freeC, I.pin, I.hok, I.len, I.tk⟩
theorem SP.unwish {D : Ends} {f : Flow} {s' : Shared} (h : SP (X.wish E) pins D f s') : SP X pins D f s' := by
  cases f with
  | next => obtain ⟨σ', H', I, q⟩ := h; exact ⟨σ', H', I.unwish, q⟩
  | brk => obtain ⟨σ', H', I, q⟩ := h; exact ⟨σ', H', I.unwish, q⟩
  | cont => obtain ⟨σ', H', I, q⟩ := h; exact ⟨σ', H', I.unwish, q⟩
  | ret u => obtain ⟨v, σ', H', I, r, q⟩ := h; exact ⟨v, σ', H', I.unwish, r, q⟩
theorem PSs.nox {st : List Stmt} {t : TS} (h : PSs X.nox st t) : PSs X st t := fun pins s σ H D I hw =>
  wpAny_mono (h pins s σ H D (I.wish _) hw) (fun _ _ q => q.unwish) fun _ _ z => False.elim z
end
section
variable {X : Cx} {st : Stmt} {rest : List Stmt} {t u : TS} {e : Expr} {te : TE} {pos : Pos}
noncomputable def tNext : TS := fun D σ H => D.nx σ H
noncomputable def tSeq (t u : TS) : TS := fun D σ H => t { D with nx := u D } σ H
theorem pss_nil : PSs X [] tNext := fun _ _ σ H _ I h => wpAny_execs_nil ⟨σ, H, I, h⟩
theorem pss_cons (h1 : PS X st t) (h2 : PSs X rest u) : PSs X (st :: rest) (tSeq t u) := by
  intro pins s σ H D I h
  refine wpAny_execs_cons (thn (h1 pins s σ H { D with nx := u D } I h) fun f s1 q => ?_)
  cases f with
  | next =>
    obtain ⟨σ', H', I', q⟩ := q
    exact h2 pins s1 σ' H' D I' q
  | ret v => exact q
  | brk => exact q
  | cont => exact q
theorem pss_one (h1 : PS X st t) : PSs X [st] t := by
  intro pins s σ H D I h
  refine wpAny_execs_cons (thn (h1 pins s σ H D I h) fun f s1 q => ?_)
  cases f with
  | next => exact wpAny_execs_nil q
  | ret v => exact q
  | brk => exact q
  | cont => exact q
theorem Inv.quiet {pins : List (Addr × Obj)} {σ : St} {H : Hp} {s : Shared} (I : Inv X pins σ H s) : interactive X.env = false := by simp [interactive, I.ok.kind]
noncomputable def tDrop (te : TE) : TS := fun D σ H => te σ H fun _ H1 => D.nx σ H1
theorem ps_expr (he : PE X e te) (hs : swapsWith e none pos.line X.env = pure false := by rfl) : PS X (.Expr e pos) (tDrop te) := by
  intro pins s σ H D I h
  exact wpAny_Expr_any (thn (he pins s σ H _ I h) fun v s1 hh => exF hh fun x H1 I1 r1 q1 => ⟨σ, H1, I1, q1⟩) I.quiet hs
noncomputable def tRet (te : TE) : TS := fun D σ H => te σ H D.rt
theorem ps_ret (he : PE X e te) : PS X (.Return (some e) pos) (tRet te) := by
  intro pins s σ H D I h
  exact wpAny_Return_some (thn (he pins s σ H _ I h) fun v s1 hh => exF hh fun x H1 I1 r1 q1 => ⟨x, σ, H1, I1, r1, q1⟩)
noncomputable def tIfS (c : TT) (t u : TS) : TS := fun D σ H => c σ H fun b H1 => if b = true then t D σ H1 else u D σ H1
theorem ps_if {c : Expr} {a b : List Stmt} {tc : TT} (hc : PT X c tc) (ha : PSs X a t) (hb : PSs X b u) : PS X (.If c a b pos) (tIfS tc t u) := by
  intro pins s σ H D I h
  refine wpAny_If (thn (hc pins s σ H _ I h) fun d s1 ⟨H1, I1, q1⟩ => ?_)
  cases d with
  | true => exact ha pins s1 σ H1 D I1 q1
  | false => exact hb pins s1 σ H1 D I1 q1
end
noncomputable abbrev TG := V → St → Hp → (St → Hp → Prop) → Prop
noncomputable def PG (X : Cx) (target : Expr) (t : TG) : Prop :=
  ∀ (pins : List (Addr × Obj)) (s : Shared) (σ : St) (H : Hp) (v : V) (u : Value) (Q : St → Hp → Prop), Inv X pins σ H s → RelV v u → t v σ H Q →
    wpAny (model X.prog X.w) X.A (assign target X.env u) (fun _ s' => ∃ σ' H', Inv X pins σ' H' s' ∧ Q σ' H') X.xe s
noncomputable abbrev TSet := V → V → V → Hp → (Hp → Prop) → Prop
noncomputable def PSet (X : Cx) (t : TSet) : Prop :=
  ∀ (pins : List (Addr × Obj)) (s : Shared) (σ : St) (H : Hp) (o i v : V) (ov iv u : Value) (Q : Hp → Prop), Inv X pins σ H s → RelV o ov → RelV i iv → RelV v u → t o i v H Q →
    wpAny (model X.prog X.w) X.A (setItem ov iv u) (fun _ s' => ∃ H', Inv X pins σ H' s' ∧ Q H') X.xe s
section
variable {X : Cx} {pos : Pos}
noncomputable def gName (i : Nat) : TG := fun v σ H Q => Q (σ.set i (some v)) H
theorem pg_name {i : Nat} {x : Str} (hN : X.N.Nodup) (hi : X.N[i]? = some x) (hx : Loc X.env.scope x) (hf : X.fn x = true ∨ X.env.scope.names.lookup x = some .local := by first | exact .inl rfl | exact .inr rfl | assumption) : PG X (.Name x pos) (gName i) := by
  intro pins s σ H v u Q I r h
  exact wpAny_assign_Name (store_ok I hN hi hx r (fun s' I' => ⟨_, H, I', h⟩) hf)
noncomputable def gSub (to ti : TE) (t : TSet) : TG := fun v σ H Q => to σ H fun o H1 => ti σ H1 fun i H2 => t o i v H2 fun H3 => Q σ H3
theorem pg_sub {o i : Expr} {to ti : TE} {t : TSet} (ho : PE X o to) (hi : PE X i ti) (hs : PSet X t)
    (ha : ∀ v, assign (.Subscript o i pos) X.env v = (do
      let ov ← holding [v] (eval o X.env)
      let iv ← holding [v, ov] (eval i X.env)
      standAt pos
      holding [v, ov, iv] (setItem ov iv v)
      release [v, ov, iv] []) := by intro _; rfl) : PG X (.Subscript o i pos) (gSub to ti t) := by
  intro pins s σ H v u Q I r h
  rw [ha]
  refine wpAny_bind (wpAny_holding (thn (ho pins s σ H _ I h) fun ov s1 hh => exF hh fun x H1 I1 r1 q1 => ?_))
  refine wpAny_bind (wpAny_holding (thn (hi pins s1 σ H1 _ I1 q1) fun iv s2 hh => exF hh fun y H2 I2 r2 q2 => ?_))
  refine wpAny_bind (wpAny_standAt (wpAny_bind (wpAny_holding (thn (hs pins s2 σ H2 x y v ov iv u _ I2 r1 r2 r q2) fun _ s3 ⟨H3, I3, q3⟩ => ?_))))
  exact wpAny_release ⟨σ, H3, I3, q3⟩
noncomputable def tAsg (te : TE) (g : TG) : TS := fun D σ H => te σ H fun x H1 => g x σ H1 D.nx
theorem ps_asg {tg e : Expr} {te : TE} {g : TG} (he : PE X e te) (hg : PG X tg g) (hs : swapsWithSole [tg] e pos.line X.env = pure false := by rfl) (hw : swappedStores [tg] e X.env = pure none := by rfl)
    (h1 : (assignEach [tg] X.env).map (·.2) = [assign tg X.env] := by rfl) : PS X (.Assign [tg] e pos) (tAsg te g) := by
  intro pins s σ H D I h
  refine wpAny_Assign_stores (thn (he pins s σ H _ I h) fun v s1 hh => exF hh fun x H1 I1 r1 q1 => ?_) hs hw
  rw [h1]
  exact thn (hg pins s1 σ H1 x v _ I1 r1 q1) fun _ s2 q => q
theorem ps_set {i : Nat} {x : Str} {e : Expr} {te : TE} {pos' : Pos} (hN : X.N.Nodup) (hi : X.N[i]? = some x) (hx : Loc X.env.scope x) (he : PE X e te) (hs : swapsWith e (some (.Name x pos')) pos.line X.env = pure false := by rfl) (hf : X.fn x = true ∨ X.env.scope.names.lookup x = some .local := by first | exact .inl rfl | exact .inr rfl | assumption) :
    PS X (.Assign [.Name x pos'] e pos) (tAsg te (gName i)) := by
  intro pins s σ H D I h
  refine wpAny_Assign_Name (thn (he pins s σ H _ I h) fun v s1 hh => exF hh fun y H1 I1 r1 q1 => ?_) hs
  exact store_ok I1 hN hi hx r1 (fun s2 I2 => ⟨_, H1, I2, q1⟩) hf
end
section
variable {X : Cx} {pos : Pos}
end
structure It where
  go : Nat → Hp → Prop
  yld : Nat → Hp → V → Hp → Prop
  stop : Nat → Hp → Prop
noncomputable def FpOk (X : Cx) (pins : List (Addr × Obj)) (H : Hp) (b : Addr) : Prop :=
  H b = none ∧ b ≠ X.env.locals ∧ b ∉ X.fs ∧ (b ∈ X.ex ∨ X.s₀.heap.objs.size ≤ b) ∧ (∀ x c, X.env.cells.lookup x = some c → c ≠ b) ∧ ∀ p ∈ X.pn ++ pins, p.1 ≠ b
theorem Inv.fpOk {X : Cx} {pins : List (Addr × Obj)} {σ : St} {H H' : Hp} {s : Shared} {b : Addr} (I : Inv X pins σ H s) (hb : s.heap.objs.size ≤ b) (hn : H' b = none) : FpOk X pins H' b := by
  refine ⟨hn, Nat.ne_of_gt (Nat.lt_of_lt_of_le I.lt hb), I.nofs hb, .inr (Nat.le_trans I.sz hb), fun x c e z => ?_, fun p hp z => ?_⟩
  · obtain ⟨v, q⟩ := I.cell x c e
    exact absurd (Nat.lt_of_lt_of_le q.lt (by rw [z]; exact hb)) (Nat.lt_irrefl _)
  · exact absurd (Nat.lt_of_lt_of_le (Heap.lt_size (I.pin p hp).1) (by rw [z]; exact hb)) (Nat.lt_irrefl _)
structure Turn (P : Program) (w : World) (K : PySem.W.Frag) (tg : Expr) (J : It) (fp : List Addr) (it : Addr) (tn : Nat → Heap → Prop) : Prop where
  mem : it ∈ fp
  obj : ∀ i h, tn i h → ∀ b ∈ fp, ∃ o, h.get? b = some o ∧ ∀ v, o.data ≠ .cell v
  keep : ∀ i h h', tn i h → (∀ b ∈ fp, ∀ o, h.get? b = some o → h'.get? b = some o) → tn i h'
  item : ∀ (X : Cx), X.prog = P → X.w = w → X.K = K → X.calm = true → ∀ (i : Nat) (pins : List (Addr × Obj)) (s : Shared) (σ : St) (H : Hp) (E : Value → Shared → Prop), Inv X pins σ H s → (∀ b ∈ fp, FpOk X pins H b) → tn i s.heap → J.go i H →
    wpAny (model P w) X.A (pyNext (.ref it)) (fun r s1 => ∃ u, r = some u ∧
      wpAny (model P w) X.A (letOwnedTupleGo tg (.ref it) u) (fun _ s2 => ∃ x H', Inv X pins σ H' s2 ∧ RelV x u ∧ J.yld i H x H' ∧ tn (i + 1) s2.heap ∧ ∀ b ∈ fp, H' b = none) E s1) E s
  done : ∀ (X : Cx), X.prog = P → X.w = w → X.K = K → X.calm = true → ∀ (i : Nat) (pins : List (Addr × Obj)) (s : Shared) (σ : St) (H : Hp) (E : Value → Shared → Prop), Inv X pins σ H s → (∀ b ∈ fp, FpOk X pins H b) → tn i s.heap → J.stop i H →
    wpAny (model P w) X.A (pyNext (.ref it)) (fun r s1 => r = none ∧ Inv X pins σ H s1) E s
  self : ∀ (A : Around) (i : Nat) (s : Shared) (Q : Value → Shared → Prop) (E : Value → Shared → Prop), tn i s.heap → Q (.ref it) s → wpAny (model P w) A (pyIter (.ref it)) Q E s
noncomputable abbrev TI := St → Hp → (It → Hp → Prop) → Prop
noncomputable def PIE (X : Cx) (pins : List (Addr × Obj)) (σ : St) (tg : Expr) (R : It → Hp → Prop) (itv : Value) (s2 : Shared) : Prop :=
  ∃ (it : Addr) (fp : List Addr) (tn : Nat → Heap → Prop) (J : It) (H' : Hp), itv = .ref it ∧ Inv X pins σ H' s2 ∧ Turn X.prog X.w X.K tg J fp it tn ∧ tn 0 s2.heap ∧ (∀ b ∈ fp, FpOk X pins H' b) ∧ R J H'
noncomputable def PI (X : Cx) (tg iter : Expr) (wi : TI) : Prop :=
  ∀ (pins : List (Addr × Obj)) (s : Shared) (σ : St) (H : Hp) (R : It → Hp → Prop), Inv X pins σ H s → wi σ H R →
    wpAny (model X.prog X.w) X.A (eval iter X.env) (fun v s1 => wpAny (model X.prog X.w) X.A (pyIter v) (PIE X pins σ tg R) X.xe s1) X.xe s
theorem go_of {M : Model} {A : Around} {E : Value → Shared → Prop} {s : Shared} {tg : Expr} {it : Addr} {u : Value} {o : Obj} {n : String} {vs : Array Value} {Q : Unit → Shared → Prop} (ho : s.heap.get? it = some o) (hc : o.cls = .type n) (hd : o.data = .fields vs)
    (hn : ["enumerate", "zip", "dict_itemiterator", "dict_reverseitemiterator", "odict_iterator", "itertools.zip_longest", "itertools.pairwise"].contains n = false) (hQ : Q () s) : wpAny M A (letOwnedTupleGo tg (.ref it) u) Q E s := by
  unfold letOwnedTupleGo
  cases tg <;> first
    | exact wpAny_pure hQ
    | (cases u <;> first
        | exact wpAny_pure hQ
        | (refine wpAny_bind (wpAny_load ho ?_)
           rw [hc, hd]
           show wpAny M A (if (["enumerate", "zip", "dict_itemiterator", "dict_reverseitemiterator", "odict_iterator", "itertools.zip_longest", "itertools.pairwise"].contains n && vs[0]? == some (rawInt _)) = true then _ else _) Q E s
           rw [if_neg (by intro h; rw [hn, Bool.false_and] at h; cases h)]
           exact wpAny_pure hQ))
noncomputable def Itl (K : PySem.W.Frag) (a : Addr) : It :=
  ⟨fun i H => ∃ xs x, SqL K H a xs ∧ xs[i]? = some x, fun i H x H' => H' = H ∧ ∀ xs, SqL K H a xs → xs[i]? = some x, fun i H => ∃ xs, SqL K H a xs ∧ xs.length ≤ i⟩
noncomputable def Itt (K : PySem.W.Frag) (a : Addr) : It :=
  ⟨fun i H => ∃ xs x, SqT K H a xs ∧ xs[i]? = some x, fun i H x H' => H' = H ∧ ∀ xs, SqT K H a xs → xs[i]? = some x, fun i H => ∃ xs, SqT K H a xs ∧ xs.length ≤ i⟩
noncomputable def Itr (lo : Int) (n : Nat) : It := ⟨fun i _ => i < n, fun i H x H' => H' = H ∧ x = .int (lo + i), fun i _ => n ≤ i⟩
theorem turn_list {P : Program} {w : World} {K : PySem.W.Frag} {tg : Expr} (a it : Addr) : Turn P w K tg (Itl K a) [it] it (fun i h => h.IsListIter it a i) where
  mem := by simp
  obj := fun i h st b hb => by
    have e : b = it := by simpa using hb
    subst e
    obtain ⟨o, e, c, d⟩ := st
    exact ⟨o, e, fun v z => by rw [d] at z; cases z⟩
  keep := fun i h h' st k => st.at fun o e => k it (by simp) o e
  item := by
    intro X hP hw hK hc i pins s σ H E I hf st hg
    subst hP hw hK
    obtain ⟨xs, x, hq, hx⟩ := hg
    obtain ⟨its, rv, p, hz⟩ := I.list hq
    obtain ⟨u, hu, ru⟩ := rv.get hx
    obtain ⟨f0, f1, f2, f3, f4, f5⟩ := hf it (by simp)
    refine wpAny_pyNext_list_item st p.isList (x := u) (by simpa using hu) fun h' st' sb => ?_
    have I1 : Inv X pins σ H { s with heap := h' } := I.turned (t' := s.toks) (fun b o hb e => (sb.2 b hb).trans e) f0 f1 f3 f4 f5
    obtain ⟨o, e, c, d⟩ := id st'
    exact ⟨u, rfl, go_of (s := { s with heap := h' }) e c d (by decide) ⟨x, H, I1, ru, ⟨rfl, fun ys hy => by rw [I.list_inj hy hq]; exact hx⟩, st', fun b hb => (hf b hb).1⟩⟩
  done := by
    intro X hP hw hK hc i pins s σ H E I hf st hg
    subst hP hw hK
    obtain ⟨xs, hq, hx⟩ := hg
    obtain ⟨its, rv, p, hz⟩ := I.list hq
    obtain ⟨f0, f1, f2, f3, f4, f5⟩ := hf it (by simp)
    have hl := rv.length
    exact wpAny_pyNext_list_end (I.ok.hd hc) st p.isList (by simp; omega) fun h' eb => ⟨rfl, I.turned (t' := s.toks) (fun b o hb e => eb b o hb e) f0 f1 f3 f4 f5⟩
  self := fun _ _ _ _ _ st h => wpAny_pyIter_listiter st h
theorem turn_tuple {P : Program} {w : World} {K : PySem.W.Frag} {tg : Expr} (a it : Addr) : Turn P w K tg (Itt K a) [it] it (fun i h => h.IsTupleIter it a i) where
  mem := by simp
  obj := fun i h st b hb => by
    have e : b = it := by simpa using hb
    subst e
    obtain ⟨o, e, c, d⟩ := st
    exact ⟨o, e, fun v z => by rw [d] at z; cases z⟩
  keep := fun i h h' st k => st.at fun o e => k it (by simp) o e
  item := by
    intro X hP hw hK hc i pins s σ H E I hf st hg
    subst hP hw hK
    obtain ⟨xs, x, hq, hx⟩ := hg
    obtain ⟨its, rv, p, hz⟩ := I.tuple hq
    obtain ⟨u, hu, ru⟩ := rv.get hx
    obtain ⟨f0, f1, f2, f3, f4, f5⟩ := hf it (by simp)
    refine wpAny_pyNext_tuple_item st (show s.heap.IsTuple a its.toArray from p) (x := u) (by simpa using hu) fun h' st' sb => ?_
    have I1 : Inv X pins σ H { s with heap := h' } := I.turned (t' := s.toks) (fun b o hb e => (sb.2 b hb).trans e) f0 f1 f3 f4 f5
    obtain ⟨o, e, c, d⟩ := id st'
    exact ⟨u, rfl, go_of (s := { s with heap := h' }) e c d (by decide) ⟨x, H, I1, ru, ⟨rfl, fun ys hy => by rw [I.tuple_inj hy hq]; exact hx⟩, st', fun b hb => (hf b hb).1⟩⟩
  done := by
    intro X hP hw hK hc i pins s σ H E I hf st hg
    subst hP hw hK
    obtain ⟨xs, hq, hx⟩ := hg
    obtain ⟨its, rv, p, hz⟩ := I.tuple hq
    obtain ⟨f0, f1, f2, f3, f4, f5⟩ := hf it (by simp)
    have hl := rv.length
    exact wpAny_pyNext_tuple_end (I.ok.hd hc) st (show s.heap.IsTuple a its.toArray from p) (by simp; omega) fun h' eb => ⟨rfl, I.turned (t' := s.toks) (fun b o hb e => eb b o hb e) f0 f1 f3 f4 f5⟩
  self := fun _ _ _ _ _ st h => wpAny_pyIter_tupleiter st h
theorem turn_range {P : Program} {w : World} {K : PySem.W.Frag} {tg : Expr} (it : Addr) (lo : Int) (n : Nat) : Turn P w K tg (Itr lo n) [it] it (fun i h => IsRangeIter h it (lo + (i : Nat) * 1) ((n : Int) - (i : Nat)) 1) where
  mem := by simp
  obj := fun i h st b hb => by
    have e : b = it := by simpa using hb
    subst e
    exact ⟨_, st, fun v z => by
      have z' : Data.fields _ = Data.cell v := z
      cases z'⟩
  keep := fun i h h' st k => k it (by simp) _ st
  item := by
    intro X hP hw hK hc i pins s σ H E I hf st hg
    subst hP hw hK
    obtain ⟨f0, f1, f2, f3, f4, f5⟩ := hf it (by simp)
    have W := Walks.range (prog := X.prog) (w := X.w) (I.ok.hd hc) it lo 1 n
    refine wpAny_guard I.tk (W.item i s _ _ hg st fun v h' tk hv st' kk htk => ?_)
    obtain ⟨t, rfl⟩ := hv
    have I1 : Inv X pins σ H { s with heap := h', toks := tk } := I.turned (fun b o hb e => kk b o (by simpa using hb) e) f0 f1 f3 f4 f5
    refine ⟨_, rfl, go_of (s := { s with heap := h', toks := tk }) (n := "range_iterator") st' rfl rfl (by decide) ⟨.int (lo + i), H, I1, ⟨t, ?_⟩, ⟨rfl, rfl⟩, st', fun b hb => (hf b hb).1⟩⟩
    rw [Int.mul_one]
  done := by
    intro X hP hw hK hc i pins s σ H E I hf st hg
    subst hP hw hK
    obtain ⟨f0, f1, f2, f3, f4, f5⟩ := hf it (by simp)
    exact wpAny_pyNext_range_end (I.ok.hd hc) st (by have : n ≤ i := hg; omega) fun h' eb => ⟨rfl, I.turned (t' := s.toks) (fun b o hb e => eb b o hb e) f0 f1 f3 f4 f5⟩
  self := fun _ _ _ _ _ st h => wpAny_pyIter_rangeiter st h
end L2
namespace L2
open PySem PySem.Spec PyProof.Rows
section
variable {X : Cx} {tg : Expr}
theorem range_it {pins : List (Addr × Obj)} {σ : St} {H : Hp} {s : Shared} {R : It → Hp → Prop} {E : Value → Shared → Prop} {lo hi : Int} {t u v : Tok} {tk : Nat} (I : Inv X pins σ H s) (h1 : -(2 ^ 62) ≤ lo) (h2 : lo < 2 ^ 62) (h3 : -(2 ^ 62) ≤ hi) (h4 : hi < 2 ^ 62)
    (q : R (Itr lo (hi - lo).toNat) H) (ht : X.tn ≤ tk := by walk_at "tok") : wpAny (model X.prog X.w) X.A (pyIter (.ref s.heap.objs.size)) (PIE X pins σ tg R) E { s with heap := s.heap.push { cls := .type "range", data := .fields #[.int lo t, .int hi u, .int 1 v] }, toks := tk } := by
  refine wpAny_pyIter_range (IsRange.new ..) (small_one h1 h2 h3 h4) ?_
  have I1 : Inv X pins σ H { s with heap := s.heap.push { cls := .type "range", data := .fields #[.int lo t, .int hi u, .int 1 v] }, toks := tk } := I.kept fun b o e => Heap.get?_push_of_some _ e
  refine ⟨(s.heap.push { cls := .type "range", data := .fields #[.int lo t, .int hi u, .int 1 v] }).objs.size, [(s.heap.push { cls := .type "range", data := .fields #[.int lo t, .int hi u, .int 1 v] }).objs.size], _, _, H, rfl,
    I1.kept (t' := tk) fun b o e => Heap.get?_push_of_some _ e, turn_range _ lo (hi - lo).toNat, ?_, fun b hb => ?_, q⟩
  · have e1 : lo + ((0 : Nat) : Int) * 1 = lo := by simp
    have e2 : (((hi - lo).toNat : Nat) : Int) - ((0 : Nat) : Int) = Builtin.Range.rangeSize lo hi 1 := by rw [rangeSize_one]; split <;> omega
    show IsRangeIter _ _ (lo + ((0 : Nat) : Int) * 1) ((((hi - lo).toNat : Nat) : Int) - ((0 : Nat) : Int)) 1
    rw [e1, e2]
    exact Heap.get?_push_size _ rfl
  · have e : b = (s.heap.push { cls := .type "range", data := .fields #[.int lo t, .int hi u, .int 1 v] }).objs.size := by simpa using hb
    subst e
    exact I1.fpOk (Nat.le_refl _) (I1.hok.fresh (Nat.le_refl _))
noncomputable def tFor (wi : TI) (g : TG) (tb : TS) : TS := fun D σ H => wi σ H fun J H1 => ∃ W : Nat → Nat → St → Hp → Prop, (∃ m, W 0 m σ H1) ∧ ∀ i m σ H, W i m σ H →
  (J.stop i H ∧ D.nx σ H) ∨ (J.go i H ∧ ∃ N : St → Hp → Prop, (∀ σ' H', N σ' H' → ∃ m', m' < m ∧ W (i + 1) m' σ' H') ∧ ∀ x H', J.yld i H x H' → g x σ H' fun σ2 H2 => tb { D with nx := N, ct := N, bk := D.nx } σ2 H2)
noncomputable def pinsAt (fp : List Addr) (h : Heap) : List (Addr × Obj) := fp.filterMap fun b => (h.get? b).map fun o => (b, o)
theorem mem_pinsAt {fp : List Addr} {h : Heap} {b : Addr} {o : Obj} (hb : b ∈ fp) (e : h.get? b = some o) : (b, o) ∈ pinsAt fp h := List.mem_filterMap.mpr ⟨b, hb, by rw [e]; rfl⟩
theorem of_pinsAt {fp : List Addr} {h : Heap} {p : Addr × Obj} (hp : p ∈ pinsAt fp h) : p.1 ∈ fp ∧ h.get? p.1 = some p.2 := by
  obtain ⟨b, hb, e⟩ := List.mem_filterMap.mp hp
  cases q : h.get? b with
  | none => rw [q] at e; cases e
  | some o =>
    rw [q] at e
    have e' : (b, o) = p := Option.some.inj e
    subst e'
    exact ⟨hb, q⟩
theorem Inv.pinned {pins : List (Addr × Obj)} {σ : St} {H : Hp} {s : Shared} {fp : List Addr} (I : Inv X pins σ H s) (hf : ∀ b ∈ fp, FpOk X pins H b) (ho : ∀ b ∈ fp, ∃ o, s.heap.get? b = some o ∧ ∀ v, o.data ≠ .cell v) : Inv X (pins ++ pinsAt fp s.heap) σ H s :=
  I.pins_of fun p hp => (List.mem_append.mp hp).elim (fun z => I.pin p (List.mem_append_right _ z)) fun z => by
    obtain ⟨hb, e⟩ := of_pinsAt z
    obtain ⟨f0, f1, f2, _⟩ := hf p.1 hb
    obtain ⟨o, e', d⟩ := ho p.1 hb
    rw [e] at e'; cases e'
    exact ⟨e, f0, f1, f2, d⟩
theorem Inv.unpinned {pins pl : List (Addr × Obj)} {σ : St} {H : Hp} {s : Shared} (I : Inv X (pins ++ pl) σ H s) : Inv X pins σ H s := I.pins_of fun p hp => I.pin p (List.mem_append_right _ (List.mem_append_left _ hp))
theorem ps_for {iter : Expr} {body : List Stmt} {wi : TI} {g : TG} {tb : TS} {pos : Pos} (hp : PassesOwn (model X.prog X.w) X.A X.env X.xe) (hc : X.calm = true) (hi : PI X tg iter wi) (hg : PG X tg g) (hb : PSs X body tb)
    (hs : ∀ x, foldedSetIterable iter X.env x = pure x := by intro _; rfl) : PS X (.For tg iter body [] pos) (tFor wi g tb) := by
  intro pins s σ H D I h
  refine wpAny_For (thn (hi pins s σ H _ I h) fun v s1 h1 => thn h1 fun itv s2 h2 => ?_) hs
  obtain ⟨it, fp, tn, J, H2, e, I2, T, st2, f2, W, ⟨m0, w0⟩, turn⟩ := h2
  subst e
  -- what stays true of the iterator's objects through the loop
  have stat : ∀ {H' : Hp}, (∀ b ∈ fp, H' b = none) → ∀ b ∈ fp, FpOk X pins H' b := fun hn b hb => ⟨hn b hb, (f2 b hb).2⟩
  refine codeAny_forLoop_any (fun n s' => ∃ i σ' H', Inv X pins σ' H' s' ∧ tn i s'.heap ∧ (∀ b ∈ fp, H' b = none) ∧ W i n σ' H') ?_ m0 ⟨0, σ, H2, I2, st2, fun b hb => (f2 b hb).1, w0⟩
  rintro n s3 ⟨i, σ3, H3, I3, st3, fr3, w3⟩
  rcases turn i n σ3 H3 w3 with ⟨stop, qn⟩ | ⟨go, N, hN, step⟩
  · refine wpAny_passesOwn hp (thn (T.done X rfl rfl rfl hc i pins s3 σ3 H3 X.xe I3 (stat fr3) st3 stop) fun r s4 ⟨hr, I4⟩ => ?_)
    subst hr
    exact wpAny_execs_nil ⟨σ3, H3, I4, qn⟩
  · refine wpAny_passesOwn hp (thn (T.item X rfl rfl rfl hc i pins s3 σ3 H3 X.xe I3 (stat fr3) st3 go) fun r s4 ⟨u, hr, h4⟩ => ?_)
    subst hr
    refine wpAny_passesOwn hp (thn h4 fun _ s5 ⟨x, H5, I5, r5, y5, st5, fr5⟩ => ?_)
    have I5' := I5.pinned (stat fr5) (T.obj _ _ st5)
    refine wpAny_passesOwn hp (thn (hg _ s5 σ3 H5 x u _ I5' r5 (step x H5 y5)) fun _ s6 ⟨σ6, H6, I6, q6⟩ => ?_)
    refine wpAny_passesOwn hp (thn (hb _ s6 σ6 H6 _ I6 q6) fun f s7 q7 => ?_)
    have again : ∀ {σ7 : St} {H7 : Hp}, Inv X (pins ++ pinsAt fp s5.heap) σ7 H7 s7 → N σ7 H7 → ∃ m, m < n ∧ ∃ i σ' H', Inv X pins σ' H' s7 ∧ tn i s7.heap ∧ (∀ b ∈ fp, H' b = none) ∧ W i m σ' H' := fun {σ7 H7} I7 n7 => by
      obtain ⟨m', hm, w7⟩ := hN σ7 H7 n7
      refine ⟨m', hm, i + 1, σ7, H7, I7.unpinned, T.keep _ _ _ st5 fun b hb o e => (I7.pin (b, o) (List.mem_append_right _ (List.mem_append_right _ (mem_pinsAt hb e)))).1, fun b hb => ?_, w7⟩
      obtain ⟨o, e, d⟩ := T.obj _ _ st5 b hb
      exact (I7.pin (b, o) (List.mem_append_right _ (List.mem_append_right _ (mem_pinsAt hb e)))).2.1
    cases f with
    | next => obtain ⟨σ7, H7, I7, n7⟩ := q7; exact again I7 n7
    | cont => obtain ⟨σ7, H7, I7, n7⟩ := q7; exact again I7 n7
    | brk => obtain ⟨σ7, H7, I7, q7⟩ := q7; exact ⟨σ7, H7, I7.unpinned, q7⟩
    | ret v => obtain ⟨x7, σ7, H7, I7, r7, q7⟩ := q7; exact ⟨x7, σ7, H7, I7.unpinned, r7, q7⟩
end
end L2
namespace L2
open PySem PySem.Spec PyProof.Rows
noncomputable abbrev R2 := V → V → Hp → VK → Prop
noncomputable def OpR (X : Cx) (f : Value → Value → Sem Value) (r : R2) : Prop :=
  ∀ (pins : List (Addr × Obj)) (s : Shared) (σ : St) (H : Hp) (x y : V) (v u : Value) (Q : VK), Inv X pins σ H s → RelV x v → RelV y u → r x y H Q →
    wpAny (model X.prog X.w) X.A (f v u) (EP X pins σ Q) X.xe s
noncomputable def CallR (X : Cx) (f : Value) (r : List V → Hp → VK → Prop) : Prop :=
  ∀ (pins : List (Addr × Obj)) (s : Shared) (σ : St) (H : Hp) (xs : List V) (us : List Value) (Q : VK), Inv X pins σ H s → Vals xs us → r xs H Q →
    wpAny (model X.prog X.w) X.A (call f us) (EP X pins σ Q) X.xe s
noncomputable def TruR (X : Cx) (r : V → Hp → (Bool → Hp → Prop) → Prop) : Prop :=
  ∀ (pins : List (Addr × Obj)) (s : Shared) (σ : St) (H : Hp) (x : V) (v : Value) (Q : Bool → Hp → Prop), Inv X pins σ H s → RelV x v → r x H Q →
    wpAny (model X.prog X.w) X.A (truthy v) (TP X pins σ Q) X.xe s
noncomputable def tOp (r : R2) (ta tb : TE) : TE := fun σ H Q => ta σ H fun x H1 => tb σ H1 fun y H2 => r x y H2 Q
noncomputable def rI (C : Int → Int → Prop) (g : Int → Int → V) : R2 := fun x y H Q => ∃ i j, x = .int i ∧ y = .int j ∧ C i j ∧ Q (g i j) H
noncomputable def rI0 (g : Int → Int → V) : R2 := fun x y H Q => ∃ i j, x = .int i ∧ y = .int j ∧ Q (g i j) H
section
variable {X : Cx} {a b c : Expr} {ta tb tc : TE} {pos : Pos}
theorem binT (ha : PE X a ta) (hb : PE X b tb) {pins : List (Addr × Obj)} {s : Shared} {σ : St} {H : Hp} {R : V → V → Hp → Prop} (I : Inv X pins σ H s)
    (h : ta σ H fun x H1 => tb σ H1 fun y H2 => R x y H2) {Q : Value → Shared → Prop} {f : Value → Value → Sem Value}
    (hf : ∀ v u s2 x y H2, Inv X pins σ H2 s2 → RelV x v → RelV y u → R x y H2 → wpAny (model X.prog X.w) X.A (f v u) Q X.xe s2) :
    wpAny (model X.prog X.w) X.A (eval a X.env) (fun v s₁ => wpAny (model X.prog X.w) X.A (eval b X.env) (fun u s₂ => wpAny (model X.prog X.w) X.A (f v u) Q X.xe s₂) X.xe s₁) X.xe s := by
  refine thn (ha pins s σ H _ I h) fun v s1 hh => exF hh fun x H1 I1 r1 q1 => ?_
  refine thn (hb pins s1 σ H1 _ I1 q1) fun u s2 hh => exF hh fun y H2 I2 r2 q2 => ?_
  exact hf v u s2 x y H2 I2 r1 r2 q2
theorem pe_op {op : Operator} {r : R2} (ho : OpR X (binaryOp op) r) (ha : PE X a ta) (hb : PE X b tb) : PE X (.BinOp a op b pos) (tOp r ta tb) := by
  intro pins s σ H Q I h
  exact wpAny_BinOp (binT ha hb I h fun v u s2 x y H2 I2 rx ry q => ho pins s2 σ H2 x y v u Q I2 rx ry q)
theorem opI {f : Value → Value → Sem Value} {C : Int → Int → Prop} {g : Int → Int → Int}
    (rule : ∀ (i j : Int) (t u : Tok) (s : Shared) (Q : Value → Shared → Prop) (E : Value → Shared → Prop), C i j → Q (.int (g i j) s.toks) { s with toks := s.toks + 1 } → wpAny (model X.prog X.w) X.A (f (.int i t) (.int j u)) Q E s) :
    OpR X f (rI C fun i j => .int (g i j)) := by
  intro pins s σ H x y v u Q I rx ry h
  obtain ⟨i, j, rfl, rfl, hc, q⟩ := h
  obtain ⟨t, rfl⟩ := rx
  obtain ⟨t', rfl⟩ := ry
  exact rule i j t t' s _ _ hc ⟨.int (g i j), H, I.tok _, ⟨_, rfl⟩, q⟩
theorem opI0 {f : Value → Value → Sem Value} {g : Int → Int → Int}
    (rule : ∀ (i j : Int) (t u : Tok) (s : Shared) (Q : Value → Shared → Prop) (E : Value → Shared → Prop), Q (.int (g i j) s.toks) { s with toks := s.toks + 1 } → wpAny (model X.prog X.w) X.A (f (.int i t) (.int j u)) Q E s) :
    OpR X f (rI0 fun i j => .int (g i j)) := by
  intro pins s σ H x y v u Q I rx ry h
  obtain ⟨i, j, rfl, rfl, q⟩ := h
  obtain ⟨t, rfl⟩ := rx
  obtain ⟨t', rfl⟩ := ry
  exact rule i j t t' s _ _ ⟨.int (g i j), H, I.tok _, ⟨_, rfl⟩, q⟩
theorem opB0 {f : Value → Value → Sem Value} {g : Int → Int → Bool}
    (rule : ∀ (i j : Int) (t u : Tok) (s : Shared) (Q : Value → Shared → Prop) (E : Value → Shared → Prop), Q (.bool (g i j)) s → wpAny (model X.prog X.w) X.A (f (.int i t) (.int j u)) Q E s) :
    OpR X f (rI0 fun i j => .bl (g i j)) := by
  intro pins s σ H x y v u Q I rx ry h
  obtain ⟨i, j, rfl, rfl, q⟩ := h
  obtain ⟨t, rfl⟩ := rx
  obtain ⟨t', rfl⟩ := ry
  exact rule i j t t' s _ _ ⟨.bl (g i j), H, I, rfl, q⟩
noncomputable def CDiv (i j : Int) : Prop := 0 < j ∧ j < 1073741824
noncomputable def CPow (i j : Int) : Prop := 0 ≤ j ∧ j ≤ 1000000 ∧ i.natAbs < 2 ^ 64
noncomputable def CMul (i j : Int) : Prop := (-(2 ^ 64) < i ∧ i < 2 ^ 64) ∨ (-(2 ^ 64) < j ∧ j < 2 ^ 64)
theorem CMul.ok {i j : Int} (h : CMul i j) : IntMulOk i j := by
  rcases h with ⟨h1, h2⟩ | ⟨h1, h2⟩
  · exact .of_left (intBits_le_64 h1 h2)
  · exact .of_right (intBits_le_64 h1 h2)
theorem op_add : OpR X (binaryOp .Add) (rI0 fun i j => .int (i + j)) := opI0 fun _ _ _ _ _ _ _ q => add_int q
theorem op_sub : OpR X (binaryOp .Sub) (rI0 fun i j => .int (i - j)) := opI0 fun _ _ _ _ _ _ _ q => sub_int q
theorem op_mul : OpR X (binaryOp .Mult) (rI CMul fun i j => .int (i * j)) := opI fun _ _ _ _ _ _ _ hc q => mul_int q hc.ok
theorem op_fdiv : OpR X (binaryOp .FloorDiv) (rI CDiv fun i j => .int (i / j)) := opI fun i j _ _ _ _ _ hc q => by
  have h1 : (0 : Int) < j := hc.1
  have h2 : j < 1073741824 := hc.2
  exact floordiv_int (by omega) (by rw [Int.fdiv_eq_ediv_of_nonneg i (by omega)]; exact q) (.inl (PyProof.noPylong_small (by omega)))
theorem op_mod : OpR X (binaryOp .Mod) (rI (fun _ j => 0 < j) fun i j => .int (i % j)) := opI fun i j _ _ _ _ _ hc q => by
  have h1 : (0 : Int) < j := hc
  exact mod_int' (by omega) (by rw [Int.fmod_eq_emod_of_nonneg i (by omega)]; exact q)
theorem op_pow : OpR X (binaryOp .Pow) (rI CPow fun i j => .int (i ^ j.toNat)) := opI fun _ _ _ _ _ _ _ hc q => pow_int_small hc.1 hc.2.1 hc.2.2 q
end
noncomputable def scal : V → V → Bool
  | .non, .non => true | .non, .int _ => true | .int _, .non => true | .non, .bl _ => true | .bl _, .non => true | .non, .str _ => true | .str _, .non => true
  | .int _, .int _ => true | .bl _, .bl _ => true | .str _, .str _ => true | .byt _, .byt _ => true
  | .int _, .str _ => true | .str _, .int _ => true | .bl _, .str _ => true | .str _, .bl _ => true
  | _, _ => false
noncomputable def rEq : R2 := fun x y H Q => scal x y = true ∧ Q (.bl (decide (x = y))) H
noncomputable def rNe : R2 := fun x y H Q => scal x y = true ∧ Q (.bl (!decide (x = y))) H
theorem dec_int {i j : Int} : decide (V.int i = V.int j) = (i == j) := by
  rw [Bool.eq_iff_iff]
  simp
theorem dec_bl {i j : Bool} : decide (V.bl i = V.bl j) = (i == j) := by
  rw [Bool.eq_iff_iff]
  simp
theorem dec_str {i j : Str} : decide (V.str i = V.str j) = (i == j) := by
  rw [Bool.eq_iff_iff]
  simp
theorem dec_byt {i j : Array UInt8} : decide (V.byt i = V.byt j) = (i.toList == j.toList) := by
  rw [Bool.eq_iff_iff]
  cases i
  cases j
  simp
section
variable {X : Cx} {a b c : Expr} {ta tb tc : TE} {pos : Pos}
theorem fin_bl {pins : List (Addr × Obj)} {σ : St} {H : Hp} {s : Shared} {Q : VK} {k k' : Bool} (I : Inv X pins σ H s) (q : Q (.bl k) H) (e : k = k') : EP X pins σ Q (.bool k') s := by
  subst e
  exact ⟨.bl k, H, I, rfl, q⟩
theorem op_eq : OpR X (compareOp .Eq) rEq := by
  intro pins s σ H x y v u Q I rx ry h
  obtain ⟨hs, q⟩ := h
  cases x with
  | non =>
    cases rx
    cases y with
    | non => cases ry; exact PySem.EqNone.eq_none_none (fin_bl I q (by simp))
    | bl j => cases ry; exact PySem.EqNone.eq_none_bool (fin_bl I q (by simp))
    | int j => obtain ⟨t', rfl⟩ := ry; exact PySem.EqNone.eq_none_int (fin_bl I q (by simp))
    | str j => obtain ⟨t', rfl⟩ := ry; exact PySem.EqNone.eq_none_str (fin_bl I q (by simp))
    | _ => exact absurd (show false = true from hs) Bool.false_ne_true
  | bl i =>
    cases rx
    cases y with
    | non => cases ry; exact PySem.EqNone.eq_bool_none (fin_bl I q (by simp))
    | bl j => cases ry; exact eq_bool (fin_bl I q dec_bl)
    | str j => obtain ⟨t', rfl⟩ := ry; exact PySem.EqMixed.eq_bool_str (fin_bl I q (by simp))
    | _ => exact absurd (show false = true from hs) Bool.false_ne_true
  | int i =>
    obtain ⟨t, rfl⟩ := rx
    cases y with
    | non => cases ry; exact PySem.EqNone.eq_int_none (fin_bl I q (by simp))
    | int j => obtain ⟨t', rfl⟩ := ry; exact eq_int (fin_bl I q dec_int)
    | str j => obtain ⟨t', rfl⟩ := ry; exact PySem.EqMixed.eq_int_str (fin_bl I q (by simp))
    | _ => exact absurd (show false = true from hs) Bool.false_ne_true
  | str i =>
    obtain ⟨t, rfl⟩ := rx
    cases y with
    | non => cases ry; exact PySem.EqNone.eq_str_none (fin_bl I q (by simp))
    | bl j => cases ry; exact PySem.EqMixed.eq_str_bool (fin_bl I q (by simp))
    | int j => obtain ⟨t', rfl⟩ := ry; exact PySem.EqMixed.eq_str_int (fin_bl I q (by simp))
    | str j => obtain ⟨t', rfl⟩ := ry; exact eq_str (fin_bl I q dec_str)
    | _ => exact absurd (show false = true from hs) Bool.false_ne_true
  | byt i =>
    obtain ⟨t, rfl⟩ := rx
    cases y with
    | byt j => obtain ⟨t', rfl⟩ := ry; exact PySem.W.eq_bytes (fin_bl I q dec_byt)
    | _ => exact absurd (show false = true from hs) Bool.false_ne_true
  | _ => cases y <;> exact absurd (show false = true from hs) Bool.false_ne_true
theorem op_ne : OpR X (compareOp .NotEq) rNe := by
  intro pins s σ H x y v u Q I rx ry h
  obtain ⟨hs, q⟩ := h
  cases x with
  | non =>
    cases rx
    cases y with
    | non => cases ry; exact PySem.EqNone.ne_none_none (fin_bl I q (by simp))
    | bl j => cases ry; exact PySem.EqNone.ne_none_bool (fin_bl I q (by simp))
    | int j => obtain ⟨t', rfl⟩ := ry; exact PySem.EqNone.ne_none_int (fin_bl I q (by simp))
    | str j => obtain ⟨t', rfl⟩ := ry; exact PySem.EqNone.ne_none_str (fin_bl I q (by simp))
    | _ => exact absurd (show false = true from hs) Bool.false_ne_true
  | bl i =>
    cases rx
    cases y with
    | non => cases ry; exact PySem.EqNone.ne_bool_none (fin_bl I q (by simp))
    | bl j => cases ry; exact ne_bool (fin_bl I q (congrArg not dec_bl))
    | str j => obtain ⟨t', rfl⟩ := ry; exact PySem.EqMixed.ne_bool_str (fin_bl I q (by simp))
    | _ => exact absurd (show false = true from hs) Bool.false_ne_true
  | int i =>
    obtain ⟨t, rfl⟩ := rx
    cases y with
    | non => cases ry; exact PySem.EqNone.ne_int_none (fin_bl I q (by simp))
    | int j => obtain ⟨t', rfl⟩ := ry; exact ne_int (fin_bl I q (congrArg not dec_int))
    | str j => obtain ⟨t', rfl⟩ := ry; exact PySem.EqMixed.ne_int_str (fin_bl I q (by simp))
    | _ => exact absurd (show false = true from hs) Bool.false_ne_true
  | str i =>
    obtain ⟨t, rfl⟩ := rx
    cases y with
    | non => cases ry; exact PySem.EqNone.ne_str_none (fin_bl I q (by simp))
    | bl j => cases ry; exact PySem.EqMixed.ne_str_bool (fin_bl I q (by simp))
    | int j => obtain ⟨t', rfl⟩ := ry; exact PySem.EqMixed.ne_str_int (fin_bl I q (by simp))
    | str j => obtain ⟨t', rfl⟩ := ry; exact ne_str (fin_bl I q (congrArg not dec_str))
    | _ => exact absurd (show false = true from hs) Bool.false_ne_true
  | byt i =>
    obtain ⟨t, rfl⟩ := rx
    cases y with
    | byt j => obtain ⟨t', rfl⟩ := ry; exact PySem.W.ne_bytes (fin_bl I q (congrArg not dec_byt))
    | _ => exact absurd (show false = true from hs) Bool.false_ne_true
  | _ => cases y <;> exact absurd (show false = true from hs) Bool.false_ne_true
theorem op_lt : OpR X (compareOp .Lt) (rI0 fun i j => .bl (decide (i < j))) := opB0 fun _ _ _ _ _ _ _ q => lt_int q
theorem op_lt_str : OpR X (compareOp .Lt) (fun x y H Q => ∃ i j, x = .str i ∧ y = .str j ∧ Q (.bl (decide (i.cps.toList < j.cps.toList))) H) := by
  intro pins s σ H x y v u Q I rx ry h
  obtain ⟨i, j, rfl, rfl, q⟩ := h
  obtain ⟨t, rfl⟩ := rx
  obtain ⟨t', rfl⟩ := ry
  exact lt_str (fin_bl I q rfl)
theorem op_in_str : OpR X (compareOp .In) (fun x y H Q => ∃ i j, x = .str i ∧ y = .str j ∧ Q (.bl (!(Builtin.Str.occurrences j i 0 j.length 1).isEmpty)) H) := by
  intro pins s σ H x y v u Q I rx ry h
  obtain ⟨i, j, rfl, rfl, q⟩ := h
  obtain ⟨t, rfl⟩ := rx
  obtain ⟨t', rfl⟩ := ry
  exact in_str (fin_bl I q rfl)
theorem op_notN : OpR X (compareOp .IsNot) (fun x y H Q => y = .non ∧ Q (.bl (!decide (x = .non))) H) := by
  intro pins s σ H x y v u Q I rx ry h
  obtain ⟨rfl, q⟩ := h
  cases ry
  refine isnot_none_gen (fin_bl I q ?_)
  cases x <;> first
    | (cases rx; rfl)
    | (obtain ⟨t, rfl⟩ := rx; rfl)
theorem OpR.or {f : Value → Value → Sem Value} {r r' : R2} (h : OpR X f r) (h' : OpR X f r') : OpR X f (fun x y H Q => r x y H Q ∨ r' x y H Q) := by
  intro pins s σ H x y v u Q I rx ry q
  rcases q with q | q
  · exact h pins s σ H x y v u Q I rx ry q
  · exact h' pins s σ H x y v u Q I rx ry q
theorem nomark (b : Expr) {op : CmpOp} (h : op ≠ .In := by decide) (h2 : op ≠ .NotIn := by decide) : behindInMarks op b = false := by
  have e1 : (op == CmpOp.In) = false := by cases op <;> first | rfl | exact absurd rfl h
  have e2 : (op == CmpOp.NotIn) = false := by cases op <;> first | rfl | exact absurd rfl h2
  cases b <;> simp [behindInMarks, e1, e2]
theorem pe_cmpR {op : CmpOp} {r : R2} (ho : OpR X (compareOp op) r) (ha : PE X a ta) (hb : PE X b tb) (hm : behindInMarks op b = false) : PE X (.Compare a [op] [b] pos) (tOp r ta tb) := by
  intro pins s σ H Q I h
  exact wpAny_Compare1 (binT ha hb I h fun v u s2 x y H2 I2 rx ry q => ho pins s2 σ H2 x y v u Q I2 rx ry q) hm
noncomputable def TruV (K : PySem.W.Frag) (x : V) (H : Hp) (k : Bool) : Prop :=
  match x with
  | .non => k = false
  | .bl b => k = b
  | .int i => k = (i != 0)
  | .str y => y.length ≤ sizeLine ∧ k = ((y.length : Int) != 0)
  | .byt y => y.size ≤ sizeLine ∧ k = ((y.size : Int) != 0)
  | .ref p => (∃ xs, SqL K H p xs ∧ k = !xs.isEmpty) ∨ (∃ xs, SqT K H p xs ∧ k = !xs.isEmpty) ∨ ∃ kvs, H p = some (.dK kvs) ∧ k = !kvs.isEmpty
  | _ => False
theorem isEmpty_kv {κ : Type} {kvs : List (κ × V)} {vs : List (κ × Value)} (r : KV kvs vs) : (!vs.isEmpty) = !kvs.isEmpty := by
  cases r <;> rfl
theorem isEmpty_of {xs : List V} {its : List Value} (r : Vals xs its) : (!its.toArray.isEmpty) = !xs.isEmpty := by
  cases r <;> simp
theorem line63 : (sizeLine : Nat) < 2 ^ 63 := by rw [sizeLine_eq]; decide
theorem tru_ok : TruR X (fun x H Q => ∃ k, TruV X.K x H k ∧ Q k H) := by
  intro pins s σ H x v Q I rx h
  obtain ⟨k, e, q⟩ := h
  have hl := line63
  have hs : sizeLine = 16777216 := sizeLine_eq
  cases x with
  | non =>
    cases rx
    have e' : k = false := e
    subst e'
    exact truthy_none ⟨H, I, q⟩
  | bl b =>
    cases rx
    have e' : k = b := e
    subst e'
    exact wpAny_truthy_bool ⟨H, I, q⟩
  | int i =>
    obtain ⟨t, rfl⟩ := rx
    have e' : k = (i != 0) := e
    subst e'
    exact PySem.P.truthy_int ⟨H, I, q⟩
  | str y =>
    obtain ⟨t, rfl⟩ := rx
    obtain ⟨hy, e'⟩ : y.length ≤ sizeLine ∧ k = ((y.length : Int) != 0) := e
    subst e'
    exact PySem.P.truthy_str (by omega) ⟨H, I.tok _, q⟩
  | byt y =>
    obtain ⟨t, rfl⟩ := rx
    obtain ⟨hy, e'⟩ : y.size ≤ sizeLine ∧ k = ((y.size : Int) != 0) := e
    subst e'
    exact PySem.W.truthy_bytes (by omega) ⟨H, I.tok _, q⟩
  | ref p =>
    cases rx
    have e' : (∃ xs, SqL X.K H p xs ∧ k = !xs.isEmpty) ∨ (∃ xs, SqT X.K H p xs ∧ k = !xs.isEmpty) ∨ ∃ kvs, H p = some (.dK kvs) ∧ k = !kvs.isEmpty := e
    rcases e' with ⟨xs, hx, e'⟩ | ⟨xs, hx, e'⟩ | ⟨kvs, hx, e'⟩
    · subst e'
      obtain ⟨its, r, pl, hz⟩ := I.list hx
      have hlen := r.length
      exact wpAny_truthy_list pl.isList (by simp only [List.size_toArray]; omega) ⟨H, I.tok _, by rw [isEmpty_of r]; exact q⟩
    · subst e'
      obtain ⟨its, r, pl, hz⟩ := I.tuple hx
      have hlen := r.length
      exact truthy_tuple pl (by simp only [List.size_toArray]; omega) ⟨H, I.tok _, by rw [isEmpty_of r]; exact q⟩
    · subst e'
      obtain ⟨hz, hS, vs, r, m⟩ : kvs.length ≤ sizeLine ∧ (p == sysModules) = false ∧ ∃ vs, KV kvs vs ∧ s.heap.DictOf (mixKind X.prog X.w) p vs := I.hok p _ hx
      have hlen : kvs.length = vs.length := Paired.length r
      exact wpAny_truthy_dict hS m (by omega) ⟨H, I.tok _, by rw [isEmpty_kv r]; exact q⟩
  | _ => exact (show False from e).elim
theorem op_add_str : OpR X (binaryOp .Add) (fun x y H Q => ∃ i j, x = .str i ∧ y = .str j ∧ i.length + j.length ≤ sizeLine ∧ Q (.str (i ++ j)) H) := by
  intro pins s σ H x y v u Q I rx ry h
  obtain ⟨i, j, rfl, rfl, hz, q⟩ := h
  obtain ⟨t, rfl⟩ := rx
  obtain ⟨t', rfl⟩ := ry
  exact wpAny_guard I.tk (add_str (fun t' tk htk => ⟨.str (i ++ j), H, I.tok _, ⟨_, rfl⟩, q⟩) hz)
theorem vals1 {x : V} {us : List Value} (r : Vals [x] us) : ∃ u, us = [u] ∧ RelV x u := by
  cases r with
  | cons r1 r2 => cases r2; exact ⟨_, rfl, r1⟩
theorem vals2 {x y : V} {us : List Value} (r : Vals [x, y] us) : ∃ u w', us = [u, w'] ∧ RelV x u ∧ RelV y w' := by
  cases r with
  | cons r1 r2 =>
    cases r2 with
    | cons r3 r4 => cases r4; exact ⟨_, _, rfl, r1, r3⟩
end
end L2
namespace L2
open PySem PySem.Spec PyProof.Rows
structure ObjM (h : Heap) (x dx C : Addr) (mA : Str → Option Value) : Prop where
  obj : h.get? x = some (PySem.W.instObj C dx)
  ns : h.Ns1 dx mA
  ne : dx ≠ x
theorem lookIn_ns {h : Heap} {dx : Addr} {mA : Str → Option Value} (n : h.Ns1 dx mA) : ∃ od, h.get? dx = some od ∧ ∀ name, PySem.W.lookIn name od = some (mA name) := by
  obtain ⟨o, es, ep, ho, hd, hk, _, hm⟩ := n
  refine ⟨o, ho, fun name => ?_⟩
  have e := hm name
  unfold nsFind findBy at e
  rw [← Array.find?_toList] at e
  unfold PySem.W.lookIn
  rw [hd]
  dsimp only
  split
  · rename_i y q
    rw [q] at e
    exact congrArg some e
  · rename_i q
    rw [q] at e
    have a : es.toList.any (·.refKey) = false := by
      rw [List.any_eq_false]
      intro y hy
      obtain ⟨z, t, hkey⟩ := hk y (Array.mem_toList_iff.mp hy)
      simp [DictEntry.refKey, hkey]
    have a' : ¬ es.toList.any (·.refKey) = true := by rw [a]; exact Bool.false_ne_true
    rw [if_neg a']
    exact congrArg some e
theorem ObjM.look {h : Heap} {x dx C : Addr} {mA : Str → Option Value} (I : ObjM h x dx C mA) : ∃ od, PySem.W.InstAt h x (PySem.W.instObj C dx) C (some od) ∧ ∀ name, PySem.W.lookIn name od = some (mA name) :=
  let ⟨od, ho, hl⟩ := lookIn_ns I.ns
  ⟨od, ⟨I.obj, rfl, rfl, ho⟩, hl⟩
section
variable {prog : Program} {w : World} {A : Around} {E : Value → Shared → Prop} {s : Shared} {K : PySem.W.Frag} {x dx C f : Addr} {mA : Str → Option Value} {name : Str} {v : Value}
end
section
variable {P : Program} {w : World} {H H' : Hp} {h h' : Heap} {a C dx : Addr} {fs fs' : List (Str × V)}
theorem ins_get (hok : HOk P w H h) (e : H a = some (.ins C dx fs)) : ∃ mA, ObjM h a dx C mA ∧ (∀ f, RelO (fs.lookup f) (mA f)) ∧ PySem.Within mA (fs.map (·.1)) ∧ fs.length ≤ 1000 ∧ H dx = some (.own a) := by
  obtain ⟨d, z, ne, ob, mA, n, r, q⟩ := (show ObjOk P w H h a (.ins C dx fs) from hok a _ e)
  exact ⟨mA, ⟨ob, n, ne⟩, r, q, z, d⟩
end
structure Cls (K : PySem.W.Frag) (C : Addr) : Prop where
  pg : PySem.W.plainGet K C Str.empty = true
  hd : PySem.W.hasDictIn K C = true
  po : PySem.W.plainOver K C = true
  sa : PySem.W.findIn K (.ref C) "__setattr__" = some (some (.builtin "object.__setattr__"))
theorem Cls.get {K : PySem.W.Frag} {C : Addr} (c : Cls K C) (f : Str) : PySem.W.plainGet K C f = true := c.pg
section
variable {X : Cx} {pins : List (Addr × Obj)} {σ : St} {H : Hp} {s : Shared} {a C dx : Addr} {fs : List (Str × V)} {f : Str} {v : V} {A : Around} {E : Value → Shared → Prop}
end
section
variable {X : Cx} {o e value : Expr} {f : Str} {pos pos' tpos : Pos} {ta tv : TE}
end
section
variable {X : Cx} {pins : List (Addr × Obj)} {σ : St} {H : Hp} {s : Shared} {A : Around} {E : Value → Shared → Prop} {Q : Value → Shared → Prop} {c : Value} {b : Bool}
inductive TyOf (K : PySem.W.Frag) (H : Hp) : V → Value → Prop where
  | non : TyOf K H .non (.type "NoneType")
  | bl (x : Bool) : TyOf K H (.bl x) (.type "bool")
  | int (i : Int) : TyOf K H (.int i) (.type "int")
  | str (x : Str) : TyOf K H (.str x) (.type "str")
  | flt (x : UInt64) : TyOf K H (.flt x) (.type "float")
  | lst {a : Addr} {xs : List V} (e : H a = some (.lst xs)) : TyOf K H (.ref a) (.type "list")
  | frz {a : Addr} {o : Obj} {xs : List V} (e : H a = some (.frz o (.lst xs))) : TyOf K H (.ref a) (.type "list")
  | tup {a : Addr} {xs : List V} (e : H a = some (.tup xs)) : TyOf K H (.ref a) (.type "tuple")
  | dK {a : Addr} {kvs : List (Key × V)} (e : H a = some (.dK kvs)) : TyOf K H (.ref a) (.type "dict")
  | dT {a : Addr} {kvs : List (List Key × V)} (e : H a = some (.dT kvs)) : TyOf K H (.ref a) (.type "dict")
  | ins {a C dx : Addr} {fs : List (Str × V)} (e : H a = some (.ins C dx fs)) (cl : Cls K C) (ha : PySem.W.findIn K (.ref C) "__class__" = some (some (.builtin "object.__class__")))
      (hn : PySem.W.specialIn K (.builtin "object.__class__") "__get__" = some (some (.builtin "getset_descriptor.__get__"))) (htk : PySem.W.takesIn K (.builtin "object.__class__") = some true)
      (hm : PySem.W.mroIn K C (.type "object") = some true) : TyOf K H (.ref a) (.ref C)
theorem isinst_ok {x : V} {u t : Value} (I : Inv X pins σ H s) (rx : RelV x u) (ty : TyOf X.K H x t) (e : PySem.W.kitOne X.K t c = some b) (h : ∀ tk, Q (.bool b) { s with toks := tk }) :
    wpAny (model X.prog X.w) A (call (.builtin "isinstance") [u, c]) Q E s := by
  cases ty with
  | non => cases (show u = Value.none from rx); exact PySem.W.kia_one PySem.W.kitx_none I.kIn True.intro e (fun z => nomatch z) h
  | bl y => cases (show u = Value.bool y from rx); exact PySem.W.kia_one PySem.W.kitx_bool I.kIn True.intro e (fun z => nomatch z) h
  | int i => obtain ⟨t, q⟩ := (show ∃ t, u = Value.int i t from rx); cases q; exact PySem.W.kia_one PySem.W.kitx_int I.kIn True.intro e (fun z => nomatch z) h
  | str y => obtain ⟨t, q⟩ := (show ∃ t, u = Value.str y t from rx); cases q; exact PySem.W.kia_one PySem.W.kitx_str I.kIn True.intro e (fun z => nomatch z) h
  | flt y => obtain ⟨t, q⟩ := (show ∃ t, u = Value.float y t from rx); cases q; exact PySem.W.kia_one PySem.W.kitx_float I.kIn True.intro e (fun z => nomatch z) h
  | @lst a xs ea =>
    cases (show u = Value.ref a from rx)
    obtain ⟨_, _, n, _, h1⟩ := (show ObjOk X.prog X.w H s.heap a (.lst xs) from I.hok a _ ea)
    exact PySem.W.kia_one PySem.W.kitx_list I.kIn ⟨_, h1, rfl⟩ e (fun z => nomatch z) h
  | @frz a ob xs ea =>
    cases (show u = Value.ref a from rx)
    obtain ⟨_, _, _, n, _, h1⟩ := (show ObjOk X.prog X.w H s.heap a (.frz ob (.lst xs)) from I.hok a _ ea)
    exact PySem.W.kia_one PySem.W.kitx_list I.kIn ⟨_, h1, rfl⟩ e (fun z => nomatch z) h
  | @tup a xs ea =>
    cases (show u = Value.ref a from rx)
    obtain ⟨_, _, _, p⟩ := (show ObjOk X.prog X.w H s.heap a (.tup xs) from I.hok a _ ea)
    obtain ⟨o, h1, h2, _⟩ := p
    exact PySem.W.kia_one PySem.W.kitx_tuple I.kIn ⟨o, h1, h2⟩ e (fun z => nomatch z) h
  | @dK a kvs ea =>
    cases (show u = Value.ref a from rx)
    obtain ⟨_, _, vs, _, p⟩ := (show ObjOk X.prog X.w H s.heap a (.dK kvs) from I.hok a _ ea)
    obtain ⟨o, es, ep, h1, h2, _⟩ := p
    exact PySem.W.kia_one PySem.W.kitx_dict I.kIn ⟨o, h1, h2.1⟩ e (fun z => nomatch z) h
  | @dT a kvs ea =>
    cases (show u = Value.ref a from rx)
    obtain ⟨_, _, xs, _, o, es, ep, h1, h2, _⟩ := (show ObjOk X.prog X.w H s.heap a (.dT kvs) from I.hok a _ ea)
    exact PySem.W.kia_one PySem.W.kitx_dict I.kIn ⟨o, h1, h2.1⟩ e (fun z => nomatch z) h
  | @ins a C dx fs ea cl ha hn htk hm =>
    cases (show u = Value.ref a from rx)
    obtain ⟨mA, O, _⟩ := ins_get I.hok ea
    obtain ⟨od, J, _⟩ := O.look
    exact PySem.W.kia_one (PySem.W.kitx_own (cl.get _) cl.hd ha hn htk hm) I.kIn J e (fun z => nomatch z) h
end
end L2
namespace L2
open PySem PySem.Spec PyProof.Rows
structure Room (k : Nat) (A : Around) : Prop where
  hd : A.handled = none
  dp : A.depth + 3 * k + 5 < recursionLimit
  un : A.units + 16 * k + 200 < cLine
theorem Room.mono {j k : Nat} {A : Around} (r : Room k A) (h : j ≤ k) : Room j A := ⟨r.hd, by have := r.dp; omega, by have := r.un; omega⟩
theorem Room.deeper {k : Nat} {A : Around} (r : Room (k + 1) A) (env : Env) : Room k (A.deeper env) :=
  ⟨r.hd, by have := r.dp; show A.depth + 1 + 3 * k + 5 < _; omega, by have := r.un; show A.units + 3 + 16 * k + 200 < _; omega⟩
theorem Room.in1 {k : Nat} {A : Around} (r : Room (k + 1) A) : Room k A.in1 :=
  ⟨r.hd, by have := r.dp; show A.depth + 3 * k + 5 < _; omega, by have := r.un; show A.units + 1 + 16 * k + 200 < _; omega⟩
theorem Room.depth {k : Nat} {A : Around} (r : Room k A) : A.depth < recursionLimit := by have := r.dp; omega
theorem Room.units {k : Nat} {A : Around} (r : Room k A) : A.units + 64 < cLine := by have := r.un; omega
noncomputable def tNil : TA := fun _ H Q => Q [] H
noncomputable def tCons (ta : TE) (tr : TA) : TA := fun σ H Q => ta σ H fun x H1 => tr σ H1 fun xs H2 => Q (x :: xs) H2
section
variable {X : Cx} {e : Expr} {es : List Expr} {te : TE} {t : TA} {pos : Pos}
theorem pa_nil : PA X [] tNil := fun _ _ _ _ H Q I h => Calls.spliced_nil ⟨[], H, I, .nil, h⟩
theorem pa_cons (ha : PE X e te) (hr : PA X es t) (hs : starEach (e :: es) X.env = (false, eval e X.env) :: starEach es X.env := by rfl) : PA X (e :: es) (tCons te t) := by
  intro pos pins s σ H Q I h
  rw [hs]
  show wpAny _ _ (spliced ((false, eval e X.env) :: backTo pos (starEach es X.env))) _ _ s
  refine Calls.spliced_cons (thn (ha pins s σ H _ I h) fun u s1 hh => exF hh fun x H1 I1 r1 q1 => ?_)
  exact thn (hr pos pins s1 σ H1 _ I1 q1) fun us s2 hh => exF hh fun xs H2 I2 r2 q2 => ⟨x :: xs, H2, I2, .cons r1 r2, q2⟩
noncomputable def tTup (t : TA) : TE := fun σ H Q => t σ H fun xs H1 => xs.length ≤ sizeLine ∧ ∀ p, H1 p = none → Q (.ref p) (upd H1 p (.tup xs))
noncomputable def tLst (t : TA) : TE := fun σ H Q => t σ H fun xs H1 => xs.length ≤ sizeLine ∧ ∀ p, H1 p = none → Q (.ref p) (upd H1 p (.lst xs))
theorem pe_tup {x1} (h : PA X es t) : PE X (.Tuple es x1 pos) (tTup t) := by
  intro pins s σ H Q I hq
  refine wpAny_Tuple_spliced (thn (h pos pins s σ H _ I hq) fun us s1 ⟨xs, H1, I1, r, z, q⟩ => ⟨by rw [← r.length]; exact z, ?_⟩)
  have hf : H1 s1.heap.objs.size = none := I1.hok.fresh (Nat.le_refl _)
  refine ⟨.ref s1.heap.objs.size, upd H1 s1.heap.objs.size (.tup xs), I1.laid (t' := s1.toks) (fun b u e => Heap.get?_push_of_some _ e) (Nat.le_refl _) ?_, rfl, q _ hf⟩
  exact ⟨z, us, r, ⟨_, Heap.get?_push_size _ rfl, rfl, _, rfl⟩⟩
theorem pe_lst (h : PA X es t) : PE X (.List es pos) (tLst t) := by
  intro pins s σ H Q I hq
  refine wpAny_List_spliced (thn (h pos pins s σ H _ I hq) fun us s1 ⟨xs, H1, I1, r, z, q⟩ => ⟨by rw [← r.length]; exact z, ?_⟩)
  have hf : H1 s1.heap.objs.size = none := I1.hok.fresh (Nat.le_refl _)
  refine ⟨.ref s1.heap.objs.size, upd H1 s1.heap.objs.size (.lst xs), I1.laid (t' := s1.toks) (fun b u e => Heap.get?_push_of_some _ e) (Nat.le_refl _) ?_, rfl, q _ hf⟩
  exact ⟨z, us, 0, r, Heap.get?_push_size _ rfl⟩
end
noncomputable abbrev Sp := List V → Hp → VK → XK → Prop
noncomputable abbrev CXT := List Env → Hp → Shared → XK → Value → Shared → Prop
structure Env0 (P : Program) (w : World) (K : PySem.W.Frag) (mg : Str → Option Value) (base : Heap) (A : Around) (outer : List Env) (s : Shared) (H : Hp) : Prop where
  frames : A.frames = some outer
  mod : Mod K mg base
  bs : ∀ b o, base.get? b = some o → s.heap.get? b = some o ∧ H b = none
  bsz : base.objs.size ≤ s.heap.objs.size
  funs : s.heap.FunFrames base outer
  frf : ∀ b ∈ frs outer, H b = none
  hok : HOk P w H s.heap
  bare : AllBare s.gens
noncomputable def CE (outer : List Env) (P : Program) (w : World) (H : Hp) (s : Shared) (Q : VK) (u : Value) (s' : Shared) : Prop :=
  ∃ v H', s'.os = s.os ∧ AllBare s'.gens ∧ Un (frs outer) [] H H' s.heap s'.heap ∧ HOk P w H' s'.heap ∧ RelV v u ∧ Q v H'
noncomputable def CR (CX : CXT) (outer : List Env) (P : Program) (w : World) (H : Hp) (s : Shared) (Q : VK) (E : XK) (r : Result) (s' : Shared) : Prop :=
  match r with
  | .ok (.ret u) => CE outer P w H s Q u s'
  | .ok _ => False
  | .error e => CX outer H s E e s'
structure FnOk (P : Program) (w : World) (K : PySem.W.Frag) (mg : Str → Option Value) (base : Heap) (CX : CXT) (k : Nat) (f : Addr) (fd : FuncData) (ps : List Str) (sp : Sp) : Prop where
  len : ∀ vs H Q E, sp vs H Q E → vs.length = ps.length
  run : ∀ (A : Around) (outer : List Env) (s : Shared) (H : Hp) (args : Args) (us : List Value) (vs : List V) (Q : VK) (E : XK), Room k A → Env0 P w K mg base A outer s H → BindsTo s fd args (ps.zip us) → Vals vs us → sp vs H Q E →
    codeAny (model P w) A (.call (.ref f) args) (CR CX outer P w H s Q E) s
theorem FnOk.imp {P : Program} {w : World} {K : PySem.W.Frag} {mg : Str → Option Value} {base : Heap} {CX : CXT} {k : Nat} {f : Addr} {fd : FuncData} {ps : List Str} {sp sp' : Sp} (F : FnOk P w K mg base CX k f fd ps sp)
    (h : ∀ vs H Q E, sp' vs H Q E → sp vs H Q E) : FnOk P w K mg base CX k f fd ps sp' :=
  ⟨fun vs H Q E q => F.len vs H Q E (h _ _ _ _ q), fun A outer s H args us vs Q E hr he hb hv hs => F.run A outer s H args us vs Q E hr he hb hv (h _ _ _ _ hs)⟩
theorem Env0.in1 {P : Program} {w : World} {K : PySem.W.Frag} {mg : Str → Option Value} {base : Heap} {A : Around} {outer : List Env} {s : Shared} {H : Hp} (e : Env0 P w K mg base A outer s H) :
    Env0 P w K mg base A.in1 outer s H := ⟨e.frames, e.mod, e.bs, e.bsz, e.funs, e.frf, e.hok, e.bare⟩
section
variable {X : Cx} {pins : List (Addr × Obj)} {σ : St} {H : Hp} {s s' : Shared}
theorem Inv.env0 (I : Inv X pins σ H s) : Env0 X.prog X.w X.K X.mg X.base X.A X.stack s H :=
  ⟨I.ok.frames, I.ok.mod, I.bs, Nat.le_trans I.ok.bsz I.sz, I.stack, I.stkFree, I.hok, I.bare⟩
theorem Inv.after {Q : VK} {u : Value} (I : Inv X pins σ H s) (h : CE X.stack X.prog X.w H s Q u s') (ht : X.tn ≤ s'.toks := by walk_at "tok") : EP X pins σ Q u s' := by
  obtain ⟨v, H', os, bare, un, hok, r, q⟩ := h
  obtain ⟨hh, g, d, t, os'⟩ := s'
  obtain rfl : os' = s.os := os
  exact ⟨v, H', I.call (h' := hh) (g' := g) (d' := d) (t' := t) (ch := []) un hok bare (fun b z => absurd z (by simp)), r, q⟩
end
noncomputable def Binds (K : PySem.W.Frag) (fd : FuncData) (ps : List Str) (ds : List Value) : Prop :=
  ∀ (s : Shared) (us : List Value), K.In s.heap → (us ++ ds).length = ps.length → BindsTo s fd ⟨us, []⟩ (ps.zip (us ++ ds))
theorem Binds.all {K : PySem.W.Frag} {fd : FuncData} {ps : List Str} (h : ∀ us : List Value, us.length = ps.length → bindArgs fd ⟨us, []⟩ = pure (ps.zip us)) : Binds K fd ps [] := fun s us _ hl => by
  rw [List.append_nil] at hl ⊢
  exact .of_eq (h us hl)
noncomputable def Passes (CX : CXT) (X : Cx) (E : XK) : Prop := ∀ (pins : List (Addr × Obj)) (σ : St) (H : Hp) (s : Shared) (e : Value) (s' : Shared), Inv X pins σ H s → CX X.stack H s E e s' → X.xe e s'
section
variable {X : Cx} {CX : CXT} {k : Nat} {f C : Addr} {fd : FuncData} {ps : List Str} {sp : Sp} {dvs : List V} {ds : List Value} {E : XK} {x m : Str} {p pos apos : Pos} {e o : Expr} {es : List Expr} {ta : TE} {t : TA}
theorem run_fn {pins : List (Addr × Obj)} {σ : St} {H : Hp} {s : Shared} {Q : VK} {us : List Value} {vs : List V} (F : FnOk X.prog X.w X.K X.mg X.base CX k f fd ps sp) (hr : Room k X.A) (hb : Binds X.K fd ps ds) (hd : Vals dvs ds) (hx : Passes CX X E)
    (I : Inv X pins σ H s) (r : Vals vs us) (h : sp (vs ++ dvs) H Q E) : wpAny (model X.prog X.w) X.A (call (.ref f) us) (EP X pins σ Q) X.xe s := by
  have r2 : Vals (vs ++ dvs) (us ++ ds) := r.append hd
  have hl : (us ++ ds).length = ps.length := by rw [← r2.length]; exact F.len _ _ _ _ h
  refine wpAny_call (codeAny_guard I.tk (codeAny_mono (F.run X.A X.stack s H ⟨us, []⟩ (us ++ ds) (vs ++ dvs) Q E hr I.env0 (hb s us I.kIn hl) r2 h) fun r s' hq htk => ?_))
  cases r with
  | error e => exact hx pins σ H s e s' I hq
  | ok fl =>
    cases fl with
    | ret u => exact I.after hq
    | next => exact False.elim hq
    | brk => exact False.elim hq
    | cont => exact False.elim hq
end
section
variable {X : Cx} {CX : CXT} {k : Nat} {f C : Addr} {fd : FuncData} {ps ks : List Str} {sp : Sp} {E : XK} {x m : Str} {p pos apos kpos : Pos} {e o : Expr} {es : List Expr} {kws : List Keyword} {te ta : TE} {t tk : TA} {nm : Option Str}
variable {g : List Value → List Value → List Value} {gV : List V → List V → List V}
end
structure FnScope (N P : List Str) (sc : Scope) : Prop where
  kind : sc.kind = .function
  co : sc.isCoroutine = false
  gen : sc.isGenerator = false
  nd : N.Nodup
  pre : N.take P.length = P
  par : ∀ x ∈ P, sc.names.lookup x = some .local ∨ sc.names.lookup x = some .cell
  nofree : ∀ y ∈ sc.names, y.2 ≠ .free
theorem bindL_out {kindOf : Str → Option NameKind} {x : Str} : ∀ {binds : List (Str × Value)} {m : Str → Option Value}, (∀ v, (x, v) ∉ binds) → bindL kindOf binds m x = m x
  | [], _, _ => rfl
  | (n, v) :: r, m, h => by
    unfold bindL
    rw [bindL_out fun w hw => h w (List.mem_cons_of_mem _ hw)]
    split
    · have : x ≠ n := by rintro rfl; exact h v List.mem_cons_self
      simp [this]
    · rfl
theorem bindC_out {kindOf : Str → Option NameKind} {x : Str} : ∀ {binds : List (Str × Value)} {m : Str → Option Value}, (∀ v, (x, v) ∉ binds) → bindC kindOf binds m x = m x
  | [], _, _ => rfl
  | (n, v) :: r, m, h => by
    unfold bindC
    rw [bindC_out fun w hw => h w (List.mem_cons_of_mem _ hw)]
    split
    · rfl
    · have : x ≠ n := by rintro rfl; exact h v List.mem_cons_self
      simp [this]
theorem bindL_get {kindOf : Str → Option NameKind} {x : Str} {v : Value} : ∀ {P : List Str} {vs : List Value} {i : Nat} {m : Str → Option Value}, P.Nodup → P[i]? = some x → vs[i]? = some v → kindOf x = some .local →
    bindL kindOf (P.zip vs) m x = some v
  | [], _, _, _, _, h, _, _ => by simp at h
  | _ :: _, [], _, _, _, _, h, _ => by simp at h
  | p :: P, w :: vs, 0, m, nd, h1, h2, hk => by
    simp at h1 h2; subst h1; subst h2
    show bindL kindOf ((p, w) :: P.zip vs) m p = _
    unfold bindL
    rw [bindL_out fun v hv => (List.nodup_cons.mp nd).1 (List.of_mem_zip hv).1, if_pos hk]
    simp
  | p :: P, w :: vs, i + 1, m, nd, h1, h2, hk => by
    show bindL kindOf ((p, w) :: P.zip vs) m x = _
    unfold bindL
    exact bindL_get (i := i) (List.nodup_cons.mp nd).2 (by simpa using h1) (by simpa using h2) hk
theorem bindC_get {kindOf : Str → Option NameKind} {x : Str} {v : Value} : ∀ {P : List Str} {vs : List Value} {i : Nat} {m : Str → Option Value}, P.Nodup → P[i]? = some x → vs[i]? = some v → kindOf x ≠ some .local →
    bindC kindOf (P.zip vs) m x = some v
  | [], _, _, _, _, h, _, _ => by simp at h
  | _ :: _, [], _, _, _, _, h, _ => by simp at h
  | p :: P, w :: vs, 0, m, nd, h1, h2, hk => by
    simp at h1 h2; subst h1; subst h2
    show bindC kindOf ((p, w) :: P.zip vs) m p = _
    unfold bindC
    rw [bindC_out fun v hv => (List.nodup_cons.mp nd).1 (List.of_mem_zip hv).1, if_neg hk]
    simp
  | p :: P, w :: vs, i + 1, m, nd, h1, h2, hk => by
    show bindC kindOf ((p, w) :: P.zip vs) m x = _
    unfold bindC
    exact bindC_get (i := i) (List.nodup_cons.mp nd).2 (by simpa using h1) (by simpa using h2) hk
noncomputable def start (N : List Str) (vs : List V) : St := vs.map some ++ List.replicate (N.length - vs.length) none
noncomputable def cxOf (CX : CXT) (P : Program) (w : World) (K : PySem.W.Frag) (mg : Str → Option Value) (base : Heap) (N : List Str) (qual : Str) (scope : Scope) (f : Addr) (cd : Value) (A : Around) (outer : List Env) (s : Shared) (H : Hp) (E : XK) : Cx where
  prog := P
  w := w
  K := K
  mg := mg
  base := base
  A := A.deeper (envOfC qual scope s.heap.objs.size f cd)
  N := N
  s₀ := s
  H₀ := H
  env := envOfC qual scope s.heap.objs.size f cd
  outer := outer
  stack := envOfC qual scope s.heap.objs.size f cd :: outer
  ex := []
  calm := true
  fn := fun _ => true
  pn := []
  xe := fun e s' => wpAny (model P w) (A.deeper (envOfC qual scope s.heap.objs.size f cd)) (leaving (envOfC qual scope s.heap.objs.size f cd) e) (fun _ s'' => CX outer H s E e s'') (fun e' s'' => CX outer H s E e' s'') s'
theorem cell_has {sc : Scope} {n : Nat} {x : Str} (h : sc.names.lookup x = some .cell) : ∃ c, (cellsFrom n sc.names []).lookup x = some c := by
  have q := PySem.W.cellsFrom_some sc.names n [] (.inl h)
  exact Option.isSome_iff_exists.mp q
theorem inv_start {CX : CXT} {P : Program} {w : World} {K : PySem.W.Frag} {mg : Str → Option Value} {base : Heap} {N ps : List Str} {qual : Str} {scope : Scope} {f : Addr} {cd : Value} {A : Around} {outer : List Env} {s s1 : Shared} {H : Hp} {E : XK} {us : List Value} {vs : List V}
    (S : FnScope N ps scope) (hd : A.handled = none) (e0 : Env0 P w K mg base A outer s H) (hl : vs.length = ps.length) (r : Vals vs us)
    (x : InCallC s s.heap.objs.size (bindL (envOfC qual scope s.heap.objs.size f cd).kindOf (ps.zip us) fun _ => none) (cellsFrom (s.heap.objs.size + 1) scope.names []) (bindC (envOfC qual scope s.heap.objs.size f cd).kindOf (ps.zip us) fun _ => none) s1) :
    Inv (cxOf CX P w K mg base N qual scope f cd A outer s H E) [] (start N vs) H s1 := by
  have hpl : ps.length ≤ N.length := by have := congrArg List.length S.pre; rw [List.length_take] at this; omega
  obtain ⟨h1, tk, rfl, hk⟩ := x.done
  have noA : ∀ b : Addr, b ∉ (cxOf CX P w K mg base N qual scope f cd A outer s H E).ex := fun b z => absurd (show b ∈ ([] : List Addr) from z) (by simp)
  refine ⟨⟨e0.mod, S.kind, rfl, rfl, Nat.le_refl _, fun y z c h1 h2 => ?_, fun y hy => ?_, fun y c _ h => ?_, fun _ => hd, Around.frames_deeper e0.frames, .inr ⟨rfl, rfl⟩, fun b z => absurd z (noA b), e0.bs, e0.bsz, fun b _ _ => noA b, fun b z => absurd z (noA b), e0.funs, e0.frf⟩,
    rfl, e0.bare, Un.kept hk, ⟨_, x.toInCall.ns, fun i y v h1 h2 h3 => ?_⟩, fun y c h => ⟨_, x.cell y c h⟩, e0.hok.fresh (Nat.le_refl _), fun y c h => ?_, fun p hp => absurd (show p ∈ ([] : List (Addr × Obj)) from hp) (by simp), e0.hok.kept hk, ?_, Nat.zero_le _⟩
  · exact name_of_addr x.apart (PySem.mem_of_lookup h1) (PySem.mem_of_lookup h2)
  · have hy : scope.names.lookup y = some .cell ∨ scope.names.lookup y = some .free := hy
    rcases hy with hy | hy
    · exact cell_has hy
    · exact absurd rfl (S.nofree _ (PySem.mem_of_lookup hy))
  · exact Nat.le_of_lt (x.above y c (PySem.mem_of_lookup h))
  · have hi : i < vs.length := by
      unfold start at h2
      by_cases hi : i < vs.length
      · exact hi
      · rw [List.getElem?_append_right (by simpa using hi)] at h2
        rw [List.getElem?_replicate] at h2
        split at h2 <;> cases h2
    have ha : vs[i]? = some v := by
      unfold start at h2
      rw [List.getElem?_append_left (by simpa using hi), List.getElem?_map] at h2
      cases e : vs[i]? with
      | none => rw [e] at h2; cases h2
      | some a => rw [e] at h2; cases h2; rfl
    obtain ⟨u, hu, rv⟩ := r.get ha
    have hp : ps[i]? = some y := by
      rw [← S.pre, List.getElem?_take_of_lt (by omega)]; exact h1
    have ndP : ps.Nodup := by rw [← S.pre]; exact S.nd.sublist (List.take_sublist _ _)
    refine ⟨u, rv, ?_⟩
    rcases S.par y (List.mem_of_getElem? hp) with k | k
    · exact .inl ⟨k, bindL_get ndP hp hu k⟩
    · obtain ⟨c, e⟩ := cell_has (n := s.heap.objs.size + 1) k
      refine .inr ⟨.inl k, c, e, ?_⟩
      have q := x.cell y c e
      rw [bindC_get ndP hp hu (by show scope.names.lookup y ≠ _; rw [k]; decide)] at q
      exact q
  · exact e0.hok.fresh (Nat.le_of_lt (x.above y c (PySem.mem_of_lookup h)))
  · unfold start
    show _ = N.length
    rw [List.length_append, List.length_map, List.length_replicate]
    omega
theorem fn_of {CX : CXT} {P : Program} {w : World} {K : PySem.W.Frag} {mg : Str → Option Value} {base : Heap} {k : Nat} {f : Addr} {name qual : Str} {params : Arguments} {body : List Stmt} {scope : Scope} {dV kV doc pm cdv ct oc : Value} {an od : Option Addr}
    {osl : Array (Option Value)} {N ps : List Str} {sp : Sp} (lk : K.lookup f = some ⟨oc, od, .func (PySem.W.fnOf name qual params body scope dV kV doc pm an cdv ct), osl⟩) (hcd : PySem.W.codeIn K cdv qual = true) (S : FnScope N ps scope)
    (len : ∀ vs H Q E, sp vs H Q E → vs.length = ps.length)
    (hbody : ∀ (A : Around) (outer : List Env) (s : Shared) (H : Hp) (vs : List V) (Q : VK) (E : XK), Room k (A.deeper (envOfC qual scope s.heap.objs.size f cdv)) → sp vs H Q E →
      ∃ t, PSs (cxOf CX P w K mg base N qual scope f cdv A outer s H E) body t ∧ t { nx := fun _ H' => Q .non H', rt := Q } (start N vs) H) :
    FnOk P w K mg base CX (k + 1) f (PySem.W.fnOf name qual params body scope dV kV doc pm an cdv ct) ps sp := by
  refine ⟨len, fun A outer s H args us vs Q E hr e0 hb r hsp => ?_⟩
  have hl := len _ _ _ _ hsp
  have KX : K.In s.heap := e0.mod.kin.keeps fun b o e => (e0.bs b o e).1
  have lim : s.heap.NoLimit := e0.mod.nolimit.keeps fun b o e => (e0.bs b o e).1
  have hkind : ∀ y ∈ ps.zip us, scope.names.lookup y.1 = some .local ∨ (scope.names.lookup y.1 = some .cell ∧ ((cellsFrom (s.heap.objs.size + 1) scope.names []).lookup y.1).isSome = true) := fun ⟨n, v⟩ hy => by
    rcases S.par n (List.of_mem_zip hy).1 with q | q
    · exact .inl q
    · exact .inr ⟨q, PySem.W.cellsFrom_some _ _ _ (.inl q)⟩
  refine codeAny_call_function hr.depth (KX _ _ lk) rfl S.co S.gen rfl (PySem.W.codeRec_of KX hcd) (hb _ _ _ _ ?_)
  refine wpAny_newFunctionEnv_cells S.kind hkind fun env he s1 x => ?_
  subst he
  refine ⟨lim.keeps x.toInCall.keep, codeAny_func ?_⟩
  obtain ⟨t, ht, hq⟩ := hbody A outer s H vs Q E (hr.deeper _) hsp
  have I : Inv (cxOf CX P w K mg base N qual scope f cdv A outer s H E) [] (start N vs) H s1 := inv_start S hr.hd e0 hl r x
  refine wpAny_mono (ht [] s1 (start N vs) H _ I hq) (fun fl s' hs => ?_) fun e s' hs => hs
  have fin : ∀ {σ' : St} {H' : Hp} {v : V} {u : Value}, Inv (cxOf CX P w K mg base N qual scope f cdv A outer s H E) [] σ' H' s' → RelV v u → Q v H' → CE outer P w H s Q u s' :=
    fun {σ' H' v u} J rv q => ⟨v, H', J.os, J.bare, J.base, J.hok, rv, q⟩
  cases fl with
  | ret u =>
    obtain ⟨v, σ', H', J, rv, q⟩ := hs
    exact fin J rv q
  | next =>
    obtain ⟨σ', H', J, q⟩ := hs
    exact fin (v := V.non) (u := Value.none) J rfl q
  | brk =>
    obtain ⟨_, _, _, q⟩ := hs
    exact False.elim q
  | cont =>
    obtain ⟨_, _, _, q⟩ := hs
    exact False.elim q
end L2
namespace L2
open PySem PySem.Spec PyProof.Rows
section
variable {X : Cx} {x : Str} {p pos : Pos} {e : Expr} {es : List Expr} {t : TA} {id T : String} {r : List V → Hp → VK → Prop}
noncomputable def tCB (r : List V → Hp → VK → Prop) (t : TA) : TE := fun σ H Q => t σ H fun vs H1 => r vs H1 Q
theorem pe_callB (hc : CallR X (.builtin id) r) (hg : Gl X x) (hm : X.mg x = none) (hv : bootBuiltins x = some (.builtin id)) (ha : PA X (e :: es) t) (hn : x ≠ "__name__" := by decide) (hdb : (x == ("__debug__" : Str)) = false := by decide)
    (he : starEach (e :: es) X.env = (false, eval e X.env) :: starEach es X.env := by rfl) (hpl : (backTo pos (starEach es X.env)).any (·.1) = false := by rfl) : PE X (.Call (.Name x p) (e :: es) [] pos) (tCB r t) := by
  intro pins s σ H Q I h
  refine wpAny_Call_Name_kw (ld_blt I hg hm hv ?_ hn hdb)
  exact PyProof.Rows.callWith_builtin1 (thn (ha pos pins s σ H _ I h) fun us s1 hh => exF hh fun vs H1 I1 r1 q1 => hc pins s1 σ H1 vs us Q I1 r1 q1) he hpl
theorem pe_callTy (hc : CallR X (.type T) r) (hg : Gl X x) (hm : X.mg x = none) (hv : bootBuiltins x = some (.type T)) (ha : PA X (e :: es) t) (hn : x ≠ "__name__" := by decide) (hdb : (x == ("__debug__" : Str)) = false := by decide)
    (he : starEach (e :: es) X.env = (false, eval e X.env) :: starEach es X.env := by rfl) (hpl : (backTo pos (starEach es X.env)).any (·.1) = false := by rfl) : PE X (.Call (.Name x p) (e :: es) [] pos) (tCB r t) := by
  intro pins s σ H Q I h
  refine wpAny_Call_Name_kw (ld_blt I hg hm hv ?_ hn hdb)
  exact PyProof.Rows.callWith_type1 (thn (ha pos pins s σ H _ I h) fun us s1 hh => exF hh fun vs H1 I1 r1 q1 => hc pins s1 σ H1 vs us Q I1 r1 q1) he hpl
end
end L2
namespace HT
open PySem PyProof.Rows
section
open PySem.SeqAt
open PySem.AutoSeq1 (wpAny_loadPart')
open PySem.MeetsSeq PySem.MeetsSeq2 PySem.MeetsSeq3
end
section
variable {prog : Program} {w : World} {A : Around} {E : Value → Shared → Prop} {s : Shared}
theorem cat_tup {t b : Addr} {vs ws : List Value} {Q : Value → Shared → Prop} (ht : IsTup s.heap t vs.toArray) (hb : IsTup s.heap b ws.toArray) (hv : vs ≠ [])
    (h1 : ws = [] → Q (.ref t) s) (h2 : ws ≠ [] → Q (.ref s.heap.objs.size) { s with heap := s.heap.push { cls := .type "tuple", data := .seq (vs ++ ws).toArray } })
    (hsz : vs.length + ws.length ≤ sizeLine) : wpAny (model prog w) A (binaryOp .Add (.ref t) (.ref b)) Q E s := by
  obtain ⟨⟨cls, dd, data, sl⟩, ho, hc, n, hd⟩ := id ht
  obtain ⟨⟨cls2, dd2, data2, sl2⟩, ho2, hc2, n2, hd2⟩ := id hb
  simp only at hc hd hc2 hd2
  subst hc hd hc2 hd2
  have e : vs.toArray ++ ws.toArray = (vs ++ ws).toArray := by simp
  by_cases hw : ws = []
  · exact concat_meets ⟨_, ho, rfl⟩ ⟨_, ho2, rfl⟩ noFill_tuple_add seq_tuple_add PySem.F.slot_tuple_add PySem.F.entry_tuple_add (PySem.F.args_tuple_add_2 _ _)
      (tuple_addW1 t b vs.toArray ws.toArray n n2 dd dd2 sl sl2 (by simpa using hv) (by simp [hw])) ⟨ho, ho2, h1 hw⟩
  · refine concat_meets ⟨_, ho, rfl⟩ ⟨_, ho2, rfl⟩ noFill_tuple_add seq_tuple_add PySem.F.slot_tuple_add PySem.F.entry_tuple_add (PySem.F.args_tuple_add_2 _ _)
      (tuple_addW2 t b vs.toArray ws.toArray n n2 dd dd2 sl sl2 (by simpa using hv) (by simpa using hw) (by rw [List.size_toArray, List.size_toArray]; exact hsz)) ⟨ho, ho2, ?_⟩
    rw [e]
    exact h2 hw
noncomputable def sIx (n d : Nat) : Option Int → Nat
  | none => d
  | some v => if v < 0 then (v + (n : Int)).toNat else min v.toNat n
theorem sIx_nat (n d k : Nat) : sIx n d (some (k : Int)) = min k n := by
  show (if (k : Int) < 0 then ((k : Int) + (n : Int)).toNat else min (k : Int).toNat n) = min k n
  rw [if_neg (by omega), Int.toNat_natCast]
theorem sIx_le (n d : Nat) (hd : d ≤ n) (o : Option Int) : sIx n d o ≤ n := by
  cases o with
  | none => exact hd
  | some v =>
    show (if v < 0 then (v + (n : Int)).toNat else min v.toNat n) ≤ n
    by_cases hv : v < 0
    · rw [if_pos hv]; omega
    · rw [if_neg hv]; exact Nat.min_le_right _ _
theorem clip_eq (v : Int) (n d : Nat) : (if v < 0 then max (v + (n : Int)) 0 else min v (n : Int)) = ((sIx n d (some v) : Nat) : Int) := by
  show (if v < 0 then max (v + (n : Int)) 0 else min v (n : Int)) = (((if v < 0 then (v + (n : Int)).toNat else min v.toNat n) : Nat) : Int)
  by_cases hv : v < 0
  · simp only [if_pos hv]; omega
  · simp only [if_neg hv]; omega
theorem adjust_gen (lo hi : Option Int) (n : Nat) : Builtin.Slice.sliceAdjust lo hi 1 (n : Int) = (((sIx n 0 lo : Nat) : Int), ((sIx n n hi : Nat) : Int)) := by
  have h1 : ¬ ((1 : Int) < 0) := by omega
  unfold Builtin.Slice.sliceAdjust
  simp only [h1, if_false]
  refine Prod.ext ?_ ?_
  · cases lo with
    | none => rfl
    | some v => exact clip_eq v n 0
  · cases hi with
    | none => rfl
    | some v => exact clip_eq v n n
theorem places_gen (i j : Nat) : Builtin.Slice.slicePlaces (i : Int) (j : Int) 1 = j - i := by
  unfold Builtin.Slice.slicePlaces
  have h1 : (1 : Int) > 0 := by omega
  simp only [h1, if_true, Int.ediv_one]
  split <;> omega
theorem slicePart_ {v : Value} {o : Option Int} {Q : Option Int → Shared → Prop} (p : IsPart v o) (h : Q o s) : wpAny (model prog w) A (Builtin.Slice.slicePartIndex v) Q E s := by
  cases p with
  | none => exact slicePart_none h
  | int i t => exact slicePart_int h
theorem sliceApplied_gen {sl : Addr} {vl vu : Value} {lo hi : Option Int} {n : Nat} {Q : Int × Int × Nat → Shared → Prop} (hs : s.heap.IsSliceOf sl vl vu .none) (pl : IsPart vl lo) (pu : IsPart vu hi)
    (h : Q (((sIx n 0 lo : Nat) : Int), 1, sIx n n hi - sIx n 0 lo) s) : wpAny (model prog w) A (Builtin.Slice.sliceApplied (.ref sl) (pure (n : Int))) Q E s := by
  obtain ⟨os, hos, hcs, hds⟩ := id hs
  unfold Builtin.Slice.sliceApplied Builtin.Slice.sliceFields
  refine wpAny_bind (wpAny_bind (wpAny_field hos hds (x := vl) rfl (wpAny_bind (wpAny_field hos hds (x := vu) rfl (wpAny_bind (wpAny_field hos hds (x := .none) rfl (wpAny_pure ?_)))))))
  refine wpAny_bind (slicePart_none ?_)
  show wpAny _ _ (if ((1 : Int) == 0) = true then _ else _) _ _ s
  rw [if_neg (by decide)]
  refine wpAny_bind (slicePart_ pl (wpAny_bind (slicePart_ pu (wpAny_bind (wpAny_pure ?_)))))
  show wpAny _ _ (match Builtin.Slice.sliceAdjust lo hi 1 (n : Int) with | (lo, hi) => pure (lo, (1 : Int), Builtin.Slice.slicePlaces lo hi 1)) _ _ s
  rw [adjust_gen lo hi n]
  show wpAny _ _ (pure (((sIx n 0 lo : Nat) : Int), (1 : Int), Builtin.Slice.slicePlaces ((sIx n 0 lo : Nat) : Int) ((sIx n n hi : Nat) : Int) 1)) _ _ s
  rw [places_gen]
  exact wpAny_pure h
theorem pick_gen (xs : Array Value) (i k : Nat) : ((List.range k).filterMap fun (m : Nat) => xs[((i : Int) + (m : Int) * 1).toNat]?).toArray = ((xs.toList.drop i).take k).toArray := by
  have e : (fun (m : Nat) => xs[((i : Int) + (m : Int) * 1).toNat]?) = fun m => xs[i + m]? := by
    funext m
    have : ((i : Int) + (m : Int) * 1).toNat = i + m := by omega
    rw [this]
  rw [e]
  have := pick_run xs i k
  rw [List.filterMap_map] at this
  have e2 : ((fun x => xs[x]?) ∘ fun x => i + x) = fun m => xs[i + m]? := rfl
  rw [e2] at this
  rw [this]
theorem getItem_tuple_cut {t sl : Addr} {items : Array Value} {vl vu : Value} {lo hi : Option Int} {Q : Value → Shared → Prop} (ht : IsTup s.heap t items) (hs : s.heap.IsSliceOf sl vl vu .none) (pl : IsPart vl lo) (pu : IsPart vu hi)
    (hw : ¬ (sIx items.size 0 lo = 0 ∧ sIx items.size items.size hi = items.size))
    (h : Q (.ref s.heap.objs.size) { s with heap := s.heap.push { cls := .type "tuple", data := .seq ((items.toList.drop (sIx items.size 0 lo)).take (sIx items.size items.size hi - sIx items.size 0 lo)).toArray } })
    (hsz : items.size ≤ sizeLine) : wpAny (model prog w) A (getItem (.ref t) (.ref sl)) Q E s := by
  have htake : sizeOk (.seq ((items.toList.drop (sIx items.size 0 lo)).take (sIx items.size items.size hi - sIx items.size 0 lo)).toArray) := by
    show ((items.toList.drop (sIx items.size 0 lo)).take (sIx items.size items.size hi - sIx items.size 0 lo)).toArray.size ≤ sizeLine
    rw [List.size_toArray, List.length_take, List.length_drop, Array.length_toList]
    omega
  have hj : sIx items.size items.size hi ≤ items.size := sIx_le _ _ (Nat.le_refl _) hi
  obtain ⟨os, hos, hcs, hds⟩ := id hs
  have hTs : s.TypeIs (.ref sl) "slice" := ⟨os, hos, hcs⟩
  unfold getItem
  try with_reducible refine wpAny_holding ?_
  first | refine wpAny_bind (wpAny_pure ?_) | skip
  refine wpAny_bind (wpAny_sequenceKey ht.typeIs (by decide) ?_)
  refine wpAny_bind (wpAny_callSpecial?_slot (name := Str.ofString "__getitem__") ht.typeIs PyProof.Rows.slot_tuple_getitem
    (wpAny_call_entry PyProof.Rows.slot_tuple_getitem ht.typeIs entry_tuple_getitem ?_ (args_tuple_getitem _ _)))
  show wpAny _ _ (Builtin.Tuple.tupleItemsOf (.ref t) >>= _) _ _ s
  refine wpAny_bind (tupleItemsOf_ ht ?_)
  refine wpAny_bind (wpAny_typeOf hTs ?_)
  rw [if_pos (by decide)]
  refine wpAny_bind (sliceApplied_gen hs pl pu ?_)
  have hno : ¬ ((((sIx items.size 0 lo : Nat) : Int) == 0 && (1 : Int) == 1 && (sIx items.size items.size hi - sIx items.size 0 lo) == items.size) = true) := by
    intro q
    rw [Bool.and_eq_true, Bool.and_eq_true] at q
    have q1 : ((sIx items.size 0 lo : Nat) : Int) = 0 := eq_of_beq q.1.1
    have q2 : sIx items.size items.size hi - sIx items.size 0 lo = items.size := eq_of_beq q.2
    exact hw ⟨by omega, by omega⟩
  show wpAny _ _ (if (((sIx items.size 0 lo : Nat) : Int) == 0 && (1 : Int) == 1 && (sIx items.size items.size hi - sIx items.size 0 lo) == items.size) = true then _ else _) _ _ s
  rw [if_neg hno, pick_gen]
  first
    | exact wpAny_bind (m := Builtin.Tuple.tupleExact _) (wpAny_newObj_type (wpAny_pure ⟨_, rfl, wpAny_pure h⟩) htake)
    | exact wpAny_bind (m := Builtin.Tuple.tupleExact _) (wpAny_newObj_type (wpAny_bind (wpAny_pure (wpAny_pure ⟨_, rfl, wpAny_pure h⟩))) htake)
    | exact wpAny_bind (wpAny_bind (m := Builtin.Tuple.tupleExact _) (wpAny_newObj_type (wpAny_pure (wpAny_pure ⟨_, rfl, wpAny_pure h⟩)) htake))
    | exact wpAny_bind (wpAny_bind (m := Builtin.Tuple.tupleExact _) (wpAny_newObj_type (wpAny_pure ⟨_, rfl, wpAny_pure h⟩) htake))
end
end HT
namespace L2
open PySem PySem.Spec PyProof.Rows
noncomputable abbrev TO := St → Hp → (Option Int → Hp → Prop) → Prop
noncomputable def PO (X : Cx) (e : Option Expr) (t : TO) : Prop :=
  ∀ (pins : List (Addr × Obj)) (s : Shared) (σ : St) (H : Hp) (Q : Option Int → Hp → Prop), Inv X pins σ H s → t σ H Q →
    wpAny (model X.prog X.w) X.A (evalPart e X.env) (fun u s' => ∃ o H', Inv X pins σ H' s' ∧ IsPart u o ∧ Q o H') X.xe s
noncomputable def tNoPart : TO := fun _ H Q => Q none H
section
variable {X : Cx} {e : Expr} {te : TE} {lo hi : Option Expr} {tl th : TO} {pos p2 : Pos}
theorem po_none : PO X none tNoPart := by
  intro pins s σ H Q I h
  rw [evalPart_none]
  exact wpAny_pure ⟨none, H, I, .none, h⟩
noncomputable def SlR (X : Cx) (r : V → Option Int → Option Int → Hp → VK → Prop) : Prop :=
  ∀ (pins : List (Addr × Obj)) (s : Shared) (σ : St) (H : Hp) (x : V) (v vl vu : Value) (lo hi : Option Int) (sl : Addr) (Q : VK), Inv X pins σ H s → RelV x v → s.heap.IsSliceOf sl vl vu .none → IsPart vl lo → IsPart vu hi → r x lo hi H Q →
    ∃ T id, typeLookup (.type T) "__getitem__" = pure (some (.builtin id)) ∧ s.TypeIs v T ∧ wpAny (model X.prog X.w) X.A (getItem v (.ref sl)) (EP X pins σ Q) X.xe s
theorem SlR.or {r r' : V → Option Int → Option Int → Hp → VK → Prop} (h : SlR X r) (h' : SlR X r') : SlR X (fun x lo hi H Q => r x lo hi H Q ∨ r' x lo hi H Q) := by
  intro pins s σ H x v vl vu lo hi sl Q I rx hs pl pu q
  rcases q with q | q
  · exact h pins s σ H x v vl vu lo hi sl Q I rx hs pl pu q
  · exact h' pins s σ H x v vl vu lo hi sl Q I rx hs pl pu q
noncomputable def tSl (r : V → Option Int → Option Int → Hp → VK → Prop) (te : TE) (tl th : TO) : TE := fun σ H Q => te σ H fun x H1 => tl σ H1 fun l H2 => th σ H2 fun u H3 => r x l u H3 Q
theorem pe_slice {r : V → Option Int → Option Int → Hp → VK → Prop} (hr : SlR X r) (he : PE X e te) (hl : PO X lo tl) (hu : PO X hi th) : PE X (.Subscript e (.Slice lo hi none p2) pos) (tSl r te tl th) := by
  intro pins s σ H Q I h
  refine Subscript_ (thn (he pins s σ H _ I h) fun v s1 hh => exF hh fun x H1 I1 r1 q1 => ?_)
  refine wpAny_Slice (thn (hl pins s1 σ H1 _ I1 q1) fun vl s2 ⟨l, H2, I2, pl, q2⟩ => thn (hu pins s2 σ H2 _ I2 q2) fun vu s3 ⟨u, H3, I3, pu, q3⟩ => ?_)
  rw [evalPart_none]
  refine wpAny_pure ?_
  have I4 : Inv X pins σ H3 { s3 with heap := s3.heap.push { cls := .type "slice", data := .fields #[vl, vu, .none] } } := I3.kept (t' := s3.toks) fun b ob q => Heap.get?_push_of_some _ q
  obtain ⟨T, id, hT, ht, hg⟩ := hr pins { s3 with heap := s3.heap.push { cls := .type "slice", data := .fields #[vl, vu, .none] } } σ H3 x v vl vu l u s3.heap.objs.size Q I4 r1 (Heap.IsSliceOf.new ..) pl pu q3
  show wpAny (model X.prog X.w) X.A (subscriptTail e (.Slice lo hi none p2) v (.ref s3.heap.objs.size)) (EP X pins σ Q) X.xe { s3 with heap := s3.heap.push { cls := .type "slice", data := .fields #[vl, vu, .none] } }
  exact tail_any (ops := [.ref s3.heap.objs.size, v]) ht hT hg (by with_unfolding_all rfl)
noncomputable def cutV (xs : List V) (lo hi : Option Int) : List V := (xs.drop (HT.sIx xs.length 0 lo)).take (HT.sIx xs.length xs.length hi - HT.sIx xs.length 0 lo)
theorem cutV_length (xs : List V) (lo hi : Option Int) : (cutV xs lo hi).length ≤ xs.length := by
  unfold cutV
  rw [List.length_take, List.length_drop]
  omega
noncomputable def rSlT (K : PySem.W.Frag) : V → Option Int → Option Int → Hp → VK → Prop := fun x lo hi H Q => ∃ a xs, x = .ref a ∧ SqT K H a xs ∧
  ¬ (HT.sIx xs.length 0 lo = 0 ∧ HT.sIx xs.length xs.length hi = xs.length) ∧ ∀ p, H p = none → Q (.ref p) (upd H p (.tup (cutV xs lo hi)))
theorem sl_tup : SlR X (rSlT X.K) := by
  intro pins s σ H x v vl vu lo hi sl Q I rx hs pl pu h
  obtain ⟨a, xs, rfl, hx, hw, q⟩ := h
  cases rx
  obtain ⟨its, r, ht, hz⟩ := I.tuple hx
  have hlen : its.toArray.size = xs.length := by rw [List.size_toArray]; exact r.length.symm
  refine ⟨"tuple", _, PyProof.Rows.slot_tuple_getitem.lookup, ht.typeIs, ?_⟩
  refine HT.getItem_tuple_cut ht hs pl pu (by rw [hlen]; exact hw) ?_ (by rw [hlen]; exact hz)
  rw [hlen]
  refine ⟨.ref s.heap.objs.size, _, I.laid (t' := s.toks) (o := .tup (cutV xs lo hi)) (fun b ob q => Heap.get?_push_of_some _ q) (Nat.le_refl _) ?_, rfl, q _ (I.hok.fresh (Nat.le_refl _))⟩
  exact ⟨Nat.le_trans (cutV_length xs lo hi) hz, _, (r.drop (HT.sIx xs.length 0 lo)).take (HT.sIx xs.length xs.length hi - HT.sIx xs.length 0 lo), IsTup.new _ _⟩
noncomputable def rCatT (K : PySem.W.Frag) : R2 := fun x y H Q => ∃ a b xs ys, x = .ref a ∧ y = .ref b ∧ SqT K H a xs ∧ SqT K H b ys ∧ xs ≠ [] ∧ xs.length + ys.length ≤ sizeLine ∧
  (ys = [] → Q (.ref a) H) ∧ (ys ≠ [] → ∀ p, H p = none → Q (.ref p) (upd H p (.tup (xs ++ ys))))
theorem Vals.nil_iff {xs : List V} {us : List Value} (r : Vals xs us) : us = [] ↔ xs = [] := by
  cases r with
  | nil => simp
  | cons _ _ => simp
theorem op_catT : OpR X (binaryOp .Add) (rCatT X.K) := by
  intro pins s σ H x y v u Q I rx ry h
  obtain ⟨a, b, xs, ys, rfl, rfl, ha, hb, hx, hz, q1, q2⟩ := h
  cases rx
  cases ry
  obtain ⟨its, r1, p1, _⟩ := I.tuple ha
  obtain ⟨its2, r2, p2, _⟩ := I.tuple hb
  refine HT.cat_tup p1 p2 (fun z => hx (r1.nil_iff.mp z)) (fun z => ⟨.ref a, H, I, rfl, q1 (r2.nil_iff.mp z)⟩) (fun z => ?_) (by rw [← r1.length, ← r2.length]; exact hz)
  refine ⟨.ref s.heap.objs.size, _, I.laid (t' := s.toks) (o := .tup (xs ++ ys)) (fun b ob q => Heap.get?_push_of_some _ q) (Nat.le_refl _) ?_, rfl, q2 (fun w => z (r2.nil_iff.mpr w)) _ (I.hok.fresh (Nat.le_refl _))⟩
  exact ⟨by rw [List.length_append]; exact hz, _, r1.append r2, IsTup.new _ _⟩
end
end L2
namespace L2
open PySem PySem.Spec PyProof.Rows
noncomputable def ixN (n : Nat) (i : Int) : Option Nat := if 0 ≤ i then (if i < n then some i.toNat else none) else if -(n : Int) ≤ i then some (i + n).toNat else none
noncomputable def atI {α : Type} (xs : List α) (i : Int) : Option α := (ixN xs.length i).bind fun j => xs[j]?
theorem ixN_seq {n : Nat} {i : Int} {j : Nat} (h : ixN n i = some j) : seqIndex? i n = some j ∧ j < n ∧ -(n : Int) ≤ i ∧ i < n := by
  unfold ixN at h
  by_cases h0 : 0 ≤ i
  · rw [if_pos h0] at h
    by_cases h1 : i < n
    · rw [if_pos h1] at h
      have e : i.toNat = j := Option.some.inj h
      exact ⟨by rw [seqIndex_of h0 h1, e], by omega, by omega, h1⟩
    · rw [if_neg h1] at h; cases h
  · rw [if_neg h0] at h
    by_cases h1 : -(n : Int) ≤ i
    · rw [if_pos h1] at h
      have e : (i + n).toNat = j := Option.some.inj h
      exact ⟨by rw [seqIndex_neg (by omega) h1, e], by omega, h1, by omega⟩
    · rw [if_neg h1] at h; cases h
theorem atI_get {α : Type} {xs : List α} {i : Int} {v : α} (h : atI xs i = some v) : ∃ j, seqIndex? i xs.length = some j ∧ xs[j]? = some v ∧ j < xs.length ∧ -(xs.length : Int) ≤ i ∧ i < xs.length := by
  unfold atI at h
  cases e : ixN xs.length i with
  | none => rw [e] at h; cases h
  | some j =>
    rw [e] at h
    obtain ⟨h1, h2, h3, h4⟩ := ixN_seq e
    exact ⟨j, h1, h, h2, h3, h4⟩
theorem atI_nat {α : Type} {xs : List α} {j : Nat} {v : α} (h : xs[j]? = some v) : atI xs (j : Int) = some v := by
  have hj : j < xs.length := (List.getElem?_eq_some_iff.mp h).1
  have e : ixN xs.length (j : Int) = some j := by
    unfold ixN
    rw [if_pos (by omega), if_pos (by omega)]; simp
  unfold atI; rw [e]; exact h
noncomputable def PlainIx (b : Expr) : Prop := ∀ o i, subscripted b false o i = operate [o, i] (getItem o i)
noncomputable def IxR (X : Cx) (r : R2) : Prop :=
  ∀ (value slice : Expr) (pins : List (Addr × Obj)) (s : Shared) (σ : St) (H : Hp) (x y : V) (v u : Value) (Q : VK), Inv X pins σ H s → RelV x v → RelV y u → r x y H Q →
    subscripted slice false v u = operate [v, u] (getItem v u) → wpAny (model X.prog X.w) X.A (subscriptTail value slice v u) (EP X pins σ Q) X.xe s
noncomputable def MtR (X : Cx) (id : String) (r : V → List V → Hp → VK → Prop) : Prop :=
  ∀ (pins : List (Addr × Obj)) (s : Shared) (σ : St) (H : Hp) (x : V) (xs : List V) (v : Value) (us : List Value) (Q : VK), Inv X pins σ H s → RelV x v → Vals xs us → r x xs H Q →
    wpAny (model X.prog X.w) X.A (call (.builtin id) (v :: us)) (EP X pins σ Q) X.xe s
section
variable {X : Cx} {a b : Expr} {ta tb : TE} {pos : Pos}
theorem IxR.or {r r' : R2} (h : IxR X r) (h' : IxR X r') : IxR X (fun x y H Q => r x y H Q ∨ r' x y H Q) := by
  intro value slice pins s σ H x y v u Q I rx ry q hs
  rcases q with q | q
  · exact h value slice pins s σ H x y v u Q I rx ry q hs
  · exact h' value slice pins s σ H x y v u Q I rx ry q hs
theorem pe_ix {r : R2} (hr : IxR X r) (ha : PE X a ta) (hb : PE X b tb) (hs : PlainIx b) : PE X (.Subscript a b pos) (tOp r ta tb) := by
  intro pins s σ H Q I h
  exact Subscript_ (binT ha hb I h fun v u s2 x y H2 I2 rx ry q => hr a b pins s2 σ H2 x y v u Q I2 rx ry q (hs _ _))
noncomputable def rIxL (K : PySem.W.Frag) : R2 := fun x y H Q => ∃ p xs i v, x = .ref p ∧ y = .int i ∧ SqL K H p xs ∧ atI xs i = some v ∧ Q v H
noncomputable def rIxT (K : PySem.W.Frag) : R2 := fun x y H Q => ∃ p xs i v, x = .ref p ∧ y = .int i ∧ SqT K H p xs ∧ atI xs i = some v ∧ Q v H
noncomputable def rIxS : R2 := fun x y H Q => ∃ z i c, x = .str z ∧ y = .int i ∧ z.length ≤ sizeLine ∧ atI z.cps.toList i = some c ∧ Q (.str ⟨#[c]⟩) H
theorem ix_list : IxR X (rIxL X.K) := by
  intro value slice pins s σ H x y v u Q I rx ry h hs
  obtain ⟨p, xs, i, z, rfl, rfl, hq, he, q⟩ := h
  cases rx
  obtain ⟨t, rfl⟩ := ry
  obtain ⟨its, r, pl, hz⟩ := I.list hq
  obtain ⟨j, h1, h2, h3, h4, h5⟩ := atI_get he
  obtain ⟨w, ew, rw'⟩ := r.get h2
  have hl := r.length
  have hn := line63
  have fin : EP X pins σ Q w s := ⟨z, H, I, rw', q⟩
  by_cases h0 : 0 ≤ i
  · have hj : i.toNat = j := by
      rw [seqIndex_of h0 h5] at h1
      exact Option.some.inj h1
    exact item_listR pl.isList h0 (by omega) (by rw [hj]; simpa using ew) fin hs
  · have hj : (i + (its.toArray.size : Int)).toNat = j := by
      rw [seqIndex_neg (by omega) h4] at h1
      rw [List.size_toArray, ← hl]
      exact Option.some.inj h1
    exact subscriptTail_builtinR (x := w) pl.isList.typeIs slot_list_getitem.lookup
      (wpAny_getItem_list_neg (Q := fun r s' => r = w ∧ EP X pins σ Q r s') pl.isList (by omega) (by rw [List.size_toArray] <;> omega) (by omega) (by rw [hj]; simpa using ew) ⟨rfl, fin⟩) hs
theorem ix_tup : IxR X (rIxT X.K) := by
  intro value slice pins s σ H x y v u Q I rx ry h hs
  obtain ⟨p, xs, i, z, rfl, rfl, hq, he, q⟩ := h
  cases rx
  obtain ⟨t, rfl⟩ := ry
  obtain ⟨its, r, pl, hz⟩ := I.tuple hq
  obtain ⟨j, h1, h2, h3, h4, h5⟩ := atI_get he
  obtain ⟨w, ew, rw'⟩ := r.get h2
  have hl := r.length
  have hn := line63
  have fin : EP X pins σ Q w s := ⟨z, H, I, rw', q⟩
  exact subscriptTail_builtinR (x := w) pl.typeIs slot_tuple_getitem.lookup
    (getItem_tuple (j := j) (Q := fun r s' => r = w ∧ EP X pins σ Q r s') pl (by omega) (by omega) (by rw [List.size_toArray, ← hl]; exact h1) (by simpa using ew) ⟨rfl, fin⟩) hs
theorem ix_str : IxR X rIxS := by
  intro value slice pins s σ H x y v u Q I rx ry h hs
  obtain ⟨z, i, c, rfl, rfl, hz, he, q⟩ := h
  obtain ⟨t, rfl⟩ := rx
  obtain ⟨t', rfl⟩ := ry
  obtain ⟨j, h1, h2, h3, h4, h5⟩ := atI_get he
  have hl : z.cps.toList.length = z.length := by simp [Str.length]
  rw [hl] at h1 h4 h5
  have hn := line63
  exact tail_any (typeIs_str s z t) slot_str_getitem.lookup (getItem_str (c := c) (by
    have e1 : decide (i < -(2 ^ 63 : Int)) = false := decide_eq_false (by omega)
    have e2 : decide (i ≥ 2 ^ 63) = false := decide_eq_false (by omega)
    rw [e1, e2, Bool.or_false]) (by rw [h1]; simpa using h2) ⟨.str ⟨#[c]⟩, H, I.tok _, ⟨_, rfl⟩, q⟩) hs
noncomputable def rIx (K : PySem.W.Frag) : R2 := fun x y H Q => rIxL K x y H Q ∨ rIxT K x y H Q ∨ rIxS x y H Q
theorem ix_seq : IxR X (rIx X.K) := ix_list.or (ix_tup.or ix_str)
theorem slice_bounds (lo hi : Option Int) (n : Nat) : (sliceBounds lo hi none n).1 = ((HT.sIx n 0 lo : Nat) : Int) ∧ (sliceBounds lo hi none n).2.1 = ((HT.sIx n n hi : Nat) : Int) ∧ (sliceBounds lo hi none n).2.2 = 1 := by
  refine ⟨?_, ?_, rfl⟩
  · cases lo with
    | none => simp [sliceBounds, HT.sIx]
    | some i =>
      simp only [sliceBounds, HT.sIx, Option.getD_none, show (1 : Int) > 0 by decide, if_true]
      by_cases h : i < 0
      · simp only [h, if_true] <;> omega
      · simp only [h, if_false] <;> omega
  · cases hi with
    | none => simp [sliceBounds, HT.sIx]
    | some i =>
      simp only [sliceBounds, HT.sIx, Option.getD_none, show (1 : Int) > 0 by decide, if_true]
      by_cases h : i < 0
      · simp only [h, if_true] <;> omega
      · simp only [h, if_false] <;> omega
theorem slicePick_cut (its : List Value) (lo hi : Option Int) : slicePick its.toArray lo hi none = ((its.drop (HT.sIx its.length 0 lo)).take (HT.sIx its.length its.length hi - HT.sIx its.length 0 lo)).toArray := by
  obtain ⟨h1, h2, h3⟩ := slice_bounds lo hi its.toArray.size
  unfold slicePick
  rw [h1, h2, h3]
  simp only [sliceRange_one, pick_run, List.size_toArray] <;> rfl
noncomputable def rSlL (K : PySem.W.Frag) : V → Option Int → Option Int → Hp → VK → Prop := fun x lo hi H Q => ∃ a xs, x = .ref a ∧ SqL K H a xs ∧ ∀ p, H p = none → Q (.ref p) (upd H p (.lst (cutV xs lo hi)))
theorem sl_list : SlR X (rSlL X.K) := by
  intro pins s σ H x v vl vu lo hi sl Q I rx hs pl pu h
  obtain ⟨a, xs, rfl, hx, q⟩ := h
  cases rx
  obtain ⟨its, r, ht, hz⟩ := I.list hx
  have hlen := r.length
  refine ⟨"list", _, slot_list_getitem.lookup, ht.isList.typeIs, ?_⟩
  refine wpAny_getItem_list_slice ht.isList hs pl pu .none (by simp) ?_ (by rw [List.size_toArray] <;> omega)
  rw [slicePick_cut, ← hlen]
  refine ⟨.ref s.heap.objs.size, _, I.laid (t' := s.toks) (o := .lst (cutV xs lo hi)) (fun b ob q => Heap.get?_push_of_some _ q) (Nat.le_refl _) ?_, rfl, q _ (I.hok.fresh (Nat.le_refl _))⟩
  exact ⟨Nat.le_trans (cutV_length xs lo hi) hz, _, 0, (r.drop (HT.sIx xs.length 0 lo)).take (HT.sIx xs.length xs.length hi - HT.sIx xs.length 0 lo), Heap.get?_push_size _ rfl⟩
noncomputable def flatV : V → Bool
  | .non => true
  | .bl _ => true
  | .int _ => true
  | .str _ => true
  | _ => false
noncomputable def eqV : V → V → Bool
  | .non, .non => true
  | .bl a, .bl b => a == b
  | .bl a, .int b => (if a then 1 else 0) == b
  | .int a, .bl b => a == (if b then 1 else 0)
  | .int a, .int b => a == b
  | .str a, .str b => a == b
  | _, _ => false
theorem eqAt_V {A : Around} {s : Shared} {y x : V} {u v : Value} (ry : RelV y u) (rx : RelV x v) (fy : flatV y = true) (fx : flatV x = true) : SeqAt.EqAt A s u v (eqV y x) := by
  cases y with
  | non =>
    cases ry
    cases x with
    | non => cases rx; exact SeqAt.EqAt.same _
    | bl b => cases rx; exact SeqAt.EqAt.none_bool b
    | int b => obtain ⟨t, rfl⟩ := rx; exact SeqAt.EqAt.none_int b t
    | str b => obtain ⟨t, rfl⟩ := rx; exact SeqAt.EqAt.none_str b t
    | _ => exact absurd (show false = true from fx) Bool.false_ne_true
  | bl a =>
    cases ry
    cases x with
    | non => cases rx; exact SeqAt.EqAt.bool_none a
    | bl b => cases rx; exact SeqAt.EqAt.bool_bool a b
    | int b => obtain ⟨t, rfl⟩ := rx; exact SeqAt.EqAt.bool_int a b t
    | str b => obtain ⟨t, rfl⟩ := rx; exact SeqAt.EqAt.bool_str a b t
    | _ => exact absurd (show false = true from fx) Bool.false_ne_true
  | int a =>
    obtain ⟨t', rfl⟩ := ry
    cases x with
    | non => cases rx; exact SeqAt.EqAt.int_none a t'
    | bl b => cases rx; exact SeqAt.EqAt.int_bool a t' b
    | int b => obtain ⟨t, rfl⟩ := rx; exact SeqAt.EqAt.int_int a t' b t
    | str b => obtain ⟨t, rfl⟩ := rx; exact SeqAt.EqAt.int_str a t' b t
    | _ => exact absurd (show false = true from fx) Bool.false_ne_true
  | str a =>
    obtain ⟨t', rfl⟩ := ry
    cases x with
    | non => cases rx; exact SeqAt.EqAt.str_none a t'
    | bl b => cases rx; exact SeqAt.EqAt.str_bool a t' b
    | int b => obtain ⟨t, rfl⟩ := rx; exact SeqAt.EqAt.str_int a t' b t
    | str b => obtain ⟨t, rfl⟩ := rx; exact SeqAt.EqAt.str_str a t' b t
    | _ => exact absurd (show false = true from fx) Bool.false_ne_true
  | _ => exact absurd (show false = true from fy) Bool.false_ne_true
noncomputable def eqU (x : V) (u : Value) : Bool := match u with
  | .none => eqV .non x
  | .bool b => eqV (.bl b) x
  | .int i _ => eqV (.int i) x
  | .str z _ => eqV (.str z) x
  | _ => false
theorem eqU_of {x y : V} {u : Value} (r : RelV y u) (f : flatV y = true) : eqU x u = eqV y x := by
  cases y with
  | non => cases r; rfl
  | bl b => cases r; rfl
  | int i => obtain ⟨t, rfl⟩ := r; rfl
  | str z => obtain ⟨t, rfl⟩ := r; rfl
  | _ => exact absurd (show false = true from f) Bool.false_ne_true
theorem any_eqU {x : V} : ∀ {xs : List V} {us : List Value}, Vals xs us → xs.all flatV = true → us.any (eqU x) = xs.any fun y => eqV y x
  | _, _, .nil, _ => rfl
  | y :: xs, u :: us, .cons r t, f => by
    rw [List.all_cons, Bool.and_eq_true] at f
    rw [List.any_cons, List.any_cons, eqU_of r f.1, any_eqU t f.2]
theorem mem_eqAt {A : Around} {s : Shared} {x : V} {v : Value} (rx : RelV x v) (fx : flatV x = true) : ∀ {xs : List V} {us : List Value}, Vals xs us → xs.all flatV = true → ∀ u ∈ us, SeqAt.EqAt A s u v (eqU x u)
  | _, _, .nil, _ => fun u hu => by cases hu
  | y :: xs, u :: us, .cons r t, f => fun u' hu => by
    rw [List.all_cons, Bool.and_eq_true] at f
    rcases List.mem_cons.mp hu with rfl | hu
    · rw [eqU_of r f.1]; exact eqAt_V r rx f.1 fx
    · exact mem_eqAt rx fx t f.2 u' hu
noncomputable def inV (x : V) (xs : List V) : Bool := xs.any fun y => eqV y x
noncomputable def rIn (K : PySem.W.Frag) (neg : Bool) : R2 := fun x y H Q => ∃ p xs, y = .ref p ∧ (SqL K H p xs ∨ SqT K H p xs) ∧ flatV x = true ∧ xs.all flatV = true ∧ Q (.bl (if neg then !inV x xs else inV x xs)) H
theorem op_in_seq : OpR X (compareOp .In) (rIn X.K false) := by
  intro pins s σ H x y v u Q I rx ry h
  obtain ⟨p, xs, rfl, hq, fx, fs, q⟩ := h
  cases ry
  rcases hq with hq | hq
  · obtain ⟨its, r, pl, hz⟩ := I.list hq
    refine SeqAt.in_listAt (eqU x) pl.isList (fun w hw => mem_eqAt rx fx r fs w (by simpa using hw)) ⟨.bl _, H, I, rfl, ?_⟩
    rw [show its.toArray.any (eqU x) = its.any (eqU x) by simp, any_eqU r fs]
    exact q
  · obtain ⟨its, r, pl, hz⟩ := I.tuple hq
    refine SeqAt.in_tupleAt (eqU x) pl (fun w hw => mem_eqAt rx fx r fs w (by simpa using hw)) ⟨.bl _, H, I, rfl, ?_⟩
    rw [show its.toArray.any (eqU x) = its.any (eqU x) by simp, any_eqU r fs]
    exact q
theorem call_len_seq : CallR X (.builtin "len") (fun xs H Q => ∃ p ys, xs = [.ref p] ∧ (SqL X.K H p ys ∨ SqT X.K H p ys) ∧ Q (.int ys.length) H) := by
  intro pins s σ H xs us Q I r h
  obtain ⟨p, ys, rfl, hq, q⟩ := h
  obtain ⟨u, rfl, rx⟩ := vals1 r
  cases rx
  have hn := line63
  rcases hq with hq | hq
  · obtain ⟨its, r', pl, hz⟩ := I.list hq
    have hlen := r'.length
    exact Calls.call_len_list pl.isList (by simp only [List.size_toArray] <;> omega) ⟨.int ys.length, H, I.tok _, ⟨s.toks + 1, by rw [List.size_toArray, hlen]⟩, q⟩
  · obtain ⟨its, r', pl, hz⟩ := I.tuple hq
    have hlen := r'.length
    exact len_tuple pl (by simp only [List.size_toArray] <;> omega) ⟨.int ys.length, H, I.tok _, ⟨s.toks + 1, by rw [List.size_toArray, hlen]⟩, q⟩
theorem call_len_str : CallR X (.builtin "len") (fun xs H Q => ∃ z, xs = [.str z] ∧ z.length ≤ sizeLine ∧ Q (.int z.length) H) := by
  intro pins s σ H xs us Q I r h
  obtain ⟨z, rfl, hz, q⟩ := h
  obtain ⟨u, rfl, t, rfl⟩ := vals1 r
  have hn := line63
  exact len_str (by omega) ⟨.int z.length, H, I.tok _, ⟨_, rfl⟩, q⟩
theorem CallR.or {f : Value} {r r' : List V → Hp → VK → Prop} (h : CallR X f r) (h' : CallR X f r') : CallR X f (fun xs H Q => r xs H Q ∨ r' xs H Q) := by
  intro pins s σ H xs us Q I rs q
  rcases q with q | q
  · exact h pins s σ H xs us Q I rs q
  · exact h' pins s σ H xs us Q I rs q
theorem call_list_of : CallR X (.type "list") (fun xs H Q => ∃ p ys, xs = [.ref p] ∧ (SqL X.K H p ys ∨ SqT X.K H p ys) ∧ ∀ l, H l = none → Q (.ref l) (upd H l (.lst ys))) := by
  intro pins s σ H xs us Q I r h
  obtain ⟨p, ys, rfl, hq, q⟩ := h
  obtain ⟨u, rfl, rx⟩ := vals1 r
  cases rx
  have fin : ∀ (its : List Value), Vals ys its → ys.length ≤ sizeLine → ∀ (h' : Heap) (c' : Nat), (∀ b o', s.heap.get? b = some o' → h'.get? b = some o') →
      h'.get? s.heap.objs.size = some { cls := .type "list", dict := none, data := .seq its.toArray c', slots := #[] } → EP X pins σ Q (.ref s.heap.objs.size) { s with heap := h' } := fun its r' hz h' c' kp e =>
    ⟨.ref s.heap.objs.size, _, I.laid (t' := s.toks) kp (Nat.le_refl _) (show ObjOk X.prog X.w _ h' _ (.lst ys) from ⟨hz, its, c', r', e⟩), rfl, q _ (I.hok.fresh (Nat.le_refl _))⟩
  rcases hq with hq | hq
  · obtain ⟨its, r', pl, hz⟩ := I.list hq
    have hlen := r'.length
    obtain ⟨o, ho, hc, n, hd⟩ := pl.isList
    exact call_list_seq p (.inl rfl) ho hc hd (fun h' c' kp e => fin its r' hz h' c' kp e) (by simp only [List.size_toArray] <;> omega)
  · obtain ⟨its, r', pl, hz⟩ := I.tuple hq
    have hlen := r'.length
    obtain ⟨o, ho, hc, n, hd⟩ := pl
    exact call_list_seq p (.inr rfl) ho hc hd (fun h' c' kp e => fin its r' hz h' c' kp e) (by simp only [List.size_toArray] <;> omega)
theorem call_tuple_of : CallR X (.type "tuple") (fun xs H Q => ∃ p ys, xs = [.ref p] ∧ ((SqL X.K H p ys ∧ ∀ l, H l = none → Q (.ref l) (upd H l (.tup ys))) ∨ (SqT X.K H p ys ∧ Q (.ref p) H))) := by
  intro pins s σ H xs us Q I r h
  obtain ⟨p, ys, rfl, h⟩ := h
  obtain ⟨u, rfl, rx⟩ := vals1 r
  cases rx
  rcases h with ⟨hq, q⟩ | ⟨hq, q⟩
  · obtain ⟨its, r', pl, hz⟩ := I.list hq
    have hlen := r'.length
    refine call_tuple_list pl.isList (fun h' kp => ?_) (by simp only [List.size_toArray] <;> omega)
    have I1 : Inv X pins σ H { s with heap := h' } := I.kept (t' := s.toks) kp
    have I2 : Inv X pins σ (upd H h'.objs.size (.tup ys)) { s with heap := h'.push { cls := .type "tuple", data := .seq its.toArray } } :=
      I1.laid (t' := s.toks) (fun b o e => Heap.get?_push_of_some _ e) (Nat.le_refl _) (show ObjOk X.prog X.w _ _ _ (.tup ys) from ⟨hz, its, r', IsTup.new _ _⟩)
    exact ⟨.ref h'.objs.size, _, I2, rfl, q _ (I1.hok.fresh (Nat.le_refl _))⟩
  · obtain ⟨its, r', pl, hz⟩ := I.tuple hq
    exact call_tuple_same pl ⟨.ref p, H, I, rfl, q⟩
noncomputable def tyV (K : PySem.W.Frag) (T : String) (x : V) (H : Hp) : Prop := match x with
  | .str _ => T = "str"
  | .int _ => T = "int"
  | .ref p => (T = "list" ∧ ∃ xs, SqL K H p xs) ∨ (T = "tuple" ∧ ∃ o, K.lookup p = some o ∧ o.cls = .type "tuple" ∧ o.dict = none) ∨
      (T = "dict" ∧ ((∃ kvs, H p = some (.dK kvs)) ∨ ∃ kvs, H p = some (.dT kvs))) ∨ (T = "set" ∧ ∃ S n, H p = some (.set S n))
  | _ => False
theorem tyV_is {pins : List (Addr × Obj)} {σ : St} {H : Hp} {s : Shared} {T : String} {x : V} {v : Value} (I : Inv X pins σ H s) (r : RelV x v) (ty : tyV X.K T x H) :
    s.TypeIs v T ∧ ∀ a, v = .ref a → ∃ ob, s.heap.get? a = some ob ∧ ob.dict = none := by
  cases x with
  | str z =>
    obtain ⟨t, rfl⟩ := r
    cases (show T = "str" from ty)
    exact ⟨typeIs_str s z t, fun _ e => nomatch e⟩
  | int i =>
    obtain ⟨t, rfl⟩ := r
    cases (show T = "int" from ty)
    exact ⟨typeIs_int s i t, fun _ e => nomatch e⟩
  | ref p =>
    cases r
    rcases ty with ⟨rfl, xs, hq⟩ | ⟨rfl, o, hk, hc, hd⟩ | ⟨rfl, hk⟩ | ⟨rfl, S, n, hk⟩
    · obtain ⟨its, _, pl, _⟩ := I.list hq
      refine ⟨pl.isList.typeIs, fun a e => ?_⟩
      cases e
      obtain ⟨o, n, e, c, hd, _⟩ := pl
      exact ⟨o, e, hd⟩
    · refine ⟨⟨o, I.kIn p o hk, hc⟩, fun a e => ?_⟩
      cases e
      exact ⟨o, I.kIn _ o hk, hd⟩
    · have z : ∃ o, s.heap.get? p = some o ∧ o.ExactDict := by
        rcases hk with ⟨kvs, hk⟩ | ⟨kvs, hk⟩
        · obtain ⟨_, _, _, _, o, _, _, e, ex, _⟩ := I.hok p _ hk
          exact ⟨o, e, ex⟩
        · obtain ⟨_, _, _, _, o, _, _, e, ex, _⟩ := I.hok p _ hk
          exact ⟨o, e, ex⟩
      obtain ⟨o, e, ex⟩ := z
      refine ⟨⟨o, e, ex.1⟩, fun a e2 => ?_⟩
      cases e2
      exact ⟨o, e, ex.2.1⟩
    · obtain ⟨o, _, _, _, e, ex, _⟩ := I.hok p _ hk
      refine ⟨⟨o, e, ex.1⟩, fun a e2 => ?_⟩
      cases e2
      exact ⟨o, e, ex.2.1⟩
  | _ => exact False.elim ty
noncomputable def tBM (K : PySem.W.Frag) (T : String) (r : V → List V → Hp → VK → Prop) (to : TE) (t : TA) : TE := fun σ H Q => to σ H fun x H1 => tyV K T x H1 ∧ t σ H1 fun xs H2 => r x xs H2 Q
variable {o e : Expr} {es : List Expr} {to : TE} {t : TA} {name : Str} {apos cpos : Pos} {T id : String} {r : V → List V → Hp → VK → Prop}
theorem pe_bm (pa : PlainAttrs T) (slot : Slot T name id) (hty : typeOf (.builtin id) = pure (.type "method_descriptor")) (hm : MtR X id r) (ho : PE X o to) (ha : PA X (e :: es) t)
    (hbase : attributeBase o name X.env (eval o X.env) = eval o X.env := by rfl)
    (hfew : ((backTo cpos (starEach (e :: es) X.env)).all (fun x => !x.1) && (backToKw cpos (keywordEach [] X.env)).all (fun x => x.1.isSome)
      && decide ((e :: es).length + ([] : List Keyword).length + (if ([] : List Keyword).isEmpty then 0 else 1) < 30)) = true := by rfl)
    (hline : (apos.endLine == cpos.line) = true := by rfl) (hs : starEach (e :: es) X.env = (false, eval e X.env) :: starEach es X.env := by rfl) (hplain : (backTo cpos (starEach es X.env)).any (·.1) = false := by rfl) :
    PE X (.Call (.Attribute o name apos) (e :: es) [] cpos) (tBM X.K T r to t) := by
  intro pins s σ H Q I h
  refine wpAny_Call_method_late hbase hfew hline rfl (thn (ho pins s σ H _ I h) fun v s1 ⟨x, H1, I1, r1, ty, q1⟩ => ?_)
  obtain ⟨h1, h2⟩ := tyV_is I1 r1 ty
  refine ⟨T, id, pa, slot, hty, h1, h2, ?_⟩
  have hA := ha cpos pins s1 σ H1 _ I1 q1
  rw [hs] at hA ⊢
  refine Calls.callWith_builtin (by show (false || (backTo cpos (starEach es X.env)).any (·.1)) = false; rw [hplain] <;> rfl) (Calls.evalArgs_plain ?_)
  exact thn hA fun us s2 hh => exF hh fun vs H2 I2 r2 q2 => hm pins s2 σ H2 x vs v us Q I2 r1 r2 q2
end
end L2
namespace L2
open PySem PySem.Spec PyProof.Rows
noncomputable def MtM (X : Cx) (id : String) (r : V → List V → Hp → VK → Prop) : Prop :=
  ∀ (pins : List (Addr × Obj)) (s : Shared) (σ : St) (H : Hp) (x : V) (xs : List V) (v : Value) (us : List Value) (Q : VK), Inv X pins σ H s → RelV x v → Vals xs us → r x xs H Q →
    wpAny (model X.prog X.w) X.A (call (.builtin id) (v :: us)) (EP X pins σ Q) X.xe s
theorem Vals.one : ∀ {x : V} {us : List Value}, Vals [x] us → ∃ u, us = [u] ∧ RelV x u
  | _, _, .cons r .nil => ⟨_, rfl, r⟩
theorem Vals.rep {xs : List V} {us : List Value} (h : Vals xs us) : ∀ k : Nat, Vals (List.replicate k xs).flatten (List.replicate k us).flatten
  | 0 => .nil
  | k + 1 => by
    rw [List.replicate_succ, List.replicate_succ, List.flatten_cons, List.flatten_cons]
    exact Vals.append h (Vals.rep h k)
theorem foldl_rep (its : List Value) : ∀ (k : Nat) (acc : List Value),
    List.foldl (fun x1 x2 => x1 ++ x2) acc.toArray (List.replicate k its.toArray) = (acc ++ (List.replicate k its).flatten).toArray
  | 0, acc => by simp
  | k + 1, acc => by
    have e : acc.toArray ++ its.toArray = (acc ++ its).toArray := by simp
    have e2 : (acc ++ its) ++ (List.replicate k its).flatten = acc ++ (List.replicate (k + 1) its).flatten := by
      rw [List.replicate_succ, List.flatten_cons, List.append_assoc]
    rw [← e2, ← foldl_rep its k (acc ++ its), ← e, List.replicate_succ, List.foldl_cons]
section
variable {X : Cx} {pins : List (Addr × Obj)} {σ : St} {H : Hp} {s : Shared} {l b : Addr} {xs ys zs : List V}
theorem Inv.lset {its its' : List Value} {n : Nat} {f : Array Value → Array Value} {t' : Nat} (I : Inv X pins σ H s) (hH : H l = some (.lst xs))
    (e : s.heap.get? l = some { cls := .type "list", data := .seq its.toArray n }) (hf : f its.toArray = its'.toArray) (hv : Vals ys its') (hz : ys.length ≤ sizeLine) (ht : X.tn ≤ t' := by walk_at "tok") :
    Inv X pins σ (upd H l (.lst ys)) { s with heap := s.heap.update l (Obj.mapSeq f), toks := t' } := by
  have q := PySem.IsL.update e f
  rw [hf] at q
  refine I.write (x := l) (e := l) (by rw [hH]; exact trivial) (.inl rfl) (fun b' u hb hu => (Heap.get?_update_other s.heap (Obj.mapSeq f) (Ne.symm hb)).trans hu) ⟨_, q⟩ ?_
  exact ⟨hz, its', _, hv, q⟩
theorem Inv.lnew {its : List Value} {t' : Nat} (I : Inv X pins σ H s) (hv : Vals ys its) (hz : ys.length ≤ sizeLine) (ht : X.tn ≤ t' := by walk_at "tok") :
    Inv X pins σ (upd H s.heap.objs.size (.lst ys)) { s with heap := s.heap.push { cls := .type "list", data := .seq its.toArray }, toks := t' } :=
  I.laid (fun _ _ q => Heap.get?_push_of_some _ q) (Nat.le_refl _) ⟨hz, its, 0, hv, Heap.get?_push_size _ rfl⟩
theorem Inv.fresh (I : Inv X pins σ H s) : H s.heap.objs.size = none := I.hok.fresh (Nat.le_refl _)
theorem Inv.lstM (I : Inv X pins σ H s) (hH : H l = some (.lst xs)) : xs.length ≤ sizeLine ∧ ∃ (its : List Value) (n : Nat), Vals xs its ∧ xs.length = its.length ∧ s.heap.get? l = some { cls := .type "list", data := .seq its.toArray n } := by
  obtain ⟨z, its, n, r, e⟩ := I.hok l _ hH
  exact ⟨z, its, n, r, r.length, e⟩
theorem notLongL {n : Nat} (h : n ≤ sizeLine) : Builtin.List.listTooLong n = false := by
  unfold Builtin.List.listTooLong
  exact decide_eq_false (by omega)
end
section
variable {X : Cx}
noncomputable def rAppend : V → List V → Hp → VK → Prop := fun x vs H Q => ∃ l xs y, x = .ref l ∧ vs = [y] ∧ H l = some (.lst xs) ∧ xs.length < sizeLine ∧ Q .non (upd H l (.lst (xs ++ [y])))
theorem mt_append : MtM X "list.append" rAppend := by
  intro pins s σ H x vs v us Q I rx rv h
  obtain ⟨l, xs, y, rfl, rfl, hH, hz, q⟩ := h
  cases rx
  obtain ⟨u, rfl, ru⟩ := rv.one
  obtain ⟨z, its, n, r, hl, e⟩ := I.lstM hH
  refine call_meets F.slot_list_append ⟨_, e, rfl⟩ F.entry_list_append (F.args_list_append_2 _ _) (PySem.list_append l its.toArray n u (by rw [List.size_toArray]; omega)) ⟨e, ?_⟩
  refine ⟨.non, _, I.lset (its' := its ++ [u]) hH e (by simp) (r.append (.cons ru .nil)) ?_, rfl, q⟩
  rw [List.length_append, List.length_singleton]
  omega
noncomputable def rRep : R2 := fun x y H Q => ∃ l k xs, x = .ref l ∧ y = .int k ∧ H l = some (.lst xs) ∧ -(2 ^ 63) ≤ k ∧ k < 2 ^ 63 ∧ xs.length * k.toNat ≤ sizeLine ∧
  ∀ p, H p = none → Q (.ref p) (upd H p (.lst (List.replicate k.toNat xs).flatten))
theorem len_rep {α : Type} (xs : List α) (k : Nat) : (List.replicate k xs).flatten.length = k * xs.length := by
  induction k with
  | zero => simp
  | succ k ih => rw [List.replicate_succ, List.flatten_cons, List.length_append, ih, Nat.succ_mul, Nat.add_comm]
theorem op_rep : OpR X (binaryOp .Mult) rRep := by
  intro pins s σ H x y v u Q I rx ry h
  obtain ⟨l, k, xs, rfl, rfl, hH, h1, h2, hz, q⟩ := h
  cases rx
  obtain ⟨t, rfl⟩ := ry
  obtain ⟨z, its, n, r, hl, e⟩ := I.lstM hH
  have hlen : its.toArray.size * k.toNat ≤ sizeLine := by rw [List.size_toArray, ← hl]; exact hz
  have hcap : ¬ its.toArray.size * k.toNat > (2 ^ 63 - 1) / 8 := by
    have : (sizeLine : Nat) ≤ (2 ^ 63 - 1) / 8 := by decide
    omega
  have hfit : ¬ (!Builtin.List.listFitsIndex k) = true := by
    rw [fitsIndex_both h1 h2]
    exact Bool.false_ne_true
  have hlong : ¬ Builtin.List.listTooLong (its.toArray.size * k.toNat) = true := by
    rw [notLongL hlen]
    exact Bool.false_ne_true
  have hnew : List.foldl (fun x1 x2 => x1 ++ x2) #[] (List.replicate (if its.toArray.isEmpty = true then 0 else k.toNat) its.toArray) = (List.replicate k.toNat its).flatten.toArray := by
    have f0 : ∀ m : Nat, List.foldl (fun x1 x2 => x1 ++ x2) #[] (List.replicate m its.toArray) = (List.replicate m its).flatten.toArray := fun m => by
      have := foldl_rep its m []
      rw [List.nil_append] at this
      exact this
    rw [f0]
    cases its with
    | nil => simp
    | cons a r' => rw [if_neg (by simp)]
  refine wpAny_binaryOp_repeat_ref (T := "list") (U := "int") (by decide) ⟨_, e, rfl⟩ (fun s' => typeIs_int s' k t) noFill_list_mul F.fills_int_mul F.slot_int_rmul repeat_list F.slot_int_index.lookup
    (call_meets F.slot_int_rmul (typeIs_int s k t) F.entry_int_rmul (F.args_int_rmul_2 _ _) (int___rmul___int_list k t l its.toArray n)
      ⟨e, rfl, ⟨_, e, rfl⟩, call_meets F.slot_list_mul ⟨_, e, rfl⟩ F.entry_list_mul (F.args_list_mul_2 _ _) (AutoListH.list___mul___list_int_3 l its.toArray n k t hfit hcap hlong) ⟨e, ?_⟩⟩)
  rw [hnew]
  exact ⟨.ref _, _, I.lnew (t' := s.toks) (r.rep k.toNat) (by rw [len_rep, Nat.mul_comm]; exact hz), rfl, q _ I.fresh⟩
end
section
variable {prog : Program} {w : World} {A : Around} {E : Value → Shared → Prop} {s : Shared}
set_option maxRecDepth 100000 in
end
section
variable {X : Cx}
end
end L2
namespace L2
open PySem PySem.Spec PyProof.Rows
section
variable {κ : Type} [DecidableEq κ]
noncomputable def valV (kvs : List (κ × V)) (k : κ) : Option V := (kvs.find? fun kv => decide (kv.1 = k)).map (·.2)
noncomputable def putK (kvs : List (κ × V)) (k : κ) (v : V) : List (κ × V) :=
  if (kvs.any fun kv => decide (kv.1 = k)) = true then kvs.map (fun kv => if kv.1 = k then (kv.1, v) else kv) else kvs ++ [(k, v)]
theorem KV.any {kvs : List (κ × V)} {vs : List (κ × Value)} (r : KV kvs vs) (k : κ) : (kvs.any fun kv => decide (kv.1 = k)) = vs.any fun kv => decide (kv.1 = k) := by
  unfold KV at r
  induction r with
  | nil => rfl
  | cons h t ih => rw [List.any_cons, List.any_cons, ih, h.1]
theorem KV.length {kvs : List (κ × V)} {vs : List (κ × Value)} (r : KV kvs vs) : kvs.length = vs.length := Paired.length r
end
theorem kV_is {P : Program} {w : World} {k : Key} {u : Value} (r : RelV (kV k) u) : (mixKind P w).is k u = true := by
  cases k with
  | inl i => obtain ⟨t, e⟩ := (show ∃ t, u = Value.int i t from r); subst e; exact mixKind_int P w i t
  | inr x => obtain ⟨t, e⟩ := (show ∃ t, u = Value.str x t from r); subst e; exact mixKind_str P w x t
theorem items_are {P : Program} {w : World} : ∀ {ks : List Key} {us : List Value}, Vals (ks.map kV) us → ItemsAre (mixKind P w) ks us
  | [], _, r => by rw [List.map_nil] at r; cases r; exact .nil
  | k :: ks, _, r => by
    rw [List.map_cons] at r
    cases r with
    | cons h t => exact .cons (kV_is h) (items_are t)
section
variable {P : Program} {w : World} {H : Hp} {h : Heap} {a : Addr}
theorem key_of {ks : List Key} (ok : HOk P w H h) (e : H a = some (.tup (ks.map kV))) : (tupleKind (mixKind P w)).is h ks a := by
  obtain ⟨_, its, r, o, h1, h2, n, h3⟩ := (show ObjOk P w H h a (.tup (ks.map kV)) from ok a _ e)
  exact ⟨o, its.toArray, n, h1, h2, h3, by simpa using items_are r⟩
end
noncomputable def DGet (H : Hp) (a : Addr) (y : V) (r : Option V) : Prop :=
  (∃ kvs k, Rd H a (.dK kvs) ∧ y = kV k ∧ r = valV kvs k) ∨ ∃ kvs k b, Rd H a (.dT kvs) ∧ y = .ref b ∧ H b = some (.tup (k.map kV)) ∧ r = valV kvs k
noncomputable def DPut (H : Hp) (a : Addr) (y v : V) (H' : Hp) : Prop :=
  (∃ kvs k, H a = some (.dK kvs) ∧ y = kV k ∧ kvs.length < sizeLine ∧ H' = upd H a (.dK (putK kvs k v))) ∨
  ∃ kvs k b, H a = some (.dT kvs) ∧ y = .ref b ∧ H b = some (.tup (k.map kV)) ∧ kvs.length < sizeLine ∧ H' = upd H a (.dT (putK kvs k v))
theorem DGet.k {H : Hp} {a : Addr} {kvs : List (Key × V)} {k : Key} (e : H a = some (.dK kvs)) : DGet H a (kV k) (valV kvs k) := .inl ⟨kvs, k, .inl e, rfl, rfl⟩
theorem DGet.t {H : Hp} {a b : Addr} {kvs : List (List Key × V)} {k : List Key} (e : H a = some (.dT kvs)) (eb : H b = some (.tup (k.map kV))) : DGet H a (.ref b) (valV kvs k) := .inr ⟨kvs, k, b, .inl e, rfl, eb, rfl⟩
theorem DPut.k {H : Hp} {a : Addr} {kvs : List (Key × V)} {k : Key} {v : V} (e : H a = some (.dK kvs)) (hl : kvs.length < sizeLine) : DPut H a (kV k) v (upd H a (.dK (putK kvs k v))) := .inl ⟨kvs, k, e, rfl, hl, rfl⟩
theorem DPut.t {H : Hp} {a b : Addr} {kvs : List (List Key × V)} {k : List Key} {v : V} (e : H a = some (.dT kvs)) (eb : H b = some (.tup (k.map kV))) (hl : kvs.length < sizeLine) :
    DPut H a (.ref b) v (upd H a (.dT (putK kvs k v))) := .inr ⟨kvs, k, b, e, rfl, eb, hl, rfl⟩
section
variable {X : Cx} {pins : List (Addr × Obj)} {σ : St} {H : Hp} {s : Shared} {a : Addr} {y v : V} {u r : Value} {o : Option V} {A : Around} {E : Value → Shared → Prop}
theorem Inv.big (I : Inv X pins σ H s) : sysModules < s.heap.objs.size := by
  have h : mainGlobals < s.heap.objs.size := (I.mod.glob.keeps I.bk).lt
  exact Nat.lt_trans (by decide) h
theorem d_write {h' : Heap} {t' : Nat} {ob : HO} (I : Inv X pins σ H s) (mu : Mut (H a)) (hs : Heap.SameBut a s.heap h') (he : ∃ q, h'.get? a = some q) (new : ObjOk X.prog X.w (upd H a ob) h' a ob) (ht : X.tn ≤ t' := by walk_at "tok") :
    Inv X pins σ (upd H a ob) { s with heap := h', toks := t' } :=
  I.write (x := a) (e := a) mu (.inl rfl) (fun b q hb z => (hs.2 b hb).trans z) he new
end
section
variable {X : Cx} {pins : List (Addr × Obj)} {σ : St} {H : Hp} {s : Shared} {a : Addr} {kvs : List (Key × V)} {k : Key} {u : Value} {A : Around} {E : Value → Shared → Prop}
end
section
variable {X : Cx} {o i e value : Expr} {pos pos' tpos : Pos} {td ty tv : TE}
end
section
variable {X : Cx} {pos : Pos}
end
section
variable {X : Cx} {pins : List (Addr × Obj)} {σ : St} {H : Hp} {s : Shared} {a : Addr} {y d : V} {u r : Value} {o : Option V} {A : Around} {E : Value → Shared → Prop}
end
section
variable {X : Cx} {o e f : Expr} {apos cpos : Pos} {td ty tx : TE}
end
section
variable {X : Cx} {pins : List (Addr × Obj)} {σ : St} {H : Hp} {s : Shared} {a : Addr} {kvs : List (Key × V)} {A : Around} {E : Value → Shared → Prop}
end
section
variable {X : Cx} {pins : List (Addr × Obj)} {σ : St} {H : Hp} {s : Shared} {a : Addr} {y : V} {u : Value} {A : Around} {E : Value → Shared → Prop}
end
end L2
namespace Att
open PySem PySem.W PySem.Calls PyProof.Rows
theorem ints_of_wellAll {P : Params} {h : Heap} : ∀ (ns : List Int) (vs : List Value), WellAll P h vs (ns.map WData.int) → IntsAre vs ns := by
  intro ns
  induction ns with
  | nil =>
    intro vs w
    rw [List.map_nil] at w
    cases w
    exact .nil
  | cons n ns ih =>
    intro vs w
    rw [List.map_cons] at w
    cases w with
    | cons a b =>
      cases a
      exact .cons _ _ (ih _ b)
theorem script_of {l : OpenLaw} {n : Nat} (hn : l.most = some n) {P : Params} {h : Heap} {args : List WData} {vals : List Value}
    (hpre : l.row.toRowW.claim.pre args = true) (hwl : WellAll P h vals args) :
    ∃ a vs ns, vals = [Value.ref a] ∧ args = [WData.list (ns.map WData.int)] ∧ h.get? a = some { cls := .type "list", data := .seq vs.toArray } ∧ IntsAre vs ns ∧ ns.length ≤ n := by
  have hsh : WShape.hasAll [] args [.list .int] = true := (pre_splitW hpre).1
  have hc : l.pre.holds [] { args := args } = true := (pre_splitW hpre).2
  obtain ⟨d, r, rfl, h1, h2⟩ := hasAllW_cons hsh
  obtain rfl := hasAllW_nil h2
  obtain ⟨xs, rfl, h3⟩ := hasW_list h1
  obtain ⟨ns, rfl⟩ := items_int h3
  have hlen : ns.length ≤ n := by
    unfold OpenLaw.pre at hc
    have h4 : (WTm.not (.lt (.lit (.int (n : Int))) (.len (.arg 0)))).holds [] { args := [.list (ns.map .int)] } = true := by
      have h4 := (holds_andW hc).1
      rw [hn] at h4
      exact h4
    have h5 := condW_of h4 (w_not (w_lt w_lit (w_len_list (w_arg rfl))))
    rw [List.length_map] at h5
    refine Nat.le_of_not_lt fun q => ?_
    have q' : (n : Int) < ((ns.length : Nat) : Int) := by omega
    first
      | (rw [decide_eq_true q'] at h5; exact absurd h5 (by decide))
      | (simp at h5; omega)
  cases hwl with
  | cons w1 w2 =>
    cases w2
    cases w1 with
    | list ho hall => exact ⟨_, _, ns, rfl, rfl, ho, ints_of_wellAll ns _ hall, hlen⟩
theorem post_true (l : OpenLaw) (args : List WData) : l.row.toRowW.claim.post args (.bool true) args = true :=
  postW_of (r := l.row.toRowW) (X := (true == true))
    (show WShape.has [] (.bool true) .bool = true by first | rfl | decide | simp [WShape.has, WShape.arms, WShape.armsAll])
    (show (WTm.eq .res (.lit (.bool true))).value [] { args := args, res := some (.bool true), after := args } = some (.bool (true == true)) from w_eq_bool (w_res rfl) w_lit) rfl
theorem attach_call {l : OpenLaw} {n : Nat} {q : Program} {loose : List Str} {XP : (Str → Option Value) → Heap → Prop} {YP : World → Heap → Prop} {d : DefRec}
    (hn : l.most = some n) (hdf : d.params.defaults = [])
    (call : ∀ (w : World) (s₀ s₁ : Shared) (mg mb : Str → Option Value) (fa : Addr) (o : Obj) (pm cd doc : Value) (a : Addr) (vs : List Value) (ns : List Int),
      Ground q loose [] XP w s₀ mg mb s₁.heap → YP w s₁.heap →
      s₁.heap.get? fa = some o → o.data = .func (docDef d.name d.params d.body d.scope pm cd doc) → s₁.heap.CodeRec cd d.name → mg d.name = some (.ref fa) →
      s₁.heap.get? a = some { cls := .type "list", data := .seq vs.toArray } → IntsAre vs ns → ns.length ≤ n → s₁.gens = #[] →
      codeAny (model l.prog w) callerA (.call (.ref fa) ⟨[.ref a], []⟩) (fun r s' => r = .ok (.ret (.bool true)) ∧ OldK s₁.heap s'.heap ∧ s'.os = s₁.os ∧ AllBare s'.gens) s₁) :
    WalkO q loose XP YP l.row.toRowW d [] (fun f vs => PySem.call f vs) := by
  intro w s₀ s₁ mg mb G Y fa o pm cd doc dV kV ho hd hcd hD hmg hg args vals as hpre hlay hrd hwl hlo
  obtain rfl : dV = .none := Dflts.none hD hdf
  obtain rfl : kV = .none := Dflts.noKw hD
  obtain ⟨a, vs, ns, rfl, rfl, hobj, hints, hlen⟩ := script_of hn hpre hwl
  refine enter_call (codeAny_mono (call w s₀ s₁ mg mb fa o pm cd doc a vs ns G Y ho (fd_plain hd) hcd hmg hobj hints hlen hg) fun r s' hq => ?_)
  obtain ⟨rfl, h2, h3, h4⟩ := hq
  exact ⟨.inl ⟨.bool true, .bool true, [], rfl, fun _ => rfl, .bool true, post_true l _, fun _ => ⟨List.Pairwise.nil, fun _ hm => (nomatch hm)⟩⟩, h2, h3, h4⟩
section
variable {prog : Program} {w : World} {A : Around} {E : Value → Shared → Prop} {s : Shared} {K : Frag}
end
end Att
namespace L2
open PySem PySem.Spec PyProof.Rows
theorem vals_ints : ∀ {vs : List Value} {ns : List Int}, IntsAre vs ns → Vals (ns.map V.int) vs
  | _, _, .nil => .nil
  | _, _, .cons n t h => .cons ⟨t, rfl⟩ (vals_ints h)
noncomputable def Only (H : Hp) : Prop := ∀ b, H b = none ∨ ∃ o xs, H b = some (.frz o (.lst xs))
theorem law_call {P : Program} {w : World} {K : PySem.W.Frag} {mg mb : Str → Option Value} {CX : CXT} {k : Nat} {fa a : Addr} {fd : FuncData} {x : Str} {sp : Sp} {s₁ : Shared} {vs : List Value} {ns : List Int}
    (KX : K.In s₁.heap) (hns : s₁.heap.Ns mainGlobals mg) (hb : s₁.heap.Ns builtinsNs mb) (hbb : ∀ x : Str, x ≠ "__name__" → mb x = bootBuiltins x) (hlim : s₁.heap.NoLimit) (hg : s₁.gens = #[])
    (ha : s₁.heap.get? a = some { cls := .type "list", data := .seq vs.toArray }) (hi : IntsAre vs ns) (hl : ns.length ≤ sizeLine) (hr : Room k callerA)
    (F : ∀ base : Heap, K.In base → base.Ns mainGlobals mg → FnOk P w K mg base CX k fa fd [x] sp) (hbind : ∀ (s : Shared) (u : Value), BindsTo s fd ⟨[u], []⟩ [(x, u)])
    (hsp : ∀ H : Hp, Only H → SqL K H a (ns.map V.int) → sp [.ref a] H (fun v _ => v = .bl true) fun _ _ _ => False)
    (hCX : ∀ H e s', CX [] H s₁ (fun _ _ _ => False) e s' → False) :
    codeAny (model P w) callerA (.call (.ref fa) ⟨[.ref a], []⟩) (fun r s' => r = .ok (.ret (.bool true)) ∧ OldK s₁.heap s'.heap ∧ s'.os = s₁.os ∧ AllBare s'.gens) s₁ := by
  have rv := vals_ints hi
  have lenV := hi.length
  -- from an abstract heap in which nothing but the script may be tracked
  have core : ∀ H : Hp, Only H → SqL K H a (ns.map V.int) → HOk P w H s₁.heap → (∀ b, H b ≠ none → b = a) → (H a ≠ none → K.lookup a = none) →
      codeAny (model P w) callerA (.call (.ref fa) ⟨[.ref a], []⟩) (fun r s' => r = .ok (.ret (.bool true)) ∧ OldK s₁.heap s'.heap ∧ s'.os = s₁.os ∧ AllBare s'.gens) s₁ := by
    intro H hO hS hok hA hK
    have base_of : ∀ {b : Addr} {o : Obj}, s₁.heap.get? b = some o → H b = none → (hidT s₁.heap H).get? b = some o := fun e n => hidT_get e n
    have noA : ∀ {b : Addr} {o : Obj} {es : Array DictEntry} {ep : Nat}, s₁.heap.get? b = some o → o.data = .dict es ep → H b = none := fun {b o es ep} e d => by
      cases q : H b with
      | none => rfl
      | some u =>
        have e' : b = a := hA b (by rw [q]; simp)
        subst e'
        rw [ha] at e; cases e
        have d' : Data.seq vs.toArray _ = Data.dict es ep := d
        cases d'
    have nsK : ∀ {b : Addr} {m : Str → Option Value}, s₁.heap.Ns b m → (hidT s₁.heap H).Ns b m := fun {b m} ⟨o, es, ep, e, d, r⟩ => ⟨o, es, ep, base_of e (noA e d), d, r⟩
    have hKb : K.In (hidT s₁.heap H) := fun b o e => base_of (KX b o e) (by
      cases q : H b with
      | none => rfl
      | some u =>
        have e' : b = a := hA b (by rw [q]; simp)
        subst e'
        rw [hK (by rw [q]; simp)] at e; cases e)
    have hM : Mod K mg (hidT s₁.heap H) := ⟨hKb, nsK hns, ⟨mb, nsK hb, hbb⟩, let ⟨mc, h1, h2⟩ := hlim; ⟨mc, nsK h1, h2⟩⟩
    have e0 : Env0 P w K mg (hidT s₁.heap H) callerA [] s₁ H := ⟨rfl, hM, fun b o e => of_hidT e, Nat.le_of_eq (hidT_size _ _), trivial, fun b hb => absurd (show b ∈ ([] : List Addr) from hb) (by simp), hok, .of_eq hg⟩
    refine codeAny_mono ((F _ hKb (nsK hns)).run callerA [] s₁ H ⟨[.ref a], []⟩ [.ref a] [.ref a] _ _ hr e0 (hbind s₁ (.ref a)) (.cons rfl .nil) (hsp H hO hS)) fun r s' h => ?_
    cases r with
    | error e => exact (hCX H e s' h).elim
    | ok fl =>
      cases fl with
      | next => exact False.elim h
      | brk => exact False.elim h
      | cont => exact False.elim h
      | ret u =>
        obtain ⟨v, H', os, bare, un, hok', r', q⟩ := h
        have q' : v = .bl true := q
        subst q'
        obtain rfl : u = Value.bool true := r'
        refine ⟨rfl, OldK.of_keep fun b o e => ?_, os, bare⟩
        cases q : H b with
        | none => exact un.keep b o e q (by intro z; exact absurd (show b ∈ ([] : List Addr) from z) (by simp)) (by simp)
        | some u =>
          rcases hO b with z | ⟨ob, xs, z⟩
          · rw [q] at z; cases z
          · have z2 := un.frzs b ob _ z
            obtain ⟨e1, _⟩ := hok b _ z
            obtain ⟨e2, _⟩ := hok' b _ z2
            rw [e] at e1; cases e1
            exact e2
  cases hk : K.lookup a with
  | some o =>
    -- the script is one of the module's own objects
    have e := KX a o hk
    rw [ha] at e
    cases e
    refine core (fun _ => none) (fun _ => .inl rfl) (.inr ⟨_, vs.toArray, _, hk, rfl, rfl, rfl, by rw [List.size_toArray, lenV]; exact hl, by simpa using rv⟩) (fun b u z => by have z' : (none : Option HO) = some u := z; cases z') (fun b z => absurd rfl z) fun z => absurd rfl z
  | none =>
    refine core (fun b => if b = a then some (.frz { cls := .type "list", data := .seq vs.toArray } (.lst (ns.map V.int))) else none) (fun b => ?_) (.inl (.inr ⟨{ cls := .type "list", data := .seq vs.toArray }, if_pos rfl⟩)) (fun b u z => ?_) (fun b z => ?_) fun _ => hk
    · by_cases hb : b = a
      · exact .inr ⟨_, _, if_pos hb⟩
      · exact .inl (if_neg hb)
    · by_cases hb : b = a
      · have z' := (if_pos hb).symm.trans z
        cases z'
        subst hb
        exact ⟨ha, by rw [List.length_map]; exact hl, vs, _, rv, ha⟩
      · have z' := (if_neg hb).symm.trans z
        cases z'
    · by_cases hb : b = a
      · exact hb
      · exact absurd (if_neg hb) z
end L2
namespace L2
open PySem PySem.Spec PyProof.Rows
theorem walk_of {l : PySem.W.OpenLaw} {n k : Nat} {q : Program} {loose : List Str} {XP : (Str → Option Value) → Heap → Prop} {YP : World → Heap → Prop} {d : DefRec} {K : Params → PySem.W.Frag} {CX : World → CXT} {sp : World → Sp} {x : Str}
    (hn : l.most = some n) (hn2 : n ≤ sizeLine) (hdf : d.params.defaults = []) (hr : Room k callerA)
    (hY : ∀ (w : World) (h : Heap), YP w h → (K w.params).In h)
    (F : ∀ (w : World) (mg : Str → Option Value) (fa : Addr) (h : Heap), (K w.params).In h → h.Ns mainGlobals mg → mg d.name = some (.ref fa) →
      ∃ fd : FuncData, (∀ (s : Shared) (u : Value), BindsTo s fd ⟨[u], []⟩ [(x, u)]) ∧
        ∀ base : Heap, (K w.params).In base → base.Ns mainGlobals mg → FnOk l.prog w (K w.params) mg base (CX w) k fa fd [x] (sp w))
    (hsp : ∀ (w : World) (H : Hp) (a : Addr) (ns : List Int), ns.length ≤ n → Only H → SqL (K w.params) H a (ns.map V.int) → sp w [.ref a] H (fun v _ => v = .bl true) fun _ _ _ => False)
    (hCX : ∀ (w : World) (H : Hp) (s : Shared) (e : Value) (s' : Shared), CX w [] H s (fun _ _ _ => False) e s' → False) :
    PySem.W.WalkO q loose XP YP l.row.toRowW d [] (fun f vs => PySem.call f vs) := by
  refine Att.attach_call hn hdf fun w s₀ s₁ mg mb fa o pm cd doc a vs ns G Y ho hd hcd hmg hobj hints hlen hg => ?_
  have KX := hY w _ Y
  obtain ⟨fd, hb, hF⟩ := F w mg fa _ KX G.T.g hmg
  exact law_call KX G.T.g G.T.b G.T.builtins G.T.nolimit hg hobj hints (Nat.le_trans hlen hn2) hr hF hb (fun H hO hS => hsp w H a ns hlen hO hS) fun H e s' => hCX w H s₁ e s'
end L2
namespace L2
open PySem PySem.Spec PyProof.Rows
noncomputable def defArgs (s : Stmt) : Arguments := match s with
  | .FunctionDef _ a _ _ _ _ _ _ _ _ => a
  | _ => { posonlyargs := [], args := [], vararg := none, kwonlyargs := [], kw_defaults := [], kwarg := none, defaults := [] }
noncomputable def defBody (s : Stmt) : List Stmt := match s with
  | .FunctionDef _ _ b _ _ _ _ _ _ _ => b
  | _ => []
noncomputable def defScope (s : Stmt) : Scope := match s with
  | .FunctionDef _ _ _ _ _ _ sc _ _ _ => sc
  | _ => { kind := .function, names := [], isGenerator := false, isCoroutine := false }
noncomputable abbrev CX0 : CXT := fun _ _ _ _ _ _ => False
noncomputable abbrev E0 : XK := fun _ _ _ => False
theorem pass0 {X : Cx} : Passes CX0 X E0 := fun _ _ _ _ _ _ _ h => h.elim
structure Fun (K : PySem.W.Frag) (x qual : Str) (st : Stmt) (f : Addr) (fd : FuncData) : Prop where
  ex : ∃ (oc : Value) (od : Option Addr) (kV doc pm : Value) (an : Option Addr) (cdv ct : Value) (osl : Array (Option Value)),
    fd = PySem.W.fnOf x qual (defArgs st) (defBody st) (defScope st) .none kV doc pm an cdv ct ∧ K.lookup f = some ⟨oc, od, .func fd, osl⟩ ∧ PySem.W.codeIn K cdv qual = true
  kp : PySem.W.keepIn K (.ref f) = true
section
variable {P : Program} {w : World} {K : PySem.W.Frag} {mg : Str → Option Value} {base : Heap}
theorem Fun.ok {x qual : Str} {st : Stmt} {f : Addr} {fd : FuncData} {N ps : List Str} {k : Nat} {sp : Sp} (F : Fun K x qual st f fd) (S : FnScope N ps (defScope st)) (len : ∀ vs H Q E, sp vs H Q E → vs.length = ps.length)
    (hbody : ∀ (cdv : Value) (A : Around) (outer : List Env) (s : Shared) (H : Hp) (vs : List V) (Q : VK) (E : XK), Room k (A.deeper (envOfC qual (defScope st) s.heap.objs.size f cdv)) → sp vs H Q E →
      ∃ t, PSs (cxOf CX0 P w K mg base N qual (defScope st) f cdv A outer s H E).nox (defBody st) t ∧ t { nx := fun _ H' => Q .non H', rt := Q } (start N vs) H) : FnOk P w K mg base CX0 (k + 1) f fd ps sp := by
  obtain ⟨oc, od, kV, doc, pm, an, cdv, ct, osl, rfl, lk, hcd⟩ := F.ex
  refine fn_of lk hcd S len fun A outer s H vs Q E hr hsp => ?_
  obtain ⟨t, h, q⟩ := hbody cdv A outer s H vs Q E hr hsp
  exact ⟨t, h.nox, q⟩
theorem Fun.binds {x qual : Str} {st : Stmt} {f : Addr} {fd : FuncData} {ps : List Str} (F : Fun K x qual st f fd)
    (h : ∀ (kV doc pm : Value) (an : Option Addr) (cdv ct : Value) (us : List Value), us.length = ps.length → bindArgs (PySem.W.fnOf x qual (defArgs st) (defBody st) (defScope st) .none kV doc pm an cdv ct) ⟨us, []⟩ = pure (ps.zip us)) : Binds K fd ps [] := by
  obtain ⟨oc, od, kV, doc, pm, an, cdv, ct, osl, rfl, lk, hcd⟩ := F.ex
  exact .all (h kV doc pm an cdv ct)
theorem fun_mk {x qual : Str} {st : Stmt} {f : Addr} {oc : Value} {od an : Option Addr} {osl : Array (Option Value)} {kV doc pm cdv ct : Value} (l : K.lookup f = some ⟨oc, od, .func (PySem.W.fnOf x qual (defArgs st) (defBody st) (defScope st) .none kV doc pm an cdv ct), osl⟩)
    (c : PySem.W.codeIn K cdv qual = true) (k : PySem.W.keepIn K (.ref f) = true) : Fun K x qual st f (PySem.W.fnOf x qual (defArgs st) (defBody st) (defScope st) .none kV doc pm an cdv ct) := ⟨⟨oc, od, kV, doc, pm, an, cdv, ct, osl, rfl, l, c⟩, k⟩
end
section
variable {X : Cx}
end
noncomputable def Same (H H' : Hp) : Prop := ∀ b o, H b = some o → H' b = some o
theorem Same.refl (H : Hp) : Same H H := fun _ _ h => h
theorem Same.trans {H H1 H2 : Hp} (a : Same H H1) (b : Same H1 H2) : Same H H2 := fun c o h => b c o (a c o h)
theorem Same.free {H H' : Hp} (e : Same H H') {l : Addr} (h : H' l = Option.none) : H l = Option.none := by
  cases q : H l with
  | none => rfl
  | some o =>
    rw [e l o q] at h
    cases h
theorem Same.seq {K : PySem.W.Frag} {H H' : Hp} {a : Addr} {xs : List V} (e : Same H H') (h : SqL K H a xs) : SqL K H' a xs := by
  rcases h with (h | ⟨o, h⟩) | h
  · exact .inl (.inl (e _ _ h))
  · exact .inl (.inr ⟨o, e _ _ h⟩)
  · exact .inr h
section
variable {κ : Type} [DecidableEq κ]
end
end L2
namespace L2
open PySem PySem.W PySem.W.X PySem.W.ZRun
theorem walkX {q : Program} {loose : List Str} {XP : (Str → Option Value) → Heap → Prop} {K : Params → Frag} {as : List Addr} {n t : Nat} {r : RowW} {d : DefRec} {kwd : List (Str × Expr)} {run : Value → List Value → Sem Value}
    (e : ∀ P, as = (K P).map (·.1)) (h : WalkO q loose XP (fun w h => (K w.params).In h) r d kwd run) : WalkX q loose XP (obsZ as) (valZ K n t) r d kwd run :=
  fun w s₀ s₁ mg mb G y a o pm cd doc dV kV h1 h2 h3 h4 h5 h6 args vals as L hp hl hr hw hs =>
    h w s₀ s₁ mg mb G (InK.keeps w s₀.heap s₁.heap (z_facts e y).2.1 L.keeps) a o pm cd doc dV kV h1 h2 h3 h4 h5 h6 args vals as hp hl hr hw hs
theorem ln1 {α : Type} {P : List α → Prop} (h : ∀ a, P [a]) : ∀ us : List α, us.length = 1 → P us := fun us e => by
  obtain ⟨a, rfl⟩ := List.length_eq_one_iff.mp e; exact h a
theorem lnS {α : Type} {P : List α → Prop} {n : Nat} (h : ∀ a us, us.length = n → P (a :: us)) : ∀ us : List α, us.length = n + 1 → P us := fun us e => by
  cases us with
  | nil => cases e
  | cons a us => exact h a us (Nat.succ.inj e)
theorem ln2 {α : Type} {P : List α → Prop} (h : ∀ a b, P [a, b]) : ∀ us : List α, us.length = 2 → P us := lnS fun a => ln1 fun b => h a b
end L2
namespace L2
open PySem PySem.Spec PyProof.Rows
set_option maxHeartbeats 4000000
noncomputable def clGo (cells : List (Str × Addr)) : List (Str × NameKind) → List (Str × Addr) → List (Str × Addr)
  | [], acc => acc
  | (n, k) :: r, acc => if k = .free then clGo cells r ((n, (cells.lookup n).getD 0) :: acc) else clGo cells r acc
theorem closureFor_some {scope : Scope} {env : Env} (h : ∀ y ∈ scope.names, y.2 = .free → ∃ c, env.cells.lookup y.1 = some c) : closureFor scope env = pure (clGo env.cells scope.names []) := by
  simp only [closureFor]
  generalize ([] : List (Str × Addr)) = acc
  revert h
  generalize scope.names = names
  intro h
  induction names generalizing acc with
  | nil => rfl
  | cons y r ih =>
    obtain ⟨n, k⟩ := y
    have ih' := fun acc => ih acc fun z hz => h z (List.mem_cons_of_mem _ hz)
    by_cases hk : k = .free
    · subst hk
      obtain ⟨c, hc⟩ := h (n, .free) List.mem_cons_self rfl
      have hc : env.cells.lookup n = some c := hc
      have e1 : cellOf env n = pure c := by unfold cellOf; rw [hc]
      have e2 : clGo env.cells ((n, .free) :: r) acc = clGo env.cells r ((n, c) :: acc) := by
        show (if NameKind.free = .free then _ else _) = _
        rw [if_pos rfl, hc]; rfl
      rw [e2, ← ih' ((n, c) :: acc), List.forIn_cons]
      simp only [beq_self_eq_true, if_true, e1]
      rfl
    · have hb : (k == NameKind.free) = false := by simpa using hk
      have e2 : clGo env.cells ((n, k) :: r) acc = clGo env.cells r acc := by
        show (if k = .free then _ else _) = _
        rw [if_neg hk]
      rw [e2, ← ih' acc, List.forIn_cons]
      simp only [hb, Bool.false_eq_true, if_false]
      rfl
theorem clGo_in {cells : List (Str × Addr)} {x : Str} {c : Addr} : ∀ (names : List (Str × NameKind)) (acc : List (Str × Addr)), (∀ y ∈ names, y.2 = .free → ∃ c, cells.lookup y.1 = some c) →
    (clGo cells names acc).lookup x = some c → cells.lookup x = some c ∨ acc.lookup x = some c
  | [], acc, _, e => .inr e
  | (n, k) :: r, acc, h, e => by
    have hr : ∀ y ∈ r, y.2 = .free → ∃ c, cells.lookup y.1 = some c := fun y hy => h y (List.mem_cons_of_mem _ hy)
    by_cases hk : k = .free
    · subst hk
      have e2 : clGo cells ((n, .free) :: r) acc = clGo cells r ((n, (cells.lookup n).getD 0) :: acc) := by
        show (if NameKind.free = .free then _ else _) = _
        rw [if_pos rfl]
      rw [e2] at e
      rcases clGo_in r _ hr e with z | z
      · exact .inl z
      · rw [List.lookup_cons] at z
        cases hx : x == n with
        | true =>
          rw [hx] at z
          have hxn : x = n := eq_of_beq hx
          obtain ⟨c', hc⟩ := h (n, .free) List.mem_cons_self rfl
          have hc : cells.lookup n = some c' := hc
          rw [hc] at z
          left
          rw [hxn, hc]
          exact z
        | false =>
          rw [hx] at z
          exact .inr z
    · have e2 : clGo cells ((n, k) :: r) acc = clGo cells r acc := by
        show (if k = .free then _ else _) = _
        rw [if_neg hk]
      rw [e2] at e
      exact clGo_in r acc hr e
theorem clGo_has {cells : List (Str × Addr)} {x : Str} : ∀ (names : List (Str × NameKind)) (acc : List (Str × Addr)), ((x, NameKind.free) ∈ names ∨ ∃ c, acc.lookup x = some c) → ∃ c, (clGo cells names acc).lookup x = some c
  | [], acc, h => by
    rcases h with h | h
    · cases h
    · exact h
  | (n, k) :: r, acc, h => by
    by_cases hk : k = .free
    · subst hk
      have e2 : clGo cells ((n, .free) :: r) acc = clGo cells r ((n, (cells.lookup n).getD 0) :: acc) := by
        show (if NameKind.free = .free then _ else _) = _
        rw [if_pos rfl]
      rw [e2]
      refine clGo_has r _ ?_
      rcases h with h | ⟨c, h⟩
      · rcases List.mem_cons.mp h with h | h
        · cases h
          exact .inr ⟨_, by rw [List.lookup_cons, beq_self_eq_true]⟩
        · exact .inl h
      · right
        rw [List.lookup_cons]
        cases x == n with
        | true => exact ⟨_, rfl⟩
        | false => exact ⟨c, h⟩
    · have e2 : clGo cells ((n, k) :: r) acc = clGo cells r acc := by
        show (if k = .free then _ else _) = _
        rw [if_neg hk]
      rw [e2]
      refine clGo_has r acc ?_
      rcases h with h | h
      · rcases List.mem_cons.mp h with h | h
        · cases h
          exact absurd rfl hk
        · exact .inl h
      · exact .inr h
structure Bk where
  cl : List (Str × Addr)
  C : Addr
  s : Shared
  H : Hp
  fp : List Addr
  pins : List (Addr × Obj)
noncomputable def blk (X : Cx) (N : List Str) (scope : Scope) (b : Bk) : Cx :=
  { X with tn := 0, N := N, s₀ := b.s, H₀ := b.H, env := compEnvC scope b.cl b.C X.env, outer := X.stack, stack := X.stack, ex := b.fp, fn := fun _ => false, pn := X.pn ++ b.pins, xe := fun _ _ => False }
noncomputable def capOk (ON : List Str) (names : List (Str × NameKind)) : List (Option Nat) → List Str → Bool
  | [], [] => true
  | none :: r, _ :: n => capOk ON names r n
  | some j :: r, x :: n => decide (ON[j]? = some x) && decide ((x, NameKind.free) ∈ names) && capOk ON names r n
  | _, _ => false
noncomputable def csOk (osc : Scope) (ON N : List Str) (ix : List (Option Nat)) (scope : Scope) : Bool :=
  decide (scope.kind = .function) && (scope.names.all fun y => decide (y.2 ≠ .cell)) && (scope.names.all fun y => decide (y.2 = .local → scope.names.lookup y.1 = some .local)) &&
  (scope.names.all fun y => decide (y.2 = .free → osc.names.lookup y.1 = some .cell ∨ osc.names.lookup y.1 = some .free)) && (scope.names.all fun y => decide (y.2 = .local → (y.1, NameKind.free) ∉ scope.names)) && capOk ON scope.names ix N
structure CScope (osc : Scope) (ON N : List Str) (ix : List (Option Nat)) (scope : Scope) : Prop where
  kind : scope.kind = .function
  nocell : ∀ y ∈ scope.names, y.2 ≠ .cell
  names : ∀ y ∈ scope.names, y.2 = .local → scope.names.lookup y.1 = some .local
  outs : ∀ y ∈ scope.names, y.2 = .free → osc.names.lookup y.1 = some .cell ∨ osc.names.lookup y.1 = some .free
  nolf : ∀ x, (x, NameKind.local) ∈ scope.names → (x, NameKind.free) ∈ scope.names → False
  len : ix.length = N.length
  cap : ∀ (i j : Nat) (x : Str), ix[i]? = some (some j) → N[i]? = some x → ON[j]? = some x ∧ (x, NameKind.free) ∈ scope.names
theorem capOk_len {ON : List Str} {names : List (Str × NameKind)} : ∀ {ix : List (Option Nat)} {N : List Str}, capOk ON names ix N = true → ix.length = N.length
  | [], [], _ => rfl
  | none :: r, _ :: n, h => congrArg Nat.succ (capOk_len (ix := r) (N := n) h)
  | some j :: r, x :: n, h => by
    have h' : (decide (ON[j]? = some x) && decide ((x, NameKind.free) ∈ names) && capOk ON names r n) = true := h
    rw [Bool.and_eq_true] at h'
    exact congrArg Nat.succ (capOk_len h'.2)
  | [], _ :: _, h => by cases h
  | none :: _, [], h => by cases h
  | some _ :: _, [], h => by cases h
theorem capOk_cap {ON : List Str} {names : List (Str × NameKind)} : ∀ {ix : List (Option Nat)} {N : List Str}, capOk ON names ix N = true → ∀ (i j : Nat) (x : Str), ix[i]? = some (some j) → N[i]? = some x → ON[j]? = some x ∧ (x, NameKind.free) ∈ names
  | [], _, _, i, j, x, h1, _ => by simp at h1
  | none :: r, y :: n, h, 0, j, x, h1, _ => by simp at h1
  | none :: r, y :: n, h, i + 1, j, x, h1, h2 => capOk_cap (ix := r) (N := n) h i j x (by simpa using h1) (by simpa using h2)
  | some k :: r, y :: n, h, i, j, x, h1, h2 => by
    have h' : (decide (ON[k]? = some y) && decide ((y, NameKind.free) ∈ names) && capOk ON names r n) = true := h
    rw [Bool.and_eq_true, Bool.and_eq_true] at h'
    cases i with
    | zero =>
      simp only [List.getElem?_cons_zero, Option.some.injEq] at h1 h2
      subst h1 h2
      exact ⟨of_decide_eq_true h'.1.1, of_decide_eq_true h'.1.2⟩
    | succ i => exact capOk_cap h'.2 i j x (by simpa using h1) (by simpa using h2)
  | none :: _, [], h, _, _, _, _, _ => by cases h
  | some _ :: _, [], h, _, _, _, _, _ => by cases h
theorem cs_of {osc : Scope} {ON N : List Str} {ix : List (Option Nat)} {scope : Scope} (h : csOk osc ON N ix scope = true) : CScope osc ON N ix scope := by
  unfold csOk at h
  simp only [Bool.and_eq_true] at h
  obtain ⟨⟨⟨⟨⟨h1, h2⟩, h3⟩, h4⟩, h5⟩, h6⟩ := h
  exact ⟨of_decide_eq_true h1, fun y hy => of_decide_eq_true (List.all_eq_true.mp h2 y hy), fun y hy => of_decide_eq_true (List.all_eq_true.mp h3 y hy), fun y hy => of_decide_eq_true (List.all_eq_true.mp h4 y hy),
    fun x hx hf => of_decide_eq_true (List.all_eq_true.mp h5 (x, .local) hx) rfl hf, capOk_len h6, capOk_cap h6⟩
noncomputable def capt (ix : List (Option Nat)) (σ : St) : St := ix.map fun o => o.bind fun j => (σ[j]?).getD none
theorem lookup_relabel {env : Env} : ∀ {names : List (Str × NameKind)} {x : Str} {k : NameKind}, (names.map fun (n, k) => if (k == NameKind.free && env.scope.kind == .function && env.kindOf n == some .cell) then (n, NameKind.cell) else (n, k)).lookup x = some k →
    names.lookup x = some k ∨ (k = .cell ∧ names.lookup x = some .free ∧ env.kindOf x = some .cell)
  | [], _, _, h => by cases h
  | (n, k') :: r, x, k, h => by
    have ih := @lookup_relabel env r x k
    have h : List.lookup x ((if (k' == NameKind.free && env.scope.kind == .function && env.kindOf n == some .cell) = true then (n, NameKind.cell) else (n, k')) :: _) = some k := h
    by_cases hc : (k' == NameKind.free && env.scope.kind == .function && env.kindOf n == some .cell) = true
    · rw [if_pos hc] at h
      rw [List.lookup_cons] at h
      rw [List.lookup_cons]
      cases hx : x == n with
      | true =>
        rw [hx] at h
        cases h
        have hxn : x = n := eq_of_beq hx
        simp only [Bool.and_eq_true, beq_iff_eq] at hc
        right
        exact ⟨rfl, by rw [hc.1.1], by rw [hxn]; exact hc.2⟩
      | false =>
        rw [hx] at h
        exact ih h
    · rw [if_neg hc] at h
      rw [List.lookup_cons] at h
      rw [List.lookup_cons]
      cases hx : x == n with
      | true =>
        rw [hx] at h
        cases h
        exact .inl rfl
      | false =>
        rw [hx] at h
        exact ih h
theorem mem_of_lookupK {x : Str} {k : NameKind} : ∀ {names : List (Str × NameKind)}, names.lookup x = some k → (x, k) ∈ names := fun h => PySem.mem_of_lookup h
theorem inv_blk {X : Cx} {osc : Scope} {ON : List Str} {pins : List (Addr × Obj)} {σ : St} {H : Hp} {s s' : Shared} {N : List Str} {ix : List (Option Nat)} {scope : Scope} {fp : List Addr} {h' : Heap} {m : Str → Option Value} (I : Inv X pins σ H s) (hE : X.env.scope = osc) (hO : X.N = ON) (S : CScope osc ON N ix scope)
    (hfp : ∀ b ∈ fp, FpOk X pins H b) (hfo : ∀ b ∈ fp, ∃ o, s.heap.get? b = some o) (hn : h'.Ns s.heap.objs.size m) (hk : ∀ b o, s.heap.get? b = some o → h'.get? b = some o) (he : s' = { s with heap := h', toks := s'.toks }) :
    Inv (blk X N scope ⟨clGo X.env.cells scope.names [], s.heap.objs.size, s, H, fp, pins⟩) [] (capt ix σ) H s' := by
  subst hE hO
  have hcells : ∀ y ∈ scope.names, y.2 = .free → ∃ c, X.env.cells.lookup y.1 = some c := fun y hy e => I.ok.has y.1 (S.outs y hy e)
  have clin : ∀ x c, (clGo X.env.cells scope.names []).lookup x = some c → X.env.cells.lookup x = some c := fun x c e => by
    rcases clGo_in scope.names [] hcells e with z | z
    · exact z
    · cases z
  have old : ∀ b o, s.heap.get? b = some o → b ≠ s.heap.objs.size := fun b o e => Nat.ne_of_lt (Heap.lt_size e)
  have hkind : ∀ x, (compEnvC scope (clGo X.env.cells scope.names []) s.heap.objs.size X.env).kindOf x = some .cell ∨ (compEnvC scope (clGo X.env.cells scope.names []) s.heap.objs.size X.env).kindOf x = some .free → (x, NameKind.free) ∈ scope.names := fun x hx => by
    rcases hx with hx | hx
    · rcases lookup_relabel (env := X.env) hx with z | ⟨_, z, _⟩
      · exact absurd rfl (S.nocell _ (mem_of_lookupK z))
      · exact mem_of_lookupK z
    · rcases lookup_relabel (env := X.env) hx with z | ⟨z, _⟩
      · exact mem_of_lookupK z
      · cases z
  have cellK : ∀ x c, X.env.cells.lookup x = some c → ∀ v, s.heap.IsCell c v → h'.IsCell c v := fun x c e v ⟨o, ho, hd⟩ => ⟨o, hk c o ho, hd⟩
  rw [he]
  refine ⟨⟨I.ok.mod, S.kind, I.ok.glob, I.ok.blt, Nat.le_refl _, fun x y c h1 h2 => I.ok.inj x y c (clin x c h1) (clin y c h2), fun x hx => clGo_has _ _ (.inl (hkind x hx)), fun x c z _ => (nomatch z), I.ok.hd, I.ok.frames, .inl rfl,
    fun b hb => ?_, fun b o e => I.bs b o e, Nat.le_trans I.ok.bsz I.sz, fun b o e hb => ?_, fun b hb hx => ?_, I.stack, fun b hb => I.stkFree b hb⟩,
    rfl, I.bare, Un.kept hk, ⟨m, hn, fun i x v h1 h2 h3 => ?_⟩, fun x c e => ?_, I.hok.fresh (Nat.le_refl _), fun x c e => I.freeC x c (clin x c e), fun p hp => ?_, I.hok.kept hk, ?_, Nat.zero_le _⟩
  · obtain ⟨o, ho⟩ := hfo b hb
    exact ⟨old b o ho, fun x c e => (hfp b hb).2.2.2.2.1 x c (clin x c e)⟩
  · rcases (hfp b hb).2.2.2.1 with z | z
    · exact I.ok.noex b o e z
    · exact absurd (Nat.lt_of_lt_of_le (Heap.lt_size e) (Nat.le_trans I.ok.bsz z)) (Nat.lt_irrefl _)
  · rcases List.mem_cons.mp (I.stkSub b hx) with z | z
    · exact (hfp b hb).2.1 z
    · exact (hfp b hb).2.2.1 z
  · -- a captured name
    have h2' : (capt ix σ)[i]? = some (some v) := h2
    unfold capt at h2'
    rw [List.getElem?_map] at h2'
    cases e : ix[i]? with
    | none => rw [e] at h2'; cases h2'
    | some o =>
      rw [e] at h2'
      cases o with
      | none => cases h2'
      | some j =>
        obtain ⟨c1, c2⟩ := S.cap i j x e h1
        have h2'' : (σ[j]?).getD none = some v := Option.some.inj h2'
        have ej : σ[j]? = some (some v) := by
          cases q : σ[j]? with
          | none => rw [q] at h2''; cases h2''
          | some w' => rw [q] at h2''; rw [← h2'']; rfl
        have ko := S.outs _ c2 rfl
        obtain ⟨mX, hnX, hl⟩ := I.loc
        have vis : Vis X.env.scope x := by
          rcases ko with k | k
          · exact .inr (.inl k)
          · exact .inr (.inr k)
        obtain ⟨u, ru, lk⟩ := hl j x v c1 ej vis
        refine ⟨u, ru, .inr ?_⟩
        have hcel : ∃ c, X.env.cells.lookup x = some c ∧ s.heap.IsCell c (some u) := by
          rcases lk with ⟨k, _⟩ | ⟨_, c, e1, e2⟩
          · rcases ko with k' | k'
            · have : X.env.kindOf x = some .cell := k'
              rw [k] at this; cases this
            · have : X.env.kindOf x = some .free := k'
              rw [k] at this; cases this
          · exact ⟨c, e1, e2⟩
        obtain ⟨c, e1, e2⟩ := hcel
        obtain ⟨c', e3⟩ := clGo_has (cells := X.env.cells) scope.names [] (.inl c2)
        have e4 := clin x c' e3
        rw [e1] at e4
        cases e4
        refine ⟨?_, c, e3, cellK x c e1 _ e2⟩
        rcases h3 with k | k | k
        · rcases lookup_relabel (env := X.env) k with z | ⟨z, _⟩
          · exact (S.nolf x (mem_of_lookupK z) c2).elim
          · cases z
        · exact .inl k
        · exact .inr k
  · obtain ⟨v, z⟩ := I.cell x c (clin x c e)
    exact ⟨v, cellK x c (clin x c e) v z⟩
  · have hp' : p ∈ X.pn ++ pins := by
      rcases List.mem_append.mp hp with z | z
      · exact z
      · cases z
    obtain ⟨e, n, ne, nf, d⟩ := I.pin p hp'
    refine ⟨hk _ _ e, n, old _ _ e, fun z => ?_, d⟩
    rcases List.mem_cons.mp (I.stkSub _ z) with q | q
    · exact ne q
    · exact nf q
  · show (capt ix σ).length = N.length
    unfold capt
    rw [List.length_map]
    exact S.len
end L2
namespace L2
open PySem PySem.Spec PyProof.Rows
set_option maxHeartbeats 4000000
section
variable {prog : Program} {w : World} {A : Around} {R : Result → Shared → Prop} {s : Shared}
theorem compLoop_any {elt target iter : Expr} {ifs : List Expr} {scope : Scope} {pos : Pos} {it acc : Value} {env : Env} (I : Nat → Shared → Prop)
    (turn : ∀ n s, I n s → wpAny (model prog w) A (pyNext it) (fun r s₁ => match r with
      | none => R (.ok .next) s₁
      | some v => wpAny (model prog w) A (letOwnedTupleGo target it v) (fun _ s₁' => wpAny (model prog w) A (assign target env v) (fun _ s₂ =>
          wpAny (model prog w) A (forIn ifs true fun c r => if r = true then do let ok ← isTrue c env (eval c env); pure (ForInStep.yield ok) else pure (ForInStep.yield r)) (fun ok s₃ =>
            if ok = true then wpAny (model prog w) A (eval elt env) (fun x s₄ =>
              wpAny (model prog w) A (call (.builtin "list.append") [acc, x]) (fun _ s₅ => ∃ m, m < n ∧ I m s₅) (notedBy (model prog w) A env fun e s' => R (.error e) s') s₄) (notedBy (model prog w) A env fun e s' => R (.error e) s') s₃
            else ∃ m, m < n ∧ I m s₃) (notedBy (model prog w) A env fun e s' => R (.error e) s') s₂) (notedBy (model prog w) A env fun e s' => R (.error e) s') s₁') (notedBy (model prog w) A env fun e s' => R (.error e) s') s₁) (notedBy (model prog w) A env fun e s' => R (.error e) s') s)
    (n : Nat) (h : I n s) :
    codeAny (model prog w) A (.compLoop (.ListComp elt [⟨target, iter, ifs, 0⟩] scope pos) 0 it acc env) R s := by
  refine codeAny_loop rfl I (fun n s hI => ?_) n h
  show wpAny _ A ((compTurn (.ListComp elt [⟨target, iter, ifs, 0⟩] scope pos) 0 it acc env).onRaise (fun x => do noteFrame x env; theTreesLotGoes x)) _ _ s
  refine wpAny_noted ?_
  rw [compTurn_list]
  refine wpAny_bind (wpAny_standAt (wpAny_bind (wpAny_mono (turn n s hI) (fun r s₁ h₁ => ?_) fun _ _ h' => h')))
  cases r with
  | none => exact wpAny_pure h₁
  | some v =>
    refine wpAny_bind (wpAny_mono h₁ (fun _ s₁' h₁' => ?_) fun _ _ h' => h')
    refine wpAny_bind (wpAny_mono h₁' (fun _ s₂ h₂ => wpAny_bind (wpAny_mono h₂ (fun ok s₃ h₃ => ?_) fun _ _ h' => h')) fun _ _ h' => h')
    cases ok with
    | false => exact wpAny_pure ⟨rfl, h₃⟩
    | true =>
      exact wpAny_bind (wpAny_bind (wpAny_mono h₃ (fun x s₄ h₄ => wpAny_bind (wpAny_mono h₄ (fun _ s₅ h₅ => wpAny_pure (wpAny_pure ⟨rfl, h₅⟩)) fun _ _ h' => h')) fun _ _ h' => h'))
end
noncomputable def PTs (X : Cx) (ifs : List Expr) (t : TT) : Prop :=
  ∀ (pins : List (Addr × Obj)) (s : Shared) (σ : St) (H : Hp) (Q : Bool → Hp → Prop), Inv X pins σ H s → t σ H Q →
    wpAny (model X.prog X.w) X.A (forIn ifs true fun c r => if r = true then do let ok ← isTrue c X.env (eval c X.env); pure (ForInStep.yield ok) else pure (ForInStep.yield r)) (TP X pins σ Q) X.xe s
noncomputable def tYes : TT := fun _ H Q => Q true H
theorem pts_nil {X : Cx} : PTs X [] tYes := fun _ _ _ H _ I h => wpAny_tests_nil ⟨H, I, h⟩
theorem pts_one {X : Cx} {c : Expr} {t : TT} (h : PT X c t) : PTs X [c] t := fun pins s σ H Q I q => wpAny_tests_one (h pins s σ H Q I q)
noncomputable def compGo (g : TG) (tt : TT) (te : TE) (J : It) (σ0 : St) (H1 : Hp) (Q : VK) : Prop := ∀ acc, H1 acc = none → ∃ W : Nat → Nat → St → Hp → Prop,
  (∃ m, W 0 m σ0 (upd H1 acc (.lst []))) ∧ ∀ i m σ' H', W i m σ' H' →
    (J.stop i H' ∧ Q (.ref acc) H') ∨ (J.go i H' ∧ ∃ M : St → Hp → Prop, (∀ σ2 H2, M σ2 H2 → ∃ m', m' < m ∧ W (i + 1) m' σ2 H2) ∧ ∀ x H2, J.yld i H' x H2 → g x σ' H2 fun σ3 H3 => tt σ3 H3 fun b H4 =>
      if b = true then te σ3 H4 fun v H5 => ∃ xs, H5 acc = some (.lst xs) ∧ xs.length < sizeLine ∧ M σ3 (upd H5 acc (.lst (xs ++ [v]))) else M σ3 H4)
noncomputable def tComp (ix : List (Option Nat)) (wi : TI) (g : TG) (tt : TT) (te : TE) : TE := fun σ H Q => wi σ H fun J H1 => compGo g tt te J (capt ix σ) H1 Q
section
variable {X : Cx} {osc : Scope} {ON N : List Str} {ix : List (Option Nat)} {scope : Scope} {tg elt iter : Expr} {ifs : List Expr} {pos : Pos} {wi : TI} {g : TG} {tt : TT} {te : TE}
theorem blk_back {pins : List (Addr × Obj)} {σ σ' : St} {H H' : Hp} {s s' : Shared} {fp : List Addr} {cl : List (Str × Addr)} (I : Inv X pins σ H s) (hfp : ∀ b ∈ fp, FpOk X pins H b) (J : Inv (blk X N scope ⟨cl, s.heap.objs.size, s, H, fp, pins⟩) [] σ' H' s') (ht : X.tn ≤ s'.toks) :
    Inv X pins σ H' s' ∧ (∃ m, s'.heap.Ns s.heap.objs.size m) ∧ H' s.heap.objs.size = none ∧ FpOk X pins H' s.heap.objs.size := by
  have u : Un (frs X.stack) fp H H' s.heap s'.heap := J.base
  have I1 : Inv X pins σ H' s' := I.call' J.os u J.hok J.bare fun b hb => ⟨(hfp b hb).2.2.2.1, (hfp b hb).2.1, (hfp b hb).2.2.2.2.1, (hfp b hb).2.2.2.2.2⟩
  obtain ⟨m, hn, _⟩ := J.loc
  exact ⟨I1, ⟨m, hn⟩, J.free, I.fpOk (Nat.le_refl _) J.free⟩
theorem comp_core {pins : List (Addr × Obj)} {σ : St} {H : Hp} {s : Shared} {it : Addr} {fp : List Addr} {tn : Nat → Heap → Prop} {J : It} {Q : VK} {E : Value → Shared → Prop} {RR : Value → Addr → Result → Shared → Prop}
    (S : CScope osc ON N ix scope) (hE : X.env.scope = osc) (hO : X.N = ON) (hc : X.calm = true) (hg : ∀ b, PG (blk X N scope b) tg g) (ht : ∀ b, PTs (blk X N scope b) ifs tt) (he : ∀ b, PE (blk X N scope b) elt te)
    (I : Inv X pins σ H s) (T : Turn X.prog X.w X.K tg J fp it tn) (st : tn 0 s.heap) (hfp : ∀ b ∈ fp, FpOk X pins H b) (q : compGo g tt te J (capt ix σ) H Q)
    (hRR : ∀ (acc C : Addr) (H' : Hp) (s' : Shared), Inv X pins σ H' s' → (∃ m, s'.heap.Ns C m) → H' C = none → FpOk X pins H' C → Q (.ref acc) H' → RR (.ref acc) C (.ok .next) s') :
    wpAny (model X.prog X.w) X.A (newList []) (fun acc s₃ => wpAny (model X.prog X.w) X.A (newFunctionEnv scope X.env.globals (clGo X.env.cells scope.names []) [] X.env.qual none .none (some X.env)) (fun cenv s₄ =>
      codeAny (model X.prog X.w) X.A (.compStart (.ListComp elt [⟨tg, iter, ifs, 0⟩] scope pos) 0 (.ref it) acc { cenv with scope := relabel scope X.env }) (RR acc cenv.locals) s₄) E s₃) E s := by
  refine wpAny_newObj_type (wpAny_newFunctionEnv S.nocell (by intro y hy; simp at hy) (fun h₁ hns₁ hsb₁ => ?_) S.kind)
  dsimp only at hns₁ hsb₁ ⊢
  -- the list, tracked
  have I3 : Inv X pins σ (upd H s.heap.objs.size (.lst [])) { s with heap := s.heap.push { cls := .type "list", dict := none, data := .seq ([] : List Value).toArray } } :=
    I.laid (t' := s.toks) (fun b o e => Heap.get?_push_of_some _ e) (Nat.le_refl _) (show ObjOk X.prog X.w _ _ _ (.lst []) from ⟨Nat.zero_le _, [], _, .nil, Heap.get?_push_size _ rfl⟩)
  have hacc : H s.heap.objs.size = none := I.hok.fresh (Nat.le_refl _)
  have hfo : ∀ b ∈ fp, ∃ o, s.heap.get? b = some o := fun b hb => let ⟨o, e, _⟩ := T.obj 0 _ st b hb; ⟨o, e⟩
  have fne : ∀ b ∈ fp, b ≠ s.heap.objs.size := fun b hb => let ⟨o, e⟩ := hfo b hb; Nat.ne_of_lt (Heap.lt_size e)
  have hfp3 : ∀ b ∈ fp, FpOk X pins (upd H s.heap.objs.size (.lst [])) b := fun b hb => ⟨by rw [upd_ne (fne b hb)]; exact (hfp b hb).1, (hfp b hb).2⟩
  obtain ⟨W, ⟨m0, w0⟩, turn⟩ := q s.heap.objs.size hacc
  generalize hH2 : s.heap.push { cls := .type "list", dict := none, data := .seq ([] : List Value).toArray } = h2 at *
  have hk1 : ∀ b o, h2.get? b = some o → h₁.get? b = some o := fun b o e => hsb₁.extBut b o (Nat.ne_of_lt (Heap.lt_size e)) (Heap.get?_push_of_some _ e)
  have old : ∀ b o, s.heap.get? b = some o → h2.get? b = some o := fun b o e => by rw [← hH2]; exact Heap.get?_push_of_some _ e
  have fin : ∀ s₄ : Shared, s₄ = { s with heap := h₁, toks := s₄.toks } → X.tn ≤ s₄.toks → codeAny (model X.prog X.w) X.A (.compLoop (.ListComp elt [⟨tg, iter, ifs, 0⟩] scope pos) 0 (.ref it) (.ref s.heap.objs.size) (compEnvC scope (clGo X.env.cells scope.names []) h2.objs.size X.env))
      (RR (.ref s.heap.objs.size) h2.objs.size) s₄ := by
    intro s₄ e4 ht4
    refine codeAny_guard ht4 ?_
    have J0 : Inv (blk X N scope ⟨clGo X.env.cells scope.names [], h2.objs.size, { s with heap := h2 }, upd H s.heap.objs.size (.lst []), fp, pins⟩) [] (capt ix σ) (upd H s.heap.objs.size (.lst [])) s₄ :=
      inv_blk (s := { s with heap := h2 }) I3 hE hO S hfp3 (fun b hb => let ⟨o, e⟩ := hfo b hb; ⟨o, old b o e⟩) hns₁ hk1 e4
    generalize hX : blk X N scope ⟨clGo X.env.cells scope.names [], h2.objs.size, { s with heap := h2 }, upd H s.heap.objs.size (.lst []), fp, pins⟩ = Y at J0
    have eE : compEnvC scope (clGo X.env.cells scope.names []) h2.objs.size X.env = Y.env := by rw [← hX]; rfl
    have eP : X.prog = Y.prog := by rw [← hX]; rfl
    have eW : X.w = Y.w := by rw [← hX]; rfl
    have eA : X.A = Y.A := by rw [← hX]; rfl
    have eK : X.K = Y.K := by rw [← hX]; rfl
    have eC : Y.calm = true := by rw [← hX]; exact hc
    have T' : Turn Y.prog Y.w Y.K tg J fp it tn := by rw [← eP, ← eW, ← eK]; exact T
    have st0 : tn 0 s₄.heap := T.keep _ _ _ st fun b hb o e => by rw [e4]; exact hk1 b o (old b o e)
    have fpY : ∀ {H' : Hp}, (∀ b ∈ fp, H' b = none) → ∀ b ∈ fp, FpOk Y [] H' b := fun {H'} hn b hb => by
      rw [← hX]
      have f := hfp b hb
      refine ⟨hn b hb, ?_, ?_, .inl hb, ?_, ?_⟩
      · have := J0.ok.exf b (by rw [← hX]; exact hb)
        rw [← hX] at this
        exact this.1
      · have := J0.ok.exfs b (by rw [← hX]; exact hb)
        rw [← hX] at this
        exact this
      · have := J0.ok.exf b (by rw [← hX]; exact hb)
        rw [← hX] at this
        exact this.2
      · intro p hp
        have hp' : p ∈ X.pn ++ pins := by
          rcases List.mem_append.mp hp with z | z
          · exact z
          · cases z
        exact f.2.2.2.2.2 p hp'
    have accne : s.heap.objs.size ∉ fp := fun z => fne _ z rfl
    have never : ∀ e s', Y.xe e s' → False := by rw [← hX]; exact fun _ _ z => z
    have hgY : PG Y tg g := by rw [← hX]; exact hg _
    have htY : PTs Y ifs tt := by rw [← hX]; exact ht _
    have heY : PE Y elt te := by rw [← hX]; exact he _
    rw [eE, eP, eW, eA]
    refine compLoop_any (fun n s' => ∃ i σ' H', Inv Y [] σ' H' s' ∧ tn i s'.heap ∧ (∀ b ∈ fp, H' b = none) ∧ W i n σ' H') ?_ m0 ⟨0, capt ix σ, _, J0, st0, fun b hb => (hfp3 b hb).1, w0⟩
    rintro n s5 ⟨i, σ5, H5, I5, st5, fr5, w5⟩
    rcases turn i n σ5 H5 w5 with ⟨stop, qn⟩ | ⟨go, M, hM, step⟩
    · refine thn (T'.done Y rfl rfl rfl eC i [] s5 σ5 H5 _ I5 (fpY fr5) st5 stop) fun r s6 ⟨hr, I6⟩ => ?_
      subst hr
      have I6' := I6
      rw [← hX] at I6'
      intro htk
      obtain ⟨a1, a2, a3, a4⟩ := blk_back (s := { s with heap := h2 }) I3 hfp3 I6' htk
      exact hRR _ _ H5 s6 a1 a2 a3 a4 qn
    · refine thn (T'.item Y rfl rfl rfl eC i [] s5 σ5 H5 _ I5 (fpY fr5) st5 go) fun r s6 ⟨u, hr, h6⟩ => ?_
      subst hr
      refine thn h6 fun _ s7 ⟨x, H7, I7, r7, y7, st7, fr7⟩ => ?_
      have I7' := I7.pinned (fpY fr7) (T.obj _ _ st7)
      refine wpAny_mono (hgY _ s7 σ5 H7 x u _ I7' r7 (step x H7 y7)) (fun _ s8 ⟨σ8, H8, I8, q8⟩ => ?_) fun e s' z => (never e s' z).elim
      refine wpAny_mono (htY _ s8 σ8 H8 _ I8 q8) (fun ok s9 ⟨H9, I9, q9⟩ => ?_) fun e s' z => (never e s' z).elim
      have again : ∀ {σa : St} {Ha : Hp} {sa : Shared}, Inv Y ([] ++ pinsAt fp s7.heap) σa Ha sa → M σa Ha → ∃ m, m < n ∧ ∃ i σ' H', Inv Y [] σ' H' sa ∧ tn i sa.heap ∧ (∀ b ∈ fp, H' b = none) ∧ W i m σ' H' := fun {σa Ha sa} Ia na => by
        obtain ⟨m', hm, wa⟩ := hM σa Ha na
        refine ⟨m', hm, i + 1, σa, Ha, Ia.unpinned, T.keep _ _ _ st7 fun b hb o e => (Ia.pin (b, o) (List.mem_append_right _ (List.mem_append_right _ (mem_pinsAt hb e)))).1, fun b hb => ?_, wa⟩
        obtain ⟨o, e, d⟩ := T.obj _ _ st7 b hb
        exact (Ia.pin (b, o) (List.mem_append_right _ (List.mem_append_right _ (mem_pinsAt hb e)))).2.1
      cases ok with
      | false =>
        rw [if_neg Bool.false_ne_true] at q9 ⊢
        exact again I9 q9
      | true =>
        rw [if_pos rfl] at q9 ⊢
        refine wpAny_mono (heY _ s9 σ8 H9 _ I9 q9) (fun y sb ⟨vb, Hb, Ib, rb, xs, hx, hz, nb⟩ => ?_) fun e s' z => (never e s' z).elim
        refine wpAny_mono (mt_append (X := Y) _ sb σ8 Hb (.ref s.heap.objs.size) [vb] (.ref s.heap.objs.size) [y] (fun v H' => M σ8 H') Ib rfl (.cons rb .nil) ⟨s.heap.objs.size, xs, vb, rfl, rfl, hx, hz, nb⟩) (fun _ sc ⟨vc, Hc, Ic, rc, nc⟩ => ?_) fun e s' z => (never e s' z).elim
        exact again Ic nc
  exact codeAny_compStart_list (fin _ rfl (by walk_at "tok")) (T.self _ 0 _ _ _ (T.keep _ _ _ st fun b hb o e => hk1 b o (old b o e)) (fin _ rfl (by walk_at "tok")))
theorem pe_lcomp (S : CScope osc ON N ix scope) (hE : X.env.scope = osc) (hO : X.N = ON) (hc : X.calm = true) (hi : PI X tg iter wi) (hg : ∀ b, PG (blk X N scope b) tg g) (ht : ∀ b, PTs (blk X N scope b) ifs tt) (he : ∀ b, PE (blk X N scope b) elt te)
    (hs : ∀ x, foldedSetIterable iter X.env x = pure x := by intro _; rfl) : PE X (.ListComp elt [⟨tg, iter, ifs, 0⟩] scope pos) (tComp ix wi g tt te) := by
  intro pins s σ H Q I h
  rw [eval_ListComp]
  have hcells : ∀ y ∈ scope.names, y.2 = .free → ∃ c, X.env.cells.lookup y.1 = some c := fun y hy e => I.ok.has y.1 (by subst hE; exact S.outs y hy e)
  refine wpAny_comprehension_free (use := none) rfl hs (closureFor_some hcells) S.kind S.names (thn (hi pins s σ H _ I h) fun v s1 h1 => thn h1 fun itv s2 h2 => ?_)
  obtain ⟨it, fp, tn, J, H2, e, I2, T, st2, f2, q⟩ := h2
  subst e
  refine comp_core (RR := fun acc C => compPost (model X.prog X.w) X.A X.xe none (EP X pins σ Q) acc C) S hE hO hc hg ht he I2 T st2 f2 q fun acc C H' s' I' hn hC fC q' => ?_
  obtain ⟨m, hn⟩ := hn
  refine ⟨m, hn, fun h' sb => ⟨.ref acc, H', ?_, rfl, q'⟩⟩
  obtain ⟨f0, f1, f2', f3, f4, f5⟩ := fC
  exact I'.turned (t' := s'.toks) (fun b o hb e => (sb.2 b hb).trans e) f0 f1 f3 f4 f5
theorem ps_setComp {i : Nat} {x : Str} {spos pos' : Pos} (hN : X.N.Nodup) (hx : X.N[i]? = some x) (hl : Loc X.env.scope x) (S : CScope osc ON N ix scope) (hE : X.env.scope = osc) (hO : X.N = ON) (hc : X.calm = true) (hi : PI X tg iter wi) (hg : ∀ b, PG (blk X N scope b) tg g) (ht : ∀ b, PTs (blk X N scope b) ifs tt) (he : ∀ b, PE (blk X N scope b) elt te)
    (hsw : swapsWith (.ListComp elt [⟨tg, iter, ifs, 0⟩] scope pos) (some (.Name x pos')) spos.line X.env = pure true := by rfl)
    (hf : X.fn x = true ∨ X.env.scope.names.lookup x = some .local := by first | exact .inl rfl | exact .inr rfl | assumption)
    (hs : ∀ x, foldedSetIterable iter X.env x = pure x := by intro _; rfl) : PS X (.Assign [.Name x pos'] (.ListComp elt [⟨tg, iter, ifs, 0⟩] scope pos) spos) (tAsg (tComp ix wi g tt te) (gName i)) := by
  intro pins s σ H D I h
  rw [exec_Assign_Name_used _ _ _ _ hsw]
  refine wpAny_bind (wpAny_standAt (wpAny_bind ?_))
  have hcells : ∀ y ∈ scope.names, y.2 = .free → ∃ c, X.env.cells.lookup y.1 = some c := fun y hy e => I.ok.has y.1 (by subst hE; exact S.outs y hy e)
  show wpAny _ X.A (do let _ ← comprehension (.ListComp elt [⟨tg, iter, ifs, 0⟩] scope pos) scope X.env _ (newList []) false (eval iter X.env) (some (assign (.Name x pos') X.env))) _ _ s
  refine wpAny_bind (wpAny_mono (wpAny_comprehension_free (use := some (assign (.Name x pos') X.env)) (Q := fun _ s' => SP X pins D .next s') rfl hs (closureFor_some hcells) S.kind S.names
    (thn (hi pins s σ H _ I h) fun v s1 h1 => thn h1 fun itv s2 h2 => ?_)) (fun _ s' hq => wpAny_pure (wpAny_pure hq)) fun _ _ e => e)
  obtain ⟨it, fp, tn, J, H2, e, I2, T, st2, f2, q⟩ := h2
  subst e
  refine comp_core (RR := fun acc C => compPost (model X.prog X.w) X.A X.xe (some (assign (.Name x pos') X.env)) (fun _ s' => SP X pins D .next s') acc C) S hE hO hc hg ht he I2 T st2 f2 q fun acc C H' s' I' hn hC fC q' => ?_
  obtain ⟨m, hn⟩ := hn
  have hob : ∃ o, s'.heap.get? C = some o ∧ ∀ v, o.data ≠ .cell v := by
    obtain ⟨o, es, ep, ho, hd, _⟩ := hn
    exact ⟨o, ho, fun v z => by rw [hd] at z; cases z⟩
  have only : ∀ b ∈ [C], b = C := fun b hb => by simpa using hb
  have I1 := I'.pinned (fp := [C]) (fun b hb => (only b hb) ▸ fC) (fun b hb => (only b hb) ▸ hob)
  refine wpAny_mono (pg_name (pos := pos') hN hx hl hf (pins ++ pinsAt [C] s'.heap) s' σ H' (.ref acc) (.ref acc) D.nx I1 rfl q') (fun _ s'' ⟨σ2, H2, I2', q2⟩ => ?_) fun _ _ z => z
  obtain ⟨o, ho, hd⟩ := hob
  have pn := I2'.pin (C, o) (List.mem_append_right _ (List.mem_append_right _ (mem_pinsAt (by simp) ho)))
  refine ⟨m, hn.at' fun o' e => by rw [ho] at e; cases e; exact pn.1, fun h' sb => ⟨σ2, H2, ?_, q2⟩⟩
  obtain ⟨f0, f1, f2', f3, f4, f5⟩ := fC
  exact I2'.unpinned.turned (t' := s''.toks) (fun b o hb e => (sb.2 b hb).trans e) pn.2.1 f1 f3 f4 f5
end
end L2
namespace L2
open PySem PySem.Spec PyProof.Rows
set_option maxHeartbeats 4000000
theorem turn_walk1 {P : Program} {w : World} {K : PySem.W.Frag} {tg : Expr} {it : Addr} {n : Nat} {St : Nat → Heap → Prop} {Pv : Nat → Value → Prop} {J : It} (W : ∀ A : Around, A.handled = none → Walks P w A it [it] [it] n Pv St)
    (ob : ∀ i h, St i h → ∃ (o : Obj) (nm : String) (vs : Array Value), h.get? it = some o ∧ o.cls = .type nm ∧ o.data = .fields vs ∧ ["enumerate", "zip", "dict_itemiterator", "dict_reverseitemiterator", "odict_iterator", "itertools.zip_longest", "itertools.pairwise"].contains nm = false)
    (go : ∀ i H, J.go i H → i < n) (yl : ∀ i H u, J.go i H → Pv i u → ∃ x, RelV x u ∧ J.yld i H x H) (dn : ∀ i h H, J.stop i H → St i h → St n h)
    (self : ∀ (A : Around) (i : Nat) (s : Shared) (Q : Value → Shared → Prop) (E : Value → Shared → Prop), St i s.heap → Q (.ref it) s → wpAny (model P w) A (pyIter (.ref it)) Q E s) : Turn P w K tg J [it] it St where
  mem := by simp
  obj := fun i h st b hb => by
    have e : b = it := by simpa using hb
    subst e
    obtain ⟨o, nm, vs, h1, h2, h3, h4⟩ := ob i h st
    exact ⟨o, h1, fun v z => by rw [h3] at z; cases z⟩
  keep := fun i h h' st k => (W {} rfl).frame i h h' st fun b hb o e => k b hb o e
  item := by
    intro X hP hw hK hc i pins s σ H E I hf st hg
    subst hP hw hK
    obtain ⟨f0, f1, f2, f3, f4, f5⟩ := hf it (by simp)
    refine wpAny_guard I.tk ((W X.A (I.ok.hd hc)).item i s _ _ (go i H hg) st fun v h' tk hv st' kk htk => ?_)
    have I1 : Inv X pins σ H { s with heap := h', toks := tk } := I.turned (fun b o hb e => kk b o (by simpa using hb) e) f0 f1 f3 f4 f5
    obtain ⟨x, rx, yx⟩ := yl i H v hg hv
    obtain ⟨o, nm, vs, h1, h2, h3, h4⟩ := ob (i + 1) h' st'
    exact ⟨v, rfl, go_of (s := { s with heap := h', toks := tk }) h1 h2 h3 h4 ⟨x, H, I1, rx, yx, st', fun b hb => (hf b hb).1⟩⟩
  done := by
    intro X hP hw hK hc i pins s σ H E I hf st hg
    subst hP hw hK
    obtain ⟨f0, f1, f2, f3, f4, f5⟩ := hf it (by simp)
    exact wpAny_guard I.tk ((W X.A (I.ok.hd hc)).done s _ _ (dn i s.heap H hg st) fun h' tk kk htk => ⟨rfl, I.turned (fun b o hb e => kk b o (by simpa using hb) e) f0 f1 f3 f4 f5⟩)
  self := self
noncomputable def Its (z : Str) : It := ⟨fun i _ => i < z.length, fun i H x H' => H' = H ∧ ∃ c, z.cps[i]? = some c ∧ x = .str ⟨#[c]⟩, fun i _ => i = z.length⟩
theorem its_yl {z : Str} {i : Nat} {H : Hp} {u : Value} (h : SignAt z i u) : ∃ x, RelV x u ∧ (Its z).yld i H x H := by
  obtain ⟨c, t, e1, rfl⟩ := h
  exact ⟨.str ⟨#[c]⟩, ⟨t, rfl⟩, rfl, c, e1, rfl⟩
theorem turn_ascii {P : Program} {w : World} {K : PySem.W.Frag} {tg : Expr} (it : Addr) (z : Str) (t : Tok) : Turn P w K tg (Its z) [it] it (fun i h => h.IsStrIter it "str_ascii_iterator" z t i) :=
  turn_walk1 (n := z.cps.size) (Pv := SignAt z) (fun A hA => Walks.strAscii hA it z t) (fun i h ⟨o, e, c, d⟩ => ⟨o, _, _, e, c, d, by decide⟩) (fun i H h => h) (fun i H u _ h => its_yl h) (fun i h H e st => by
    have e' : i = z.cps.size := e
    rw [← e']; exact st) fun A i s Q E st h => wpAny_pyIter_striter_ascii st h
theorem turn_wide {P : Program} {w : World} {K : PySem.W.Frag} {tg : Expr} (it : Addr) (z : Str) (t : Tok) : Turn P w K tg (Its z) [it] it (fun i h => h.IsStrIter it "str_iterator" z t i) :=
  turn_walk1 (n := z.cps.size) (Pv := SignAt z) (fun A hA => Walks.strWide hA it z t) (fun i h ⟨o, e, c, d⟩ => ⟨o, _, _, e, c, d, by decide⟩) (fun i H h => h) (fun i H u _ h => its_yl h) (fun i h H e st => by
    have e' : i = z.cps.size := e
    rw [← e']; exact st) fun A i s Q E st h => wpAny_pyIter_striter_wide st h
section
variable {X : Cx} {tg : Expr}
end
section
variable {X : Cx}
end
end L2
namespace L2
open PySem PySem.Spec PyProof.Rows
set_option maxHeartbeats 4000000
theorem PE.imp {X : Cx} {e : Expr} {t t' : TE} (h : PE X e t) (i : ∀ σ H Q, t' σ H Q → t σ H Q) : PE X e t' := fun pins s σ H Q I q => h pins s σ H Q I (i σ H Q q)
theorem OpR.imp {X : Cx} {f : Value → Value → Sem Value} {r r' : R2} (h : OpR X f r) (i : ∀ x y H Q, r' x y H Q → r x y H Q) : OpR X f r' := fun pins s σ H x y v u Q I a b q => h pins s σ H x y v u Q I a b (i x y H Q q)
theorem CallR.imp {X : Cx} {f : Value} {r r' : List V → Hp → VK → Prop} (h : CallR X f r) (i : ∀ xs H Q, r' xs H Q → r xs H Q) : CallR X f r' := fun pins s σ H xs us Q I a q => h pins s σ H xs us Q I a (i xs H Q q)
theorem IxR.imp {X : Cx} {r r' : R2} (h : IxR X r) (i : ∀ x y H Q, r' x y H Q → r x y H Q) : IxR X r' := fun value slice pins s σ H x y v u Q I rx ry q hs => h value slice pins s σ H x y v u Q I rx ry (i x y H Q q) hs
theorem SlR.imp {X : Cx} {r r' : V → Option Int → Option Int → Hp → VK → Prop} (h : SlR X r) (i : ∀ x l u H Q, r' x l u H Q → r x l u H Q) : SlR X r' := fun pins s σ H x v vl vu lo hi sl Q I rx hs pl pu q => h pins s σ H x v vl vu lo hi sl Q I rx hs pl pu (i x lo hi H Q q)
section
variable {X : Cx} {a b : Expr} {ta tb : TE} {pos : Pos} {rest : List Expr}
noncomputable def kVar (o : Option (Option V)) (H : Hp) (Q : VK) : Prop := match o with
  | some (some v) => Q v H
  | _ => False
noncomputable def uVar (i : Nat) : TE := fun σ H Q => kVar σ[i]? H Q
theorem qv (i : Nat) {x : Str} {pos : Pos} (hN : X.N[i]? = some x := by rfl) (hv : Vis X.env.scope x := by first | exact Or.inl rfl | exact Or.inr (Or.inl rfl) | exact Or.inr (Or.inr rfl)) (hd : (x == ("__debug__" : Str)) = false := by decide)
    (hcd : (x == ("__classdict__" : Str)) = false := by decide) : PE X (.Name x pos) (uVar i) := (pe_var hN hv hd hcd).imp fun σ H Q q => by
  unfold uVar kVar at q
  split at q
  · rename_i v e
    exact ⟨v, e, q⟩
  · exact q.elim
noncomputable def kTest (Q : Bool → Hp → Prop) : VK := fun x H' => match x with
  | .bl k => Q k H'
  | _ => False
noncomputable def uTest (t : TE) : TT := fun σ H Q => t σ H (kTest Q)
theorem qt_cmpR {op : CmpOp} {r : R2} (ho : OpR X (compareOp op) r) (ha : PE X a ta) (hb : PE X b tb) (hm : behindInMarks op b = false) : PT X (.Compare a [op] [b] pos) (uTest (tOp r ta tb)) := by
  intro pins s σ H Q I h
  refine wpAny_isTrue_Compare1 (thn (ha pins s σ H _ I h) fun v s1 hh => exF hh fun x H1 I1 r1 q1 => thn (hb pins s1 σ H1 _ I1 q1) fun u s2 hh => exF hh fun y H2 I2 r2 q2 =>
    thn (ho pins s2 σ H2 x y v u _ I2 r1 r2 q2) fun c s3 hh => exF hh fun z H3 I3 r3 q3 => ?_) hm
  cases z with
  | bl k =>
    cases r3
    exact wpAny_truthy_bool ⟨H3, I3, q3⟩
  | _ => exact q3.elim
noncomputable def kTru (K : PySem.W.Frag) (Q : Bool → Hp → Prop) : VK := fun x H => match x with
  | .non => Q false H
  | .bl b => Q b H
  | .int i => Q (i != 0) H
  | .str y => y.length ≤ sizeLine ∧ Q ((y.length : Int) != 0) H
  | .ref p => ((∃ xs, SqL K H p xs ∧ Q (!xs.isEmpty) H) ∨ (∃ xs, SqT K H p xs ∧ Q (!xs.isEmpty) H)) ∨ ∃ kvs, H p = some (.dK kvs) ∧ Q (!kvs.isEmpty) H
  | _ => False
noncomputable def uTruth (K : PySem.W.Frag) (ta : TE) : TT := fun σ H Q => ta σ H (kTru K Q)
theorem qt_truth (K : PySem.W.Frag) (ha : PE X a ta) (he : ∀ whole, isTrue a X.env whole = (do let v ← whole; standAt a.pos; holding [v] (truthy v))) (hK : X.K = K := by rfl) :
    PT X a (uTruth K ta) := by
  subst hK
  intro pins s σ H Q I h
  refine isTrue_plain (thn (ha pins s σ H _ I h) fun v s1 hh => exF hh fun x H1 I1 r1 q1 => tru_ok pins s1 σ H1 x v Q I1 r1 ?_) (he _)
  cases x with
  | non => exact ⟨_, rfl, q1⟩
  | bl b => exact ⟨_, rfl, q1⟩
  | int i => exact ⟨_, rfl, q1⟩
  | str y => exact ⟨_, ⟨q1.1, rfl⟩, q1.2⟩
  | ref p =>
    rcases q1 with (⟨xs, h1, h2⟩ | ⟨xs, h1, h2⟩) | ⟨xs, h1, h2⟩
    · exact ⟨_, .inl ⟨xs, h1, rfl⟩, h2⟩
    · exact ⟨_, .inr (.inl ⟨xs, h1, rfl⟩), h2⟩
    · exact ⟨_, .inr (.inr ⟨xs, h1, rfl⟩), h2⟩
  | _ => exact q1.elim
noncomputable def uSub : R2 := fun x y H Q => match x, y with
  | .int i, .int j => Q (.int (i - j)) H
  | _, _ => False
theorem oSub : OpR X (binaryOp .Sub) uSub := op_sub.imp fun x y H Q q => by
  unfold uSub at q
  split at q
  · exact ⟨_, _, rfl, rfl, q⟩
  · exact q.elim
noncomputable def uDiv : R2 := fun x y H Q => match x, y with
  | .int i, .int j => CDiv i j ∧ Q (.int (i / j)) H
  | _, _ => False
theorem oDiv : OpR X (binaryOp .FloorDiv) uDiv := op_fdiv.imp fun x y H Q q => by
  unfold uDiv at q
  split at q
  · exact ⟨_, _, rfl, rfl, q.1, q.2⟩
  · exact q.elim
noncomputable def uMod : R2 := fun x y H Q => match x, y with
  | .int i, .int j => 0 < j ∧ Q (.int (i % j)) H
  | _, _ => False
theorem oMod : OpR X (binaryOp .Mod) uMod := op_mod.imp fun x y H Q q => by
  unfold uMod at q
  split at q
  · exact ⟨_, _, rfl, rfl, q.1, q.2⟩
  · exact q.elim
noncomputable def uPow : R2 := fun x y H Q => match x, y with
  | .int i, .int j => CPow i j ∧ Q (.int (i ^ j.toNat)) H
  | _, _ => False
theorem oPow : OpR X (binaryOp .Pow) uPow := op_pow.imp fun x y H Q q => by
  unfold uPow at q
  split at q
  · exact ⟨_, _, rfl, rfl, q.1, q.2⟩
  · exact q.elim
noncomputable def uLt : R2 := fun x y H Q => match x, y with
  | .int i, .int j => Q (.bl (decide (i < j))) H
  | .str i, .str j => Q (.bl (decide (i.cps.toList < j.cps.toList))) H
  | _, _ => False
theorem oLt : OpR X (compareOp .Lt) uLt := (op_lt.or op_lt_str).imp fun x y H Q q => by
  unfold uLt at q
  split at q
  · exact .inl ⟨_, _, rfl, rfl, q⟩
  · exact .inr ⟨_, _, rfl, rfl, q⟩
  · exact q.elim
theorem op_isnot_bl : OpR X (compareOp .IsNot) (fun x y H Q => ∃ j, y = .bl j ∧ Q (.bl (!decide (x = .bl j))) H) := by
  intro pins s σ H x y v u Q I rx ry h
  obtain ⟨j, rfl, q⟩ := h
  cases ry
  cases x with
  | bl i => cases rx; exact wpAny_isNot_plain rfl (fin_bl I q (by cases i <;> cases j <;> rfl))
  | non => cases rx; exact wpAny_isNot_plain rfl (fin_bl I q (by simp))
  | int i => obtain ⟨t, rfl⟩ := rx; exact wpAny_isNot_plain rfl (fin_bl I q (by simp))
  | str i => obtain ⟨t, rfl⟩ := rx; exact wpAny_isNot_plain rfl (fin_bl I q (by simp))
  | byt i => obtain ⟨t, rfl⟩ := rx; exact wpAny_isNot_plain rfl (fin_bl I q (by simp))
  | flt i => obtain ⟨t, rfl⟩ := rx; exact wpAny_isNot_plain rfl (fin_bl I q (by simp))
  | ref i => cases rx; exact wpAny_isNot_plain rfl (fin_bl I q (by simp))
  | ty i => cases rx; exact wpAny_isNot_plain rfl (fin_bl I q (by simp))
noncomputable def isV : V → V → Bool
  | .non, .non => true
  | .bl i, .bl j => i == j
  | _, _ => false
noncomputable def uIsNot : R2 := fun x y H Q => match y with
  | .non => Q (.bl (!isV x .non)) H
  | .bl j => Q (.bl (!isV x (.bl j))) H
  | _ => False
theorem isV_non (x : V) : decide (x = .non) = isV x .non := by cases x <;> simp [isV]
theorem isV_bl (x : V) (j : Bool) : decide (x = .bl j) = isV x (.bl j) := by
  cases x with
  | bl i => cases i <;> cases j <;> rfl
  | _ => simp [isV]
theorem oIsNot : OpR X (compareOp .IsNot) uIsNot := (op_notN.or op_isnot_bl).imp fun x y H Q q => by
  unfold uIsNot at q
  split at q
  · exact .inl ⟨rfl, by rw [isV_non]; exact q⟩
  · exact .inr ⟨_, rfl, by rw [isV_bl]; exact q⟩
  · exact q.elim
noncomputable def uIx (K : PySem.W.Frag) : R2 := fun x y H Q => match x, y with
  | .str z, .int i => ∃ c, z.length ≤ sizeLine ∧ atI z.cps.toList i = some c ∧ Q (.str ⟨#[c]⟩) H
  | .ref p, .int i => ∃ xs v, (SqL K H p xs ∨ SqT K H p xs) ∧ atI xs i = some v ∧ Q v H
  | _, _ => False
theorem oIx0 : IxR X (uIx X.K) := ix_seq.imp fun x y H Q q => by
  unfold uIx at q
  split at q
  · obtain ⟨c, h1, h2, h3⟩ := q
    exact .inr (.inr ⟨_, _, c, rfl, rfl, h1, h2, h3⟩)
  · obtain ⟨xs, v, h1 | h1, h2, h3⟩ := q
    · exact .inl ⟨_, xs, _, v, rfl, rfl, h1, h2, h3⟩
    · exact .inr (.inl ⟨_, xs, _, v, rfl, rfl, h1, h2, h3⟩)
  · exact q.elim
theorem oIx (K : PySem.W.Frag) (hK : X.K = K := by rfl) : IxR X (uIx K) := by
  subst hK
  exact oIx0
noncomputable def uLen (K : PySem.W.Frag) (xs : List V) (H : Hp) (Q : VK) : Prop := match xs with
  | [.str y] => y.length ≤ sizeLine ∧ Q (.int y.length) H
  | [.ref p] => ∃ ys, (SqL K H p ys ∨ SqT K H p ys) ∧ Q (.int ys.length) H
  | _ => False
theorem qLen0 : CallR X (.builtin "len") (uLen X.K) := (call_len_str.or call_len_seq).imp fun xs H Q q => by
  unfold uLen at q
  split at q
  · exact .inl ⟨_, rfl, q.1, q.2⟩
  · obtain ⟨ys, h1, h2⟩ := q
    exact .inr ⟨_, ys, rfl, h1, h2⟩
  · exact q.elim
theorem qLen (K : PySem.W.Frag) (hK : X.K = K := by rfl) : CallR X (.builtin "len") (uLen K) := by
  subst hK
  exact qLen0
end
end L2
namespace L2
open PySem PySem.Spec PyProof.Rows
set_option maxHeartbeats 4000000
noncomputable def noStar : Expr → Bool
  | .Starred .. => false
  | _ => true
theorem star_one {e : Expr} {es : List Expr} {env : Env} (h : noStar e = true) : starEach (e :: es) env = (false, eval e env) :: starEach es env := by
  cases e <;> first | rfl | cases h
theorem star_any {env : Env} {pos : Pos} : ∀ {es : List Expr}, es.all noStar = true → (backTo pos (starEach es env)).any (·.1) = false
  | [], _ => rfl
  | e :: es, h => by
    rw [List.all_cons, Bool.and_eq_true] at h
    rw [star_one h.1]
    have ih := star_any (env := env) (pos := pos) h.2
    show (false || (backTo pos (starEach es env)).any (·.1)) = false
    rw [ih]
    rfl
theorem qa_cons {X : Cx} {e : Expr} {es : List Expr} {te : TE} {t : TA} (ha : PE X e te) (hr : PA X es t) (hn : noStar e = true := by rfl) : PA X (e :: es) (tCons te t) := pa_cons ha hr (star_one hn)
section
variable {X : Cx} {x : Str} {p pos : Pos} {e : Expr} {es : List Expr} {t : TA} {id T : String} {r : List V → Hp → VK → Prop}
theorem qc_b (hc : CallR X (.builtin id) r) (hm : X.mg x = none) (hv : bootBuiltins x = some (.builtin id)) (ha : PA X (e :: es) t) (hg : Gl X x := by rfl) (h1 : noStar e = true := by rfl) (h2 : es.all noStar = true := by rfl) (hn : x ≠ "__name__" := by decide) (hdb : (x == ("__debug__" : Str)) = false := by decide) :
    PE X (.Call (.Name x p) (e :: es) [] pos) (tCB r t) := pe_callB hc hg hm hv ha hn hdb (star_one h1) (star_any h2)
theorem qc_t (hc : CallR X (.type T) r) (hm : X.mg x = none) (hv : bootBuiltins x = some (.type T)) (ha : PA X (e :: es) t) (hg : Gl X x := by rfl) (h1 : noStar e = true := by rfl) (h2 : es.all noStar = true := by rfl) (hn : x ≠ "__name__" := by decide) (hdb : (x == ("__debug__" : Str)) = false := by decide) :
    PE X (.Call (.Name x p) (e :: es) [] pos) (tCB r t) := pe_callTy hc hg hm hv ha hn hdb (star_one h1) (star_any h2)
end
theorem bt_len : bootBuiltins "len" = some (.builtin "len") := by decide +kernel
theorem bt_any : bootBuiltins "any" = some (.builtin "any") := by decide +kernel
theorem bt_isinstance : bootBuiltins "isinstance" = some (.builtin "isinstance") := by decide +kernel
theorem bt_bool : bootBuiltins "bool" = some (.type "bool") := by decide +kernel
theorem bt_list : bootBuiltins "list" = some (.type "list") := by decide +kernel
theorem bt_tuple : bootBuiltins "tuple" = some (.type "tuple") := by decide +kernel
theorem pe_ty {X : Cx} {x : Str} {n : String} {pos : Pos} (hm : X.mg x = none) (hv : bootBuiltins x = some (.type n)) (hg : Gl X x := by rfl) (hn : x ≠ "__name__" := by decide) (hd : (x == ("__debug__" : Str)) = false := by decide) : PE X (.Name x pos) (tC (.ty n)) :=
  pe_bltn (v := .ty n) hg hm hv rfl hn hd
noncomputable def subT (T C : String) : Bool := T == C || (T == "bool" && C == "int")
noncomputable def known (C : String) : Bool := C == "str" || C == "int" || C == "bool" || C == "list" || C == "tuple" || C == "dict"
theorem kit_own {K : PySem.W.Frag} {T C : String} (hT : T = "NoneType" ∨ T = "bool" ∨ T = "int" ∨ T = "str" ∨ T = "list" ∨ T = "tuple" ∨ T = "dict") (hC : known C = true) : PySem.W.kitOne K (.type T) (.type C) = some (subT T C) := by
  have hC' : C = "str" ∨ C = "int" ∨ C = "bool" ∨ C = "list" ∨ C = "tuple" ∨ C = "dict" := by
    unfold known at hC
    simp only [Bool.or_eq_true, beq_iff_eq] at hC
    rcases hC with ((((h | h) | h) | h) | h) | h <;> simp [h]
  rcases hT with h | h | h | h | h | h | h <;> subst h <;> rcases hC' with h | h | h | h | h | h <;> subst h <;> first | rfl | decide +kernel
section
variable {X : Cx}
noncomputable def kPart (Q : Option Int → Hp → Prop) : VK := fun x H1 => match x with
  | .int i => Q (some i) H1
  | _ => False
noncomputable def uPart (t : TE) : TO := fun σ H Q => t σ H (kPart Q)
theorem qo_some {e : Expr} {te : TE} (h : PE X e te) : PO X (some e) (uPart te) := by
  intro pins s σ H Q I hw
  rw [evalPart_some]
  refine thn (h pins s σ H _ I hw) fun u s1 hh => exF hh fun x H1 I1 r1 q1 => ?_
  cases x with
  | int i =>
    obtain ⟨t, rfl⟩ := r1
    exact ⟨some i, H1, I1, .int i t, q1⟩
  | _ => exact q1.elim
noncomputable def cutS (z : Str) (lo hi : Option Int) : Str := ⟨((z.cps.toList.drop (HT.sIx z.length 0 lo)).take (HT.sIx z.length z.length hi - HT.sIx z.length 0 lo)).toArray⟩
theorem clipS (v : Int) (n d : Nat) : max 0 (min (if v < 0 then v + (n : Int) else v) (n : Int)) = ((HT.sIx n d (some v) : Nat) : Int) := by
  show _ = (((if v < 0 then (v + (n : Int)).toNat else min v.toNat n) : Nat) : Int)
  by_cases hv : v < 0
  · simp only [if_pos hv]; omega
  · simp only [if_neg hv]; omega
theorem loS (lo : Option Int) (n : Nat) : (match lo with | none => (0 : Int) | some i => max 0 (min (if i < 0 then i + (n : Int) else i) (n : Int))) = ((HT.sIx n 0 lo : Nat) : Int) := by
  cases lo with
  | none => rfl
  | some v => exact clipS v n 0
theorem hiS (hi : Option Int) (n : Nat) : (match hi with | none => (n : Int) | some i => max 0 (min (if i < 0 then i + (n : Int) else i) (n : Int))) = ((HT.sIx n n hi : Nat) : Int) := by
  cases hi with
  | none => rfl
  | some v => exact clipS v n n
theorem idxS (lo hi : Option Int) (n : Nat) : Builtin.Str.strSliceIndices lo hi 1 n = sliceRange ((HT.sIx n 0 lo : Nat) : Int) ((HT.sIx n n hi : Nat) : Int) 1 := by
  have h1 : ((1 : Int) > 0) = True := by simp
  simp only [Builtin.Str.strSliceIndices, h1, if_true]
  rw [← loS, ← hiS]
  cases lo <;> cases hi <;> rfl
theorem idxN (a b n : Nat) (ha : a ≤ n) (hb : b ≤ n) : Builtin.Str.strSliceIndices (some (a : Int)) (some (b : Int)) 1 n = sliceRange (a : Int) (b : Int) 1 := by
  rw [idxS, HT.sIx_nat, HT.sIx_nat, Nat.min_eq_left ha, Nat.min_eq_left hb]
theorem slice_cutS (z : Str) (lo hi : Option Int) : Txt.slice z lo hi = cutS z lo hi := by
  have ha := HT.sIx_le z.length 0 (Nat.zero_le _) lo
  have hb := HT.sIx_le z.length z.length (Nat.le_refl _) hi
  unfold Txt.slice
  rw [idxS, ← idxN _ _ _ ha hb]
  unfold cutS
  generalize HT.sIx z.length 0 lo = a at ha ⊢
  generalize HT.sIx z.length z.length hi = b at hb ⊢
  by_cases hab : a ≤ b
  · exact StrLaws.sliceText_nat z hab hb
  · have e : Builtin.Str.strSliceIndices (some (a : Int)) (some (b : Int)) 1 z.length = [] := by
      have h1 : ((1 : Int) > 0) = True := by simp
      have n1 : ¬ ((a : Int) < 0) := by omega
      have n2 : ¬ ((b : Int) < 0) := by omega
      have e1 : max (0 : Int) (min (a : Int) (z.length : Int)) = a := by omega
      have e2 : max (0 : Int) (min (b : Int) (z.length : Int)) = b := by omega
      simp only [Builtin.Str.strSliceIndices, sliceRange, h1, if_true, if_neg n1, if_neg n2, e1, e2]
      rw [if_neg (by omega)]
      rfl
    have e0 : b - a = 0 := by omega
    rw [e, e0, List.take_zero]
    split
    · rename_i h
      have hz : z.length = 0 := by
        have h' : 0 = z.length := by simpa using h
        exact h'.symm
      apply Str.ext'
      show z.cps = #[]
      exact Array.eq_empty_of_size_eq_zero hz
    · rfl
theorem cutS_le (z : Str) (lo hi : Option Int) : (cutS z lo hi).length ≤ z.length := by
  unfold cutS
  show (Array.size _) ≤ _
  rw [List.size_toArray, List.length_take, List.length_drop]
  simp [Str.length]
  omega
theorem sl_str : SlR X (fun x lo hi H Q => ∃ z, x = .str z ∧ z.length ≤ sizeLine ∧ Q (.str (cutS z lo hi)) H) := by
  intro pins s σ H x v vl vu lo hi sl Q I rx hs pl pu h
  obtain ⟨z, rfl, hz, q⟩ := h
  obtain ⟨t, rfl⟩ := rx
  have fin : ∀ (l u : Option (Int × Tok)), l.map (·.1) = lo → u.map (·.1) = hi → s.heap.IsSlice sl l u none → wpAny (model X.prog X.w) X.A (getItem (.str z t) (.ref sl)) (EP X pins σ Q) X.xe s := fun l u e1 e2 hs' => by
    refine wpAny_guard I.tk (wpAny_getItem_str_slice hs' rfl ?_)
    subst e1 e2
    refine post_val_or_str ?_
    have e : (if (((none : Option (Int × Tok)).map (·.1)).getD 1 == 1 && (slicePicked z l u none).length == z.length) = true then z else ⟨((slicePicked z l u none).filterMap (z.cps[·]?)).toArray⟩) = Txt.slice z (l.map (·.1)) (u.map (·.1)) := rfl
    rw [e, slice_cutS]
    exact ⟨Nat.le_trans (cutS_le _ _ _) hz, fun t' k htk => ⟨.str _, H, I.tok _, ⟨t', rfl⟩, q⟩⟩
  refine ⟨"str", _, F.slot_str_getitem.lookup, typeIs_str s z t, ?_⟩
  cases pl with
  | none =>
    cases pu with
    | none => exact fin none none rfl rfl hs
    | int j tj => exact fin none (some (j, tj)) rfl rfl hs
  | int i ti =>
    cases pu with
    | none => exact fin (some (i, ti)) none rfl rfl hs
    | int j tj => exact fin (some (i, ti)) (some (j, tj)) rfl rfl hs
noncomputable def uSl (K : PySem.W.Frag) (x : V) (lo hi : Option Int) (H : Hp) (Q : VK) : Prop := match x with
  | .str z => z.length ≤ sizeLine ∧ Q (.str (cutS z lo hi)) H
  | .ref a => (∃ xs, SqL K H a xs ∧ ∀ p, H p = none → Q (.ref p) (upd H p (.lst (cutV xs lo hi)))) ∨
    ∃ xs, SqT K H a xs ∧ ¬ (HT.sIx xs.length 0 lo = 0 ∧ HT.sIx xs.length xs.length hi = xs.length) ∧ ∀ p, H p = none → Q (.ref p) (upd H p (.tup (cutV xs lo hi)))
  | _ => False
theorem oSl0 : SlR X (uSl X.K) := (sl_str.or (sl_list.or sl_tup)).imp fun x lo hi H Q q => by
  unfold uSl at q
  split at q
  · exact .inl ⟨_, rfl, q.1, q.2⟩
  · rcases q with ⟨xs, h1, h2⟩ | ⟨xs, h1, h2, h3⟩
    · exact .inr (.inl ⟨_, xs, rfl, h1, h2⟩)
    · exact .inr (.inr ⟨_, xs, rfl, h1, h2, h3⟩)
  · exact q.elim
theorem oSl (K : PySem.W.Frag) (hK : X.K = K := by rfl) : SlR X (uSl K) := by
  subst hK
  exact oSl0
variable {tg : Expr}
noncomputable def kIt (K : PySem.W.Frag) (R : It → Hp → Prop) : VK := fun x H1 => match x with
  | .str z => R (Its z) H1
  | .ref a => ((∃ xs, SqL K H1 a xs) ∧ R (Itl K a) H1) ∨ ((∃ xs, SqT K H1 a xs) ∧ R (Itt K a) H1)
  | _ => False
noncomputable def uIt (K : PySem.W.Frag) (tl : TE) : TI := fun σ H R => tl σ H (kIt K R)
theorem pi_any (K : PySem.W.Frag) {l : Expr} {tl : TE} (hl : PE X l tl) (hK : X.K = K := by rfl) : PI X tg l (uIt K tl) := by
  subst hK
  intro pins s σ H R I h
  refine thn (hl pins s σ H _ I h) fun v s1 hh => exF hh fun x H1 I1 r1 q1 => ?_
  cases x with
  | str z =>
    obtain ⟨t, rfl⟩ := r1
    have fp1 : ∀ b ∈ [s1.heap.objs.size], FpOk X pins H1 b := fun b hb => by
      have e : b = s1.heap.objs.size := by simpa using hb
      subst e
      exact I1.fpOk (Nat.le_refl _) (I1.hok.fresh (Nat.le_refl _))
    cases ha : z.cps.all (· < 128)
    · refine wpAny_pyIter_wide ha ?_
      exact ⟨s1.heap.objs.size, [s1.heap.objs.size], _, _, H1, rfl, I1.kept (t' := s1.toks) fun b o e => Heap.get?_push_of_some _ e, turn_wide _ z t, ⟨_, Heap.get?_push_size _ rfl, rfl, rfl⟩, fp1, q1⟩
    · refine wpAny_pyIter_ascii ha ?_
      exact ⟨s1.heap.objs.size, [s1.heap.objs.size], _, _, H1, rfl, I1.kept (t' := s1.toks) fun b o e => Heap.get?_push_of_some _ e, turn_ascii _ z t, ⟨_, Heap.get?_push_size _ rfl, rfl, rfl⟩, fp1, q1⟩
  | ref a =>
    cases r1
    have fp1 : ∀ b ∈ [s1.heap.objs.size], FpOk X pins H1 b := fun b hb => by
      have e : b = s1.heap.objs.size := by simpa using hb
      subst e
      exact I1.fpOk (Nat.le_refl _) (I1.hok.fresh (Nat.le_refl _))
    rcases q1 with ⟨⟨xs, hq⟩, q⟩ | ⟨⟨xs, hq⟩, q⟩
    · obtain ⟨its, rv, p, hz⟩ := I1.list hq
      refine wpAny_pyIter_list p.isList ?_
      exact ⟨s1.heap.objs.size, [s1.heap.objs.size], _, _, H1, rfl, I1.kept (t' := s1.toks) fun b o e => Heap.get?_push_of_some _ e, turn_list a _, ⟨_, Heap.get?_push_size _ rfl, rfl, rfl⟩, fp1, q⟩
    · obtain ⟨its, rv, p, hz⟩ := I1.tuple hq
      refine wpAny_pyIter_tuple (show s1.heap.IsTuple a its.toArray from p) ?_
      exact ⟨s1.heap.objs.size, [s1.heap.objs.size], _, _, H1, rfl, I1.kept (t' := s1.toks) fun b o e => Heap.get?_push_of_some _ e, turn_tuple a _, ⟨_, Heap.get?_push_size _ rfl, rfl, rfl⟩, fp1, q⟩
  | _ => exact q1.elim
noncomputable def kRng1 (R : It → Hp → Prop) : List V → Hp → Prop := fun vs H1 => match vs with
  | [.int j] => (-(2 ^ 62) ≤ j ∧ j < 2 ^ 62) ∧ R (Itr 0 j.toNat) H1
  | _ => False
noncomputable def uRng1 (ta : TA) : TI := fun σ H R => ta σ H (kRng1 R)
theorem qi_range1 {a : Expr} {ta : TA} {p pos : Pos} (hg : Gl X "range") (hm : X.mg "range" = none) (ha : PA X [a] ta) (hs : starEach [a] X.env = [(false, eval a X.env)] := by rfl) : PI X tg (.Call (.Name "range" p) [a] [] pos) (uRng1 ta) := by
  intro pins s σ H R I h
  refine Call_ (ld_blt I hg hm boot_range (PyProof.Rows.callWith_type1 (thn (ha pos pins s σ H _ I h) fun us s1 hh => exF hh fun vs H1 I1 r1 q1 => ?_) hs rfl))
  unfold kRng1 at q1
  split at q1
  · obtain ⟨⟨q2, q3⟩, q⟩ := q1
    cases r1 with
    | cons r rr =>
      cases rr
      obtain ⟨t, rfl⟩ := r
      exact call_range_1 (range_it I1 (by omega) (by omega) q2 q3 (by simpa using q))
  · exact q1.elim
noncomputable def kSM2 (r : Str → List V → Hp → VK → Prop) (z : Str) (Q : VK) : List V → Hp → Prop := fun xs H2 => r z xs H2 Q
noncomputable def kSM (r : Str → List V → Hp → VK → Prop) (t : TA) (σ : St) (Q : VK) : VK := fun x H1 => match x with
  | .str z => t σ H1 (kSM2 r z Q)
  | _ => False
noncomputable def uSM (r : Str → List V → Hp → VK → Prop) (to : TE) (t : TA) : TE := fun σ H Q => to σ H (kSM r t σ Q)
noncomputable def SmR (X : Cx) (id : String) (r : Str → List V → Hp → VK → Prop) : Prop :=
  ∀ (pins : List (Addr × Obj)) (s : Shared) (σ : St) (H : Hp) (z : Str) (t : Tok) (xs : List V) (us : List Value) (Q : VK), Inv X pins σ H s → Vals xs us → r z xs H Q →
    wpAny (model X.prog X.w) X.A (call (.builtin id) (.str z t :: us)) (EP X pins σ Q) X.xe s
theorem qe_sm {o e : Expr} {es : List Expr} {to : TE} {t : TA} {name : Str} {apos cpos : Pos} {id : String} {r : Str → List V → Hp → VK → Prop} (slot : Slot "str" name id) (hty : typeOf (.builtin id) = pure (.type "method_descriptor")) (hm : SmR X id r) (ho : PE X o to) (ha : PA X (e :: es) t)
    (hbase : attributeBase o name X.env (eval o X.env) = eval o X.env := by rfl)
    (hfew : ((backTo cpos (starEach (e :: es) X.env)).all (fun x => !x.1) && (backToKw cpos (keywordEach [] X.env)).all (fun x => x.1.isSome)
      && decide ((e :: es).length + ([] : List Keyword).length + (if ([] : List Keyword).isEmpty then 0 else 1) < 30)) = true := by rfl)
    (hline : (apos.endLine == cpos.line) = true := by rfl) (hs : starEach (e :: es) X.env = (false, eval e X.env) :: starEach es X.env := by rfl) (hplain : (backTo cpos (starEach es X.env)).any (·.1) = false := by rfl) :
    PE X (.Call (.Attribute o name apos) (e :: es) [] cpos) (uSM r to t) := by
  intro pins s σ H Q I h
  refine wpAny_Call_method_late hbase hfew hline rfl (thn (ho pins s σ H _ I h) fun v s1 hh => exF hh fun x H1 I1 r1 q1 => ?_)
  cases x with
  | str z =>
    obtain ⟨tk, rfl⟩ := r1
    refine ⟨"str", id, PySem.F.plainAttrs_str, slot, hty, typeIs_str s1 z tk, (fun _ e => nomatch e), ?_⟩
    have hA := ha cpos pins s1 σ H1 _ I1 q1
    rw [hs] at hA ⊢
    refine Calls.callWith_builtin (by show (false || (backTo cpos (starEach es X.env)).any (·.1)) = false; rw [hplain] <;> rfl) (Calls.evalArgs_plain ?_)
    exact thn hA fun us s2 hh => exF hh fun vs H2 I2 r2 q2 => hm pins s2 σ H2 z tk vs us Q I2 r2 q2
  | _ => exact q1.elim
noncomputable def uS1 (f : Str → Str → V) (z : Str) (xs : List V) (H : Hp) (Q : VK) : Prop := match xs with
  | [.str y] => Q (f z y) H
  | _ => False
end
structure Def (K : PySem.W.Frag) (mg : Str → Option Value) (x : Str) (st : Stmt) (ps : List Str) (f : Addr) (fd : FuncData) : Prop where
  F : Fun K x x st f fd
  b : Binds K fd ps []
  m : mg x = some (.ref f)
section
variable {X : Cx} {x : Str} {st : Stmt} {ps : List Str} {f : Addr} {fd : FuncData} {j k : Nat} {sp : Sp} {p pos : Pos} {e : Expr} {es : List Expr} {t : TA}
noncomputable def uCall (sp : Sp) (t : TA) : TE := fun σ H Q => t σ H fun vs H1 => sp vs H1 Q E0
theorem pc (D : Def X.K X.mg x st ps f fd) (G : FnOk X.prog X.w X.K X.mg X.base CX0 j f fd ps sp) (hr : Room k X.A) (ha : PA X (e :: es) t) (hj : j ≤ k := by decide) (hg : Gl X x := by rfl) (hdb : (x == ("__debug__" : Str)) = false := by decide)
    (h1 : noStar e = true := by rfl) (h2 : es.all noStar = true := by rfl) : PE X (.Call (.Name x p) (e :: es) [] pos) (uCall sp t) := by
  have he : starEach (e :: es) X.env = (false, eval e X.env) :: starEach es X.env := star_one h1
  have hpl : (backTo pos (starEach es X.env)).any (·.1) = false := star_any h2
  intro pins s σ H Q I h
  refine wpAny_Call_Name_kw (ld_glob I hg D.m ?_ hdb)
  refine PySem.W.callWith_K (h₀ := X.base) I.ok.mod.kin D.F.kp (thn (ha pos pins s σ H _ I h) fun us s1 hh => exF hh fun vs H1 I1 r q => ⟨I1.kIn, ?_⟩) he hpl
  exact run_fn (dvs := []) G (hr.mono hj) D.b .nil pass0 I1 r (by rw [List.append_nil]; exact q)
end
end L2
namespace L2
open PySem PySem.Spec PyProof.Rows
set_option maxHeartbeats 4000000
theorem same_new {H : Hp} {p : Addr} (h : H p = none) (o : HO) : Same H (upd H p o) := fun b u q => by rw [upd_ne (ne_of_none q h)]; exact q
theorem Same.seqT {K : PySem.W.Frag} {H H' : Hp} {a : Addr} {xs : List V} (e : Same H H') (h : SqT K H a xs) : SqT K H' a xs := e _ _ h
end L2
namespace L2
open PySem PySem.Spec PyProof.Rows
set_option maxHeartbeats 4000000
section
variable {K : PySem.W.Frag} {σ : St} {H H1 H2 : Hp} {Q : VK} {QB R' : Bool → Hp → Prop} {ta tb te : TE} {tt uu : TT} {t tr : TA} {x y v : V} {xs vs : List V} {r : R2} {c : Bool} {i j : Int}
noncomputable def kOp2 (r : R2) (x : V) (Q : VK) : VK := fun y H2 => r x y H2 Q
noncomputable def kOp1 (r : R2) (tb : TE) (σ : St) (Q : VK) : VK := fun x H1 => tb σ H1 (kOp2 r x Q)
variable {z z' : Str} {c' : Bool} {p : Addr}
end
end L2
namespace L2
open PySem PySem.Spec PyProof.Rows
set_option maxHeartbeats 4000000
structure JE (X : Cx) (e : Expr) (t : TE) : Prop where
  out : PE X e t
structure JT (X : Cx) (e : Expr) (t : TT) : Prop where
  out : PT X e t
structure JW (X : Cx) (e : Expr) (t : TT) : Prop where
  out : PW X e t
structure JA (X : Cx) (es : List Expr) (t : TA) : Prop where
  out : PA X es t
structure JS (X : Cx) (st : Stmt) (t : TS) : Prop where
  out : PS X st t
structure JB (X : Cx) (st : List Stmt) (t : TS) : Prop where
  out : PSs X st t
structure JG (X : Cx) (e : Expr) (t : TG) : Prop where
  out : PG X e t
structure JI (X : Cx) (tg e : Expr) (t : TI) : Prop where
  out : PI X tg e t
structure JO (X : Cx) (e : Option Expr) (t : TO) : Prop where
  out : PO X e t
structure JTs (X : Cx) (es : List Expr) (t : TT) : Prop where
  out : PTs X es t
section
variable {X : Cx} {a b c e : Expr} {ta tb tc te : TE} {tA tB' : TT} {pos : Pos} {rest es : List Expr} {t : TA}
theorem jv (i : Nat) {x : Str} {pos : Pos} (hN : X.N[i]? = some x := by rfl) (hv : Vis X.env.scope x := by first | exact Or.inl rfl | exact Or.inr (Or.inl rfl) | exact Or.inr (Or.inr rfl)) (hd : (x == ("__debug__" : Str)) = false := by decide)
    (hcd : (x == ("__classdict__" : Str)) = false := by decide) : JE X (.Name x pos) (uVar i) := ⟨qv i hN hv hd hcd⟩
theorem j_int {i j pos} : JE X (.Constant (.int i) j pos) (tC (.int i)) := ⟨pe_int⟩
theorem j_bl {b j pos} : JE X (.Constant (.bool b) j pos) (tC (.bl b)) := ⟨pe_bl⟩
theorem j_non {j pos} : JE X (.Constant .none j pos) (tC .non) := ⟨pe_non⟩
theorem j_str {x j pos} : JE X (.Constant (.str x) j pos) (tC (.str x)) := ⟨pe_str⟩
theorem j_ty {x : Str} {n : String} {pos : Pos} (hm : X.mg x = none) (hv : bootBuiltins x = some (.type n)) (hg : Gl X x := by rfl) (hn : x ≠ "__name__" := by decide) (hd : (x == ("__debug__" : Str)) = false := by decide) : JE X (.Name x pos) (tC (.ty n)) := ⟨pe_ty hm hv hg hn hd⟩
theorem j_op {op : Operator} {r : R2} (ho : OpR X (binaryOp op) r) (ha : JE X a ta) (hb : JE X b tb) : JE X (.BinOp a op b pos) (tOp r ta tb) := ⟨pe_op ho ha.out hb.out⟩
theorem j_cmp {op : CmpOp} {r : R2} (ho : OpR X (compareOp op) r) (ha : JE X a ta) (hb : JE X b tb) (hm : behindInMarks op b = false) : JE X (.Compare a [op] [b] pos) (tOp r ta tb) := ⟨pe_cmpR ho ha.out hb.out hm⟩
theorem jt_cmp {op : CmpOp} {r : R2} (ho : OpR X (compareOp op) r) (ha : JE X a ta) (hb : JE X b tb) (hm : behindInMarks op b = false) : JT X (.Compare a [op] [b] pos) (uTest (tOp r ta tb)) := ⟨qt_cmpR ho ha.out hb.out hm⟩
theorem jt_bool (h : JW X a tA) : JT X a tA := ⟨h.out.pt⟩
theorem jw_or1 (ha : JT X a tA) : JW X (.BoolOp .Or [a] pos) tA := ⟨pw_or1 ha.out⟩
theorem jw_or (ha : JT X a tA) (hb : JW X (.BoolOp .Or (b :: rest) pos) tB') : JW X (.BoolOp .Or (a :: b :: rest) pos) (tOr tA tB') := ⟨pw_or ha.out hb.out⟩
theorem jt_not (ha : JT X a tA) : JT X (.UnaryOp .Not a pos) (tNot tA) := ⟨pt_not ha.out⟩
theorem jt_truth (K : PySem.W.Frag) (ha : JE X a ta) (he : ∀ whole, isTrue a X.env whole = (do let v ← whole; standAt a.pos; holding [v] (truthy v)) := by exact fun _ => rfl) (hK : X.K = K := by rfl) : JT X a (uTruth K ta) := ⟨qt_truth K ha.out he hK⟩
theorem ja_nil : JA X [] tNil := ⟨pa_nil⟩
theorem ja_cons (ha : JE X e te) (hr : JA X es t) (hn : noStar e = true := by rfl) : JA X (e :: es) (tCons te t) := ⟨qa_cons ha.out hr.out hn⟩
theorem j_lst (h : JA X es t) : JE X (.List es pos) (tLst t) := ⟨pe_lst h.out⟩
theorem j_tup {x1} (h : JA X es t) : JE X (.Tuple es x1 pos) (tTup t) := ⟨pe_tup h.out⟩
theorem j_ix {r : R2} (hr : IxR X r) (ha : JE X a ta) (hb : JE X b tb) (hs : PlainIx b := by exact fun _ _ => rfl) : JE X (.Subscript a b pos) (tOp r ta tb) := ⟨pe_ix hr ha.out hb.out hs⟩
theorem jo_none : JO X none tNoPart := ⟨po_none⟩
theorem jo_some (h : JE X e te) : JO X (some e) (uPart te) := ⟨qo_some h.out⟩
theorem j_slice {r : V → Option Int → Option Int → Hp → VK → Prop} {lo hi : Option Expr} {tl th : TO} {p2 : Pos} (hr : SlR X r) (he : JE X e te) (hl : JO X lo tl) (hu : JO X hi th) : JE X (.Subscript e (.Slice lo hi none p2) pos) (tSl r te tl th) := ⟨pe_slice hr he.out hl.out hu.out⟩
end
section
variable {X : Cx} {x : Str} {st : Stmt} {ps : List Str} {f : Addr} {fd : FuncData} {j k : Nat} {sp : Sp} {p pos : Pos} {e : Expr} {es : List Expr} {t : TA} {id T : String} {r : List V → Hp → VK → Prop}
theorem j_call (D : Def X.K X.mg x st ps f fd) (G : FnOk X.prog X.w X.K X.mg X.base CX0 j f fd ps sp) (hr : Room k X.A) (ha : JA X (e :: es) t) (hj : j ≤ k := by decide) (hg : Gl X x := by rfl) (hdb : (x == ("__debug__" : Str)) = false := by decide)
    (h1 : noStar e = true := by rfl) (h2 : es.all noStar = true := by rfl) : JE X (.Call (.Name x p) (e :: es) [] pos) (uCall sp t) := ⟨pc D G hr ha.out hj hg hdb h1 h2⟩
theorem j_callB (hc : CallR X (.builtin id) r) (hm : X.mg x = none) (hv : bootBuiltins x = some (.builtin id)) (ha : JA X (e :: es) t) (hg : Gl X x := by rfl) (h1 : noStar e = true := by rfl) (h2 : es.all noStar = true := by rfl) (hn : x ≠ "__name__" := by decide) (hdb : (x == ("__debug__" : Str)) = false := by decide) :
    JE X (.Call (.Name x p) (e :: es) [] pos) (tCB r t) := ⟨qc_b hc hm hv ha.out hg h1 h2 hn hdb⟩
theorem j_callT (hc : CallR X (.type T) r) (hm : X.mg x = none) (hv : bootBuiltins x = some (.type T)) (ha : JA X (e :: es) t) (hg : Gl X x := by rfl) (h1 : noStar e = true := by rfl) (h2 : es.all noStar = true := by rfl) (hn : x ≠ "__name__" := by decide) (hdb : (x == ("__debug__" : Str)) = false := by decide) :
    JE X (.Call (.Name x p) (e :: es) [] pos) (tCB r t) := ⟨qc_t hc hm hv ha.out hg h1 h2 hn hdb⟩
end
section
variable {X : Cx} {o e : Expr} {es : List Expr} {to : TE} {t : TA} {name : Str} {apos cpos : Pos} {id : String}
theorem star_few {env : Env} {pos : Pos} {es : List Expr} (h : es.all noStar = true) (hl : es.length < 29) : ((backTo pos (starEach es env)).all (fun x => !x.1) && (backToKw pos (keywordEach [] env)).all (fun x => x.1.isSome)
      && decide (es.length + ([] : List Keyword).length + (if ([] : List Keyword).isEmpty then 0 else 1) < 30)) = true := by
  have h1 : (backTo pos (starEach es env)).all (fun x => !x.1) = true := by
    have := star_any (env := env) (pos := pos) h
    rw [List.any_eq_false] at this
    rw [List.all_eq_true]
    intro x hx
    have := this x hx
    simpa using this
  rw [h1]
  show (true && true && decide (es.length + 0 + 0 < 30)) = true
  rw [decide_eq_true (by omega)]
  rfl
theorem j_sm {r : Str → List V → Hp → VK → Prop} (slot : Slot "str" name id) (hty : typeOf (.builtin id) = pure (.type "method_descriptor")) (hm : SmR X id r) (ho : JE X o to) (ha : JA X (e :: es) t)
    (hbase : attributeBase o name X.env (eval o X.env) = eval o X.env := by rfl) (hline : (apos.endLine == cpos.line) = true := by rfl) (h1 : (e :: es).all noStar = true := by rfl) (hl : (e :: es).length < 29 := by decide) :
    JE X (.Call (.Attribute o name apos) (e :: es) [] cpos) (uSM r to t) := by
  have h1' := h1
  rw [List.all_cons, Bool.and_eq_true] at h1'
  exact ⟨qe_sm slot hty hm ho.out ha.out hbase (star_few h1 hl) hline (star_one h1'.1) (star_any h1'.2)⟩
end
section
variable {X : Cx} {osc : Scope} {ON N : List Str} {ix : List (Option Nat)} {scope : Scope} {tg elt iter : Expr} {ifs : List Expr} {pos : Pos} {wi : TI} {g : TG} {tt : TT} {te : TE}
theorem jts_nil : JTs X [] tYes := ⟨pts_nil⟩
theorem jts_one {c : Expr} (h : JT X c tt) : JTs X [c] tt := ⟨pts_one h.out⟩
theorem j_comp (hcs : csOk osc ON N ix scope = true) (hi : JI X tg iter wi) (hg : ∀ b, JG (blk X N scope b) tg g) (ht : ∀ b, JTs (blk X N scope b) ifs tt) (he : ∀ b, JE (blk X N scope b) elt te)
    (hE : X.env.scope = osc := by rfl) (hO : X.N = ON := by rfl) (hc : X.calm = true := by rfl) (hs : ∀ x, foldedSetIterable iter X.env x = pure x := by intro _; rfl) : JE X (.ListComp elt [⟨tg, iter, ifs, 0⟩] scope pos) (tComp ix wi g tt te) :=
  ⟨pe_lcomp (cs_of hcs) hE hO hc hi.out (fun b => (hg b).out) (fun b => (ht b).out) (fun b => (he b).out) hs⟩
theorem js_setComp {i : Nat} {x : Str} {spos pos' : Pos} (hN : X.N.Nodup) (hl : Loc X.env.scope x) (hcs : csOk osc ON N ix scope = true) (hi : JI X tg iter wi) (hg : ∀ b, JG (blk X N scope b) tg g) (ht : ∀ b, JTs (blk X N scope b) ifs tt) (he : ∀ b, JE (blk X N scope b) elt te)
    (hx : X.N[i]? = some x := by rfl) (hE : X.env.scope = osc := by rfl) (hO : X.N = ON := by rfl) (hc : X.calm = true := by rfl)
    (hsw : swapsWith (.ListComp elt [⟨tg, iter, ifs, 0⟩] scope pos) (some (.Name x pos')) spos.line X.env = pure true := by rfl)
    (hf : X.fn x = true ∨ X.env.scope.names.lookup x = some .local := by first | exact .inl rfl | exact .inr rfl | assumption)
    (hs : ∀ x, foldedSetIterable iter X.env x = pure x := by intro _; rfl) : JS X (.Assign [.Name x pos'] (.ListComp elt [⟨tg, iter, ifs, 0⟩] scope pos) spos) (tAsg (tComp ix wi g tt te) (gName i)) :=
  ⟨ps_setComp hN hx hl (cs_of hcs) hE hO hc hi.out (fun b => (hg b).out) (fun b => (ht b).out) (fun b => (he b).out) hsw hf hs⟩
theorem ji_any (K : PySem.W.Frag) {l : Expr} {tl : TE} (hl : JE X l tl) (hK : X.K = K := by rfl) : JI X tg l (uIt K tl) := ⟨pi_any K hl.out hK⟩
theorem ji_range1 {a : Expr} {ta : TA} {p pos : Pos} (hm : X.mg "range" = none) (ha : JA X [a] ta) (hg : Gl X "range" := by rfl) (hn : noStar a = true := by rfl) : JI X tg (.Call (.Name "range" p) [a] [] pos) (uRng1 ta) := ⟨qi_range1 hg hm ha.out (star_one hn)⟩
end
section
variable {X : Cx} {pos : Pos} {st : Stmt} {rest : List Stmt} {t u : TS} {e : Expr} {te : TE}
theorem jg_name {i : Nat} {x : Str} (hN : X.N.Nodup) (hi : X.N[i]? = some x) (hx : Loc X.env.scope x) (hf : X.fn x = true ∨ X.env.scope.names.lookup x = some .local := by first | exact .inl rfl | exact .inr rfl | assumption) : JG X (.Name x pos) (gName i) := ⟨pg_name hN hi hx hf⟩
theorem jb_nil : JB X [] tNext := ⟨pss_nil⟩
theorem jb_cons (h1 : JS X st t) (h2 : JB X rest u) : JB X (st :: rest) (tSeq t u) := ⟨pss_cons h1.out h2.out⟩
theorem jb_one (h1 : JS X st t) : JB X [st] t := ⟨pss_one h1.out⟩
theorem js_expr (he : JE X e te) (hs : swapsWith e none pos.line X.env = pure false := by rfl) : JS X (.Expr e pos) (tDrop te) := ⟨ps_expr he.out hs⟩
theorem js_ret (he : JE X e te) : JS X (.Return (some e) pos) (tRet te) := ⟨ps_ret he.out⟩
theorem js_if {c : Expr} {a b : List Stmt} {tc : TT} (hc : JT X c tc) (ha : JB X a t) (hb : JB X b u) : JS X (.If c a b pos) (tIfS tc t u) := ⟨ps_if hc.out ha.out hb.out⟩
theorem js_set {i : Nat} {x : Str} {pos' : Pos} (hN : X.N.Nodup) (hx : Loc X.env.scope x) (he : JE X e te) (hi : X.N[i]? = some x := by rfl) (hs : swapsWith e (some (.Name x pos')) pos.line X.env = pure false := by rfl) (hf : X.fn x = true ∨ X.env.scope.names.lookup x = some .local := by first | exact .inl rfl | exact .inr rfl | assumption) :
    JS X (.Assign [.Name x pos'] e pos) (tAsg te (gName i)) := ⟨ps_set hN hi hx he.out hs hf⟩
theorem js_asg {tg : Expr} {g : TG} (he : JE X e te) (hg : JG X tg g) (hs : swapsWithSole [tg] e pos.line X.env = pure false := by rfl) (hw : swappedStores [tg] e X.env = pure none := by rfl)
    (h1 : (assignEach [tg] X.env).map (·.2) = [assign tg X.env] := by rfl) : JS X (.Assign [tg] e pos) (tAsg te g) := ⟨ps_asg he.out hg.out hs hw h1⟩
theorem jg_sub {o i : Expr} {to ti : TE} {t : TSet} (ho : JE X o to) (hi : JE X i ti) (hs : PSet X t)
    (ha : ∀ v, assign (.Subscript o i pos) X.env v = (do
      let ov ← holding [v] (eval o X.env)
      let iv ← holding [v, ov] (eval i X.env)
      standAt pos
      holding [v, ov, iv] (setItem ov iv v)
      release [v, ov, iv] []) := by intro _; rfl) : JG X (.Subscript o i pos) (gSub to ti t) := ⟨pg_sub ho.out hi.out hs ha⟩
theorem js_for {tg iter : Expr} {body : List Stmt} {wi : TI} {g : TG} {tb : TS} (hp : PassesOwn (model X.prog X.w) X.A X.env X.xe) (hi : JI X tg iter wi) (hg : JG X tg g) (hb : JB X body tb) (hc : X.calm = true := by rfl)
    (hs : ∀ x, foldedSetIterable iter X.env x = pure x := by intro _; rfl) : JS X (.For tg iter body [] pos) (tFor wi g tb) := ⟨ps_for hp hc hi.out hg.out hb.out hs⟩
end
section
variable {P : Program} {w : World} {K : PySem.W.Frag} {mg : Str → Option Value} {base : Heap}
theorem Fun.okJ {x qual : Str} {st : Stmt} {f : Addr} {fd : FuncData} {N ps : List Str} {k : Nat} {sp : Sp} (F : Fun K x qual st f fd) (S : FnScope N ps (defScope st)) (len : ∀ vs H Q E, sp vs H Q E → vs.length = ps.length)
    (hbody : ∀ (cdv : Value) (A : Around) (outer : List Env) (s : Shared) (H : Hp) (vs : List V) (Q : VK) (E : XK), Room k (A.deeper (envOfC qual (defScope st) s.heap.objs.size f cdv)) → sp vs H Q E →
      ∃ t, JB (cxOf CX0 P w K mg base N qual (defScope st) f cdv A outer s H E).nox (defBody st) t ∧ t { nx := fun _ H' => Q .non H', rt := Q } (start N vs) H) : FnOk P w K mg base CX0 (k + 1) f fd ps sp :=
  F.ok S len fun cdv A outer s H vs Q E hr h => let ⟨t, h1, h2⟩ := hbody cdv A outer s H vs Q E hr h; ⟨t, h1.out, h2⟩
end
end L2
namespace L2
open PySem PySem.Builtin
set_option maxHeartbeats 4000000
set_option linter.unusedVariables false
section
variable {prog : Program} {w : World} {A : Around} {E : Value → Shared → Prop} {s : Shared}
end
section
variable {prog : Program} {w : World} {A : Around} {E : Value → Shared → Prop} {s : Shared} {z TI TO i1 i2 : Addr} {fp1 fp2 : List Addr} {n1 n2 k : Nat} {P1 P2 : Nat → Value → Prop} {St1 St2 : Nat → Heap → Prop}
end
section
variable {prog : Program} {w : World} {A : Around} {E : Value → Shared → Prop} {s : Shared}
end
section
variable {prog : Program} {w : World} {A : Around} {E : Value → Shared → Prop} {s : Shared}
end
end L2
namespace L2
open PySem PySem.Spec PyProof.Rows
set_option maxHeartbeats 4000000
set_option linter.unusedVariables false
theorem JE.imp {X : Cx} {e : Expr} {t t' : TE} (h : JE X e t) (i : ∀ σ H Q, t' σ H Q → t σ H Q) : JE X e t' := ⟨h.out.imp i⟩
theorem JT.imp {X : Cx} {e : Expr} {t t' : TT} (h : JT X e t) (i : ∀ σ H Q, t' σ H Q → t σ H Q) : JT X e t' := ⟨fun pins s σ H Q I q => h.out pins s σ H Q I (i σ H Q q)⟩
theorem JW.imp {X : Cx} {e : Expr} {t t' : TT} (h : JW X e t) (i : ∀ σ H Q, t' σ H Q → t σ H Q) : JW X e t' := ⟨fun w pins s σ H Q I q => h.out w pins s σ H Q I (i σ H Q q)⟩
theorem JA.imp {X : Cx} {es : List Expr} {t t' : TA} (h : JA X es t) (i : ∀ σ H Q, t' σ H Q → t σ H Q) : JA X es t' := ⟨fun pos pins s σ H Q I q => h.out pos pins s σ H Q I (i σ H Q q)⟩
theorem JS.imp {X : Cx} {st : Stmt} {t t' : TS} (h : JS X st t) (i : ∀ D σ H, t' D σ H → t D σ H) : JS X st t' := ⟨fun pins s σ H D I q => h.out pins s σ H D I (i D σ H q)⟩
theorem JB.imp {X : Cx} {st : List Stmt} {t t' : TS} (h : JB X st t) (i : ∀ D σ H, t' D σ H → t D σ H) : JB X st t' := ⟨fun pins s σ H D I q => h.out pins s σ H D I (i D σ H q)⟩
theorem JG.imp {X : Cx} {e : Expr} {t t' : TG} (h : JG X e t) (i : ∀ v σ H Q, t' v σ H Q → t v σ H Q) : JG X e t' := ⟨fun pins s σ H v u Q I r q => h.out pins s σ H v u Q I r (i v σ H Q q)⟩
theorem JI.imp {X : Cx} {tg e : Expr} {t t' : TI} (h : JI X tg e t) (i : ∀ σ H R, t' σ H R → t σ H R) : JI X tg e t' := ⟨fun pins s σ H R I q => h.out pins s σ H R I (i σ H R q)⟩
theorem JO.imp {X : Cx} {e : Option Expr} {t t' : TO} (h : JO X e t) (i : ∀ σ H Q, t' σ H Q → t σ H Q) : JO X e t' := ⟨fun pins s σ H Q I q => h.out pins s σ H Q I (i σ H Q q)⟩
theorem JTs.imp {X : Cx} {es : List Expr} {t t' : TT} (h : JTs X es t) (i : ∀ σ H Q, t' σ H Q → t σ H Q) : JTs X es t' := ⟨fun pins s σ H Q I q => h.out pins s σ H Q I (i σ H Q q)⟩
inductive D where
  | non | bl (b : Bool) | int (i : Int) | str (x : Str) | ty (n : String)
  | lst (xs : List D) | tup (xs : List D) | dct (kvs : List (Key × D)) | obj (C : Addr) (fs : List (Str × D))
  /-- a dict whose keys are tuples of ints and texts -/
  | dcT (kvs : List (List Key × D))
  /-- an exception that was caught, by its class's name; a class of the text -/
  | exn (x : Str) | cls (x : Str)
noncomputable def ExcO (a C : Addr) : HO := .ext fun h => ∃ o vs, h.get? a = some o ∧ o.cls = .ref C ∧ o.dict = none ∧ o.data = .fields vs
section
variable (K : PySem.W.Frag) (H : Hp)
mutual
noncomputable def Den : D → V → Prop
  | .non, v => v = .non
  | .bl b, v => v = .bl b
  | .int i, v => v = .int i
  | .str x, v => v = .str x
  | .ty n, v => v = .ty n
  | .lst ds, v => ∃ a xs, v = .ref a ∧ SqL K H a xs ∧ Dens ds xs
  | .tup ds, v => ∃ a xs, v = .ref a ∧ SqT K H a xs ∧ Dens ds xs
  | .dct ds, v => ∃ a xs, v = .ref a ∧ H a = some (.dK xs) ∧ DenK ds xs
  | .dcT ds, v => ∃ a xs, v = .ref a ∧ H a = some (.dA xs) ∧ DenT ds xs
  | .obj C fs, v => ∃ a dx xs, v = .ref a ∧ H a = some (.ins C dx xs) ∧ DenF fs xs
  | .exn x, v => ∃ a C, v = .ref a ∧ PySem.W.nsIn K mainGlobals x = some (some (.ref C)) ∧ H a = some (ExcO a C)
  | .cls x, v => ∃ C, v = .ref C ∧ PySem.W.nsIn K mainGlobals x = some (some (.ref C))
noncomputable def Dens : List D → List V → Prop
  | [], xs => xs = []
  | d :: ds, xs => ∃ v vs, xs = v :: vs ∧ Den d v ∧ Dens ds vs
noncomputable def DenK : List (Key × D) → List (Key × V) → Prop
  | [], xs => xs = []
  | (k, d) :: ds, xs => ∃ v vs, xs = (k, v) :: vs ∧ Den d v ∧ DenK ds vs
noncomputable def DenT : List (List Key × D) → List (List Key × Addr × V) → Prop
  | [], xs => xs = []
  | (k, d) :: ds, xs => ∃ b v vs, xs = (k, b, v) :: vs ∧ H b = some (.tup (k.map kV)) ∧ Den d v ∧ DenT ds vs
noncomputable def DenF : List (Str × D) → List (Str × V) → Prop
  | [], xs => xs = []
  | (k, d) :: ds, xs => ∃ v vs, xs = (k, v) :: vs ∧ Den d v ∧ DenF ds vs
end
end
section
variable {K : PySem.W.Frag} {H H' : Hp}
mutual
theorem Den.mono (s : Same H H') : ∀ {d : D} {v : V}, Den K H d v → Den K H' d v
  | .non, _, h => h
  | .bl _, _, h => h
  | .int _, _, h => h
  | .str _, _, h => h
  | .ty _, _, h => h
  | .lst ds, _, ⟨a, xs, e, h1, h2⟩ => ⟨a, xs, e, s.seq h1, Dens.mono s h2⟩
  | .tup ds, _, ⟨a, xs, e, h1, h2⟩ => ⟨a, xs, e, s.seqT h1, Dens.mono s h2⟩
  | .dct ds, _, ⟨a, xs, e, h1, h2⟩ => ⟨a, xs, e, s _ _ h1, DenK.mono s h2⟩
  | .dcT ds, _, ⟨a, xs, e, h1, h2⟩ => ⟨a, xs, e, s _ _ h1, DenT.mono s h2⟩
  | .obj C ds, _, ⟨a, dx, xs, e, h1, h2⟩ => ⟨a, dx, xs, e, s _ _ h1, DenF.mono s h2⟩
  | .exn _, _, ⟨a, C, e, h1, h2⟩ => ⟨a, C, e, h1, s _ _ h2⟩
  | .cls _, _, h => h
theorem Dens.mono (s : Same H H') : ∀ {d : List D} {v : List V}, Dens K H d v → Dens K H' d v
  | [], _, h => h
  | d :: ds, _, ⟨v, vs, e, h1, h2⟩ => ⟨v, vs, e, Den.mono s h1, Dens.mono s h2⟩
theorem DenK.mono (s : Same H H') : ∀ {d : List (Key × D)} {v : List (Key × V)}, DenK K H d v → DenK K H' d v
  | [], _, h => h
  | (k, d) :: ds, _, ⟨v, vs, e, h1, h2⟩ => ⟨v, vs, e, Den.mono s h1, DenK.mono s h2⟩
theorem DenT.mono (s : Same H H') : ∀ {d : List (List Key × D)} {v : List (List Key × Addr × V)}, DenT K H d v → DenT K H' d v
  | [], _, h => h
  | (k, d) :: ds, _, ⟨b, v, vs, e, h0, h1, h2⟩ => ⟨b, v, vs, e, s _ _ h0, Den.mono s h1, DenT.mono s h2⟩
theorem DenF.mono (s : Same H H') : ∀ {d : List (Str × D)} {v : List (Str × V)}, DenF K H d v → DenF K H' d v
  | [], _, h => h
  | (k, d) :: ds, _, ⟨v, vs, e, h1, h2⟩ => ⟨v, vs, e, Den.mono s h1, DenF.mono s h2⟩
end
theorem Dens.len : ∀ {ds : List D} {xs : List V}, Dens K H ds xs → ds.length = xs.length
  | [], _, h => by cases h; rfl
  | d :: ds, _, ⟨v, vs, e, h1, h2⟩ => by subst e; simp [Dens.len h2]
theorem Dens.get : ∀ {ds : List D} {xs : List V} {i : Nat} {d : D}, Dens K H ds xs → ds[i]? = some d → ∃ v, xs[i]? = some v ∧ Den K H d v
  | [], _, _, _, _, e => by simp at e
  | d :: ds, _, 0, _, ⟨v, vs, e, h1, h2⟩, q => by
    simp at q; subst q e; exact ⟨v, rfl, h1⟩
  | d :: ds, _, i + 1, _, ⟨v, vs, e, h1, h2⟩, q => by
    subst e
    obtain ⟨u, h3, h4⟩ := Dens.get (i := i) h2 (by simpa using q)
    exact ⟨u, by simpa using h3, h4⟩
theorem Dens.got : ∀ {ds : List D} {xs : List V} {i : Nat} {v : V}, Dens K H ds xs → xs[i]? = some v → ∃ d, ds[i]? = some d ∧ Den K H d v
  | [], _, _, _, h, e => by cases h; simp at e
  | d :: ds, _, 0, _, ⟨v, vs, e, h1, h2⟩, q => by
    subst e; simp at q; subst q; exact ⟨d, rfl, h1⟩
  | d :: ds, _, i + 1, _, ⟨v, vs, e, h1, h2⟩, q => by
    subst e
    obtain ⟨u, h3, h4⟩ := Dens.got (i := i) h2 (by simpa using q)
    exact ⟨u, by simpa using h3, h4⟩
theorem Dens.nil : Dens K H [] [] := rfl
theorem Dens.cons {d : D} {ds : List D} {v : V} {xs : List V} (h : Den K H d v) (t : Dens K H ds xs) : Dens K H (d :: ds) (v :: xs) := ⟨v, xs, rfl, h, t⟩
theorem Dens.append : ∀ {ds es : List D} {xs ys : List V}, Dens K H ds xs → Dens K H es ys → Dens K H (ds ++ es) (xs ++ ys)
  | [], _, _, _, h, t => by cases h; exact t
  | d :: ds, _, _, _, ⟨v, vs, e, h1, h2⟩, t => by subst e; exact ⟨v, _, rfl, h1, Dens.append h2 t⟩
theorem Dens.take : ∀ {ds : List D} {xs : List V} (n : Nat), Dens K H ds xs → Dens K H (ds.take n) (xs.take n)
  | _, _, 0, _ => by simp only [List.take_zero]; exact rfl
  | [], _, n + 1, h => by cases h; exact rfl
  | d :: ds, _, n + 1, ⟨v, vs, e, h1, h2⟩ => by subst e; exact ⟨v, _, rfl, h1, Dens.take n h2⟩
theorem Dens.drop : ∀ {ds : List D} {xs : List V} (n : Nat), Dens K H ds xs → Dens K H (ds.drop n) (xs.drop n)
  | _, _, 0, h => h
  | [], _, n + 1, h => by cases h; exact rfl
  | d :: ds, _, n + 1, ⟨v, vs, e, h1, h2⟩ => by subst e; exact Dens.drop n h2
end
noncomputable def mask (as : List Addr) (H : Hp) : Hp := fun b => if b ∈ as then none else H b
theorem mask_in {as : List Addr} {H : Hp} {b : Addr} (h : b ∈ as) : mask as H b = none := if_pos h
theorem mask_out {as : List Addr} {H : Hp} {b : Addr} (h : b ∉ as) : mask as H b = H b := if_neg h
theorem mask_nil {H : Hp} : mask [] H = H := by funext b; exact if_neg (by simp)
theorem mask_le (as : List Addr) (H : Hp) : Same (mask as H) H := fun b o e => by
  unfold mask at e
  split at e
  · cases e
  · exact e
theorem mask_mono {as : List Addr} {H H' : Hp} (s : Same H H') : Same (mask as H) (mask as H') := fun b o e => by
  unfold mask at e ⊢
  split at e
  · cases e
  · rename_i h; rw [if_neg h]; exact s b o e
theorem mask_app (as bs : List Addr) (H : Hp) : mask (as ++ bs) H = mask bs (mask as H) := by
  funext b
  unfold mask
  by_cases h1 : b ∈ as <;> by_cases h2 : b ∈ bs <;> simp [h1, h2]
theorem mask_sub {as bs : List Addr} {H : Hp} (h : ∀ a ∈ bs, a ∈ as) : Same (mask as H) (mask bs H) := fun b o e => by
  by_cases hb : b ∈ as
  · rw [mask_in hb] at e; cases e
  · rw [mask_out hb] at e
    rw [mask_out fun z => hb (h b z)]
    exact e
theorem into_mask {as : List Addr} {B H : Hp} (s : Same B H) (h : ∀ a ∈ as, B a = none) : Same B (mask as H) := fun b o e => by
  have hb : b ∉ as := fun z => by rw [h b z] at e; cases e
  rw [mask_out hb]
  exact s b o e
inductive R (α : Type) where
  | ok (a : α)
  | er (x : Str)
  | no
noncomputable def R.bind {α β : Type} (r : R α) (f : α → R β) : R β := match r with
  | .ok a => f a
  | .er x => .er x
  | .no => .no
theorem bind_ok {α β : Type} {a : α} {f : α → R β} : (R.ok a).bind f = f a := rfl
theorem bind_assoc {α β γ : Type} (r : R α) (f : α → R β) (g : β → R γ) : (r.bind f).bind g = r.bind fun a => (f a).bind g := by cases r <;> rfl
structure Wd where
  K : PySem.W.Frag
  mg : Str → Option Value
  E : XK
noncomputable abbrev Sd := List (Option D)
noncomputable def Fits (W : Wd) (as : List Addr) (H : Hp) (r : R D) (Q : VK) : Prop := match r with
  | .ok d => ∀ v H', Same H H' → Den W.K (mask as H') d v → Q v H'
  | .er x => ∀ e C H', Same H H' → W.mg x = some (.ref C) → W.E e (some C) H'
  | .no => False
noncomputable def FitsA (W : Wd) (as : List Addr) (H : Hp) (r : R (List D)) (Q : List V → Hp → Prop) : Prop := match r with
  | .ok d => ∀ v H', Same H H' → Dens W.K (mask as H') d v → Q v H'
  | .er x => ∀ e C H', Same H H' → W.mg x = some (.ref C) → W.E e (some C) H'
  | .no => False
noncomputable def FitsP {α : Type} (W : Wd) (H : Hp) (r : R α) (Q : α → Hp → Prop) : Prop := match r with
  | .ok b => ∀ H', Same H H' → Q b H'
  | .er x => ∀ e C H', Same H H' → W.mg x = some (.ref C) → W.E e (some C) H'
  | .no => False
noncomputable def OwnD (K : PySem.W.Frag) (H : Hp) (o : HO) : D → Prop
  | .lst ds => ∃ xs, o = .lst xs ∧ Dens K H ds xs
  | .dct ds => ∃ xs, o = .dK xs ∧ DenK K H ds xs
  | .dcT ds => ∃ xs, o = .dA xs ∧ DenT K H ds xs
  | .obj C ds => ∃ dx xs, o = .ins C dx xs ∧ DenF K H ds xs
  | _ => False
noncomputable def FitsN (W : Wd) (as : List Addr) (H : Hp) (r : R D) (Q : VK) : Prop := match r with
  | .ok d => ∀ p o H', Same H H' → H p = none → H' p = some o → OwnD W.K (mask (p :: as) H') o d → Q (.ref p) H'
  | .er x => ∀ e C H', Same H H' → W.mg x = some (.ref C) → W.E e (some C) H'
  | .no => False
theorem Fits.mono {W : Wd} {as : List Addr} {H H' : Hp} {r : R D} {Q : VK} (h : Fits W as H r Q) (s : Same H H') : Fits W as H' r Q := by
  cases r with
  | ok d => exact fun v H2 s2 => h v H2 (s.trans s2)
  | er x => exact fun e C H2 s2 => h e C H2 (s.trans s2)
  | no => exact h
theorem FitsN.mono {W : Wd} {as : List Addr} {H H' : Hp} {r : R D} {Q : VK} (h : FitsN W as H r Q) (s : Same H H') : FitsN W as H' r Q := by
  cases r with
  | ok d => exact fun p o H2 s2 hp => h p o H2 (s.trans s2) (s.free hp)
  | er x => exact fun e C H2 s2 => h e C H2 (s.trans s2)
  | no => exact h
theorem FitsA.mono {W : Wd} {as : List Addr} {H H' : Hp} {r : R (List D)} {Q : List V → Hp → Prop} (h : FitsA W as H r Q) (s : Same H H') : FitsA W as H' r Q := by
  cases r with
  | ok d => exact fun v H2 s2 => h v H2 (s.trans s2)
  | er x => exact fun e C H2 s2 => h e C H2 (s.trans s2)
  | no => exact h
theorem FitsP.mono {α : Type} {W : Wd} {H H' : Hp} {r : R α} {Q : α → Hp → Prop} (h : FitsP W H r Q) (s : Same H H') : FitsP W H' r Q := by
  cases r with
  | ok d => exact fun H2 s2 => h H2 (s.trans s2)
  | er x => exact fun e C H2 s2 => h e C H2 (s.trans s2)
  | no => exact h
theorem OwnD.den {K : PySem.W.Frag} {H : Hp} {p : Addr} {as : List Addr} {o : HO} {d : D} (hp : p ∉ as) (e : H p = some o) (h : OwnD K (mask (p :: as) H) o d) : Den K (mask as H) d (.ref p) := by
  have s : Same (mask (p :: as) H) (mask as H) := mask_sub fun a ha => List.mem_cons_of_mem _ ha
  have e' : mask as H p = some o := by rw [mask_out hp]; exact e
  cases d with
  | lst ds => obtain ⟨xs, rfl, h⟩ := h; exact ⟨p, xs, rfl, .inl (.inl e'), h.mono s⟩
  | dct ds => obtain ⟨xs, rfl, h⟩ := h; exact ⟨p, xs, rfl, e', h.mono s⟩
  | dcT ds => obtain ⟨xs, rfl, h⟩ := h; exact ⟨p, xs, rfl, e', h.mono s⟩
  | obj C ds => obtain ⟨dx, xs, rfl, h⟩ := h; exact ⟨p, dx, xs, rfl, e', h.mono s⟩
  | _ => exact h.elim
structure DI (K : PySem.W.Frag) (as0 : List Addr) (B : Hp) (O : List Nat) (own : List Addr) (σ : St) (δ : Sd) (H : Hp) : Prop where
  len : δ.length = σ.length
  olen : own.length = O.length
  nd : own.Nodup
  ond : O.Nodup
  fresh : ∀ a ∈ own, B a = none
  ex0 : ∀ a ∈ as0, B a ≠ none
  same : Same B H
  var : ∀ i d, i ∉ O → δ[i]? = some (some d) → ∃ v, σ[i]? = some (some v) ∧ Den K (mask (own ++ as0) H) d v
  owns : ∀ i a, (i, a) ∈ O.zip own → ∃ d o, δ[i]? = some (some d) ∧ σ[i]? = some (some (.ref a)) ∧ H a = some o ∧ OwnD K (mask (own ++ as0) H) o d
section
variable {K : PySem.W.Frag} {as0 own : List Addr} {B H H' : Hp} {O : List Nat} {σ : St} {δ : Sd}
theorem OwnD.mono {o : HO} {d : D} (s : Same H H') (h : OwnD K H o d) : OwnD K H' o d := by
  cases d with
  | lst ds => obtain ⟨xs, rfl, h⟩ := h; exact ⟨xs, rfl, h.mono s⟩
  | dct ds => obtain ⟨xs, rfl, h⟩ := h; exact ⟨xs, rfl, h.mono s⟩
  | dcT ds => obtain ⟨xs, rfl, h⟩ := h; exact ⟨xs, rfl, h.mono s⟩
  | obj C ds => obtain ⟨dx, xs, rfl, h⟩ := h; exact ⟨dx, xs, rfl, h.mono s⟩
  | _ => exact h.elim
theorem zip_right : ∀ {O : List Nat} {own : List Addr} {a : Addr}, own.length = O.length → a ∈ own → ∃ i, (i, a) ∈ O.zip own
  | [], [], _, _, h => by cases h
  | i :: O, b :: own, a, l, h => by
    rcases List.mem_cons.mp h with rfl | h
    · exact ⟨i, List.mem_cons_self⟩
    · obtain ⟨j, hj⟩ := zip_right (O := O) (own := own) (by simpa using l) h
      exact ⟨j, List.mem_cons_of_mem _ hj⟩
  | [], _ :: _, _, l, _ => by simp at l
  | _ :: _, [], _, _, h => by cases h
theorem DI.exi (I : DI K as0 B O own σ δ H) : ∀ a ∈ own ++ as0, H a ≠ none := fun a ha => by
  rcases List.mem_append.mp ha with h | h
  · obtain ⟨i, hi⟩ := zip_right I.olen h
    obtain ⟨d, o, _, _, e, _⟩ := I.owns i a hi
    rw [e]; simp
  · cases e : B a with
    | none => exact absurd e (I.ex0 a h)
    | some o => rw [I.same a o e]; simp
theorem DI.new (I : DI K as0 B O own σ δ H) {p : Addr} (h : H p = none) : p ∉ own ++ as0 := fun z => I.exi p z h
theorem DI.mono (I : DI K as0 B O own σ δ H) (s : Same H H') : DI K as0 B O own σ δ H' :=
  ⟨I.len, I.olen, I.nd, I.ond, I.fresh, I.ex0, I.same.trans s, fun i d hi e => let ⟨v, h1, h2⟩ := I.var i d hi e; ⟨v, h1, h2.mono (mask_mono s)⟩,
    fun i a hi => let ⟨d, o, h1, h2, h3, h4⟩ := I.owns i a hi; ⟨d, o, h1, h2, s a o h3, h4.mono (mask_mono s)⟩⟩
theorem DI.base {B' : Hp} (I : DI K as0 B' O own σ δ H) (s : Same B B') (h : ∀ a ∈ as0, B a ≠ none) : DI K as0 B O own σ δ H :=
  ⟨I.len, I.olen, I.nd, I.ond, fun a ha => s.free (I.fresh a ha), h, s.trans I.same, I.var, I.owns⟩
theorem DI.rebase (I : DI K as0 B O own σ δ H) (h0 : ∀ a ∈ own, a ∉ as0) : DI K as0 (mask own H) O own σ δ H :=
  ⟨I.len, I.olen, I.nd, I.ond, fun a ha => mask_in ha, fun a ha => (by
    rw [mask_out fun z => h0 a z ha]
    cases e : B a with
    | none => exact absurd e (I.ex0 a ha)
    | some o => rw [I.same a o e]; simp), mask_le _ _, I.var, I.owns⟩
theorem DI.apart (I : DI K as0 B O own σ δ H) : ∀ a ∈ own, a ∉ as0 := fun a ha z => I.ex0 a z (I.fresh a ha)
theorem DI.baseIn (I : DI K as0 B O own σ δ H) : Same B (mask own H) := into_mask I.same I.fresh
end
noncomputable abbrev FE := Sd → R D
noncomputable abbrev FT := Sd → R Bool
noncomputable abbrev FA := Sd → R (List D)
noncomputable def tD (W : Wd) (O : List Nat) (φ : FE) : TE := fun σ H Q => ∃ as0 B own δ, DI W.K as0 B O own σ δ H ∧ Fits W (own ++ as0) H (φ δ) Q
noncomputable def tN (W : Wd) (O : List Nat) (φ : FE) : TE := fun σ H Q => ∃ as0 B own δ, DI W.K as0 B O own σ δ H ∧ FitsN W (own ++ as0) H (φ δ) Q
noncomputable def tDT (W : Wd) (O : List Nat) (φ : FT) : TT := fun σ H Q => ∃ as0 B own δ, DI W.K as0 B O own σ δ H ∧ FitsP W H (φ δ) Q
noncomputable def tDA (W : Wd) (O : List Nat) (φ : FA) : TA := fun σ H Q => ∃ as0 B own δ, DI W.K as0 B O own σ δ H ∧ FitsA W (own ++ as0) H (φ δ) Q
noncomputable def tDO (W : Wd) (O : List Nat) (φ : Sd → R (Option Int)) : TO := fun σ H Q => ∃ as0 B own δ, DI W.K as0 B O own σ δ H ∧ FitsP W H (φ δ) Q
section
variable {W : Wd} {as : List Addr} {H : Hp} {Q : VK}
theorem fits_bind {r : R D} {f : D → R D} {Q' : VK} (h : Fits W as H (r.bind f) Q) (q : ∀ d v H', Same H H' → Den W.K (mask as H') d v → Fits W as H' (f d) Q → Q' v H') : Fits W as H r Q' := by
  cases r with
  | ok d => exact fun v H' s dv => q d v H' s dv (Fits.mono h s)
  | er x => exact h
  | no => exact h
theorem fits_bindN {r : R D} {f : D → R D} {Q' : VK} (h : FitsN W as H (r.bind f) Q) (q : ∀ d v H', Same H H' → Den W.K (mask as H') d v → FitsN W as H' (f d) Q → Q' v H') : Fits W as H r Q' := by
  cases r with
  | ok d => exact fun v H' s dv => q d v H' s dv (FitsN.mono h s)
  | er x => exact h
  | no => exact h
theorem fits_bindA {r : R (List D)} {f : List D → R D} {Q' : List V → Hp → Prop} (h : Fits W as H (r.bind f) Q) (q : ∀ d v H', Same H H' → Dens W.K (mask as H') d v → Fits W as H' (f d) Q → Q' v H') : FitsA W as H r Q' := by
  cases r with
  | ok d => exact fun v H' s dv => q d v H' s dv (Fits.mono h s)
  | er x => exact h
  | no => exact h
theorem fits_bindAN {r : R (List D)} {f : List D → R D} {Q' : List V → Hp → Prop} (h : FitsN W as H (r.bind f) Q) (q : ∀ d v H', Same H H' → Dens W.K (mask as H') d v → FitsN W as H' (f d) Q → Q' v H') : FitsA W as H r Q' := by
  cases r with
  | ok d => exact fun v H' s dv => q d v H' s dv (FitsN.mono h s)
  | er x => exact h
  | no => exact h
theorem fits_bindP {α : Type} {r : R α} {f : α → R D} {Q' : α → Hp → Prop} (h : Fits W as H (r.bind f) Q) (q : ∀ d H', Same H H' → Fits W as H' (f d) Q → Q' d H') : FitsP W H r Q' := by
  cases r with
  | ok d => exact fun H' s => q d H' s (Fits.mono h s)
  | er x => exact h
  | no => exact h
theorem fitsP_bind {α : Type} {r : R D} {f : D → R α} {Q : α → Hp → Prop} {Q' : VK} (h : FitsP W H (r.bind f) Q) (q : ∀ d v H', Same H H' → Den W.K (mask as H') d v → FitsP W H' (f d) Q → Q' v H') : Fits W as H r Q' := by
  cases r with
  | ok d => exact fun v H' s dv => q d v H' s dv (FitsP.mono h s)
  | er x => exact h
  | no => exact h
theorem fitsP_bindP {α β : Type} {r : R α} {f : α → R β} {Q : β → Hp → Prop} {Q' : α → Hp → Prop} (h : FitsP W H (r.bind f) Q) (q : ∀ d H', Same H H' → FitsP W H' (f d) Q → Q' d H') : FitsP W H r Q' := by
  cases r with
  | ok d => exact fun H' s => q d H' s (FitsP.mono h s)
  | er x => exact h
  | no => exact h
theorem fitsA_bind {r : R D} {f : D → R (List D)} {Q : List V → Hp → Prop} {Q' : VK} (h : FitsA W as H (r.bind f) Q) (q : ∀ d v H', Same H H' → Den W.K (mask as H') d v → FitsA W as H' (f d) Q → Q' v H') : Fits W as H r Q' := by
  cases r with
  | ok d => exact fun v H' s dv => q d v H' s dv (FitsA.mono h s)
  | er x => exact h
  | no => exact h
theorem fitsA_bindA {r : R (List D)} {f : List D → R (List D)} {Q Q' : List V → Hp → Prop} (h : FitsA W as H (r.bind f) Q) (q : ∀ d v H', Same H H' → Dens W.K (mask as H') d v → FitsA W as H' (f d) Q → Q' v H') : FitsA W as H r Q' := by
  cases r with
  | ok d => exact fun v H' s dv => q d v H' s dv (FitsA.mono h s)
  | er x => exact h
  | no => exact h
end
section
variable {X : Cx} {W : Wd} {O : List Nat} {a b c e : Expr} {φ ψ χ : FE} {pos : Pos} {rest es : List Expr} {α : FA}
noncomputable def vVar (i : Nat) : FE := fun δ => match δ[i]? with
  | some (some d) => .ok d
  | _ => .no
noncomputable def vC (d : D) : FE := fun _ => .ok d
theorem d_var (i : Nat) {x : Str} (hO : i ∉ O) (hN : X.N[i]? = some x := by rfl) (hv : Vis X.env.scope x := by first | exact Or.inl rfl | exact Or.inr (Or.inl rfl) | exact Or.inr (Or.inr rfl)) (hd : (x == ("__debug__" : Str)) = false := by decide)
    (hcd : (x == ("__classdict__" : Str)) = false := by decide) : JE X (.Name x pos) (tD W O (vVar i)) := (jv i hN hv hd hcd).imp fun σ H Q hh => exE hh fun as0 B own δ I h => by
  unfold vVar at h
  split at h
  · rename_i d e
    obtain ⟨v, h1, h2⟩ := I.var i d hO e
    show kVar σ[i]? H Q
    rw [h1]
    exact h v H (Same.refl H) h2
  · exact h.elim
theorem d_int {i j} : JE X (.Constant (.int i) j pos) (tD W O (vC (.int i))) := j_int.imp fun σ H Q hh => exE hh fun as0 B own δ I h => h _ H (Same.refl H) rfl
theorem d_bl {b j} : JE X (.Constant (.bool b) j pos) (tD W O (vC (.bl b))) := j_bl.imp fun σ H Q hh => exE hh fun as0 B own δ I h => h _ H (Same.refl H) rfl
theorem d_non {j} : JE X (.Constant .none j pos) (tD W O (vC .non)) := j_non.imp fun σ H Q hh => exE hh fun as0 B own δ I h => h _ H (Same.refl H) rfl
theorem d_str {x j} : JE X (.Constant (.str x) j pos) (tD W O (vC (.str x))) := j_str.imp fun σ H Q hh => exE hh fun as0 B own δ I h => h _ H (Same.refl H) rfl
theorem d_ty {x : Str} {n : String} (hm : X.mg x = none) (hv : bootBuiltins x = some (.type n)) (hg : Gl X x := by rfl) (hn : x ≠ "__name__" := by decide) (hd : (x == ("__debug__" : Str)) = false := by decide) : JE X (.Name x pos) (tD W O (vC (.ty n))) :=
  (j_ty hm hv hg hn hd).imp fun σ H Q hh => exE hh fun as0 B own δ I h => h _ H (Same.refl H) rfl
noncomputable def OpD (W : Wd) (r : R2) (op : D → D → R D) : Prop := ∀ (as : List Addr) (H : Hp) (x y : V) (a b : D) (Q : VK), (∀ p, H p = none → p ∉ as) → Den W.K (mask as H) a x → Den W.K (mask as H) b y → Fits W as H (op a b) Q → r x y H Q
noncomputable def vOp (op : D → D → R D) (φ ψ : FE) : FE := fun δ => (φ δ).bind fun x => (ψ δ).bind fun y => op x y
theorem d_op2 {t : TE → TE → TE} {r : R2} {op : D → D → R D} (ht : ∀ {ta tb : TE}, JE X a ta → JE X b tb → JE X e (t ta tb)) (et : t = tOp r) (ho : OpD W r op) (ha : JE X a (tD W O φ)) (hb : JE X b (tD W O ψ)) : JE X e (tD W O (vOp op φ ψ)) := by
  subst et
  refine (ht ha hb).imp fun σ H Q hh => exE hh fun as0 B own δ I h => ⟨as0, B, own, δ, I, fits_bind h fun x v H1 s1 d1 h1 => ⟨as0, B, own, δ, I.mono s1, fits_bind h1 fun y u H2 s2 d2 h2 => ?_⟩⟩
  exact ho (own ++ as0) H2 v u x y Q (fun p hp => ((I.mono s1).mono s2).new hp) (d1.mono (mask_mono s2)) d2 h2
theorem d_op {op : Operator} {r : R2} {g : D → D → R D} (ho : OpR X (binaryOp op) r) (hd : OpD W r g) (ha : JE X a (tD W O φ)) (hb : JE X b (tD W O ψ)) : JE X (.BinOp a op b pos) (tD W O (vOp g φ ψ)) :=
  d_op2 (t := tOp r) (fun h1 h2 => j_op ho h1 h2) rfl hd ha hb
theorem d_cmp {op : CmpOp} {r : R2} {g : D → D → R D} (ho : OpR X (compareOp op) r) (hd : OpD W r g) (ha : JE X a (tD W O φ)) (hb : JE X b (tD W O ψ)) (hm : behindInMarks op b = false) : JE X (.Compare a [op] [b] pos) (tD W O (vOp g φ ψ)) :=
  d_op2 (t := tOp r) (fun h1 h2 => j_cmp ho h1 h2 hm) rfl hd ha hb
theorem d_ix {r : R2} {g : D → D → R D} (hr : IxR X r) (hd : OpD W r g) (ha : JE X a (tD W O φ)) (hb : JE X b (tD W O ψ)) (hs : PlainIx b := by exact fun _ _ => rfl) : JE X (.Subscript a b pos) (tD W O (vOp g φ ψ)) :=
  d_op2 (t := tOp r) (fun h1 h2 => j_ix hr h1 h2 hs) rfl hd ha hb
noncomputable def blD {α : Type} (d : D) (f : Bool → R α) : R α := match d with
  | .bl b => f b
  | _ => .no
variable {τ υ : FT}
noncomputable def qBl (φ : FE) : FT := fun δ => (φ δ).bind fun x => blD x .ok
theorem dt_cmp {op : CmpOp} {r : R2} {g : D → D → R D} (ho : OpR X (compareOp op) r) (hd : OpD W r g) (ha : JE X a (tD W O φ)) (hb : JE X b (tD W O ψ)) (hm : behindInMarks op b = false) : JT X (.Compare a [op] [b] pos) (tDT W O (qBl (vOp g φ ψ))) := by
  refine (jt_cmp ho ha hb hm).imp fun σ H Q hh => exE hh fun as0 B own δ I h => ?_
  have h' : FitsP W H ((φ δ).bind fun x => ((ψ δ).bind fun y => g x y).bind fun x => blD x .ok) Q := by
    have e : qBl (vOp g φ ψ) δ = (φ δ).bind fun x => ((ψ δ).bind fun y => g x y).bind fun x => blD x .ok := by
      unfold qBl vOp; rw [bind_assoc]
    rw [e] at h
    exact h
  refine ⟨as0, B, own, δ, I, fitsP_bind h' fun x v H1 s1 d1 h1 => ?_⟩
  have h1' : FitsP W H1 ((ψ δ).bind fun y => (g x y).bind fun x => blD x .ok) Q := by rw [← bind_assoc]; exact h1
  refine ⟨as0, B, own, δ, I.mono s1, fitsP_bind h1' fun y u H2 s2 d2 h2 => ?_⟩
  refine hd (own ++ as0) H2 v u x y _ (fun p hp => ((I.mono s1).mono s2).new hp) (d1.mono (mask_mono s2)) d2 (fitsP_bind h2 fun z w H3 s3 d3 h3 => ?_)
  cases z with
  | bl k => cases d3; exact h3 H3 (Same.refl _)
  | _ => exact h3.elim
noncomputable def truD : D → R Bool
  | .non => .ok false
  | .bl b => .ok b
  | .int i => .ok (i != 0)
  | .str y => if y.length ≤ 1000000 then .ok (y.length != 0) else .no
  | .lst xs => .ok (!xs.isEmpty)
  | .tup xs => .ok (!xs.isEmpty)
  | .dct kvs => .ok (!kvs.isEmpty)
  | _ => .no
theorem Dens.empty {K : PySem.W.Frag} {H : Hp} {ds : List D} {xs : List V} (h : Dens K H ds xs) : xs.isEmpty = ds.isEmpty := by
  cases ds with
  | nil => cases h; rfl
  | cons d r => obtain ⟨v, vs, rfl, _⟩ := h; rfl
theorem DenK.empty {K : PySem.W.Frag} {H : Hp} {ds : List (Key × D)} {xs : List (Key × V)} (h : DenK K H ds xs) : xs.isEmpty = ds.isEmpty := by
  cases ds with
  | nil => cases h; rfl
  | cons d r => obtain ⟨k, d⟩ := d; obtain ⟨v, vs, rfl, _⟩ := h; rfl
theorem million : (1000000 : Nat) ≤ sizeLine := by rw [sizeLine_eq]; decide
noncomputable def qTru (φ : FE) : FT := fun δ => (φ δ).bind truD
theorem dt_truth (K : PySem.W.Frag) (ha : JE X a (tD W O φ)) (he : ∀ whole, isTrue a X.env whole = (do let v ← whole; standAt a.pos; holding [v] (truthy v)) := by exact fun _ => rfl) (hK : X.K = K := by rfl) (hW : W.K = K := by rfl) : JT X a (tDT W O (qTru φ)) :=
  (jt_truth K ha he hK).imp fun σ H Q hh => exE hh fun as0 B own δ I h => ⟨as0, B, own, δ, I, fitsP_bind h fun x v H1 s1 d1 h1 => by
    subst hW
    cases x with
    | non => cases d1; exact h1 H1 (Same.refl _)
    | bl b => cases d1; exact h1 H1 (Same.refl _)
    | int i => cases d1; exact h1 H1 (Same.refl _)
    | str y =>
      cases d1
      have h2 : FitsP W H1 (if y.length ≤ 1000000 then R.ok (y.length != 0) else R.no) Q := h1
      split at h2
      · rename_i hl
        refine ⟨Nat.le_trans hl million, ?_⟩
        have e : ((y.length : Int) != 0) = (y.length != 0) := by
          cases hy : y.length with
          | zero => rfl
          | succ n => simp; omega
        rw [e]
        exact h2 H1 (Same.refl _)
      · exact h2.elim
    | lst ds =>
      obtain ⟨p, xs, rfl, q1, q2⟩ := d1
      refine .inl (.inl ⟨xs, (mask_le _ _).seq q1, ?_⟩)
      rw [q2.empty]
      exact h1 H1 (Same.refl _)
    | tup ds =>
      obtain ⟨p, xs, rfl, q1, q2⟩ := d1
      refine .inl (.inr ⟨xs, (mask_le _ _).seqT q1, ?_⟩)
      rw [q2.empty]
      exact h1 H1 (Same.refl _)
    | dct ds =>
      obtain ⟨p, xs, rfl, q1, q2⟩ := d1
      refine .inr ⟨xs, mask_le _ _ _ _ q1, ?_⟩
      rw [q2.empty]
      exact h1 H1 (Same.refl _)
    | _ => exact h1.elim⟩
noncomputable def qOr (τ υ : FT) : FT := fun δ => (τ δ).bind fun b => if b = true then .ok true else υ δ
noncomputable def qNot (τ : FT) : FT := fun δ => (τ δ).bind fun b => .ok (!b)
theorem dt_bool (h : JW X a (tDT W O τ)) : JT X a (tDT W O τ) := jt_bool h
theorem dw_or1 (ha : JT X a (tDT W O τ)) : JW X (.BoolOp .Or [a] pos) (tDT W O τ) := jw_or1 ha
theorem dw_or (ha : JT X a (tDT W O τ)) (hb : JW X (.BoolOp .Or (b :: rest) pos) (tDT W O υ)) : JW X (.BoolOp .Or (a :: b :: rest) pos) (tDT W O (qOr τ υ)) :=
  (jw_or ha hb).imp fun σ H Q hh => exE hh fun as0 B own δ I h => ⟨as0, B, own, δ, I, fitsP_bindP h fun c H1 s1 h1 => by
    cases c with
    | false => exact ⟨as0, B, own, δ, I.mono s1, h1⟩
    | true => exact h1 H1 (Same.refl _)⟩
theorem dt_not (ha : JT X a (tDT W O τ)) : JT X (.UnaryOp .Not a pos) (tDT W O (qNot τ)) :=
  (jt_not ha).imp fun σ H Q hh => exE hh fun as0 B own δ I h => ⟨as0, B, own, δ, I, fitsP_bindP h fun c H1 s1 h1 => h1 H1 (Same.refl _)⟩
noncomputable def aNil : FA := fun _ => .ok []
noncomputable def aCons (φ : FE) (α : FA) : FA := fun δ => (φ δ).bind fun d => (α δ).bind fun ds => .ok (d :: ds)
theorem da_nil : JA X [] (tDA W O aNil) := ja_nil.imp fun σ H Q hh => exE hh fun as0 B own δ I h => h [] H (Same.refl _) rfl
theorem da_cons (ha : JE X e (tD W O φ)) (hr : JA X es (tDA W O α)) (hn : noStar e = true := by rfl) : JA X (e :: es) (tDA W O (aCons φ α)) :=
  (ja_cons ha hr hn).imp fun σ H Q hh => exE hh fun as0 B own δ I h => ⟨as0, B, own, δ, I, fitsA_bind h fun d v H1 s1 d1 h1 => ⟨as0, B, own, δ, I.mono s1, fitsA_bindA h1 fun ds vs H2 s2 d2 h2 =>
    h2 (v :: vs) H2 (Same.refl _) ⟨v, vs, rfl, d1.mono (mask_mono s2), d2⟩⟩⟩
noncomputable def mkLst (ds : List D) : R D := if ds.length ≤ 1000000 then .ok (.lst ds) else .no
noncomputable def mkTup (ds : List D) : R D := if ds.length ≤ 1000000 then .ok (.tup ds) else .no
noncomputable def vLst (α : FA) : FE := fun δ => (α δ).bind mkLst
noncomputable def vTup (α : FA) : FE := fun δ => (α δ).bind mkTup
theorem fitsN_lst {as : List Addr} {H : Hp} {ds : List D} {xs : List V} {Q : VK} (h : FitsN W as H (mkLst ds) Q) (hd : Dens W.K (mask as H) ds xs) : xs.length ≤ sizeLine ∧ ∀ p, H p = none → Q (.ref p) (upd H p (.lst xs)) := by
  unfold mkLst at h
  split at h
  · rename_i hl
    refine ⟨by rw [← hd.len]; exact Nat.le_trans hl million, fun p hp => ?_⟩
    refine h p (.lst xs) (upd H p (.lst xs)) (same_new hp _) hp upd_same ⟨xs, rfl, hd.mono ?_⟩
    intro b o e
    have hb : b ≠ p := fun z => by
      subst z
      have := mask_le _ _ _ _ e
      rw [hp] at this; cases this
    by_cases hm : b ∈ as
    · rw [mask_in hm] at e; cases e
    · rw [mask_out hm] at e
      rw [mask_out (by simp [hb, hm]), upd_ne hb]
      exact e
  · exact h.elim
theorem n_lst (h : JA X es (tDA W O α)) : JE X (.List es pos) (tN W O (vLst α)) :=
  (j_lst h).imp fun σ H Q hh => exE hh fun as0 B own δ I h => ⟨as0, B, own, δ, I, fits_bindAN h fun ds xs H1 s1 d1 h1 => fitsN_lst h1 d1⟩
theorem d_new (h : JE X e (tN W O φ)) : JE X e (tD W O φ) := h.imp fun σ H Q hh => exE hh fun as0 B own δ I q => by
  refine ⟨as0, B, own, δ, I, ?_⟩
  cases hr : φ δ with
  | ok d =>
    rw [hr] at q
    exact fun p o H' s hp e od => q (.ref p) H' s (od.den (I.new hp) e)
  | er x => rw [hr] at q; exact q
  | no => rw [hr] at q; exact q
theorem d_tup {x1} (h : JA X es (tDA W O α)) : JE X (.Tuple es x1 pos) (tD W O (vTup α)) :=
  (j_tup h).imp fun σ H Q hh => exE hh fun as0 B own δ I h => ⟨as0, B, own, δ, I, fits_bindA h fun ds xs H1 s1 d1 h1 => by
    unfold mkTup at h1
    split at h1
    · rename_i hl
      refine ⟨by rw [← d1.len]; exact Nat.le_trans hl million, fun p hp => ?_⟩
      have hn := (I.mono s1).new hp
      refine h1 (.ref p) (upd H1 p (.tup xs)) (same_new hp _) ⟨p, xs, rfl, ?_, d1.mono (mask_mono (same_new hp _))⟩
      show mask _ _ p = _
      rw [mask_out hn]; exact upd_same
    · exact h1.elim⟩
noncomputable def CallD (W : Wd) (r : List V → Hp → VK → Prop) (g : List D → R D) : Prop := ∀ (as : List Addr) (H : Hp) (xs : List V) (ds : List D) (Q : VK), (∀ a ∈ as, H a ≠ none) → Dens W.K (mask as H) ds xs → Fits W as H (g ds) Q → r xs H Q
noncomputable def CallN (W : Wd) (r : List V → Hp → VK → Prop) (g : List D → R D) : Prop := ∀ (as : List Addr) (H : Hp) (xs : List V) (ds : List D) (Q : VK), (∀ a ∈ as, H a ≠ none) → Dens W.K (mask as H) ds xs → FitsN W as H (g ds) Q → r xs H Q
noncomputable def vCall (g : List D → R D) (α : FA) : FE := fun δ => (α δ).bind g
section
variable {x : Str} {p : Pos} {id T : String} {r : List V → Hp → VK → Prop} {g : List D → R D}
theorem d_callB (hc : CallR X (.builtin id) r) (hd : CallD W r g) (hm : X.mg x = none) (hv : bootBuiltins x = some (.builtin id)) (ha : JA X (e :: es) (tDA W O α)) (hg : Gl X x := by rfl) (h1 : noStar e = true := by rfl) (h2 : es.all noStar = true := by rfl) (hn : x ≠ "__name__" := by decide) (hdb : (x == ("__debug__" : Str)) = false := by decide) :
    JE X (.Call (.Name x p) (e :: es) [] pos) (tD W O (vCall g α)) :=
  (j_callB hc hm hv ha hg h1 h2 hn hdb).imp fun σ H Q hh => exE hh fun as0 B own δ I h => ⟨as0, B, own, δ, I, fits_bindA h fun ds xs H1 s1 d1 h1 => hd (own ++ as0) H1 xs ds Q (I.mono s1).exi d1 h1⟩
theorem n_callT (hc : CallR X (.type T) r) (hd : CallN W r g) (hm : X.mg x = none) (hv : bootBuiltins x = some (.type T)) (ha : JA X (e :: es) (tDA W O α)) (hg : Gl X x := by rfl) (h1 : noStar e = true := by rfl) (h2 : es.all noStar = true := by rfl) (hn : x ≠ "__name__" := by decide) (hdb : (x == ("__debug__" : Str)) = false := by decide) :
    JE X (.Call (.Name x p) (e :: es) [] pos) (tN W O (vCall g α)) :=
  (j_callT hc hm hv ha hg h1 h2 hn hdb).imp fun σ H Q hh => exE hh fun as0 B own δ I h => ⟨as0, B, own, δ, I, fits_bindAN h fun ds xs H1 s1 d1 h1 => hd (own ++ as0) H1 xs ds Q (I.mono s1).exi d1 h1⟩
end
noncomputable def oNone : Sd → R (Option Int) := fun _ => .ok none
noncomputable def oSome (φ : FE) : Sd → R (Option Int) := fun δ => (φ δ).bind fun d => match d with
  | .int i => .ok (some i)
  | _ => .no
theorem do_none : JO X none (tDO W O oNone) := jo_none.imp fun σ H Q hh => exE hh fun as0 B own δ I h => h H (Same.refl _)
theorem do_some (h : JE X e (tD W O φ)) : JO X (some e) (tDO W O (oSome φ)) := (jo_some h).imp fun σ H Q hh => exE hh fun as0 B own δ I h => ⟨as0, B, own, δ, I, fitsP_bind h fun d v H1 s1 d1 h1 => by
    cases d with
    | int i => cases d1; exact h1 H1 (Same.refl _)
    | _ => exact h1.elim⟩
noncomputable def SlD (W : Wd) (r : V → Option Int → Option Int → Hp → VK → Prop) (g : D → Option Int → Option Int → R D) : Prop :=
  ∀ (as : List Addr) (H : Hp) (x : V) (lo hi : Option Int) (a : D) (Q : VK), (∀ p, H p = none → p ∉ as) → Den W.K (mask as H) a x → Fits W as H (g a lo hi) Q → r x lo hi H Q
noncomputable def vSl (g : D → Option Int → Option Int → R D) (φ : FE) (l u : Sd → R (Option Int)) : FE := fun δ => (φ δ).bind fun x => (l δ).bind fun lo => (u δ).bind fun hi => g x lo hi
theorem d_slice {r : V → Option Int → Option Int → Hp → VK → Prop} {g : D → Option Int → Option Int → R D} {lo hi : Option Expr} {l u : Sd → R (Option Int)} {p2 : Pos} (hr : SlR X r) (hd : SlD W r g) (he : JE X e (tD W O φ)) (hl : JO X lo (tDO W O l)) (hu : JO X hi (tDO W O u)) :
    JE X (.Subscript e (.Slice lo hi none p2) pos) (tD W O (vSl g φ l u)) :=
  (j_slice hr he hl hu).imp fun σ H Q hh => exE hh fun as0 B own δ I h => ⟨as0, B, own, δ, I, fits_bind h fun x v H1 s1 d1 h1 => ⟨as0, B, own, δ, I.mono s1, fits_bindP h1 fun lo H2 s2 h2 => ⟨as0, B, own, δ, (I.mono s1).mono s2, fits_bindP h2 fun hi H3 s3 h3 =>
    hd (own ++ as0) H3 v lo hi x Q (fun p hp => (((I.mono s1).mono s2).mono s3).new hp) (d1.mono (mask_mono (s2.trans s3))) h3⟩⟩⟩
noncomputable def SmD (W : Wd) (r : Str → List V → Hp → VK → Prop) (g : Str → List D → R D) : Prop :=
  ∀ (as : List Addr) (H : Hp) (z : Str) (xs : List V) (ds : List D) (Q : VK), (∀ p, H p = none → p ∉ as) → Dens W.K (mask as H) ds xs → Fits W as H (g z ds) Q → r z xs H Q
noncomputable def vSM (g : Str → List D → R D) (φ : FE) (α : FA) : FE := fun δ => (φ δ).bind fun x => match x with
  | .str z => (α δ).bind fun ds => g z ds
  | _ => .no
theorem d_sm {o : Expr} {name : Str} {apos cpos : Pos} {id : String} {r : Str → List V → Hp → VK → Prop} {g : Str → List D → R D} (slot : Slot "str" name id) (hty : typeOf (.builtin id) = pure (.type "method_descriptor")) (hm : SmR X id r) (hd : SmD W r g) (ho : JE X o (tD W O φ)) (ha : JA X (e :: es) (tDA W O α))
    (hbase : attributeBase o name X.env (eval o X.env) = eval o X.env := by rfl) (hline : (apos.endLine == cpos.line) = true := by rfl) (h1 : (e :: es).all noStar = true := by rfl) (hl : (e :: es).length < 29 := by decide) :
    JE X (.Call (.Attribute o name apos) (e :: es) [] cpos) (tD W O (vSM g φ α)) :=
  (j_sm slot hty hm ho ha hbase hline h1 hl).imp fun σ H Q hh => exE hh fun as0 B own δ I h => ⟨as0, B, own, δ, I, fits_bind h fun x v H1 s1 d1 h1 => by
    cases x with
    | str z =>
      cases d1
      exact ⟨as0, B, own, δ, I.mono s1, fits_bindA h1 fun ds xs H2 s2 d2 h2 => hd (own ++ as0) H2 z xs ds Q (fun p hp => ((I.mono s1).mono s2).new hp) d2 h2⟩
    | _ => exact h1.elim⟩
end
end L2
namespace L2
open PySem PySem.Spec PyProof.Rows
set_option maxHeartbeats 4000000
set_option linter.unusedVariables false
inductive Fl where
  | nx (δ : Sd) | rt (d : D) | bk (δ : Sd) | ct (δ : Sd)
  /-- a return of what is laid anew, and nobody else's -/
  | rn (d : D)
noncomputable abbrev FS := Sd → R Fl
noncomputable def FitsS (W : Wd) (as0 : List Addr) (B : Hp) (Ob O' : List Nat) (r : R Fl) (D : Ends) : Prop := match r with
  | .ok (.nx δ) => ∀ own σ H, DI W.K as0 B O' own σ δ H → D.nx σ H
  | .ok (.bk δ) => ∀ own σ H, DI W.K as0 B Ob own σ δ H → D.bk σ H
  | .ok (.ct δ) => ∀ own σ H, DI W.K as0 B Ob own σ δ H → D.ct σ H
  | .ok (.rt d) => ∀ v H, Same B H → Den W.K (mask as0 H) d v → D.rt v H
  | .ok (.rn d) => ∀ p o H, Same B H → B p = none → H p = some o → OwnD W.K (mask (p :: as0) H) o d → D.rt (.ref p) H
  | .er x => ∀ e C H, Same B H → W.mg x = some (.ref C) → W.E e (some C) H
  | .no => False
noncomputable def sD (W : Wd) (Ob O O' : List Nat) (φ : FS) : TS := fun D σ H => ∃ as0 B own δ, DI W.K as0 B O own σ δ H ∧ FitsS W as0 B Ob O' (φ δ) D
section
variable {W : Wd} {as0 own : List Addr} {B H : Hp} {Ob O O' : List Nat} {σ : St} {δ : Sd} {D' : Ends}
theorem fitsS_bind {r : R D} {f : D → R Fl} {Q : VK} (I : DI W.K as0 B O own σ δ H) (h : FitsS W as0 B Ob O' (r.bind f) D') (q : ∀ d v H', Same H H' → Den W.K (mask (own ++ as0) H') d v → FitsS W as0 B Ob O' (f d) D' → Q v H') : Fits W (own ++ as0) H r Q := by
  cases r with
  | ok d => exact fun v H' s dv => q d v H' s dv h
  | er x => exact fun e C H' s => h e C H' (I.same.trans s)
  | no => exact h
theorem fitsS_bindN {r : R D} {f : D → R Fl} {Q : VK} (I : DI W.K as0 B O own σ δ H) (h : FitsS W as0 B Ob O' (r.bind f) D') (q : ∀ d p o H', Same H H' → H p = none → H' p = some o → OwnD W.K (mask (p :: (own ++ as0)) H') o d → FitsS W as0 B Ob O' (f d) D' → Q (.ref p) H') : FitsN W (own ++ as0) H r Q := by
  cases r with
  | ok d => exact fun p o H' s h1 h2 h3 => q d p o H' s h1 h2 h3 h
  | er x => exact fun e C H' s => h e C H' (I.same.trans s)
  | no => exact h
theorem fitsS_bindP {α : Type} {r : R α} {f : α → R Fl} {Q : α → Hp → Prop} (I : DI W.K as0 B O own σ δ H) (h : FitsS W as0 B Ob O' (r.bind f) D') (q : ∀ d H', Same H H' → FitsS W as0 B Ob O' (f d) D' → Q d H') : FitsP W H r Q := by
  cases r with
  | ok d => exact fun H' s => q d H' s h
  | er x => exact fun e C H' s => h e C H' (I.same.trans s)
  | no => exact h
theorem FitsS.base {B' : Hp} {r : R Fl} (h : FitsS W as0 B Ob O' r D') (s : Same B B') (h0 : ∀ a ∈ as0, B a ≠ none) : FitsS W as0 B' Ob O' r D' := by
  cases r with
  | ok f =>
    cases f with
    | nx δ => exact fun own σ H I => h own σ H (I.base s h0)
    | bk δ => exact fun own σ H I => h own σ H (I.base s h0)
    | ct δ => exact fun own σ H I => h own σ H (I.base s h0)
    | rt d => exact fun v H s' => h v H (s.trans s')
    | rn d => exact fun p o H s' hp => h p o H (s.trans s') (s.free hp)
  | er x => exact fun e C H s' => h e C H (s.trans s')
  | no => exact h
theorem getElem?_set' {α : Type} {l : List α} {i j : Nat} {x : α} : (l.set i x)[j]? = if i = j then (if i < l.length then some x else none) else l[j]? := List.getElem?_set
theorem DI.set {i : Nat} {d : D} {v : V} (I : DI W.K as0 B O own σ δ H) (hO : i ∉ O) (h : Den W.K (mask (own ++ as0) H) d v) : DI W.K as0 B O own (σ.set i (some v)) (δ.set i (some d)) H := by
  refine ⟨by simp [I.len], I.olen, I.nd, I.ond, I.fresh, I.ex0, I.same, fun j e hj q => ?_, fun j a hj => ?_⟩
  · rw [getElem?_set'] at q ⊢
    split at q
    · rename_i hij
      rw [if_pos hij]
      split at q
      · rename_i hl
        rw [if_pos (by rw [← I.len]; exact hl)]
        cases q
        exact ⟨v, rfl, h⟩
      · cases q
    · rename_i hij
      rw [if_neg hij]
      exact I.var j e hj q
  · have hji : i ≠ j := fun z => hO (by rw [z]; exact (List.of_mem_zip hj).1)
    obtain ⟨d', o, h1, h2, h3, h4⟩ := I.owns j a hj
    exact ⟨d', o, by rw [getElem?_set', if_neg hji]; exact h1, by rw [getElem?_set', if_neg hji]; exact h2, h3, h4⟩
theorem zip_inj : ∀ {O : List Nat} {own : List Addr} {i j : Nat} {a : Addr}, own.Nodup → (i, a) ∈ O.zip own → (j, a) ∈ O.zip own → i = j
  | [], _, _, _, _, _, h, _ => by simp at h
  | _ :: _, [], _, _, _, _, h, _ => by simp at h
  | k :: O, b :: own, i, j, a, nd, h1, h2 => by
    rw [List.zip_cons_cons] at h1 h2
    rw [List.nodup_cons] at nd
    rcases List.mem_cons.mp h1 with e1 | h1 <;> rcases List.mem_cons.mp h2 with e2 | h2
    · cases e1; cases e2; rfl
    · cases e1; exact absurd (List.of_mem_zip h2).2 nd.1
    · cases e2; exact absurd (List.of_mem_zip h1).2 nd.1
    · exact zip_inj nd.2 h1 h2
theorem zip_left : ∀ {O : List Nat} {own : List Addr} {i : Nat}, own.length = O.length → i ∈ O → ∃ a, (i, a) ∈ O.zip own
  | [], _, _, _, h => by cases h
  | k :: O, [], _, l, _ => by simp at l
  | k :: O, b :: own, i, l, h => by
    rcases List.mem_cons.mp h with rfl | h
    · exact ⟨b, List.mem_cons_self⟩
    · obtain ⟨a, ha⟩ := zip_left (O := O) (own := own) (by simpa using l) h
      exact ⟨a, List.mem_cons_of_mem _ ha⟩
noncomputable def keepOwn (p : Nat → Bool) : List Nat → List Addr → List Addr
  | i :: O, a :: own => if p i = true then a :: keepOwn p O own else keepOwn p O own
  | _, _ => []
theorem keepOwn_sub {p : Nat → Bool} : ∀ {O : List Nat} {own : List Addr}, (keepOwn p O own).Sublist own
  | [], own => by simp [keepOwn]
  | _ :: _, [] => by simp [keepOwn]
  | i :: O, a :: own => by
    unfold keepOwn
    split
    · exact (keepOwn_sub (O := O)).cons_cons a
    · exact (keepOwn_sub (O := O)).cons a
theorem keepOwn_len {p : Nat → Bool} : ∀ {O : List Nat} {own : List Addr}, own.length = O.length → (keepOwn p O own).length = (O.filter p).length
  | [], [], _ => rfl
  | i :: O, a :: own, l => by
    have ih := keepOwn_len (p := p) (O := O) (own := own) (by simpa using l)
    unfold keepOwn
    rw [List.filter_cons]
    split
    · simp [ih]
    · exact ih
  | [], _ :: _, l => by simp at l
  | _ :: _, [], l => by simp at l
theorem keepOwn_zip {p : Nat → Bool} : ∀ {O : List Nat} {own : List Addr} {i : Nat} {a : Addr}, (i, a) ∈ (O.filter p).zip (keepOwn p O own) → (i, a) ∈ O.zip own ∧ p i = true
  | [], _, _, _, h => by simp at h
  | _ :: _, [], _, _, h => by simp [keepOwn] at h
  | k :: O, b :: own, i, a, h => by
    unfold keepOwn at h
    rw [List.filter_cons] at h
    by_cases hp : p k = true
    · rw [if_pos hp, if_pos hp, List.zip_cons_cons] at h
      rcases List.mem_cons.mp h with e | h
      · cases e; exact ⟨List.mem_cons_self, hp⟩
      · exact ⟨List.mem_cons_of_mem _ (keepOwn_zip h).1, (keepOwn_zip h).2⟩
    · rw [if_neg hp, if_neg hp] at h
      exact ⟨List.mem_cons_of_mem _ (keepOwn_zip h).1, (keepOwn_zip h).2⟩
theorem keepOwn_mem {p : Nat → Bool} : ∀ {O : List Nat} {own : List Addr} {a : Addr}, a ∈ keepOwn p O own → ∃ i, (i, a) ∈ O.zip own ∧ p i = true
  | [], _, _, h => by simp [keepOwn] at h
  | _ :: _, [], _, h => by simp [keepOwn] at h
  | k :: O, b :: own, a, h => by
    unfold keepOwn at h
    split at h
    · rename_i hp
      rcases List.mem_cons.mp h with e | h
      · subst e; exact ⟨k, List.mem_cons_self, hp⟩
      · obtain ⟨i, h1, h2⟩ := keepOwn_mem h; exact ⟨i, List.mem_cons_of_mem _ h1, h2⟩
    · obtain ⟨i, h1, h2⟩ := keepOwn_mem h; exact ⟨i, List.mem_cons_of_mem _ h1, h2⟩
theorem DI.freeze {O2 : List Nat} (I : DI W.K as0 B O own σ δ H) (hO : O.filter (fun i => decide (i ∈ O2)) = O2) : ∃ own2, DI W.K as0 B O2 own2 σ δ H := by
  generalize hp : (fun i => decide (i ∈ O2)) = p at hO
  have pi : ∀ i, p i = decide (i ∈ O2) := fun i => by rw [← hp]
  have sub : (keepOwn p O own).Sublist own := keepOwn_sub
  have mem : ∀ a ∈ keepOwn p O own, a ∈ own := fun a ha => sub.mem ha
  have s : Same (mask (own ++ as0) H) (mask (keepOwn p O own ++ as0) H) := mask_sub fun a ha => by
    rcases List.mem_append.mp ha with h | h
    · exact List.mem_append_left _ (mem a h)
    · exact List.mem_append_right _ h
  refine ⟨keepOwn p O own, I.len, by rw [keepOwn_len I.olen, hO], I.nd.sublist sub, by rw [← hO]; exact I.ond.sublist List.filter_sublist, fun a ha => I.fresh a (mem a ha), I.ex0, I.same, fun i d hi q => ?_, fun i a hi => ?_⟩
  · by_cases h : i ∈ O
    · obtain ⟨a, ha⟩ := zip_left I.olen h
      obtain ⟨d', o, h1, h2, h3, h4⟩ := I.owns i a ha
      rw [q] at h1
      cases h1
      refine ⟨.ref a, h2, OwnD.den ?_ h3 (h4.mono (mask_sub fun b hb => ?_))⟩
      · intro z
        rcases List.mem_append.mp z with z | z
        · obtain ⟨j, h5, h6⟩ := keepOwn_mem z
          have := zip_inj I.nd ha h5
          subst this
          rw [pi] at h6
          exact hi (of_decide_eq_true h6)
        · exact I.apart a (List.of_mem_zip ha).2 z
      · rcases List.mem_cons.mp hb with rfl | hb
        · exact List.mem_append_left _ (List.of_mem_zip ha).2
        · rcases List.mem_append.mp hb with h | h
          · exact List.mem_append_left _ (mem b h)
          · exact List.mem_append_right _ h
    · obtain ⟨v, h1, h2⟩ := I.var i d h q
      exact ⟨v, h1, h2.mono s⟩
  · rw [← hO] at hi
    obtain ⟨d, o, h1, h2, h3, h4⟩ := I.owns i a (keepOwn_zip hi).1
    exact ⟨d, o, h1, h2, h3, h4.mono s⟩
theorem DI.own1 {i : Nat} {d : D} {p : Addr} {o : HO} (I : DI W.K as0 B O own σ δ H) (hO : i ∉ O) (hp : B p = none) (hn : p ∉ own ++ as0) (e : H p = some o) (h : OwnD W.K (mask (p :: (own ++ as0)) H) o d) (hi : i < δ.length)
    (fr : ∀ j d', j ∉ O → δ[j]? = some (some d') → ∃ v, σ[j]? = some (some v) ∧ Den W.K (mask (p :: (own ++ as0)) H) d' v)
    (fo : ∀ j a, (j, a) ∈ O.zip own → ∃ d o, δ[j]? = some (some d) ∧ σ[j]? = some (some (.ref a)) ∧ H a = some o ∧ OwnD W.K (mask (p :: (own ++ as0)) H) o d) :
    DI W.K as0 B (i :: O) (p :: own) (σ.set i (some (.ref p))) (δ.set i (some d)) H := by
  refine ⟨by simp [I.len], by simp [I.olen], List.nodup_cons.mpr ⟨fun z => hn (List.mem_append_left _ z), I.nd⟩, List.nodup_cons.mpr ⟨hO, I.ond⟩, fun a ha => ?_, I.ex0, I.same, fun j e hj q => ?_, fun j a hj => ?_⟩
  · rcases List.mem_cons.mp ha with rfl | ha
    · exact hp
    · exact I.fresh a ha
  · have hji : i ≠ j := fun z => hj (by rw [z]; exact List.mem_cons_self)
    rw [getElem?_set', if_neg hji] at q ⊢
    exact fr j e (fun z => hj (List.mem_cons_of_mem _ z)) q
  · rw [List.zip_cons_cons] at hj
    rcases List.mem_cons.mp hj with z | hj
    · cases z
      refine ⟨d, o, ?_, ?_, e, h⟩
      · rw [getElem?_set', if_pos rfl, if_pos hi]
      · rw [getElem?_set', if_pos rfl, if_pos (by rw [← I.len]; exact hi)]
    · have hji : i ≠ j := fun z => hO (by rw [z]; exact (List.of_mem_zip hj).1)
      obtain ⟨d', o', h1, h2, h3, h4⟩ := fo j a hj
      exact ⟨d', o', by rw [getElem?_set', if_neg hji]; exact h1, by rw [getElem?_set', if_neg hji]; exact h2, h3, h4⟩
end
section
variable {X : Cx} {W : Wd} {Ob O O' O1 O2 : List Nat} {e c : Expr} {φ ψ : FS} {ε : FE} {τ : FT} {pos : Pos} {st : Stmt} {sts rest : List Stmt}
noncomputable def sNext : FS := fun δ => .ok (.nx δ)
noncomputable def sSeq (φ ψ : FS) : FS := fun δ => (φ δ).bind fun f => match f with
  | .nx δ' => ψ δ'
  | f => .ok f
theorem db_nil : JB X [] (sD W Ob O O sNext) := jb_nil.imp fun D σ H hh => exE hh fun as0 B own δ I h => h own σ H I
theorem db_cons (h1 : JS X st (sD W Ob O O1 φ)) (h2 : JB X rest (sD W Ob O1 O2 ψ)) : JB X (st :: rest) (sD W Ob O O2 (sSeq φ ψ)) := (jb_cons h1 h2).imp fun D σ H hh => exE hh fun as0 B own δ I h => by
  refine ⟨as0, B, own, δ, I, ?_⟩
  unfold sSeq at h
  cases hr : φ δ with
  | ok f =>
    rw [hr] at h
    cases f with
    | nx δ' => exact fun own' σ' H' I' => ⟨as0, B, own', δ', I', h⟩
    | rt d => exact h
    | rn d => exact h
    | bk d => exact h
    | ct d => exact h
  | er x => rw [hr] at h; exact h
  | no => rw [hr] at h; exact h
theorem db_one (h1 : JS X st (sD W Ob O O1 φ)) : JB X [st] (sD W Ob O O1 φ) := jb_one h1
theorem db_frz (h : JB X sts (sD W Ob O2 O' φ)) (hO : O.filter (fun i => decide (i ∈ O2)) = O2 := by decide) : JB X sts (sD W Ob O O' φ) := h.imp fun D σ H hh => exE hh fun as0 B own δ I h =>
  let ⟨own2, I2⟩ := I.freeze hO; ⟨as0, B, own2, δ, I2, h⟩
noncomputable def sRet (ε : FE) : FS := fun δ => (ε δ).bind fun d => .ok (.rt d)
theorem ds_ret (h : JE X e (tD W O ε)) : JS X (.Return (some e) pos) (sD W Ob O O' (sRet ε)) := (js_ret h).imp fun D σ H hh => exE hh fun as0 B own δ I h =>
  ⟨as0, B, own, δ, I, fitsS_bind I h fun d v H' s dv h' => h' v H' (I.same.trans s) (dv.mono (mask_sub fun a ha => List.mem_append_right _ ha))⟩
noncomputable def sRetW (ε : FE) : FS := fun δ => (ε δ).bind fun d => .ok (.rn d)
theorem ds_retW (h : JE X e (tN W O ε)) : JS X (.Return (some e) pos) (sD W Ob O O' (sRetW ε)) := (js_ret h).imp fun D σ H hh => exE hh fun as0 B own δ I h =>
  ⟨as0, B, own, δ, I, fitsS_bindN I h fun d p o H' s hp e od h' => h' p o H' (I.same.trans s) (I.same.free hp) e (od.mono (mask_sub fun a ha => by
    rcases List.mem_cons.mp ha with rfl | ha
    · exact List.mem_cons_self
    · exact List.mem_cons_of_mem _ (List.mem_append_right _ ha)))⟩
noncomputable def sIf (τ : FT) (φ ψ : FS) : FS := fun δ => (τ δ).bind fun b => if b = true then φ δ else ψ δ
theorem ds_if {a b : List Stmt} (hc : JT X c (tDT W O τ)) (ha : JB X a (sD W Ob O O' φ)) (hb : JB X b (sD W Ob O O' ψ)) : JS X (.If c a b pos) (sD W Ob O O' (sIf τ φ ψ)) := (js_if hc ha hb).imp fun D σ H hh => exE hh fun as0 B own δ I h =>
  ⟨as0, B, own, δ, I, fitsS_bindP I h fun b H' s h' => by
    cases b with
    | true => exact ⟨as0, B, own, δ, I.mono s, h'⟩
    | false => exact ⟨as0, B, own, δ, I.mono s, h'⟩⟩
noncomputable def sSet (i : Nat) (ε : FE) : FS := fun δ => (ε δ).bind fun d => .ok (.nx (δ.set i (some d)))
theorem ds_set {i : Nat} {x : Str} {pos' : Pos} (hO : i ∉ O) (hN : X.N.Nodup) (hx : Loc X.env.scope x) (he : JE X e (tD W O ε)) (hi : X.N[i]? = some x := by rfl) (hs : swapsWith e (some (.Name x pos')) pos.line X.env = pure false := by rfl) (hf : X.fn x = true ∨ X.env.scope.names.lookup x = some .local := by first | exact .inl rfl | exact .inr rfl | assumption) :
    JS X (.Assign [.Name x pos'] e pos) (sD W Ob O O (sSet i ε)) := (js_set hN hx he hi hs hf).imp fun D σ H hh => exE hh fun as0 B own δ I h =>
  ⟨as0, B, own, δ, I, fitsS_bind I h fun d v H' s dv h' => h' own _ H' ((I.mono s).set hO dv)⟩
noncomputable def sOwn (i : Nat) (ε : FE) : FS := fun δ => (ε δ).bind fun d => if i < δ.length then .ok (.nx (δ.set i (some d))) else .no
theorem hide_new {as : List Addr} {H H' : Hp} {p : Addr} (hp : H p = none) (s : Same H H') : Same (mask as H) (mask (p :: as) H') := fun b o e => by
  by_cases hb : b ∈ as
  · rw [mask_in hb] at e; cases e
  · rw [mask_out hb] at e
    have hbp : b ≠ p := fun z => by rw [z, hp] at e; cases e
    rw [mask_out (by simp [hb, hbp])]
    exact s b o e
theorem own_step {K : PySem.W.Frag} {as0 own : List Addr} {B H H' : Hp} {σ : St} {δ : Sd} {i : Nat} {d : D} {p : Addr} {o : HO} (I : DI K as0 B O own σ δ H) (hO : i ∉ O) (s : Same H H') (hp : H p = none) (e : H' p = some o) (h : OwnD K (mask (p :: (own ++ as0)) H') o d) (hi : i < δ.length) :
    DI K as0 B (i :: O) (p :: own) (σ.set i (some (.ref p))) (δ.set i (some d)) H' := by
  refine DI.own1 (W := ⟨K, fun _ => none, E0⟩) (I.mono s) hO (I.same.free hp) (I.new hp) e h hi (fun j d' hj q => ?_) fun j a hj => ?_
  · obtain ⟨v, h1, h2⟩ := I.var j d' hj q
    exact ⟨v, h1, h2.mono (hide_new hp s)⟩
  · obtain ⟨d', o', h1, h2, h3, h4⟩ := I.owns j a hj
    exact ⟨d', o', h1, h2, s a o' h3, h4.mono (hide_new hp s)⟩
theorem ds_own {i : Nat} {x : Str} {pos' : Pos} (hO : i ∉ O) (hN : X.N.Nodup) (hx : Loc X.env.scope x) (he : JE X e (tN W O ε)) (hi : X.N[i]? = some x := by rfl) (hs : swapsWith e (some (.Name x pos')) pos.line X.env = pure false := by rfl) (hf : X.fn x = true ∨ X.env.scope.names.lookup x = some .local := by first | exact .inl rfl | exact .inr rfl | assumption) :
    JS X (.Assign [.Name x pos'] e pos) (sD W Ob O (i :: O) (sOwn i ε)) := (js_set hN hx he hi hs hf).imp fun D σ H hh => exE hh fun as0 B own δ I h =>
  ⟨as0, B, own, δ, I, fitsS_bindN I h fun d p o H' s hp e od h' => by
    split at h'
    · rename_i hl; exact h' _ _ H' (own_step I hO s hp e od hl)
    · exact h'.elim⟩
inductive TgD where
  | one (i : Nat) | tup (is : List Nat)
noncomputable def setsD : List Nat → List D → Sd → Sd
  | i :: is, d :: ds, δ => setsD is ds (δ.set i (some d))
  | _, _, δ => δ
noncomputable def bindD : TgD → D → Sd → R Sd
  | .one i, d, δ => .ok (δ.set i (some d))
  | .tup is, .tup ds, δ => if ds.length = is.length then .ok (setsD is ds δ) else .no
  | _, _, _ => .no
noncomputable def gD (W : Wd) (O : List Nat) (tg : TgD) : TG := fun v σ H Q => ∃ as0 B own δ d, DI W.K as0 B O own σ δ H ∧ Den W.K (mask (own ++ as0) H) d v ∧ match bindD tg d δ with
  | .ok δ' => ∀ σ', DI W.K as0 B O own σ' δ' H → Q σ' H
  | _ => False
theorem dg_one {i : Nat} {x : Str} (hO : i ∉ O) (hN : X.N.Nodup) (hi : X.N[i]? = some x) (hx : Loc X.env.scope x) (hf : X.fn x = true ∨ X.env.scope.names.lookup x = some .local := by first | exact .inl rfl | exact .inr rfl | assumption) : JG X (.Name x pos) (gD W O (.one i)) :=
  (jg_name hN hi hx hf).imp fun v σ H Q ⟨as0, B, own, δ, d, I, dv, h⟩ => h _ (I.set hO dv)
structure GivesD (K : PySem.W.Frag) (as0 : List Addr) (B : Hp) (J : It) (xs : List D) : Prop where
  go : ∀ i H, Same B H → i < xs.length → J.go i H
  yl : ∀ i H v H2 M, Same B H → (∀ a ∈ M, H a ≠ none) → (∀ a ∈ M, a ∈ as0 ∨ B a = none) → i < xs.length → J.yld i H v H2 → Same H H2 ∧ ∃ d, xs[i]? = some d ∧ Den K (mask M H2) d v
  stop : ∀ H, Same B H → J.stop xs.length H
noncomputable def FitsI (W : Wd) (as0 own : List Addr) (H : Hp) (r : R (List D)) (Q : It → Hp → Prop) : Prop := match r with
  | .ok xs => ∀ J H', Same H H' → GivesD W.K as0 (mask own H') J xs → Q J H'
  | .er x => ∀ e C H', Same H H' → W.mg x = some (.ref C) → W.E e (some C) H'
  | .no => False
noncomputable def iD (W : Wd) (O : List Nat) (ι : FA) : TI := fun σ H Q => ∃ as0 B own δ, DI W.K as0 B O own σ δ H ∧ FitsI W as0 own H (ι δ) Q
theorem into_hidden {as0 M : List Addr} {B H : Hp} (s : Same B H) (h : ∀ a ∈ M, a ∈ as0 ∨ B a = none) : Same (mask as0 B) (mask M H) := fun b o e => by
  by_cases hb : b ∈ as0
  · rw [mask_in hb] at e; cases e
  · rw [mask_out hb] at e
    have hm : b ∉ M := fun z => by
      rcases h b z with q | q
      · exact hb q
      · rw [q] at e; cases e
    rw [mask_out hm]
    exact s b o e
theorem gives_lst {K : PySem.W.Frag} {as0 : List Addr} {B : Hp} {a : Addr} {xs : List V} {ds : List D} (h1 : SqL K (mask as0 B) a xs) (h2 : Dens K (mask as0 B) ds xs) : GivesD K as0 B (Itl K a) ds where
  go := fun i H s hi => by
    have hi' : i < xs.length := by rw [← h2.len]; exact hi
    exact ⟨xs, xs[i], ((mask_le _ _).trans s).seq h1, by simp [hi']⟩
  yl := fun i H v H2 M s _ hM hi ⟨e, y⟩ => by
    subst e
    obtain ⟨d, q1, q2⟩ := h2.got (y xs (((mask_le _ _).trans s).seq h1))
    exact ⟨Same.refl _, d, q1, q2.mono (into_hidden s hM)⟩
  stop := fun H s => ⟨xs, ((mask_le _ _).trans s).seq h1, by rw [h2.len]; exact Nat.le_refl _⟩
theorem gives_tup {K : PySem.W.Frag} {as0 : List Addr} {B : Hp} {a : Addr} {xs : List V} {ds : List D} (h1 : SqT K (mask as0 B) a xs) (h2 : Dens K (mask as0 B) ds xs) : GivesD K as0 B (Itt K a) ds where
  go := fun i H s hi => by
    have hi' : i < xs.length := by rw [← h2.len]; exact hi
    exact ⟨xs, xs[i], ((mask_le _ _).trans s).seqT h1, by simp [hi']⟩
  yl := fun i H v H2 M s _ hM hi ⟨e, y⟩ => by
    subst e
    obtain ⟨d, q1, q2⟩ := h2.got (y xs (((mask_le _ _).trans s).seqT h1))
    exact ⟨Same.refl _, d, q1, q2.mono (into_hidden s hM)⟩
  stop := fun H s => ⟨xs, ((mask_le _ _).trans s).seqT h1, by rw [h2.len]; exact Nat.le_refl _⟩
noncomputable abbrev signsD (z : Str) : List D := z.cps.toList.map fun c => D.str ⟨#[c]⟩
theorem gives_strD {K : PySem.W.Frag} {as0 : List Addr} {B : Hp} (z : Str) : GivesD K as0 B (Its z) (signsD z) where
  go := fun i H _ hi => by
    rw [List.length_map] at hi
    simpa [Its, Str.length] using hi
  yl := fun i H v H2 M _ _ _ hi ⟨e, c, h1, h2⟩ => by
    subst e
    refine ⟨Same.refl _, .str ⟨#[c]⟩, ?_, h2⟩
    rw [List.getElem?_map, Array.getElem?_toList, h1]
    rfl
  stop := fun H _ => by
    show _ = z.length
    rw [List.length_map]
    simp [Str.length]
noncomputable def rangeD (lo : Int) (n : Nat) : List D := (List.range n).map fun (k : Nat) => D.int (lo + (k : Int))
theorem gives_rangeD {K : PySem.W.Frag} {as0 : List Addr} {B : Hp} (lo : Int) (n : Nat) : GivesD K as0 B (Itr lo n) (rangeD lo n) where
  go := fun i H _ hi => by
    unfold rangeD at hi
    rw [List.length_map, List.length_range] at hi
    exact hi
  yl := fun i H v H2 M _ _ _ hi ⟨e, h⟩ => by
    subst e
    unfold rangeD at hi ⊢
    rw [List.length_map, List.length_range] at hi
    refine ⟨Same.refl _, .int (lo + (i : Int)), ?_, h⟩
    rw [List.getElem?_map, List.getElem?_range hi]
    rfl
  stop := fun H _ => by
    unfold rangeD
    show n ≤ _
    rw [List.length_map, List.length_range]
    exact Nat.le_refl _
noncomputable def itemsD : D → R (List D)
  | .lst xs => .ok xs
  | .tup xs => .ok xs
  | .str z => .ok (signsD z)
  | _ => .no
noncomputable def iAny (ε : FE) : FA := fun δ => (ε δ).bind itemsD
variable {tg : Expr}
theorem FitsI.mono {as0 own : List Addr} {H H' : Hp} {r : R (List D)} {Q : It → Hp → Prop} (h : FitsI W as0 own H r Q) (s : Same H H') : FitsI W as0 own H' r Q := by
  cases r with
  | ok d => exact fun J H2 s2 => h J H2 (s.trans s2)
  | er x => exact fun e C H2 s2 => h e C H2 (s.trans s2)
  | no => exact h
theorem fitsI_bind {as0 own : List Addr} {H : Hp} {r : R D} {f : D → R (List D)} {Q : It → Hp → Prop} {Q' : VK} (h : FitsI W as0 own H (r.bind f) Q) (q : ∀ d v H', Same H H' → Den W.K (mask (own ++ as0) H') d v → FitsI W as0 own H' (f d) Q → Q' v H') : Fits W (own ++ as0) H r Q' := by
  cases r with
  | ok d => exact fun v H' s dv => q d v H' s dv (FitsI.mono h s)
  | er x => exact h
  | no => exact h
theorem fitsI_bindA {as0 own : List Addr} {H : Hp} {r : R (List D)} {f : List D → R (List D)} {Q : It → Hp → Prop} {Q' : List V → Hp → Prop} (h : FitsI W as0 own H (r.bind f) Q) (q : ∀ d v H', Same H H' → Dens W.K (mask (own ++ as0) H') d v → FitsI W as0 own H' (f d) Q → Q' v H') : FitsA W (own ++ as0) H r Q' := by
  cases r with
  | ok d => exact fun v H' s dv => q d v H' s dv (FitsI.mono h s)
  | er x => exact h
  | no => exact h
theorem di_any (K : PySem.W.Frag) {l : Expr} (h : JE X l (tD W O ε)) (hK : X.K = K := by rfl) (hW : W.K = K := by rfl) : JI X tg l (iD W O (iAny ε)) := (ji_any K h hK).imp fun σ H Q hh => exE hh fun as0 B own δ I h =>
  ⟨as0, B, own, δ, I, fitsI_bind h fun d v H' s dv h' => by
    subst hW
    cases d with
    | lst ds =>
      obtain ⟨a, xs, rfl, q1, q2⟩ := dv
      refine .inl ⟨⟨xs, (mask_le _ _).seq q1⟩, h' _ H' (Same.refl _) ?_⟩
      rw [mask_app] at q1 q2
      exact gives_lst q1 q2
    | tup ds =>
      obtain ⟨a, xs, rfl, q1, q2⟩ := dv
      refine .inr ⟨⟨xs, (mask_le _ _).seqT q1⟩, h' _ H' (Same.refl _) ?_⟩
      rw [mask_app] at q1 q2
      exact gives_tup q1 q2
    | str z => cases dv; exact h' _ H' (Same.refl _) (gives_strD z)
    | _ => exact h'.elim⟩
noncomputable def rng1 : List D → R (List D)
  | [.int j] => if -(2 ^ 62) ≤ j ∧ j < 2 ^ 62 then .ok (rangeD 0 j.toNat) else .no
  | _ => .no
noncomputable def iRng1D (α : FA) : FA := fun δ => (α δ).bind rng1
theorem di_range1 {a : Expr} {α : FA} {p pos : Pos} (hm : X.mg "range" = none) (ha : JA X [a] (tDA W O α)) (hg : Gl X "range" := by rfl) (hn : noStar a = true := by rfl) : JI X tg (.Call (.Name "range" p) [a] [] pos) (iD W O (iRng1D α)) := (ji_range1 hm ha hg hn).imp fun σ H Q hh => exE hh fun as0 B own δ I h =>
  ⟨as0, B, own, δ, I, fitsI_bindA h fun ds vs H' s dv h' => by
    unfold rng1 at h'
    split at h'
    · obtain ⟨v, r, rfl, d1, d2⟩ := dv
      cases d1
      cases d2
      split at h'
      · rename_i hj; exact ⟨hj, h' _ H' (Same.refl _) (gives_rangeD 0 _)⟩
      · exact h'.elim
    · exact h'.elim⟩
noncomputable def forD (tg : TgD) (body : FS) : List D → Sd → R Fl
  | [], δ => .ok (.nx δ)
  | x :: r, δ => (bindD tg x δ).bind fun δ1 => (body δ1).bind fun f => match f with
    | .nx δ2 => forD tg body r δ2
    | .ct δ2 => forD tg body r δ2
    | .bk δ2 => .ok (.nx δ2)
    | .rt d => .ok (.rt d)
    | .rn d => .ok (.rn d)
noncomputable def sFor (ι : FA) (t : TgD) (body : FS) : FS := fun δ => (ι δ).bind fun xs => forD t body xs δ
theorem fitsS_bindI {as0 own : List Addr} {B H : Hp} {σ : St} {δ : Sd} {D' : Ends} {r : R (List D)} {f : List D → R Fl} {Q : It → Hp → Prop} (I : DI W.K as0 B O own σ δ H) (h : FitsS W as0 B Ob O' (r.bind f) D')
    (q : ∀ d J H', Same H H' → GivesD W.K as0 (mask own H') J d → FitsS W as0 B Ob O' (f d) D' → Q J H') : FitsI W as0 own H r Q := by
  cases r with
  | ok d => exact fun J H' s g => q d J H' s g h
  | er x => exact fun e C H' s => h e C H' (I.same.trans s)
  | no => exact h
theorem ds_for {iter : Expr} {body : List Stmt} {ι : FA} {t : TgD} (hp : PassesOwn (model X.prog X.w) X.A X.env X.xe) (hi : JI X tg iter (iD W O ι)) (hg : JG X tg (gD W O t)) (hb : JB X body (sD W O O O φ)) (hc : X.calm = true := by rfl)
    (hs : ∀ x, foldedSetIterable iter X.env x = pure x := by intro _; rfl) : JS X (.For tg iter body [] pos) (sD W Ob O O (sFor ι t φ)) := (js_for hp hi hg hb hc hs).imp fun D' σ H hh => exE hh fun as0 B own δ I h => by
  refine ⟨as0, B, own, δ, I, fitsS_bindI I h fun xs J H1 s1 G h1 => ?_⟩
  have I1 := I.mono s1
  have I2 := I1.rebase I1.apart
  have sB : Same B (mask own H1) := I1.baseIn
  have h2 := h1.base sB I.ex0
  generalize hB' : mask own H1 = B' at I2 sB h2 G
  have ex' : ∀ a ∈ as0, B' a ≠ none := I2.ex0
  refine ⟨fun i m σ H => m = xs.length - i ∧ i ≤ xs.length ∧ ∃ own δ, DI W.K as0 B' O own σ δ H ∧ FitsS W as0 B' Ob O (forD t φ (xs.drop i) δ) D', ⟨xs.length, by simp, Nat.zero_le _, own, δ, I2, by simpa using h2⟩, ?_⟩
  rintro i m σ3 H3 ⟨rfl, hi, own3, δ3, I3, h3⟩
  by_cases hlt : i < xs.length
  · refine .inr ⟨G.go i H3 I3.same hlt, fun σ' H' => ∃ own δ, DI W.K as0 B' O own σ' δ H' ∧ FitsS W as0 B' Ob O (forD t φ (xs.drop (i + 1)) δ) D', fun σ' H' ⟨own', δ', I', h'⟩ => ⟨xs.length - (i + 1), by omega, rfl, hlt, own', δ', I', h'⟩, fun v H4 y => ?_⟩
    obtain ⟨s4, d, hd, dv⟩ := G.yl i H3 v H4 (own3 ++ as0) I3.same I3.exi (fun a ha => by
      rcases List.mem_append.mp ha with z | z
      · exact .inr (I3.fresh a z)
      · exact .inl z) hlt y
    have ed : xs.drop i = d :: xs.drop (i + 1) := by
      rw [List.drop_eq_getElem_cons hlt]
      rw [List.getElem?_eq_getElem hlt] at hd
      cases hd
      rfl
    rw [ed] at h3
    refine ⟨as0, B', own3, δ3, d, I3.mono s4, dv, ?_⟩
    have h3' : FitsS W as0 B' Ob O ((bindD t d δ3).bind fun δ1 => (φ δ1).bind fun f => match f with
      | .nx δ2 => forD t φ (xs.drop (i + 1)) δ2
      | .ct δ2 => forD t φ (xs.drop (i + 1)) δ2
      | .bk δ2 => .ok (.nx δ2)
      | .rt d => .ok (.rt d)
      | .rn d => .ok (.rn d)) D' := h3
    cases hb1 : bindD t d δ3 with
    | ok δ1 =>
      rw [hb1] at h3'
      refine fun σ' I' => ⟨as0, B', own3, δ1, I', ?_⟩
      have h3'' : FitsS W as0 B' Ob O ((φ δ1).bind fun f => match f with
        | .nx δ2 => forD t φ (xs.drop (i + 1)) δ2
        | .ct δ2 => forD t φ (xs.drop (i + 1)) δ2
        | .bk δ2 => .ok (.nx δ2)
        | .rt d => .ok (.rt d)
        | .rn d => .ok (.rn d)) D' := h3'
      cases hr : φ δ1 with
      | ok f =>
        rw [hr] at h3''
        cases f with
        | nx δ2 => exact fun own' σ' H' I' => ⟨own', δ2, I', h3''⟩
        | ct δ2 => exact fun own' σ' H' I' => ⟨own', δ2, I', h3''⟩
        | bk δ2 => exact h3''
        | rt d => exact h3''
        | rn d => exact h3''
      | er x => rw [hr] at h3''; exact h3''
      | no => rw [hr] at h3''; exact h3''
    | er x => unfold bindD at hb1; split at hb1 <;> first | cases hb1 | (split at hb1 <;> cases hb1)
    | no => rw [hb1] at h3'; exact h3'.elim
  · have e : i = xs.length := by omega
    subst e
    rw [List.drop_length] at h3
    exact .inl ⟨G.stop H3 I3.same, h3 own3 σ3 H3 I3⟩
end
end L2
namespace L2
open PySem PySem.Spec PyProof.Rows
set_option maxHeartbeats 4000000
set_option linter.unusedVariables false
theorem bind_eq_ok {α β : Type} {r : R α} {f : α → R β} {b : β} (h : r.bind f = .ok b) : ∃ a, r = .ok a ∧ f a = .ok b := by
  cases r with
  | ok a => exact ⟨a, rfl, h⟩
  | er x => cases h
  | no => cases h
noncomputable def R.calm {α : Type} : R α → R α
  | .ok a => .ok a
  | _ => .no
noncomputable def captD (ix : List (Option Nat)) (δ : Sd) : Sd := ix.map fun o => o.bind fun j => (δ[j]?).getD none
noncomputable def freeT : TgD → Sd → Bool
  | .one i, δ => match δ[i]? with
    | some none => true
    | _ => false
  | .tup is, δ => is.all fun i => match δ[i]? with
    | some none => true
    | _ => false
noncomputable def compD (tg : TgD) (τ : FT) (ε : FE) (δ0 : Sd) : List D → R (List D)
  | [] => .ok []
  | x :: r => (bindD tg x δ0).bind fun δ1 => (τ δ1).bind fun b => if b = true then (ε δ1).bind fun y => (compD tg τ ε δ0 r).bind fun ys => .ok (y :: ys) else compD tg τ ε δ0 r
noncomputable def compOf (tg : TgD) (τ : FT) (ε : FE) (δ0 : Sd) (xs : List D) : R D := if freeT tg δ0 = true ∧ xs.length ≤ 1000000 then (compD tg τ ε δ0 xs).calm.bind fun ys => .ok (.lst ys) else .no
noncomputable def vComp (ix : List (Option Nat)) (ι : FA) (tg : TgD) (τ : FT) (ε : FE) : FE := fun δ => (ι δ).bind fun xs => compOf tg τ ε (captD ix δ) xs
noncomputable def qYes : FT := fun _ => .ok true
theorem setsD_keep : ∀ (is : List Nat) (ds : List D) (δ0 δ : Sd), (∀ (i : Nat), i ∈ is → δ0[i]? = some none) → (∀ (i : Nat) (d : D), δ0[i]? = some (some d) → δ[i]? = some (some d)) → ∀ (i : Nat) (d : D), δ0[i]? = some (some d) → (setsD is ds δ)[i]? = some (some d)
  | [], _, _, _, _, h => by intro i d e; unfold setsD; exact h i d e
  | _ :: _, [], _, _, _, h => by intro i d e; unfold setsD; exact h i d e
  | j :: is, x :: ds, δ0, δ, hn, h => by
    intro i d e
    unfold setsD
    refine setsD_keep is ds δ0 _ (fun i hi => hn i (List.mem_cons_of_mem _ hi)) (fun i d e => ?_) i d e
    have hji : j ≠ i := fun z => by
      have := hn j List.mem_cons_self
      rw [z, e] at this; cases this
    rw [getElem?_set', if_neg hji]
    exact h i d e
theorem bind_keep {tg : TgD} {x : D} {δ0 δ1 : Sd} (hf : freeT tg δ0 = true) (h : bindD tg x δ0 = .ok δ1) : ∀ (i : Nat) (d : D), δ0[i]? = some (some d) → δ1[i]? = some (some d) := by
  cases tg with
  | one j =>
    cases h
    intro i d e
    have hji : j ≠ i := fun z => by
      subst z
      have hf' : (match δ0[j]? with | some none => true | _ => false) = true := hf
      rw [e] at hf'
      cases hf'
    rw [getElem?_set', if_neg hji]
    exact e
  | tup is =>
    cases x with
    | tup ds =>
      have h' : (if ds.length = is.length then R.ok (setsD is ds δ0) else .no) = .ok δ1 := h
      split at h'
      · cases h'
        refine setsD_keep is ds δ0 δ0 (fun i hi => ?_) fun i d e => e
        have hf' : (is.all fun i => match δ0[i]? with | some none => true | _ => false) = true := hf
        have := List.all_eq_true.mp hf' i hi
        split at this
        · assumption
        · cases this
      · cases h'
    | _ => cases h
theorem setsD_len : ∀ (is : List Nat) (ds : List D) (δ : Sd), (setsD is ds δ).length = δ.length
  | [], _, _ => by unfold setsD; rfl
  | _ :: _, [], _ => by unfold setsD; rfl
  | j :: is, x :: ds, δ => by unfold setsD; rw [setsD_len is ds]; simp
theorem bind_len {tg : TgD} {x : D} {δ0 δ1 : Sd} (h : bindD tg x δ0 = .ok δ1) : δ1.length = δ0.length := by
  cases tg with
  | one j => cases h; simp
  | tup is =>
    cases x with
    | tup ds =>
      have h' : (if ds.length = is.length then R.ok (setsD is ds δ0) else .no) = .ok δ1 := h
      split at h'
      · cases h'; exact setsD_len _ _ _
      · cases h'
    | _ => cases h
theorem DI.plain {K : PySem.W.Frag} {M : List Addr} {H : Hp} {σ : St} {δ : Sd} (hl : δ.length = σ.length) (ex : ∀ a ∈ M, H a ≠ none) (var : ∀ (i : Nat) (d : D), δ[i]? = some (some d) → ∃ v, σ[i]? = some (some v) ∧ Den K (mask M H) d v) : DI K M H [] [] σ δ H :=
  ⟨hl, rfl, List.nodup_nil, List.nodup_nil, fun a ha => (nomatch ha), ex, Same.refl _, fun i d _ e => var i d e, fun i a h => (by simp at h)⟩
section
variable {X : Cx} {W Wb : Wd} {O : List Nat} {osc : Scope} {ON N : List Str} {ix : List (Option Nat)} {scope : Scope} {tg elt iter : Expr} {ifs : List Expr} {pos : Pos} {ι : FA} {t : TgD} {τ : FT} {ε : FE}
theorem dts_nil : JTs X [] (tDT W O qYes) := jts_nil.imp fun σ H Q hh => exE hh fun as0 B own δ I h => h H (Same.refl _)
theorem dts_one {c : Expr} (h : JT X c (tDT W O τ)) : JTs X [c] (tDT W O τ) := jts_one h
theorem capt_ok {K : PySem.W.Frag} {as0 own : List Addr} {B H : Hp} {σ : St} {δ : Sd} (I : DI K as0 B O own σ δ H) (hO : ∀ j ∈ ix, ∀ k, j = some k → k ∉ O) : ∀ (i : Nat) (d : D), (captD ix δ)[i]? = some (some d) → ∃ v, (capt ix σ)[i]? = some (some v) ∧ Den K (mask (own ++ as0) H) d v := by
  intro i d e
  unfold captD at e
  unfold capt
  rw [List.getElem?_map] at e ⊢
  cases h : ix[i]? with
  | none => rw [h] at e; cases e
  | some o =>
    rw [h] at e
    cases o with
    | none => cases e
    | some j =>
      have e' : (δ[j]?).getD none = some d := Option.some.inj e
      have ej : δ[j]? = some (some d) := by
        cases q : δ[j]? with
        | none => rw [q] at e'; cases e'
        | some w => rw [q] at e'; rw [← e']; rfl
      obtain ⟨v, h1, h2⟩ := I.var j d (hO _ (List.mem_of_getElem? h) j rfl) ej
      exact ⟨v, by show some ((σ[j]?).getD none) = _; rw [h1]; rfl, h2⟩
structure GivesC (K : PySem.W.Frag) (M : List Addr) (H : Hp) (J : It) (xs : List D) : Prop where
  go : ∀ i H1, Same H H1 → i < xs.length → J.go i H1
  yl : ∀ i H1 v H2 acc, Same H H1 → H acc = none → (∀ a ∈ acc :: M, H1 a ≠ none) → i < xs.length → J.yld i H1 v H2 → Same H1 H2 ∧ ∃ d, xs[i]? = some d ∧ Den K (mask (acc :: M) H2) d v
  stop : ∀ H1, Same H H1 → J.stop xs.length H1
theorem GivesD.comp {K : PySem.W.Frag} {as0 own : List Addr} {H : Hp} {J : It} {xs : List D} (G : GivesD K as0 (mask own H) J xs) : GivesC K (own ++ as0) H J xs where
  go := fun i H1 s hi => G.go i H1 ((mask_le _ _).trans s) hi
  yl := fun i H1 v H2 acc s hacc hex hi y => G.yl i H1 v H2 (acc :: (own ++ as0)) ((mask_le _ _).trans s) hex (fun a ha => by
    rcases List.mem_cons.mp ha with rfl | ha
    · right
      cases z : mask own H a with
      | none => rfl
      | some u => have := mask_le _ _ _ _ z; rw [hacc] at this; cases this
    · rcases List.mem_append.mp ha with z | z
      · exact .inr (mask_in z)
      · exact .inl z) hi y
  stop := fun H1 s => G.stop H1 ((mask_le _ _).trans s)
theorem comp_go {K : PySem.W.Frag} {as0 own : List Addr} {B H : Hp} {σ : St} {δ : Sd} {xs : List D} {J : It} {Q : VK} (hWb : Wb.K = K) (I : DI K as0 B O own σ δ H) (hO : ∀ j ∈ ix, ∀ k, j = some k → k ∉ O) (G : GivesC K (own ++ as0) H J xs)
    (hq : match compOf t τ ε (captD ix δ) xs with
      | .ok d => ∀ p o H', Same H H' → H p = none → H' p = some o → OwnD K (mask (p :: (own ++ as0)) H') o d → Q (.ref p) H'
      | _ => False) : compGo (gD Wb [] t) (tDT Wb [] τ) (tD Wb [] ε) J (capt ix σ) H Q := by
  intro acc hacc
  unfold compOf at hq
  by_cases hc : freeT t (captD ix δ) = true ∧ xs.length ≤ 1000000
  · rw [if_pos hc] at hq
    obtain ⟨hf, hlen⟩ := hc
    cases hall : compD t τ ε (captD ix δ) xs with
    | er x => rw [hall] at hq; exact hq.elim
    | no => rw [hall] at hq; exact hq.elim
    | ok all =>
      rw [hall] at hq
      have hq' : ∀ p o H', Same H H' → H p = none → H' p = some o → OwnD K (mask (p :: (own ++ as0)) H') o (.lst all) → Q (.ref p) H' := hq
      generalize hδ0 : captD ix δ = δ0 at hf hall
      have cl : δ0.length = (capt ix σ).length := by rw [← hδ0]; unfold captD capt; simp
      have cv : ∀ (i : Nat) (d : D), δ0[i]? = some (some d) → ∃ v, (capt ix σ)[i]? = some (some v) ∧ Den K (mask (own ++ as0) H) d v := by rw [← hδ0]; exact capt_ok I hO
      generalize capt ix σ = σ0 at cl cv
      have exM0 := I.exi
      generalize hM : own ++ as0 = M at cv hq' G exM0
      have exM : ∀ a ∈ M, H a ≠ none := exM0
      have naM : acc ∉ M := fun z => exM acc z hacc
      -- heaps of the turns
      have exA : ∀ {H' : Hp}, Same H H' → (∃ o, H' acc = some o) → ∀ a ∈ acc :: M, H' a ≠ none := fun {H'} s ⟨o, e⟩ a ha => by
        rcases List.mem_cons.mp ha with rfl | ha
        · rw [e]; simp
        · cases q : H a with
          | none => exact absurd q (exM a ha)
          | some u => rw [s a u q]; simp
      have s0 : Same H (upd H acc (.lst [])) := same_new hacc _
      refine ⟨fun i m σ' H' => m = xs.length - i ∧ i ≤ xs.length ∧ ∃ ys es rest, H' acc = some (.lst ys) ∧ ys.length ≤ i ∧ Same H H' ∧ Dens K (mask (acc :: M) H') es ys ∧ compD t τ ε δ0 (xs.drop i) = .ok rest ∧ all = es ++ rest ∧ DI K (acc :: M) H' [] [] σ' δ0 H',
        ⟨xs.length, by simp, Nat.zero_le _, [], [], all, upd_same, Nat.zero_le _, s0, rfl, by simpa using hall, rfl, DI.plain cl (exA s0 ⟨_, upd_same⟩) fun i d e => let ⟨v, h1, h2⟩ := cv i d e; ⟨v, h1, h2.mono (hide_new hacc s0)⟩⟩, ?_⟩
      rintro i m σ1 H1 ⟨rfl, hi, ys, es, rest, e1, hl1, s1, d1, c1, a1, I1⟩
      have sB : Same H H1 := s1
      by_cases hlt : i < xs.length
      · refine .inr ⟨G.go i H1 sB hlt, fun σ' H' => ∃ ys es rest, H' acc = some (.lst ys) ∧ ys.length ≤ i + 1 ∧ Same H H' ∧ Dens K (mask (acc :: M) H') es ys ∧ compD t τ ε δ0 (xs.drop (i + 1)) = .ok rest ∧ all = es ++ rest ∧ DI K (acc :: M) H' [] [] σ' δ0 H',
          fun σ' H' ⟨ys, es, rest, q⟩ => ⟨xs.length - (i + 1), by omega, rfl, hlt, ys, es, rest, q⟩, fun v H2 y => ?_⟩
        obtain ⟨s2, d, hd, dv⟩ := G.yl i H1 v H2 acc sB hacc (exA s1 ⟨_, e1⟩) hlt y
        have ed : xs.drop i = d :: xs.drop (i + 1) := by
          rw [List.drop_eq_getElem_cons hlt]
          rw [List.getElem?_eq_getElem hlt] at hd
          cases hd
          rfl
        rw [ed] at c1
        obtain ⟨δ1, b1, c2⟩ := bind_eq_ok (show (bindD t d δ0).bind (fun δ1 => (τ δ1).bind fun b => if b = true then (ε δ1).bind fun y => (compD t τ ε δ0 (xs.drop (i + 1))).bind fun ys => .ok (y :: ys) else compD t τ ε δ0 (xs.drop (i + 1))) = .ok rest from c1)
        obtain ⟨b, b2, c3⟩ := bind_eq_ok c2
        have I2 : DI K (acc :: M) H2 [] [] σ1 δ0 H2 := DI.plain I1.len (exA (s1.trans s2) ⟨_, s2 _ _ e1⟩) fun i d e => let ⟨v, h1, h2⟩ := I1.var i d (by simp) e; ⟨v, h1, h2.mono (mask_mono s2)⟩
        -- behind the target, at any later heap in which acc's list may have grown
        have again : ∀ {σ3 : St} {H3 H4 : Hp}, DI K (acc :: M) H2 [] [] σ3 δ1 H3 → Same (mask (acc :: M) H3) (mask (acc :: M) H4) → (∀ a ∈ acc :: M, H4 a ≠ none) → DI K (acc :: M) H4 [] [] σ3 δ0 H4 := fun {σ3 H3 H4} I3 s34 ex4 =>
          DI.plain (by rw [← bind_len b1]; exact I3.len) ex4 fun i d e => let ⟨v, h1, h2⟩ := I3.var i d (by simp) (bind_keep hf b1 i d e); ⟨v, h1, h2.mono s34⟩
        refine ⟨acc :: M, H2, [], δ0, d, by rw [hWb]; exact I2, by rw [hWb]; exact dv, ?_⟩
        rw [b1]
        refine fun σ3 I3 => ⟨acc :: M, H2, [], δ1, I3, ?_⟩
        rw [hWb] at I3
        rw [b2]
        refine fun H3 s3 => ?_
        have I3' := I3.mono s3
        have s13 : Same H1 H3 := s2.trans s3
        cases b with
        | false =>
          exact ⟨ys, es, rest, s13 _ _ e1, by omega, s1.trans s13, d1.mono (mask_mono s13), c3, a1, again I3' (Same.refl _) (exA (s1.trans s13) ⟨_, s13 _ _ e1⟩)⟩
        | true =>
          obtain ⟨y', b3, c4⟩ := bind_eq_ok (show (ε δ1).bind (fun y => (compD t τ ε δ0 (xs.drop (i + 1))).bind fun ys => .ok (y :: ys)) = .ok rest from c3)
          obtain ⟨r', b4, c5⟩ := bind_eq_ok c4
          cases c5
          refine ⟨acc :: M, H2, [], δ1, by rw [hWb]; exact I3', ?_⟩
          rw [b3]
          refine fun v4 H4 s4 d4 => ?_
          rw [hWb] at d4
          have s14 : Same H1 H4 := s13.trans s4
          have e4 := s14 _ _ e1
          have hm := million
          have same5 : Same (mask (acc :: M) H4) (mask (acc :: M) (upd H4 acc (.lst (ys ++ [v4])))) := fun b o e => by
            by_cases hb : b ∈ acc :: M
            · rw [mask_in hb] at e; cases e
            · rw [mask_out hb] at e ⊢
              rw [upd_ne (fun z => hb (by rw [z]; exact List.mem_cons_self))]
              exact e
          have s5 : Same H (upd H4 acc (.lst (ys ++ [v4]))) := fun b o e => by
            rw [upd_ne (ne_of_none e hacc)]
            exact (s1.trans s14) b o e
          refine ⟨ys, e4, by omega, ys ++ [v4], es ++ [y'], r', upd_same, by simp; omega, s5, ?_, b4, by rw [a1]; simp, again I3' ((mask_mono s4).trans same5) (exA s5 ⟨_, upd_same⟩)⟩
          exact (Dens.append (d1.mono (mask_mono s14)) (Dens.cons d4 Dens.nil)).mono same5
      · have e' : i = xs.length := by omega
        subst e'
        rw [List.drop_length] at c1
        cases c1
        rw [List.append_nil] at a1
        subst a1
        exact .inl ⟨G.stop H1 sB, hq' acc _ H1 s1 hacc e1 ⟨ys, rfl, d1⟩⟩
  · rw [if_neg hc] at hq
    exact hq.elim
theorem n_comp (hcs : csOk osc ON N ix scope = true) (hi : JI X tg iter (iD W O ι)) (hg : ∀ b, JG (blk X N scope b) tg (gD Wb [] t)) (ht : ∀ b, JTs (blk X N scope b) ifs (tDT Wb [] τ)) (he : ∀ b, JE (blk X N scope b) elt (tD Wb [] ε)) (hO : ∀ j ∈ ix, ∀ k, j = some k → k ∉ O)
    (hWb : Wb.K = W.K := by rfl) (hE : X.env.scope = osc := by rfl) (hON : X.N = ON := by rfl) (hc : X.calm = true := by rfl) (hs : ∀ x, foldedSetIterable iter X.env x = pure x := by intro _; rfl) : JE X (.ListComp elt [⟨tg, iter, ifs, 0⟩] scope pos) (tN W O (vComp ix ι t τ ε)) :=
  (j_comp hcs hi hg ht he hE hON hc hs).imp fun σ H Q hh => exE hh fun as0 B own δ I h => ⟨as0, B, own, δ, I, by
    unfold vComp at h
    cases hr : ι δ with
    | no => rw [hr] at h; exact h.elim
    | er x => rw [hr] at h; exact h
    | ok xs =>
      rw [hr] at h
      refine fun J H1 s1 G => comp_go hWb (I.mono s1) hO G.comp ?_
      have h' : FitsN W (own ++ as0) H (compOf t τ ε (captD ix δ) xs) Q := h
      cases hq : compOf t τ ε (captD ix δ) xs with
      | ok d => rw [hq] at h'; exact fun p o H' s hp => h' p o H' (s1.trans s) (s1.free hp)
      | er x =>
        unfold compOf at hq
        split at hq
        · cases hc : compD t τ ε (captD ix δ) xs <;> rw [hc] at hq <;> cases hq
        · cases hq
      | no => rw [hq] at h'; exact h'.elim⟩
theorem js_comp {i : Nat} {x : Str} {spos pos' : Pos} (hN : X.N.Nodup) (hl : Loc X.env.scope x) (hcs : csOk osc ON N ix scope = true) (hi : JI X tg iter (iD W O ι)) (hg : ∀ b, JG (blk X N scope b) tg (gD Wb [] t)) (ht : ∀ b, JTs (blk X N scope b) ifs (tDT Wb [] τ)) (he : ∀ b, JE (blk X N scope b) elt (tD Wb [] ε)) (hO : ∀ j ∈ ix, ∀ k, j = some k → k ∉ O)
    (hWb : Wb.K = W.K := by rfl) (hx : X.N[i]? = some x := by rfl) (hE : X.env.scope = osc := by rfl) (hON : X.N = ON := by rfl) (hc : X.calm = true := by rfl)
    (hsw : swapsWith (.ListComp elt [⟨tg, iter, ifs, 0⟩] scope pos) (some (.Name x pos')) spos.line X.env = pure true := by rfl)
    (hf : X.fn x = true ∨ X.env.scope.names.lookup x = some .local := by first | exact .inl rfl | exact .inr rfl | assumption)
    (hs : ∀ x, foldedSetIterable iter X.env x = pure x := by intro _; rfl) : JS X (.Assign [.Name x pos'] (.ListComp elt [⟨tg, iter, ifs, 0⟩] scope pos) spos) (tAsg (tN W O (vComp ix ι t τ ε)) (gName i)) :=
  (js_setComp hN hl hcs hi hg ht he hx hE hON hc hsw hf hs).imp fun D σ H hh => exE hh fun as0 B own δ I h => ⟨as0, B, own, δ, I, by
    unfold vComp at h
    cases hr : ι δ with
    | no => rw [hr] at h; exact h.elim
    | er x => rw [hr] at h; exact h
    | ok xs =>
      rw [hr] at h
      refine fun J H1 s1 G => comp_go hWb (I.mono s1) hO G.comp ?_
      have h' : FitsN W (own ++ as0) H (compOf t τ ε (captD ix δ) xs) (fun x H1 => gName i x σ H1 D.nx) := h
      cases hq : compOf t τ ε (captD ix δ) xs with
      | ok d => rw [hq] at h'; exact fun p o H' s hp => h' p o H' (s1.trans s) (s1.free hp)
      | er x =>
        unfold compOf at hq
        split at hq
        · cases hc : compD t τ ε (captD ix δ) xs <;> rw [hc] at hq <;> cases hq
        · cases hq
      | no => rw [hq] at h'; exact h'.elim⟩
theorem ds_set' {Ob : List Nat} {i : Nat} {st : Stmt} (hO : i ∉ O) (h : JS X st (tAsg (tN W O ε) (gName i))) : JS X st (sD W Ob O O (sSet i ε)) := h.imp fun D σ H hh => exE hh fun as0 B own δ I h =>
  ⟨as0, B, own, δ, I, fitsS_bindN I h fun d p o H' s hp e od h' => h' own _ H' ((I.mono s).set hO (od.den (I.new hp) e))⟩
end
noncomputable def startD (N : List Str) (ds : List D) : Sd := ds.map some ++ List.replicate (N.length - ds.length) none
noncomputable def runD (φ : FS) (N P : List Str) (ds : List D) : R D := if ds.length = P.length then (φ (startD N ds)).bind fun f => match f with
  | .rt d => .ok d
  | .rn d => .ok d
  | .nx _ => .ok .non
  | _ => .no
  else .no
noncomputable def spD (K : PySem.W.Frag) (mg : Str → Option Value) (F : List D → R D) : Sp := fun vs H Q _ => ∃ as ds, (∀ a ∈ as, H a ≠ none) ∧ Dens K (mask as H) ds vs ∧ Fits ⟨K, mg, E0⟩ as H (F ds) Q
section
variable {P : Program} {w : World} {K : PySem.W.Frag} {mg : Str → Option Value} {base : Heap}
theorem dens_start {H : Hp} : ∀ {ds : List D} {vs : List V} {i : Nat} {d : D}, Dens K H ds vs → ∀ {n : Nat}, (ds.map some ++ List.replicate n none)[i]? = some (some d) → ∃ v, (vs.map some ++ List.replicate n none)[i]? = some (some v) ∧ Den K H d v := by
  intro ds vs i d h n e
  have hl := h.len
  by_cases hi : i < ds.length
  · rw [List.getElem?_append_left (by simpa using hi), List.getElem?_map] at e
    rw [List.getElem?_append_left (by rw [List.length_map, ← hl]; exact hi), List.getElem?_map]
    cases q : ds[i]? with
    | none => rw [q] at e; cases e
    | some d' =>
      rw [q] at e
      cases e
      obtain ⟨v, h1, h2⟩ := h.get q
      exact ⟨v, by rw [h1]; rfl, h2⟩
  · rw [List.getElem?_append_right (by simpa using hi), List.getElem?_replicate] at e
    split at e <;> cases e
theorem Fun.okD {x qual : Str} {st : Stmt} {f : Addr} {fd : FuncData} {N ps : List Str} {k : Nat} {φ : FS} {O' : List Nat} (F : Fun K x qual st f fd) (S : FnScope N ps (defScope st))
    (hbody : ∀ (cdv : Value) (A : Around) (outer : List Env) (s : Shared) (H : Hp) (E : XK), Room k (A.deeper (envOfC qual (defScope st) s.heap.objs.size f cdv)) →
      JB (cxOf CX0 P w K mg base N qual (defScope st) f cdv A outer s H E).nox (defBody st) (sD ⟨K, mg, E0⟩ [] [] O' φ)) : FnOk P w K mg base CX0 (k + 1) f fd ps (spD K mg (runD φ N ps)) := by
  refine F.okJ S (fun vs H Q E h => ?_) fun cdv A outer s H vs Q E hr h => ?_
  · obtain ⟨as, ds, ex, dv, h⟩ := h
    unfold runD at h
    split at h
    · rename_i hl; rw [← dv.len]; exact hl
    · exact h.elim
  · obtain ⟨as, ds, ex, dv, h⟩ := h
    unfold runD at h
    split at h
    · rename_i hl
      refine ⟨_, hbody cdv A outer s H E hr, as, H, [], startD N ds, ⟨?_, rfl, List.nodup_nil, List.nodup_nil, fun a ha => (nomatch ha), ex, Same.refl _, fun i d _ e => ?_, fun i a h => (by simp at h)⟩, ?_⟩
      · unfold startD start
        simp [dv.len]
      · unfold startD at e
        unfold start
        rw [← dv.len]
        exact dens_start dv e
      · cases hr : φ (startD N ds) with
        | ok fl =>
          rw [hr] at h
          cases fl with
          | rt d => exact fun v H' s dv' => h v H' s dv'
          | rn d => exact fun p o H' s hp e od => h (.ref p) H' s (od.den (fun z => ex p z hp) e)
          | nx δ => exact fun own σ H' I => h .non H' I.same rfl
          | bk δ => exact h.elim
          | ct δ => exact h.elim
        | er x => rw [hr] at h; exact fun e C H' s => h e C H' s
        | no => rw [hr] at h; exact h.elim
    · exact h.elim
section
variable {X : Cx} {O : List Nat} {x : Str} {st : Stmt} {ps : List Str} {f : Addr} {fd : FuncData} {j k : Nat} {F : List D → R D} {p pos : Pos} {e : Expr} {es : List Expr} {α : FA}
theorem d_call (D : Def X.K X.mg x st ps f fd) (G : FnOk X.prog X.w X.K X.mg X.base CX0 j f fd ps (spD K mg F)) (hr : Room k X.A) (ha : JA X (e :: es) (tDA ⟨K, mg, E0⟩ O α)) (hj : j ≤ k := by decide) (hg : Gl X x := by rfl) (hdb : (x == ("__debug__" : Str)) = false := by decide)
    (h1 : noStar e = true := by rfl) (h2 : es.all noStar = true := by rfl) : JE X (.Call (.Name x p) (e :: es) [] pos) (tD ⟨K, mg, E0⟩ O (vCall F α)) :=
  (j_call D G hr ha hj hg hdb h1 h2).imp fun σ H Q hh => exE hh fun as0 B own δ I h => ⟨as0, B, own, δ, I, fits_bindA h fun ds vs H1 s1 d1 h1 => ⟨own ++ as0, ds, (I.mono s1).exi, d1, h1⟩⟩
end
noncomputable def runN (φ : FS) (N P : List Str) (ds : List D) : R D := if ds.length = P.length then (φ (startD N ds)).bind fun f => match f with
  | .rn d => .ok d
  | _ => .no
  else .no
noncomputable def spN (K : PySem.W.Frag) (mg : Str → Option Value) (F : List D → R D) : Sp := fun vs H Q _ => ∃ as ds, (∀ a ∈ as, H a ≠ none) ∧ Dens K (mask as H) ds vs ∧ FitsN ⟨K, mg, E0⟩ as H (F ds) Q
theorem Fun.okN {P : Program} {w : World} {K : PySem.W.Frag} {mg : Str → Option Value} {base : Heap} {x qual : Str} {st : Stmt} {f : Addr} {fd : FuncData} {N ps : List Str} {k : Nat} {φ : FS} {O' : List Nat} (F : Fun K x qual st f fd) (S : FnScope N ps (defScope st))
    (hbody : ∀ (cdv : Value) (A : Around) (outer : List Env) (s : Shared) (H : Hp) (E : XK), Room k (A.deeper (envOfC qual (defScope st) s.heap.objs.size f cdv)) →
      JB (cxOf CX0 P w K mg base N qual (defScope st) f cdv A outer s H E).nox (defBody st) (sD ⟨K, mg, E0⟩ [] [] O' φ)) : FnOk P w K mg base CX0 (k + 1) f fd ps (spN K mg (runN φ N ps)) := by
  refine F.okJ S (fun vs H Q E h => ?_) fun cdv A outer s H vs Q E hr h => ?_
  · obtain ⟨as, ds, ex, dv, h⟩ := h
    unfold runN at h
    split at h
    · rename_i hl; rw [← dv.len]; exact hl
    · exact h.elim
  · obtain ⟨as, ds, ex, dv, h⟩ := h
    unfold runN at h
    split at h
    · rename_i hl
      refine ⟨_, hbody cdv A outer s H E hr, as, H, [], startD N ds, ⟨?_, rfl, List.nodup_nil, List.nodup_nil, fun a ha => (nomatch ha), ex, Same.refl _, fun i d _ e => ?_, fun i a h => (by simp at h)⟩, ?_⟩
      · unfold startD start
        simp [dv.len]
      · unfold startD at e
        unfold start
        rw [← dv.len]
        exact dens_start dv e
      · cases hr : φ (startD N ds) with
        | ok fl =>
          rw [hr] at h
          cases fl with
          | rn d => exact fun p o H' s hp e od => h p o H' s hp e od
          | rt d => exact h.elim
          | nx δ => exact h.elim
          | bk δ => exact h.elim
          | ct δ => exact h.elim
        | er x => rw [hr] at h; exact fun e C H' s => h e C H' s
        | no => rw [hr] at h; exact h.elim
    · exact h.elim
section
variable {K : PySem.W.Frag} {mg : Str → Option Value} {X : Cx} {O : List Nat} {x : Str} {st : Stmt} {ps : List Str} {f : Addr} {fd : FuncData} {j k : Nat} {F : List D → R D} {p pos : Pos} {e : Expr} {es : List Expr} {α : FA}
theorem fits_bindNA {W : Wd} {as : List Addr} {H : Hp} {Q : VK} {r : R (List D)} {g : List D → R D} {Q' : List V → Hp → Prop} (h : FitsN W as H (r.bind g) Q) (q : ∀ d v H', Same H H' → Dens W.K (mask as H') d v → FitsN W as H' (g d) Q → Q' v H') : FitsA W as H r Q' := fits_bindAN h q
theorem d_callN (D : Def X.K X.mg x st ps f fd) (G : FnOk X.prog X.w X.K X.mg X.base CX0 j f fd ps (spN K mg F)) (hr : Room k X.A) (ha : JA X (e :: es) (tDA ⟨K, mg, E0⟩ O α)) (hj : j ≤ k := by decide) (hg : Gl X x := by rfl) (hdb : (x == ("__debug__" : Str)) = false := by decide)
    (h1 : noStar e = true := by rfl) (h2 : es.all noStar = true := by rfl) : JE X (.Call (.Name x p) (e :: es) [] pos) (tN ⟨K, mg, E0⟩ O (vCall F α)) :=
  (j_call D G hr ha hj hg hdb h1 h2).imp fun σ H Q hh => exE hh fun as0 B own δ I h => ⟨as0, B, own, δ, I, fits_bindNA h fun ds vs H1 s1 d1 h1 => ⟨own ++ as0, ds, (I.mono s1).exi, d1, h1⟩⟩
end
theorem law_sp {a : Addr} {ns : List Int} {H : Hp} {F : List D → R D} {Q : VK} {E : XK} (hS : SqL K H a (ns.map V.int)) (h : F [.lst (ns.map D.int)] = .ok (.bl true)) (q : ∀ H', Q (.bl true) H') : spD K mg F [.ref a] H Q E := by
  refine ⟨[], [.lst (ns.map D.int)], fun a ha => (nomatch ha), ⟨.ref a, [], rfl, ⟨a, ns.map V.int, rfl, by rw [mask_nil]; exact hS, ?_⟩, rfl⟩, ?_⟩
  · clear h hS
    induction ns with
    | nil => exact rfl
    | cons n r ih => exact ⟨_, _, rfl, rfl, ih⟩
  · rw [h]
    intro v H' s dv
    cases dv
    exact q H'
end
end L2
namespace L2
open PySem PySem.Spec PyProof.Rows
set_option maxHeartbeats 4000000
set_option linter.unusedVariables false
section
variable {W : Wd} {X : Cx}
theorem fitsOk {as : List Addr} {H : Hp} {d : D} {v : V} {Q : VK} (h : Fits W as H (.ok d) Q) (hd : Den W.K (mask as H) d v) : Q v H := h v H (Same.refl _) hd
theorem op_catS : OpR X (binaryOp .Add) (fun x y H Q => ∃ l b xs zs, x = .ref l ∧ y = .ref b ∧ SqL X.K H l xs ∧ SqL X.K H b zs ∧ xs.length + zs.length ≤ sizeLine ∧ ∀ p, H p = none → Q (.ref p) (upd H p (.lst (xs ++ zs)))) := by
  intro pins s σ H x y v u Q I rx ry h
  obtain ⟨l, b, xs, zs, rfl, rfl, hH, hB, hz, q⟩ := h
  cases rx
  cases ry
  obtain ⟨its, r, pl, hl⟩ := I.list hH
  obtain ⟨its2, r2, pl2, hl2⟩ := I.list hB
  obtain ⟨⟨cls, dd, data, sl⟩, ho, hc, n, hd⟩ := pl.isList
  obtain ⟨⟨cls2, dd2, data2, sl2⟩, ho2, hc2, n2, hd2⟩ := pl2.isList
  simp only at hc hd hc2 hd2
  subst hc hd hc2 hd2
  have e : its.toArray ++ its2.toArray = (its ++ its2).toArray := by simp
  refine concat_meets ⟨_, ho, rfl⟩ ⟨_, ho2, rfl⟩ noFill_list_add seq_list_add PySem.F.slot_list_add PySem.F.entry_list_add (PySem.F.args_list_add_2 _ _) (list_addW l b its.toArray its2.toArray n n2 dd dd2 sl sl2 (by rw [List.size_toArray, List.size_toArray, ← r.length, ← r2.length]; exact hz)) ⟨ho, ho2, ?_⟩
  rw [e]
  exact ⟨.ref _, _, I.lnew (t' := s.toks) (r.append r2) (by rw [List.length_append]; exact hz), rfl, q _ I.fresh⟩
noncomputable def uPlus (K : PySem.W.Frag) : R2 := fun x y H Q => match x, y with
  | .int i, .int j => Q (.int (i + j)) H
  | .str i, .str j => i.length + j.length ≤ sizeLine ∧ Q (.str (i ++ j)) H
  | .ref l, .ref b => (∃ xs zs, SqL K H l xs ∧ SqL K H b zs ∧ xs.length + zs.length ≤ sizeLine ∧ ∀ p, H p = none → Q (.ref p) (upd H p (.lst (xs ++ zs)))) ∨
      ∃ xs zs, SqT K H l xs ∧ SqT K H b zs ∧ xs ≠ [] ∧ xs.length + zs.length ≤ sizeLine ∧ (zs = [] → Q (.ref l) H) ∧ (zs ≠ [] → ∀ p, H p = none → Q (.ref p) (upd H p (.tup (xs ++ zs))))
  | _, _ => False
theorem oPlus (K : PySem.W.Frag) (hK : X.K = K := by rfl) : OpR X (binaryOp .Add) (uPlus K) := by
  subst hK
  refine ((op_add.or op_add_str).or (op_catS.or op_catT)).imp fun x y H Q q => ?_
  unfold uPlus at q
  split at q
  · exact .inl (.inl ⟨_, _, rfl, rfl, q⟩)
  · exact .inl (.inr ⟨_, _, rfl, rfl, q.1, q.2⟩)
  · rcases q with ⟨xs, zs, h1, h2, h3, h4⟩ | ⟨xs, zs, h1, h2, h3, h4, h5, h6⟩
    · exact .inr (.inl ⟨_, _, xs, zs, rfl, rfl, h1, h2, h3, h4⟩)
    · exact .inr (.inr ⟨_, _, xs, zs, rfl, rfl, h1, h2, h3, h4, h5, h6⟩)
  · exact q.elim
noncomputable def addD (a b : D) : R D := match a, b with
  | .int i, .int j => .ok (.int (i + j))
  | .str x, .str y => if x.length + y.length ≤ 1000000 then .ok (.str (x ++ y)) else .no
  | .lst xs, .lst ys => if xs.length + ys.length ≤ 1000000 then .ok (.lst (xs ++ ys)) else .no
  | .tup xs, .tup ys => if xs.isEmpty = false ∧ xs.length + ys.length ≤ 1000000 then .ok (.tup (xs ++ ys)) else .no
  | _, _ => .no
theorem pAdd (K : PySem.W.Frag) (hW : W.K = K := by rfl) : OpD W (uPlus K) addD := by
  subst hW
  intro as H x y a b Q hn da db h
  unfold addD at h
  split at h
  · cases da; cases db; exact fitsOk h rfl
  · cases da; cases db
    split at h
    · rename_i hl; exact ⟨Nat.le_trans hl million, fitsOk h rfl⟩
    · exact h.elim
  · rename_i xs ys
    obtain ⟨p, vs, rfl, q1, q2⟩ := da
    obtain ⟨p2, ws, rfl, q3, q4⟩ := db
    split at h
    · rename_i hl
      rw [q2.len, q4.len] at hl
      refine .inl ⟨vs, ws, (mask_le _ _).seq q1, (mask_le _ _).seq q3, Nat.le_trans hl million, fun p hp => ?_⟩
      refine h _ _ (same_new hp _) ⟨p, vs ++ ws, rfl, .inl (.inl (by rw [mask_out (hn p hp)]; exact upd_same)), (q2.append q4).mono (mask_mono (same_new hp _))⟩
    · exact h.elim
  · rename_i xs ys
    obtain ⟨p, vs, rfl, q1, q2⟩ := da
    obtain ⟨p2, ws, rfl, q3, q4⟩ := db
    split at h
    · rename_i hl
      obtain ⟨he, hl⟩ := hl
      have he' : vs ≠ [] := fun z => by
        have := q2.empty
        rw [he, z] at this; cases this
      rw [q2.len, q4.len] at hl
      refine .inr ⟨vs, ws, (mask_le _ _).seqT q1, (mask_le _ _).seqT q3, he', Nat.le_trans hl million, fun z => ?_, fun z p hp => ?_⟩
      · have : ys = [] := by
          cases ys with
          | nil => rfl
          | cons d r => obtain ⟨_, _, e, _⟩ := q4; rw [z] at e; cases e
        subst this
        rw [List.append_nil] at h
        exact fitsOk h ⟨p, vs, rfl, q1, q2⟩
      · exact h _ _ (same_new hp _) ⟨p, vs ++ ws, rfl, (by show mask _ _ p = _; rw [mask_out (hn p hp)]; exact upd_same), (q2.append q4).mono (mask_mono (same_new hp _))⟩
    · exact h.elim
  · exact h.elim
noncomputable def subD (a b : D) : R D := match a, b with
  | .int i, .int j => .ok (.int (i - j))
  | _, _ => .no
theorem pSub : OpD W uSub subD := by
  intro as H x y a b Q hn da db h
  unfold subD at h
  split at h
  · cases da; cases db; exact fitsOk h rfl
  · exact h.elim
theorem op_mul_str : OpR X (binaryOp .Mult) (fun x y H Q => ∃ i n, x = .str i ∧ y = .int n ∧ MulOk i n ∧ Q (.str (Txt.mul i n)) H) := by
  intro pins s σ H x y v u Q I rx ry h
  obtain ⟨i, n, rfl, rfl, hm, q⟩ := h
  obtain ⟨t, rfl⟩ := rx
  obtain ⟨t', rfl⟩ := ry
  exact wpAny_guard I.tk (SB.mul hm fun t' k htk => ⟨.str _, H, I.tok _, ⟨t', rfl⟩, q⟩)
noncomputable def uMulD : R2 := fun x y H Q => match x, y with
  | .int i, .int j => CMul i j ∧ Q (.int (i * j)) H
  | .str i, .int j => MulOk i j ∧ Q (.str (Txt.mul i j)) H
  | _, _ => False
theorem oMulD : OpR X (binaryOp .Mult) uMulD := (op_mul.or op_mul_str).imp fun x y H Q q => by
  unfold uMulD at q
  split at q
  · exact .inl ⟨_, _, rfl, rfl, q.1, q.2⟩
  · exact .inr ⟨_, _, rfl, rfl, q.1, q.2⟩
  · exact q.elim
instance (i j : Int) : Decidable (CMul i j) := by unfold CMul; infer_instance
instance (i j : Int) : Decidable (CDiv i j) := by unfold CDiv; infer_instance
instance (i j : Int) : Decidable (CPow i j) := by unfold CPow; infer_instance
noncomputable def mulD (a b : D) : R D := match a, b with
  | .int i, .int j => if CMul i j then .ok (.int (i * j)) else .no
  | .str x, .int n => if x.length ≤ 1000 ∧ -1000 ≤ n ∧ n ≤ 1000 then .ok (.str (Txt.mul x n)) else .no
  | _, _ => .no
theorem pMul : OpD W uMulD mulD := by
  intro as H x y a b Q hn da db h
  unfold mulD at h
  split at h
  · cases da; cases db
    split at h
    · rename_i hl; exact ⟨hl, fitsOk h rfl⟩
    · exact h.elim
  · cases da; cases db
    split at h
    · rename_i hl; exact ⟨mulOk_of 1000 1000 hl.1 (by omega) (by omega) (by decide) (by decide), fitsOk h rfl⟩
    · exact h.elim
  · exact h.elim
noncomputable def divD (a b : D) : R D := match a, b with
  | .int i, .int j => if CDiv i j then .ok (.int (i / j)) else .no
  | _, _ => .no
theorem pDiv : OpD W uDiv divD := by
  intro as H x y a b Q hn da db h
  unfold divD at h
  split at h
  · cases da; cases db
    split at h
    · rename_i hl; exact ⟨hl, fitsOk h rfl⟩
    · exact h.elim
  · exact h.elim
noncomputable def modD (a b : D) : R D := match a, b with
  | .int i, .int j => if 0 < j then .ok (.int (i % j)) else .no
  | _, _ => .no
theorem pMod : OpD W uMod modD := by
  intro as H x y a b Q hn da db h
  unfold modD at h
  split at h
  · cases da; cases db
    split at h
    · rename_i hl; exact ⟨hl, fitsOk h rfl⟩
    · exact h.elim
  · exact h.elim
noncomputable def powD (a b : D) : R D := match a, b with
  | .int i, .int j => if CPow i j then .ok (.int (i ^ j.toNat)) else .no
  | _, _ => .no
theorem pPow : OpD W uPow powD := by
  intro as H x y a b Q hn da db h
  unfold powD at h
  split at h
  · cases da; cases db
    split at h
    · rename_i hl; exact ⟨hl, fitsOk h rfl⟩
    · exact h.elim
  · exact h.elim
noncomputable def ltD (a b : D) : R D := match a, b with
  | .int i, .int j => .ok (.bl (decide (i < j)))
  | .str i, .str j => .ok (.bl (decide (i.cps.toList < j.cps.toList)))
  | _, _ => .no
theorem pLt : OpD W uLt ltD := by
  intro as H x y a b Q hn da db h
  unfold ltD at h
  split at h
  · cases da; cases db; exact fitsOk h rfl
  · cases da; cases db; exact fitsOk h rfl
  · exact h.elim
noncomputable def isN : D → Bool
  | .non => true
  | _ => false
noncomputable def isB (j : Bool) : D → Bool
  | .bl i => i == j
  | _ => false
noncomputable def isNotD (x : D) (y : D) : R D := match y with
  | .non => .ok (.bl (!isN x))
  | .bl j => .ok (.bl (!isB j x))
  | _ => .no
theorem isV_den_n {K : PySem.W.Frag} {H : Hp} {a : D} {x : V} (h : Den K H a x) : isV x .non = isN a := by
  cases a with
  | lst _ => obtain ⟨_, _, rfl, _⟩ := h; rfl
  | tup _ => obtain ⟨_, _, rfl, _⟩ := h; rfl
  | dct _ => obtain ⟨_, _, rfl, _⟩ := h; rfl
  | dcT _ => obtain ⟨_, _, rfl, _⟩ := h; rfl
  | obj _ _ => obtain ⟨_, _, _, rfl, _⟩ := h; rfl
  | exn _ => obtain ⟨_, _, rfl, _⟩ := h; rfl
  | cls _ => obtain ⟨_, rfl, _⟩ := h; rfl
  | _ => cases h; rfl
theorem isV_den_b {K : PySem.W.Frag} {H : Hp} {a : D} {x : V} {j : Bool} (h : Den K H a x) : isV x (.bl j) = isB j a := by
  cases a with
  | lst _ => obtain ⟨_, _, rfl, _⟩ := h; rfl
  | tup _ => obtain ⟨_, _, rfl, _⟩ := h; rfl
  | dct _ => obtain ⟨_, _, rfl, _⟩ := h; rfl
  | dcT _ => obtain ⟨_, _, rfl, _⟩ := h; rfl
  | obj _ _ => obtain ⟨_, _, _, rfl, _⟩ := h; rfl
  | exn _ => obtain ⟨_, _, rfl, _⟩ := h; rfl
  | cls _ => obtain ⟨_, rfl, _⟩ := h; rfl
  | _ => cases h; rfl
theorem pIsNot : OpD W uIsNot isNotD := by
  intro as H x y a b Q hn da db h
  unfold isNotD at h
  split at h
  · cases db
    show Q (.bl (!isV x .non)) H
    rw [isV_den_n da]
    exact fitsOk h rfl
  · cases db
    show Q (.bl (!isV x (.bl _))) H
    rw [isV_den_b da]
    exact fitsOk h rfl
  · exact h.elim
mutual
noncomputable def toPy : D → Option PyData
  | .non => some .none
  | .bl b => some (.bool b)
  | .int i => some (.int i)
  | .str x => some (.str x)
  | .lst xs => (toPys xs).map .list
  | .tup xs => (toPys xs).map .tuple
  | _ => none
noncomputable def toPys : List D → Option (List PyData)
  | [] => some []
  | d :: ds => (toPy d).bind fun p => (toPys ds).map (p :: ·)
end
mutual
theorem reads_of {pins : List (Addr × Obj)} {σ : St} {H : Hp} {s : Shared} (I : Inv X pins σ H s) : ∀ {d : D} {v : V} {u : Value} {p : PyData}, Den X.K H d v → RelV v u → toPy d = some p → ∃ as, Reads s.heap u p as
  | .non, _, _, _, h, r, e => by cases h; cases r; cases e; exact ⟨_, .none⟩
  | .bl b, _, _, _, h, r, e => by cases h; cases r; cases e; exact ⟨_, .bool b⟩
  | .int i, _, _, _, h, r, e => by cases h; obtain ⟨t, rfl⟩ := r; cases e; exact ⟨_, .int i t⟩
  | .str x, _, _, _, h, r, e => by cases h; obtain ⟨t, rfl⟩ := r; cases e; exact ⟨_, .str x t⟩
  | .lst ds, _, _, _, ⟨a, xs, h0, h1, h2⟩, r, e => by
    subst h0
    cases r
    unfold toPy at e
    cases q : toPys ds with
    | none => rw [q] at e; cases e
    | some ps =>
      rw [q] at e
      cases e
      obtain ⟨its, rv, pl, hz⟩ := I.list h1
      obtain ⟨o, ho, hc, n, hd⟩ := pl.isList
      obtain ⟨as, ha⟩ := readsAll_of I h2 rv q
      exact ⟨_, .list ho hc hd (by simpa using ha)⟩
  | .tup ds, _, _, _, ⟨a, xs, h0, h1, h2⟩, r, e => by
    subst h0
    cases r
    unfold toPy at e
    cases q : toPys ds with
    | none => rw [q] at e; cases e
    | some ps =>
      rw [q] at e
      cases e
      obtain ⟨its, rv, pl, hz⟩ := I.tuple h1
      obtain ⟨o, ho, hc, n, hd⟩ := pl
      obtain ⟨as, ha⟩ := readsAll_of I h2 rv q
      exact ⟨_, .tuple ho hc hd (by simpa using ha)⟩
  | .dct _, _, _, _, _, _, e => by cases e
  | .obj _ _, _, _, _, _, _, e => by cases e
  | .ty _, _, _, _, _, _, e => by cases e
  | .dcT _, _, _, _, _, _, e => by cases e
  | .exn _, _, _, _, _, _, e => by cases e
  | .cls _, _, _, _, _, _, e => by cases e
theorem readsAll_of {pins : List (Addr × Obj)} {σ : St} {H : Hp} {s : Shared} (I : Inv X pins σ H s) : ∀ {ds : List D} {vs : List V} {us : List Value} {ps : List PyData}, Dens X.K H ds vs → Vals vs us → toPys ds = some ps → ∃ as, ReadsAll s.heap us ps as
  | [], _, _, _, h, r, e => by cases h; cases r; cases e; exact ⟨_, .nil⟩
  | d :: ds, _, _, _, ⟨v, vs, h0, h1, h2⟩, r, e => by
    subst h0
    unfold toPys at e
    cases q : toPy d with
    | none => rw [q] at e; cases e
    | some p =>
      rw [q] at e
      have e : (toPys ds).map (p :: ·) = some _ := e
      cases q2 : toPys ds with
      | none => rw [q2] at e; cases e
      | some ps =>
        rw [q2] at e
        cases e
        cases r with
        | cons r1 r2 =>
          obtain ⟨as, ha⟩ := reads_of I h1 r1 q
          obtain ⟨bs, hb⟩ := readsAll_of I h2 r2 q2
          exact ⟨_, .cons ha hb⟩
end
noncomputable def scalD : D → Option V
  | .non => some .non
  | .bl b => some (.bl b)
  | .int i => some (.int i)
  | .str x => some (.str x)
  | _ => none
theorem scalD_den {K : PySem.W.Frag} {H : Hp} {d : D} {v x : V} (h : Den K H d v) (e : scalD d = some x) : v = x := by
  cases d with
  | non => cases e; exact h
  | bl b => cases e; exact h
  | int b => cases e; exact h
  | str b => cases e; exact h
  | _ => cases e
noncomputable def deepEq (a b : D) : Option Bool := match toPy a, toPy b with
  | some p, some q => if SeqAt.shaped p = true ∧ SeqAt.shaped q = true then some (PyData.eqv p q) else none
  | _, _ => none
noncomputable def eqO (a b : D) : Option Bool := match scalD a, scalD b with
  | some x, some y => if scal x y = true then some (decide (x = y)) else none
  | _, _ => deepEq a b
noncomputable def uEqD (K : PySem.W.Frag) (f : Bool → Bool) : R2 := fun x y H Q => ∃ a b k, Den K H a x ∧ Den K H b y ∧ eqO a b = some k ∧ Q (.bl (f k)) H
theorem deep_inv {a b : D} {k : Bool} (h : deepEq a b = some k) : ∃ p q, toPy a = some p ∧ toPy b = some q ∧ SeqAt.shaped p = true ∧ SeqAt.shaped q = true ∧ k = PyData.eqv p q := by
  unfold deepEq at h
  split at h
  · rename_i p q h1 h2
    split at h
    · rename_i hs; cases h; exact ⟨p, q, h1, h2, hs.1, hs.2, rfl⟩
    · cases h
  · cases h
theorem oEqD (K : PySem.W.Frag) (hu : X.A.units + 64 < cLine) (hK : X.K = K := by rfl) : OpR X (compareOp .Eq) (uEqD K fun k => k) := by
  subst hK
  intro pins s σ H x y v u Q I rx ry h
  obtain ⟨a, b, k, da, db, e, q⟩ := h
  unfold eqO at e
  split at e
  · rename_i x' y' e1 e2
    split at e
    · rename_i hs
      cases e
      have := scalD_den da e1; subst this
      have := scalD_den db e2; subst this
      exact op_eq pins s σ H _ _ v u Q I rx ry ⟨hs, q⟩
    · cases e
  · obtain ⟨p, p', h1, h2, h3, h4, rfl⟩ := deep_inv e
    obtain ⟨as, ra⟩ := reads_of I da rx h1
    obtain ⟨bs, rb⟩ := reads_of I db ry h2
    exact eq_dataH ra rb h3 h4 hu ⟨.bl _, H, I, rfl, q⟩
theorem oNeD (K : PySem.W.Frag) (hu : X.A.units + 64 < cLine) (hK : X.K = K := by rfl) : OpR X (compareOp .NotEq) (uEqD K fun k => !k) := by
  subst hK
  intro pins s σ H x y v u Q I rx ry h
  obtain ⟨a, b, k, da, db, e, q⟩ := h
  unfold eqO at e
  split at e
  · rename_i x' y' e1 e2
    split at e
    · rename_i hs
      cases e
      have := scalD_den da e1; subst this
      have := scalD_den db e2; subst this
      exact op_ne pins s σ H _ _ v u Q I rx ry ⟨hs, q⟩
    · cases e
  · obtain ⟨p, p', h1, h2, h3, h4, rfl⟩ := deep_inv e
    obtain ⟨as, ra⟩ := reads_of I da rx h1
    obtain ⟨bs, rb⟩ := reads_of I db ry h2
    exact ne_dataH ra rb h3 h4 hu ⟨.bl _, H, I, rfl, q⟩
noncomputable def optR (o : Option Bool) (f : Bool → Bool) : R D := match o with
  | some k => .ok (.bl (f k))
  | none => .no
noncomputable def eqD (a b : D) : R D := optR (eqO a b) fun k => k
noncomputable def neD (a b : D) : R D := optR (eqO a b) fun k => !k
theorem pEqs (K : PySem.W.Frag) (f : Bool → Bool) (hW : W.K = K := by rfl) : OpD W (uEqD K f) (fun a b => optR (eqO a b) f) := by
  subst hW
  intro as H x y a b Q hn da db h
  have h : Fits W as H (optR (eqO a b) f) Q := h
  cases e : eqO a b with
  | none => rw [e] at h; exact h.elim
  | some k =>
    rw [e] at h
    exact ⟨a, b, k, da.mono (mask_le _ _), db.mono (mask_le _ _), e, fitsOk h rfl⟩
theorem pEq (K : PySem.W.Frag) (hW : W.K = K := by rfl) : OpD W (uEqD K fun k => k) eqD := pEqs K _ hW
theorem pNe (K : PySem.W.Frag) (hW : W.K = K := by rfl) : OpD W (uEqD K fun k => !k) neD := pEqs K _ hW
noncomputable def scalsD : List D → Option (List V)
  | [] => some []
  | d :: ds => (scalD d).bind fun v => (scalsD ds).map (v :: ·)
theorem scalsD_den {K : PySem.W.Frag} {H : Hp} : ∀ {ds : List D} {vs xs : List V}, Dens K H ds vs → scalsD ds = some xs → vs = xs ∧ xs.all flatV = true
  | [], _, _, h, e => by cases h; cases e; exact ⟨rfl, rfl⟩
  | d :: ds, _, _, ⟨v, vs, h0, h1, h2⟩, e => by
    subst h0
    unfold scalsD at e
    cases q : scalD d with
    | none => rw [q] at e; cases e
    | some x =>
      rw [q] at e
      have e : (scalsD ds).map (x :: ·) = some _ := e
      cases q2 : scalsD ds with
      | none => rw [q2] at e; cases e
      | some xs =>
        rw [q2] at e
        cases e
        obtain ⟨h3, h4⟩ := scalsD_den h2 q2
        refine ⟨by rw [scalD_den h1 q, h3], ?_⟩
        rw [List.all_cons, h4, Bool.and_true]
        cases d <;> cases q <;> rfl
theorem scalD_flat {d : D} {x : V} (e : scalD d = some x) : flatV x = true := by cases d <;> cases e <;> rfl
noncomputable def hasS (j i : Str) : Bool := !(Builtin.Str.occurrences j i 0 j.length 1).isEmpty
noncomputable def uInD (K : PySem.W.Frag) (neg : Bool) : R2 := fun x y H Q => match x, y with
  | .str i, .str j => Q (.bl (if neg = true then !hasS j i else hasS j i)) H
  | x, .ref p => ∃ xs, (SqL K H p xs ∨ SqT K H p xs) ∧ flatV x = true ∧ xs.all flatV = true ∧ Q (.bl (if neg = true then !inV x xs else inV x xs)) H
  | _, _ => False
theorem oInD (K : PySem.W.Frag) (hK : X.K = K := by rfl) : OpR X (compareOp .In) (uInD K false) := by
  subst hK
  refine (op_in_str.or op_in_seq).imp fun x y H Q q => ?_
  unfold uInD at q
  split at q
  · exact .inl ⟨_, _, rfl, rfl, q⟩
  · obtain ⟨xs, h1, h2, h3, h4⟩ := q
    exact .inr ⟨_, xs, rfl, h1, h2, h3, h4⟩
  · exact q.elim
noncomputable def seqIn (x : D) (xs : List D) : Option Bool := match scalD x, scalsD xs with
  | some v, some vs => some (inV v vs)
  | _, _ => none
noncomputable def inO (x y : D) : Option Bool := match y with
  | .str j => match x with
    | .str i => some (hasS j i)
    | _ => none
  | .lst xs => seqIn x xs
  | .tup xs => seqIn x xs
  | _ => none
noncomputable def inD (x y : D) : R D := optR (inO x y) fun k => if false = true then !k else k
theorem pIns (K : PySem.W.Frag) (neg : Bool) (hW : W.K = K := by rfl) : OpD W (uInD K neg) (fun a b => optR (inO a b) fun k => if neg = true then !k else k) := by
  subst hW
  intro as H x y a b Q hn da db h
  have key : ∀ (p : Addr) (ds : List D) (vs : List V), y = .ref p → (SqL W.K H p vs ∨ SqT W.K H p vs) → Dens W.K (mask as H) ds vs → Fits W as H (optR (seqIn a ds) fun k => if neg = true then !k else k) Q → uInD W.K neg x y H Q := by
    intro p ds vs hy hq hd h
    subst hy
    unfold seqIn at h
    cases e1 : scalD a with
    | none => rw [e1] at h; exact h.elim
    | some v =>
      rw [e1] at h
      cases e2 : scalsD ds with
      | none => rw [e2] at h; exact h.elim
      | some ws =>
        rw [e2] at h
        have := scalD_den da e1
        subst this
        obtain ⟨h3, h4⟩ := scalsD_den hd e2
        subst h3
        have fin : ∃ xs, (SqL W.K H p xs ∨ SqT W.K H p xs) ∧ flatV x = true ∧ xs.all flatV = true ∧ Q (.bl (if neg = true then !inV x xs else inV x xs)) H := ⟨vs, hq, scalD_flat e1, h4, fitsOk h rfl⟩
        cases x <;> exact fin
  cases b with
  | str j =>
    cases a with
    | str i => cases da; cases db; exact fitsOk h rfl
    | _ => exact h.elim
  | lst ds => obtain ⟨p, vs, rfl, q1, q2⟩ := db; exact key p ds vs rfl (.inl ((mask_le _ _).seq q1)) q2 h
  | tup ds => obtain ⟨p, vs, rfl, q1, q2⟩ := db; exact key p ds vs rfl (.inr ((mask_le _ _).seqT q1)) q2 h
  | _ => exact h.elim
theorem pIn (K : PySem.W.Frag) (hW : W.K = K := by rfl) : OpD W (uInD K false) inD := pIns K false hW
noncomputable def ixD (a b : D) : R D := match a, b with
  | .str z, .int i => if z.length ≤ 1000000 then (match atI z.cps.toList i with
    | some c => .ok (.str ⟨#[c]⟩)
    | none => .no) else .no
  | .lst xs, .int i => match atI xs i with
    | some d => .ok d
    | none => .no
  | .tup xs, .int i => match atI xs i with
    | some d => .ok d
    | none => .no
  | _, _ => .no
theorem Dens.atI {K : PySem.W.Frag} {H : Hp} {ds : List D} {xs : List V} {i : Int} {d : D} (h : Dens K H ds xs) (e : atI ds i = some d) : ∃ v, L2.atI xs i = some v ∧ Den K H d v := by
  unfold L2.atI at e ⊢
  rw [h.len] at e
  cases q : ixN xs.length i with
  | none => rw [q] at e; cases e
  | some j =>
    rw [q] at e
    exact h.get e
theorem pIx (K : PySem.W.Frag) (hW : W.K = K := by rfl) : OpD W (uIx K) ixD := by
  subst hW
  intro as H x y a b Q hn da db h
  unfold ixD at h
  split at h
  · cases da; cases db
    split at h
    · rename_i hl
      split at h
      · rename_i c e; exact ⟨c, Nat.le_trans hl million, e, fitsOk h rfl⟩
      · exact h.elim
    · exact h.elim
  · obtain ⟨p, vs, rfl, q1, q2⟩ := da
    cases db
    split at h
    · rename_i d e
      obtain ⟨v, h1, h2⟩ := q2.atI e
      exact ⟨vs, v, .inl ((mask_le _ _).seq q1), h1, fitsOk h h2⟩
    · exact h.elim
  · obtain ⟨p, vs, rfl, q1, q2⟩ := da
    cases db
    split at h
    · rename_i d e
      obtain ⟨v, h1, h2⟩ := q2.atI e
      exact ⟨vs, v, .inr ((mask_le _ _).seqT q1), h1, fitsOk h h2⟩
    · exact h.elim
  · exact h.elim
noncomputable def cutD (xs : List D) (lo hi : Option Int) : List D := (xs.drop (HT.sIx xs.length 0 lo)).take (HT.sIx xs.length xs.length hi - HT.sIx xs.length 0 lo)
theorem Dens.cut {K : PySem.W.Frag} {H : Hp} {ds : List D} {xs : List V} (h : Dens K H ds xs) (lo hi : Option Int) : Dens K H (cutD ds lo hi) (cutV xs lo hi) := by
  unfold cutD cutV
  rw [h.len]
  exact (h.drop _).take _
noncomputable def slD (a : D) (lo hi : Option Int) : R D := match a with
  | .str z => if z.length ≤ 1000000 then .ok (.str (cutS z lo hi)) else .no
  | .lst xs => .ok (.lst (cutD xs lo hi))
  | .tup xs => if HT.sIx xs.length 0 lo = 0 ∧ HT.sIx xs.length xs.length hi = xs.length then .no else .ok (.tup (cutD xs lo hi))
  | _ => .no
theorem pSl (K : PySem.W.Frag) (hW : W.K = K := by rfl) : SlD W (uSl K) slD := by
  subst hW
  intro as H x lo hi a Q hn da h
  unfold slD at h
  split at h
  · cases da
    split at h
    · rename_i hl; exact ⟨Nat.le_trans hl million, fitsOk h rfl⟩
    · exact h.elim
  · obtain ⟨p, vs, rfl, q1, q2⟩ := da
    refine .inl ⟨vs, (mask_le _ _).seq q1, fun p hp => h _ _ (same_new hp _) ⟨p, _, rfl, .inl (.inl (by rw [mask_out (hn p hp)]; exact upd_same)), (q2.cut lo hi).mono (mask_mono (same_new hp _))⟩⟩
  · obtain ⟨p, vs, rfl, q1, q2⟩ := da
    rename_i xs
    split at h
    · exact h.elim
    · rename_i hc
      rw [q2.len] at hc
      exact .inr ⟨vs, (mask_le _ _).seqT q1, hc, fun p hp => h _ _ (same_new hp _) ⟨p, _, rfl, (by show mask _ _ p = _; rw [mask_out (hn p hp)]; exact upd_same), (q2.cut lo hi).mono (mask_mono (same_new hp _))⟩⟩
  · exact h.elim
noncomputable def lenD (ds : List D) : R D := match ds with
  | [.str z] => if z.length ≤ 1000000 then .ok (.int z.length) else .no
  | [.lst xs] => .ok (.int xs.length)
  | [.tup xs] => .ok (.int xs.length)
  | _ => .no
theorem dens1 {K : PySem.W.Frag} {H : Hp} {d : D} {xs : List V} (h : Dens K H [d] xs) : ∃ v, xs = [v] ∧ Den K H d v := by
  obtain ⟨v, vs, rfl, h1, h2⟩ := h
  cases h2
  exact ⟨v, rfl, h1⟩
theorem dens2 {K : PySem.W.Frag} {H : Hp} {d e : D} {xs : List V} (h : Dens K H [d, e] xs) : ∃ v u, xs = [v, u] ∧ Den K H d v ∧ Den K H e u := by
  obtain ⟨v, vs, rfl, h1, h2⟩ := h
  obtain ⟨u, rfl, h3⟩ := dens1 h2
  exact ⟨v, u, rfl, h1, h3⟩
theorem pLen (K : PySem.W.Frag) (hW : W.K = K := by rfl) : CallD W (uLen K) lenD := by
  subst hW
  intro as H xs ds Q hn dv h
  unfold lenD at h
  split at h
  · obtain ⟨v, rfl, d1⟩ := dens1 dv
    cases d1
    split at h
    · rename_i hl; exact ⟨Nat.le_trans hl million, fitsOk h rfl⟩
    · exact h.elim
  · obtain ⟨v, rfl, d1⟩ := dens1 dv
    obtain ⟨p, vs, rfl, q1, q2⟩ := d1
    refine ⟨vs, .inl ((mask_le _ _).seq q1), ?_⟩
    rw [← q2.len]
    exact fitsOk h rfl
  · obtain ⟨v, rfl, d1⟩ := dens1 dv
    obtain ⟨p, vs, rfl, q1, q2⟩ := d1
    refine ⟨vs, .inr ((mask_le _ _).seqT q1), ?_⟩
    rw [← q2.len]
    exact fitsOk h rfl
  · exact h.elim
noncomputable def blsD : List D → Option (List Bool)
  | [] => some []
  | .bl b :: ds => (blsD ds).map (b :: ·)
  | _ => none
theorem blsD_den {K : PySem.W.Frag} {H : Hp} : ∀ {ds : List D} {vs : List V} {bs : List Bool}, Dens K H ds vs → blsD ds = some bs → vs = bs.map V.bl
  | [], _, _, h, e => by cases h; cases e; rfl
  | d :: ds, _, _, ⟨v, vs, h0, h1, h2⟩, e => by
    subst h0
    cases d with
    | bl b =>
      have e : (blsD ds).map (b :: ·) = some _ := e
      cases q2 : blsD ds with
      | none => rw [q2] at e; cases e
      | some xs =>
        rw [q2] at e
        cases e
        cases h1
        rw [blsD_den h2 q2]
        rfl
    | _ => cases e
noncomputable def uIsID (K : PySem.W.Frag) (xs : List V) (H : Hp) (Q : VK) : Prop := match xs with
  | [x, .ty C] => known C = true ∧ (match x with
    | .non => Q (.bl (subT "NoneType" C)) H
    | .bl _ => Q (.bl (subT "bool" C)) H
    | .int _ => Q (.bl (subT "int" C)) H
    | .str _ => Q (.bl (subT "str" C)) H
    | .ref a => (∃ xs, SqL K H a xs ∧ Q (.bl (subT "list" C)) H) ∨ (∃ xs, SqT K H a xs ∧ Q (.bl (subT "tuple" C)) H) ∨ ∃ kvs, H a = some (.dK kvs) ∧ Q (.bl (subT "dict" C)) H
    | _ => False)
  | _ => False
theorem qIsiD (K : PySem.W.Frag) (hK : X.K = K := by rfl) : CallR X (.builtin "isinstance") (uIsID K) := by
  subst hK
  intro pins s σ H xs us Q I r h
  unfold uIsID at h
  split at h
  · rename_i x C
    obtain ⟨hC, h⟩ := h
    obtain ⟨u, c, rfl, rx, rc⟩ := vals2 r
    cases rc
    have fin : ∀ (b : Bool), Q (.bl b) H → ∀ tk, X.tn ≤ tk → EP X pins σ Q (.bool b) { s with toks := tk } := fun b q tk htk => ⟨.bl b, H, I.tok tk, rfl, q⟩
    refine wpAny_guard I.tk ?_
    cases x with
    | non => exact isinst_ok I rx .non (kit_own (.inl rfl) hC) (fin _ h)
    | bl b => exact isinst_ok I rx (.bl b) (kit_own (.inr (.inl rfl)) hC) (fin _ h)
    | int b => exact isinst_ok I rx (.int b) (kit_own (.inr (.inr (.inl rfl))) hC) (fin _ h)
    | str b => exact isinst_ok I rx (.str b) (kit_own (.inr (.inr (.inr (.inl rfl)))) hC) (fin _ h)
    | ref a =>
      cases rx
      rcases h with ⟨xs, hq, q⟩ | ⟨xs, hq, q⟩ | ⟨kvs, hq, q⟩
      · obtain ⟨its, rv, pl, hz⟩ := I.list hq
        obtain ⟨o, ho, hc, n, hd⟩ := pl.isList
        exact PySem.W.kia_one PySem.W.kitx_list I.kIn ⟨o, ho, hc⟩ (kit_own (.inr (.inr (.inr (.inr (.inl rfl))))) hC) (fun z => nomatch z) (fin _ q)
      · obtain ⟨its, rv, pl, hz⟩ := I.tuple hq
        obtain ⟨o, ho, hc, n, hd⟩ := pl
        exact PySem.W.kia_one PySem.W.kitx_tuple I.kIn ⟨o, ho, hc⟩ (kit_own (.inr (.inr (.inr (.inr (.inr (.inl rfl)))))) hC) (fun z => nomatch z) (fin _ q)
      · exact isinst_ok (x := .ref a) I rfl (.dK hq) (kit_own (.inr (.inr (.inr (.inr (.inr (.inr rfl)))))) hC) (fin _ q)
    | _ => exact h.elim
  · exact h.elim
noncomputable def isiD (ds : List D) : R D := match ds with
  | [x, .ty C] => if known C = true then (match x with
    | .non => .ok (.bl (subT "NoneType" C))
    | .bl _ => .ok (.bl (subT "bool" C))
    | .int _ => .ok (.bl (subT "int" C))
    | .str _ => .ok (.bl (subT "str" C))
    | .lst _ => .ok (.bl (subT "list" C))
    | .tup _ => .ok (.bl (subT "tuple" C))
    | .dct _ => .ok (.bl (subT "dict" C))
    | _ => .no) else .no
  | _ => .no
theorem pIsi (K : PySem.W.Frag) (hW : W.K = K := by rfl) : CallD W (uIsID K) isiD := by
  subst hW
  intro as H xs ds Q hn dv h
  unfold isiD at h
  split at h
  · obtain ⟨v, u, rfl, d1, d2⟩ := dens2 dv
    cases d2
    split at h
    · rename_i hC
      split at h
      · cases d1; exact ⟨hC, fitsOk h rfl⟩
      · cases d1; exact ⟨hC, fitsOk h rfl⟩
      · cases d1; exact ⟨hC, fitsOk h rfl⟩
      · cases d1; exact ⟨hC, fitsOk h rfl⟩
      · obtain ⟨p, vs, rfl, q1, q2⟩ := d1; exact ⟨hC, .inl ⟨vs, (mask_le _ _).seq q1, fitsOk h rfl⟩⟩
      · obtain ⟨p, vs, rfl, q1, q2⟩ := d1; exact ⟨hC, .inr (.inl ⟨vs, (mask_le _ _).seqT q1, fitsOk h rfl⟩)⟩
      · obtain ⟨p, vs, rfl, q1, q2⟩ := d1; exact ⟨hC, .inr (.inr ⟨vs, mask_le _ _ _ _ q1, fitsOk h rfl⟩)⟩
      · exact h.elim
    · exact h.elim
  · exact h.elim
noncomputable def uTupOf (K : PySem.W.Frag) (xs : List V) (H : Hp) (Q : VK) : Prop := match xs with
  | [.ref p] => (∃ ys, SqL K H p ys ∧ ∀ l, H l = none → Q (.ref l) (upd H l (.tup ys))) ∨ ∃ ys, SqT K H p ys ∧ Q (.ref p) H
  | _ => False
theorem qTupOf (K : PySem.W.Frag) (hK : X.K = K := by rfl) : CallR X (.type "tuple") (uTupOf K) := by
  subst hK
  refine call_tuple_of.imp fun xs H Q q => ?_
  unfold uTupOf at q
  split at q
  · rcases q with ⟨ys, h1, h2⟩ | ⟨ys, h1, h2⟩
    · exact ⟨_, ys, rfl, .inl ⟨h1, h2⟩⟩
    · exact ⟨_, ys, rfl, .inr ⟨h1, h2⟩⟩
  · exact q.elim
noncomputable def tupD (ds : List D) : R D := match ds with
  | [.lst xs] => .ok (.tup xs)
  | [.tup xs] => .ok (.tup xs)
  | _ => .no
noncomputable def uLstOf (K : PySem.W.Frag) (xs : List V) (H : Hp) (Q : VK) : Prop := match xs with
  | [.ref p] => ∃ ys, (SqL K H p ys ∨ SqT K H p ys) ∧ ∀ l, H l = none → Q (.ref l) (upd H l (.lst ys))
  | _ => False
theorem qLstOf (K : PySem.W.Frag) (hK : X.K = K := by rfl) : CallR X (.type "list") (uLstOf K) := by
  subst hK
  refine call_list_of.imp fun xs H Q q => ?_
  unfold uLstOf at q
  split at q
  · obtain ⟨ys, h1, h2⟩ := q; exact ⟨_, ys, rfl, h1, h2⟩
  · exact q.elim
noncomputable def lstD (ds : List D) : R D := match ds with
  | [.lst xs] => .ok (.lst xs)
  | [.tup xs] => .ok (.lst xs)
  | _ => .no
theorem pLst (K : PySem.W.Frag) (hW : W.K = K := by rfl) : CallN W (uLstOf K) lstD := by
  subst hW
  intro as H xs ds Q hn dv h
  unfold lstD at h
  split at h
  · obtain ⟨v, rfl, d1⟩ := dens1 dv
    obtain ⟨p, vs, rfl, q1, q2⟩ := d1
    exact ⟨vs, .inl ((mask_le _ _).seq q1), fun l hl => h l _ _ (same_new hl _) hl upd_same ⟨vs, rfl, q2.mono (hide_new hl (same_new hl _))⟩⟩
  · obtain ⟨v, rfl, d1⟩ := dens1 dv
    obtain ⟨p, vs, rfl, q1, q2⟩ := d1
    exact ⟨vs, .inr ((mask_le _ _).seqT q1), fun l hl => h l _ _ (same_new hl _) hl upd_same ⟨vs, rfl, q2.mono (hide_new hl (same_new hl _))⟩⟩
  · exact h.elim
noncomputable def s1D (f : Str → Str → D) (z : Str) (ds : List D) : R D := match ds with
  | [.str y] => .ok (f z y)
  | _ => .no
end
end L2
namespace L2
open PySem PySem.Spec PyProof.Rows
set_option maxHeartbeats 4000000
set_option linter.unusedVariables false
section
variable {X : Cx} {o e : Expr} {es : List Expr} {to : TE} {t : TA} {name : Str} {apos cpos : Pos} {T id : String} {r : V → List V → Hp → VK → Prop}
theorem j_bm (pa : PlainAttrs T) (slot : Slot T name id) (hty : typeOf (.builtin id) = pure (.type "method_descriptor")) (hm : MtR X id r) (ho : JE X o to) (ha : JA X (e :: es) t)
    (hbase : attributeBase o name X.env (eval o X.env) = eval o X.env := by rfl) (hline : (apos.endLine == cpos.line) = true := by rfl) (h1 : (e :: es).all noStar = true := by rfl) (hl : (e :: es).length < 29 := by decide) :
    JE X (.Call (.Attribute o name apos) (e :: es) [] cpos) (tBM X.K T r to t) := by
  have h1' := h1
  rw [List.all_cons, Bool.and_eq_true] at h1'
  exact ⟨pe_bm pa slot hty hm ho.out ha.out hbase (star_few h1 hl) hline (star_one h1'.1) (star_any h1'.2)⟩
end
theorem zip_fun : ∀ {O : List Nat} {own : List Addr} {i : Nat} {a b : Addr}, O.Nodup → (i, a) ∈ O.zip own → (i, b) ∈ O.zip own → a = b
  | [], _, _, _, _, _, h, _ => by simp at h
  | _ :: _, [], _, _, _, _, h, _ => by simp at h
  | k :: O, c :: own, i, a, b, nd, h1, h2 => by
    rw [List.zip_cons_cons] at h1 h2
    rw [List.nodup_cons] at nd
    rcases List.mem_cons.mp h1 with e1 | h1 <;> rcases List.mem_cons.mp h2 with e2 | h2
    · cases e1; cases e2; rfl
    · cases e1; exact absurd (List.of_mem_zip h2).1 nd.1
    · cases e2; exact absurd (List.of_mem_zip h1).1 nd.1
    · exact zip_fun nd.2 h1 h2
theorem mask_upd {as : List Addr} {H : Hp} {a : Addr} {o : HO} (h : a ∈ as) : mask as (upd H a o) = mask as H := by
  funext b
  unfold mask
  split
  · rfl
  · rename_i hb
    exact upd_ne fun z => hb (by rw [z]; exact h)
theorem DI.mutate {K : PySem.W.Frag} {as0 own : List Addr} {B H : Hp} {O : List Nat} {σ : St} {δ : Sd} {i : Nat} {a : Addr} {o' : HO} {d' : D} (I : DI K as0 B O own σ δ H) (hi : (i, a) ∈ O.zip own) (h : OwnD K (mask (own ++ as0) H) o' d') :
    DI K as0 B O own σ (δ.set i (some d')) (upd H a o') := by
  have hm : a ∈ own ++ as0 := List.mem_append_left _ (List.of_mem_zip hi).2
  obtain ⟨d0, o0, h1, h2, h3, h4⟩ := I.owns i a hi
  have hil : i < δ.length := (List.getElem?_eq_some_iff.mp h1).1
  refine ⟨by simp [I.len], I.olen, I.nd, I.ond, I.fresh, I.ex0, fun b u e => ?_, fun j e hj q => ?_, fun j b hj => ?_⟩
  · have hb : b ≠ a := fun z => by
      have := I.fresh a (List.of_mem_zip hi).2
      rw [z, this] at e; cases e
    rw [upd_ne hb]
    exact I.same b u e
  · have hji : i ≠ j := fun z => hj (by rw [← z]; exact (List.of_mem_zip hi).1)
    rw [getElem?_set', if_neg hji] at q
    rw [mask_upd hm]
    exact I.var j e hj q
  · rw [mask_upd hm]
    by_cases hji : i = j
    · subst hji
      have := zip_fun I.ond hi hj
      subst this
      exact ⟨d', o', by rw [getElem?_set', if_pos rfl, if_pos hil], h2, upd_same, h⟩
    · obtain ⟨d, u, q1, q2, q3, q4⟩ := I.owns j b hj
      have hba : b ≠ a := fun z => hji (by rw [z] at hj; exact zip_inj I.nd hi hj)
      exact ⟨d, u, by rw [getElem?_set', if_neg hji]; exact q1, q2, by rw [upd_ne hba]; exact q3, q4⟩
section
variable {X : Cx} {W : Wd} {Ob O O' : List Nat} {e : Expr} {ε ψ : FE} {pos p1 p2 apos cpos : Pos} {x : Str}
theorem d_ixO (K : PySem.W.Frag) {i : Nat} (hi : i ∈ O) (hb : JE X e (tD W O ψ)) (hN : X.N[i]? = some x := by rfl) (hs : PlainIx e := by exact fun _ _ => rfl) (hv : Vis X.env.scope x := by first | exact Or.inl rfl | exact Or.inr (Or.inl rfl) | exact Or.inr (Or.inr rfl)) (hd : (x == ("__debug__" : Str)) = false := by decide)
    (hcd : (x == ("__classdict__" : Str)) = false := by decide) (hK : X.K = K := by rfl) (hW : W.K = K := by rfl) : JE X (.Subscript (.Name x p1) e pos) (tD W O (vOp ixD (vVar i) ψ)) :=
  (j_ix (oIx K hK) (jv i hN hv hd hcd) hb hs).imp fun σ H Q hh => exE hh fun as0 B own δ I h => by
    obtain ⟨a, ha⟩ := zip_left I.olen hi
    obtain ⟨d, o, h1, h2, h3, h4⟩ := I.owns i a ha
    have e0 : tOp (uIx K) (uVar i) (tD W O ψ) σ H Q = kVar σ[i]? H (kOp1 (uIx K) (tD W O ψ) σ Q) := rfl
    rw [e0, h2]
    have hv : vVar i δ = .ok d := by unfold vVar; rw [h1]
    have h' : Fits W (own ++ as0) H ((ψ δ).bind fun y => ixD d y) Q := by
      have e : vOp ixD (vVar i) ψ δ = (ψ δ).bind fun y => ixD d y := by unfold vOp; rw [hv]; rfl
      rw [← e]; exact h
    refine ⟨as0, B, own, δ, I, fits_bind h' fun y u H2 s2 d2 h2' => ?_⟩
    subst hW
    cases d with
    | lst ds =>
      obtain ⟨xs, rfl, q⟩ := h4
      cases y with
      | int k =>
        cases d2
        have h2'' : Fits W (own ++ as0) H2 (match atI ds k with | some d => .ok d | none => .no) Q := h2'
        cases q3 : atI ds k with
        | none => rw [q3] at h2''; exact h2''.elim
        | some d' =>
          rw [q3] at h2''
          obtain ⟨v, e1, e2⟩ := q.atI q3
          exact ⟨xs, v, .inl (SqL.of (s2 _ _ h3)), e1, fitsOk h2'' (e2.mono (mask_mono s2))⟩
      | _ => exact h2'.elim
    | _ => first | exact h4.elim | (cases y <;> exact h2'.elim)
theorem d_lenO (K : PySem.W.Frag) {i : Nat} (hi : i ∈ O) (hm : X.mg "len" = none) (hN : X.N[i]? = some x := by rfl) (hg : Gl X "len" := by rfl) (hv : Vis X.env.scope x := by first | exact Or.inl rfl | exact Or.inr (Or.inl rfl) | exact Or.inr (Or.inr rfl)) (hd : (x == ("__debug__" : Str)) = false := by decide)
    (hcd : (x == ("__classdict__" : Str)) = false := by decide) (hK : X.K = K := by rfl) (hW : W.K = K := by rfl) : JE X (.Call (.Name "len" p2) [.Name x p1] [] pos) (tD W O (vCall lenD (aCons (vVar i) aNil))) :=
  (j_callB (qLen K hK) hm bt_len (ja_cons (jv i hN hv hd hcd) ja_nil) hg).imp fun σ H Q hh => exE hh fun as0 B own δ I h => by
    obtain ⟨a, ha⟩ := zip_left I.olen hi
    obtain ⟨d, o, h1, h2, h3, h4⟩ := I.owns i a ha
    show kVar σ[i]? H _
    rw [h2]
    have hv : vVar i δ = .ok d := by unfold vVar; rw [h1]
    have h' : Fits W (own ++ as0) H (lenD [d]) Q := by
      have e : vCall lenD (aCons (vVar i) aNil) δ = lenD [d] := by unfold vCall aCons aNil; rw [hv]; rfl
      rw [← e]; exact h
    cases d with
    | lst ds =>
      obtain ⟨xs, rfl, q⟩ := h4
      refine ⟨xs, .inl (SqL.of h3), ?_⟩
      rw [← q.len]
      exact fitsOk h' rfl
    | _ => first | exact h4.elim | exact h'.elim
noncomputable def sAppend (i : Nat) (ε : FE) : FS := fun δ => match δ[i]? with
  | some (some (.lst xs)) => (ε δ).bind fun d => if xs.length < 1000000 then .ok (.nx (δ.set i (some (.lst (xs ++ [d]))))) else .no
  | _ => .no
theorem ds_append {i : Nat} (hi : i ∈ O) (he : JE X e (tD W O ε)) (hN : X.N[i]? = some x := by rfl) (hn : noStar e = true := by rfl) (hline : (apos.endLine == cpos.line) = true := by rfl) (hv : Vis X.env.scope x := by first | exact Or.inl rfl | exact Or.inr (Or.inl rfl) | exact Or.inr (Or.inr rfl)) (hd : (x == ("__debug__" : Str)) = false := by decide)
    (hcd : (x == ("__classdict__" : Str)) = false := by decide) (hbase : attributeBase (.Name x p1) "append" X.env (eval (.Name x p1) X.env) = eval (.Name x p1) X.env := by rfl)
    (hs : swapsWith (.Call (.Attribute (.Name x p1) "append" apos) [e] [] cpos) none pos.line X.env = pure false := by rfl) (hW : W.K = X.K := by rfl) :
    JS X (.Expr (.Call (.Attribute (.Name x p1) "append" apos) [e] [] cpos) pos) (sD W Ob O O (sAppend i ε)) :=
  (js_expr (j_bm PySem.F.plainAttrs_list PySem.F.slot_list_append PySem.F.type_list_append mt_append (jv i hN hv hd hcd) (ja_cons he ja_nil hn) hbase hline (by rw [List.all_cons, hn]; rfl) (by show 1 < 29; decide)) hs).imp fun D σ H hh => exE hh fun as0 B own δ I h => by
    obtain ⟨a, ha⟩ := zip_left I.olen hi
    obtain ⟨d, o, h1, h2, h3, h4⟩ := I.owns i a ha
    have e0 : tDrop (tBM X.K "list" rAppend (uVar i) (tCons (tD W O ε) tNil)) D σ H = kVar σ[i]? H (fun x H1 => tyV X.K "list" x H1 ∧ tCons (tD W O ε) tNil σ H1 fun vs H2 => rAppend x vs H2 (fun _ H3 => D.nx σ H3)) := rfl
    rw [e0, h2]
    unfold sAppend at h
    rw [h1] at h
    cases d with
    | lst ds =>
      obtain ⟨xs, rfl, q⟩ := h4
      refine ⟨.inl ⟨rfl, xs, SqL.of h3⟩, as0, B, own, δ, I, fitsS_bind I h fun y v H2 s2 d2 hq => ?_⟩
      split at hq
      · rename_i hl
        refine ⟨a, xs, v, rfl, rfl, s2 _ _ h3, ?_, ?_⟩
        · have := million; rw [← q.len]; omega
        · exact hq own σ _ ((I.mono s2).mutate ha ⟨xs ++ [v], rfl, (q.mono (mask_mono s2)).append (Dens.cons d2 Dens.nil)⟩)
      · exact hq.elim
    | _ => exact h.elim
end
end L2
namespace L2
open PySem PySem.Spec PyProof.Rows
set_option maxHeartbeats 4000000
set_option linter.unusedVariables false
theorem cap_free {ix : List (Option Nat)} {O : List Nat} (h : (ix.all fun o => match o with | some k => decide (k ∉ O) | none => true) = true) : ∀ j ∈ ix, ∀ k, j = some k → k ∉ O := fun j hj k e => by
  have := List.all_eq_true.mp h j hj
  subst e
  exact of_decide_eq_true this
end L2
namespace L2
open PySem PySem.Spec PyProof.Rows
set_option maxHeartbeats 4000000
set_option linter.unusedVariables false
section
variable {X : Cx} {W : Wd} {O : List Nat} {α : FA} {elts : List Expr} {k : Nat} {p pos tpos : Pos}
end
noncomputable def spLaw (K : PySem.W.Frag) (F : List D → R D) : Sp := fun vs H Q E => ∀ mg, spD K mg F vs H Q E
theorem law_any {P : Program} {w : World} {K : PySem.W.Frag} {mg : Str → Option Value} {k : Nat} {fa : Addr} {ps : List Str} {F : List D → R D} {C : FuncData → Prop}
    (h : ∃ fd : FuncData, C fd ∧ ∀ base : Heap, K.In base → base.Ns mainGlobals mg → FnOk P w K mg base CX0 k fa fd ps (spD K mg F)) :
    ∃ fd : FuncData, C fd ∧ ∀ base : Heap, K.In base → base.Ns mainGlobals mg → FnOk P w K mg base CX0 k fa fd ps (spLaw K F) := by
  obtain ⟨fd, h1, h2⟩ := h
  exact ⟨fd, h1, fun base h3 h4 => (h2 base h3 h4).imp fun vs H Q E q => q mg⟩
theorem law_sp' {K : PySem.W.Frag} {a : Addr} {ns : List Int} {H : Hp} {F : List D → R D} {Q : VK} {E : XK} (hS : SqL K H a (ns.map V.int)) (h : F [.lst (ns.map D.int)] = .ok (.bl true)) (q : ∀ H', Q (.bl true) H') : spLaw K F [.ref a] H Q E :=
  fun mg => law_sp hS h q
end L2
namespace L2
open PySem PySem.Spec PyProof.Rows
set_option maxHeartbeats 4000000
set_option linter.unusedVariables false
noncomputable def fin (r : R Fl) : R D := r.bind fun f => match f with
  | .rt d => .ok d
  | .rn d => .ok d
  | .nx _ => .ok .non
  | _ => .no
section
variable {δ : Sd} {d e : D} {x y : Str} {i j : Int} {b c : Bool} {φ ψ : FE} {τ υ : FT} {α : FA} {S T : FS}
theorem fin_rt : fin (.ok (.rt d)) = .ok d := rfl
noncomputable def seqK (T : FS) (f : Fl) : R Fl := match f with
  | .nx δ' => T δ'
  | f => .ok f
theorem v_seq : sSeq S T δ = (S δ).bind (seqK T) := by
  unfold sSeq seqK
  cases S δ with
  | ok f => cases f <;> rfl
  | er x => rfl
  | no => rfl
theorem seq_nx : seqK T (.nx δ) = T δ := rfl
theorem v_next : sNext δ = .ok (.nx δ) := rfl
noncomputable def retK (d : D) : R Fl := .ok (.rt d)
theorem v_ret : sRet φ δ = (φ δ).bind retK := rfl
theorem ret_k : retK d = .ok (.rt d) := rfl
noncomputable def ifK (S T : FS) (δ : Sd) (b : Bool) : R Fl := if b = true then S δ else T δ
theorem v_if : sIf τ S T δ = (τ δ).bind (ifK S T δ) := rfl
theorem if_k : ifK S T δ b = if b = true then S δ else T δ := rfl
noncomputable def setK (k : Nat) (δ : Sd) (d : D) : R Fl := .ok (.nx (δ.set k (some d)))
theorem v_set {k : Nat} : sSet k φ δ = (φ δ).bind (setK k δ) := rfl
noncomputable def ownK (k : Nat) (δ : Sd) (d : D) : R Fl := if k < δ.length then .ok (.nx (δ.set k (some d))) else .no
theorem v_own {k : Nat} : sOwn k φ δ = (φ δ).bind (ownK k δ) := rfl
theorem own_k {k : Nat} : ownK k δ d = if k < δ.length then .ok (.nx (δ.set k (some d))) else .no := rfl
noncomputable def forK (t : TgD) (S : FS) (δ : Sd) (xs : List D) : R Fl := forD t S xs δ
theorem v_for {t : TgD} : sFor α t S δ = (α δ).bind (forK t S δ) := rfl
theorem for_k {t : TgD} {xs : List D} : forK t S δ xs = forD t S xs δ := rfl
noncomputable def loopK (t : TgD) (S : FS) (r : List D) (f : Fl) : R Fl := match f with
  | .nx δ2 => forD t S r δ2
  | .ct δ2 => forD t S r δ2
  | .bk δ2 => .ok (.nx δ2)
  | .rt d => .ok (.rt d)
  | .rn d => .ok (.rn d)
noncomputable def turnK (t : TgD) (S : FS) (r : List D) (δ1 : Sd) : R Fl := (S δ1).bind (loopK t S r)
theorem for_cons {t : TgD} {r : List D} : forD t S (d :: r) δ = (bindD t d δ).bind (turnK t S r) := by
  show (bindD t d δ).bind _ = _
  congr 1
theorem turn_k {t : TgD} {r : List D} : turnK t S r δ = (S δ).bind (loopK t S r) := rfl
theorem loop_nx {t : TgD} {r : List D} : loopK t S r (.nx δ) = forD t S r δ := rfl
noncomputable def finN (r : R Fl) : R D := r.bind fun f => match f with
  | .rn d => .ok d
  | _ => .no
noncomputable def retWK (d : D) : R Fl := .ok (.rn d)
theorem v_retW : sRetW φ δ = (φ δ).bind retWK := rfl
noncomputable def getV (o : Option (Option D)) : R D := match o with
  | some (some d) => .ok d
  | _ => .no
theorem v_var {k : Nat} : vVar k δ = getV δ[k]? := rfl
theorem get_v : getV (some (some d)) = .ok d := rfl
theorem v_c : vC d δ = .ok d := rfl
noncomputable def opK (op : D → D → R D) (ψ : FE) (δ : Sd) (x : D) : R D := (ψ δ).bind (op x)
theorem v_op {op : D → D → R D} : vOp op φ ψ δ = (φ δ).bind (opK op ψ δ) := rfl
theorem op_k {op : D → D → R D} : opK op ψ δ d = (ψ δ).bind (op d) := rfl
noncomputable def blK (d : D) : R Bool := blD d .ok
theorem q_bl : qBl φ δ = (φ δ).bind blK := rfl
theorem bl_k : blK (.bl b) = .ok b := rfl
theorem q_tru : qTru φ δ = (φ δ).bind truD := rfl
noncomputable def qorK (υ : FT) (δ : Sd) (b : Bool) : R Bool := if b = true then .ok true else υ δ
theorem q_or : qOr τ υ δ = (τ δ).bind (qorK υ δ) := rfl
theorem qor_k : qorK υ δ b = if b = true then .ok true else υ δ := rfl
noncomputable def qnotK (b : Bool) : R Bool := .ok (!b)
theorem q_not : qNot τ δ = (τ δ).bind qnotK := rfl
theorem a_nil : aNil δ = .ok [] := rfl
noncomputable def cons2K (d : D) (ds : List D) : R (List D) := .ok (d :: ds)
noncomputable def consK (α : FA) (δ : Sd) (d : D) : R (List D) := (α δ).bind (cons2K d)
theorem a_cons : aCons φ α δ = (φ δ).bind (consK α δ) := rfl
theorem cons_k : consK α δ d = (α δ).bind (cons2K d) := rfl
theorem cons2_k {ds : List D} : cons2K d ds = .ok (d :: ds) := rfl
theorem v_lst : vLst α δ = (α δ).bind mkLst := rfl
theorem v_tup : vTup α δ = (α δ).bind mkTup := rfl
theorem mk_lst {ds : List D} : mkLst ds = if ds.length ≤ 1000000 then .ok (.lst ds) else .no := rfl
theorem mk_tup {ds : List D} : mkTup ds = if ds.length ≤ 1000000 then .ok (.tup ds) else .no := rfl
theorem v_call {g : List D → R D} : vCall g α δ = (α δ).bind g := rfl
noncomputable def oK (d : D) : R (Option Int) := match d with
  | .int i => .ok (some i)
  | _ => .no
theorem o_some : oSome φ δ = (φ δ).bind oK := rfl
noncomputable def sl2K (g : D → Option Int → Option Int → R D) (d : D) (lo hi : Option Int) : R D := g d lo hi
noncomputable def sl1K (g : D → Option Int → Option Int → R D) (u : Sd → R (Option Int)) (δ : Sd) (d : D) (lo : Option Int) : R D := (u δ).bind (sl2K g d lo)
noncomputable def sl0K (g : D → Option Int → Option Int → R D) (l u : Sd → R (Option Int)) (δ : Sd) (d : D) : R D := (l δ).bind (sl1K g u δ d)
theorem v_sl {g : D → Option Int → Option Int → R D} {l u : Sd → R (Option Int)} : vSl g φ l u δ = (φ δ).bind (sl0K g l u δ) := rfl
theorem sl0_k {g : D → Option Int → Option Int → R D} {l u : Sd → R (Option Int)} : sl0K g l u δ d = (l δ).bind (sl1K g u δ d) := rfl
theorem sl1_k {g : D → Option Int → Option Int → R D} {u : Sd → R (Option Int)} {lo : Option Int} : sl1K g u δ d lo = (u δ).bind (sl2K g d lo) := rfl
theorem sl2_k {g : D → Option Int → Option Int → R D} {lo hi : Option Int} : sl2K g d lo hi = g d lo hi := rfl
noncomputable def smK (g : Str → List D → R D) (α : FA) (δ : Sd) (d : D) : R D := match d with
  | .str z => (α δ).bind fun ds => g z ds
  | _ => .no
theorem v_sm {g : Str → List D → R D} : vSM g φ α δ = (φ δ).bind (smK g α δ) := rfl
theorem sm_k {g : Str → List D → R D} : smK g α δ (.str x) = (α δ).bind (g x) := rfl
theorem v_comp {ix : List (Option Nat)} {t : TgD} : vComp ix α t τ φ δ = (α δ).bind (compOf t τ φ (captD ix δ)) := rfl
theorem i_any : iAny φ δ = (φ δ).bind itemsD := rfl
theorem items_l {xs : List D} : itemsD (.lst xs) = .ok xs := rfl
theorem i_rng1 : iRng1D α δ = (α δ).bind rng1 := rfl
theorem rng_1 (h : -(2 ^ 62) ≤ i ∧ i < 2 ^ 62) : rng1 [.int i] = .ok (rangeD 0 i.toNat) := if_pos h
theorem add_i : addD (.int i) (.int j) = .ok (.int (i + j)) := rfl
theorem add_s : addD (.str x) (.str y) = if x.length + y.length ≤ 1000000 then .ok (.str (x ++ y)) else .no := rfl
theorem add_l {xs ys : List D} : addD (.lst xs) (.lst ys) = if xs.length + ys.length ≤ 1000000 then .ok (.lst (xs ++ ys)) else .no := rfl
theorem sub_i : subD (.int i) (.int j) = .ok (.int (i - j)) := rfl
theorem mul_r (h : -(2 ^ 64) < j ∧ j < 2 ^ 64) : mulD (.int i) (.int j) = .ok (.int (i * j)) := if_pos (.inr h)
theorem div_l (h : 0 < j ∧ j < 1073741824) : divD (.int i) (.int j) = .ok (.int (i / j)) := if_pos h
theorem mod_l (h : 0 < j) : modD (.int i) (.int j) = .ok (.int (i % j)) := if_pos h
theorem pow_l (h : 0 ≤ j ∧ j ≤ 1000000 ∧ -(2 ^ 64) < i ∧ i < 2 ^ 64) : powD (.int i) (.int j) = .ok (.int (i ^ j.toNat)) := if_pos ⟨h.1, h.2.1, by omega⟩
theorem lt_i : ltD (.int i) (.int j) = .ok (.bl (decide (i < j))) := rfl
theorem isnot_b : isNotD d (.bl b) = .ok (.bl (!isB b d)) := rfl
theorem eq_ii : eqD (.int i) (.int j) = .ok (.bl (decide (i = j))) := by simp [eqD, eqO, scalD, scal, optR]
theorem eq_ss : eqD (.str x) (.str y) = .ok (.bl (decide (x = y))) := by simp [eqD, eqO, scalD, scal, optR]
theorem ix_s (h : x.length ≤ 1000000) {k : Nat} (hk : atI x.cps.toList i = some k) : ixD (.str x) (.int i) = .ok (.str ⟨#[k]⟩) := by simp only [ixD, if_pos h, hk]
theorem ix_l {xs : List D} (hk : atI xs i = some d) : ixD (.lst xs) (.int i) = .ok d := by simp only [ixD, hk]
theorem ix_t {xs : List D} (hk : atI xs i = some d) : ixD (.tup xs) (.int i) = .ok d := by simp only [ixD, hk]
theorem ix_t0 {r : List D} : ixD (.tup (d :: r)) (.int 0) = .ok d := ix_t (atI_nat (j := 0) rfl)
theorem ix_t1 {a : D} {r : List D} : ixD (.tup (a :: d :: r)) (.int 1) = .ok d := ix_t (atI_nat (j := 1) rfl)
theorem ix_t2 {a b : D} {r : List D} : ixD (.tup (a :: b :: d :: r)) (.int 2) = .ok d := ix_t (atI_nat (j := 2) rfl)
theorem ix_l0 {r : List D} : ixD (.lst (d :: r)) (.int 0) = .ok d := ix_l (atI_nat (j := 0) rfl)
theorem ix_l1 {a : D} {r : List D} : ixD (.lst (a :: d :: r)) (.int 1) = .ok d := ix_l (atI_nat (j := 1) rfl)
theorem ix_l2 {a b : D} {r : List D} : ixD (.lst (a :: b :: d :: r)) (.int 2) = .ok d := ix_l (atI_nat (j := 2) rfl)
theorem ix_l3 {a b c : D} {r : List D} : ixD (.lst (a :: b :: c :: d :: r)) (.int 3) = .ok d := ix_l (atI_nat (j := 3) rfl)
theorem ix_l4 {a0 a1 a2 a3 : D} {r : List D} : ixD (.lst (a0 :: a1 :: a2 :: a3 :: d :: r)) (.int 4) = .ok d := ix_l (atI_nat (j := 4) rfl)
theorem ix_l5 {a0 a1 a2 a3 a4 : D} {r : List D} : ixD (.lst (a0 :: a1 :: a2 :: a3 :: a4 :: d :: r)) (.int 5) = .ok d := ix_l (atI_nat (j := 5) rfl)
theorem ix_l6 {a0 a1 a2 a3 a4 a5 : D} {r : List D} : ixD (.lst (a0 :: a1 :: a2 :: a3 :: a4 :: a5 :: d :: r)) (.int 6) = .ok d := ix_l (atI_nat (j := 6) rfl)
theorem ix_l7 {a0 a1 a2 a3 a4 a5 a6 : D} {r : List D} : ixD (.lst (a0 :: a1 :: a2 :: a3 :: a4 :: a5 :: a6 :: d :: r)) (.int 7) = .ok d := ix_l (atI_nat (j := 7) rfl)
theorem sl_s {lo hi : Option Int} : slD (.str x) lo hi = if x.length ≤ 1000000 then .ok (.str (cutS x lo hi)) else .no := rfl
theorem sl_l {xs : List D} {lo hi : Option Int} : slD (.lst xs) lo hi = .ok (.lst (cutD xs lo hi)) := rfl
theorem len_s : lenD [.str x] = if x.length ≤ 1000000 then .ok (.int x.length) else .no := rfl
theorem len_l {xs : List D} : lenD [.lst xs] = .ok (.int xs.length) := rfl
theorem tup_l {xs : List D} : tupD [.lst xs] = .ok (.tup xs) := rfl
theorem lst_l {xs : List D} : lstD [.lst xs] = .ok (.lst xs) := rfl
theorem bls_map {β : Type} (f : β → Bool) : ∀ xs : List β, blsD (xs.map fun a => D.bl (f a)) = some (xs.map f)
  | [] => rfl
  | a :: r => by simp only [List.map_cons, blsD, bls_map f r, Option.map_some]
theorem comp_all {t : TgD} {τ : FT} {ε : FE} {δ0 : Sd} (f : D → D) (g : D → Sd) : ∀ xs : List D, (∀ x ∈ xs, bindD t x δ0 = .ok (g x) ∧ τ (g x) = .ok true ∧ ε (g x) = .ok (f x)) → compD t τ ε δ0 xs = .ok (xs.map f)
  | [], _ => rfl
  | x :: r, h => by
    obtain ⟨h1, h2, h3⟩ := h x List.mem_cons_self
    have ih := comp_all (t := t) (τ := τ) (ε := ε) (δ0 := δ0) f g r fun y hy => h y (List.mem_cons_of_mem _ hy)
    show (bindD t x δ0).bind _ = _
    rw [h1]
    show (τ (g x)).bind _ = _
    rw [h2]
    simp only [bind_ok, if_true, h3, ih, List.map_cons]
theorem comp_of {t : TgD} {τ : FT} {ε : FE} {δ0 : Sd} {xs ys : List D} (hf : freeT t δ0 = true) (hl : xs.length ≤ 1000000) (h : compD t τ ε δ0 xs = .ok ys) : compOf t τ ε δ0 xs = .ok (.lst ys) := by
  unfold compOf
  rw [if_pos ⟨hf, hl⟩, h]
  rfl
theorem comp_1 {k : Nat} {ε : FE} {δ0 : Sd} {xs : List D} (f : D → D) (hf : freeT (.one k) δ0 = true) (hl : xs.length ≤ 1000000) (h : ∀ x ∈ xs, ε (δ0.set k (some x)) = .ok (f x)) : compOf (.one k) qYes ε δ0 xs = .ok (.lst (xs.map f)) :=
  comp_of hf hl (comp_all f (fun x => δ0.set k (some x)) xs fun x hx => ⟨rfl, rfl, h x hx⟩)
theorem compOf_map {β : Type} {k : Nat} {ε : FE} {δ0 : Sd} {as : List β} (u : β → D) (f : β → D) (hf : freeT (.one k) δ0 = true) (hl : as.length ≤ 1000000) (h : ∀ a ∈ as, ε (δ0.set k (some (u a))) = .ok (f a)) : compOf (.one k) qYes ε δ0 (as.map u) = .ok (.lst (as.map f)) := by
  refine comp_of hf (by rw [List.length_map]; exact hl) ?_
  clear hl
  induction as with
  | nil => rfl
  | cons a r ih =>
    have h1 := h a List.mem_cons_self
    have ih := ih fun b hb => h b (List.mem_cons_of_mem _ hb)
    show (ε (δ0.set k (some (u a)))).bind _ = _
    rw [h1]
    show (compD (.one k) qYes ε δ0 (r.map u)).bind _ = _
    rw [ih]
    rfl
end
end L2
namespace L2
open PySem PySem.Spec PyProof.Rows
set_option maxHeartbeats 4000000
set_option linter.unusedVariables false
section
variable {X : Cx}
variable {W : Wd}
end
section
variable {X : Cx} {W : Wd} {O : List Nat}
end
end L2
namespace L2
open PySem PySem.Spec PyProof.Rows
set_option maxHeartbeats 4000000
set_option maxRecDepth 100000
set_option linter.unusedVariables false
section
variable {α : Type} [DecidableEq α]
end
section
variable {prog : Program} {w : World} {A : Around} {R : Result → Shared → Prop} {I : Addr} {fp wr : List Addr} {G : Array GenState → Array GenState → Prop} {n : Nat} {P : Nat → Value → Prop} {St : Nat → Shared → Prop}
variable {α : Type} [DecidableEq α] {knd : KeyKind prog w α}
end
end L2
namespace L2
open PySem PySem.Spec PyProof.Rows
set_option maxHeartbeats 4000000
set_option maxRecDepth 100000
set_option linter.unusedVariables false
section
variable {X : Cx} {W : Wd} {O : List Nat}
end
end L2
namespace L2
open PySem PySem.Spec PyProof.Rows
set_option maxHeartbeats 4000000
set_option linter.unusedVariables false
section
variable {X : Cx} {W Wb : Wd} {O : List Nat} {osc scope : Scope} {ON N : List Str} {ix : List (Option Nat)} {tg elt : Expr} {ifs : List Expr} {t : TgD} {τ : FT} {ε : FE} {pos p1 : Pos} {x : Str}
theorem gives_own {K : PySem.W.Frag} {M : List Addr} {H : Hp} {a : Addr} {xs : List V} {ds : List D} (h1 : H a = some (.lst xs)) (h2 : Dens K (mask M H) ds xs) : GivesC K M H (Itl K a) ds where
  go := fun i H1 s hi => by
    have hi' : i < xs.length := by rw [← h2.len]; exact hi
    exact ⟨xs, xs[i], SqL.of (s _ _ h1), by simp [hi']⟩
  yl := fun i H1 v H2 acc s hacc hex hi ⟨e, y⟩ => by
    subst e
    obtain ⟨d, q1, q2⟩ := h2.got (y xs (SqL.of (s _ _ h1)))
    refine ⟨Same.refl _, d, q1, q2.mono fun b o hb => ?_⟩
    have hbM : b ∉ M := fun z => by rw [mask_in z] at hb; cases hb
    rw [mask_out hbM] at hb
    have hba : b ≠ acc := fun z => by rw [z, hacc] at hb; cases hb
    rw [mask_out (by simp [hba, hbM])]
    exact s _ _ hb
  stop := fun H1 s => ⟨xs, SqL.of (s _ _ h1), by rw [h2.len]; exact Nat.le_refl _⟩
theorem n_compO (K : PySem.W.Frag) {i : Nat} (hi : i ∈ O) (hcs : csOk osc ON N ix scope = true) (hg : ∀ b, JG (blk X N scope b) tg (gD Wb [] t)) (ht : ∀ b, JTs (blk X N scope b) ifs (tDT Wb [] τ)) (he : ∀ b, JE (blk X N scope b) elt (tD Wb [] ε)) (hO : ∀ j ∈ ix, ∀ k, j = some k → k ∉ O)
    (hN : X.N[i]? = some x := by rfl) (hv : Vis X.env.scope x := by first | exact Or.inl rfl | exact Or.inr (Or.inl rfl) | exact Or.inr (Or.inr rfl)) (hd : (x == ("__debug__" : Str)) = false := by decide)
    (hcd : (x == ("__classdict__" : Str)) = false := by decide) (hK : X.K = K := by rfl) (hW : W.K = K := by rfl)
    (hWb : Wb.K = W.K := by rfl) (hE : X.env.scope = osc := by rfl) (hON : X.N = ON := by rfl) (hc : X.calm = true := by rfl) (hs : ∀ y, foldedSetIterable (.Name x p1) X.env y = pure y := by intro _; rfl) : JE X (.ListComp elt [⟨tg, .Name x p1, ifs, 0⟩] scope pos) (tN W O (vComp ix (iAny (vVar i)) t τ ε)) :=
  (j_comp hcs (ji_any K (jv i hN hv hd hcd) hK) hg ht he hE hON hc hs).imp fun σ H Q hh => exE hh fun as0 B own δ I h => by
    obtain ⟨a, ha⟩ := zip_left I.olen hi
    obtain ⟨d, o, h1, h2, h3, h4⟩ := I.owns i a ha
    have hv : vVar i δ = .ok d := by unfold vVar; rw [h1]
    show kVar σ[i]? H _
    rw [h2]
    cases d with
    | lst ds =>
      obtain ⟨xs, rfl, q⟩ := h4
      have h' : FitsN W (own ++ as0) H (compOf t τ ε (captD ix δ) ds) Q := by
        have e : vComp ix (iAny (vVar i)) t τ ε δ = compOf t τ ε (captD ix δ) ds := by unfold vComp iAny; rw [hv]; rfl
        rw [← e]; exact h
      refine .inl ⟨⟨xs, SqL.of h3⟩, comp_go hWb I hO (by subst hW; exact gives_own h3 q) ?_⟩
      cases hq : compOf t τ ε (captD ix δ) ds with
      | ok d => rw [hq] at h'; exact fun p o H' s hp => h' p o H' s hp
      | er x =>
        unfold compOf at hq
        split at hq
        · cases hc : compD t τ ε (captD ix δ) ds <;> rw [hc] at hq <;> cases hq
        · cases hq
      | no => rw [hq] at h'; exact h'.elim
    | dct _ =>
      have e : vComp ix (iAny (vVar i)) t τ ε δ = .no := by unfold vComp iAny; rw [hv]; rfl
      rw [e] at h; exact h.elim
    | dcT _ =>
      have e : vComp ix (iAny (vVar i)) t τ ε δ = .no := by unfold vComp iAny; rw [hv]; rfl
      rw [e] at h; exact h.elim
    | obj _ _ =>
      have e : vComp ix (iAny (vVar i)) t τ ε δ = .no := by unfold vComp iAny; rw [hv]; rfl
      rw [e] at h; exact h.elim
    | _ => exact h4.elim
end
section
variable {X : Cx} {W : Wd} {O : List Nat} {a b e st : Expr} {rest : List Expr} {pos p2 : Pos} {te ts ta tb : TE} {φ ψ : FE}
end
end L2
namespace L2
open PySem PySem.Spec PyProof.Rows
set_option maxHeartbeats 4000000
set_option linter.unusedVariables false
section
variable {X : Cx} {W : Wd} {O O' Ob : List Nat}
end
end L2
namespace L2
open PySem PySem.Spec PyProof.Rows
set_option maxHeartbeats 4000000
set_option linter.unusedVariables false
section
variable {X : Cx} {W : Wd} {O : List Nat} {b : Expr} {ψ : FE} {x : Str} {p1 pos : Pos} {op : CmpOp}
theorem eqOw_core (K : PySem.W.Frag) (f : Bool → Bool) {i : Nat} (hi : i ∈ O) (hW : W.K = K) {σ : St} {H : Hp} {Q : VK} {as0 own : List Addr} {B : Hp} {δ : Sd} (I : DI W.K as0 B O own σ δ H) (h : Fits W (own ++ as0) H (vOp (fun a b => optR (eqO a b) f) (vVar i) ψ δ) Q) : tOp (uEqD K f) (uVar i) (tD W O ψ) σ H Q := by
  obtain ⟨a, ha⟩ := zip_left I.olen hi
  obtain ⟨d, o, h1, h2, h3, h4⟩ := I.owns i a ha
  have hv : vVar i δ = .ok d := by unfold vVar; rw [h1]
  have h' : Fits W (own ++ as0) H ((ψ δ).bind fun y => optR (eqO d y) f) Q := by
    have e : vOp (fun a b => optR (eqO a b) f) (vVar i) ψ δ = (ψ δ).bind fun y => optR (eqO d y) f := by unfold vOp; rw [hv]; rfl
    rw [← e]; exact h
  have e0 : tOp (uEqD K f) (uVar i) (tD W O ψ) σ H Q = kVar σ[i]? H (kOp1 (uEqD K f) (tD W O ψ) σ Q) := rfl
  rw [e0, h2]
  subst hW
  refine ⟨as0, B, own, δ, I, fits_bind h' fun y u H2 s2 d2 h2' => ?_⟩
  have hao : a ∈ own := (List.of_mem_zip ha).2
  have od : OwnD W.K (mask [a] H2) o d := h4.mono ((mask_sub fun b hb => by
    rw [List.mem_singleton.mp hb]; exact List.mem_append_left _ hao).trans (mask_mono s2))
  have dd : Den W.K H2 d (.ref a) := by
    have := od.den (as := []) (by simp) (s2 _ _ h3)
    rwa [mask_nil] at this
  cases e : eqO d y with
  | none => rw [e] at h2'; exact h2'.elim
  | some k =>
    rw [e] at h2'
    exact ⟨d, y, k, dd, d2.mono (mask_le _ _), e, fitsOk h2' rfl⟩
theorem dt_eqOw (K : PySem.W.Frag) (f : Bool → Bool) {i : Nat} (hi : i ∈ O) (ho : OpR X (compareOp op) (uEqD K f)) (hb : JE X b (tD W O ψ)) (hm : behindInMarks op b = false) (hN : X.N[i]? = some x := by rfl) (hv : Vis X.env.scope x := by first | exact Or.inl rfl | exact Or.inr (Or.inl rfl) | exact Or.inr (Or.inr rfl)) (hd : (x == ("__debug__" : Str)) = false := by decide)
    (hcd : (x == ("__classdict__" : Str)) = false := by decide) (hW : W.K = K := by rfl) : JT X (.Compare (.Name x p1) [op] [b] pos) (tDT W O (qBl (vOp (fun a b => optR (eqO a b) f) (vVar i) ψ))) :=
  (jt_cmp ho (jv i hN hv hd hcd) hb hm).imp fun σ H Q hh => exE hh fun as0 B own δ I h => eqOw_core K f hi hW (Q := kTest Q) I (fitsP_bind h fun z w H3 s3 d3 h3 => by
    cases z with
    | bl k => cases d3; exact h3 H3 (Same.refl _)
    | _ => exact h3.elim)
end
end L2
namespace L2
open PySem PySem.Builtin PySem.Builtin.Str PySem.StrLaws
set_option maxHeartbeats 4000000
set_option linter.unusedVariables false
end L2
namespace L2
open PySem PySem.Spec PyProof.Rows
set_option maxHeartbeats 4000000
set_option linter.unusedVariables false
section
variable {X : Cx} {W : Wd} {O : List Nat} {φ : FE}
end
end L2
namespace LT
open PySem PyProof.Rows PySem.SeqAt
open PySem.AutoSeq1 (wpAny_loadPart')
open PySem.MeetsSeq PySem.MeetsSeq2 PySem.MeetsSeq3
set_option maxHeartbeats 4000000
set_option linter.unusedVariables false
noncomputable def LtAt (A : Around) (s : Shared) (y x : Value) (b : Bool) : Prop :=
  ∀ (prog : Program) (w : World) (E : Value → Shared → Prop) (Q : Value → Shared → Prop), Q (.bool b) s → wpAny (model prog w) A (richCompare .Lt y x) Q E s
inductive Lx (A : Around) (s : Shared) : List Value → List Value → Bool → Prop
  | nn : Lx A s [] [] false
  | nc {y : Value} {ys : List Value} : Lx A s [] (y :: ys) true
  | cn {x : Value} {xs : List Value} : Lx A s (x :: xs) [] false
  | eq {x y : Value} {xs ys : List Value} {b : Bool} (h : EqAt A s x y true) (t : Lx A s xs ys b) : Lx A s (x :: xs) (y :: ys) b
  | ne {x y : Value} {xs ys : List Value} {b : Bool} (h : EqAt A s x y false) (t : LtAt A s x y b) : Lx A s (x :: xs) (y :: ys) b
theorem tuple_lt (l b : Addr) (items items2 : Array Value) (n n2 : Nat) (dd dd2 : Option Addr) (sl sl2 : Array (Option Value)) (r : Bool) :
    Meets (Builtin.«tuple.__lt__» ⟨[.ref l, .ref b], []⟩)
      (fun A R s => s.heap.get? l = some { cls := .type "tuple", dict := dd, data := .seq items n, slots := sl } ∧ s.heap.get? b = some { cls := .type "tuple", dict := dd2, data := .seq items2 n2, slots := sl2 } ∧
        Lx A.in1 s items.toList items2.toList r ∧ R (.ok (.ret (.bool r))) s) :=
  .of_wp fun prog w A R s h => by
    obtain ⟨hp, g, d, tk, os⟩ := s; obtain ⟨hl, hb, hx, h⟩ := h
    have f2 := AutoSeq1.sub_tuple_tuple
    wp_walk using wpAny_loadPart' hl, wpAny_loadPart' hb, wpAny_forIn_list _ (fun rest b s' => b.1 = none ∧ s' = ⟨hp, g, d, tk, os⟩ ∧ ∃ (vs ws : List Value) , rest = vs.zip ws ∧
      Lx A.in1 ⟨hp, g, d, tk, os⟩ vs ws r ∧ vs.length + items2.size = ws.length + items.size) _
    case turn =>
      rintro ⟨y, x⟩ rest b s' ⟨hb', rfl, vs, ws, hz, hx, hlen⟩
      cases hx with
      | nn => cases hz
      | nc => cases hz
      | cn => rw [List.zip_nil_right] at hz; cases hz
      | eq he ht =>
        rw [List.zip_cons_cons] at hz
        injection hz with hyx hrest
        injection hyx with hy hx
        subst hy hx
        simp only [List.length_cons] at hlen
        refine wpAny_bind (he prog w _ _ ?_)
        wp_walk
        exact ⟨rfl, rfl, _, _, hrest, ht, by omega⟩
      | ne he ht =>
        rw [List.zip_cons_cons] at hz
        injection hz with hyx hrest
        injection hyx with hy hx
        subst hy hx
        refine wpAny_bind (he prog w _ _ ?_)
        have hri := ht prog w
        wp_walk using hri
        exact ⟨_, rfl, by simpa using h⟩
    case fin =>
      rintro ⟨b1, b2⟩ s' ⟨hb', rfl, vs, ws, hz, hx, hlen⟩
      simp only at hb'
      subst hb'
      have hv : r = decide (items.size < items2.size) := by
        cases hx with
        | nn => simp only [List.length_nil] at hlen; exact (decide_eq_false (by omega)).symm
        | nc => simp only [List.length_nil, List.length_cons] at hlen; exact (decide_eq_true (by omega)).symm
        | cn => simp only [List.length_nil, List.length_cons] at hlen; exact (decide_eq_false (by omega)).symm
        | eq he ht => rw [List.zip_cons_cons] at hz; cases hz
        | ne he ht => rw [List.zip_cons_cons] at hz; cases hz
      rw [hv] at h
      wp_walk
      exact ⟨_, rfl, by simpa [Builtin.Tuple.tupleCompareSizes] using h⟩
    case h =>
      exact ⟨rfl, rfl, items.toList, items2.toList, rfl, hx, by simp; omega⟩
theorem LtAt.tup {A : Around} {s : Shared} {l b : Addr} {items items2 : Array Value} {r : Bool} (hl : IsTup s.heap l items) (hb : IsTup s.heap b items2) (hx : Lx A.in1 s items.toList items2.toList r) (hu : A.units < cLine) : LtAt A s (.ref l) (.ref b) r := fun prog w E Q h => by
  obtain ⟨⟨cls, dd, data, sl⟩, ho, hc, n, hd⟩ := id hl
  obtain ⟨⟨cls2, dd2, data2, sl2⟩, ho2, hc2, n2, hd2⟩ := id hb
  simp only at hc hd hc2 hd2
  subst hc hd hc2 hd2
  exact richCompare_meets_room (op := .Lt) ⟨_, ho, rfl⟩ ⟨_, ho2, rfl⟩ PySem.F.slot_tuple_lt PySem.F.entry_tuple_lt (PySem.F.args_tuple_lt_2 _ _) (tuple_lt l b items items2 n n2 dd dd2 sl sl2 r)
    ⟨ho, ho2, hx, show Value.bool r ≠ Value.notImplemented ∧ Q (.bool r) s from ⟨(fun x => nomatch x), h⟩⟩ hu
theorem LtAt.int {A : Around} {s : Shared} (a : Int) (t : Tok) (c : Int) (u : Tok) : LtAt A s (.int a t) (.int c u) (decide (a < c)) := fun prog w E Q h => (PyProof.Rows.lt_int h : wpAny (model prog w) A (compareOp .Lt (.int a t) (.int c u)) Q E s)
end LT
namespace L2
open PySem PySem.Spec PyProof.Rows
set_option maxHeartbeats 4000000
set_option linter.unusedVariables false
section
variable {X : Cx} {W : Wd}
end
end L2
namespace L2
open PySem PySem.Spec PyProof.Rows
set_option maxHeartbeats 4000000
set_option linter.unusedVariables false
section
variable {M : Model} {A : Around} {E : Value → Shared → Prop} {s₀ s : Shared} {m cm : Str → Option Value} {env : Env}
end
section
variable {P : Program} {w : World} {K : PySem.W.Frag} {mg : Str → Option Value} {base : Heap}
end
end L2
namespace L2
open PySem PySem.Spec PyProof.Rows
set_option maxHeartbeats 4000000
set_option linter.unusedVariables false
section
variable {X : Cx} {W : Wd} {O Ob : List Nat} {e : Expr} {φ : FE} {pos p1 : Pos}
end
section
variable {X : Cx} {W : Wd} {Ob O : List Nat} {e f : Expr} {ε ψ : FE} {pos p1 p2 p3 apos cpos apos2 cpos2 apos3 cpos3 tpos : Pos} {x : Str} {tx : Nat}
end
end L2
namespace LX
open PySem PySem.AutoSeq1
open PySem.MeetsSeq PySem.MeetsSeq2 PySem.MeetsSeq3
set_option maxHeartbeats 4000000
end LX
namespace L2
open PySem PySem.Spec PyProof.Rows
set_option maxHeartbeats 4000000
set_option linter.unusedVariables false
section
variable {X : Cx}
end
section
variable {X : Cx} {W : Wd} {Ob O : List Nat} {e f : Expr} {ε φ ψ : FE} {pos p1 p2 apos cpos : Pos} {x : Str}
theorem d_isiO (K : PySem.W.Frag) {i : Nat} {C : String} (hi : i ∈ O) (hm : X.mg "isinstance" = none) (he : JE X e (tD W O (vC (.ty C)))) (hN : X.N[i]? = some x := by rfl) (hg : Gl X "isinstance" := by rfl) (hv : Vis X.env.scope x := by first | exact Or.inl rfl | exact Or.inr (Or.inl rfl) | exact Or.inr (Or.inr rfl)) (hd : (x == ("__debug__" : Str)) = false := by decide)
    (hcd : (x == ("__classdict__" : Str)) = false := by decide) (hn : noStar e = true := by rfl) (hK : X.K = K := by rfl) (hW : W.K = K := by rfl) : JE X (.Call (.Name "isinstance" p2) [.Name x p1, e] [] pos) (tD W O (vCall isiD (aCons (vVar i) (aCons (vC (.ty C)) aNil)))) :=
  (j_callB (qIsiD K hK) hm bt_isinstance (ja_cons (jv i hN hv hd hcd) (ja_cons he ja_nil hn)) hg rfl (by rw [List.all_cons, hn]; rfl)).imp fun σ H Q hh => exE hh fun as0 B own δ I h => by
    obtain ⟨a, ha⟩ := zip_left I.olen hi
    obtain ⟨d, o, h1, h2, h3, h4⟩ := I.owns i a ha
    show kVar σ[i]? H (fun v H1 => tD W O (vC (.ty C)) σ H1 fun u H2 => uIsID K [v, u] H2 Q)
    rw [h2]
    have hv : vVar i δ = .ok d := by unfold vVar; rw [h1]
    have h' : Fits W (own ++ as0) H (isiD [d, .ty C]) Q := by
      have e : vCall isiD (aCons (vVar i) (aCons (vC (.ty C)) aNil)) δ = isiD [d, .ty C] := by unfold vCall aCons aNil vC; rw [hv]; rfl
      rw [← e]; exact h
    refine ⟨as0, B, own, δ, I, fun u H2 s2 d2 => ?_⟩
    cases d2
    cases d with
    | lst ds =>
      obtain ⟨xs, rfl, q⟩ := h4
      unfold isiD at h'
      simp only at h'
      split at h'
      · rename_i hC
        exact ⟨hC, .inl ⟨xs, SqL.of (s2 _ _ h3), fitsOk (h'.mono s2) rfl⟩⟩
      · exact h'.elim
    | dct ds =>
      obtain ⟨xs, rfl, q⟩ := h4
      unfold isiD at h'
      simp only at h'
      split at h'
      · rename_i hC
        exact ⟨hC, .inr (.inr ⟨xs, s2 _ _ h3, fitsOk (h'.mono s2) rfl⟩)⟩
      · exact h'.elim
    | obj C' ds =>
      unfold isiD at h'
      simp only at h'
      split at h' <;> exact h'.elim
    | dcT ds =>
      unfold isiD at h'
      simp only at h'
      split at h' <;> exact h'.elim
    | _ => exact h4.elim
theorem d_tupO (K : PySem.W.Frag) {i : Nat} (hi : i ∈ O) (hm : X.mg "tuple" = none) (hN : X.N[i]? = some x := by rfl) (hg : Gl X "tuple" := by rfl) (hv : Vis X.env.scope x := by first | exact Or.inl rfl | exact Or.inr (Or.inl rfl) | exact Or.inr (Or.inr rfl)) (hd : (x == ("__debug__" : Str)) = false := by decide)
    (hcd : (x == ("__classdict__" : Str)) = false := by decide) (hK : X.K = K := by rfl) (hW : W.K = K := by rfl) : JE X (.Call (.Name "tuple" p2) [.Name x p1] [] pos) (tD W O (vCall tupD (aCons (vVar i) aNil))) :=
  (j_callT (qTupOf K hK) hm bt_tuple (ja_cons (jv i hN hv hd hcd) ja_nil) hg).imp fun σ H Q hh => exE hh fun as0 B own δ I h => by
    obtain ⟨a, ha⟩ := zip_left I.olen hi
    obtain ⟨d, o, h1, h2, h3, h4⟩ := I.owns i a ha
    show kVar σ[i]? H (fun v H1 => uTupOf K [v] H1 Q)
    rw [h2]
    have hv : vVar i δ = .ok d := by unfold vVar; rw [h1]
    have h' : Fits W (own ++ as0) H (tupD [d]) Q := by
      have e : vCall tupD (aCons (vVar i) aNil) δ = tupD [d] := by unfold vCall aCons aNil; rw [hv]; rfl
      rw [← e]; exact h
    cases d with
    | lst ds =>
      obtain ⟨xs, rfl, q⟩ := h4
      refine .inl ⟨xs, SqL.of h3, fun l hl => ?_⟩
      have hn := I.new hl
      exact h' _ _ (same_new hl _) ⟨l, xs, rfl, (by show mask _ _ l = _; rw [mask_out hn]; exact upd_same), q.mono (mask_mono (same_new hl _))⟩
    | _ => first | exact h4.elim | exact h'.elim
end
section
variable {X : Cx} {W : Wd}
end
end L2
namespace L2
open PySem PySem.Spec PyProof.Rows
set_option maxHeartbeats 4000000
set_option linter.unusedVariables false
section
variable {X : Cx} {W : Wd} {O : List Nat}
noncomputable def fndI (z y : Str) : Int := match Builtin.Str.occurrences z y 0 z.length 1 with
  | i :: _ => (i : Int)
  | [] => -1
theorem sm_find : SmR X "str.find" (uS1 fun x y => .int (fndI x y)) := by
  intro pins s σ H z t xs us Q I r h
  unfold uS1 at h
  split at h
  · obtain ⟨u, rfl, t', rfl⟩ := vals1 r
    exact call_gives PySem.F.slot_str_find (typeIs_str _ _ _) PySem.F.entry_str_find (PySem.F.args_str_find_2 _ _) (gives_str_find z _ t t') ⟨.int _, H, I.tok _, ⟨_, rfl⟩, h⟩
  · exact h.elim
theorem pFind : SmD W (uS1 fun x y => .int (fndI x y)) (s1D fun x y => .int (fndI x y)) := by
  intro as H z xs ds Q hn dv h
  unfold s1D at h
  split at h
  · obtain ⟨v, rfl, d1⟩ := dens1 dv
    cases d1
    exact fitsOk h rfl
  · exact h.elim
end
section
variable {X : Cx} {tg : Expr} {W : Wd} {O : List Nat}
end
end L2
namespace L2
open PySem PySem.NumText
set_option linter.unusedVariables false
end L2
namespace L2
set_option linter.unusedVariables false
end L2
namespace L2
open PySem PySem.Builtin PySem.Builtin.Str
set_option linter.unusedVariables false
end L2
namespace L2
open PySem
set_option maxHeartbeats 4000000
set_option linter.unusedVariables false
end L2
namespace L2
open PySem PySem.Spec PyProof.Rows
set_option maxHeartbeats 4000000
set_option linter.unusedVariables false
section
variable {X : Cx} {pins : List (Addr × Obj)} {σ : St} {H : Hp} {s : Shared}
noncomputable def ExPn (X : Cx) : Prop := ∀ b ∈ X.ex, ∃ o, (b, o) ∈ X.pn
theorem ExPn.nil (h : X.ex = []) : ExPn X := fun b z => by rw [h] at z; cases z
end
end L2
namespace L2
open PySem PySem.Spec PyProof.Rows
set_option maxHeartbeats 4000000
set_option linter.unusedVariables false
section
variable {P : Program} {w : World} {K : PySem.W.Frag} {mg : Str → Option Value} {base : Heap}
end
section
variable {X : Cx} {pins : List (Addr × Obj)} {σ : St} {H : Hp} {s s' : Shared} {E : XK} {e : Value}
end
section
variable {X : Cx} {x : Str} {st : Stmt} {ps : List Str} {f : Addr} {fd : FuncData} {j k : Nat} {sp : Sp} {p pos : Pos} {e : Expr} {es : List Expr} {t : TA} {E : XK}
end
section
variable {X : Cx} {E : XK}
end
end L2
namespace L2
open PySem PySem.Spec PyProof.Rows
set_option maxHeartbeats 4000000
set_option linter.unusedVariables false
section
variable {P : Program} {w : World} {K : PySem.W.Frag} {mg : Str → Option Value} {base : Heap}
end
section
variable {X : Cx} {K : PySem.W.Frag} {mg : Str → Option Value} {E : XK} {O : List Nat} {x : Str} {st : Stmt} {ps : List Str} {f : Addr} {fd : FuncData} {j k : Nat} {F : List D → R D} {p pos : Pos} {e : Expr} {es : List Expr} {α : FA}
variable {Ob O' : List Nat} {cn : Str} {C : Addr} {np cpos : Pos}
end
section
variable {X : Cx} {W : Wd} {O : List Nat} {φ : FE}
end
end L2
namespace L2
open PySem PySem.Spec PyProof.Rows
set_option maxHeartbeats 4000000
set_option linter.unusedVariables false
section
variable {X : Cx} {osc : Scope} {ON N : List Str} {ix : List (Option Nat)} {scope : Scope} {tg elt iter : Expr} {ifs : List Expr} {pos : Pos} {wi : TI} {g : TG} {tt : TT} {te : TE}
end
section
variable {X : Cx} {W Wb : Wd} {O : List Nat} {osc : Scope} {ON N : List Str} {ix : List (Option Nat)} {scope : Scope} {tg elt iter : Expr} {ifs : List Expr} {pos : Pos} {ι : FA} {t : TgD} {τ : FT} {ε : FE}
end
end L2
namespace L2
open PySem PySem.Spec PyProof.Rows
set_option maxHeartbeats 4000000
set_option linter.unusedVariables false
section
variable {X : Cx} {x : Str} {st : Stmt} {ps : List Str} {f : Addr} {fd : FuncData} {j k : Nat} {sp : Sp} {p pos : Pos} {e : Expr} {es : List Expr} {t : TA} {E : XK}
end
section
variable {X : Cx} {pins : List (Addr × Obj)} {σ : St} {H : Hp} {s : Shared} {e : Value}
end
end L2
namespace L2
open PySem PySem.Spec PyProof.Rows
set_option maxHeartbeats 4000000
set_option linter.unusedVariables false
section
variable {X : Cx} {pins : List (Addr × Obj)} {σ : St} {H : Hp} {s : Shared}
end
section
variable {X : Cx} {pins : List (Addr × Obj)} {σ : St} {H : Hp} {s : Shared} {Q : Flow → Shared → Prop} {y C CT : Addr} {T : Str} {tp hpos : Pos} {b₀ : Stmt} {bs : List Stmt}
end
end L2
namespace L2
open PySem PySem.Spec PyProof.Rows
set_option maxHeartbeats 4000000
set_option linter.unusedVariables false
section
variable {as0 own : List Addr} {B H : Hp} {Ob O O' : List Nat} {σ : St} {δ : Sd} {D' : Ends}
end
section
variable {X : Cx} {K : PySem.W.Frag} {mg : Str → Option Value} {E1 : XK} {Ob O O' : List Nat} {fn : Str} {st : Stmt} {ps : List Str} {f : Addr} {fd : FuncData} {j k i n : Nat} {F : List D → R D} {p pos apos xp tp hpos tpos : Pos} {e : Expr} {es : List Expr} {α : FA} {x T nm : Str} {CT : Addr} {mt : Str → Bool}
  {b₀ : Stmt} {bs : List Stmt} {ψ : FS}
end
end L2
namespace L2
open PySem PySem.Spec PySem.W PyProof.Rows
set_option maxHeartbeats 4000000
set_option maxRecDepth 100000
set_option linter.unusedVariables false
structure ExcC (K : Frag) (C : Addr) : Prop where
  ga : findIn K (.ref C) "__getattribute__" = some (some (.builtin "BaseException.__getattribute__"))
  gh : findIn K (.ref C) "__getattr__" = some none
  cl : findIn K (.ref C) "__class__" = some (some (.builtin "object.__class__"))
  sp : specialIn K (.builtin "object.__class__") "__get__" = some (some (.builtin "getset_descriptor.__get__"))
  tk : takesIn K (.builtin "object.__class__") = some true
  ob : mroIn K C (.type "object") = some true
  be : mroIn K C (.type "BaseException") = some true
section
variable {prog : Program} {w : World} {A : Around} {E : Value → Shared → Prop} {s : Shared} {K : Frag} {x C : Addr} {ox : Obj}
theorem ExcC.cls (c : ExcC K C) : ∃ cd, clsIn K C = some cd := by
  obtain ⟨cd, h, _⟩ := Option.bind_eq_some_iff.mp c.ob
  exact ⟨cd, h⟩
end
end L2
namespace L2
open PySem PySem.Spec PyProof.Rows
set_option maxHeartbeats 4000000
set_option linter.unusedVariables false
section
variable {X : Cx} {W : Wd}
end
end L2
namespace L2
open PySem PySem.Spec PyProof.Rows
section
variable {K : PySem.W.Frag} {mg : Str → Option Value}
end
end L2
namespace L2
open PySem PySem.Spec PyProof.Rows
end L2
namespace L2
open PySem PySem.Spec PyProof.Rows
set_option maxHeartbeats 4000000
set_option linter.unusedVariables false
structure RoomU (k : Nat) (A : Around) : Prop where
  dp : A.depth + 3 * k + 5 < recursionLimit
  un : A.units + 16 * k + 200 < cLine
theorem RoomU.depth {k : Nat} {A : Around} (r : RoomU k A) : A.depth < recursionLimit := by have := r.dp; omega
theorem RoomU.units {k : Nat} {A : Around} (r : RoomU k A) : A.units + 64 < cLine := by have := r.un; omega
theorem Room.u {k : Nat} {A : Around} (r : Room k A) (e : Value) : RoomU k (A.mark (some e)) := ⟨r.dp, r.un⟩
section
variable {P : Program} {w : World} {K : PySem.W.Frag} {mg : Str → Option Value} {base : Heap}
end
section
variable {X : Cx} {K : PySem.W.Frag} {mg : Str → Option Value} {O : List Nat} {x : Str} {st : Stmt} {ps : List Str} {f : Addr} {fd : FuncData} {j k : Nat} {F : List D → R D} {p pos : Pos} {e : Expr} {es : List Expr} {α : FA}
end
end L2
namespace L2
open PySem PySem.Spec PyProof.Rows
set_option maxHeartbeats 4000000
set_option linter.unusedVariables false
section
variable {X : Cx} {K : PySem.W.Frag} {mg : Str → Option Value} {O : List Nat}
variable {E1 : XK} {Ob : List Nat} {n : Nat} {tp hpos tpos : Pos} {T nm : Str} {CT : Addr} {mt : Str → Bool} {c₀ b₀ : Stmt} {cs bs : List Stmt} {φ ψ : FS}
end
end L2
namespace L2
open PySem PySem.Spec PyProof.Rows
set_option maxHeartbeats 4000000
set_option linter.unusedVariables false
section
variable {X : Cx} {W : Wd} {O : List Nat} {es : List Expr} {α : FA}
theorem Dens.rep {K : PySem.W.Frag} {H : Hp} {ds : List D} {xs : List V} (h : Dens K H ds xs) : ∀ k : Nat, Dens K H (List.replicate k ds).flatten (List.replicate k xs).flatten
  | 0 => by simp only [List.replicate_zero, List.flatten_nil]; exact Dens.nil
  | k + 1 => by
    rw [List.replicate_succ, List.flatten_cons, List.replicate_succ, List.flatten_cons]
    exact h.append (Dens.rep h k)
end
end L2
namespace L2
open PySem PySem.Spec PyProof.Rows
set_option maxHeartbeats 4000000
set_option linter.unusedVariables false
section
variable {X : Cx} {W : Wd}
end
section
variable {X : Cx} {K : PySem.W.Frag} {mg : Str → Option Value} {O : List Nat}
variable {E1 : XK} {Ob : List Nat} {tp hpos tpos rpos : Pos} {T : Str} {CT : Addr} {mt : Str → Bool} {b₀ : Stmt} {bs : List Stmt} {φ : FE} {ψ : FS} {e : Expr}
end
end L2
namespace L2
open PySem PySem.Spec PyProof.Rows
set_option maxHeartbeats 4000000
set_option linter.unusedVariables false
section
variable {X : Cx} {W : Wd} {Ob O : List Nat} {e : Expr} {ε : FE} {pos : Pos}
end
end L2
namespace L2
open PySem PySem.Spec PyProof.Rows
set_option maxHeartbeats 4000000
set_option linter.unusedVariables false
noncomputable def RawD (h : Heap) (d : Addr) (es : Array DictEntry) (ep : Nat) : Prop := ∃ o, h.get? d = some o ∧ o.ExactDict ∧ o.data = .dict es ep
theorem RawD.ty {s : Shared} {d : Addr} {es : Array DictEntry} {ep : Nat} (x : RawD s.heap d es ep) : s.TypeIs (.ref d) "dict" := let ⟨o, ho, hc, _⟩ := x; ⟨o, ho, hc.1⟩
theorem RawD.to {h h' : Heap} {d : Addr} {es : Array DictEntry} {ep : Nat} (x : RawD h d es ep) (e : ∀ o, h.get? d = some o → h'.get? d = some o) : RawD h' d es ep := let ⟨o, ho, r⟩ := x; ⟨o, e _ ho, r⟩
theorem RawD.lt {h : Heap} {d : Addr} {es : Array DictEntry} {ep : Nat} (x : RawD h d es ep) : d < h.objs.size := let ⟨_, ho, _⟩ := x; Heap.lt_size ho
section
variable {prog : Program} {w : World} {A : Around} {E : Value → Shared → Prop} {s : Shared} {d it : Addr} {es : Array DictEntry} {ep i : Nat}
theorem raw_iter {Q : Value → Shared → Prop} (hd : (d == sysModules) = false) (hm : RawD s.heap d es ep)
    (hQ : Q (.ref s.heap.objs.size) { s with heap := s.heap.push { cls := .type "dict_keyiterator", data := .fields #[.ref d, .int 0 0, .int es.size 0, .int ep 0] } }) : wpAny (model prog w) A (pyIter (.ref d)) Q E s := by
  obtain ⟨o, ho, hc, hdat⟩ := id hm
  have ht := hm.ty
  refine wpAny_pyIter_slot ht F.slot_dict_iter (wpAny_call_entry F.slot_dict_iter ht F.entry_dict_iter ?_ (F.args_dict_iter_1 _))
  unfold Builtin.«dict.__iter__»; refine wpAny_bind ?_; unfold Builtin.Dict.dictSlotNone
  refine wpAny_bind (wpAny_notOrdered_dict ht ?_); show wpAny _ _ (pure (Value.ref d)) _ _ s; refine wpAny_pure ?_
  show wpAny _ _ (Builtin.Dict.showsAll d >>= _) _ _ s; unfold Builtin.Dict.showsAll
  rw [if_neg (by rw [hd]; exact Bool.false_ne_true)]; refine wpAny_bind (wpAny_pure ?_)
  refine wpAny_bind (wpAny_dictEntries ho hdat ?_); refine wpAny_bind (wpAny_dictEpoch ho hdat ?_)
  exact wpAny_bind (wpAny_newObj_type (wpAny_pure ⟨_, rfl, "dict_keyiterator", _, ⟨_, Heap.get?_push_size _ rfl, rfl⟩, F.slot_dict_keyiterator_next.lookup, by simpa [rawInt] using hQ⟩))
theorem raw_next {Q : Option Value → Shared → Prop} (hit : s.heap.IsKeyIter it d i es.size ep) (hm : RawD s.heap d es ep) (hi : i < es.size)
    (hQ : ∀ h', h'.IsKeyIter it d (i + 1) es.size ep → Heap.SameBut it s.heap h' → Q (some es[i].key) { s with heap := h' }) : wpAny (model prog w) A (pyNext (.ref it)) Q E s := by
  obtain ⟨o, ho, hc, hd⟩ := id hit
  obtain ⟨od, hod, hcd, hdd⟩ := id hm
  unfold pyNext
  refine wpAny_bind (wpAny_attempt (wpAny_callSpecial?_slot (name := Str.ofString "__next__") hit.typeIs F.slot_dict_keyiterator_next (wpAny_call_entry F.slot_dict_keyiterator_next hit.typeIs F.entry_dict_keyiterator_next ?_ (F.args_dict_keyiterator_next_1 _))))
  refine wpAny_bind (wpAny_pure ?_); refine wpAny_bind ?_; refine wpAny_bind ?_
  first | refine wpAny_bind (wpAny_typeNameOfWhole_keyiter hit.typeIs (wpAny_pure ?_)) | refine wpAny_bind (wpAny_typeNameOf_keyiter hit.typeIs (wpAny_pure ?_)) | skip
  refine wpAny_bind (wpAny_fieldsOf ho hd ?_)
  simp only [show Builtin.Dict_items.ownsTuple "dict_keyiterator" = false by decide, Bool.false_eq_true, if_false]
  show wpAny _ _ (if (Value.ref d == Value.none) = true then _ else _) _ _ s; rw [if_neg (show ¬ ((Value.ref d == Value.none) = true) from Bool.false_ne_true)]
  refine wpAny_bind (wpAny_pure ?_); refine wpAny_bind (wpAny_dictEntries hod hdd ?_)
  rw [if_neg (by simp)]; refine wpAny_bind (wpAny_pure ?_); refine wpAny_bind (wpAny_dictEpoch hod hdd ?_)
  rw [if_neg (by simp)]; refine wpAny_pure ?_
  simp only [show ¬ ((i : Int) < 0) from by omega, if_false, Int.toNat_natCast, Array.getElem?_eq_getElem hi]; refine wpAny_bind ?_
  first | refine wpAny_bind (wpAny_typeNameOfWhole_keyiter hit.typeIs (wpAny_pure ?_)) | refine wpAny_bind (wpAny_typeNameOf_keyiter hit.typeIs (wpAny_pure ?_)) | skip
  refine wpAny_bind (wpAny_isOneOf_keyiter hit.typeIs ?_); show wpAny _ _ (setField (.ref it) 1 (rawInt ((i : Int) + 1)) >>= _) _ _ s
  refine wpAny_bind (wpAny_setField ho hd (by simp) ?_)
  have nx : (s.heap.update it (Obj.mapFields (·.setIfInBounds 1 (rawInt ((i : Int) + 1))))).IsKeyIter it d (i + 1) es.size ep := ⟨_, Heap.get?_update_self _ ho (Obj.isFreed_of_fields (Obj.data_mapFields hd _)), (Obj.cls_mapFields ..).trans hc, by rw [Obj.data_mapFields hd]; simp [rawInt]⟩
  refine wpAny_bind (wpAny_holding ?_)
  refine wpAny_bind (wpAny_isOneOf_keyiter (s := { s with heap := s.heap.update it (Obj.mapFields (·.setIfInBounds 1 (rawInt ((i : Int) + 1)))) }) nx.typeIs ?_); show wpAny _ _ (pure es[i].key) _ _ _
  exact wpAny_pure (wpAny_pure ⟨_, rfl, wpAny_pure (hQ _ nx (Heap.SameBut.update ..))⟩)
theorem raw_end {Q : Option Value → Shared → Prop} (hh : A.handled = none) (hit : s.heap.IsKeyIter it d i es.size ep) (hm : RawD s.heap d es ep) (hi : es.size ≤ i)
    (hQ : ∀ h', Heap.ExtBut it s.heap h' → Q none { s with heap := h' }) : wpAny (model prog w) A (pyNext (.ref it)) Q E s := by
  obtain ⟨o, ho, hc, hd⟩ := id hit
  obtain ⟨od, hod, hcd, hdd⟩ := id hm
  unfold pyNext
  refine wpAny_bind (wpAny_attempt (wpAny_callSpecial?_slot (name := Str.ofString "__next__") hit.typeIs F.slot_dict_keyiterator_next (wpAny_call_entry F.slot_dict_keyiterator_next hit.typeIs F.entry_dict_keyiterator_next ?_ (F.args_dict_keyiterator_next_1 _))))
  refine wpAny_bind (wpAny_pure ?_); refine wpAny_bind ?_; refine wpAny_bind ?_
  first | refine wpAny_bind (wpAny_typeNameOfWhole_keyiter hit.typeIs (wpAny_pure ?_)) | refine wpAny_bind (wpAny_typeNameOf_keyiter hit.typeIs (wpAny_pure ?_)) | skip
  refine wpAny_bind (wpAny_fieldsOf ho hd ?_)
  simp only [show Builtin.Dict_items.ownsTuple "dict_keyiterator" = false by decide, Bool.false_eq_true, if_false]
  show wpAny _ _ (if (Value.ref d == Value.none) = true then _ else _) _ _ s; rw [if_neg (show ¬ ((Value.ref d == Value.none) = true) from Bool.false_ne_true)]
  refine wpAny_bind (wpAny_pure ?_); refine wpAny_bind (wpAny_dictEntries hod hdd ?_)
  rw [if_neg (by simp)]; refine wpAny_bind (wpAny_pure ?_); refine wpAny_bind (wpAny_dictEpoch hod hdd ?_)
  rw [if_neg (by simp)]; refine wpAny_pure ?_
  simp only [show ¬ ((i : Int) < 0) from by omega, if_false, Int.toNat_natCast, Array.getElem?_eq_none hi]; refine wpAny_bind ?_
  first | refine wpAny_bind (wpAny_typeNameOfWhole_keyiter hit.typeIs (wpAny_pure ?_)) | refine wpAny_bind (wpAny_typeNameOf_keyiter hit.typeIs (wpAny_pure ?_)) | skip
  show wpAny _ _ (setField (.ref it) 0 .none >>= _) _ _ s; refine wpAny_bind (wpAny_setField ho hd (by simp) ?_)
  show wpAny _ _ (newExc (.type "StopIteration") [] >>= _) _ _ _; refine wpAny_bind ?_
  simp only [newExc, newTuple]; refine wpAny_bind (wpAny_newObj_type ?_ (by size_fits))
  refine wpAny_bind (m := firstArgMember _ _) (wpAny_of_eq (a := Value.none) (by first | rfl | (simp only [firstArgMember]; rfl)) ?_); refine wpAny_newObj_type ?_ (by size_fits)
  simp only [raiseNew]; refine wpAny_bind (wpAny_handled ?_); rw [show A.in1.handled = none from hh]; refine wpAny_bind (wpAny_pure (wpAny_throw ?_))
  refine wpAny_bind (wpAny_isInstance (T := "StopIteration") (b := true) ⟨_, Heap.get?_push_size _ rfl, rfl⟩ isSubtype_stop ?_)
  exact wpAny_pure (hQ _ (((Heap.SameBut.update ..).extBut.push _).push _))
theorem raw_walks (hh : A.handled = none) (it d : Addr) (hne : d ≠ it) (es : Array DictEntry) (ep : Nat) :
    Walks prog w A it [it, d] [it] es.size (fun i v => ∃ h : i < es.size, v = es[i].key) (fun i h => h.IsKeyIter it d i es.size ep ∧ RawD h d es ep) where
  sub := fun b hb => by simp at hb; simp [hb]
  frame := fun _ _ _ st hk => ⟨st.1.at fun o e => hk it (by simp) o e, st.2.to fun o e => hk d (by simp) o e⟩
  item := fun i s Q E hi st hQ => raw_next st.1 st.2 hi fun h' hit' hs' => hQ _ h' s.toks ⟨hi, rfl⟩ ⟨hit', st.2.to fun o e => hs'.extBut d o hne e⟩ fun b o hb e => hs'.extBut b o (fun h => hb (by simp [h])) e
  done := fun s Q E st hQ => raw_end hh st.1 st.2 (Nat.le_refl _) fun h' he' => hQ h' s.toks fun b o hb e => he' b o (fun h => hb (by simp [h])) e
  self := fun _ _ _ _ st hQ => wpAny_pyIter_keyiter st.1 hQ
theorem raw_src (lo : (d == sysModules) = false) : PySem.W.KdlSrc prog w "dict" d d es.size (fun i v => ∃ h : i < es.size, v = es[i].key) (fun h => RawD h d es ep) where
  type := fun _ hm => hm.ty
  there := fun _ hm => ⟨hm.lt, hm.lt⟩
  keep := fun _ _ hm hk => hm.to fun o e => hk d (.inl rfl) o e
  notList := by decide
  notTuple := by decide
  hint := fun _ _ _ _ hm hq => PySem.W.kdl_hint_dict hm.ty hq
  iter := fun _ _ hh hm => ⟨_, _, (fun _ _ hq => raw_iter lo hm hq), raw_walks hh _ d (Nat.ne_of_lt hm.lt) es ep, ⟨⟨_, Heap.get?_push_size _ rfl, rfl, rfl⟩, hm.to fun o e => Heap.get?_push_of_some _ e⟩⟩
end
noncomputable abbrev KA (H : Hp) : List (List Key × Addr × V) → List (List Key × Addr × Value) → Prop := Paired fun p q => p.1 = q.1 ∧ p.2.1 = q.2.1 ∧ H p.2.1 = some (.tup (p.1.map kV)) ∧ RelV p.2.2 q.2.2
noncomputable def hasA {α : Type} (kvs : List (List Key × α)) (k : List Key) : Bool := kvs.any fun q => decide (q.1 = k)
noncomputable def putA (kvs : List (List Key × Addr × V)) (k : List Key) (b : Addr) (v : V) : List (List Key × Addr × V) :=
  if hasA kvs k = true then kvs.map fun q => if q.1 = k then (q.1, q.2.1, v) else q else kvs ++ [(k, b, v)]
theorem KA.has {H : Hp} {kvs : List (List Key × Addr × V)} {xs : List (List Key × Addr × Value)} (r : KA H kvs xs) (k : List Key) : hasA kvs k = (atKey xs k).isSome := by
  induction r with
  | nil => rfl
  | @cons p q ps qs h t ih =>
    unfold hasA at ih ⊢
    rw [List.any_cons, ih]
    unfold atKey
    rw [List.find?_cons, ← h.1]
    by_cases e : p.1 = k
    · simp [e]
    · simp [e]
theorem KA.put {H : Hp} {kvs : List (List Key × Addr × V)} {xs : List (List Key × Addr × Value)} (r : KA H kvs xs) (k : List Key) {b : Addr} {y : V} {u : Value} (hb : H b = some (.tup (k.map kV))) (ry : RelV y u) : KA H (putA kvs k b y) (storedH xs k b u) := by
  have e := r.has k
  unfold putA storedH
  rw [e]
  by_cases q : (atKey xs k).isSome = true
  · rw [if_pos q, if_pos q]
    clear e q
    induction r with
    | nil => exact .nil
    | @cons p q ps qs h t ih =>
      rw [List.map_cons, List.map_cons]
      refine .cons ?_ ih
      obtain ⟨h1, h2, h3, h4⟩ := h
      unfold putAt
      by_cases e : p.1 = k
      · rw [if_pos e, if_pos (h1.symm.trans e)]; exact ⟨h1, h2, h3, ry⟩
      · rw [if_neg e, if_neg (fun z => e (h1.trans z))]; exact ⟨h1, h2, h3, h4⟩
  · rw [if_neg q, if_neg q]; exact Paired.snoc r ⟨rfl, rfl, hb, ry⟩
theorem putA_len (kvs : List (List Key × Addr × V)) (k : List Key) (b : Addr) (v : V) : (putA kvs k b v).length ≤ kvs.length + 1 := by
  unfold putA; split <;> simp
section
variable {X : Cx} {pins : List (Addr × Obj)} {σ : St} {H : Hp} {s : Shared} {a b : Addr} {kvs : List (List Key × Addr × V)}
theorem dA_of (I : Inv X pins σ H s) (e : H a = some (.dA kvs)) : kvs.length ≤ sizeLine ∧ (a == sysModules) = false ∧ ∃ xs, KA H kvs xs ∧ s.heap.DictOfH (tupleKind (mixKind X.prog X.w)) a xs := by
  obtain ⟨z, y, xs, r, o, es, ep, h1, h2, h3, h4, h5⟩ := (show ObjOk X.prog X.w H s.heap a (.dA kvs) from I.hok a _ e)
  refine ⟨z, y, xs, r, o, es, ep, h1, h2, h3, h4, ?_, h5⟩
  clear h4 h5 z e
  induction r with
  | nil => intro x hx; exact nomatch hx
  | @cons p q ps qs hq t ih =>
    intro x hx
    rcases List.mem_cons.mp hx with e | hx
    · subst e; rw [← hq.1, ← hq.2.1]; exact key_of I.hok hq.2.2.1
    · exact ih x hx
noncomputable def rSetA : V → V → V → Hp → (Hp → Prop) → Prop := fun o i v H Q => ∃ p kvs b k, o = .ref p ∧ i = .ref b ∧ H p = some (.dA kvs) ∧ H b = some (.tup (k.map kV)) ∧ kvs.length < sizeLine ∧ Q (upd H p (.dA (putA kvs k b v)))
theorem set_dictA (hu : X.A.units + 1 < cLine) : PSet X rSetA := by
  intro pins s σ H o i v ov iv u Q I ro ri rv h
  obtain ⟨p, kvs, b, k, rfl, rfl, hp, hb, hl, q⟩ := h
  cases ro
  cases ri
  obtain ⟨z, hd, xs, rel, dd⟩ := dA_of I hp
  have hz : xs.length ≤ sizeLine := by rw [← Paired.length rel]; exact z
  have hn : (putA kvs k b v).length ≤ sizeLine := by have := putA_len kvs k b v; omega
  refine wpAny_setItem_heap (hsz := hz) (tupleKind_room_in1 hu) (key_of I.hok hb) dd fun h' dd' hs => ?_
  obtain ⟨o, es, ep, hq, h2, h3, h4, _, h5⟩ := dd'
  refine ⟨_, d_write (ob := .dA (putA kvs k b v)) I (by rw [hp]; exact True.intro) hs ⟨o, hq⟩ ⟨hn, hd, _, Paired.mapP (rel.put k hb rv) fun x y z => ⟨z.1, z.2.1, ?_, z.2.2.2⟩, o, es, ep, hq, h2, h3, h4, h5⟩, q⟩
  rw [upd_ne (ne_of z.2.2.1 hp (fun z => nomatch z))]
  exact z.2.2.1
noncomputable def rInA (neg : Bool) : R2 := fun x y H Q => ∃ p kvs b k, x = .ref b ∧ y = .ref p ∧ H p = some (.dA kvs) ∧ H b = some (.tup (k.map kV)) ∧ Q (.bl (if neg = true then !hasA kvs k else hasA kvs k)) H
theorem op_inA (hu : X.A.units + 1 < cLine) : OpR X (compareOp .In) (rInA false) := by
  intro pins s σ H x y v u Q I rx ry h
  obtain ⟨p, kvs, b, k, rfl, rfl, hp, hb, q⟩ := h
  cases rx
  cases ry
  obtain ⟨z, hd, xs, rel, dd⟩ := dA_of I hp
  refine wpAny_in_heap (tupleKind_room_in1 hu) (key_of I.hok hb) hd dd ?_
  rw [← rel.has k]
  exact ⟨.bl (hasA kvs k), H, I.tok _, rfl, q⟩
noncomputable def uLstA (xs : List V) (H : Hp) (Q : VK) : Prop := ∃ p kvs, xs = [.ref p] ∧ H p = some (.dA kvs) ∧ ∀ l, H l = none → Q (.ref l) (upd H l (.lst (kvs.map fun q => V.ref q.2.1)))
theorem call_list_dA (hc : X.calm = true) (htn : X.tn = 0) : CallR X (.type "list") uLstA := by
  intro pins s σ H xs us Q I r h
  obtain ⟨p, kvs, rfl, hp, q⟩ := h
  obtain ⟨u, rfl, rx⟩ := vals1 r
  cases rx
  obtain ⟨z, hd, xs, rel, o, es, ep, h1, h2, h3, h4, h6, h7⟩ := dA_of I hp
  have hsz : es.size = kvs.length := by rw [← Array.length_toList, h4, List.length_map, ← Paired.length rel]
  refine PySem.W.kdl_call (raw_src (es := es) (ep := ep) hd) (I.ok.hd hc) ⟨o, h1, h2, h3⟩ (by rw [hsz]; exact z) fun h' tk acc' c' kp hl hacc => ?_
  have hv : Vals (kvs.map fun q => V.ref q.2.1) acc'.toList := by
    have key : acc'.toList = es.toList.map (·.key) := by
      apply List.ext_getElem?
      intro j
      rw [Array.getElem?_toList, List.getElem?_map, Array.getElem?_toList]
      by_cases hj : j < es.size
      · have hj' : j < acc'.size := by rw [hacc.1]; exact hj
        obtain ⟨_, e⟩ := hacc.2 j acc'[j] (by simp [hj'])
        rw [Array.getElem?_eq_getElem hj', Array.getElem?_eq_getElem hj, e]; rfl
      · have hj' : ¬ j < acc'.size := by rw [hacc.1]; exact hj
        rw [Array.getElem?_eq_none (by omega), Array.getElem?_eq_none (by omega)]; rfl
    rw [key, h4]
    clear key h4 hacc hl kp hsz z q hp h6 h7
    induction rel with
    | nil => exact .nil
    | @cons a b as bs h t ih =>
      rw [List.map_cons, List.map_cons, List.map_cons]
      exact .cons (show RelV (.ref a.2.1) (.ref b.2.1) by rw [h.2.1]; rfl) ih
  exact ⟨.ref s.heap.objs.size, _, I.laid (t' := tk) kp (Nat.le_refl _) (show ObjOk X.prog X.w _ h' _ (.lst (kvs.map fun q => V.ref q.2.1)) from ⟨by rw [List.length_map]; exact z, acc'.toList, c', hv, by simpa using hl⟩) (by rw [htn]; exact Nat.zero_le _), rfl, q _ (I.hok.fresh (Nat.le_refl _))⟩
end
end L2
namespace L2
open PySem PySem.Spec PyProof.Rows
set_option maxHeartbeats 4000000
set_option linter.unusedVariables false
noncomputable def keyD : D → Option Key
  | .int i => some (.inl i)
  | .str x => some (.inr x)
  | _ => none
noncomputable def keysD : List D → Option (List Key)
  | [] => some []
  | d :: r => (keyD d).bind fun k => (keysD r).map (k :: ·)
noncomputable def tkeyD : D → Option (List Key)
  | .tup ds => keysD ds
  | _ => none
noncomputable def dKey : Key → D
  | .inl i => .int i
  | .inr x => .str x
section
variable {K : PySem.W.Frag} {H : Hp}
theorem keyD_den {d : D} {v : V} {k : Key} (h : Den K H d v) (e : keyD d = some k) : v = kV k := by
  cases d with
  | int i => cases e; exact h
  | str x => cases e; exact h
  | _ => cases e
theorem keysD_den : ∀ {ds : List D} {vs : List V} {ks : List Key}, Dens K H ds vs → keysD ds = some ks → vs = ks.map kV
  | [], _, _, h, e => by cases h; cases e; rfl
  | d :: r, _, _, ⟨v, vs, h0, h1, h2⟩, e => by
    subst h0
    unfold keysD at e
    cases q : keyD d with
    | none => rw [q] at e; cases e
    | some k =>
      rw [q] at e
      have e : (keysD r).map (k :: ·) = some _ := e
      cases q2 : keysD r with
      | none => rw [q2] at e; cases e
      | some ks => rw [q2] at e; cases e; rw [List.map_cons, keyD_den h1 q, keysD_den h2 q2]
theorem dKey_dens : ∀ ks : List Key, Dens K H (ks.map dKey) (ks.map kV)
  | [] => Dens.nil
  | .inl i :: r => Dens.cons rfl (dKey_dens r)
  | .inr x :: r => Dens.cons rfl (dKey_dens r)
theorem tkey_den {d : D} {v : V} {ks : List Key} (h : Den K H d v) (e : tkeyD d = some ks) : ∃ b, v = .ref b ∧ H b = some (.tup (ks.map kV)) := by
  cases d with
  | tup ds =>
    obtain ⟨a, xs, rfl, h1, h2⟩ := h
    have := keysD_den h2 e
    subst this
    exact ⟨a, rfl, h1⟩
  | _ => cases e
noncomputable def putT (kvs : List (List Key × D)) (k : List Key) (d : D) : List (List Key × D) :=
  if hasA kvs k = true then kvs.map fun q => if q.1 = k then (q.1, d) else q else kvs ++ [(k, d)]
theorem DenT.has : ∀ {ds : List (List Key × D)} {xs : List (List Key × Addr × V)} (k : List Key), DenT K H ds xs → hasA xs k = hasA ds k
  | [], _, k, h => by cases h; rfl
  | (k', d) :: r, _, k, ⟨b, v, vs, e, _, _, h⟩ => by
    subst e
    have := DenT.has k h
    unfold hasA at this ⊢
    rw [List.any_cons, List.any_cons, this]
theorem DenT.len : ∀ {ds : List (List Key × D)} {xs : List (List Key × Addr × V)}, DenT K H ds xs → ds.length = xs.length
  | [], _, h => by cases h; rfl
  | (k', d) :: r, _, ⟨b, v, vs, e, _, _, h⟩ => by subst e; simp [DenT.len h]
theorem DenT.snoc : ∀ {ds : List (List Key × D)} {xs : List (List Key × Addr × V)} {k : List Key} {b : Addr} {d : D} {v : V}, DenT K H ds xs → H b = some (.tup (k.map kV)) → Den K H d v → DenT K H (ds ++ [(k, d)]) (xs ++ [(k, b, v)])
  | [], _, k, b, d, v, h, hb, hd => by cases h; exact ⟨b, v, [], rfl, hb, hd, rfl⟩
  | (k', d') :: r, _, k, b, d, v, ⟨b', v', vs, e, h0, h1, h⟩, hb, hd => by subst e; exact ⟨b', v', _, rfl, h0, h1, DenT.snoc h hb hd⟩
theorem DenT.repl : ∀ {ds : List (List Key × D)} {xs : List (List Key × Addr × V)} (k : List Key) {d : D} {v : V}, DenT K H ds xs → Den K H d v →
    DenT K H (ds.map fun q => if q.1 = k then (q.1, d) else q) (xs.map fun q => if q.1 = k then (q.1, q.2.1, v) else q)
  | [], _, k, d, v, h, hd => by cases h; exact rfl
  | (k', d') :: r, _, k, d, v, ⟨b', v', vs, e, h0, h1, h⟩, hd => by
    subst e
    rw [List.map_cons, List.map_cons]
    have ih := DenT.repl k h hd
    by_cases q : k' = k
    · rw [if_pos q, if_pos q]; exact ⟨b', v, _, rfl, h0, hd, ih⟩
    · rw [if_neg q, if_neg q]; exact ⟨b', v', _, rfl, h0, h1, ih⟩
theorem DenT.put {ds : List (List Key × D)} {xs : List (List Key × Addr × V)} {k : List Key} {b : Addr} {d : D} {v : V} (h : DenT K H ds xs) (hb : H b = some (.tup (k.map kV))) (hd : Den K H d v) : DenT K H (putT ds k d) (putA xs k b v) := by
  unfold putT putA
  rw [h.has k]
  split
  · exact h.repl k hd
  · exact h.snoc hb hd
theorem DenT.keys : ∀ {ds : List (List Key × D)} {xs : List (List Key × Addr × V)}, DenT K H ds xs → Dens K H (ds.map fun q => D.tup (q.1.map dKey)) (xs.map fun q => V.ref q.2.1)
  | [], _, h => by cases h; exact rfl
  | (k', d') :: r, _, ⟨b', v', vs, e, h0, h1, h⟩ => by
    subst e
    rw [List.map_cons, List.map_cons]
    exact Dens.cons ⟨b', _, rfl, h0, dKey_dens _⟩ (DenT.keys h)
end
section
variable {X : Cx} {W : Wd} {Ob O O' : List Nat} {e : Expr} {ε ψ : FE} {pos p1 p2 : Pos} {x : Str}
theorem n_dictT {pos : Pos} : JE X (.Dict [] [] pos) (tN W O (vC (.dcT []))) :=
  JE.imp ⟨fun pins s σ H Q I h => wpAny_Dict_empty ⟨.ref s.heap.objs.size, _, I.laid (a := s.heap.objs.size) (o := .dA []) (t' := s.toks) (fun _ _ q => Heap.get?_push_of_some _ q) (Nat.le_refl _)
    ⟨Nat.zero_le _, beq_eq_false_iff_ne.mpr (Ne.symm (Nat.ne_of_lt I.big)), [], .nil, _, #[], 0, Heap.get?_push_size _ rfl, ⟨rfl, rfl, rfl⟩, rfl, rfl, List.nodup_nil⟩, rfl, h _ (I.hok.fresh (Nat.le_refl _))⟩⟩
    (t := fun _ H Q => ∀ p, H p = none → Q (.ref p) (upd H p (.dA []))) fun σ H Q ⟨as0, B, own, δ, I, h⟩ p hp => h p _ _ (same_new hp _) hp upd_same ⟨[], rfl, rfl⟩
noncomputable def sPutT (i : Nat) (ψ ε : FE) : FS := fun δ => match δ[i]? with
  | some (some (.dcT kvs)) => (ε δ).bind fun d => (ψ δ).bind fun k => match tkeyD k with
    | some ks => if kvs.length < 1000000 then .ok (.nx (δ.set i (some (.dcT (putT kvs ks d))))) else .no
    | none => .no
  | _ => .no
theorem ds_putT {i : Nat} {ie : Expr} {spos : Pos} (hu : X.A.units + 64 < cLine) (hi : i ∈ O) (he : JE X e (tD W O ε)) (hie : JE X ie (tD W O ψ)) (hN : X.N[i]? = some x := by rfl) (hv : Vis X.env.scope x := by first | exact Or.inl rfl | exact Or.inr (Or.inl rfl) | exact Or.inr (Or.inr rfl)) (hd : (x == ("__debug__" : Str)) = false := by decide)
    (hcd : (x == ("__classdict__" : Str)) = false := by decide) (hs : swapsWithSole [.Subscript (.Name x p1) ie spos] e pos.line X.env = pure false := by rfl) (hw : swappedStores [.Subscript (.Name x p1) ie spos] e X.env = pure none := by rfl)
    (h1 : (assignEach [.Subscript (.Name x p1) ie spos] X.env).map (·.2) = [assign (.Subscript (.Name x p1) ie spos) X.env] := by rfl)
    (ha : ∀ v, assign (.Subscript (.Name x p1) ie spos) X.env v = (do
      let ov ← holding [v] (eval (.Name x p1) X.env)
      let iv ← holding [v, ov] (eval ie X.env)
      standAt spos
      holding [v, ov, iv] (setItem ov iv v)
      release [v, ov, iv] []) := by intro _; rfl) :
    JS X (.Assign [.Subscript (.Name x p1) ie spos] e pos) (sD W Ob O O (sPutT i ψ ε)) :=
  (js_asg he (jg_sub (jv i hN hv hd hcd) hie (set_dictA (by omega)) ha) hs hw h1).imp fun D σ H hh => exE hh fun as0 B own δ I h => by
    obtain ⟨a, hza⟩ := zip_left I.olen hi
    obtain ⟨d, o, h1, h2, h3, h4⟩ := I.owns i a hza
    unfold sPutT at h
    rw [h1] at h
    cases d with
    | dcT ds =>
      obtain ⟨xs, rfl, q⟩ := h4
      refine ⟨as0, B, own, δ, I, fitsS_bind I h fun y v H2 s2 d2 hq => ?_⟩
      have e0 : gSub (uVar i) (tD W O ψ) rSetA v σ H2 D.nx = kVar σ[i]? H2 (fun o H1 => tD W O ψ σ H1 fun i H2 => rSetA o i v H2 fun H3 => D.nx σ H3) := rfl
      rw [e0, h2]
      refine ⟨as0, B, own, δ, I.mono s2, fitsS_bind (I.mono s2) hq fun k u H3 s3 d3 hq3 => ?_⟩
      cases e : tkeyD k with
      | none => rw [e] at hq3; exact hq3.elim
      | some ks =>
        rw [e] at hq3
        have hq3 : FitsS W as0 B Ob O (if ds.length < 1000000 then .ok (.nx (δ.set i (some (.dcT (putT ds ks y))))) else .no) D := hq3
        split at hq3
        · rename_i hl
          obtain ⟨b, rfl, hb⟩ := tkey_den d3 e
          have hm := million
          refine ⟨a, xs, b, ks, rfl, rfl, (s2.trans s3) _ _ h3, mask_le _ _ _ _ hb, by rw [← q.len]; omega, ?_⟩
          exact hq3 own σ _ (((I.mono s2).mono s3).mutate hza ⟨_, rfl, (q.mono (mask_mono (s2.trans s3))).put hb (d2.mono (mask_mono s3))⟩)
        · exact hq3.elim
    | _ => exact h.elim
noncomputable def lstTD (ds : List D) : R D := match ds with
  | [.dcT kvs] => .ok (.lst (kvs.map fun q => D.tup (q.1.map dKey)))
  | _ => .no
theorem n_lstT (K : PySem.W.Frag) {i : Nat} (hi : i ∈ O) (hm : X.mg "list" = none) (hN : X.N[i]? = some x := by rfl) (hg : Gl X "list" := by rfl) (hv : Vis X.env.scope x := by first | exact Or.inl rfl | exact Or.inr (Or.inl rfl) | exact Or.inr (Or.inr rfl)) (hd : (x == ("__debug__" : Str)) = false := by decide)
    (hcd : (x == ("__classdict__" : Str)) = false := by decide) (hc : X.calm = true := by rfl) (htn : X.tn = 0 := by rfl) (hK : X.K = K := by rfl) (hW : W.K = K := by rfl) : JE X (.Call (.Name "list" p2) [.Name x p1] [] pos) (tN W O (vCall lstTD (aCons (vVar i) aNil))) :=
  (j_callT (call_list_dA hc htn) hm bt_list (ja_cons (jv i hN hv hd hcd) ja_nil) hg).imp fun σ H Q hh => exE hh fun as0 B own δ I h => by
    obtain ⟨a, ha⟩ := zip_left I.olen hi
    obtain ⟨d, o, h1, h2, h3, h4⟩ := I.owns i a ha
    show kVar σ[i]? H (fun v H1 => uLstA [v] H1 Q)
    rw [h2]
    have hv : vVar i δ = .ok d := by unfold vVar; rw [h1]
    have h' : FitsN W (own ++ as0) H (lstTD [d]) Q := by
      have e : vCall lstTD (aCons (vVar i) aNil) δ = lstTD [d] := by unfold vCall aCons aNil; rw [hv]; rfl
      rw [← e]; exact h
    cases d with
    | dcT ds =>
      obtain ⟨xs, rfl, q⟩ := h4
      refine ⟨a, xs, rfl, h3, fun l hl => ?_⟩
      exact h' l _ _ (same_new hl _) hl upd_same ⟨_, rfl, q.keys.mono (hide_new hl (same_new hl _))⟩
    | _ => first | exact h4.elim | exact h'.elim
end
section
variable {W : Wd} {X : Cx}
noncomputable def inTD (a b : D) : R D := match b with
  | .dcT kvs => (match tkeyD a with
    | some ks => .ok (.bl (hasA kvs ks))
    | none => .no)
  | _ => .no
theorem pInT : OpD W (rInA false) inTD := by
  intro as H x y a b Q hn da db h
  unfold inTD at h
  split at h
  · rename_i kvs
    split at h
    · rename_i ks e
      obtain ⟨c, rfl, hc⟩ := tkey_den da e
      obtain ⟨p, xs, rfl, h1, h2⟩ := db
      refine ⟨p, xs, c, ks, rfl, rfl, mask_le _ _ _ _ h1, mask_le _ _ _ _ hc, ?_⟩
      rw [if_neg Bool.false_ne_true, h2.has ks]
      exact fitsOk h rfl
    · exact h.elim
  · exact h.elim
noncomputable def deepAny (p : PyData) : List PyData → Option Bool
  | [] => some false
  | q :: r => if SeqAt.shaped q = true ∧ q.depth ≤ 32 then (deepAny p r).map fun b => PyData.eqv q p || b else none
noncomputable def deepIn (x : D) (xs : List D) : Option Bool := match toPy x, toPys xs with
  | some p, some ps => if SeqAt.shaped p = true then deepAny p ps else none
  | _, _ => none
noncomputable def uInP (K : PySem.W.Frag) (neg : Bool) : R2 := fun x y H Q => ∃ p a ds xs k, y = .ref p ∧ SqL K H p xs ∧ Den K H a x ∧ Dens K H ds xs ∧ deepIn a ds = some k ∧ Q (.bl (if neg = true then !k else k)) H
open Classical in
noncomputable def deepF (s : Shared) (p : PyData) (u : Value) : Bool := decide (∃ q bs, Reads s.heap u q bs ∧ q.canLay0 = true ∧ PyData.eqv q p = true)
theorem deepF_eq {s : Shared} {p q : PyData} {u : Value} {bs : List Addr} (r : Reads s.heap u q bs) (hq : q.canLay0 = true) : deepF s p u = PyData.eqv q p := by
  classical
  unfold deepF
  cases e : PyData.eqv q p with
  | true => exact @decide_eq_true _ (_) ⟨q, bs, r, hq, e⟩
  | false =>
    refine @decide_eq_false _ (_) fun ⟨q', bs', r', _, e'⟩ => ?_
    have := SeqAt.Reads.unique q q' u bs bs' hq r r'
    subst this
    rw [e] at e'; cases e'
theorem deep_any {pins : List (Addr × Obj)} {σ : St} {H : Hp} {s : Shared} (I : Inv X pins σ H s) (hu : X.A.units + 64 < cLine) {v : Value} {p : PyData} {as : List Addr} (rv : Reads s.heap v p as) (hp : SeqAt.shaped p = true) : ∀ {ds : List D} {vs : List V} {us : List Value} {ps : List PyData} {k : Bool}, Dens X.K H ds vs → Vals vs us → toPys ds = some ps → deepAny p ps = some k →
    (∀ u ∈ us, SeqAt.EqAt X.A.in1 s u v (deepF s p u)) ∧ us.any (deepF s p) = k
  | [], _, _, _, _, h, r, e, q => by
    cases h; cases r; cases e; cases q
    exact ⟨fun u hu => (nomatch hu), rfl⟩
  | d :: ds, _, _, _, k, ⟨w1, ws, h0, h1, h2⟩, r, e, q => by
    subst h0
    unfold toPys at e
    cases q1 : toPy d with
    | none => rw [q1] at e; cases e
    | some x =>
      rw [q1] at e
      have e : (toPys ds).map (x :: ·) = some _ := e
      cases q2 : toPys ds with
      | none => rw [q2] at e; cases e
      | some xs =>
        rw [q2] at e
        cases e
        unfold deepAny at q
        split at q
        · rename_i hs
          cases q3 : deepAny p xs with
          | none => rw [q3] at q; cases q
          | some k2 =>
            rw [q3] at q
            cases q
            cases r with
            | @cons _ u _ us r1 r2 =>
              obtain ⟨bs, hb⟩ := reads_of I h1 r1 q1
              obtain ⟨i1, i2⟩ := deep_any I hu rv hp h2 r2 q2 q3
              have hq := SeqAt.canLay_of_shaped hs.1
              have ef := deepF_eq (p := p) hb hq
              refine ⟨fun u' hu' => ?_, by rw [List.any_cons, ef, i2]⟩
              rcases List.mem_cons.mp hu' with z | z
              · subst z
                rw [ef]
                refine SeqAt.eqAt_reads x p X.A.in1 s _ v bs as hb rv hq (SeqAt.canLay_of_shaped hp) ?_
                have h1 := Nat.min_le_left x.depth p.depth
                have h2 := hs.2
                have h3 : X.A.in1.units = X.A.units + 1 := rfl
                omega
              · exact i1 u' z
        · cases q
theorem in_inv {x : D} {xs : List D} {k : Bool} (h : deepIn x xs = some k) : ∃ p ps, toPy x = some p ∧ toPys xs = some ps ∧ SeqAt.shaped p = true ∧ deepAny p ps = some k := by
  unfold deepIn at h
  split at h
  · rename_i p ps h1 h2
    split at h
    · rename_i hs; exact ⟨p, ps, h1, h2, hs, h⟩
    · cases h
  · cases h
theorem oInP (K : PySem.W.Frag) (hu : X.A.units + 64 < cLine) (hK : X.K = K := by rfl) : OpR X (compareOp .In) (uInP K false) := by
  subst hK
  intro pins s σ H x y v u Q I rx ry h
  obtain ⟨p, a, ds, xs, k, rfl, hl, da, dd, e, q⟩ := h
  cases ry
  obtain ⟨pa, ps, h1, h2, h3, h4⟩ := in_inv e
  obtain ⟨as, ra⟩ := reads_of I da rx h1
  obtain ⟨its, r, pl, hz⟩ := I.list hl
  obtain ⟨i1, i2⟩ := deep_any I hu ra h3 dd r h2 h4
  refine SeqAt.in_listAt (deepF s pa) pl.isList (fun y hy => i1 y (by simpa using hy)) ⟨.bl k, H, I, ?_, q⟩
  rw [show (its.toArray.any (deepF s pa)) = its.any (deepF s pa) by simp, i2]
  rfl
theorem oNotInP (K : PySem.W.Frag) (hu : X.A.units + 64 < cLine) (hK : X.K = K := by rfl) : OpR X (compareOp .NotIn) (uInP K true) := by
  subst hK
  intro pins s σ H x y v u Q I rx ry h
  obtain ⟨p, a, ds, xs, k, rfl, hl, da, dd, e, q⟩ := h
  cases ry
  obtain ⟨pa, ps, h1, h2, h3, h4⟩ := in_inv e
  obtain ⟨as, ra⟩ := reads_of I da rx h1
  obtain ⟨its, r, pl, hz⟩ := I.list hl
  obtain ⟨i1, i2⟩ := deep_any I hu ra h3 dd r h2 h4
  refine SeqAt.notIn_listAt (deepF s pa) pl.isList (fun y hy => i1 y (by simpa using hy)) ⟨.bl (!k), H, I, ?_, q⟩
  rw [show (its.toArray.any (deepF s pa)) = its.any (deepF s pa) by simp, i2]
  rfl
noncomputable def inPO (x y : D) : Option Bool := match y with
  | .lst ds => deepIn x ds
  | _ => none
noncomputable def inPD (x y : D) : R D := optR (inPO x y) fun k => k
noncomputable def notInPD (x y : D) : R D := optR (inPO x y) fun k => !k
theorem pInPs (K : PySem.W.Frag) (neg : Bool) (hW : W.K = K := by rfl) : OpD W (uInP K neg) (fun a b => optR (inPO a b) fun k => if neg = true then !k else k) := by
  subst hW
  intro as H x y a b Q hn da db h
  have h : Fits W as H (optR (inPO a b) fun k => if neg = true then !k else k) Q := h
  cases e : inPO a b with
  | none => rw [e] at h; exact h.elim
  | some k =>
    rw [e] at h
    have h : Fits W as H (.ok (.bl (if neg = true then !k else k))) Q := h
    have fin := fitsOk h (show Den W.K (mask as H) (.bl (if neg = true then !k else k)) (.bl (if neg = true then !k else k)) from rfl)
    cases b with
    | lst ds =>
      obtain ⟨p, xs, rfl, h1, h2⟩ := db
      exact ⟨p, a, _, xs, k, rfl, (mask_le _ _).seq h1, da.mono (mask_le _ _), h2.mono (mask_le _ _), e, fin⟩
    | _ => cases e
theorem pInP (K : PySem.W.Frag) (hW : W.K = K := by rfl) : OpD W (uInP K false) inPD := pInPs K false hW
end
section
variable {X : Cx} {W : Wd} {O : List Nat} {e : Expr} {φ : FE} {pos p1 : Pos} {x : Str}
theorem dt_notInO (K : PySem.W.Frag) {i : Nat} (hi : i ∈ O) (hu : X.A.units + 64 < cLine) (ha : JE X e (tD W O φ)) (hm : behindInMarks .NotIn (.Name x p1) = false) (hN : X.N[i]? = some x := by rfl) (hv : Vis X.env.scope x := by first | exact Or.inl rfl | exact Or.inr (Or.inl rfl) | exact Or.inr (Or.inr rfl)) (hd : (x == ("__debug__" : Str)) = false := by decide)
    (hcd : (x == ("__classdict__" : Str)) = false := by decide) (hK : X.K = K := by rfl) (hW : W.K = K := by rfl) : JT X (.Compare e [.NotIn] [.Name x p1] pos) (tDT W O (qBl (vOp notInPD φ (vVar i)))) :=
  (jt_cmp (oNotInP K hu hK) ha (jv i hN hv hd hcd) hm).imp fun σ H Q hh => exE hh fun as0 B own δ I h => by
    obtain ⟨a, hza⟩ := zip_left I.olen hi
    obtain ⟨d, o, h1, h2, h3, h4⟩ := I.owns i a hza
    have hv : vVar i δ = .ok d := by unfold vVar; rw [h1]
    have h' : FitsP W H ((φ δ).bind fun x => (notInPD x d).bind fun x => blD x .ok) Q := by
      have e : qBl (vOp notInPD φ (vVar i)) δ = (φ δ).bind fun x => (notInPD x d).bind fun x => blD x .ok := by
        unfold qBl vOp; rw [bind_assoc, hv]; rfl
      rw [← e]; exact h
    refine ⟨as0, B, own, δ, I, fitsP_bind h' fun y v H1 s1 d1 h1' => ?_⟩
    show kVar σ[i]? H1 _
    rw [h2]
    subst hW
    cases e : inPO y d with
    | none => unfold notInPD at h1'; rw [e] at h1'; exact h1'.elim
    | some k =>
      unfold notInPD at h1'
      rw [e] at h1'
      unfold inPO at e
      split at e
      · obtain ⟨xs, rfl, q⟩ := h4
        exact ⟨a, y, _, xs, k, rfl, SqL.of (s1 _ _ h3), d1.mono (mask_le _ _), (q.mono (mask_mono s1)).mono (mask_le _ _), e, h1' H1 (Same.refl _)⟩
      · cases e
end
end L2
namespace L2
open PySem PySem.Spec PyProof.Rows
set_option maxHeartbeats 4000000
set_option linter.unusedVariables false
theorem any_get (bs : List Bool) : (List.range bs.length).any (fun i => (bs[i]?).getD true) = bs.any id := by
  rw [Bool.eq_iff_iff, List.any_eq_true, List.any_eq_true]
  constructor
  · rintro ⟨i, hi, h⟩
    have hi' := List.mem_range.mp hi
    rw [List.getElem?_eq_getElem hi'] at h
    exact ⟨_, List.getElem_mem hi', h⟩
  · rintro ⟨b, hb, h⟩
    obtain ⟨i, hi, e⟩ := List.getElem_of_mem hb
    refine ⟨i, List.mem_range.mpr hi, ?_⟩
    rw [List.getElem?_eq_getElem hi, e]
    exact h
section
variable {X : Cx} {W : Wd} {O : List Nat} {es : List Expr} {e : Expr} {α : FA} {φ : FE}
noncomputable def uAny (K : PySem.W.Frag) (xs : List V) (H : Hp) (Q : VK) : Prop := match xs with
  | [.ref p] => ∃ bs : List Bool, SqL K H p (bs.map V.bl) ∧ Q (.bl (bs.any id)) H
  | _ => False
theorem call_any (K : PySem.W.Frag) (hc : X.calm = true) (hK : X.K = K := by rfl) : CallR X (.builtin "any") (uAny K) := by
  subst hK
  intro pins s σ H xs us Q I r h
  unfold uAny at h
  split at h
  case h_2 => exact h.elim
  rename_i p
  obtain ⟨bs, hq, q⟩ := h
  obtain ⟨u, rfl, rx⟩ := vals1 r
  cases rx
  obtain ⟨its, rv, pl, hz⟩ := I.list hq
  have hh : X.A.in1.handled = none := I.ok.hd hc
  refine wpAny_guard I.tk (call_any_walk (wpAny_pyIter_list pl.isList ?_))
  have hne : p ≠ s.heap.objs.size := by
    obtain ⟨o, ho, _⟩ := pl.isList
    exact Nat.ne_of_lt (Heap.lt_size ho)
  refine ⟨s.heap.objs.size, [s.heap.objs.size, p], [s.heap.objs.size], its.toArray.size, _, _, fun i => (bs[i]?).getD true, rfl, Walks.list hh _ p hne its.toArray, ⟨⟨_, Heap.get?_push_size _ rfl, rfl, rfl⟩, Heap.IsList.push pl.isList _⟩, ?_, ?_⟩
  · intro i v s' Q' E' hv hQ'
    have hv' : its[i]? = some v := by simpa using hv
    have hi : i < its.length := (List.getElem?_eq_some_iff.mp hv').1
    have hl := rv.length
    rw [List.length_map] at hl
    have hb : (bs.map V.bl)[i]? = some (V.bl bs[i]) := by
      rw [List.getElem?_map, List.getElem?_eq_getElem (by omega)]
      rfl
    obtain ⟨u, hu, ru⟩ := rv.get hb
    rw [hv'] at hu
    cases hu
    cases ru
    have hQ2 : Q' bs[i] s' := by
      have e : (bs[i]?).getD true = bs[i] := by rw [List.getElem?_eq_getElem (by omega)]; rfl
      rw [← e]
      exact hQ'
    exact wpAny_truthy_bool hQ2
  · intro h' tk hk
    have I1 : Inv X pins σ H { s with heap := s.heap.push { cls := .type "list_iterator", data := .fields #[.ref p, .int 0 0] } } := I.kept (t' := s.toks) fun b o e => Heap.get?_push_of_some _ e
    have e1 : (List.range its.toArray.size).any (fun i => (bs[i]?).getD true) = bs.any id := by
      have hl := rv.length
      rw [List.length_map] at hl
      rw [List.size_toArray, ← hl]
      exact any_get bs
    rw [e1]
    obtain ⟨f0, f1, f2, f3, f4, f5⟩ := I.fpOk (b := s.heap.objs.size) (Nat.le_refl _) (I.hok.fresh (Nat.le_refl _))
    exact fun htk => ⟨.bl (bs.any id), H, I1.turned (fun b o hb e => hk b o (by simpa using hb) e) f0 f1 f3 f4 f5, rfl, q⟩
noncomputable def anyD (ds : List D) : R D := match ds with
  | [.lst xs] => match blsD xs with
    | some bs => .ok (.bl (bs.any id))
    | none => .no
  | _ => .no
theorem pAny (K : PySem.W.Frag) (hW : W.K = K := by rfl) : CallD W (uAny K) anyD := by
  subst hW
  intro as H xs ds Q hn dv h
  unfold anyD at h
  split at h
  · obtain ⟨v, rfl, d1⟩ := dens1 dv
    obtain ⟨p, vs, rfl, q1, q2⟩ := d1
    split at h
    · rename_i bs e
      refine ⟨bs, ?_, fitsOk h rfl⟩
      rw [← blsD_den q2 e]
      exact (mask_le _ _).seq q1
    · exact h.elim
  · exact h.elim
noncomputable def repE (ds : List D) (k : D) : R D := match k with
  | .int k => if -(2 ^ 63) ≤ k ∧ k < 2 ^ 63 ∧ ds.length * k.toNat ≤ 1000 then .ok (.lst (List.replicate k.toNat ds).flatten) else .no
  | _ => .no
noncomputable def vRepE (α : FA) (φ : FE) : FE := fun δ => (α δ).bind fun ds => if ds.length ≤ 1000 then (φ δ).bind fun k => repE ds k else .no
theorem n_repE {p1 pos : Pos} (h : JA X es (tDA W O α)) (he : JE X e (tD W O φ)) : JE X (.BinOp (.List es p1) .Mult e pos) (tN W O (vRepE α φ)) :=
  (j_op op_rep (j_lst h) he).imp fun σ H Q hh => exE hh fun as0 B own δ I h => ⟨as0, B, own, δ, I, by
    refine fits_bindAN h fun ds xs H1 s1 d1 h1 => ?_
    split at h1
    · rename_i hl
      have hlen := d1.len
      have hm : ∀ m, m ≤ 1000 → m ≤ sizeLine := fun m hm => by rw [sizeLine_eq]; exact Nat.le_trans hm (by decide)
      refine ⟨hm _ (by omega), fun p hp => ?_⟩
      have hp' : (upd H1 p (.lst xs)) p = some (.lst xs) := upd_same
      have sp : Same H1 (upd H1 p (.lst xs)) := same_new hp _
      refine ⟨as0, B, own, δ, (I.mono s1).mono sp, fits_bindN (h1.mono sp) fun k u H2 s2 d2 h2 => ?_⟩
      cases k with
      | int k =>
        cases d2
        have h2 : FitsN W (own ++ as0) H2 (if -(2 ^ 63) ≤ k ∧ k < 2 ^ 63 ∧ ds.length * k.toNat ≤ 1000 then .ok (.lst (List.replicate k.toNat ds).flatten) else .no) Q := h2
        split at h2
        · rename_i hk
          refine ⟨p, k, xs, rfl, rfl, s2 _ _ hp', hk.1, hk.2.1, hm _ (by rw [← hlen]; exact hk.2.2), fun p2 hp2 => ?_⟩
          refine h2 p2 _ (upd H2 p2 (.lst (List.replicate k.toNat xs).flatten)) (same_new hp2 _) hp2 upd_same ⟨_, rfl, ((d1.mono (mask_mono (sp.trans s2))).rep k.toNat).mono ?_⟩
          exact hide_new hp2 (same_new hp2 _)
        · exact h2.elim
      | _ => exact h2.elim
    · exact h1.elim⟩
end
end L2
namespace T40
open PySem L2
set_option maxHeartbeats 4000000
set_option maxRecDepth 100000
noncomputable abbrev N_key_of : List Str := ["change"]
noncomputable abbrev P_key_of : List Str := ["change"]
noncomputable def M_key_of : FS := (sSeq (sIf (qBl (vOp eqD (vOp ixD (vVar 0) (vC (.int 0))) (vC (.str "table")))) (sRet (vTup (aCons (vC (.str "table")) (aCons (vOp ixD (vOp ixD (vVar 0) (vC (.int 1))) (vC (.int 0))) aNil)))) sNext) (sSeq (sIf (qBl (vOp eqD (vOp ixD (vVar 0) (vC (.int 0))) (vC (.str "index")))) (sRet (vVar 0)) sNext) (sRet (vTup (aCons (vC (.str "row")) (aCons (vOp ixD (vVar 0) (vC (.int 1))) (aCons (vOp ixD (vVar 0) (vC (.int 2))) aNil)))))))
noncomputable def F_key_of : List D → R D := runD M_key_of N_key_of P_key_of
theorem E_key_of (a0 : D) : F_key_of [a0] = fin (M_key_of [some a0]) := rfl
noncomputable abbrev N_keys_of : List Str := ["changes", "keys", "change"]
noncomputable abbrev P_keys_of : List Str := ["changes"]
noncomputable def M_keys_of : FS := (sSeq (sOwn 1 (vC (.dcT []))) (sSeq (sFor (iAny (vVar 0)) (.one 2) (sPutT 1 (vCall F_key_of (aCons (vVar 2) aNil)) (vC (.bl true)))) (sRetW (vCall lstTD (aCons (vVar 1) aNil)))))
noncomputable def F_keys_of : List D → R D := runN M_keys_of N_keys_of P_keys_of
theorem E_keys_of (a0 : D) : F_keys_of [a0] = finN (M_keys_of [some a0, none, none]) := rfl
noncomputable abbrev N_meets : List Str := ["changes", "rows", "touched", "others", "key"]
noncomputable abbrev P_meets : List Str := ["changes", "rows"]
noncomputable def M_meets : FS := (sSeq (sOwn 2 (vC (.dcT []))) (sSeq (sFor (iAny (vVar 1)) (.one 3) (sFor (iAny (vCall F_keys_of (aCons (vVar 3) aNil))) (.one 4) (sPutT 2 (vVar 4) (vC (.bl true))))) (sRet (vCall anyD (aCons (vComp [none, some 2] (iAny (vCall F_keys_of (aCons (vVar 0) aNil))) (.one 0) qYes (vOp inTD (vVar 0) (vVar 1))) aNil)))))
noncomputable def F_meets : List D → R D := runD M_meets N_meets P_meets
theorem E_meets (a0 a1 : D) : F_meets [a0, a1] = fin (M_meets [some a0, some a1, none, none, none]) := rfl
noncomputable abbrev N_l_cell_at : List Str := ["_law_script", "_law_k"]
noncomputable abbrev P_l_cell_at : List Str := ["_law_script", "_law_k"]
noncomputable def M_l_cell_at : FS := (sSeq (sIf (qBl (vOp ltD (vVar 1) (vCall lenD (aCons (vVar 0) aNil)))) (sRet (vOp ixD (vVar 0) (vVar 1))) sNext) (sRet (vC (.int 0))))
noncomputable def F_l_cell_at : List D → R D := runD M_l_cell_at N_l_cell_at P_l_cell_at
theorem E_l_cell_at (a0 a1 : D) : F_l_cell_at [a0, a1] = fin (M_l_cell_at [some a0, some a1]) := rfl
noncomputable abbrev N_l_mixed : List Str := ["_law_number"]
noncomputable abbrev P_l_mixed : List Str := ["_law_number"]
noncomputable def M_l_mixed : FS := (sRet (vOp modD (vOp addD (vOp mulD (vVar 0) (vC (.int 48271))) (vC (.int 7919))) (vC (.int 2147483647))))
noncomputable def F_l_mixed : List D → R D := runD M_l_mixed N_l_mixed P_l_mixed
theorem E_l_mixed (a0 : D) : F_l_mixed [a0] = fin (M_l_mixed [some a0]) := rfl
noncomputable abbrev N_l_name_by : List Str := ["_law_cell", "_law_some", "_law_found", "_law_number", "_law_k"]
noncomputable abbrev P_l_name_by : List Str := ["_law_cell"]
noncomputable def M_l_name_by : FS := (sSeq (sSet 1 (vC (.str "abcdefghijklmnopqrstuvwxyz"))) (sSeq (sSet 2 (vC (.str ""))) (sSeq (sSet 3 (vVar 0)) (sSeq (sFor (iRng1D (aCons (vOp addD (vC (.int 1)) (vOp modD (vVar 0) (vC (.int 8)))) aNil)) (.one 4) (sSeq (sSet 3 (vCall F_l_mixed (aCons (vVar 3) aNil))) (sSet 2 (vOp addD (vVar 2) (vOp ixD (vVar 1) (vOp modD (vVar 3) (vC (.int 26)))))))) (sSeq (sIf (qBl (vOp inD (vVar 2) (vLst (aCons (vC (.str "and")) (aCons (vC (.str "by")) (aCons (vC (.str "down")) (aCons (vC (.str "from")) (aCons (vC (.str "none")) (aCons (vC (.str "not")) (aCons (vC (.str "or")) (aCons (vC (.str "order")) (aCons (vC (.str "show")) (aCons (vC (.str "take")) (aCons (vC (.str "where")) aNil)))))))))))))) (sRet (vOp addD (vVar 2) (vC (.str "z")))) sNext) (sRet (vVar 2)))))))
noncomputable def F_l_name_by : List D → R D := runD M_l_name_by N_l_name_by P_l_name_by
theorem E_l_name_by (a0 : D) : F_l_name_by [a0] = fin (M_l_name_by [some a0, none, none, none, none]) := rfl
noncomputable abbrev N_l_twin : List Str := ["_law_name", "_law_cell", "_law_some", "_law_at", "_law_step", "_law_found"]
noncomputable abbrev P_l_twin : List Str := ["_law_name", "_law_cell"]
noncomputable def M_l_twin : FS := (sSeq (sSet 2 (vC (.str "abcdefghijklmnopqrstuvwxyz"))) (sSeq (sSet 3 (vOp modD (vVar 1) (vCall lenD (aCons (vVar 0) aNil)))) (sSeq (sSet 4 (vOp addD (vOp addD (vSM (s1D fun x y => .int (fndI x y)) (vVar 2) (aCons (vOp ixD (vVar 0) (vVar 3)) aNil)) (vC (.int 1))) (vOp modD (vOp divD (vVar 1) (vC (.int 8))) (vC (.int 25))))) (sSeq (sSet 5 (vOp addD (vOp addD (vSl slD (vVar 0) oNone (oSome (vVar 3))) (vOp ixD (vVar 2) (vOp modD (vVar 4) (vC (.int 26))))) (vSl slD (vVar 0) (oSome (vOp addD (vVar 3) (vC (.int 1)))) oNone))) (sSeq (sIf (qBl (vOp inD (vVar 5) (vLst (aCons (vC (.str "and")) (aCons (vC (.str "by")) (aCons (vC (.str "down")) (aCons (vC (.str "from")) (aCons (vC (.str "none")) (aCons (vC (.str "not")) (aCons (vC (.str "or")) (aCons (vC (.str "order")) (aCons (vC (.str "show")) (aCons (vC (.str "take")) (aCons (vC (.str "where")) aNil)))))))))))))) (sRet (vOp addD (vVar 5) (vC (.str "z")))) sNext) (sRet (vVar 5)))))))
noncomputable def F_l_twin : List D → R D := runD M_l_twin N_l_twin P_l_twin
theorem E_l_twin (a0 a1 : D) : F_l_twin [a0, a1] = fin (M_l_twin [some a0, some a1, none, none, none, none]) := rfl
noncomputable abbrev N_l_shape_by : List Str := ["_law_name", "_law_cell", "_law_base", "_law_many", "_law_columns", "_law_more", "_law_j", "_law_column"]
noncomputable abbrev P_l_shape_by : List Str := ["_law_name", "_law_cell"]
noncomputable def M_l_shape_by : FS := (sSeq (sSet 2 (vSl slD (vCall F_l_name_by (aCons (vOp divD (vVar 1) (vC (.int 7))) aNil)) oNone (oSome (vC (.int 5))))) (sSeq (sSet 3 (vOp ixD (vLst (aCons (vC (.int 1)) (aCons (vC (.int 2)) (aCons (vC (.int 3)) (aCons (vC (.int 4)) (aCons (vC (.int 2)) (aCons (vC (.int 3)) (aCons (vC (.int 1)) (aCons (vC (.int 8)) aNil))))))))) (vOp modD (vVar 1) (vC (.int 8))))) (sSeq (sOwn 4 (vLst aNil)) (sSeq (sSet 5 (vVar 1)) (sSeq (sFor (iRng1D (aCons (vVar 3) aNil)) (.one 6) (sSeq (sSet 5 (vCall F_l_mixed (aCons (vVar 5) aNil))) (sSeq (sSet 7 (vOp addD (vOp addD (vVar 2) (vC (.str "z"))) (vOp ixD (vC (.str "abcdefgh")) (vVar 6)))) (sSeq (sIf (qBl (vOp eqD (vOp modD (vOp divD (vVar 1) (vC (.int 8))) (vC (.int 2))) (vC (.int 1)))) (sSet 7 (vOp addD (vOp addD (vOp ixD (vC (.str "abcdefgh")) (vVar 6)) (vC (.str "z"))) (vVar 2))) sNext) (sAppend 4 (vTup (aCons (vVar 7) (aCons (vOp ixD (vLst (aCons (vC (.str "number")) (aCons (vC (.str "text")) aNil))) (vOp modD (vOp divD (vVar 5) (vC (.int 7))) (vC (.int 2)))) aNil)))))))) (sRet (vTup (aCons (vVar 0) (aCons (vCall tupD (aCons (vVar 4) aNil)) aNil)))))))))
noncomputable def F_l_shape_by : List D → R D := runD M_l_shape_by N_l_shape_by P_l_shape_by
theorem E_l_shape_by (a0 a1 : D) : F_l_shape_by [a0, a1] = fin (M_l_shape_by [some a0, some a1, none, none, none, none, none, none]) := rfl
noncomputable abbrev N_l_change_by : List Str := ["_law_names", "_law_cell", "_law_name", "_law_way", "_law_number"]
noncomputable abbrev P_l_change_by : List Str := ["_law_names", "_law_cell"]
noncomputable def M_l_change_by : FS := (sSeq (sSet 2 (vOp ixD (vVar 0) (vOp modD (vOp divD (vVar 1) (vC (.int 5))) (vC (.int 2))))) (sSeq (sSet 3 (vOp modD (vVar 1) (vC (.int 5)))) (sSeq (sSet 4 (vOp addD (vC (.int 1)) (vOp modD (vOp divD (vVar 1) (vC (.int 10))) (vC (.int 9))))) (sSeq (sIf (qBl (vOp eqD (vOp modD (vOp divD (vVar 1) (vC (.int 90))) (vC (.int 4))) (vC (.int 1)))) (sSet 4 (vOp addD (vC (.int 1)) (vOp modD (vOp divD (vVar 1) (vC (.int 360))) (vOp powD (vC (.int 10)) (vC (.int 9)))))) sNext) (sSeq (sIf (qBl (vOp eqD (vVar 3) (vC (.int 0)))) (sRet (vTup (aCons (vC (.str "table")) (aCons (vCall F_l_shape_by (aCons (vVar 2) (aCons (vOp divD (vVar 1) (vC (.int 10))) aNil))) aNil)))) sNext) (sSeq (sIf (qBl (vOp eqD (vVar 3) (vC (.int 1)))) (sRet (vTup (aCons (vC (.str "index")) (aCons (vVar 2) (aCons (vOp ixD (vOp ixD (vOp ixD (vCall F_l_shape_by (aCons (vVar 2) (aCons (vC (.int 3)) aNil))) (vC (.int 1))) (vOp modD (vOp divD (vVar 1) (vC (.int 10))) (vC (.int 4)))) (vC (.int 0))) aNil))))) sNext) (sSeq (sIf (qBl (vOp eqD (vVar 3) (vC (.int 2)))) (sRet (vTup (aCons (vC (.str "drop")) (aCons (vVar 2) (aCons (vVar 4) aNil))))) sNext) (sRet (vTup (aCons (vC (.str "put")) (aCons (vVar 2) (aCons (vVar 4) (aCons (vTup (aCons (vOp modD (vVar 1) (vC (.int 7))) (aCons (vC .non) aNil))) aNil)))))))))))))
noncomputable def F_l_change_by : List D → R D := runD M_l_change_by N_l_change_by P_l_change_by
theorem E_l_change_by (a0 a1 : D) : F_l_change_by [a0, a1] = fin (M_l_change_by [some a0, some a1, none, none, none]) := rfl
noncomputable abbrev N_l_key : List Str := ["_law_change"]
noncomputable abbrev P_l_key : List Str := ["_law_change"]
noncomputable def M_l_key : FS := (sSeq (sIf (qBl (vOp eqD (vOp ixD (vVar 0) (vC (.int 0))) (vC (.str "table")))) (sRet (vTup (aCons (vC (.str "table")) (aCons (vOp ixD (vOp ixD (vVar 0) (vC (.int 1))) (vC (.int 0))) aNil)))) sNext) (sSeq (sIf (qBl (vOp eqD (vOp ixD (vVar 0) (vC (.int 0))) (vC (.str "index")))) (sRet (vVar 0)) sNext) (sRet (vTup (aCons (vC (.str "row")) (aCons (vOp ixD (vVar 0) (vC (.int 1))) (aCons (vOp ixD (vVar 0) (vC (.int 2))) aNil)))))))
noncomputable def F_l_key : List D → R D := runD M_l_key N_l_key P_l_key
noncomputable abbrev N_l_due : List Str := ["_law_changes", "_law_found", "_law_change"]
noncomputable abbrev P_l_due : List Str := ["_law_changes"]
noncomputable def M_l_due : FS := (sSeq (sOwn 1 (vLst aNil)) (sSeq (sFor (iAny (vVar 0)) (.one 2) (sIf (qBl (vOp notInPD (vCall F_l_key (aCons (vVar 2) aNil)) (vVar 1))) (sAppend 1 (vCall F_l_key (aCons (vVar 2) aNil))) sNext)) (sRet (vVar 1))))
noncomputable def F_l_due : List D → R D := runD M_l_due N_l_due P_l_due
theorem E_l_due (a0 : D) : F_l_due [a0] = fin (M_l_due [some a0, none, none]) := rfl
noncomputable abbrev N_law : List Str := ["_law_script", "_law_names", "_law_changes", "_law_many", "_law_low", "_law_high", "_law_first", "_law_rest", "_law_due_here", "_law_told", "_law_common", "_law_found"]
noncomputable abbrev P_law : List Str := ["_law_script"]
noncomputable def M_law : FS := (sSeq (sOwn 1 (vLst (aCons (vCall F_l_name_by (aCons (vCall F_l_cell_at (aCons (vVar 0) (aCons (vC (.int 0)) aNil))) aNil)) aNil))) (sSeq (sAppend 1 (vCall F_l_twin (aCons (vOp ixD (vVar 1) (vC (.int 0))) (aCons (vCall F_l_cell_at (aCons (vVar 0) (aCons (vC (.int 1)) aNil))) aNil)))) (sSeq (sSet 2 (vComp [none, some 1] (iAny (vSl slD (vVar 0) (oSome (vC (.int 2))) (oSome (vC (.int 62))))) (.one 0) qYes (vCall F_l_change_by (aCons (vVar 1) (aCons (vVar 0) aNil))))) (sSeq (sIf (qBl (vOp eqD (vOp modD (vOp divD (vCall F_l_cell_at (aCons (vVar 0) (aCons (vC (.int 0)) aNil))) (vC (.int 64))) (vC (.int 8))) (vC (.int 1)))) (sSeq (sSet 3 (vOp addD (vC (.int 80)) (vOp modD (vOp divD (vCall F_l_cell_at (aCons (vVar 0) (aCons (vC (.int 1)) aNil))) (vC (.int 64))) (vC (.int 40))))) (sSet 2 (vOp addD (vComp [none, some 1] (iRng1D (aCons (vVar 3) aNil)) (.one 0) qYes (vTup (aCons (vC (.str "put")) (aCons (vOp ixD (vVar 1) (vC (.int 0))) (aCons (vOp addD (vC (.int 1)) (vVar 0)) (aCons (vTup (aCons (vC (.int 1)) (aCons (vC .non) aNil))) aNil)))))) (vVar 2)))) sNext) (sSeq (sSet 4 (vOp modD (vOp divD (vCall F_l_cell_at (aCons (vVar 0) (aCons (vC (.int 0)) aNil))) (vC (.int 8))) (vOp addD (vCall lenD (aCons (vVar 2) aNil)) (vC (.int 1))))) (sSeq (sSet 5 (vOp addD (vVar 4) (vOp modD (vOp divD (vCall F_l_cell_at (aCons (vVar 0) (aCons (vC (.int 1)) aNil))) (vC (.int 8))) (vOp addD (vOp subD (vCall lenD (aCons (vVar 2) aNil)) (vVar 4)) (vC (.int 1)))))) (sSeq (sSet 6 (vSl slD (vVar 2) oNone (oSome (vVar 4)))) (sSeq (sSet 7 (vLst (aCons (vSl slD (vVar 2) (oSome (vVar 4)) (oSome (vVar 5))) (aCons (vLst aNil) (aCons (vSl slD (vVar 2) (oSome (vVar 5)) oNone) aNil))))) (sSeq (sSet 8 (vCall F_l_due (aCons (vVar 6) aNil))) (sSeq (sOwn 9 (vCall F_keys_of (aCons (vCall lstD (aCons (vVar 6) aNil)) aNil))) (sSeq (sIf (qOr (qNot (qTru (vCall isiD (aCons (vVar 9) (aCons (vC (.ty "list")) aNil))))) (qOr (qBl (vOp neD (vComp [none] (iAny (vVar 9)) (.one 0) qYes (vCall isiD (aCons (vVar 0) (aCons (vC (.ty "tuple")) aNil)))) (vRepE (aCons (vC (.bl true)) aNil) (vCall lenD (aCons (vVar 9) aNil))))) (qBl (vOp neD (vVar 9) (vVar 8))))) (sRet (vC (.bl false))) sNext) (sSeq (sSet 10 (vComp [none, some 8] (iAny (vCall F_l_due (aCons (vOp addD (vOp ixD (vVar 7) (vC (.int 0))) (vOp ixD (vVar 7) (vC (.int 2)))) aNil))) (.one 0) (qBl (vOp inPD (vVar 0) (vVar 1))) (vVar 0))) (sSeq (sSet 11 (vCall F_meets (aCons (vCall lstD (aCons (vVar 6) aNil)) (aCons (vComp [none] (iAny (vVar 7)) (.one 0) qYes (vCall lstD (aCons (vVar 0) aNil))) aNil)))) (sSeq (sIf (qOr (qNot (qTru (vCall isiD (aCons (vVar 11) (aCons (vC (.ty "bool")) aNil))))) (qBl (vOp neD (vVar 11) (vOp neD (vVar 10) (vLst aNil))))) (sRet (vC (.bl false))) sNext) (sSeq (sIf (qOr (qBl (vOp isNotD (vCall F_meets (aCons (vCall lstD (aCons (vVar 6) aNil)) (aCons (vLst aNil) aNil))) (vC (.bl false)))) (qBl (vOp neD (vCall F_meets (aCons (vCall lstD (aCons (vVar 2) aNil)) (aCons (vLst (aCons (vCall lstD (aCons (vVar 2) aNil)) aNil)) aNil))) (vOp neD (vVar 2) (vLst aNil))))) (sRet (vC (.bl false))) sNext) (sSeq (sAppend 9 (vC (.str "zz"))) (sSeq (sIf (qOr (qBl (vOp neD (vCall F_keys_of (aCons (vCall lstD (aCons (vVar 2) aNil)) aNil)) (vCall F_l_due (aCons (vVar 2) aNil)))) (qBl (vOp neD (vVar 9) (vOp addD (vVar 8) (vLst (aCons (vC (.str "zz")) aNil)))))) (sRet (vC (.bl false))) sNext) (sSeq (sIf (qOr (qBl (vOp neD (vCall F_keys_of (aCons (vCall lstD (aCons (vVar 6) aNil)) aNil)) (vVar 8))) (qBl (vOp neD (vVar 9) (vOp addD (vVar 8) (vLst (aCons (vC (.str "zz")) aNil)))))) (sRet (vC (.bl false))) sNext) (sRet (vOp eqD (vCall F_meets (aCons (vCall lstD (aCons (vVar 6) aNil)) (aCons (vComp [none] (iAny (vVar 7)) (.one 0) qYes (vCall lstD (aCons (vVar 0) aNil))) aNil))) (vVar 11)))))))))))))))))))))
noncomputable def F_law : List D → R D := runD M_law N_law P_law
theorem E_law (a0 : D) : F_law [a0] = fin (M_law [some a0, none, none, none, none, none, none, none, none, none, none, none]) := rfl
noncomputable def top (i : Nat) : Stmt := PySem.Challenge.pw_tablestore_k40_keys_of_changes.main.body.getD i (.Pass ⟨0, 0, 0, 0⟩)
noncomputable abbrev s_key_of : Stmt := top 1
theorem sc_key_of : FnScope N_key_of P_key_of (defScope s_key_of) := ⟨rfl, rfl, rfl, by decide +kernel, rfl, by decide +kernel, by decide +kernel⟩
noncomputable abbrev s_keys_of : Stmt := top 3
theorem sc_keys_of : FnScope N_keys_of P_keys_of (defScope s_keys_of) := ⟨rfl, rfl, rfl, by decide +kernel, rfl, by decide +kernel, by decide +kernel⟩
noncomputable abbrev s_meets : Stmt := top 4
theorem sc_meets : FnScope N_meets P_meets (defScope s_meets) := ⟨rfl, rfl, rfl, by decide +kernel, rfl, by decide +kernel, by decide +kernel⟩
noncomputable abbrev s_l_cell_at : Stmt := top 6
theorem sc_l_cell_at : FnScope N_l_cell_at P_l_cell_at (defScope s_l_cell_at) := ⟨rfl, rfl, rfl, by decide +kernel, rfl, by decide +kernel, by decide +kernel⟩
noncomputable abbrev s_l_mixed : Stmt := top 7
theorem sc_l_mixed : FnScope N_l_mixed P_l_mixed (defScope s_l_mixed) := ⟨rfl, rfl, rfl, by decide +kernel, rfl, by decide +kernel, by decide +kernel⟩
noncomputable abbrev s_l_name_by : Stmt := top 8
theorem sc_l_name_by : FnScope N_l_name_by P_l_name_by (defScope s_l_name_by) := ⟨rfl, rfl, rfl, by decide +kernel, rfl, by decide +kernel, by decide +kernel⟩
noncomputable abbrev s_l_twin : Stmt := top 9
theorem sc_l_twin : FnScope N_l_twin P_l_twin (defScope s_l_twin) := ⟨rfl, rfl, rfl, by decide +kernel, rfl, by decide +kernel, by decide +kernel⟩
noncomputable abbrev s_l_shape_by : Stmt := top 10
theorem sc_l_shape_by : FnScope N_l_shape_by P_l_shape_by (defScope s_l_shape_by) := ⟨rfl, rfl, rfl, by decide +kernel, rfl, by decide +kernel, by decide +kernel⟩
noncomputable abbrev s_l_change_by : Stmt := top 11
theorem sc_l_change_by : FnScope N_l_change_by P_l_change_by (defScope s_l_change_by) := ⟨rfl, rfl, rfl, by decide +kernel, rfl, by decide +kernel, by decide +kernel⟩
noncomputable abbrev s_l_key : Stmt := top 12
theorem sc_l_key : FnScope N_l_key P_l_key (defScope s_l_key) := ⟨rfl, rfl, rfl, by decide +kernel, rfl, by decide +kernel, by decide +kernel⟩
noncomputable abbrev s_l_due : Stmt := top 13
theorem sc_l_due : FnScope N_l_due P_l_due (defScope s_l_due) := ⟨rfl, rfl, rfl, by decide +kernel, rfl, by decide +kernel, by decide +kernel⟩
noncomputable abbrev s_law : Stmt := top 14
theorem sc_law : FnScope N_law P_law (defScope s_law) := ⟨rfl, rfl, rfl, by decide +kernel, rfl, by decide +kernel, by decide +kernel⟩
structure Txt (w : World) (K : PySem.W.Frag) (mg : Str → Option Value) (f1 f2 f3 f4 f5 f6 f7 f8 f9 f10 f11 f12 : Addr) (d1 d2 d3 d4 d5 d6 d7 d8 d9 d10 d11 d12 : FuncData)  : Prop where
  D_key_of : Def K mg "key_of" s_key_of P_key_of f1 d1
  D_keys_of : Def K mg "keys_of" s_keys_of P_keys_of f2 d2
  D_meets : Def K mg "meets" s_meets P_meets f3 d3
  D_l_cell_at : Def K mg "_law_cell_at" s_l_cell_at P_l_cell_at f4 d4
  D_l_mixed : Def K mg "_law_mixed" s_l_mixed P_l_mixed f5 d5
  D_l_name_by : Def K mg "_law_name_by" s_l_name_by P_l_name_by f6 d6
  D_l_twin : Def K mg "_law_twin" s_l_twin P_l_twin f7 d7
  D_l_shape_by : Def K mg "_law_shape_by" s_l_shape_by P_l_shape_by f8 d8
  D_l_change_by : Def K mg "_law_change_by" s_l_change_by P_l_change_by f9 d9
  D_l_key : Def K mg "_law_key" s_l_key P_l_key f10 d10
  D_l_due : Def K mg "_law_due" s_l_due P_l_due f11 d11
  D_law : Def K mg "law" s_law P_law f12 d12
  z_list : mg "list" = none
  z_any : mg "any" = none
  z_len : mg "len" = none
  z_range : mg "range" = none
  z_tuple : mg "tuple" = none
  z_isinstance : mg "isinstance" = none
  z_bool : mg "bool" = none
section
variable {P : Program} {w : World} {K : PySem.W.Frag} {mg : Str → Option Value} {base : Heap} {f1 f2 f3 f4 f5 f6 f7 f8 f9 f10 f11 f12 : Addr} {d1 d2 d3 d4 d5 d6 d7 d8 d9 d10 d11 d12 : FuncData} 
theorem ok_key_of (T : Txt w K mg f1 f2 f3 f4 f5 f6 f7 f8 f9 f10 f11 f12 d1 d2 d3 d4 d5 d6 d7 d8 d9 d10 d11 d12 ) : FnOk P w K mg base CX0 1 f1 d1 P_key_of (spD K mg F_key_of) := by
  exact T.D_key_of.F.okD (φ := M_key_of) (O' := []) sc_key_of (fun cdv A outer s H E hr => (db_cons (ds_if (dt_cmp (oEqD K hr.units) (pEq K) (d_ix (oIx K) (pIx K) (d_var 0 (by decide)) d_int) d_str (nomark _)) (db_one (ds_ret (d_tup (da_cons d_str (da_cons (d_ix (oIx K) (pIx K) (d_ix (oIx K) (pIx K) (d_var 0 (by decide)) d_int) d_int) da_nil))))) db_nil) (db_cons (ds_if (dt_cmp (oEqD K hr.units) (pEq K) (d_ix (oIx K) (pIx K) (d_var 0 (by decide)) d_int) d_str (nomark _)) (db_one (ds_ret (d_var 0 (by decide)))) db_nil) (db_one (ds_ret (d_tup (da_cons d_str (da_cons (d_ix (oIx K) (pIx K) (d_var 0 (by decide)) d_int) (da_cons (d_ix (oIx K) (pIx K) (d_var 0 (by decide)) d_int) da_nil)))))))))
theorem ok_keys_of (T : Txt w K mg f1 f2 f3 f4 f5 f6 f7 f8 f9 f10 f11 f12 d1 d2 d3 d4 d5 d6 d7 d8 d9 d10 d11 d12 ) : FnOk P w K mg base CX0 2 f2 d2 P_keys_of (spN K mg F_keys_of) := by
  have G_key_of : FnOk P w K mg base CX0 1 f1 d1 P_key_of (spD K mg F_key_of) := ok_key_of T
  exact T.D_keys_of.F.okN (φ := M_keys_of) (O' := []) sc_keys_of (fun cdv A outer s H E hr => (db_cons (ds_own (i := 1) (by decide) sc_keys_of.nd (Or.inl rfl) n_dictT) (db_cons (ds_for PassesOwn.never (di_any K (d_var 0 (by decide))) (dg_one (i := 2) (by decide) sc_keys_of.nd rfl (Or.inl rfl)) (db_one (ds_putT (i := 1) hr.units (by decide) d_bl (d_call T.D_key_of G_key_of hr (da_cons (d_var 2 (by decide)) da_nil))))) (db_one (ds_retW (n_lstT K (i := 1) (by decide) T.z_list))))))
theorem ok_meets (T : Txt w K mg f1 f2 f3 f4 f5 f6 f7 f8 f9 f10 f11 f12 d1 d2 d3 d4 d5 d6 d7 d8 d9 d10 d11 d12 ) : FnOk P w K mg base CX0 3 f3 d3 P_meets (spD K mg F_meets) := by
  have G_keys_of : FnOk P w K mg base CX0 2 f2 d2 P_keys_of (spN K mg F_keys_of) := ok_keys_of T
  exact T.D_meets.F.okD (φ := M_meets) (O' := []) sc_meets (fun cdv A outer s H E hr => (db_cons (ds_own (i := 2) (by decide) sc_meets.nd (Or.inr rfl) n_dictT) (db_cons (ds_for PassesOwn.never (di_any K (d_var 1 (by decide))) (dg_one (i := 3) (by decide) sc_meets.nd rfl (Or.inl rfl)) (db_one (ds_for PassesOwn.never (di_any K (d_new (d_callN T.D_keys_of G_keys_of hr (da_cons (d_var 3 (by decide)) da_nil)))) (dg_one (i := 4) (by decide) sc_meets.nd rfl (Or.inl rfl)) (db_one (ds_putT (i := 2) hr.units (by decide) d_bl (d_var 4 (by decide))))))) (db_frz (O := [2]) (O2 := []) (db_one (ds_ret (d_callB (call_any K rfl) (pAny K) T.z_any bt_any (da_cons (d_new (n_comp (Wb := ⟨K, mg, E0⟩) (osc := defScope s_meets) (ON := N_meets) (N := ["key", "touched"]) (ix := [none, some 2]) (by decide +kernel) (di_any K (d_new (d_callN T.D_keys_of G_keys_of hr (da_cons (d_var 0 (by decide)) da_nil)))) (fun _ => (dg_one (i := 0) (by decide) (by decide +kernel : (["key", "touched"] : List Str).Nodup) rfl (Or.inl rfl))) (fun _ => dts_nil) (fun _ => (d_cmp (op_inA (Nat.lt_of_le_of_lt (Nat.add_le_add_left (by decide) _) hr.units)) pInT (d_var 0 (by decide)) (d_var 1 (by decide)) (by with_unfolding_all rfl))) (cap_free (by decide)))) da_nil))))))))
theorem ok_l_cell_at (T : Txt w K mg f1 f2 f3 f4 f5 f6 f7 f8 f9 f10 f11 f12 d1 d2 d3 d4 d5 d6 d7 d8 d9 d10 d11 d12 ) : FnOk P w K mg base CX0 1 f4 d4 P_l_cell_at (spD K mg F_l_cell_at) := by
  exact T.D_l_cell_at.F.okD (φ := M_l_cell_at) (O' := []) sc_l_cell_at (fun cdv A outer s H E hr => (db_cons (ds_if (dt_cmp oLt pLt (d_var 1 (by decide)) (d_callB (qLen K) (pLen K) T.z_len bt_len (da_cons (d_var 0 (by decide)) da_nil)) (nomark _)) (db_one (ds_ret (d_ix (oIx K) (pIx K) (d_var 0 (by decide)) (d_var 1 (by decide))))) db_nil) (db_one (ds_ret d_int))))
theorem ok_l_mixed (T : Txt w K mg f1 f2 f3 f4 f5 f6 f7 f8 f9 f10 f11 f12 d1 d2 d3 d4 d5 d6 d7 d8 d9 d10 d11 d12 ) : FnOk P w K mg base CX0 1 f5 d5 P_l_mixed (spD K mg F_l_mixed) := by
  exact T.D_l_mixed.F.okD (φ := M_l_mixed) (O' := []) sc_l_mixed (fun cdv A outer s H E hr => (db_one (ds_ret (d_op oMod pMod (d_op (oPlus K) (pAdd K) (d_op oMulD pMul (d_var 0 (by decide)) d_int) d_int) d_int))))
theorem ok_l_name_by (T : Txt w K mg f1 f2 f3 f4 f5 f6 f7 f8 f9 f10 f11 f12 d1 d2 d3 d4 d5 d6 d7 d8 d9 d10 d11 d12 ) : FnOk P w K mg base CX0 2 f6 d6 P_l_name_by (spD K mg F_l_name_by) := by
  have G_l_mixed : FnOk P w K mg base CX0 1 f5 d5 P_l_mixed (spD K mg F_l_mixed) := ok_l_mixed T
  exact T.D_l_name_by.F.okD (φ := M_l_name_by) (O' := []) sc_l_name_by (fun cdv A outer s H E hr => (db_cons (ds_set (i := 1) (by decide) sc_l_name_by.nd (Or.inl rfl) d_str) (db_cons (ds_set (i := 2) (by decide) sc_l_name_by.nd (Or.inl rfl) d_str) (db_cons (ds_set (i := 3) (by decide) sc_l_name_by.nd (Or.inl rfl) (d_var 0 (by decide))) (db_cons (ds_for PassesOwn.never (di_range1 T.z_range (da_cons (d_op (oPlus K) (pAdd K) d_int (d_op oMod pMod (d_var 0 (by decide)) d_int)) da_nil)) (dg_one (i := 4) (by decide) sc_l_name_by.nd rfl (Or.inl rfl)) (db_cons (ds_set (i := 3) (by decide) sc_l_name_by.nd (Or.inl rfl) (d_call T.D_l_mixed G_l_mixed hr (da_cons (d_var 3 (by decide)) da_nil))) (db_one (ds_set (i := 2) (by decide) sc_l_name_by.nd (Or.inl rfl) (d_op (oPlus K) (pAdd K) (d_var 2 (by decide)) (d_ix (oIx K) (pIx K) (d_var 1 (by decide)) (d_op oMod pMod (d_var 3 (by decide)) d_int))))))) (db_cons (ds_if (dt_cmp (oInD K) (pIn K) (d_var 2 (by decide)) (d_new (n_lst (da_cons d_str (da_cons d_str (da_cons d_str (da_cons d_str (da_cons d_str (da_cons d_str (da_cons d_str (da_cons d_str (da_cons d_str (da_cons d_str (da_cons d_str da_nil))))))))))))) (by with_unfolding_all rfl)) (db_one (ds_ret (d_op (oPlus K) (pAdd K) (d_var 2 (by decide)) d_str))) db_nil) (db_one (ds_ret (d_var 2 (by decide))))))))))
theorem ok_l_twin (T : Txt w K mg f1 f2 f3 f4 f5 f6 f7 f8 f9 f10 f11 f12 d1 d2 d3 d4 d5 d6 d7 d8 d9 d10 d11 d12 ) : FnOk P w K mg base CX0 1 f7 d7 P_l_twin (spD K mg F_l_twin) := by
  exact T.D_l_twin.F.okD (φ := M_l_twin) (O' := []) sc_l_twin (fun cdv A outer s H E hr => (db_cons (ds_set (i := 2) (by decide) sc_l_twin.nd (Or.inl rfl) d_str) (db_cons (ds_set (i := 3) (by decide) sc_l_twin.nd (Or.inl rfl) (d_op oMod pMod (d_var 1 (by decide)) (d_callB (qLen K) (pLen K) T.z_len bt_len (da_cons (d_var 0 (by decide)) da_nil)))) (db_cons (ds_set (i := 4) (by decide) sc_l_twin.nd (Or.inl rfl) (d_op (oPlus K) (pAdd K) (d_op (oPlus K) (pAdd K) (d_sm PySem.F.slot_str_find PySem.F.type_str_find sm_find pFind (d_var 2 (by decide)) (da_cons (d_ix (oIx K) (pIx K) (d_var 0 (by decide)) (d_var 3 (by decide))) da_nil)) d_int) (d_op oMod pMod (d_op oDiv pDiv (d_var 1 (by decide)) d_int) d_int))) (db_cons (ds_set (i := 5) (by decide) sc_l_twin.nd (Or.inl rfl) (d_op (oPlus K) (pAdd K) (d_op (oPlus K) (pAdd K) (d_slice (oSl K) (pSl K) (d_var 0 (by decide)) do_none (do_some (d_var 3 (by decide)))) (d_ix (oIx K) (pIx K) (d_var 2 (by decide)) (d_op oMod pMod (d_var 4 (by decide)) d_int))) (d_slice (oSl K) (pSl K) (d_var 0 (by decide)) (do_some (d_op (oPlus K) (pAdd K) (d_var 3 (by decide)) d_int)) do_none))) (db_cons (ds_if (dt_cmp (oInD K) (pIn K) (d_var 5 (by decide)) (d_new (n_lst (da_cons d_str (da_cons d_str (da_cons d_str (da_cons d_str (da_cons d_str (da_cons d_str (da_cons d_str (da_cons d_str (da_cons d_str (da_cons d_str (da_cons d_str da_nil))))))))))))) (by with_unfolding_all rfl)) (db_one (ds_ret (d_op (oPlus K) (pAdd K) (d_var 5 (by decide)) d_str))) db_nil) (db_one (ds_ret (d_var 5 (by decide))))))))))
theorem ok_l_shape_by (T : Txt w K mg f1 f2 f3 f4 f5 f6 f7 f8 f9 f10 f11 f12 d1 d2 d3 d4 d5 d6 d7 d8 d9 d10 d11 d12 ) : FnOk P w K mg base CX0 3 f8 d8 P_l_shape_by (spD K mg F_l_shape_by) := by
  have G_l_name_by : FnOk P w K mg base CX0 2 f6 d6 P_l_name_by (spD K mg F_l_name_by) := ok_l_name_by T
  have G_l_mixed : FnOk P w K mg base CX0 1 f5 d5 P_l_mixed (spD K mg F_l_mixed) := ok_l_mixed T
  exact T.D_l_shape_by.F.okD (φ := M_l_shape_by) (O' := []) sc_l_shape_by (fun cdv A outer s H E hr => (db_cons (ds_set (i := 2) (by decide) sc_l_shape_by.nd (Or.inl rfl) (d_slice (oSl K) (pSl K) (d_call T.D_l_name_by G_l_name_by hr (da_cons (d_op oDiv pDiv (d_var 1 (by decide)) d_int) da_nil)) do_none (do_some d_int))) (db_cons (ds_set (i := 3) (by decide) sc_l_shape_by.nd (Or.inl rfl) (d_ix (oIx K) (pIx K) (d_new (n_lst (da_cons d_int (da_cons d_int (da_cons d_int (da_cons d_int (da_cons d_int (da_cons d_int (da_cons d_int (da_cons d_int da_nil)))))))))) (d_op oMod pMod (d_var 1 (by decide)) d_int))) (db_cons (ds_own (i := 4) (by decide) sc_l_shape_by.nd (Or.inl rfl) (n_lst da_nil)) (db_cons (ds_set (i := 5) (by decide) sc_l_shape_by.nd (Or.inl rfl) (d_var 1 (by decide))) (db_cons (ds_for PassesOwn.never (di_range1 T.z_range (da_cons (d_var 3 (by decide)) da_nil)) (dg_one (i := 6) (by decide) sc_l_shape_by.nd rfl (Or.inl rfl)) (db_cons (ds_set (i := 5) (by decide) sc_l_shape_by.nd (Or.inl rfl) (d_call T.D_l_mixed G_l_mixed hr (da_cons (d_var 5 (by decide)) da_nil))) (db_cons (ds_set (i := 7) (by decide) sc_l_shape_by.nd (Or.inl rfl) (d_op (oPlus K) (pAdd K) (d_op (oPlus K) (pAdd K) (d_var 2 (by decide)) d_str) (d_ix (oIx K) (pIx K) d_str (d_var 6 (by decide))))) (db_cons (ds_if (dt_cmp (oEqD K hr.units) (pEq K) (d_op oMod pMod (d_op oDiv pDiv (d_var 1 (by decide)) d_int) d_int) d_int (nomark _)) (db_one (ds_set (i := 7) (by decide) sc_l_shape_by.nd (Or.inl rfl) (d_op (oPlus K) (pAdd K) (d_op (oPlus K) (pAdd K) (d_ix (oIx K) (pIx K) d_str (d_var 6 (by decide))) d_str) (d_var 2 (by decide))))) db_nil) (db_one (ds_append (i := 4) (by decide) (d_tup (da_cons (d_var 7 (by decide)) (da_cons (d_ix (oIx K) (pIx K) (d_new (n_lst (da_cons d_str (da_cons d_str da_nil)))) (d_op oMod pMod (d_op oDiv pDiv (d_var 5 (by decide)) d_int) d_int)) da_nil))))))))) (db_one (ds_ret (d_tup (da_cons (d_var 0 (by decide)) (da_cons (d_tupO K (i := 4) (by decide) T.z_tuple) da_nil)))))))))))
theorem ok_l_change_by (T : Txt w K mg f1 f2 f3 f4 f5 f6 f7 f8 f9 f10 f11 f12 d1 d2 d3 d4 d5 d6 d7 d8 d9 d10 d11 d12 ) : FnOk P w K mg base CX0 4 f9 d9 P_l_change_by (spD K mg F_l_change_by) := by
  have G_l_shape_by : FnOk P w K mg base CX0 3 f8 d8 P_l_shape_by (spD K mg F_l_shape_by) := ok_l_shape_by T
  exact T.D_l_change_by.F.okD (φ := M_l_change_by) (O' := []) sc_l_change_by (fun cdv A outer s H E hr => (db_cons (ds_set (i := 2) (by decide) sc_l_change_by.nd (Or.inl rfl) (d_ix (oIx K) (pIx K) (d_var 0 (by decide)) (d_op oMod pMod (d_op oDiv pDiv (d_var 1 (by decide)) d_int) d_int))) (db_cons (ds_set (i := 3) (by decide) sc_l_change_by.nd (Or.inl rfl) (d_op oMod pMod (d_var 1 (by decide)) d_int)) (db_cons (ds_set (i := 4) (by decide) sc_l_change_by.nd (Or.inl rfl) (d_op (oPlus K) (pAdd K) d_int (d_op oMod pMod (d_op oDiv pDiv (d_var 1 (by decide)) d_int) d_int))) (db_cons (ds_if (dt_cmp (oEqD K hr.units) (pEq K) (d_op oMod pMod (d_op oDiv pDiv (d_var 1 (by decide)) d_int) d_int) d_int (nomark _)) (db_one (ds_set (i := 4) (by decide) sc_l_change_by.nd (Or.inl rfl) (d_op (oPlus K) (pAdd K) d_int (d_op oMod pMod (d_op oDiv pDiv (d_var 1 (by decide)) d_int) (d_op oPow pPow d_int d_int))))) db_nil) (db_cons (ds_if (dt_cmp (oEqD K hr.units) (pEq K) (d_var 3 (by decide)) d_int (nomark _)) (db_one (ds_ret (d_tup (da_cons d_str (da_cons (d_call T.D_l_shape_by G_l_shape_by hr (da_cons (d_var 2 (by decide)) (da_cons (d_op oDiv pDiv (d_var 1 (by decide)) d_int) da_nil))) da_nil))))) db_nil) (db_cons (ds_if (dt_cmp (oEqD K hr.units) (pEq K) (d_var 3 (by decide)) d_int (nomark _)) (db_one (ds_ret (d_tup (da_cons d_str (da_cons (d_var 2 (by decide)) (da_cons (d_ix (oIx K) (pIx K) (d_ix (oIx K) (pIx K) (d_ix (oIx K) (pIx K) (d_call T.D_l_shape_by G_l_shape_by hr (da_cons (d_var 2 (by decide)) (da_cons d_int da_nil))) d_int) (d_op oMod pMod (d_op oDiv pDiv (d_var 1 (by decide)) d_int) d_int)) d_int) da_nil)))))) db_nil) (db_cons (ds_if (dt_cmp (oEqD K hr.units) (pEq K) (d_var 3 (by decide)) d_int (nomark _)) (db_one (ds_ret (d_tup (da_cons d_str (da_cons (d_var 2 (by decide)) (da_cons (d_var 4 (by decide)) da_nil)))))) db_nil) (db_one (ds_ret (d_tup (da_cons d_str (da_cons (d_var 2 (by decide)) (da_cons (d_var 4 (by decide)) (da_cons (d_tup (da_cons (d_op oMod pMod (d_var 1 (by decide)) d_int) (da_cons d_non da_nil))) da_nil)))))))))))))))
theorem ok_l_key (T : Txt w K mg f1 f2 f3 f4 f5 f6 f7 f8 f9 f10 f11 f12 d1 d2 d3 d4 d5 d6 d7 d8 d9 d10 d11 d12 ) : FnOk P w K mg base CX0 1 f10 d10 P_l_key (spD K mg F_l_key) := by
  exact T.D_l_key.F.okD (φ := M_l_key) (O' := []) sc_l_key (fun cdv A outer s H E hr => (db_cons (ds_if (dt_cmp (oEqD K hr.units) (pEq K) (d_ix (oIx K) (pIx K) (d_var 0 (by decide)) d_int) d_str (nomark _)) (db_one (ds_ret (d_tup (da_cons d_str (da_cons (d_ix (oIx K) (pIx K) (d_ix (oIx K) (pIx K) (d_var 0 (by decide)) d_int) d_int) da_nil))))) db_nil) (db_cons (ds_if (dt_cmp (oEqD K hr.units) (pEq K) (d_ix (oIx K) (pIx K) (d_var 0 (by decide)) d_int) d_str (nomark _)) (db_one (ds_ret (d_var 0 (by decide)))) db_nil) (db_one (ds_ret (d_tup (da_cons d_str (da_cons (d_ix (oIx K) (pIx K) (d_var 0 (by decide)) d_int) (da_cons (d_ix (oIx K) (pIx K) (d_var 0 (by decide)) d_int) da_nil)))))))))
theorem ok_l_due (T : Txt w K mg f1 f2 f3 f4 f5 f6 f7 f8 f9 f10 f11 f12 d1 d2 d3 d4 d5 d6 d7 d8 d9 d10 d11 d12 ) : FnOk P w K mg base CX0 2 f11 d11 P_l_due (spD K mg F_l_due) := by
  have G_l_key : FnOk P w K mg base CX0 1 f10 d10 P_l_key (spD K mg F_l_key) := ok_l_key T
  exact T.D_l_due.F.okD (φ := M_l_due) (O' := []) sc_l_due (fun cdv A outer s H E hr => (db_cons (ds_own (i := 1) (by decide) sc_l_due.nd (Or.inl rfl) (n_lst da_nil)) (db_cons (ds_for PassesOwn.never (di_any K (d_var 0 (by decide))) (dg_one (i := 2) (by decide) sc_l_due.nd rfl (Or.inl rfl)) (db_one (ds_if (dt_notInO K (i := 1) (by decide) hr.units (d_call T.D_l_key G_l_key hr (da_cons (d_var 2 (by decide)) da_nil)) (by with_unfolding_all rfl)) (db_one (ds_append (i := 1) (by decide) (d_call T.D_l_key G_l_key hr (da_cons (d_var 2 (by decide)) da_nil)))) db_nil))) (db_frz (O := [1]) (O2 := []) (db_one (ds_ret (d_var 1 (by decide))))))))
theorem ok_law (T : Txt w K mg f1 f2 f3 f4 f5 f6 f7 f8 f9 f10 f11 f12 d1 d2 d3 d4 d5 d6 d7 d8 d9 d10 d11 d12 ) : FnOk P w K mg base CX0 5 f12 d12 P_law (spD K mg F_law) := by
  have G_l_name_by : FnOk P w K mg base CX0 2 f6 d6 P_l_name_by (spD K mg F_l_name_by) := ok_l_name_by T
  have G_l_cell_at : FnOk P w K mg base CX0 1 f4 d4 P_l_cell_at (spD K mg F_l_cell_at) := ok_l_cell_at T
  have G_l_twin : FnOk P w K mg base CX0 1 f7 d7 P_l_twin (spD K mg F_l_twin) := ok_l_twin T
  have G_l_change_by : FnOk P w K mg base CX0 4 f9 d9 P_l_change_by (spD K mg F_l_change_by) := ok_l_change_by T
  have G_l_due : FnOk P w K mg base CX0 2 f11 d11 P_l_due (spD K mg F_l_due) := ok_l_due T
  have G_keys_of : FnOk P w K mg base CX0 2 f2 d2 P_keys_of (spN K mg F_keys_of) := ok_keys_of T
  have G_meets : FnOk P w K mg base CX0 3 f3 d3 P_meets (spD K mg F_meets) := ok_meets T
  exact T.D_law.F.okD (φ := M_law) (O' := []) sc_law (fun cdv A outer s H E hr => (db_cons (ds_own (i := 1) (by decide) sc_law.nd (Or.inr rfl) (n_lst (da_cons (d_call T.D_l_name_by G_l_name_by hr (da_cons (d_call T.D_l_cell_at G_l_cell_at hr (da_cons (d_var 0 (by decide)) (da_cons d_int da_nil))) da_nil)) da_nil))) (db_cons (ds_append (i := 1) (by decide) (d_call T.D_l_twin G_l_twin hr (da_cons (d_ixO K (i := 1) (by decide) d_int) (da_cons (d_call T.D_l_cell_at G_l_cell_at hr (da_cons (d_var 0 (by decide)) (da_cons d_int da_nil))) da_nil)))) (db_frz (O := [1]) (O2 := []) (db_cons (ds_set' (by decide) (js_comp (i := 2) sc_law.nd (Or.inl rfl) (Wb := ⟨K, mg, E0⟩) (osc := defScope s_law) (ON := N_law) (N := ["_law_cell", "_law_names"]) (ix := [none, some 1]) (by decide +kernel) (di_any K (d_slice (oSl K) (pSl K) (d_var 0 (by decide)) (do_some d_int) (do_some d_int))) (fun _ => (dg_one (i := 0) (by decide) (by decide +kernel : (["_law_cell", "_law_names"] : List Str).Nodup) rfl (Or.inl rfl))) (fun _ => dts_nil) (fun _ => (d_call T.D_l_change_by G_l_change_by hr (da_cons (d_var 1 (by decide)) (da_cons (d_var 0 (by decide)) da_nil)))) (cap_free (by decide)))) (db_cons (ds_if (dt_cmp (oEqD K hr.units) (pEq K) (d_op oMod pMod (d_op oDiv pDiv (d_call T.D_l_cell_at G_l_cell_at hr (da_cons (d_var 0 (by decide)) (da_cons d_int da_nil))) d_int) d_int) d_int (nomark _)) (db_cons (ds_set (i := 3) (by decide) sc_law.nd (Or.inl rfl) (d_op (oPlus K) (pAdd K) d_int (d_op oMod pMod (d_op oDiv pDiv (d_call T.D_l_cell_at G_l_cell_at hr (da_cons (d_var 0 (by decide)) (da_cons d_int da_nil))) d_int) d_int))) (db_one (ds_set (i := 2) (by decide) sc_law.nd (Or.inl rfl) (d_op (oPlus K) (pAdd K) (d_new (n_comp (Wb := ⟨K, mg, E0⟩) (osc := defScope s_law) (ON := N_law) (N := ["_law_k", "_law_names"]) (ix := [none, some 1]) (by decide +kernel) (di_range1 T.z_range (da_cons (d_var 3 (by decide)) da_nil)) (fun _ => (dg_one (i := 0) (by decide) (by decide +kernel : (["_law_k", "_law_names"] : List Str).Nodup) rfl (Or.inl rfl))) (fun _ => dts_nil) (fun _ => (d_tup (da_cons d_str (da_cons (d_ix (oIx K) (pIx K) (d_var 1 (by decide)) d_int) (da_cons (d_op (oPlus K) (pAdd K) d_int (d_var 0 (by decide))) (da_cons (d_tup (da_cons d_int (da_cons d_non da_nil))) da_nil)))))) (cap_free (by decide)))) (d_var 2 (by decide)))))) db_nil) (db_cons (ds_set (i := 4) (by decide) sc_law.nd (Or.inl rfl) (d_op oMod pMod (d_op oDiv pDiv (d_call T.D_l_cell_at G_l_cell_at hr (da_cons (d_var 0 (by decide)) (da_cons d_int da_nil))) d_int) (d_op (oPlus K) (pAdd K) (d_callB (qLen K) (pLen K) T.z_len bt_len (da_cons (d_var 2 (by decide)) da_nil)) d_int))) (db_cons (ds_set (i := 5) (by decide) sc_law.nd (Or.inl rfl) (d_op (oPlus K) (pAdd K) (d_var 4 (by decide)) (d_op oMod pMod (d_op oDiv pDiv (d_call T.D_l_cell_at G_l_cell_at hr (da_cons (d_var 0 (by decide)) (da_cons d_int da_nil))) d_int) (d_op (oPlus K) (pAdd K) (d_op oSub pSub (d_callB (qLen K) (pLen K) T.z_len bt_len (da_cons (d_var 2 (by decide)) da_nil)) (d_var 4 (by decide))) d_int)))) (db_cons (ds_set (i := 6) (by decide) sc_law.nd (Or.inl rfl) (d_slice (oSl K) (pSl K) (d_var 2 (by decide)) do_none (do_some (d_var 4 (by decide))))) (db_cons (ds_set (i := 7) (by decide) sc_law.nd (Or.inl rfl) (d_new (n_lst (da_cons (d_slice (oSl K) (pSl K) (d_var 2 (by decide)) (do_some (d_var 4 (by decide))) (do_some (d_var 5 (by decide)))) (da_cons (d_new (n_lst da_nil)) (da_cons (d_slice (oSl K) (pSl K) (d_var 2 (by decide)) (do_some (d_var 5 (by decide))) do_none) da_nil)))))) (db_cons (ds_set (i := 8) (by decide) sc_law.nd (Or.inr rfl) (d_call T.D_l_due G_l_due hr (da_cons (d_var 6 (by decide)) da_nil))) (db_cons (ds_own (i := 9) (by decide) sc_law.nd (Or.inl rfl) (d_callN T.D_keys_of G_keys_of hr (da_cons (d_new (n_callT (qLstOf K) (pLst K) T.z_list bt_list (da_cons (d_var 6 (by decide)) da_nil))) da_nil))) (db_cons (ds_if (dt_bool (dw_or (dt_not (dt_truth K (d_isiO K (i := 9) (by decide) T.z_isinstance (d_ty T.z_list bt_list)))) (dw_or (dt_cmp (oNeD K hr.units) (pNe K) (d_new (n_compO K (i := 9) (by decide) (Wb := ⟨K, mg, E0⟩) (osc := defScope s_law) (ON := N_law) (N := ["_law_key_here"]) (ix := [none]) (by decide +kernel)  (fun _ => (dg_one (i := 0) (by decide) (by decide +kernel : (["_law_key_here"] : List Str).Nodup) rfl (Or.inl rfl))) (fun _ => dts_nil) (fun _ => (d_callB (qIsiD K) (pIsi K) T.z_isinstance bt_isinstance (da_cons (d_var 0 (by decide)) (da_cons (d_ty T.z_tuple bt_tuple) da_nil)))) (cap_free (by decide)))) (d_new (n_repE (da_cons d_bl da_nil) (d_lenO K (i := 9) (by decide) T.z_len))) (nomark _)) (dw_or1 (dt_eqOw K (fun k => !k) (i := 9) (by decide) (oNeD K hr.units) (d_var 8 (by decide)) (nomark _)))))) (db_one (ds_ret d_bl)) db_nil) (db_cons (ds_set' (by decide) (js_comp (i := 10) sc_law.nd (Or.inl rfl) (Wb := ⟨K, mg, E0⟩) (osc := defScope s_law) (ON := N_law) (N := ["_law_key_here", "_law_due_here"]) (ix := [none, some 8]) (by decide +kernel) (di_any K (d_call T.D_l_due G_l_due hr (da_cons (d_op (oPlus K) (pAdd K) (d_ix (oIx K) (pIx K) (d_var 7 (by decide)) d_int) (d_ix (oIx K) (pIx K) (d_var 7 (by decide)) d_int)) da_nil))) (fun _ => (dg_one (i := 0) (by decide) (by decide +kernel : (["_law_key_here", "_law_due_here"] : List Str).Nodup) rfl (Or.inl rfl))) (fun _ => (dts_one (dt_cmp (oInP K hr.units) (pInP K) (d_var 0 (by decide)) (d_var 1 (by decide)) (by with_unfolding_all rfl)))) (fun _ => (d_var 0 (by decide))) (cap_free (by decide)))) (db_cons (ds_set (i := 11) (by decide) sc_law.nd (Or.inl rfl) (d_call T.D_meets G_meets hr (da_cons (d_new (n_callT (qLstOf K) (pLst K) T.z_list bt_list (da_cons (d_var 6 (by decide)) da_nil))) (da_cons (d_new (n_comp (Wb := ⟨K, mg, E0⟩) (osc := defScope s_law) (ON := N_law) (N := ["_law_one"]) (ix := [none]) (by decide +kernel) (di_any K (d_var 7 (by decide))) (fun _ => (dg_one (i := 0) (by decide) (by decide +kernel : (["_law_one"] : List Str).Nodup) rfl (Or.inl rfl))) (fun _ => dts_nil) (fun _ => (d_new (n_callT (qLstOf K) (pLst K) T.z_list bt_list (da_cons (d_var 0 (by decide)) da_nil)))) (cap_free (by decide)))) da_nil)))) (db_cons (ds_if (dt_bool (dw_or (dt_not (dt_truth K (d_callB (qIsiD K) (pIsi K) T.z_isinstance bt_isinstance (da_cons (d_var 11 (by decide)) (da_cons (d_ty T.z_bool bt_bool) da_nil))))) (dw_or1 (dt_cmp (oNeD K hr.units) (pNe K) (d_var 11 (by decide)) (d_cmp (oNeD K hr.units) (pNe K) (d_var 10 (by decide)) (d_new (n_lst da_nil)) (nomark _)) (nomark _))))) (db_one (ds_ret d_bl)) db_nil) (db_cons (ds_if (dt_bool (dw_or (dt_cmp oIsNot pIsNot (d_call T.D_meets G_meets hr (da_cons (d_new (n_callT (qLstOf K) (pLst K) T.z_list bt_list (da_cons (d_var 6 (by decide)) da_nil))) (da_cons (d_new (n_lst da_nil)) da_nil))) d_bl (nomark _)) (dw_or1 (dt_cmp (oNeD K hr.units) (pNe K) (d_call T.D_meets G_meets hr (da_cons (d_new (n_callT (qLstOf K) (pLst K) T.z_list bt_list (da_cons (d_var 2 (by decide)) da_nil))) (da_cons (d_new (n_lst (da_cons (d_new (n_callT (qLstOf K) (pLst K) T.z_list bt_list (da_cons (d_var 2 (by decide)) da_nil))) da_nil))) da_nil))) (d_cmp (oNeD K hr.units) (pNe K) (d_var 2 (by decide)) (d_new (n_lst da_nil)) (nomark _)) (nomark _))))) (db_one (ds_ret d_bl)) db_nil) (db_cons (ds_append (i := 9) (by decide) d_str) (db_cons (ds_if (dt_bool (dw_or (dt_cmp (oNeD K hr.units) (pNe K) (d_new (d_callN T.D_keys_of G_keys_of hr (da_cons (d_new (n_callT (qLstOf K) (pLst K) T.z_list bt_list (da_cons (d_var 2 (by decide)) da_nil))) da_nil))) (d_call T.D_l_due G_l_due hr (da_cons (d_var 2 (by decide)) da_nil)) (nomark _)) (dw_or1 (dt_eqOw K (fun k => !k) (i := 9) (by decide) (oNeD K hr.units) (d_op (oPlus K) (pAdd K) (d_var 8 (by decide)) (d_new (n_lst (da_cons d_str da_nil)))) (nomark _))))) (db_one (ds_ret d_bl)) db_nil) (db_cons (ds_if (dt_bool (dw_or (dt_cmp (oNeD K hr.units) (pNe K) (d_new (d_callN T.D_keys_of G_keys_of hr (da_cons (d_new (n_callT (qLstOf K) (pLst K) T.z_list bt_list (da_cons (d_var 6 (by decide)) da_nil))) da_nil))) (d_var 8 (by decide)) (nomark _)) (dw_or1 (dt_eqOw K (fun k => !k) (i := 9) (by decide) (oNeD K hr.units) (d_op (oPlus K) (pAdd K) (d_var 8 (by decide)) (d_new (n_lst (da_cons d_str da_nil)))) (nomark _))))) (db_one (ds_ret d_bl)) db_nil) (db_one (ds_ret (d_cmp (oEqD K hr.units) (pEq K) (d_call T.D_meets G_meets hr (da_cons (d_new (n_callT (qLstOf K) (pLst K) T.z_list bt_list (da_cons (d_var 6 (by decide)) da_nil))) (da_cons (d_new (n_comp (Wb := ⟨K, mg, E0⟩) (osc := defScope s_law) (ON := N_law) (N := ["_law_one"]) (ix := [none]) (by decide +kernel) (di_any K (d_var 7 (by decide))) (fun _ => (dg_one (i := 0) (by decide) (by decide +kernel : (["_law_one"] : List Str).Nodup) rfl (Or.inl rfl))) (fun _ => dts_nil) (fun _ => (d_new (n_callT (qLstOf K) (pLst K) T.z_list bt_list (da_cons (d_var 0 (by decide)) da_nil)))) (cap_free (by decide)))) da_nil))) (d_var 11 (by decide)) (nomark _))))))))))))))))))))))))
end
set_option linter.unusedSimpArgs false
set_option linter.unusedVariables false
local macro_rules | `(tactic| walk_at "ew") => `(tactic| (try simp only [ix_l3, ix_l2, ix_l1, not_false_eq_true, Int.reduceEq, eq_self, fin_rt, v_seq, seq_nx, v_next, v_ret, ret_k, v_if, if_k, v_var, get_v, v_c, v_op, op_k, q_bl, bl_k, a_nil, a_cons, cons_k, cons2_k, v_call, add_i, lt_i, len_l, mul_r, mod_l, bind_ok, List.getElem?_cons_zero, List.getElem?_cons_succ, List.set_cons_zero, List.set_cons_succ, decide_eq_true_eq, List.length_cons, List.length_nil, Nat.zero_add, Nat.reduceAdd, Nat.reduceLeDiff, Nat.reduceLT, and_self, Int.reduceNeg, Int.reducePow, Int.reduceLT, Int.reduceLE, Int.reduceToNat, Int.reduceAdd, Int.reduceSub, Int.reduceMul, Nat.reducePow, Nat.reduceMul]))
local macro_rules | `(tactic| walk_at "ev") => `(tactic| (walk_at "ew"; (try simp only [sl_s, len_s]); walk_at "ew"; (try simp only [sl_s, len_s]); walk_at "ew"))
noncomputable def cell (ns : List Int) (k : Int) : Int := ns.getD k.toNat 0
theorem cell_at (ns : List Int) (k : Int) (h0 : 0 ≤ k) : F_l_cell_at [.lst (ns.map D.int), .int k] = .ok (.int (cell ns k)) := by
  rw [E_l_cell_at, M_l_cell_at]
  walk_at "ev"
  rw [List.length_map]
  by_cases h : k < (ns.length : Int)
  · rw [if_pos h]
    have hk : k.toNat < ns.length := by omega
    have ek : k = ((k.toNat : Nat) : Int) := by omega
    have e : atI (ns.map D.int) k = some (.int (cell ns k)) := by
      rw [ek]
      refine atI_nat ?_
      unfold cell
      rw [List.getElem?_map, List.getElem?_eq_getElem hk, List.getD_eq_getElem?_getD, Int.toNat_natCast, List.getElem?_eq_getElem hk]
      rfl
    rw [ix_l e]
    rfl
  · rw [if_neg h]
    have e : cell ns k = 0 := by
      unfold cell
      rw [List.getD_eq_getElem?_getD, List.getElem?_eq_none (by omega)]
      rfl
    walk_at "ev"
    rw [e]
theorem if_yes {τ : FT} {S T : FS} {δ : Sd} (h : τ δ = .ok true) : sIf τ S T δ = S δ := by rw [v_if, h, bind_ok, if_k, if_pos rfl]
theorem if_no {τ : FT} {S T : FS} {δ : Sd} (h : τ δ = .ok false) : sIf τ S T δ = T δ := by rw [v_if, h, bind_ok, if_k, if_neg Bool.false_ne_true]
theorem seq_go {S T : FS} {δ δ' : Sd} (h : S δ = .ok (.nx δ')) : sSeq S T δ = T δ' := by rw [v_seq, h, bind_ok, seq_nx]
theorem seq_of {S T : FS} {δ : Sd} {d : D} (h : S δ = .ok (.rt d)) : sSeq S T δ = .ok (.rt d) := by rw [v_seq, h]; rfl
theorem ret_go {φ : FE} {δ : Sd} {d : D} (h : φ δ = .ok d) : sRet φ δ = .ok (.rt d) := by rw [v_ret, h]; rfl
theorem set_go {k : Nat} {φ : FE} {δ : Sd} {d : D} (h : φ δ = .ok d) : sSet k φ δ = .ok (.nx (δ.set k (some d))) := by rw [v_set, h]; rfl
theorem own_go {k : Nat} {φ : FE} {δ : Sd} {d : D} (h : φ δ = .ok d) (hk : k < δ.length := by simp) : sOwn k φ δ = .ok (.nx (δ.set k (some d))) := by rw [v_own, h, bind_ok, own_k, if_pos hk]
theorem fin_of {r : R Fl} {d : D} (h : r = .ok (.rt d)) : fin r = .ok d := by rw [h]; rfl
theorem skip {τ : FT} {S T : FS} {δ : Sd} (h : τ δ = .ok false) : sSeq (sIf τ S sNext) T δ = T δ := seq_go ((if_no h).trans rfl)
theorem ac {φ : FE} {α : FA} {δ : Sd} {d : D} {ds : List D} (h : φ δ = .ok d) (h2 : α δ = .ok ds) : aCons φ α δ = .ok (d :: ds) := by unfold aCons; rw [h, bind_ok, h2]; rfl
theorem tup_go {α : FA} {δ : Sd} {ds : List D} (h : α δ = .ok ds) (hl : ds.length ≤ 100 := by simp) : vTup α δ = .ok (.tup ds) := by rw [v_tup, h, bind_ok, mk_tup, if_pos (by omega)]
theorem lst_go {α : FA} {δ : Sd} {ds : List D} (h : α δ = .ok ds) (hl : ds.length ≤ 100 := by simp) : vLst α δ = .ok (.lst ds) := by rw [v_lst, h, bind_ok, mk_lst, if_pos (by omega)]
theorem op_go {f : D → D → R D} {φ ψ : FE} {δ : Sd} {a b c : D} (h1 : φ δ = .ok a) (h2 : ψ δ = .ok b) (h : f a b = .ok c) : vOp f φ ψ δ = .ok c := by rw [v_op, h1, bind_ok, op_k, h2, bind_ok, h]
theorem bl_go {φ : FE} {δ : Sd} {b : Bool} (h : φ δ = .ok (.bl b)) : qBl φ δ = .ok b := by rw [q_bl, h]; rfl
theorem call_go {F : List D → R D} {α : FA} {δ : Sd} {ds : List D} {r : R D} (h : α δ = .ok ds) (hf : F ds = r) : vCall F α δ = r := by rw [v_call, h, bind_ok, hf]
theorem for_one {i : Nat} {B : FS} {x : D} {r : List D} {δ δ' : Sd} (h : B (δ.set i (some x)) = .ok (.nx δ'))   : forD (.one i) B (x :: r) δ = forD (.one i) B r δ' := by
  rw [for_cons]
  have e : bindD (.one i) x δ = .ok (δ.set i (some x)) := rfl
  rw [e, bind_ok, turn_k, h, bind_ok, loop_nx]
theorem for_go {ι : FA} {g : TgD} {B : FS} {δ δ' : Sd} {xs : List D} (h : ι δ = .ok xs) (hf : forD g B xs δ = .ok (.nx δ')) : sFor ι g B δ = .ok (.nx δ') := by rw [v_for, h, bind_ok, for_k, hf]
noncomputable def tupK (k : List Key) : D := .tup (k.map dKey)
theorem keys_of_d : ∀ k : List Key, keysD (k.map dKey) = some k
  | [] => rfl
  | .inl i :: r => by
    show ((keyD (.int i)).bind fun k => (keysD (r.map dKey)).map (k :: ·)) = _
    rw [keys_of_d r]; rfl
  | .inr x :: r => by
    show ((keyD (.str x)).bind fun k => (keysD (r.map dKey)).map (k :: ·)) = _
    rw [keys_of_d r]; rfl
theorem tkey_of (k : List Key) : tkeyD (tupK k) = some k := keys_of_d k
instance decMem (k : List Key) (ks : List (List Key)) : Decidable (k ∈ ks) := @List.instDecidableMemOfLawfulBEq _ (@instBEqOfDecidableEq _ inferInstance) inferInstance k ks
noncomputable def addK (ks : List (List Key)) (k : List Key) : List (List Key) := if k ∈ ks then ks else ks ++ [k]
noncomputable def dedup (ks : List (List Key)) : List (List Key) := ks.foldl addK []
theorem mem_add (ks : List (List Key)) (k x : List Key) : x ∈ addK ks k ↔ x ∈ ks ∨ x = k := by
  unfold addK
  split
  · rename_i h
    exact ⟨.inl, fun z => z.elim id fun e => e ▸ h⟩
  · simp
theorem mem_fold : ∀ (ks acc : List (List Key)) (x : List Key), x ∈ ks.foldl addK acc ↔ x ∈ acc ∨ x ∈ ks
  | [], acc, x => by simp
  | k :: r, acc, x => by
    rw [List.foldl_cons, mem_fold r, mem_add, List.mem_cons, or_assoc]
theorem mem_dedup (ks : List (List Key)) (x : List Key) : x ∈ dedup ks ↔ x ∈ ks := by unfold dedup; rw [mem_fold]; simp
theorem len_add (ks : List (List Key)) (k : List Key) : (addK ks k).length ≤ ks.length + 1 := by unfold addK; split <;> simp
theorem len_fold : ∀ (ks acc : List (List Key)), (ks.foldl addK acc).length ≤ acc.length + ks.length
  | [], acc => by simp
  | k :: r, acc => by
    have h1 := len_fold r (addK acc k)
    have h2 := len_add acc k
    rw [List.foldl_cons, List.length_cons]
    omega
theorem len_dedup (ks : List (List Key)) : (dedup ks).length ≤ ks.length := by have := len_fold ks []; simpa [dedup] using this
noncomputable def dcOf (ks : List (List Key)) : D := .dcT (ks.map fun k => (k, .bl true))
theorem has_dc (ks : List (List Key)) (k : List Key) : hasA (ks.map fun k => (k, D.bl true)) k = decide (k ∈ ks) := by
  unfold hasA
  rw [List.any_map]
  rw [Bool.eq_iff_iff, List.any_eq_true, decide_eq_true_eq]
  constructor
  · rintro ⟨x, hx, h⟩
    have : x = k := of_decide_eq_true h
    exact this ▸ hx
  · exact fun h => ⟨k, h, decide_eq_true rfl⟩
theorem put_dc (ks : List (List Key)) (k : List Key) : putT (ks.map fun k => (k, D.bl true)) k (.bl true) = (addK ks k).map fun k => (k, .bl true) := by
  unfold putT addK
  rw [has_dc]
  by_cases h : k ∈ ks
  · rw [if_pos (decide_eq_true h), if_pos h, List.map_map]
    refine List.map_congr_left fun x hx => ?_
    simp only [Function.comp]
    split <;> rfl
  · rw [if_neg (by rw [decide_eq_false h]; exact Bool.false_ne_true), if_neg h, List.map_append]
    rfl
theorem put_go {i : Nat} {ψ ε : FE} {δ : Sd} {ks : List (List Key)} {k : List Key} (h : δ[i]? = some (some (dcOf ks))) (he : ε δ = .ok (.bl true)) (hk : ψ δ = .ok (tupK k)) (hl : ks.length < 1000) : sPutT i ψ ε δ = .ok (.nx (δ.set i (some (dcOf (addK ks k))))) := by
  unfold sPutT
  rw [h]
  unfold dcOf
  dsimp only
  rw [he, bind_ok, hk, bind_ok, tkey_of]
  dsimp only
  rw [if_pos (by rw [List.length_map]; omega), put_dc]
structure Chg (p : D × List Key) : Prop where
  ko : F_key_of [p.1] = .ok (tupK p.2)
  lk : F_l_key [p.1] = .ok (tupK p.2)
noncomputable abbrev kB : FS := (sPutT 1 (vCall F_key_of (aCons (vVar 2) aNil)) (vC (.bl true)))
theorem k_loop (c : D) : ∀ (ps : List (D × List Key)) (ks : List (List Key)) (o : Option D), (∀ p ∈ ps, Chg p) → ks.length + ps.length < 1000 → ∃ o', forD (.one 2) kB (ps.map (·.1)) [some c, some (dcOf ks), o] = .ok (.nx [some c, some (dcOf ((ps.map (·.2)).foldl addK ks)), o'])
  | [], ks, o, _, _ => ⟨o, rfl⟩
  | p :: r, ks, o, h, hl => by
    rw [List.length_cons] at hl
    have hla := len_add ks p.2
    obtain ⟨o', e⟩ := k_loop c r (addK ks p.2) (some p.1) (fun q hq => h q (List.mem_cons_of_mem _ hq)) (by omega)
    refine ⟨o', ?_⟩
    rw [List.map_cons, List.map_cons, List.foldl_cons, ← e]
    exact for_one (put_go (ks := ks) (k := p.2) rfl rfl ((call_go (ac rfl rfl) rfl).trans (h p (by simp)).ko) (by omega))
theorem keys_list (ks : List (List Key)) : lstTD [dcOf ks] = .ok (.lst (ks.map tupK)) := by
  unfold lstTD dcOf
  dsimp only
  rw [List.map_map]
  rfl
theorem keys_of (ps : List (D × List Key)) (h : ∀ p ∈ ps, Chg p) (hl : ps.length < 1000) : F_keys_of [.lst (ps.map (·.1))] = .ok (.lst ((dedup (ps.map (·.2))).map tupK)) := by
  obtain ⟨o', e⟩ := k_loop (.lst (ps.map (·.1))) ps [] none h (by simpa using hl)
  rw [E_keys_of, M_keys_of]
  have : ∀ S : FS, S = sSeq (sOwn 1 (vC (.dcT []))) (sSeq (sFor (iAny (vVar 0)) (.one 2) kB) (sRetW (vCall lstTD (aCons (vVar 1) aNil)))) → S [some (.lst (ps.map (·.1))), none, none] = .ok (.rn (.lst ((dedup (ps.map (·.2))).map tupK))) := by
    intro S hS
    subst hS
    refine (seq_go (own_go (d := dcOf []) rfl)).trans ((seq_go (for_go (xs := ps.map (·.1)) rfl e)).trans ?_)
    rw [v_retW, call_go (ac rfl rfl) (keys_list _)]
    rfl
  rw [this _ rfl]
  rfl
noncomputable def keyOk : Key → Prop
  | .inl _ => True
  | .inr s => PyData.strOk s = true
noncomputable def pyK : Key → PyData
  | .inl i => .int i
  | .inr s => .str s
theorem pys_key : ∀ k : List Key, toPys (k.map dKey) = some (k.map pyK)
  | [] => rfl
  | .inl i :: r => by
    show ((toPy (.int i)).bind fun p => (toPys (r.map dKey)).map (p :: ·)) = _
    rw [pys_key r]; rfl
  | .inr s :: r => by
    show ((toPy (.str s)).bind fun p => (toPys (r.map dKey)).map (p :: ·)) = _
    rw [pys_key r]; rfl
noncomputable def pyT (k : List Key) : PyData := .tuple (k.map pyK)
theorem py_key (k : List Key) : toPy (tupK k) = some (pyT k) := by
  unfold tupK pyT
  rw [toPy, pys_key]; rfl
theorem pys_keys : ∀ ks : List (List Key), toPys (ks.map tupK) = some (ks.map pyT)
  | [] => rfl
  | k :: r => by rw [List.map_cons, toPys, py_key, pys_keys r]; rfl
theorem lay_key : ∀ k : List Key, (∀ x ∈ k, keyOk x) → PyData.canLayAll0 (k.map pyK) = true ∧ PyData.depthAll (k.map pyK) = 0
  | [], _ => ⟨rfl, rfl⟩
  | .inl i :: r, h => by
    obtain ⟨h1, h2⟩ := lay_key r fun x hx => h x (List.mem_cons_of_mem _ hx)
    rw [List.map_cons, PyData.canLayAll0, h1, PyData.depthAll, h2]
    exact ⟨rfl, rfl⟩
  | .inr s :: r, h => by
    obtain ⟨h1, h2⟩ := lay_key r fun x hx => h x (List.mem_cons_of_mem _ hx)
    have hs : PyData.strOk s = true := h (.inr s) (by simp)
    rw [List.map_cons, PyData.canLayAll0, h1, PyData.depthAll, h2]
    exact ⟨by show (PyData.strOk s && true) = true; rw [hs]; rfl, rfl⟩
theorem shaped_of {k : Nat} {p : PyData} (h1 : p.canLay0 = true) (h2 : p.depth ≤ k) (hk : k ≤ 64) : SeqAt.shaped p = true := by
  unfold SeqAt.shaped
  rw [h1, decide_eq_true (by omega)]
  rfl
theorem shaped_key (k : List Key) (h : ∀ x ∈ k, keyOk x) : SeqAt.shaped (pyT k) = true ∧ (pyT k).depth ≤ 1 := by
  obtain ⟨h1, h2⟩ := lay_key k h
  have hd : (pyT k).depth ≤ 1 := by unfold pyT; rw [PyData.depth, h2]; exact Nat.le_refl _
  exact ⟨shaped_of (k := 1) h1 hd (by decide), hd⟩
theorem eqv_key : ∀ a b : List Key, PyData.eqvAll (a.map pyK) (b.map pyK) = decide (a = b)
  | [], [] => by rw [decide_eq_true rfl]; rfl
  | [], _ :: _ => by rw [decide_eq_false (by simp)]; rfl
  | _ :: _, [] => by rw [decide_eq_false (by simp)]; rfl
  | x :: r, y :: t => by
    rw [List.map_cons, List.map_cons, PyData.eqvAll, eqv_key r t]
    have hx : PyData.eqv (pyK x) (pyK y) = decide (x = y) := by
      cases x with
      | inl i => cases y with
        | inl j =>
          show (i == j) = _
          by_cases h : i = j
          · subst h; simp
          · rw [decide_eq_false (by simpa using h)]; simpa using h
        | inr s => rw [decide_eq_false (by simp)]; rfl
      | inr s => cases y with
        | inl j => rw [decide_eq_false (by simp)]; rfl
        | inr t =>
          show (s == t) = _
          by_cases h : s = t
          · subst h; simp
          · rw [decide_eq_false (by simpa using h)]; simpa using h
    rw [hx]
    by_cases h1 : x = y
    · subst h1
      by_cases h2 : r = t
      · subst h2; simp
      · simp [h2]
    · simp [h1]
theorem any_key (k : List Key) : ∀ ks : List (List Key), (∀ x ∈ ks, ∀ y ∈ x, keyOk y) → deepAny (pyT k) (ks.map pyT) = some (decide (k ∈ ks))
  | [], _ => rfl
  | x :: r, h => by
    obtain ⟨h1, h2⟩ := shaped_key x (h x (by simp))
    have ih := any_key k r fun y hy => h y (List.mem_cons_of_mem _ hy)
    rw [List.map_cons, deepAny, if_pos ⟨h1, by omega⟩, ih]
    show some (PyData.eqvAll (x.map pyK) (k.map pyK) || _) = _
    rw [eqv_key]
    congr 1
    by_cases h3 : x = k
    · subst h3; simp
    · have h3' : ¬ k = x := fun z => h3 z.symm
      simp [h3, h3']
theorem in_key (k : List Key) (ks : List (List Key)) (hk : ∀ x ∈ k, keyOk x) (h : ∀ x ∈ ks, ∀ y ∈ x, keyOk y) : deepIn (tupK k) (ks.map tupK) = some (decide (k ∈ ks)) := by
  unfold deepIn
  rw [py_key, pys_keys]
  dsimp only
  rw [if_pos (shaped_key k hk).1, any_key k ks h]
theorem notin_key (k : List Key) (ks : List (List Key)) (hk : ∀ x ∈ k, keyOk x) (h : ∀ x ∈ ks, ∀ y ∈ x, keyOk y) : notInPD (tupK k) (.lst (ks.map tupK)) = .ok (.bl (!decide (k ∈ ks))) := by
  unfold notInPD
  have : inPO (tupK k) (.lst (ks.map tupK)) = deepIn (tupK k) (ks.map tupK) := rfl
  rw [this, in_key k ks hk h]
  rfl
noncomputable abbrev dB : FS := (sIf (qBl (vOp notInPD (vCall F_l_key (aCons (vVar 2) aNil)) (vVar 1))) (sAppend 1 (vCall F_l_key (aCons (vVar 2) aNil))) sNext)
theorem app_go {i : Nat} {ε : FE} {δ : Sd} {xs : List D} {d : D} (h : δ[i]? = some (some (.lst xs))) (he : ε δ = .ok d) (hl : xs.length < 1000) : sAppend i ε δ = .ok (.nx (δ.set i (some (.lst (xs ++ [d]))))) := by
  unfold sAppend
  rw [h]
  dsimp only
  rw [he, bind_ok, if_pos (by omega)]
noncomputable abbrev Ok (ks : List (List Key)) : Prop := ∀ x ∈ ks, ∀ y ∈ x, keyOk y
theorem ok_add {ks : List (List Key)} {k : List Key} (h : Ok ks) (hk : ∀ x ∈ k, keyOk x) : Ok (addK ks k) := fun x hx => ((mem_add ks k x).mp hx).elim (h x) fun e => e ▸ hk
theorem d_loop (c : D) : ∀ (ps : List (D × List Key)) (ks : List (List Key)) (o : Option D), (∀ p ∈ ps, Chg p) → Ok (ps.map (·.2)) → Ok ks → ks.length + ps.length < 1000 → ∃ o', forD (.one 2) dB (ps.map (·.1)) [some c, some (.lst (ks.map tupK)), o] = .ok (.nx [some c, some (.lst (((ps.map (·.2)).foldl addK ks).map tupK)), o'])
  | [], ks, o, _, _, _, _ => ⟨o, rfl⟩
  | p :: r, ks, o, h, hok, hks, hl => by
    rw [List.length_cons] at hl
    have hla := len_add ks p.2
    have hp : ∀ x ∈ p.2, keyOk x := hok p.2 (by simp)
    obtain ⟨o', e⟩ := d_loop c r (addK ks p.2) (some p.1) (fun q hq => h q (List.mem_cons_of_mem _ hq)) (fun x hx => hok x (by rw [List.map_cons]; exact List.mem_cons_of_mem _ hx)) (ok_add hks hp) (by omega)
    refine ⟨o', ?_⟩
    rw [List.map_cons, List.map_cons, List.foldl_cons, ← e]
    have ek : ∀ z : Option D, vCall F_l_key (aCons (vVar 2) aNil) [some c, z, some p.1] = .ok (tupK p.2) := fun z => (call_go (ac rfl rfl) rfl).trans (h p (by simp)).lk
    have et : qBl (vOp notInPD (vCall F_l_key (aCons (vVar 2) aNil)) (vVar 1)) [some c, some (.lst (ks.map tupK)), some p.1] = .ok (!decide (p.2 ∈ ks)) := bl_go (op_go (ek _) rfl (notin_key p.2 ks hp hks))
    refine for_one ?_
    show dB [some c, some (.lst (ks.map tupK)), some p.1] = _
    by_cases hin : p.2 ∈ ks
    · have ea : addK ks p.2 = ks := by unfold addK; rw [if_pos hin]
      rw [ea]
      exact (if_no (et.trans (by rw [decide_eq_true hin]; rfl))).trans rfl
    · have ea : addK ks p.2 = ks ++ [p.2] := by unfold addK; rw [if_neg hin]
      rw [ea, List.map_append]
      exact (if_yes (et.trans (by rw [decide_eq_false hin]; rfl))).trans (app_go rfl (ek _) (by rw [List.length_map]; omega))
theorem l_due (ps : List (D × List Key)) (h : ∀ p ∈ ps, Chg p) (hok : Ok (ps.map (·.2))) (hl : ps.length < 1000) : F_l_due [.lst (ps.map (·.1))] = .ok (.lst ((dedup (ps.map (·.2))).map tupK)) := by
  obtain ⟨o', e⟩ := d_loop (.lst (ps.map (·.1))) ps [] none h hok (fun x hx => nomatch hx) (by simpa using hl)
  rw [E_l_due, M_l_due]
  exact fin_of ((seq_go (own_go (d := .lst []) rfl)).trans ((seq_go (for_go (xs := ps.map (·.1)) rfl e)).trans (ret_go rfl)))
noncomputable def Py (k : Nat) (d : D) : Prop := ∃ p, toPy d = some p ∧ p.canLay0 = true ∧ p.depth ≤ k
theorem Py.list {k : Nat} : ∀ {ds : List D}, (∀ d ∈ ds, Py k d) → ∃ ps, toPys ds = some ps ∧ PyData.canLayAll0 ps = true ∧ PyData.depthAll ps ≤ k ∧ ps.length = ds.length
  | [], _ => ⟨[], rfl, rfl, Nat.zero_le _, rfl⟩
  | d :: r, h => by
    obtain ⟨p, h1, h2, h3⟩ := h d (by simp)
    obtain ⟨ps, e1, e2, e3, e4⟩ := Py.list fun x hx => h x (List.mem_cons_of_mem _ hx)
    refine ⟨p :: ps, ?_, ?_, ?_, by simp [e4]⟩
    · rw [toPys, h1, e1]; rfl
    · rw [PyData.canLayAll0, h2, e2]; rfl
    · rw [PyData.depthAll]; exact Nat.max_le.mpr ⟨h3, e3⟩
theorem Py.tup {k : Nat} {ds : List D} (h : ∀ d ∈ ds, Py k d) : Py (k + 1) (.tup ds) := by
  obtain ⟨ps, e1, e2, e3, e4⟩ := Py.list h
  exact ⟨.tuple ps, by rw [toPy, e1]; rfl, e2, by rw [PyData.depth]; omega⟩
theorem Py.mono {k l : Nat} {d : D} (h : Py k d) (hk : k ≤ l) : Py l d := let ⟨p, a, b, c⟩ := h; ⟨p, a, b, Nat.le_trans c hk⟩
theorem Py.str {z : Str} (h : PyData.strOk z = true) : Py 0 (.str z) := ⟨.str z, rfl, h, Nat.le_refl _⟩
theorem Py.int (i : Int) : Py 0 (.int i) := ⟨.int i, rfl, rfl, Nat.le_refl _⟩
theorem Py.non : Py 0 .non := ⟨.none, rfl, rfl, Nat.le_refl _⟩
theorem Py.bl (b : Bool) : Py 0 (.bl b) := ⟨.bool b, rfl, rfl, Nat.le_refl _⟩
theorem ne_nil {k : Nat} {ds : List D} (h : ∀ d ∈ ds, Py k d) (hk : k ≤ 60) : neD (.lst ds) (.lst []) = .ok (.bl (decide (0 < ds.length))) := by
  obtain ⟨ps, e1, e2, e3, e4⟩ := Py.list h
  have et : toPy (.lst ds) = some (.list ps) := by rw [toPy, e1]; rfl
  have e0 : toPy (.lst []) = some (.list []) := rfl
  have ed : deepEq (.lst ds) (.lst []) = some (PyData.eqv (.list ps) (.list [])) := by
    unfold deepEq
    rw [et, e0]
    simp only
    rw [if_pos ⟨shaped_of (k := k + 1) e2 (by rw [PyData.depth]; omega) (by omega), by decide⟩]
  have eo : eqO (.lst ds) (.lst []) = deepEq (.lst ds) (.lst []) := rfl
  unfold neD
  rw [eo, ed]
  cases ps with
  | nil =>
    have : ds.length = 0 := by simpa using e4.symm
    rw [this]
    rfl
  | cons p r =>
    have : 0 < ds.length := by rw [← e4]; simp
    rw [decide_eq_true this]
    rfl
theorem ne_self {k : Nat} {ds : List D} (h : ∀ d ∈ ds, Py k d) (hk : k ≤ 60) : neD (.lst ds) (.lst ds) = .ok (.bl false) := by
  obtain ⟨ps, e1, e2, e3, e4⟩ := Py.list h
  have et : toPy (.lst ds) = some (.list ps) := by rw [toPy, e1]; rfl
  have hs : SeqAt.shaped (.list ps) = true := shaped_of (k := k + 1) e2 (by rw [PyData.depth]; omega) (by omega)
  have ed : deepEq (.lst ds) (.lst ds) = some true := by
    unfold deepEq
    rw [et]
    simp only
    rw [if_pos ⟨hs, hs⟩]
    congr 1
    exact SeqAt.eqv_refl _ e2
  have eo : eqO (.lst ds) (.lst ds) = deepEq (.lst ds) (.lst ds) := rfl
  unfold neD
  rw [eo, ed]
  rfl
noncomputable abbrev tB : FS := (sPutT 2 (vVar 4) (vC (.bl true)))
theorem t_loop (a b : D) (x3 : Option D) : ∀ (ks ts : List (List Key)) (o : Option D), ts.length + ks.length < 1000 → ∃ o', forD (.one 4) tB (ks.map tupK) [some a, some b, some (dcOf ts), x3, o] = .ok (.nx [some a, some b, some (dcOf (ks.foldl addK ts)), x3, o'])
  | [], ts, o, _ => ⟨o, rfl⟩
  | k :: r, ts, o, hl => by
    rw [List.length_cons] at hl
    have hla := len_add ts k
    obtain ⟨o', e⟩ := t_loop a b x3 r (addK ts k) (some (tupK k)) (by omega)
    refine ⟨o', ?_⟩
    rw [List.map_cons, List.foldl_cons, ← e]
    exact for_one (put_go (ks := ts) (k := k) rfl rfl rfl (by omega))
noncomputable def tot (rs : List (List (D × List Key))) : Nat := (rs.map List.length).sum
theorem r_loop (a b : D) : ∀ (rs : List (List (D × List Key))) (ts : List (List Key)) (o3 o4 : Option D), (∀ r ∈ rs, ∀ p ∈ r, Chg p) → ts.length + tot rs < 1000 →
    ∃ ts' o3' o4', forD (.one 3) (sFor (iAny (vCall F_keys_of (aCons (vVar 3) aNil))) (.one 4) tB) (rs.map fun r => .lst (r.map (·.1))) [some a, some b, some (dcOf ts), o3, o4] = .ok (.nx [some a, some b, some (dcOf ts'), o3', o4']) ∧ (∀ x, x ∈ ts' ↔ x ∈ ts ∨ ∃ r ∈ rs, x ∈ r.map (·.2)) ∧ ts'.length ≤ ts.length + tot rs
  | [], ts, o3, o4, _, _ => ⟨ts, o3, o4, rfl, by simp, by simp [tot]⟩
  | r :: rs, ts, o3, o4, h, hl => by
    have et : tot (r :: rs) = r.length + tot rs := by simp [tot]
    rw [et] at hl
    have hd := len_dedup (r.map (·.2))
    rw [List.length_map] at hd
    have hk := keys_of r (h r (by simp)) (by omega)
    obtain ⟨o', e⟩ := t_loop a b (some (.lst (r.map (·.1)))) (dedup (r.map (·.2))) ts o4 (by omega)
    have hf := len_fold (dedup (r.map (·.2))) ts
    obtain ⟨ts', o3', o4', e2, hm, hl'⟩ := r_loop a b rs ((dedup (r.map (·.2))).foldl addK ts) (some (.lst (r.map (·.1)))) o' (fun q hq => h q (List.mem_cons_of_mem _ hq)) (by omega)
    refine ⟨ts', o3', o4', ?_, fun x => ?_, by omega⟩
    · rw [List.map_cons, ← e2]
      refine for_one ?_
      refine for_go (xs := (dedup (r.map (·.2))).map tupK) ?_ e
      rw [i_any, call_go (ac rfl rfl) hk]
      rfl
    · rw [hm x, mem_fold, mem_dedup]
      simp only [List.mem_cons, exists_eq_or_imp]
      exact or_assoc
theorem any_d {xs : List D} {bs : List Bool} (h : blsD xs = some bs) : anyD [.lst xs] = .ok (.bl (bs.any id)) := by simp only [anyD, h]
noncomputable def Meet (ps : List (D × List Key)) (rs : List (List (D × List Key))) : Prop := ∃ k ∈ ps.map (·.2), ∃ r ∈ rs, k ∈ r.map (·.2)
theorem meets (ps : List (D × List Key)) (rs : List (List (D × List Key))) (h : ∀ p ∈ ps, Chg p) (hr : ∀ r ∈ rs, ∀ p ∈ r, Chg p) (hl : ps.length < 1000) (hl2 : tot rs < 1000) : ∃ b : Bool, F_meets [.lst (ps.map (·.1)), .lst (rs.map fun r => .lst (r.map (·.1)))] = .ok (.bl b) ∧ (b = true ↔ Meet ps rs) := by
  obtain ⟨ts, o3, o4, e, hm, _⟩ := r_loop (.lst (ps.map (·.1))) (.lst (rs.map fun r => .lst (r.map (·.1)))) rs [] none none hr (by simpa using hl2)
  refine ⟨(dedup (ps.map (·.2))).any fun k => decide (k ∈ ts), ?_, ?_⟩
  · rw [E_meets, M_meets]
    refine fin_of ((seq_go (own_go (d := dcOf []) rfl)).trans ((seq_go (for_go (xs := rs.map fun r => .lst (r.map (·.1))) rfl e)).trans (ret_go ?_)))
    have hd := len_dedup (ps.map (·.2))
    rw [List.length_map] at hd
    have ec : vComp [none, some 2] (iAny (vCall F_keys_of (aCons (vVar 0) aNil))) (.one 0) qYes (vOp inTD (vVar 0) (vVar 1)) [some (.lst (ps.map (·.1))), some (.lst (rs.map fun r => .lst (r.map (·.1)))), some (dcOf ts), o3, o4] = .ok (.lst ((dedup (ps.map (·.2))).map fun k => D.bl (decide (k ∈ ts)))) := by
      rw [v_comp, i_any, call_go (ac rfl rfl) (keys_of ps h hl), bind_ok, items_l, bind_ok]
      refine compOf_map tupK (fun k => D.bl (decide (k ∈ ts))) rfl (by omega) fun k hk => ?_
      refine op_go (a := tupK k) (b := dcOf ts) rfl rfl ?_
      unfold inTD dcOf
      dsimp only
      rw [tkey_of]
      dsimp only
      rw [has_dc]
    refine (call_go (ac ec rfl) rfl).trans ?_
    rw [any_d (bls_map _ _), List.any_map]
    rfl
  · rw [List.any_eq_true]
    unfold Meet
    constructor
    · rintro ⟨k, hk, hd⟩
      have h1 := (mem_dedup _ _).mp hk
      have h2 := (hm k).mp (of_decide_eq_true hd)
      rcases h2 with h2 | h2
      · cases h2
      · exact ⟨k, h1, h2⟩
    · rintro ⟨k, hk, hd⟩
      exact ⟨k, (mem_dedup _ _).mpr hk, decide_eq_true ((hm k).mpr (.inr hd))⟩
theorem tup_py (k : List Key) (h : ∀ x ∈ k, keyOk x) : Py 1 (tupK k) := ⟨pyT k, py_key k, (lay_key k h).1, (shaped_key k h).2⟩
theorem keys_py {ks : List (List Key)} (h : Ok ks) : ∀ d ∈ ks.map tupK, Py 1 d := fun d hd => by
  obtain ⟨k, hk, rfl⟩ := List.mem_map.mp hd
  exact tup_py k (h k hk)
theorem eq_bl (a b : Bool) : neD (.bl a) (.bl b) = .ok (.bl (decide (a ≠ b))) := by cases a <;> cases b <;> rfl
theorem eq_bl' (a : Bool) : eqD (.bl a) (.bl a) = .ok (.bl true) := by cases a <;> rfl
theorem app_toList (a b : Str) : (a ++ b).cps.toList = a.cps.toList ++ b.cps.toList := by
  show (a.cps ++ b.cps).toList = _
  rw [Array.toList_append]
theorem str_len2 (z : Str) : z.cps.toList.length = z.length := by simp [Str.length]
theorem app_len (a b : Str) : (a ++ b).length = a.length + b.length := by
  rw [← str_len2, ← str_len2, ← str_len2, app_toList, List.length_append]
theorem add_t (a b : Str) (h : a.length + b.length ≤ 1000000) : addD (.str a) (.str b) = .ok (.str (a ++ b)) := by rw [add_s, if_pos h]
noncomputable def Lo (z : Str) : Prop := ∀ c ∈ z.cps.toList, c < 200
theorem Lo.app {a b : Str} (ha : Lo a) (hb : Lo b) : Lo (a ++ b) := fun c hc => by
  rw [app_toList] at hc
  exact (List.mem_append.mp hc).elim (ha c) (hb c)
theorem Lo.one {c : Nat} (h : c < 200) : Lo ⟨#[c]⟩ := fun d hd => by
  have : d = c := by simpa using hd
  rw [this]; exact h
theorem Lo.ok {z : Str} (h : Lo z) : PyData.strOk z = true := by
  show z.cps.all (· < 0x110000) = true
  rw [← Array.all_toList, List.all_eq_true]
  intro c hc
  have := h c hc
  simp
  omega
theorem cut_lo {z : Str} (h : Lo z) (lo hi : Option Int) : Lo (cutS z lo hi) := fun c hc => by
  unfold cutS at hc
  have : c ∈ (z.cps.toList.drop (HT.sIx z.length 0 lo)).take (HT.sIx z.length z.length hi - HT.sIx z.length 0 lo) := by simpa using hc
  exact h c (List.mem_of_mem_drop (List.mem_of_mem_take this))
theorem cut_len (z : Str) (lo hi : Option Int) : (cutS z lo hi).length ≤ z.length := by
  rw [← str_len2, ← str_len2]
  unfold cutS
  simp only [List.length_take, List.length_drop]
  omega
theorem sl_t (z : Str) (lo hi : Option Int) (h : z.length ≤ 1000) : slD (.str z) lo hi = .ok (.str (cutS z lo hi)) := by rw [sl_s, if_pos (by omega)]
theorem one_len (c : Nat) : (⟨#[c]⟩ : Str).length = 1 := rfl
theorem sign_at (z : Str) (hz : Lo z) (hl : z.length ≤ 1000) (i : Int) (h0 : 0 ≤ i) (h1 : i < z.length) : ∃ c, c < 200 ∧ ixD (.str z) (.int i) = .ok (.str ⟨#[c]⟩) := by
  have ek : i = ((i.toNat : Nat) : Int) := by omega
  have hk : i.toNat < z.cps.toList.length := by rw [str_len2]; omega
  have h := atI_nat (xs := z.cps.toList) (j := i.toNat) (List.getElem?_eq_getElem hk)
  rw [← ek] at h
  exact ⟨_, hz _ (List.getElem_mem hk), ix_s (by omega) h⟩
noncomputable abbrev abc : Str := Str.ofString "abcdefghijklmnopqrstuvwxyz"
theorem abc_lo : Lo abc := by unfold Lo; decide +kernel
theorem abc_len : abc.length = 26 := by decide +kernel
theorem abc_at (i : Int) : ∃ c, c < 200 ∧ ixD (.str abc) (.int (i % 26)) = .ok (.str ⟨#[c]⟩) :=
  sign_at abc abc_lo (by rw [abc_len]; decide) _ (Int.emod_nonneg _ (by decide)) (by rw [abc_len]; exact Int.emod_lt_of_pos _ (by decide))
theorem mixed (n : Int) : F_l_mixed [.int n] = .ok (.int ((n * 48271 + 7919) % 2147483647)) := by
  rw [E_l_mixed, M_l_mixed]
  walk_at "ew"
noncomputable abbrev nB : FS := (sSeq (sSet 3 (vCall F_l_mixed (aCons (vVar 3) aNil))) (sSet 2 (vOp addD (vVar 2) (vOp ixD (vVar 1) (vOp modD (vVar 3) (vC (.int 26)))))))
theorem n_loop (a : D) : ∀ (xs : List D) (z : Str) (n : Int) (o : Option D), z.length + xs.length ≤ 100 → Lo z → ∃ z' n' o', forD (.one 4) nB xs [some a, some (.str abc), some (.str z), some (.int n), o] = .ok (.nx [some a, some (.str abc), some (.str z'), some (.int n'), o']) ∧ z'.length = z.length + xs.length ∧ Lo z'
  | [], z, n, o, h, hz => ⟨z, n, o, rfl, rfl, hz⟩
  | x :: r, z, n, o, h, hz => by
    rw [List.length_cons] at h
    obtain ⟨c, hc, e⟩ := abc_at ((n * 48271 + 7919) % 2147483647)
    obtain ⟨z', n', o', e2, h2, hz2⟩ := n_loop a r (z ++ ⟨#[c]⟩) ((n * 48271 + 7919) % 2147483647) (some x) (by rw [app_len, one_len]; omega) (hz.app (.one hc))
    refine ⟨z', n', o', ?_, by rw [h2, app_len, one_len, List.length_cons]; omega, hz2⟩
    rw [← e2]
    refine for_one ?_
    refine (seq_go (set_go ((call_go (ac rfl rfl) rfl).trans (mixed n)))).trans ?_
    exact set_go (op_go rfl (op_go rfl (op_go rfl rfl (mod_l (by decide))) e) (add_t _ _ (by rw [one_len]; omega)))
theorem range_len (n : Nat) (i : Int) : (rangeD i n).length = n := by unfold rangeD; simp
structure Nm (z : Str) : Prop where
  l1 : 1 ≤ z.length
  l9 : z.length ≤ 20
  lo : Lo z
theorem res_at (z : Str) : ∃ b : Bool, ∀ (φ : FE) (δ : Sd), φ δ = .ok (.str z) → qBl (vOp inD φ (vLst (aCons (vC (.str "and")) (aCons (vC (.str "by")) (aCons (vC (.str "down")) (aCons (vC (.str "from")) (aCons (vC (.str "none")) (aCons (vC (.str "not")) (aCons (vC (.str "or")) (aCons (vC (.str "order")) (aCons (vC (.str "show")) (aCons (vC (.str "take")) (aCons (vC (.str "where")) aNil))))))))))))) δ = .ok b := by
  have : ∃ b, inD (.str z) (.lst [.str "and", .str "by", .str "down", .str "from", .str "none", .str "not", .str "or", .str "order", .str "show", .str "take", .str "where"]) = .ok (.bl b) := ⟨_, rfl⟩
  obtain ⟨b, e⟩ := this
  exact ⟨b, fun φ δ h => bl_go (op_go h rfl e)⟩
theorem z_lo : Lo (Str.ofString "z") := by unfold Lo; decide +kernel
theorem z_len : (Str.ofString "z").length = 1 := by decide +kernel
theorem nil_len : (Str.ofString "").length = 0 := by decide +kernel
theorem nil_lo : Lo (Str.ofString "") := by unfold Lo; decide +kernel
theorem name_by (c : Int) : ∃ z : Str, F_l_name_by [.int c] = .ok (.str z) ∧ Nm z ∧ z.length ≤ 9 := by
  rw [E_l_name_by, M_l_name_by]
  have b0 : 0 ≤ c % 8 := Int.emod_nonneg _ (by decide)
  have b1 : c % 8 < 8 := Int.emod_lt_of_pos _ (by decide)
  have hr := range_len (1 + c % 8).toNat 0
  obtain ⟨z, n, o, e, hl, hz⟩ := n_loop (.int c) (rangeD 0 (1 + c % 8).toNat) (Str.ofString "") c none (by rw [hr, nil_len]; omega) nil_lo
  rw [hr, nil_len] at hl
  obtain ⟨b, hb⟩ := res_at z
  have ei : iRng1D (aCons (vOp addD (vC (.int 1)) (vOp modD (vVar 0) (vC (.int 8)))) aNil) [some (.int c), some (.str abc), some (.str (Str.ofString "")), some (.int c), none] = .ok (rangeD 0 (1 + c % 8).toNat) := by
    rw [i_rng1, ac (op_go rfl (op_go rfl rfl (mod_l (by decide))) add_i) rfl, bind_ok, rng_1 (by omega)]
  have main : ∃ z' : Str, (Nm z' ∧ z'.length ≤ 9) ∧ sSeq (sIf (qBl (vOp inD (vVar 2) (vLst (aCons (vC (.str "and")) (aCons (vC (.str "by")) (aCons (vC (.str "down")) (aCons (vC (.str "from")) (aCons (vC (.str "none")) (aCons (vC (.str "not")) (aCons (vC (.str "or")) (aCons (vC (.str "order")) (aCons (vC (.str "show")) (aCons (vC (.str "take")) (aCons (vC (.str "where")) aNil)))))))))))))) (sRet (vOp addD (vVar 2) (vC (.str "z")))) sNext) (sRet (vVar 2)) [some (.int c), some (.str abc), some (.str z), some (.int n), o] = .ok (.rt (.str z')) := by
    cases b with
    | true => exact ⟨z ++ Str.ofString "z", ⟨⟨by rw [app_len]; omega, by rw [app_len, z_len]; omega, hz.app z_lo⟩, by rw [app_len, z_len]; omega⟩, seq_of ((if_yes (hb _ _ rfl)).trans (ret_go (op_go rfl rfl (add_t _ _ (by rw [z_len]; omega)))))⟩
    | false => exact ⟨z, ⟨⟨by omega, by omega, hz⟩, by omega⟩, (skip (hb _ _ rfl)).trans (ret_go rfl)⟩
  obtain ⟨z', hn, em⟩ := main
  refine ⟨z', fin_of ?_, hn.1, hn.2⟩
  exact (seq_go (set_go rfl)).trans ((seq_go (set_go rfl)).trans ((seq_go (set_go rfl)).trans ((seq_go (for_go ei e)).trans em)))
theorem fnd_go (δ : Sd) (φ : FE) (s : Nat) (h2 : vVar 2 δ = .ok (.str abc)) (h : φ δ = .ok (.str ⟨#[s]⟩)) : vSM (s1D fun x y => .int (fndI x y)) (vVar 2) (aCons φ aNil) δ = .ok (.int (fndI abc ⟨#[s]⟩)) := by
  rw [v_sm, h2, bind_ok, sm_k, ac h rfl, bind_ok]
  rfl
theorem sl_go {φ : FE} {l u : Sd → R (Option Int)} {δ : Sd} {z : Str} {lo hi : Option Int} (h : φ δ = .ok (.str z)) (h1 : l δ = .ok lo) (h2 : u δ = .ok hi) (hl : z.length ≤ 1000) : vSl slD φ l u δ = .ok (.str (cutS z lo hi)) := by
  rw [v_sl, h, bind_ok, sl0_k, h1, bind_ok, sl1_k, h2, bind_ok, sl2_k, sl_t z lo hi hl]
theorem some_go {φ : FE} {δ : Sd} {i : Int} (h : φ δ = .ok (.int i)) : oSome φ δ = .ok (some i) := by rw [o_some, h]; rfl
theorem twin (y : Str) (hy : Nm y) (hy9 : y.length ≤ 9) (c : Int) : ∃ z : Str, F_l_twin [.str y, .int c] = .ok (.str z) ∧ Nm z := by
  have hl1 := hy.l1
  have b0 : 0 ≤ c % (y.length : Int) := Int.emod_nonneg _ (by omega)
  have b1 : c % (y.length : Int) < y.length := Int.emod_lt_of_pos _ (by omega)
  obtain ⟨s, hs, es⟩ := sign_at y hy.lo (by omega) _ b0 b1
  obtain ⟨s2, hs2, es2⟩ := abc_at (fndI abc ⟨#[s]⟩ + 1 + c / 8 % 25)
  have hlo : Lo (cutS y none (some (c % (y.length : Int))) ++ ⟨#[s2]⟩ ++ cutS y (some (c % (y.length : Int) + 1)) none) := ((cut_lo hy.lo _ _).app (.one hs2)).app (cut_lo hy.lo _ _)
  have k1 := cut_len y none (some (c % (y.length : Int)))
  have k2 := cut_len y (some (c % (y.length : Int) + 1)) none
  have hlen : (cutS y none (some (c % (y.length : Int))) ++ ⟨#[s2]⟩ ++ cutS y (some (c % (y.length : Int) + 1)) none).length ≤ 19 ∧ 1 ≤ (cutS y none (some (c % (y.length : Int))) ++ ⟨#[s2]⟩ ++ cutS y (some (c % (y.length : Int) + 1)) none).length := by
    rw [app_len, app_len, one_len]; omega
  have elen : lenD [.str y] = .ok (.int (y.length : Int)) := by rw [len_s, if_pos (by omega)]
  have es' : addD (.str (cutS y none (some (c % (y.length : Int))))) (.str ⟨#[s2]⟩) = .ok (.str (cutS y none (some (c % (y.length : Int))) ++ ⟨#[s2]⟩)) := add_t _ _ (by rw [one_len]; omega)
  have es'' := add_t (cutS y none (some (c % (y.length : Int))) ++ ⟨#[s2]⟩) (cutS y (some (c % (y.length : Int) + 1)) none) (by rw [app_len, one_len]; omega)
  generalize cutS y none (some (c % (y.length : Int))) ++ ⟨#[s2]⟩ ++ cutS y (some (c % (y.length : Int) + 1)) none = w at hlo hlen es''
  obtain ⟨b, hb⟩ := res_at w
  rw [E_l_twin, M_l_twin]
  have main : ∃ z', Nm z' ∧ sSeq (sIf (qBl (vOp inD (vVar 5) (vLst (aCons (vC (.str "and")) (aCons (vC (.str "by")) (aCons (vC (.str "down")) (aCons (vC (.str "from")) (aCons (vC (.str "none")) (aCons (vC (.str "not")) (aCons (vC (.str "or")) (aCons (vC (.str "order")) (aCons (vC (.str "show")) (aCons (vC (.str "take")) (aCons (vC (.str "where")) aNil)))))))))))))) (sRet (vOp addD (vVar 5) (vC (.str "z")))) sNext) (sRet (vVar 5)) [some (.str y), some (.int c), some (.str abc), some (.int (c % (y.length : Int))), some (.int (fndI abc ⟨#[s]⟩ + 1 + c / 8 % 25)), some (.str w)] = .ok (.rt (.str z')) := by
    cases b with
    | true => exact ⟨w ++ Str.ofString "z", ⟨by rw [app_len]; omega, by rw [app_len, z_len]; omega, hlo.app z_lo⟩, seq_of ((if_yes (hb _ _ rfl)).trans (ret_go (op_go rfl rfl (add_t _ _ (by rw [z_len]; omega)))))⟩
    | false => exact ⟨w, ⟨by omega, by omega, hlo⟩, (skip (hb _ _ rfl)).trans (ret_go rfl)⟩
  obtain ⟨z', hn, em⟩ := main
  refine ⟨z', fin_of ?_, hn⟩
  refine (seq_go (set_go rfl)).trans ?_
  refine (seq_go (set_go (d := .int (c % (y.length : Int))) (op_go rfl ((call_go (ac rfl rfl) rfl).trans elen) (mod_l (by omega))))).trans ?_
  refine (seq_go (set_go (d := .int (fndI abc ⟨#[s]⟩ + 1 + c / 8 % 25)) (op_go (op_go (fnd_go _ _ s rfl (op_go rfl rfl es)) rfl add_i) (op_go (op_go rfl rfl (div_l (by decide))) rfl (mod_l (by decide))) add_i))).trans ?_
  refine (seq_go (set_go (d := .str w) (op_go (op_go (sl_go rfl rfl (some_go rfl) (by omega)) (op_go rfl (op_go rfl rfl (mod_l (by decide))) es2) es') (sl_go rfl (some_go (op_go rfl rfl add_i)) rfl (by omega)) es''))).trans ?_
  exact em
noncomputable def Col (d : D) : Prop := ∃ c k : Str, d = .tup [.str c, .str k] ∧ Lo c ∧ Lo k
noncomputable abbrev a8 : Str := Str.ofString "abcdefgh"
theorem a8_lo : Lo a8 := by unfold Lo; decide +kernel
theorem a8_len : a8.length = 8 := by decide +kernel
noncomputable abbrev hB : FS := (sSeq (sSet 5 (vCall F_l_mixed (aCons (vVar 5) aNil))) (sSeq (sSet 7 (vOp addD (vOp addD (vVar 2) (vC (.str "z"))) (vOp ixD (vC (.str "abcdefgh")) (vVar 6)))) (sSeq (sIf (qBl (vOp eqD (vOp modD (vOp divD (vVar 1) (vC (.int 8))) (vC (.int 2))) (vC (.int 1)))) (sSet 7 (vOp addD (vOp addD (vOp ixD (vC (.str "abcdefgh")) (vVar 6)) (vC (.str "z"))) (vVar 2))) sNext) (sAppend 4 (vTup (aCons (vVar 7) (aCons (vOp ixD (vLst (aCons (vC (.str "number")) (aCons (vC (.str "text")) aNil))) (vOp modD (vOp divD (vVar 5) (vC (.int 7))) (vC (.int 2)))) aNil)))))))
theorem kind_at (i : Int) : ∃ k : Str, Lo k ∧ ixD (.lst [.str "number", .str "text"]) (.int (i % 2)) = .ok (.str k) := by
  have h0 : 0 ≤ i % 2 := Int.emod_nonneg _ (by decide)
  have h1 : i % 2 < 2 := Int.emod_lt_of_pos _ (by decide)
  generalize i % 2 = j at h0 h1
  rcases (by omega : j = 0 ∨ j = 1) with rfl | rfl
  · exact ⟨_, by unfold Lo; decide +kernel, ix_l0⟩
  · exact ⟨_, by unfold Lo; decide +kernel, ix_l1⟩
theorem h_loop (a m : D) (c : Int) (base : Str) (hb : Lo base) (hbl : base.length ≤ 20) : ∀ (js : List Nat) (cs : List D) (n : Int) (o6 o7 : Option D), (∀ j ∈ js, j < 8) → (∀ d ∈ cs, Col d) → cs.length + js.length ≤ 100 →
    ∃ cs' n' o6' o7', forD (.one 6) hB (js.map fun (j : Nat) => D.int ((0 : Int) + (j : Int))) [some a, some (.int c), some (.str base), some m, some (.lst cs), some (.int n), o6, o7] = .ok (.nx [some a, some (.int c), some (.str base), some m, some (.lst cs'), some (.int n'), o6', o7']) ∧ (∀ d ∈ cs', Col d) ∧ cs'.length = cs.length + js.length
  | [], cs, n, o6, o7, _, h, _ => ⟨cs, n, o6, o7, rfl, h, rfl⟩
  | j :: r, cs, n, o6, o7, hj, h, hl => by
    rw [List.length_cons] at hl
    have hj8 := hj j (by simp)
    obtain ⟨s, hs, es⟩ := sign_at a8 a8_lo (by rw [a8_len]; decide) ((0 : Int) + (j : Int)) (by omega) (by rw [a8_len]; omega)
    obtain ⟨k, hk, ek⟩ := kind_at ((n * 48271 + 7919) % 2147483647 / 7)
    obtain ⟨col, hcol, e7⟩ : ∃ col : Str, Lo col ∧ sIf (qBl (vOp eqD (vOp modD (vOp divD (vVar 1) (vC (.int 8))) (vC (.int 2))) (vC (.int 1)))) (sSet 7 (vOp addD (vOp addD (vOp ixD (vC (.str "abcdefgh")) (vVar 6)) (vC (.str "z"))) (vVar 2))) sNext [some a, some (.int c), some (.str base), some m, some (.lst cs), some (.int ((n * 48271 + 7919) % 2147483647)), some (.int ((0 : Int) + (j : Int))), some (.str (base ++ Str.ofString "z" ++ ⟨#[s]⟩))] = .ok (.nx [some a, some (.int c), some (.str base), some m, some (.lst cs), some (.int ((n * 48271 + 7919) % 2147483647)), some (.int ((0 : Int) + (j : Int))), some (.str col)]) := by
      have hq : qBl (vOp eqD (vOp modD (vOp divD (vVar 1) (vC (.int 8))) (vC (.int 2))) (vC (.int 1))) [some a, some (.int c), some (.str base), some m, some (.lst cs), some (.int ((n * 48271 + 7919) % 2147483647)), some (.int ((0 : Int) + (j : Int))), some (.str (base ++ Str.ofString "z" ++ ⟨#[s]⟩))] = .ok (decide (c / 8 % 2 = 1)) := bl_go (op_go (op_go (op_go rfl rfl (div_l (by decide))) rfl (mod_l (by decide))) rfl eq_ii)
      by_cases hc : c / 8 % 2 = 1
      · refine ⟨⟨#[s]⟩ ++ Str.ofString "z" ++ base, ((Lo.one hs).app z_lo).app hb, ?_⟩
        exact (if_yes (hq.trans (by rw [decide_eq_true hc]))).trans (set_go (op_go (op_go (op_go rfl rfl es) rfl (add_t _ _ (by rw [one_len, z_len]; decide))) rfl (add_t _ _ (by rw [app_len, one_len, z_len]; omega))))
      · exact ⟨_, (hb.app z_lo).app (.one hs), (if_no (hq.trans (by rw [decide_eq_false hc]))).trans rfl⟩
    obtain ⟨cs', n', o6', o7', e, h1, h2⟩ := h_loop a m c base hb hbl r (cs ++ [.tup [.str col, .str k]]) ((n * 48271 + 7919) % 2147483647) (some (.int ((0 : Int) + (j : Int)))) (some (.str col)) (fun x hx => hj x (List.mem_cons_of_mem _ hx)) (fun d hd => by
      rcases List.mem_append.mp hd with z | z
      · exact h d z
      · rw [List.mem_singleton.mp z]; exact ⟨col, k, rfl, hcol, hk⟩) (by simp; omega)
    refine ⟨cs', n', o6', o7', ?_, h1, by rw [h2]; simp; omega⟩
    rw [List.map_cons, ← e]
    refine for_one ?_
    refine (seq_go (set_go ((call_go (ac rfl rfl) rfl).trans (mixed n)))).trans ?_
    refine (seq_go (set_go (d := .str (base ++ Str.ofString "z" ++ ⟨#[s]⟩)) (op_go (op_go rfl rfl (add_t _ _ (by rw [z_len]; omega))) (op_go rfl rfl es) (add_t _ _ (by rw [app_len, one_len, z_len]; omega))))).trans ?_
    refine (seq_go e7).trans ?_
    exact app_go rfl (tup_go (ac rfl (ac (op_go rfl (op_go (op_go rfl rfl (div_l (by decide))) rfl (mod_l (by decide))) ek) rfl))) (by omega)
noncomputable def manyOf (c : Int) : Nat := [1, 2, 3, 4, 2, 3, 1, 8].getD (c % 8).toNat 1
theorem many_at (c : Int) : ixD (.lst [.int 1, .int 2, .int 3, .int 4, .int 2, .int 3, .int 1, .int 8]) (.int (c % 8)) = .ok (.int (manyOf c : Int)) ∧ manyOf c ≤ 8 := by
  have h0 : 0 ≤ c % 8 := Int.emod_nonneg _ (by decide)
  have h1 : c % 8 < 8 := Int.emod_lt_of_pos _ (by decide)
  unfold manyOf
  generalize c % 8 = j at h0 h1
  rcases (by omega : j = 0 ∨ j = 1 ∨ j = 2 ∨ j = 3 ∨ j = 4 ∨ j = 5 ∨ j = 6 ∨ j = 7) with rfl | rfl | rfl | rfl | rfl | rfl | rfl | rfl
  · exact ⟨ix_l0, by decide⟩
  · exact ⟨ix_l1, by decide⟩
  · exact ⟨ix_l2, by decide⟩
  · exact ⟨ix_l3, by decide⟩
  · exact ⟨ix_l4, by decide⟩
  · exact ⟨ix_l5, by decide⟩
  · exact ⟨ix_l6, by decide⟩
  · exact ⟨ix_l7, by decide⟩
theorem shape_by (a : D) (c : Int) : ∃ cs : List D, F_l_shape_by [a, .int c] = .ok (.tup [a, .tup cs]) ∧ (∀ d ∈ cs, Col d) ∧ cs.length = manyOf c := by
  obtain ⟨z, ez, hz, hz9⟩ := name_by (c / 7)
  obtain ⟨em, hm8⟩ := many_at c
  have hcl := cut_len z none (some 5)
  obtain ⟨cs, n, o6, o7, e, h1, h2⟩ := h_loop a (.int (manyOf c : Int)) c (cutS z none (some 5)) (cut_lo hz.lo _ _) (by omega) (List.range (manyOf c)) [] c none none (fun j hj => by have := List.mem_range.mp hj; omega) (fun d hd => nomatch hd) (by simp; omega)
  refine ⟨cs, ?_, h1, by rw [h2]; simp⟩
  have hl : cs.length ≤ 8 := by rw [h2]; simpa using hm8
  rw [E_l_shape_by, M_l_shape_by]
  refine fin_of ?_
  refine (seq_go (set_go (sl_go ((call_go (ac (op_go rfl rfl (div_l (by decide))) rfl) rfl).trans ez) rfl (some_go rfl) (by omega)))).trans ?_
  refine (seq_go (set_go (op_go (lst_go rfl) (op_go rfl rfl (mod_l (by decide))) em))).trans ?_
  refine (seq_go (own_go rfl)).trans ?_
  refine (seq_go (set_go rfl)).trans ?_
  refine (seq_go (for_go (xs := (List.range (manyOf c)).map fun (j : Nat) => D.int ((0 : Int) + (j : Int))) ?_ e)).trans ?_
  · rw [i_rng1, ac rfl rfl, bind_ok, rng_1 (by omega), Int.toNat_natCast]
    rfl
  · exact ret_go (tup_go (ac rfl (ac (call_go (ac rfl rfl) tup_l) rfl)))
theorem ne_it : decide (Str.ofString "index" = Str.ofString "table") = false := by decide +kernel
theorem ne_dt : decide (Str.ofString "drop" = Str.ofString "table") = false := by decide +kernel
theorem ne_di : decide (Str.ofString "drop" = Str.ofString "index") = false := by decide +kernel
theorem ne_pt : decide (Str.ofString "put" = Str.ofString "table") = false := by decide +kernel
theorem ne_pi : decide (Str.ofString "put" = Str.ofString "index") = false := by decide +kernel
theorem key_t (n : Str) (x : D) : F_key_of [.tup [.str "table", .tup [.str n, x]]] = .ok (tupK [.inr "table", .inr n]) := by
  rw [E_key_of, M_key_of]
  exact fin_of (seq_of ((if_yes (bl_go (op_go (op_go rfl rfl ix_t0) rfl (by rw [eq_ss, decide_eq_true rfl])))).trans (ret_go (tup_go (ac rfl (ac (op_go (op_go rfl rfl ix_t1) rfl ix_t0) rfl))))))
theorem key_i (n c : Str) : F_key_of [.tup [.str "index", .str n, .str c]] = .ok (tupK [.inr "index", .inr n, .inr c]) := by
  rw [E_key_of, M_key_of]
  exact fin_of ((skip (bl_go (op_go (op_go rfl rfl ix_t0) rfl (by rw [eq_ss, ne_it])))).trans (seq_of ((if_yes (bl_go (op_go (op_go rfl rfl ix_t0) rfl (by rw [eq_ss, decide_eq_true rfl])))).trans (ret_go rfl))))
theorem key_d (n : Str) (i : Int) : F_key_of [.tup [.str "drop", .str n, .int i]] = .ok (tupK [.inr "row", .inr n, .inl i]) := by
  rw [E_key_of, M_key_of]
  exact fin_of ((skip (bl_go (op_go (op_go rfl rfl ix_t0) rfl (by rw [eq_ss, ne_dt])))).trans ((skip (bl_go (op_go (op_go rfl rfl ix_t0) rfl (by rw [eq_ss, ne_di])))).trans (ret_go (tup_go (ac rfl (ac (op_go rfl rfl ix_t1) (ac (op_go rfl rfl ix_t2) rfl)))))))
theorem key_p (n : Str) (i : Int) (x : D) : F_key_of [.tup [.str "put", .str n, .int i, x]] = .ok (tupK [.inr "row", .inr n, .inl i]) := by
  rw [E_key_of, M_key_of]
  exact fin_of ((skip (bl_go (op_go (op_go rfl rfl ix_t0) rfl (by rw [eq_ss, ne_pt])))).trans ((skip (bl_go (op_go (op_go rfl rfl ix_t0) rfl (by rw [eq_ss, ne_pi])))).trans (ret_go (tup_go (ac rfl (ac (op_go rfl rfl ix_t1) (ac (op_go rfl rfl ix_t2) rfl)))))))
structure Cg (p : D × List Key) : Prop where
  chg : Chg p
  py : Py 5 p.1
  ok : ∀ x ∈ p.2, keyOk x
theorem lo_table : Lo (Str.ofString "table") := by unfold Lo; decide +kernel
theorem lo_index : Lo (Str.ofString "index") := by unfold Lo; decide +kernel
theorem lo_row : Lo (Str.ofString "row") := by unfold Lo; decide +kernel
theorem lo_drop : Lo (Str.ofString "drop") := by unfold Lo; decide +kernel
theorem lo_put : Lo (Str.ofString "put") := by unfold Lo; decide +kernel
theorem Col.py {d : D} (h : Col d) : Py 1 d := by
  obtain ⟨c, k, rfl, hc, hk⟩ := h
  refine Py.tup fun d hd => ?_
  simp only [List.mem_cons, List.not_mem_nil, or_false] at hd
  rcases hd with rfl | rfl
  · exact Py.str hc.ok
  · exact Py.str hk.ok
theorem cg_t {n : Str} (hn : Lo n) {cs : List D} (h : ∀ d ∈ cs, Col d) : Cg (.tup [.str "table", .tup [.str n, .tup cs]], [.inr "table", .inr n]) := by
  refine ⟨⟨key_t n _, key_t n _⟩, ?_, fun x hx => ?_⟩
  · refine (Py.tup (k := 3) fun d hd => ?_).mono (by decide)
    simp only [List.mem_cons, List.not_mem_nil, or_false] at hd
    rcases hd with rfl | rfl
    · exact (Py.str lo_table.ok).mono (by decide)
    · refine Py.tup (k := 2) fun d hd => ?_
      simp only [List.mem_cons, List.not_mem_nil, or_false] at hd
      rcases hd with rfl | rfl
      · exact (Py.str hn.ok).mono (by decide)
      · exact Py.tup fun d hd => (h d hd).py
  · simp only [List.mem_cons, List.not_mem_nil, or_false] at hx
    rcases hx with rfl | rfl
    · exact lo_table.ok
    · exact hn.ok
theorem cg_i {n c : Str} (hn : Lo n) (hc : Lo c) : Cg (.tup [.str "index", .str n, .str c], [.inr "index", .inr n, .inr c]) := by
  refine ⟨⟨key_i n c, key_i n c⟩, ?_, fun x hx => ?_⟩
  · refine (Py.tup (k := 0) fun d hd => ?_).mono (by decide)
    simp only [List.mem_cons, List.not_mem_nil, or_false] at hd
    rcases hd with rfl | rfl | rfl
    · exact Py.str lo_index.ok
    · exact Py.str hn.ok
    · exact Py.str hc.ok
  · simp only [List.mem_cons, List.not_mem_nil, or_false] at hx
    rcases hx with rfl | rfl | rfl
    · exact lo_index.ok
    · exact hn.ok
    · exact hc.ok
theorem ok_row {n : Str} (hn : Lo n) (i : Int) : ∀ x ∈ [Sum.inr (Str.ofString "row"), Sum.inr n, Sum.inl i], keyOk x := fun x hx => by
  simp only [List.mem_cons, List.not_mem_nil, or_false] at hx
  rcases hx with rfl | rfl | rfl
  · exact lo_row.ok
  · exact hn.ok
  · exact trivial
theorem cg_d {n : Str} (hn : Lo n) (i : Int) : Cg (.tup [.str "drop", .str n, .int i], [.inr "row", .inr n, .inl i]) := by
  refine ⟨⟨key_d n i, key_d n i⟩, ?_, ok_row hn i⟩
  refine (Py.tup (k := 0) fun d hd => ?_).mono (by decide)
  simp only [List.mem_cons, List.not_mem_nil, or_false] at hd
  rcases hd with rfl | rfl | rfl
  · exact Py.str lo_drop.ok
  · exact Py.str hn.ok
  · exact Py.int i
theorem cg_p {n : Str} (hn : Lo n) (i m : Int) : Cg (.tup [.str "put", .str n, .int i, .tup [.int m, .non]], [.inr "row", .inr n, .inl i]) := by
  refine ⟨⟨key_p n i _, key_p n i _⟩, ?_, ok_row hn i⟩
  refine (Py.tup (k := 1) fun d hd => ?_).mono (by decide)
  simp only [List.mem_cons, List.not_mem_nil, or_false] at hd
  rcases hd with rfl | rfl | rfl | rfl
  · exact (Py.str lo_put.ok).mono (by decide)
  · exact (Py.str hn.ok).mono (by decide)
  · exact (Py.int i).mono (by decide)
  · refine Py.tup (k := 0) fun d hd => ?_
    simp only [List.mem_cons, List.not_mem_nil, or_false] at hd
    rcases hd with rfl | rfl
    · exact Py.int m
    · exact Py.non
theorem two_at (a b : Str) (P : Str → Prop) (ha : P a) (hb : P b) (i : Int) : ∃ n : Str, P n ∧ ixD (.lst [.str a, .str b]) (.int (i % 2)) = .ok (.str n) := by
  have h0 : 0 ≤ i % 2 := Int.emod_nonneg _ (by decide)
  have h1 : i % 2 < 2 := Int.emod_lt_of_pos _ (by decide)
  generalize i % 2 = j at h0 h1
  rcases (by omega : j = 0 ∨ j = 1) with rfl | rfl
  · exact ⟨_, ha, ix_l0⟩
  · exact ⟨_, hb, ix_l1⟩
theorem col_at {cs : List D} (h : ∀ d ∈ cs, Col d) (hl : cs.length = 4) (i : Int) : ∃ c : Str, Lo c ∧ ∃ d, ixD (.tup cs) (.int (i % 4)) = .ok d ∧ ixD d (.int 0) = .ok (.str c) := by
  have h0 : 0 ≤ i % 4 := Int.emod_nonneg _ (by decide)
  have h1 : i % 4 < 4 := Int.emod_lt_of_pos _ (by decide)
  have hk : (i % 4).toNat < cs.length := by omega
  have e := atI_nat (xs := cs) (j := (i % 4).toNat) (List.getElem?_eq_getElem hk)
  rw [show (((i % 4).toNat : Nat) : Int) = i % 4 by omega] at e
  obtain ⟨c, k, ed, hc, _⟩ := h _ (List.getElem_mem hk)
  rw [ed] at e
  exact ⟨c, hc, _, ix_t e, ix_t0⟩
theorem change_by (a b : Str) (ha : Nm a) (hb : Nm b) (c : Int) : ∃ p, F_l_change_by [.lst [.str a, .str b], .int c] = .ok p.1 ∧ Cg p := by
  obtain ⟨n, hn, en⟩ := two_at a b Nm ha hb (c / 5)
  obtain ⟨m, e4⟩ : ∃ m : Int, sIf (qBl (vOp eqD (vOp modD (vOp divD (vVar 1) (vC (.int 90))) (vC (.int 4))) (vC (.int 1)))) (sSet 4 (vOp addD (vC (.int 1)) (vOp modD (vOp divD (vVar 1) (vC (.int 360))) (vOp powD (vC (.int 10)) (vC (.int 9)))))) sNext [some (.lst [.str a, .str b]), some (.int c), some (.str n), some (.int (c % 5)), some (.int (1 + c / 10 % 9))] = .ok (.nx [some (.lst [.str a, .str b]), some (.int c), some (.str n), some (.int (c % 5)), some (.int m)]) := by
    have hq : qBl (vOp eqD (vOp modD (vOp divD (vVar 1) (vC (.int 90))) (vC (.int 4))) (vC (.int 1))) [some (.lst [.str a, .str b]), some (.int c), some (.str n), some (.int (c % 5)), some (.int (1 + c / 10 % 9))] = .ok (decide (c / 90 % 4 = 1)) := bl_go (op_go (op_go (op_go rfl rfl (div_l (by decide))) rfl (mod_l (by decide))) rfl eq_ii)
    by_cases h : c / 90 % 4 = 1
    · exact ⟨_, (if_yes (hq.trans (by rw [decide_eq_true h]))).trans (set_go (op_go rfl (op_go (op_go rfl rfl (div_l (by decide))) (op_go rfl rfl (pow_l (by decide))) (mod_l (by decide))) add_i))⟩
    · exact ⟨_, (if_no (hq.trans (by rw [decide_eq_false h]))).trans rfl⟩
  have hq : ∀ k : Int, qBl (vOp eqD (vVar 3) (vC (.int k))) [some (.lst [.str a, .str b]), some (.int c), some (.str n), some (.int (c % 5)), some (.int m)] = .ok (decide (c % 5 = k)) := fun k => bl_go (op_go rfl rfl eq_ii)
  have start : ∀ p : D, _ → F_l_change_by [.lst [.str a, .str b], .int c] = .ok p := fun p h => by
    rw [E_l_change_by, M_l_change_by]
    refine fin_of ?_
    refine (seq_go (set_go (op_go rfl (op_go (op_go rfl rfl (div_l (by decide))) rfl (mod_l (by decide))) en))).trans ?_
    refine (seq_go (set_go (op_go rfl rfl (mod_l (by decide))))).trans ?_
    refine (seq_go (set_go (op_go rfl (op_go (op_go rfl rfl (div_l (by decide))) rfl (mod_l (by decide))) add_i))).trans ?_
    refine (seq_go e4).trans ?_
    exact h
  by_cases h0 : c % 5 = 0
  · obtain ⟨cs, ec, hc, _⟩ := shape_by (.str n) (c / 10)
    refine ⟨_, start _ ?_, cg_t hn.lo hc⟩
    exact seq_of ((if_yes ((hq 0).trans (by rw [decide_eq_true h0]))).trans (ret_go (tup_go (ac rfl (ac ((call_go (ac rfl (ac (op_go rfl rfl (div_l (by decide))) rfl)) rfl).trans ec) rfl)))))
  by_cases h1 : c % 5 = 1
  · obtain ⟨cs, ec, hc, hl⟩ := shape_by (.str n) 3
    obtain ⟨col, hcol, d, e1, e2⟩ := col_at hc (hl.trans (by decide)) (c / 10)
    refine ⟨_, start _ ?_, cg_i hn.lo hcol⟩
    refine (skip ((hq 0).trans (by rw [decide_eq_false h0]))).trans ?_
    exact seq_of ((if_yes ((hq 1).trans (by rw [decide_eq_true h1]))).trans (ret_go (tup_go (ac rfl (ac rfl (ac (op_go (op_go (op_go ((call_go (ac rfl (ac rfl rfl)) rfl).trans ec) rfl ix_t1) (op_go (op_go rfl rfl (div_l (by decide))) rfl (mod_l (by decide))) e1) rfl e2) rfl))))))
  by_cases h2 : c % 5 = 2
  · refine ⟨_, start _ ?_, cg_d hn.lo m⟩
    refine (skip ((hq 0).trans (by rw [decide_eq_false h0]))).trans ((skip ((hq 1).trans (by rw [decide_eq_false h1]))).trans ?_)
    exact seq_of ((if_yes ((hq 2).trans (by rw [decide_eq_true h2]))).trans (ret_go (tup_go (ac rfl (ac rfl (ac rfl rfl))))))
  · refine ⟨_, start _ ?_, cg_p hn.lo m (c % 7)⟩
    refine (skip ((hq 0).trans (by rw [decide_eq_false h0]))).trans ((skip ((hq 1).trans (by rw [decide_eq_false h1]))).trans ((skip ((hq 2).trans (by rw [decide_eq_false h2]))).trans ?_))
    exact ret_go (tup_go (ac rfl (ac rfl (ac rfl (ac (tup_go (ac (op_go rfl rfl (mod_l (by decide))) (ac rfl rfl))) rfl)))))
theorem or_no {τ υ : FT} {δ : Sd} (h1 : τ δ = .ok false) (h2 : υ δ = .ok false) : qOr τ υ δ = .ok false := by rw [q_or, h1, bind_ok, qor_k, if_neg Bool.false_ne_true, h2]
theorem not_yes {τ : FT} {δ : Sd} (h : τ δ = .ok true) : qNot τ δ = .ok false := by rw [q_not, h]; rfl
theorem tru_go {φ : FE} {δ : Sd} {b : Bool} (h : φ δ = .ok (.bl b)) : qTru φ δ = .ok b := by rw [q_tru, h]; rfl
theorem cut_a (xs : List D) (n : Nat) (h : n ≤ xs.length) : cutD xs none (some (n : Int)) = xs.take n := by
  unfold cutD
  have e2 : HT.sIx xs.length xs.length (some (n : Int)) = n := by rw [HT.sIx_nat]; omega
  rw [e2]
  show (xs.drop 0).take (n - 0) = _
  rw [List.drop_zero, Nat.sub_zero]
theorem cut_m (xs : List D) (a b : Nat) (h1 : a ≤ b) (h2 : b ≤ xs.length) : cutD xs (some (a : Int)) (some (b : Int)) = (xs.drop a).take (b - a) := by
  unfold cutD
  have e1 : HT.sIx xs.length 0 (some (a : Int)) = a := by rw [HT.sIx_nat]; omega
  have e2 : HT.sIx xs.length xs.length (some (b : Int)) = b := by rw [HT.sIx_nat]; omega
  rw [e1, e2]
theorem cut_z (xs : List D) (a : Nat) (h1 : a ≤ xs.length) : cutD xs (some (a : Int)) none = xs.drop a := by
  unfold cutD
  have e1 : HT.sIx xs.length 0 (some (a : Int)) = a := by rw [HT.sIx_nat]; omega
  rw [e1]
  show (xs.drop a).take (xs.length - a) = _
  rw [← List.length_drop, List.take_length]
theorem sll_go {φ : FE} {l u : Sd → R (Option Int)} {δ : Sd} {xs : List D} {lo hi : Option Int} (h : φ δ = .ok (.lst xs)) (h1 : l δ = .ok lo) (h2 : u δ = .ok hi) : vSl slD φ l u δ = .ok (.lst (cutD xs lo hi)) := by
  rw [v_sl, h, bind_ok, sl0_k, h1, bind_ok, sl1_k, h2, bind_ok, sl2_k, sl_l]
theorem filtK {τ : FT} {rest : Sd} (g : List Key → Bool) (ks : List (List Key)) (h : ∀ k ∈ ks, τ (some (tupK k) :: rest) = .ok (g k)) (hl : ks.length ≤ 1000) : compOf (.one 0) τ (vVar 0) (none :: rest) (ks.map tupK) = .ok (.lst ((ks.filter g).map tupK)) := by
  refine comp_of rfl (by rw [List.length_map]; omega) ?_
  clear hl
  induction ks with
  | nil => rfl
  | cons x r ih =>
    have h1 := h x (by simp)
    have h2 := ih fun y hy => h y (List.mem_cons_of_mem _ hy)
    show (τ (some (tupK x) :: rest)).bind _ = _
    rw [h1, bind_ok]
    cases e : g x with
    | true =>
      rw [if_pos rfl, h2, List.filter_cons, e]
      rfl
    | false =>
      rw [if_neg Bool.false_ne_true, h2, List.filter_cons, e]
      rfl
noncomputable abbrev fs (ps : List (D × List Key)) : D := .lst (ps.map (·.1))
noncomputable abbrev kl (ps : List (D × List Key)) : D := .lst ((dedup (ps.map (·.2))).map tupK)
noncomputable abbrev tS : FS := (sSeq (sSet 8 (vCall F_l_due (aCons (vVar 6) aNil))) (sSeq (sOwn 9 (vCall F_keys_of (aCons (vCall lstD (aCons (vVar 6) aNil)) aNil))) (sSeq (sIf (qOr (qNot (qTru (vCall isiD (aCons (vVar 9) (aCons (vC (.ty "list")) aNil))))) (qOr (qBl (vOp neD (vComp [none] (iAny (vVar 9)) (.one 0) qYes (vCall isiD (aCons (vVar 0) (aCons (vC (.ty "tuple")) aNil)))) (vRepE (aCons (vC (.bl true)) aNil) (vCall lenD (aCons (vVar 9) aNil))))) (qBl (vOp neD (vVar 9) (vVar 8))))) (sRet (vC (.bl false))) sNext) (sSeq (sSet 10 (vComp [none, some 8] (iAny (vCall F_l_due (aCons (vOp addD (vOp ixD (vVar 7) (vC (.int 0))) (vOp ixD (vVar 7) (vC (.int 2)))) aNil))) (.one 0) (qBl (vOp inPD (vVar 0) (vVar 1))) (vVar 0))) (sSeq (sSet 11 (vCall F_meets (aCons (vCall lstD (aCons (vVar 6) aNil)) (aCons (vComp [none] (iAny (vVar 7)) (.one 0) qYes (vCall lstD (aCons (vVar 0) aNil))) aNil)))) (sSeq (sIf (qOr (qNot (qTru (vCall isiD (aCons (vVar 11) (aCons (vC (.ty "bool")) aNil))))) (qBl (vOp neD (vVar 11) (vOp neD (vVar 10) (vLst aNil))))) (sRet (vC (.bl false))) sNext) (sSeq (sIf (qOr (qBl (vOp isNotD (vCall F_meets (aCons (vCall lstD (aCons (vVar 6) aNil)) (aCons (vLst aNil) aNil))) (vC (.bl false)))) (qBl (vOp neD (vCall F_meets (aCons (vCall lstD (aCons (vVar 2) aNil)) (aCons (vLst (aCons (vCall lstD (aCons (vVar 2) aNil)) aNil)) aNil))) (vOp neD (vVar 2) (vLst aNil))))) (sRet (vC (.bl false))) sNext) (sSeq (sAppend 9 (vC (.str "zz"))) (sSeq (sIf (qOr (qBl (vOp neD (vCall F_keys_of (aCons (vCall lstD (aCons (vVar 2) aNil)) aNil)) (vCall F_l_due (aCons (vVar 2) aNil)))) (qBl (vOp neD (vVar 9) (vOp addD (vVar 8) (vLst (aCons (vC (.str "zz")) aNil)))))) (sRet (vC (.bl false))) sNext) (sSeq (sIf (qOr (qBl (vOp neD (vCall F_keys_of (aCons (vCall lstD (aCons (vVar 6) aNil)) aNil)) (vVar 8))) (qBl (vOp neD (vVar 9) (vOp addD (vVar 8) (vLst (aCons (vC (.str "zz")) aNil)))))) (sRet (vC (.bl false))) sNext) (sRet (vOp eqD (vCall F_meets (aCons (vCall lstD (aCons (vVar 6) aNil)) (aCons (vComp [none] (iAny (vVar 7)) (.one 0) qYes (vCall lstD (aCons (vVar 0) aNil))) aNil))) (vVar 11)))))))))))))
theorem zz_ok : PyData.strOk (Str.ofString "zz") = true := by decide +kernel
theorem tail_ok (S : D) (x1 x3 x4 x5 : Option D) (ps A M Z : List (D × List Key)) (hp : ∀ p ∈ ps, Cg p) (hA : ∀ p ∈ A, Cg p) (hM : ∀ p ∈ M, Cg p) (hZ : ∀ p ∈ Z, Cg p) (lp : ps.length ≤ 250) (lA : A.length ≤ 250) (lM : M.length ≤ 250) (lZ : Z.length ≤ 250) : tS [some S, x1, some (fs ps), x3, x4, x5, some (fs A), some (.lst [fs M, .lst [], fs Z]), none, none, none, none] = .ok (.rt (.bl true)) := by
  have cA : ∀ p ∈ A, Chg p := fun p h => (hA p h).chg
  have cP : ∀ p ∈ ps, Chg p := fun p h => (hp p h).chg
  have oA : Ok (A.map (·.2)) := fun x hx => by obtain ⟨p, h, rfl⟩ := List.mem_map.mp hx; exact (hA p h).ok
  have oP : Ok (ps.map (·.2)) := fun x hx => by obtain ⟨p, h, rfl⟩ := List.mem_map.mp hx; exact (hp p h).ok
  have oMZ : Ok ((M ++ Z).map (·.2)) := fun x hx => by
    obtain ⟨p, h, rfl⟩ := List.mem_map.mp hx
    exact ((List.mem_append.mp h).elim (hM p) (hZ p)).ok
  have odA : Ok (dedup (A.map (·.2))) := fun x hx => oA x ((mem_dedup _ _).mp hx)
  have odP : Ok (dedup (ps.map (·.2))) := fun x hx => oP x ((mem_dedup _ _).mp hx)
  have odMZ : Ok (dedup ((M ++ Z).map (·.2))) := fun x hx => oMZ x ((mem_dedup _ _).mp hx)
  have ldA := len_dedup (A.map (·.2))
  have ldMZ := len_dedup ((M ++ Z).map (·.2))
  rw [List.length_map] at ldA ldMZ
  rw [List.length_append] at ldMZ
  have dueA := l_due A cA oA (by omega)
  have keyA := keys_of A cA (by omega)
  have dueP := l_due ps cP oP (by omega)
  have keyP := keys_of ps cP (by omega)
  have dueMZ := l_due (M ++ Z) (fun p h => ((List.mem_append.mp h).elim (hM p) (hZ p)).chg) oMZ (by rw [List.length_append]; omega)
  have hr : ∀ r ∈ [M, [], Z], ∀ p ∈ r, Chg p := fun r hr p h => by
    simp only [List.mem_cons, List.not_mem_nil, or_false] at hr
    rcases hr with rfl | rfl | rfl
    · exact (hM p h).chg
    · cases h
    · exact (hZ p h).chg
  obtain ⟨b, em, hb⟩ := meets A [M, [], Z] cA hr (by omega) (by simp [tot]; omega)
  obtain ⟨b0, em0, hb0⟩ := meets A [] cA (fun r hr => nomatch hr) (by omega) (by simp [tot])
  obtain ⟨b1, em1, hb1⟩ := meets ps [ps] cP (fun r hr p h => by rw [List.mem_singleton.mp hr] at h; exact cP p h) (by omega) (by simp [tot]; omega)
  have eb0 : b0 = false := by
    cases b0 with
    | false => rfl
    | true => obtain ⟨k, _, r, hr, _⟩ := hb0.mp rfl; cases hr
  subst eb0
  have eb1 : b1 = decide (0 < (ps.map (·.1)).length) := by
    rw [Bool.eq_iff_iff, hb1, decide_eq_true_eq, List.length_map]
    unfold Meet
    constructor
    · rintro ⟨k, hk, _⟩
      rw [← List.length_map (·.2)]
      exact List.length_pos_of_mem hk
    · intro h
      cases ps with
      | nil => simp at h
      | cons p r => exact ⟨p.2, by simp, p :: r, by simp, by simp⟩
  have eb : b = decide (0 < (((dedup ((M ++ Z).map (·.2))).filter fun k => decide (k ∈ dedup (A.map (·.2)))).map tupK).length) := by
    rw [Bool.eq_iff_iff, hb, decide_eq_true_eq, List.length_map]
    unfold Meet
    constructor
    · rintro ⟨k, hk, r, hr, hkr⟩
      refine List.length_pos_of_mem (a := k) (List.mem_filter.mpr ⟨(mem_dedup _ _).mpr ?_, decide_eq_true ((mem_dedup _ _).mpr hk)⟩)
      rw [List.map_append]
      simp only [List.mem_cons, List.not_mem_nil, or_false] at hr
      rcases hr with rfl | rfl | rfl
      · exact List.mem_append_left _ hkr
      · cases hkr
      · exact List.mem_append_right _ hkr
    · intro h
      obtain ⟨k, hk⟩ := List.exists_mem_of_length_pos h
      obtain ⟨h1, h2⟩ := List.mem_filter.mp hk
      have h1 := (mem_dedup _ _).mp h1
      have h2 := (mem_dedup _ _).mp (of_decide_eq_true h2)
      rw [List.map_append] at h1
      rcases List.mem_append.mp h1 with z | z
      · exact ⟨k, h2, M, by simp, z⟩
      · exact ⟨k, h2, Z, by simp, z⟩
  generalize hC : (dedup ((M ++ Z).map (·.2))).filter (fun k => decide (k ∈ dedup (A.map (·.2)))) = C at eb
  have oC : Ok C := fun x hx => by rw [← hC] at hx; exact odMZ x (List.mem_filter.mp hx).1
  unfold tS
  refine (seq_go (set_go (d := kl A) ((call_go (ac rfl rfl) rfl).trans dueA))).trans ?_
  refine (seq_go (own_go (d := kl A) ((call_go (ac ((call_go (ac rfl rfl) rfl).trans lst_l) rfl) rfl).trans keyA))).trans ?_
  have n11 : vOp neD (vComp [none] (iAny (vVar 9)) (.one 0) qYes (vCall isiD (aCons (vVar 0) (aCons (vC (.ty "tuple")) aNil)))) (vRepE (aCons (vC (.bl true)) aNil) (vCall lenD (aCons (vVar 9) aNil))) [some S, x1, some (fs ps), x3, x4, x5, some (fs A), some (.lst [fs M, .lst [], fs Z]), some (kl A), some (kl A), none, none] = .ok (.bl false) := by
    have e1 : vComp [none] (iAny (vVar 9)) (.one 0) qYes (vCall isiD (aCons (vVar 0) (aCons (vC (.ty "tuple")) aNil))) [some S, x1, some (fs ps), x3, x4, x5, some (fs A), some (.lst [fs M, .lst [], fs Z]), some (kl A), some (kl A), none, none] = .ok (.lst (List.replicate (dedup (A.map (·.2))).length (.bl true))) := by
      have : compOf (.one 0) qYes (vCall isiD (aCons (vVar 0) (aCons (vC (.ty "tuple")) aNil))) (captD [none] [some S, x1, some (fs ps), x3, x4, x5, some (fs A), some (.lst [fs M, .lst [], fs Z]), some (kl A), some (kl A), none, none]) ((dedup (A.map (·.2))).map tupK) = .ok (.lst ((dedup (A.map (·.2))).map fun _ => D.bl true)) := compOf_map tupK _ rfl (by omega) fun k hk => rfl
      rw [v_comp]
      refine this.trans ?_
      rw [List.map_const']
    have e2 : vRepE (aCons (vC (.bl true)) aNil) (vCall lenD (aCons (vVar 9) aNil)) [some S, x1, some (fs ps), x3, x4, x5, some (fs A), some (.lst [fs M, .lst [], fs Z]), some (kl A), some (kl A), none, none] = .ok (.lst (List.replicate (dedup (A.map (·.2))).length (.bl true))) := by
      unfold vRepE
      rw [ac rfl rfl, bind_ok, if_pos (by decide), call_go (ac rfl rfl) len_l, bind_ok]
      unfold repE
      dsimp only
      rw [List.length_map, Int.toNat_natCast, if_pos ⟨by omega, by omega, by simp; omega⟩]
      congr 2
      generalize (dedup (A.map (·.2))).length = n
      induction n with
      | zero => rfl
      | succ n ih => rw [List.replicate_succ, List.flatten_cons, ih, List.replicate_succ]; rfl
    refine op_go e1 e2 (ne_self (k := 0) (fun d hd => ?_) (by decide))
    rw [List.eq_of_mem_replicate hd]
    exact Py.bl true
  have nA : neD (kl A) (kl A) = .ok (.bl false) := ne_self (keys_py odA) (by decide)
  refine (skip (or_no (not_yes (tru_go (b := true) ((call_go (ac rfl (ac rfl rfl)) rfl).trans rfl))) (or_no (bl_go n11) (bl_go (op_go rfl rfl nA))))).trans ?_
  have ec : vComp [none, some 8] (iAny (vCall F_l_due (aCons (vOp addD (vOp ixD (vVar 7) (vC (.int 0))) (vOp ixD (vVar 7) (vC (.int 2)))) aNil))) (.one 0) (qBl (vOp inPD (vVar 0) (vVar 1))) (vVar 0) [some S, x1, some (fs ps), x3, x4, x5, some (fs A), some (.lst [fs M, .lst [], fs Z]), some (kl A), some (kl A), none, none] = .ok (.lst (C.map tupK)) := by
    have ea : addD (fs M) (fs Z) = .ok (fs (M ++ Z)) := by
      rw [add_l, List.length_map, List.length_map, if_pos (by omega), ← List.map_append]
    rw [v_comp, i_any, call_go (ac (op_go (op_go rfl rfl ix_l0) (op_go rfl rfl ix_l2) ea) rfl) dueMZ, bind_ok, items_l, bind_ok, ← hC]
    refine filtK (rest := [some (kl A)]) (fun k => decide (k ∈ dedup (A.map (·.2)))) (dedup ((M ++ Z).map (·.2))) (fun k hk => ?_) (by omega)
    refine bl_go (op_go (a := tupK k) (b := kl A) rfl rfl ?_)
    unfold inPD
    have : inPO (tupK k) (kl A) = deepIn (tupK k) ((dedup (A.map (·.2))).map tupK) := rfl
    rw [this, in_key k _ (odMZ k hk) odA]
    rfl
  refine (seq_go (set_go ec)).trans ?_
  have erest : ∀ δ : Sd, vVar 7 δ = .ok (.lst [fs M, .lst [], fs Z]) → vComp [none] (iAny (vVar 7)) (.one 0) qYes (vCall lstD (aCons (vVar 0) aNil)) δ = .ok (.lst [fs M, .lst [], fs Z]) := fun δ h => by
    rw [v_comp, i_any, h, bind_ok, items_l, bind_ok]
    have := comp_1 (k := 0) (ε := vCall lstD (aCons (vVar 0) aNil)) (δ0 := [none]) (xs := [fs M, .lst [], fs Z]) (fun d => d) rfl (by simp) (fun x hx => by
      simp only [List.mem_cons, List.not_mem_nil, or_false] at hx
      rcases hx with rfl | rfl | rfl
      · exact (call_go (ac rfl rfl) rfl).trans lst_l
      · exact (call_go (ac rfl rfl) rfl).trans lst_l
      · exact (call_go (ac rfl rfl) rfl).trans lst_l)
    rw [List.map_id'] at this
    exact this
  have emt : ∀ δ : Sd, vVar 6 δ = .ok (fs A) → vVar 7 δ = .ok (.lst [fs M, .lst [], fs Z]) → vCall F_meets (aCons (vCall lstD (aCons (vVar 6) aNil)) (aCons (vComp [none] (iAny (vVar 7)) (.one 0) qYes (vCall lstD (aCons (vVar 0) aNil))) aNil)) δ = .ok (.bl b) := fun δ h6 h7 => (call_go (ac ((call_go (ac h6 rfl) rfl).trans lst_l) (ac (erest δ h7) rfl)) rfl).trans em
  refine (seq_go (set_go (emt _ rfl rfl))).trans ?_
  have ncm : neD (.lst (C.map tupK)) (.lst []) = .ok (.bl b) := by rw [ne_nil (keys_py oC) (by decide), eb]
  refine (skip (or_no (not_yes (tru_go (b := true) ((call_go (ac rfl (ac rfl rfl)) rfl).trans rfl))) (bl_go (op_go rfl (op_go rfl rfl ncm) (by rw [eq_bl, decide_eq_false (fun z => z rfl)]))))).trans ?_
  have npp : neD (fs ps) (.lst []) = .ok (.bl b1) := by
    rw [ne_nil (k := 5) (fun d hd => by obtain ⟨p, h, rfl⟩ := List.mem_map.mp hd; exact (hp p h).py) (by decide), eb1]
  refine (skip (or_no (bl_go (op_go ((call_go (ac ((call_go (ac rfl rfl) rfl).trans lst_l) (ac (lst_go rfl) rfl)) rfl).trans em0) rfl isnot_b)) (bl_go (op_go ((call_go (ac ((call_go (ac rfl rfl) rfl).trans lst_l) (ac (lst_go (ac ((call_go (ac rfl rfl) rfl).trans lst_l) rfl)) rfl)) rfl).trans em1) (op_go rfl rfl npp) (by rw [eq_bl, decide_eq_false (fun z => z rfl)]))))).trans ?_
  refine (seq_go (app_go rfl rfl (by rw [List.length_map]; omega))).trans ?_
  have nP : neD (kl ps) (kl ps) = .ok (.bl false) := ne_self (keys_py odP) (by decide)
  have nz : neD (.lst ((dedup (A.map (·.2))).map tupK ++ [.str "zz"])) (.lst ((dedup (A.map (·.2))).map tupK ++ [.str "zz"])) = .ok (.bl false) := ne_self (k := 1) (fun d hd => by
    rcases List.mem_append.mp hd with z | z
    · exact keys_py odA d z
    · rw [List.mem_singleton.mp z]; exact (Py.str zz_ok).mono (by decide)) (by decide)
  have ez : addD (kl A) (.lst [.str "zz"]) = .ok (.lst ((dedup (A.map (·.2))).map tupK ++ [.str "zz"])) := by rw [add_l, List.length_map, if_pos (by simp; omega)]
  refine (skip (or_no (bl_go (op_go ((call_go (ac ((call_go (ac rfl rfl) rfl).trans lst_l) rfl) rfl).trans keyP) ((call_go (ac rfl rfl) rfl).trans dueP) nP)) (bl_go (op_go rfl (op_go rfl (lst_go rfl) ez) nz)))).trans ?_
  refine (skip (or_no (bl_go (op_go ((call_go (ac ((call_go (ac rfl rfl) rfl).trans lst_l) rfl) rfl).trans keyA) rfl nA)) (bl_go (op_go rfl (op_go rfl (lst_go rfl) ez) nz)))).trans ?_
  exact ret_go (op_go (emt _ rfl rfl) rfl (eq_bl' b))
theorem law_true (ns : List Int) (hns : ns.length ≤ 63) : F_law [.lst (ns.map D.int)] = .ok (.bl true) := by
  obtain ⟨a, ea, ha, ha9⟩ := name_by (cell ns 0)
  obtain ⟨b, eb, hb⟩ := twin a ha ha9 (cell ns 1)
  have hce : ∀ (i : Int) (δ : Sd), 0 ≤ i → vVar 0 δ = .ok (.lst (ns.map D.int)) → vCall F_l_cell_at (aCons (vVar 0) (aCons (vC (.int i)) aNil)) δ = .ok (.int (cell ns i)) := by
    intro i δ hi h
    rw [v_call, ac h (ac rfl rfl), bind_ok, cell_at ns i hi]
  rw [E_law, M_law]
  refine fin_of ?_
  refine (seq_go (own_go (lst_go (ac ((call_go (ac (hce 0 _ (by decide) rfl) rfl) rfl).trans ea) rfl)))).trans ?_
  refine (seq_go (app_go rfl ((call_go (ac (op_go rfl rfl ix_l0) (ac (hce 1 _ (by decide) rfl) rfl)) rfl).trans eb) (by simp))).trans ?_
  -- the changes
  have hch : ∀ c : Int, ∃ p, F_l_change_by [.lst [.str a, .str b], .int c] = .ok p.1 ∧ Cg p := change_by a b ha hb
  have ecut : cutD (ns.map D.int) (some 2) (some 62) = ((ns.drop (HT.sIx ns.length 0 (some 2))).take (HT.sIx ns.length ns.length (some 62) - HT.sIx ns.length 0 (some 2))).map D.int := by
    unfold cutD
    rw [List.length_map, ← List.map_drop, ← List.map_take]
  have hml : ((ns.drop (HT.sIx ns.length 0 (some 2))).take (HT.sIx ns.length ns.length (some 62) - HT.sIx ns.length 0 (some 2))).length ≤ 63 := by
    rw [List.length_take, List.length_drop]; omega
  generalize (ns.drop (HT.sIx ns.length 0 (some 2))).take (HT.sIx ns.length ns.length (some 62) - HT.sIx ns.length 0 (some 2)) = ms at ecut hml
  have e3 : vComp [none, some 1] (iAny (vSl slD (vVar 0) (oSome (vC (.int 2))) (oSome (vC (.int 62))))) (.one 0) qYes (vCall F_l_change_by (aCons (vVar 1) (aCons (vVar 0) aNil))) [some (.lst (ns.map D.int)), some (.lst [.str a, .str b]), none, none, none, none, none, none, none, none, none, none] = .ok (fs (ms.map fun c => Classical.choose (hch c))) := by
    rw [v_comp, i_any, sll_go rfl (some_go rfl) (some_go rfl), bind_ok, items_l, bind_ok, ecut]
    unfold fs
    rw [List.map_map]
    exact compOf_map D.int (fun c => (Classical.choose (hch c)).1) rfl (by omega) fun c hc => (call_go (ac rfl (ac rfl rfl)) rfl).trans (Classical.choose_spec (hch c)).1
  refine (seq_go (set_go e3)).trans ?_
  have hps0 : ∀ p ∈ ms.map fun c => Classical.choose (hch c), Cg p := fun p hp => by
    obtain ⟨c, _, rfl⟩ := List.mem_map.mp hp
    exact (Classical.choose_spec (hch c)).2
  have hpl0 : (ms.map fun c => Classical.choose (hch c)).length ≤ 63 := by rw [List.length_map]; exact hml
  generalize (ms.map fun c => Classical.choose (hch c)) = ps0 at hps0 hpl0
  obtain ⟨ps, x3, hps, hpl, e4⟩ : ∃ (ps : List (D × List Key)) (x3 : Option D), (∀ p ∈ ps, Cg p) ∧ ps.length ≤ 200 ∧ sIf (qBl (vOp eqD (vOp modD (vOp divD (vCall F_l_cell_at (aCons (vVar 0) (aCons (vC (.int 0)) aNil))) (vC (.int 64))) (vC (.int 8))) (vC (.int 1)))) (sSeq (sSet 3 (vOp addD (vC (.int 80)) (vOp modD (vOp divD (vCall F_l_cell_at (aCons (vVar 0) (aCons (vC (.int 1)) aNil))) (vC (.int 64))) (vC (.int 40))))) (sSet 2 (vOp addD (vComp [none, some 1] (iRng1D (aCons (vVar 3) aNil)) (.one 0) qYes (vTup (aCons (vC (.str "put")) (aCons (vOp ixD (vVar 1) (vC (.int 0))) (aCons (vOp addD (vC (.int 1)) (vVar 0)) (aCons (vTup (aCons (vC (.int 1)) (aCons (vC .non) aNil))) aNil)))))) (vVar 2)))) sNext [some (.lst (ns.map D.int)), some (.lst [.str a, .str b]), some (fs ps0), none, none, none, none, none, none, none, none, none] = .ok (.nx [some (.lst (ns.map D.int)), some (.lst [.str a, .str b]), some (fs ps), x3, none, none, none, none, none, none, none, none]) := by
    have hq : qBl (vOp eqD (vOp modD (vOp divD (vCall F_l_cell_at (aCons (vVar 0) (aCons (vC (.int 0)) aNil))) (vC (.int 64))) (vC (.int 8))) (vC (.int 1))) [some (.lst (ns.map D.int)), some (.lst [.str a, .str b]), some (fs ps0), none, none, none, none, none, none, none, none, none] = .ok (decide (cell ns 0 / 64 % 8 = 1)) := bl_go (op_go (op_go (op_go (hce 0 _ (by decide) rfl) rfl (div_l (by decide))) rfl (mod_l (by decide))) rfl eq_ii)
    by_cases h : cell ns 0 / 64 % 8 = 1
    · have b0 : 0 ≤ cell ns 1 / 64 % 40 := Int.emod_nonneg _ (by decide)
      have b1 : cell ns 1 / 64 % 40 < 40 := Int.emod_lt_of_pos _ (by decide)
      refine ⟨((List.range (80 + cell ns 1 / 64 % 40).toNat).map fun (k : Nat) => ((.tup [.str "put", .str a, .int (1 + ((0 : Int) + (k : Int))), .tup [.int 1, .non]], [.inr "row", .inr a, .inl (1 + ((0 : Int) + (k : Int)))]) : D × List Key)) ++ ps0, _, fun p hp => ?_, by rw [List.length_append, List.length_map, List.length_range]; omega, (if_yes (hq.trans (by rw [decide_eq_true h]))).trans ((seq_go (set_go (op_go rfl (op_go (op_go (hce 1 _ (by decide) rfl) rfl (div_l (by decide))) rfl (mod_l (by decide))) add_i))).trans (set_go (op_go (a := .lst ((List.range (80 + cell ns 1 / 64 % 40).toNat).map fun (k : Nat) => D.tup [.str "put", .str a, .int (1 + ((0 : Int) + (k : Int))), .tup [.int 1, .non]])) ?_ rfl ?_)))⟩
      · rcases List.mem_append.mp hp with z | z
        · obtain ⟨k, _, rfl⟩ := List.mem_map.mp z
          exact cg_p ha.lo _ _
        · exact hps0 p z
      · rw [v_comp, i_rng1, ac rfl rfl, bind_ok, rng_1 (by omega), bind_ok]
        refine compOf_map (fun (k : Nat) => D.int ((0 : Int) + (k : Int))) _ rfl (by rw [List.length_range]; omega) fun k hk => ?_
        exact tup_go (ac rfl (ac (op_go rfl rfl ix_l0) (ac (op_go rfl rfl add_i) (ac (tup_go rfl) rfl))))
      · rw [add_l, List.length_map, List.length_map, List.length_range, if_pos (by omega)]
        unfold fs
        rw [List.map_append, List.map_map]
        rfl
    · exact ⟨ps0, none, hps0, by omega, (if_no (hq.trans (by rw [decide_eq_false h]))).trans rfl⟩
  refine (seq_go e4).trans ?_
  have elen : ∀ δ : Sd, vVar 2 δ = .ok (fs ps) → vCall lenD (aCons (vVar 2) aNil) δ = .ok (.int (ps.length : Int)) := fun δ h => by
    rw [call_go (ac h rfl) len_l, List.length_map]
  have l0 : 0 ≤ cell ns 0 / 8 % ((ps.length : Int) + 1) := Int.emod_nonneg _ (by omega)
  have l1 : cell ns 0 / 8 % ((ps.length : Int) + 1) < (ps.length : Int) + 1 := Int.emod_lt_of_pos _ (by omega)
  obtain ⟨lo, elo, hlo⟩ : ∃ lo : Nat, cell ns 0 / 8 % ((ps.length : Int) + 1) = (lo : Int) ∧ lo ≤ ps.length := ⟨_, (Int.toNat_of_nonneg l0).symm, by omega⟩
  refine (seq_go (set_go (d := .int (lo : Int)) (op_go (op_go (hce 0 _ (by decide) rfl) rfl (div_l (by decide))) (op_go (elen _ rfl) rfl add_i) (by rw [mod_l (by omega), elo])))).trans ?_
  have k0 : 0 ≤ cell ns 1 / 8 % ((ps.length : Int) - (lo : Int) + 1) := Int.emod_nonneg _ (by omega)
  have k1 : cell ns 1 / 8 % ((ps.length : Int) - (lo : Int) + 1) < (ps.length : Int) - (lo : Int) + 1 := Int.emod_lt_of_pos _ (by omega)
  obtain ⟨hi, ehi, hhi, hhi2⟩ : ∃ hi : Nat, (lo : Int) + cell ns 1 / 8 % ((ps.length : Int) - (lo : Int) + 1) = (hi : Int) ∧ lo ≤ hi ∧ hi ≤ ps.length := ⟨((lo : Int) + cell ns 1 / 8 % ((ps.length : Int) - (lo : Int) + 1)).toNat, by omega, by omega, by omega⟩
  refine (seq_go (set_go (d := .int (hi : Int)) (op_go rfl (op_go (op_go (hce 1 _ (by decide) rfl) rfl (div_l (by decide))) (op_go (op_go (elen _ rfl) rfl sub_i) rfl add_i) (mod_l (by omega))) (by rw [add_i, ehi])))).trans ?_
  have hl' : (ps.map (·.1)).length = ps.length := List.length_map _
  refine (seq_go (set_go (d := fs (ps.take lo)) ((sll_go rfl rfl (some_go rfl)).trans (by rw [cut_a _ _ (by omega), ← List.map_take])))).trans ?_
  refine (seq_go (set_go (d := .lst [fs ((ps.drop lo).take (hi - lo)), .lst [], fs (ps.drop hi)]) (lst_go (ac ((sll_go rfl (some_go rfl) (some_go rfl)).trans (by rw [cut_m _ _ _ hhi (by omega), ← List.map_drop, ← List.map_take])) (ac (lst_go rfl) (ac ((sll_go rfl (some_go rfl) rfl).trans (by rw [cut_z _ _ (by omega), ← List.map_drop])) rfl)))))).trans ?_
  exact tail_ok _ _ _ _ _ ps (ps.take lo) ((ps.drop lo).take (hi - lo)) (ps.drop hi) hps (fun p h => hps p (List.mem_of_mem_take h)) (fun p h => hps p (List.mem_of_mem_drop (List.mem_of_mem_take h))) (fun p h => hps p (List.mem_of_mem_drop h)) (by omega) (by rw [List.length_take]; omega) (by rw [List.length_take, List.length_drop]; omega) (by rw [List.length_drop]; omega)
theorem all_mk {l : PySem.W.OpenLaw} {w : World} {K : PySem.W.Frag} {h : Heap} {mg : Str → Option Value} {fa : Addr} (X : K.In h) (G : h.Ns mainGlobals mg) (hfa : mg "law" = some (.ref fa))
    {f1 : Addr} {od1 an1 : Option Addr} {sl1 : Array (Option Value)} {oc1 kV1 dc1 pm1 cd1 ct1 : Value}
    {f2 : Addr} {od2 an2 : Option Addr} {sl2 : Array (Option Value)} {oc2 kV2 dc2 pm2 cd2 ct2 : Value}
    {f3 : Addr} {od3 an3 : Option Addr} {sl3 : Array (Option Value)} {oc3 kV3 dc3 pm3 cd3 ct3 : Value}
    {f4 : Addr} {od4 an4 : Option Addr} {sl4 : Array (Option Value)} {oc4 kV4 dc4 pm4 cd4 ct4 : Value}
    {f5 : Addr} {od5 an5 : Option Addr} {sl5 : Array (Option Value)} {oc5 kV5 dc5 pm5 cd5 ct5 : Value}
    {f6 : Addr} {od6 an6 : Option Addr} {sl6 : Array (Option Value)} {oc6 kV6 dc6 pm6 cd6 ct6 : Value}
    {f7 : Addr} {od7 an7 : Option Addr} {sl7 : Array (Option Value)} {oc7 kV7 dc7 pm7 cd7 ct7 : Value}
    {f8 : Addr} {od8 an8 : Option Addr} {sl8 : Array (Option Value)} {oc8 kV8 dc8 pm8 cd8 ct8 : Value}
    {f9 : Addr} {od9 an9 : Option Addr} {sl9 : Array (Option Value)} {oc9 kV9 dc9 pm9 cd9 ct9 : Value}
    {f10 : Addr} {od10 an10 : Option Addr} {sl10 : Array (Option Value)} {oc10 kV10 dc10 pm10 cd10 ct10 : Value}
    {f11 : Addr} {od11 an11 : Option Addr} {sl11 : Array (Option Value)} {oc11 kV11 dc11 pm11 cd11 ct11 : Value}
    {f12 : Addr} {od12 an12 : Option Addr} {sl12 : Array (Option Value)} {oc12 kV12 dc12 pm12 cd12 ct12 : Value}
    (a1 : PySem.W.nsIn K mainGlobals "key_of" = some (some (.ref f1))) (l1 : K.lookup f1 = some ⟨oc1, od1, .func (PySem.W.fnOf "key_of" "key_of" (defArgs s_key_of) (defBody s_key_of) (defScope s_key_of) .none kV1 dc1 pm1 an1 cd1 ct1), sl1⟩) (c1 : PySem.W.codeIn K cd1 "key_of" = true) (k1 : PySem.W.keepIn K (.ref f1) = true)
    (a2 : PySem.W.nsIn K mainGlobals "keys_of" = some (some (.ref f2))) (l2 : K.lookup f2 = some ⟨oc2, od2, .func (PySem.W.fnOf "keys_of" "keys_of" (defArgs s_keys_of) (defBody s_keys_of) (defScope s_keys_of) .none kV2 dc2 pm2 an2 cd2 ct2), sl2⟩) (c2 : PySem.W.codeIn K cd2 "keys_of" = true) (k2 : PySem.W.keepIn K (.ref f2) = true)
    (a3 : PySem.W.nsIn K mainGlobals "meets" = some (some (.ref f3))) (l3 : K.lookup f3 = some ⟨oc3, od3, .func (PySem.W.fnOf "meets" "meets" (defArgs s_meets) (defBody s_meets) (defScope s_meets) .none kV3 dc3 pm3 an3 cd3 ct3), sl3⟩) (c3 : PySem.W.codeIn K cd3 "meets" = true) (k3 : PySem.W.keepIn K (.ref f3) = true)
    (a4 : PySem.W.nsIn K mainGlobals "_law_cell_at" = some (some (.ref f4))) (l4 : K.lookup f4 = some ⟨oc4, od4, .func (PySem.W.fnOf "_law_cell_at" "_law_cell_at" (defArgs s_l_cell_at) (defBody s_l_cell_at) (defScope s_l_cell_at) .none kV4 dc4 pm4 an4 cd4 ct4), sl4⟩) (c4 : PySem.W.codeIn K cd4 "_law_cell_at" = true) (k4 : PySem.W.keepIn K (.ref f4) = true)
    (a5 : PySem.W.nsIn K mainGlobals "_law_mixed" = some (some (.ref f5))) (l5 : K.lookup f5 = some ⟨oc5, od5, .func (PySem.W.fnOf "_law_mixed" "_law_mixed" (defArgs s_l_mixed) (defBody s_l_mixed) (defScope s_l_mixed) .none kV5 dc5 pm5 an5 cd5 ct5), sl5⟩) (c5 : PySem.W.codeIn K cd5 "_law_mixed" = true) (k5 : PySem.W.keepIn K (.ref f5) = true)
    (a6 : PySem.W.nsIn K mainGlobals "_law_name_by" = some (some (.ref f6))) (l6 : K.lookup f6 = some ⟨oc6, od6, .func (PySem.W.fnOf "_law_name_by" "_law_name_by" (defArgs s_l_name_by) (defBody s_l_name_by) (defScope s_l_name_by) .none kV6 dc6 pm6 an6 cd6 ct6), sl6⟩) (c6 : PySem.W.codeIn K cd6 "_law_name_by" = true) (k6 : PySem.W.keepIn K (.ref f6) = true)
    (a7 : PySem.W.nsIn K mainGlobals "_law_twin" = some (some (.ref f7))) (l7 : K.lookup f7 = some ⟨oc7, od7, .func (PySem.W.fnOf "_law_twin" "_law_twin" (defArgs s_l_twin) (defBody s_l_twin) (defScope s_l_twin) .none kV7 dc7 pm7 an7 cd7 ct7), sl7⟩) (c7 : PySem.W.codeIn K cd7 "_law_twin" = true) (k7 : PySem.W.keepIn K (.ref f7) = true)
    (a8 : PySem.W.nsIn K mainGlobals "_law_shape_by" = some (some (.ref f8))) (l8 : K.lookup f8 = some ⟨oc8, od8, .func (PySem.W.fnOf "_law_shape_by" "_law_shape_by" (defArgs s_l_shape_by) (defBody s_l_shape_by) (defScope s_l_shape_by) .none kV8 dc8 pm8 an8 cd8 ct8), sl8⟩) (c8 : PySem.W.codeIn K cd8 "_law_shape_by" = true) (k8 : PySem.W.keepIn K (.ref f8) = true)
    (a9 : PySem.W.nsIn K mainGlobals "_law_change_by" = some (some (.ref f9))) (l9 : K.lookup f9 = some ⟨oc9, od9, .func (PySem.W.fnOf "_law_change_by" "_law_change_by" (defArgs s_l_change_by) (defBody s_l_change_by) (defScope s_l_change_by) .none kV9 dc9 pm9 an9 cd9 ct9), sl9⟩) (c9 : PySem.W.codeIn K cd9 "_law_change_by" = true) (k9 : PySem.W.keepIn K (.ref f9) = true)
    (a10 : PySem.W.nsIn K mainGlobals "_law_key" = some (some (.ref f10))) (l10 : K.lookup f10 = some ⟨oc10, od10, .func (PySem.W.fnOf "_law_key" "_law_key" (defArgs s_l_key) (defBody s_l_key) (defScope s_l_key) .none kV10 dc10 pm10 an10 cd10 ct10), sl10⟩) (c10 : PySem.W.codeIn K cd10 "_law_key" = true) (k10 : PySem.W.keepIn K (.ref f10) = true)
    (a11 : PySem.W.nsIn K mainGlobals "_law_due" = some (some (.ref f11))) (l11 : K.lookup f11 = some ⟨oc11, od11, .func (PySem.W.fnOf "_law_due" "_law_due" (defArgs s_l_due) (defBody s_l_due) (defScope s_l_due) .none kV11 dc11 pm11 an11 cd11 ct11), sl11⟩) (c11 : PySem.W.codeIn K cd11 "_law_due" = true) (k11 : PySem.W.keepIn K (.ref f11) = true)
    (a12 : PySem.W.nsIn K mainGlobals "law" = some (some (.ref f12))) (l12 : K.lookup f12 = some ⟨oc12, od12, .func (PySem.W.fnOf "law" "law" (defArgs s_law) (defBody s_law) (defScope s_law) .none kV12 dc12 pm12 an12 cd12 ct12), sl12⟩) (c12 : PySem.W.codeIn K cd12 "law" = true) (k12 : PySem.W.keepIn K (.ref f12) = true)
    (z_list : PySem.W.nsIn K mainGlobals "list" = some none)
    (z_any : PySem.W.nsIn K mainGlobals "any" = some none)
    (z_len : PySem.W.nsIn K mainGlobals "len" = some none)
    (z_range : PySem.W.nsIn K mainGlobals "range" = some none)
    (z_tuple : PySem.W.nsIn K mainGlobals "tuple" = some none)
    (z_isinstance : PySem.W.nsIn K mainGlobals "isinstance" = some none)
    (z_bool : PySem.W.nsIn K mainGlobals "bool" = some none) :
    ∃ fd : FuncData, (∀ (s : Shared) (v : Value), BindsTo s fd ⟨[v], []⟩ [("_law_script", v)]) ∧ ∀ base : Heap, K.In base → base.Ns mainGlobals mg → FnOk l.prog w K mg base CX0 5 fa fd P_law (spD K mg F_law) := by
  have e := hfa.symm.trans (PySem.W.mg_of X G a12)
  cases e
  have F1 := fun_mk (st := s_key_of) l1 c1 k1
  have D_key_of : Def K mg "key_of" s_key_of P_key_of f1 _ := ⟨F1, F1.binds (ps := ["change"]) fun _ _ _ _ _ _ => ln1 (fun _ => rfl), PySem.W.mg_of X G a1⟩
  have F2 := fun_mk (st := s_keys_of) l2 c2 k2
  have D_keys_of : Def K mg "keys_of" s_keys_of P_keys_of f2 _ := ⟨F2, F2.binds (ps := ["changes"]) fun _ _ _ _ _ _ => ln1 (fun _ => rfl), PySem.W.mg_of X G a2⟩
  have F3 := fun_mk (st := s_meets) l3 c3 k3
  have D_meets : Def K mg "meets" s_meets P_meets f3 _ := ⟨F3, F3.binds (ps := ["changes", "rows"]) fun _ _ _ _ _ _ => ln2 (fun _ _ => rfl), PySem.W.mg_of X G a3⟩
  have F4 := fun_mk (st := s_l_cell_at) l4 c4 k4
  have D_l_cell_at : Def K mg "_law_cell_at" s_l_cell_at P_l_cell_at f4 _ := ⟨F4, F4.binds (ps := ["_law_script", "_law_k"]) fun _ _ _ _ _ _ => ln2 (fun _ _ => rfl), PySem.W.mg_of X G a4⟩
  have F5 := fun_mk (st := s_l_mixed) l5 c5 k5
  have D_l_mixed : Def K mg "_law_mixed" s_l_mixed P_l_mixed f5 _ := ⟨F5, F5.binds (ps := ["_law_number"]) fun _ _ _ _ _ _ => ln1 (fun _ => rfl), PySem.W.mg_of X G a5⟩
  have F6 := fun_mk (st := s_l_name_by) l6 c6 k6
  have D_l_name_by : Def K mg "_law_name_by" s_l_name_by P_l_name_by f6 _ := ⟨F6, F6.binds (ps := ["_law_cell"]) fun _ _ _ _ _ _ => ln1 (fun _ => rfl), PySem.W.mg_of X G a6⟩
  have F7 := fun_mk (st := s_l_twin) l7 c7 k7
  have D_l_twin : Def K mg "_law_twin" s_l_twin P_l_twin f7 _ := ⟨F7, F7.binds (ps := ["_law_name", "_law_cell"]) fun _ _ _ _ _ _ => ln2 (fun _ _ => rfl), PySem.W.mg_of X G a7⟩
  have F8 := fun_mk (st := s_l_shape_by) l8 c8 k8
  have D_l_shape_by : Def K mg "_law_shape_by" s_l_shape_by P_l_shape_by f8 _ := ⟨F8, F8.binds (ps := ["_law_name", "_law_cell"]) fun _ _ _ _ _ _ => ln2 (fun _ _ => rfl), PySem.W.mg_of X G a8⟩
  have F9 := fun_mk (st := s_l_change_by) l9 c9 k9
  have D_l_change_by : Def K mg "_law_change_by" s_l_change_by P_l_change_by f9 _ := ⟨F9, F9.binds (ps := ["_law_names", "_law_cell"]) fun _ _ _ _ _ _ => ln2 (fun _ _ => rfl), PySem.W.mg_of X G a9⟩
  have F10 := fun_mk (st := s_l_key) l10 c10 k10
  have D_l_key : Def K mg "_law_key" s_l_key P_l_key f10 _ := ⟨F10, F10.binds (ps := ["_law_change"]) fun _ _ _ _ _ _ => ln1 (fun _ => rfl), PySem.W.mg_of X G a10⟩
  have F11 := fun_mk (st := s_l_due) l11 c11 k11
  have D_l_due : Def K mg "_law_due" s_l_due P_l_due f11 _ := ⟨F11, F11.binds (ps := ["_law_changes"]) fun _ _ _ _ _ _ => ln1 (fun _ => rfl), PySem.W.mg_of X G a11⟩
  have F12 := fun_mk (st := s_law) l12 c12 k12
  have D_law : Def K mg "law" s_law P_law fa _ := ⟨F12, F12.binds (ps := ["_law_script"]) fun _ _ _ _ _ _ => ln1 (fun _ => rfl), PySem.W.mg_of X G a12⟩
  refine ⟨PySem.W.fnOf "law" "law" (defArgs s_law) (defBody s_law) (defScope s_law) .none kV12 dc12 pm12 an12 cd12 ct12, fun s v => .of_eq rfl, fun base _ _ => ?_⟩
  exact ok_law ⟨D_key_of, D_keys_of, D_meets, D_l_cell_at, D_l_mixed, D_l_name_by, D_l_twin, D_l_shape_by, D_l_change_by, D_l_key, D_l_due, D_law, PySem.W.mg_none_of X G z_list, PySem.W.mg_none_of X G z_any, PySem.W.mg_none_of X G z_len, PySem.W.mg_none_of X G z_range, PySem.W.mg_none_of X G z_tuple, PySem.W.mg_none_of X G z_isinstance, PySem.W.mg_none_of X G z_bool⟩
theorem walk {l : PySem.W.OpenLaw} {q : Program} {loose : List Str} {XP : (Str → Option Value) → Heap → Prop} {YP : World → Heap → Prop} {d : DefRec} {K : Params → PySem.W.Frag} (hn : l.most = some 63) (hdf : d.params.defaults = [])
    (hY : ∀ (w : World) (h : Heap), YP w h → (K w.params).In h)
    (F : ∀ (w : World) (mg : Str → Option Value) (fa : Addr) (h : Heap), (K w.params).In h → h.Ns mainGlobals mg → mg d.name = some (.ref fa) →
      ∃ fd : FuncData, (∀ (s : Shared) (u : Value), BindsTo s fd ⟨[u], []⟩ [("_law_script", u)]) ∧ ∀ base : Heap, (K w.params).In base → base.Ns mainGlobals mg → FnOk l.prog w (K w.params) mg base CX0 5 fa fd P_law (spD (K w.params) mg F_law)) :
    PySem.W.WalkO q loose XP YP l.row.toRowW d [] (fun f vs => PySem.call f vs) :=
  L2.walk_of (n := 63) (k := 5) (x := "_law_script") (CX := fun _ => CX0) (sp := fun w => spLaw (K w.params) F_law) hn (by decide) hdf ⟨rfl, by decide, by decide⟩ hY (fun w mg fa h h1 h2 h3 => law_any (F w mg fa h h1 h2 h3)) (fun _ _ a ns hl _ hS => law_sp' hS (law_true ns hl) fun _ => rfl) fun _ _ _ _ _ z => z
end T40
open PySem PySem.W PyProof.Rows
set_option maxRecDepth 100000 in
set_option maxHeartbeats 0 in
theorem PySem.Challenge.cw_tablestore_k40_keys_of_changes_holds : PySem.Challenge.rw_tablestore_k40_keys_of_changes.Holds := by
  w_on; o_law; z_head; (case hw => w_witness2)
  refine L2.walkX (fun _ => by kernel_rfl) ?_
  refine T40.walk (l := PySem.Challenge.rw_tablestore_k40_keys_of_changes) rfl rfl (fun w h Y => Y) ?F
  case F =>
    intro w mg fa h KX G hmg
    refine' T40.all_mk KX G hmg ?a1 ?l1 ?c1 ?k1 ?a2 ?l2 ?c2 ?k2 ?a3 ?l3 ?c3 ?k3 ?a4 ?l4 ?c4 ?k4 ?a5 ?l5 ?c5 ?k5 ?a6 ?l6 ?c6 ?k6 ?a7 ?l7 ?c7 ?k7 ?a8 ?l8 ?c8 ?k8 ?a9 ?l9 ?c9 ?k9 ?a10 ?l10 ?c10 ?k10 ?a11 ?l11 ?c11 ?k11 ?a12 ?l12 ?c12 ?k12 ?z_list ?z_any ?z_len ?z_range ?z_tuple ?z_isinstance ?z_bool
    (case a1 => k_is)
    (case l1 => k_is)
    (case c1 => k_is)
    (case k1 => k_is)
    (case a2 => k_is)
    (case l2 => k_is)
    (case c2 => k_is)
    (case k2 => k_is)
    (case a3 => k_is)
    (case l3 => k_is)
    (case c3 => k_is)
    (case k3 => k_is)
    (case a4 => k_is)
    (case l4 => k_is)
    (case c4 => k_is)
    (case k4 => k_is)
    (case a5 => k_is)
    (case l5 => k_is)
    (case c5 => k_is)
    (case k5 => k_is)
    (case a6 => k_is)
    (case l6 => k_is)
    (case c6 => k_is)
    (case k6 => k_is)
    (case a7 => k_is)
    (case l7 => k_is)
    (case c7 => k_is)
    (case k7 => k_is)
    (case a8 => k_is)
    (case l8 => k_is)
    (case c8 => k_is)
    (case k8 => k_is)
    (case a9 => k_is)
    (case l9 => k_is)
    (case c9 => k_is)
    (case k9 => k_is)
    (case a10 => k_is)
    (case l10 => k_is)
    (case c10 => k_is)
    (case k10 => k_is)
    (case a11 => k_is)
    (case l11 => k_is)
    (case c11 => k_is)
    (case k11 => k_is)
    (case a12 => k_is)
    (case l12 => k_is)
    (case c12 => k_is)
    (case k12 => k_is)
    (case z_list => k_is)
    (case z_any => k_is)
    (case z_len => k_is)
    (case z_range => k_is)
    (case z_tuple => k_is)
    (case z_isinstance => k_is)
    (case z_bool => k_is)
