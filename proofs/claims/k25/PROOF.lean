import PyProof.Rows.All
import Wide.All
import OpenK.AllK
import Wide.FinOn
import Lean
import PyProof.EqAt
import PyProof.EqKinds
import PyProof.TupleCall
import PyProof.ReprRoads
import KE.KSortTup
import PySem.Challenge.RW_panethread_k25_whole_laid_by_least_sums
-- CHANGE: your row's module here, as the last of these rows
set_option compiler.extract_closed false
set_option Elab.async false
set_option linter.all false
set_option maxRecDepth 100000
namespace L2
@[elab_as_elim] theorem usN1 {p : List PySem.Value → Prop} (h : ∀ a0 : PySem.Value, p [a0]) (us : List PySem.Value) (hl : us.length = 1) : p us := by
  rcases us with _ | ⟨a0, us0⟩
  · cases hl
  rcases us0 with _ | ⟨b, us⟩
  · exact h a0
  · cases hl
@[elab_as_elim] theorem usN2 {p : List PySem.Value → Prop} (h : ∀ a0 a1 : PySem.Value, p [a0, a1]) (us : List PySem.Value) (hl : us.length = 2) : p us := by
  rcases us with _ | ⟨a0, us0⟩
  · cases hl
  rcases us0 with _ | ⟨a1, us1⟩
  · cases hl
  rcases us1 with _ | ⟨b, us⟩
  · exact h a0 a1
  · cases hl
@[elab_as_elim] theorem usN3 {p : List PySem.Value → Prop} (h : ∀ a0 a1 a2 : PySem.Value, p [a0, a1, a2]) (us : List PySem.Value) (hl : us.length = 3) : p us := by
  rcases us with _ | ⟨a0, us0⟩
  · cases hl
  rcases us0 with _ | ⟨a1, us1⟩
  · cases hl
  rcases us1 with _ | ⟨a2, us2⟩
  · cases hl
  rcases us2 with _ | ⟨b, us⟩
  · exact h a0 a1 a2
  · cases hl
@[elab_as_elim] theorem usN4 {p : List PySem.Value → Prop} (h : ∀ a0 a1 a2 a3 : PySem.Value, p [a0, a1, a2, a3]) (us : List PySem.Value) (hl : us.length = 4) : p us := by
  rcases us with _ | ⟨a0, us0⟩
  · cases hl
  rcases us0 with _ | ⟨a1, us1⟩
  · cases hl
  rcases us1 with _ | ⟨a2, us2⟩
  · cases hl
  rcases us2 with _ | ⟨a3, us3⟩
  · cases hl
  rcases us3 with _ | ⟨b, us⟩
  · exact h a0 a1 a2 a3
  · cases hl
theorem auto1 (h : True := by first | exact .inl rfl | exact .inr rfl | assumption) : True := h
theorem auto2 (h : True := by decide) : True := h
theorem auto3 (h : True := by intro _; rfl) : True := h
theorem auto4 (h : True := by rfl) : True := h
theorem auto5 (h : True := by with_unfolding_all rfl) : True := h
theorem auto6 (h : True := by decide +kernel) : True := h
open PySem PySem.Spec PyProof.Rows

noncomputable abbrev Key := Sum Int Str
noncomputable def keyIs : Key → Value → Bool
  | .inl k, v => Value.isInt k v
  | .inr x, v => Value.isStrOf x v
noncomputable def keyH (w : World) : Key → Int
  | .inl k => hashInt k
  | .inr x => hashStr w x
theorem keyIs_shape : ∀ {k : Key} {v : Value}, keyIs k v = true → (∃ i t, k = Sum.inl i ∧ v = Value.int i t) ∨ (∃ x t, k = Sum.inr x ∧ v = Value.str x t)
  | .inl i, v, h => by
    obtain ⟨t, e⟩ := Value.isInt_shape (k := i) (v := v) h
    exact .inl ⟨i, t, rfl, e⟩
  | .inr x, v, h => by
    obtain ⟨t, e⟩ := Value.isStrOf_shape (x := x) (v := v) h
    exact .inr ⟨x, t, rfl, e⟩
theorem keyIs_int (i : Int) (t : Tok) : keyIs (.inl i) (.int i t) = true := by simp [keyIs, Value.isInt]
theorem keyIs_str (x : Str) (t : Tok) : keyIs (.inr x) (.str x t) = true := by simp [keyIs, Value.isStrOf]
theorem key_ll (a b : Int) : decide ((Sum.inl a : Key) = Sum.inl b) = (a == b) := by
  by_cases e : a = b
  · subst e; simp
  · have h : ¬ (Sum.inl a : Key) = Sum.inl b := fun q => e (Sum.inl.inj q)
    rw [decide_eq_false h]
    exact (beq_eq_false_iff_ne.mpr e).symm
theorem key_rr (a b : Str) : decide ((Sum.inr a : Key) = Sum.inr b) = decide (a = b) := by
  by_cases e : a = b
  · subst e; simp
  · have h : ¬ (Sum.inr a : Key) = Sum.inr b := fun q => e (Sum.inr.inj q)
    rw [decide_eq_false h, decide_eq_false e]
theorem key_lr (a : Int) (b : Str) : decide ((Sum.inl a : Key) = Sum.inr b) = false := decide_eq_false (fun q => nomatch q)
theorem key_rl (a : Str) (b : Int) : decide ((Sum.inr a : Key) = Sum.inl b) = false := decide_eq_false (fun q => nomatch q)

noncomputable def mixKind (prog : Program) (w : World) : PySem.KeyKind prog w Key where
  is := keyIs
  hash := keyH w
  inj := fun v a b ha hb => by
    rcases keyIs_shape ha with ⟨i, t, rfl, rfl⟩ | ⟨x, t, rfl, rfl⟩
    · rcases keyIs_shape hb with ⟨j, u, rfl, e⟩ | ⟨y, u, rfl, e⟩
      · injection e with e1 _; rw [e1]
      · exact nomatch e
    · rcases keyIs_shape hb with ⟨j, u, rfl, e⟩ | ⟨y, u, rfl, e⟩
      · exact nomatch e
      · injection e with e1 _; rw [e1]
  byValue := fun k v h => by
    rcases keyIs_shape h with ⟨i, t, rfl, rfl⟩ | ⟨x, t, rfl, rfl⟩ <;> rfl
  pyHash := fun hv h => by
    rcases keyIs_shape hv with ⟨i, t, rfl, rfl⟩ | ⟨x, t, rfl, rfl⟩
    · exact wpAny_pyHash_int h
    · exact wpAny_pyHash_str h
  eqBool := fun hu hv h => by
    rcases keyIs_shape hu with ⟨i, t, rfl, rfl⟩ | ⟨x, t, rfl, rfl⟩
    · rcases keyIs_shape hv with ⟨j, u, rfl, rfl⟩ | ⟨y, u, rfl, rfl⟩
      · rw [key_ll] at h; exact wpAny_eqBool_int h
      · rw [key_lr] at h; exact SeqAt.EqAt.int_str i t y u _ _ _ _ h
    · rcases keyIs_shape hv with ⟨j, u, rfl, rfl⟩ | ⟨y, u, rfl, rfl⟩
      · rw [key_rl] at h; exact SeqAt.EqAt.str_int x t j u _ _ _ _ h
      · rw [key_rr] at h; exact wpAny_eqBool_str h
  «strs» := fun k x t v h => by
    rcases keyIs_shape h with ⟨i, u, rfl, e⟩ | ⟨y, u, rfl, e⟩
    · exact nomatch e
    · injection e with e1 _
      subst e1
      cases v <;> rfl

theorem mixKind_int (prog : Program) (w : World) (i : Int) (t : Tok) : (mixKind prog w).is (.inl i) (.int i t) = true := keyIs_int i t
theorem mixKind_str (prog : Program) (w : World) (x : Str) (t : Tok) : (mixKind prog w).is (.inr x) (.str x t) = true := keyIs_str x t
end L2

namespace L2
open PySem PySem.Spec PyProof.Rows

inductive V where
  | non | bl (b : Bool) | int (i : Int) | str (x : Str) | byt (b : Array UInt8) | flt (b : UInt64) | ref (a : Addr) | ty (n : String)
  deriving DecidableEq

noncomputable def RelV : V → Value → Prop
  | .non, u => u = Value.none
  | .bl b, u => u = Value.bool b
  | .int i, u => ∃ t, u = Value.int i t
  | .str x, u => ∃ t, u = Value.str x t
  | .byt b, u => ∃ t, u = Value.bytes b t
  | .flt b, u => ∃ t, u = Value.float b t
  | .ref a, u => u = Value.ref a
  | .ty n, u => u = Value.type n

noncomputable abbrev Vals : List V → List Value → Prop := Paired RelV
theorem Vals.length {xs : List V} {us : List Value} (r : Vals xs us) : xs.length = us.length := Paired.length r
theorem Vals.get : ∀ {xs : List V} {us : List Value} {i : Nat} {x : V}, Vals xs us → xs[i]? = some x → ∃ u, us[i]? = some u ∧ RelV x u
  | _, _, _, _, .nil, e => by simp at e
  | _, _, 0, _, .cons r _, e => by simp at e; subst e; exact ⟨_, rfl, r⟩
  | _, _, i + 1, x, .cons _ t, e => by
    obtain ⟨u, h1, h2⟩ := Vals.get (i := i) (x := x) t (by simpa using e)
    exact ⟨u, by simpa using h1, h2⟩
theorem Vals.set {x : V} {u : Value} (r : RelV x u) : ∀ {xs : List V} {us : List Value} (i : Nat), Vals xs us → Vals (xs.set i x) (us.set i u)
  | _, _, _, .nil => .nil
  | _, _, 0, .cons _ t => .cons r t
  | _, _, i + 1, .cons q t => .cons q (Vals.set r i t)
theorem Vals.append : ∀ {xs ys : List V} {us ws : List Value}, Vals xs us → Vals ys ws → Vals (xs ++ ys) (us ++ ws)
  | _, _, _, _, .nil, s => s
  | _, _, _, _, .cons r t, s => .cons r (Vals.append t s)
theorem Vals.take : ∀ {xs : List V} {us : List Value} (n : Nat), Vals xs us → Vals (xs.take n) (us.take n)
  | _, _, 0, _ => .nil
  | _, _, _ + 1, .nil => .nil
  | _, _, n + 1, .cons r t => .cons r (Vals.take n t)
theorem Vals.drop : ∀ {xs : List V} {us : List Value} (n : Nat), Vals xs us → Vals (xs.drop n) (us.drop n)
  | _, _, 0, r => r
  | _, _, _ + 1, .nil => .nil
  | _, _, n + 1, .cons _ t => Vals.drop n t
noncomputable def RelO : Option V → Option Value → Prop
  | some v, some u => RelV v u
  | none, none => True
  | _, _ => False
noncomputable def KV {κ : Type} : List (κ × V) → List (κ × Value) → Prop := Paired fun (p : κ × V) (q : κ × Value) => p.1 = q.1 ∧ RelV p.2 q.2

noncomputable def kV : Key → V
  | .inl i => .int i
  | .inr x => .str x

inductive HO where
  /-- a list -/
  | lst (xs : List V)
  /-- a tuple (never changes) -/
  | tup (xs : List V)
  /-- a dict whose keys are ints and texts; one whose keys are tuples of ints and texts (the empty one is both) -/
  | dK (kvs : List (Key × V)) | dT (kvs : List (List Key × V))
  /-- a set of ints: its members, its size -/
  | set (S : Int → Bool) (n : Nat)
  /-- an instance of the class at C, its dict at dx, its attributes -/
  | ins (C dx : Addr) (fs : List (Str × V))
  /-- the dict of the instance at x -/
  | own (x : Addr)
  /-- the dict of an exception -/
  | xd (fs : List (Str × V))
  /-- a bound method, f of x -/
  | met (f x : Addr)
  /-- a range object lo, lo + 1, .. below hi -/
  | rng (lo hi : Int)
  /-- a thing that is known to the object (the script; a dict while a loop walks it): read, never written while it is so -/
  | frz (o : Obj) (u : HO)
  /-- a code object's table -/
  | tbl (ps : Array Value)
  /-- any other thing, by what is true of its one object (a def of one's own: SetO a S n := HO.ext fun h => ..) -/
  | ext (φ : Heap → Prop)

noncomputable abbrev Hp := Addr → Option HO
noncomputable def upd (H : Hp) (a : Addr) (o : HO) : Hp := fun b => if b = a then some o else H b
theorem upd_same {H : Hp} {a : Addr} {o : HO} : upd H a o a = some o := by unfold upd; rw [if_pos rfl]
theorem upd_ne {H : Hp} {a b : Addr} {o : HO} (h : b ≠ a) : upd H a o b = H b := by unfold upd; rw [if_neg h]
theorem upd_upd {H : Hp} {a : Addr} {o u : HO} : upd (upd H a o) a u = upd H a u := by
  funext b; unfold upd; split <;> rfl
theorem ne_of {H : Hp} {a b : Addr} {o u : HO} (h : H a = some o) (h' : H b = some u) (d : o ≠ u) : a ≠ b := by
  intro e; subst e; rw [h] at h'; exact d (Option.some.inj h')
theorem ne_of_none {H : Hp} {a b : Addr} {o : HO} (h : H a = some o) (h' : H b = none) : a ≠ b := by
  intro e; subst e; rw [h] at h'; cases h'

section
variable (P : Program) (w : World)
noncomputable def ObjOk (H : Hp) (h : Heap) (a : Addr) : HO → Prop
  | .lst xs => xs.length ≤ sizeLine ∧ ∃ (its : List Value) (n : Nat), Vals xs its ∧ h.get? a = some { cls := .type "list", data := .seq its.toArray n }
  | .tup xs => xs.length ≤ sizeLine ∧ ∃ its : List Value, Vals xs its ∧ IsTup h a its.toArray
  | .dK kvs => kvs.length ≤ sizeLine ∧ (a == sysModules) = false ∧ ∃ vs, KV kvs vs ∧ h.DictOf (mixKind P w) a vs
  | .dT kvs => kvs.length ≤ sizeLine ∧ (a == sysModules) = false ∧ ∃ xs : List (List Key × Addr × Value),
      Paired (fun (p : List Key × V) (q : List Key × Addr × Value) => p.1 = q.1 ∧ H q.2.1 = some (.tup (p.1.map kV)) ∧ RelV p.2 q.2.2) kvs xs ∧
      ∃ o es ep, h.get? a = some o ∧ o.ExactDict ∧ o.data = .dict es ep ∧ es.toList = xs.map (entryOfKey (tupleKind (mixKind P w))) ∧ (xs.map (·.1)).Nodup
  | .set S n => h.SetOf (intKind P w) a S n
  | .ins C dx fs => H dx = some (.own a) ∧ fs.length ≤ 1000 ∧ dx ≠ a ∧ h.get? a = some (PySem.W.instObj C dx) ∧
      ∃ mA, h.Ns1 dx mA ∧ (∀ f, RelO (fs.lookup f) (mA f)) ∧ PySem.Within mA (fs.map (·.1))
  | .own _ => ∃ o, h.get? a = some o
  | .xd fs => ∃ mA, h.Ns1 a mA ∧ ∀ f, RelO (fs.lookup f) (mA f)
  | .rng lo hi => ∃ t u v, h.get? a = some { cls := .type "range", data := .fields #[.int lo t, .int hi u, .int 1 v] }
  | .frz o u => h.get? a = some o ∧ ObjOk H h a u
  | .tbl ps => h.get? a = some { cls := .none, data := .fields ps }
  | .met f x => h.get? a = some (PySem.W.methodObj (.ref f) (.ref x))
  | .ext φ => φ h ∧ (∃ o, h.get? a = some o) ∧ ∀ h1 h2 : Heap, φ h1 → (∀ o, h1.get? a = some o → h2.get? a = some o) → φ h2
noncomputable def HOk (H : Hp) (h : Heap) : Prop := ∀ a o, H a = some o → ObjOk P w H h a o
end

section
variable {P : Program} {w : World} {H H' : Hp} {h h' : Heap} {a : Addr} {o : HO}
theorem ObjOk.lt (x : ObjOk P w H h a o) : a < h.objs.size := by
  cases o with
  | lst xs => obtain ⟨_, _, _, _, e⟩ := x; exact Heap.lt_size e
  | tup xs => obtain ⟨_, _, _, p⟩ := x; exact p.lt
  | dK kvs => obtain ⟨_, _, _, _, o, _, _, e, _⟩ := x; exact Heap.lt_size e
  | dT kvs => obtain ⟨_, _, _, _, o, _, _, e, _⟩ := x; exact Heap.lt_size e
  | set S n => obtain ⟨o, _, _, _, e, _⟩ := x; exact Heap.lt_size e
  | ins C dx fs => obtain ⟨_, _, _, e, _⟩ := x; exact Heap.lt_size e
  | own y => obtain ⟨_, e⟩ := x; exact Heap.lt_size e
  | xd fs => obtain ⟨_, ⟨_, _, _, e, _⟩, _⟩ := x; exact Heap.lt_size e
  | rng lo hi => obtain ⟨_, _, _, e⟩ := x; exact Heap.lt_size e
  | frz ob u => obtain ⟨e, _⟩ := x; exact Heap.lt_size e
  | tbl ps => exact Heap.lt_size (show h.get? a = some _ from x)
  | met f y => exact Heap.lt_size (show h.get? a = some _ from x)
  | ext φ => obtain ⟨_, ⟨_, e⟩, _⟩ := x; exact Heap.lt_size e
theorem Paired.mapP {α β : Type} {F G : α → β → Prop} : ∀ {l₁ : List α} {l₂ : List β}, Paired F l₁ l₂ → (∀ a b, F a b → G a b) → Paired G l₁ l₂
  | _, _, .nil, _ => .nil
  | _, _, .cons r t, f => .cons (f _ _ r) (Paired.mapP t f)
theorem ObjOk.stay (x : ObjOk P w H h a o) (k : ∀ b u, (b = a ∨ H b = some (.own a)) → h.get? b = some u → h'.get? b = some u)
    (ho : ∀ b, H b = some (.own a) → H' b = some (.own a)) (ht : ∀ b xs, H b = some (.tup xs) → H' b = some (.tup xs)) : ObjOk P w H' h' a o := by
  induction o with
  | lst xs => obtain ⟨z, its, n, r, e⟩ := x; exact ⟨z, its, n, r, k _ _ (.inl rfl) e⟩
  | tup xs => obtain ⟨z, its, r, ob, e, c⟩ := x; exact ⟨z, its, r, ob, k _ _ (.inl rfl) e, c⟩
  | dK kvs => obtain ⟨z, y, vs, r, ob, es, ep, e, c⟩ := x; exact ⟨z, y, vs, r, ob, es, ep, k _ _ (.inl rfl) e, c⟩
  | dT kvs =>
    obtain ⟨z, y, xs, r, ob, es, ep, e, c⟩ := x
    exact ⟨z, y, xs, Paired.mapP r fun p q z => ⟨z.1, ht _ _ z.2.1, z.2.2⟩, ob, es, ep, k _ _ (.inl rfl) e, c⟩
  | set S n => obtain ⟨ob, es, ep, t, e, c⟩ := x; exact ⟨ob, es, ep, t, k _ _ (.inl rfl) e, c⟩
  | ins C dx fs =>
    obtain ⟨d, z, ne, e, mA, ⟨od, es, ep, e2, c⟩, r⟩ := x
    exact ⟨ho _ d, z, ne, k _ _ (.inl rfl) e, mA, ⟨od, es, ep, k _ _ (.inr d) e2, c⟩, r⟩
  | own y => obtain ⟨ob, e⟩ := x; exact ⟨ob, k _ _ (.inl rfl) e⟩
  | xd fs => obtain ⟨mA, ⟨od, es, ep, e, c⟩, r⟩ := x; exact ⟨mA, ⟨od, es, ep, k _ _ (.inl rfl) e, c⟩, r⟩
  | rng lo hi => obtain ⟨t, u, v, e⟩ := x; exact ⟨t, u, v, k _ _ (.inl rfl) e⟩
  | frz ob u ih => obtain ⟨e, q⟩ := x; exact ⟨k _ _ (.inl rfl) e, ih q⟩
  | tbl ps =>
    have e : h.get? a = some { cls := .none, data := .fields ps } := x
    show h'.get? a = some { cls := .none, data := .fields ps }
    exact k a _ (.inl rfl) e
  | met f y =>
    have e : h.get? a = some (PySem.W.methodObj (.ref f) (.ref y)) := x
    show h'.get? a = some (PySem.W.methodObj (.ref f) (.ref y))
    exact k a _ (.inl rfl) e
  | ext φ => obtain ⟨p, ⟨o, e⟩, st⟩ := x; exact ⟨st _ _ p fun o q => k _ _ (.inl rfl) q, ⟨o, k _ _ (.inl rfl) e⟩, st⟩
theorem HOk.lt (x : HOk P w H h) (e : H a = some o) : a < h.objs.size := (x a o e).lt
theorem HOk.fresh (x : HOk P w H h) (e : h.objs.size ≤ a) : H a = none := by
  cases q : H a with
  | none => rfl
  | some u => exact absurd (Nat.lt_of_lt_of_le (x.lt q) e) (Nat.lt_irrefl _)
theorem HOk.kept (x : HOk P w H h) (k : ∀ b u, h.get? b = some u → h'.get? b = some u) : HOk P w H h' := fun a o e =>
  (x a o e).stay (fun b u _ q => k b u q) (fun _ q => q) fun _ _ q => q
theorem HOk.laid (x : HOk P w H h) (k : ∀ b u, h.get? b = some u → h'.get? b = some u) (hp : h.objs.size ≤ a) (new : ObjOk P w (upd H a o) h' a o) : HOk P w (upd H a o) h' := fun b u e => by
  have hn := x.fresh hp
  by_cases hb : b = a
  · subst hb; rw [upd_same] at e; cases e; exact new
  · rw [upd_ne hb] at e
    exact (x b u e).stay (fun c v _ q => k c v q) (fun c q => by rw [upd_ne (ne_of_none q hn)]; exact q) fun c xs q => by rw [upd_ne (ne_of_none q hn)]; exact q
end

noncomputable def Rd (H : Hp) (a : Addr) (u : HO) : Prop := H a = some u ∨ ∃ o, H a = some (.frz o u)
theorem Rd.ok {P : Program} {w : World} {H : Hp} {h : Heap} {a : Addr} {u : HO} (r : Rd H a u) (x : HOk P w H h) : ObjOk P w H h a u := by
  rcases r with r | ⟨o, r⟩
  · exact x a u r
  · obtain ⟨_, q⟩ := x a _ r
    exact q
noncomputable def Mut : Option HO → Prop
  | some (.lst _) => True
  | some (.dK _) => True
  | some (.dT _) => True
  | some (.set _ _) => True
  | some (.ins _ _ _) => True
  | some (.ext _) => True
  | _ => False
section
variable {P : Program} {w : World} {H : Hp} {h h' : Heap} {x e : Addr} {o' : HO}
theorem HOk.write (ok : HOk P w H h) (mu : Mut (H x)) (he : e = x ∨ H e = some (.own x)) (k : ∀ b u, b ≠ e → h.get? b = some u → h'.get? b = some u) (heo : ∃ u, h'.get? e = some u)
    (new : ObjOk P w (upd H x o') h' x o') : HOk P w (upd H x o') h' := fun b u q => by
  have nown : ∀ c y, H c = some (.own y) → c ≠ x := fun c y r z => by subst z; rw [r] at mu; exact mu
  have ntup : ∀ c xs, H c = some (.tup xs) → c ≠ x := fun c xs r z => by subst z; rw [r] at mu; exact mu
  by_cases hb : b = x
  · subst hb; rw [upd_same] at q; cases q; exact new
  · rw [upd_ne hb] at q
    by_cases hbe : b = e
    · have q' : H b = some (.own x) := by
        rcases he with z | z
        · exact absurd (hbe.trans z) hb
        · rw [hbe]; exact z
      rw [q] at q'; cases q'
      obtain ⟨v, hv⟩ := heo
      exact ⟨v, by rw [hbe]; exact hv⟩
    · refine (ok b u q).stay (fun c v hc r => k c v ?_ r) (fun c r => by rw [upd_ne (nown c b r)]; exact r) fun c xs r => by rw [upd_ne (ntup c xs r)]; exact r
      rcases hc with rfl | hc
      · exact hbe
      · rintro rfl
        rcases he with z | z
        · exact nown c b hc z
        · rw [hc] at z; cases z; exact hb rfl
end

structure Un (fs ex : List Addr) (H H' : Hp) (h h' : Heap) : Prop where
  keep : ∀ b o, h.get? b = some o → H b = none → b ∉ fs → b ∉ ex → h'.get? b = some o
  slot : ∀ b o, h.get? b = some o → H b = none → b ∈ fs → b ∉ ex → ∃ sl, h'.get? b = some { o with slots := sl }
  free : ∀ b o, h.get? b = some o → H b = none → b ∉ ex → H' b = none
  there : ∀ b o, h.get? b = some o → b ∉ ex → ∃ o', h'.get? b = some o'
  tups : ∀ b xs, H b = some (.tup xs) → H' b = some (.tup xs)
  frzs : ∀ b o u, H b = some (.frz o u) → H' b = some (.frz o u)
  tbls : ∀ b ps, H b = some (.tbl ps) → ∃ more, H' b = some (.tbl (ps ++ more))
section
variable {fs fs' ex ex' : List Addr} {H H1 H2 : Hp} {h h1 h2 h' : Heap} {a x e : Addr} {o : HO}
theorem Un.any (u : Un fs ex H H1 h h1) {b : Addr} {ob : Obj} (q : h.get? b = some ob) (n : H b = none) (hx : b ∉ ex) : ∃ sl, h1.get? b = some { ob with slots := sl } := by
  by_cases hb : b ∈ fs
  · exact u.slot b ob q n hb hx
  · exact ⟨ob.slots, u.keep b ob q n hb hx⟩
theorem Un.kept (k : ∀ b u, h.get? b = some u → h'.get? b = some u) : Un fs ex H H h h' :=
  ⟨fun b ob q _ _ _ => k b ob q, fun b ob q _ _ _ => ⟨ob.slots, k b ob q⟩, fun _ _ _ n _ => n, fun b ob q _ => ⟨ob, k b ob q⟩, fun _ _ q => q, fun _ _ _ q => q, fun _ ps q => ⟨#[], by rw [q]; simp⟩⟩
theorem Un.refl : Un fs ex H H h h := Un.kept fun _ _ q => q
theorem Un.laid (k : ∀ b u, h.get? b = some u → h'.get? b = some u) (hp : h.objs.size ≤ a) (hn : H a = none) : Un fs ex H (upd H a o) h h' where
  keep := fun b u q _ _ _ => k b u q
  slot := fun b u q _ _ _ => ⟨u.slots, k b u q⟩
  free := fun b u q n _ => by rw [upd_ne (Nat.ne_of_lt (Nat.lt_of_lt_of_le (Heap.lt_size q) hp))]; exact n
  there := fun b u q _ => ⟨u, k b u q⟩
  tups := fun b xs q => by rw [upd_ne (ne_of_none q hn)]; exact q
  frzs := fun b u xs q => by rw [upd_ne (ne_of_none q hn)]; exact q
  tbls := fun b ps q => ⟨#[], by rw [upd_ne (ne_of_none q hn), q]; simp⟩
theorem Un.write (mu : Mut (H x)) (he : e = x ∨ H e = some (.own x)) (k : ∀ b u, b ≠ e → h.get? b = some u → h'.get? b = some u) (heo : ∃ u, h'.get? e = some u) : Un fs ex H (upd H x o) h h' := by
  have hx : ∀ b, H b = none → b ≠ x := fun b n z => by subst z; rw [n] at mu; exact mu
  have hb : ∀ b, H b = none → b ≠ e := fun b n z => by
    subst z
    rcases he with r | r
    · exact hx b n r
    · rw [n] at r; cases r
  have hm : ∀ b u, H b = some u → ¬ Mut (some u) → b ≠ x := fun b u q nm z => by subst z; rw [q] at mu; exact nm mu
  refine ⟨fun b u q n _ _ => k b u (hb b n) q, fun b u q n _ _ => ⟨u.slots, k b u (hb b n) q⟩, fun b u q n _ => by rw [upd_ne (hx b n)]; exact n, fun b u q _ => ?_,
    fun b xs q => by rw [upd_ne (hm b _ q fun z => z)]; exact q, fun b u xs q => by rw [upd_ne (hm b _ q fun z => z)]; exact q, fun b ps q => ⟨#[], by rw [upd_ne (hm b _ q fun z => z), q]; simp⟩⟩
  by_cases hbe : b = e
  · subst hbe; exact heo
  · exact ⟨u, k b u hbe q⟩
end

noncomputable def trk (h : Heap) (H : Hp) : List Addr := (List.range h.objs.size).filter fun a => (H a).isSome
noncomputable def hidT (h : Heap) (H : Hp) : Heap := PySem.W.hideAll h (trk h H)
theorem hidT_size (h : Heap) (H : Hp) : (hidT h H).objs.size = h.objs.size := PySem.W.hideAll_size _ _
theorem hidT_get {h : Heap} {H : Hp} {b : Addr} {o : Obj} (e : h.get? b = some o) (n : H b = none) : (hidT h H).get? b = some o :=
  PySem.W.hideAll_get _ e fun hm => by
    have q : (H b).isSome = true := (List.mem_filter.mp hm).2
    rw [n] at q; simp at q
theorem of_hidT {h : Heap} {H : Hp} {b : Addr} {o : Obj} (e : (hidT h H).get? b = some o) : h.get? b = some o ∧ H b = none := by
  have e' : h.get? b = some o := PySem.W.of_hideAll (trk h H) e
  refine ⟨e', ?_⟩
  cases q : H b with
  | none => rfl
  | some x =>
    have hm : b ∈ trk h H := List.mem_filter.mpr ⟨List.mem_range.mpr (Heap.lt_size e'), by simp [q]⟩
    have z : (hidT h H).get? b = none := PySem.W.hideAll_none (trk h H) hm
    rw [z] at e; cases e

end L2

namespace L2
open PySem PySem.Spec PyProof.Rows

structure Mod (K : PySem.W.Frag) (mg : Str → Option Value) (base : Heap) : Prop where
  kin : K.In base
  glob : base.Ns mainGlobals mg
  blt : ∃ mb, base.Ns builtinsNs mb ∧ ∀ x : Str, x ≠ "__name__" → mb x = bootBuiltins x
  nolimit : base.NoLimit
  sysm : ∃ mm, base.Ns sysModules mm

structure Cx where
  prog : Program
  w : World
  K : PySem.W.Frag
  mg : Str → Option Value
  base : Heap
  A : Around
  N : List Str
  s₀ : Shared
  H₀ : Hp
  env : Env
  outer : List Env
  stack : List Env
  ex : List Addr
  fn : Str → Bool
  calm : Bool
  pn : List (Addr × Obj)
  xe : Value → Shared → Prop
noncomputable def frs (l : List Env) : List Addr := l.filterMap (·.frame)
noncomputable abbrev Cx.fs (X : Cx) : List Addr := frs X.outer

noncomputable def Vis (sc : Scope) (x : Str) : Prop := sc.names.lookup x = some .local ∨ sc.names.lookup x = some .cell ∨ sc.names.lookup x = some .free
noncomputable def Loc (sc : Scope) (x : Str) : Prop := sc.names.lookup x = some .local ∨ sc.names.lookup x = some .cell
noncomputable def Look (env : Env) (h : Heap) (m : Str → Option Value) (x : Str) (u : Value) : Prop :=
  (env.kindOf x = some .local ∧ m x = some u) ∨ ((env.kindOf x = some .cell ∨ env.kindOf x = some .free) ∧ ∃ c, env.cells.lookup x = some c ∧ h.IsCell c (some u))

structure Cx.Ok (X : Cx) : Prop where
  mod : Mod X.K X.mg X.base
  kind : X.env.scope.kind = .function
  glob : X.env.globals = mainGlobals
  blt : X.env.builtins = builtinsNs
  above : X.s₀.heap.objs.size ≤ X.env.locals
  inj : ∀ x y c, X.env.cells.lookup x = some c → X.env.cells.lookup y = some c → x = y
  has : ∀ x, (X.env.kindOf x = some .cell ∨ X.env.kindOf x = some .free) → ∃ c, X.env.cells.lookup x = some c
  cab : ∀ x c, X.fn x = true → X.env.cells.lookup x = some c → X.s₀.heap.objs.size ≤ c
  hd : X.calm = true → X.A.handled = none
  frames : X.A.frames = some X.stack
  stk : X.stack = X.outer ∨ (X.stack = X.env :: X.outer ∧ X.env.frame = some X.env.locals)
  exf : ∀ b ∈ X.ex, b ≠ X.env.locals ∧ ∀ x c, X.env.cells.lookup x = some c → c ≠ b
  bs : ∀ b o, X.base.get? b = some o → X.s₀.heap.get? b = some o ∧ X.H₀ b = none
  bsz : X.base.objs.size ≤ X.s₀.heap.objs.size
  noex : ∀ b o, X.base.get? b = some o → b ∉ X.ex
  exfs : ∀ b ∈ X.ex, b ∉ X.fs
  funs : X.s₀.heap.FunFrames X.base X.outer
  frf : ∀ b ∈ X.fs, X.H₀ b = none

structure Inv (X : Cx) (pins : List (Addr × Obj)) (σ : List (Option V)) (H : Hp) (s : Shared) : Prop where
  ok : X.Ok
  os : s.os = X.s₀.os
  bare : AllBare s.gens
  base : Un X.fs X.ex X.H₀ H X.s₀.heap s.heap
  loc : ∃ m, s.heap.Ns X.env.locals m ∧ ∀ (i : Nat) (x : Str) (v : V), X.N[i]? = some x → σ[i]? = some (some v) → Vis X.env.scope x → ∃ u, RelV v u ∧ Look X.env s.heap m x u
  cell : ∀ x c, X.env.cells.lookup x = some c → ∃ v, s.heap.IsCell c v
  free : H X.env.locals = none
  freeC : ∀ x c, X.env.cells.lookup x = some c → H c = none
  pin : ∀ p ∈ X.pn ++ pins, s.heap.get? p.1 = some p.2 ∧ H p.1 = none ∧ p.1 ≠ X.env.locals ∧ p.1 ∉ X.fs ∧ ∀ v, p.2.data ≠ .cell v
  hok : HOk X.prog X.w H s.heap
  len : σ.length = X.N.length

section
variable {X : Cx} {pins : List (Addr × Obj)} {σ : List (Option V)} {H H' : Hp} {s : Shared} {h' : Heap}

theorem Cx.Ok.nofr (ok : X.Ok) {b : Addr} {o : Obj} (e : X.base.get? b = some o) : b ∉ X.fs := fun hb => by
  have := (ok.funs.mem hb).1
  rw [e] at this; cases this
theorem Inv.bs (I : Inv X pins σ H s) : ∀ b o, X.base.get? b = some o → s.heap.get? b = some o ∧ H b = none := fun b o e =>
  ⟨I.base.keep b o (I.ok.bs b o e).1 (I.ok.bs b o e).2 (I.ok.nofr e) (I.ok.noex b o e), I.base.free b o (I.ok.bs b o e).1 (I.ok.bs b o e).2 (I.ok.noex b o e)⟩
theorem Inv.bk (I : Inv X pins σ H s) : ∀ b o, X.base.get? b = some o → s.heap.get? b = some o := fun b o e => (I.bs b o e).1
theorem Inv.mod (I : Inv X pins σ H s) : Mod X.K X.mg X.base := I.ok.mod
theorem Inv.kIn (I : Inv X pins σ H s) : X.K.In s.heap := I.ok.mod.kin.keeps I.bk
theorem Inv.lt (I : Inv X pins σ H s) : X.env.locals < s.heap.objs.size := let ⟨_, hn, _⟩ := I.loc; hn.lt
theorem Inv.sz (I : Inv X pins σ H s) : X.s₀.heap.objs.size ≤ s.heap.objs.size := Nat.le_trans I.ok.above (Nat.le_of_lt I.lt)
theorem Inv.nofs (I : Inv X pins σ H s) {a : Addr} (h : s.heap.objs.size ≤ a) : a ∉ X.fs := fun hb => by
  obtain ⟨_, o, ho, _⟩ := I.ok.funs.mem hb
  exact absurd (Nat.lt_of_lt_of_le (Heap.lt_size ho) (Nat.le_trans I.sz h)) (Nat.lt_irrefl _)
theorem Inv.cne (I : Inv X pins σ H s) : ∀ x c, X.env.cells.lookup x = some c → c ≠ X.env.locals := fun x c e z => by
  obtain ⟨v, o, ho, hd⟩ := I.cell x c e
  obtain ⟨m, ⟨o', es, ep, ho', hd', _⟩, _⟩ := I.loc
  rw [z, ho'] at ho; cases ho; rw [hd'] at hd; cases hd
theorem Inv.funs (I : Inv X pins σ H s) : s.heap.FunFrames X.base X.outer := by
  have all : ∀ (l : List Env), (∀ b ∈ frs l, b ∈ X.fs) → X.s₀.heap.FunFrames X.base l → s.heap.FunFrames X.base l := by
    intro l
    induction l with
    | nil => intro _ _; trivial
    | cons env r ih =>
      intro hs hl
      obtain ⟨hk, ⟨L, o, hf, hn, ho, hd⟩, hr⟩ := hl
      have hL : L ∈ X.fs := hs L (by unfold frs; rw [List.filterMap_cons, hf]; exact List.mem_cons_self)
      obtain ⟨sl, e⟩ := I.base.slot L o ho (I.ok.frf L hL) hL fun z => I.ok.exfs L z hL
      exact ⟨hk, ⟨L, _, hf, hn, e, hd⟩, ih (fun b hb => hs b (by unfold frs; rw [List.filterMap_cons, hf]; exact List.mem_cons_of_mem _ hb)) hr⟩
  exact all X.outer (fun _ hb => hb) I.ok.funs

theorem Inv.stack (I : Inv X pins σ H s) : s.heap.FunFrames X.base X.stack := by
  rcases I.ok.stk with e | ⟨e, hf⟩
  · rw [e]; exact I.funs
  · rw [e]
    obtain ⟨m, hn, _⟩ := I.loc
    refine .cons (by rw [I.ok.kind]; decide) hf hn ?_ I.funs
    exact Heap.get?_none_of_le (Nat.le_trans I.ok.bsz I.ok.above)
theorem Inv.stkSub (I : Inv X pins σ H s) : ∀ b ∈ frs X.stack, b ∈ X.env.locals :: X.fs := fun b hb => by
  rcases I.ok.stk with e | ⟨e, hf⟩
  · rw [e] at hb; exact List.mem_cons_of_mem _ hb
  · rw [e] at hb
    unfold frs at hb
    rw [List.filterMap_cons, hf] at hb
    exact hb
theorem Inv.stkFree (I : Inv X pins σ H s) : ∀ b ∈ frs X.stack, H b = none := fun b hb => by
  rcases List.mem_cons.mp (I.stkSub b hb) with e | hb
  · rw [e]; exact I.free
  · obtain ⟨_, o, ho, _⟩ := I.ok.funs.mem hb
    exact I.base.free b o ho (I.ok.frf b hb) fun z => I.ok.exfs b z hb

theorem Inv.step {g' : Array GenState} {t' : Nat} {d' : Drawn} {ch : List Addr} (I : Inv X pins σ H s)
    (hch : ∀ b ∈ ch, (b ∈ X.ex ∨ X.s₀.heap.objs.size ≤ b) ∧ b ≠ X.env.locals ∧ (∀ x c, X.env.cells.lookup x = some c → c ≠ b) ∧ ∀ p ∈ X.pn ++ pins, p.1 ≠ b)
    (keep : ∀ b o, b ≠ X.env.locals → b ∉ X.fs → b ∉ ch → s.heap.get? b = some o → H b = none → h'.get? b = some o)
    (slot : ∀ b o, b ≠ X.env.locals → b ∈ X.fs → b ∉ ch → s.heap.get? b = some o → H b = none → ∃ sl, h'.get? b = some { o with slots := sl }) (free : ∀ b o, b ∉ ch → s.heap.get? b = some o → H b = none → H' b = none)
    (there : ∀ b o, b ∉ ch → s.heap.get? b = some o → ∃ o', h'.get? b = some o')
    (tups : ∀ b xs, H b = some (.tup xs) → H' b = some (.tup xs)) (frzs : ∀ b o u, H b = some (.frz o u) → H' b = some (.frz o u)) (tbls : ∀ b ps, H b = some (.tbl ps) → ∃ more, H' b = some (.tbl (ps ++ more)))
    (ns : ∀ m, s.heap.Ns X.env.locals m → h'.Ns X.env.locals m) (hok : HOk X.prog X.w H' h') (hg : AllBare g') :
    Inv X pins σ H' { s with heap := h', gens := g', drawn := d', toks := t' } := by
  have neL : ∀ b o, X.s₀.heap.get? b = some o → b ≠ X.env.locals := fun b o e => Nat.ne_of_lt (Nat.lt_of_lt_of_le (Heap.lt_size e) I.ok.above)
  have neC : ∀ b o, X.s₀.heap.get? b = some o → b ∉ X.ex → b ∉ ch := fun b o e hx hb => by
    rcases (hch b hb).1 with z | z
    · exact hx z
    · exact absurd (Nat.lt_of_lt_of_le (Heap.lt_size e) z) (Nat.lt_irrefl _)
  have cellK : ∀ x c, X.env.cells.lookup x = some c → ∀ v, s.heap.IsCell c v → h'.IsCell c v := fun x c e v ⟨o, ho, hd⟩ => by
    have nch : c ∉ ch := fun z => (hch c z).2.2.1 x c e rfl
    by_cases hc : c ∈ X.fs
    · obtain ⟨sl, q⟩ := slot c o (I.cne x c e) hc nch ho (I.freeC x c e)
      exact ⟨_, q, hd⟩
    · exact ⟨o, keep c o (I.cne x c e) hc nch ho (I.freeC x c e), hd⟩
  refine ⟨I.ok, I.os, hg, ⟨fun b o e n hb hx => ?_, fun b o e n hb hx => ?_, fun b o e n hx => ?_, fun b o e hx => ?_, fun b xs e => tups b xs (I.base.tups b xs e), fun b o xs e => frzs b o xs (I.base.frzs b o xs e), fun b ps e => ?_⟩, ?_, fun x c e => ?_, ?_, fun x c e => ?_, fun p hp => ?_, hok, I.len⟩
  · exact keep b o (neL b o e) hb (neC b o e hx) (I.base.keep b o e n hb hx) (I.base.free b o e n hx)
  · obtain ⟨sl, e1⟩ := I.base.slot b o e n hb hx
    obtain ⟨sl', e2⟩ := slot b _ (neL b o e) hb (neC b o e hx) e1 (I.base.free b o e n hx)
    exact ⟨sl', e2⟩
  · obtain ⟨o', e1⟩ := I.base.there b o e hx
    exact free b o' (neC b o e hx) e1 (I.base.free b o e n hx)
  · obtain ⟨o', e1⟩ := I.base.there b o e hx
    exact there b o' (neC b o e hx) e1
  · obtain ⟨m1, e1⟩ := I.base.tbls b ps e
    obtain ⟨m2, e2⟩ := tbls b _ e1
    exact ⟨m1 ++ m2, by rw [e2, Array.append_assoc]⟩
  · obtain ⟨m, hn, hl⟩ := I.loc
    refine ⟨m, ns m hn, fun i x v e1 e2 e3 => ?_⟩
    obtain ⟨u, r, l⟩ := hl i x v e1 e2 e3
    refine ⟨u, r, ?_⟩
    rcases l with l | ⟨k, c, e, z⟩
    · exact .inl l
    · exact .inr ⟨k, c, e, cellK x c e _ z⟩
  · obtain ⟨v, z⟩ := I.cell x c e
    exact ⟨v, cellK x c e v z⟩
  · obtain ⟨m, ⟨o, _, _, ho, _⟩, _⟩ := I.loc
    exact free _ o (fun z => (hch _ z).2.1 rfl) ho I.free
  · obtain ⟨v, o, ho, hd⟩ := I.cell x c e
    exact free c o (fun z => (hch c z).2.2.1 x c e rfl) ho (I.freeC x c e)
  · obtain ⟨e, n, ne, nf, d⟩ := I.pin p hp
    have nch : p.1 ∉ ch := fun z => (hch p.1 z).2.2.2 p hp rfl
    exact ⟨keep p.1 p.2 ne nf nch e n, free p.1 p.2 nch e n, ne, nf, d⟩
theorem Inv.un {t' : Nat} (I : Inv X pins σ H s) (u : Un X.fs [] H H' s.heap h') (hok : HOk X.prog X.w H' h') : Inv X pins σ H' { s with heap := h', toks := t' } := by
  obtain ⟨m, ⟨o, es, ep, ho, r⟩, _⟩ := id I.loc
  obtain ⟨sl, hL⟩ := u.any ho I.free (by simp)
  exact I.step (g' := s.gens) (d' := s.drawn) (ch := []) (fun _ z => nomatch z) (fun b o _ hb _ e n => u.keep b o e n hb (by simp)) (fun b o _ hb _ e n => u.slot b o e n hb (by simp)) (fun b o _ e n => u.free b o e n (by simp)) (fun b o _ e => u.there b o e (by simp)) u.tups u.frzs u.tbls (fun m' hm => by
    obtain ⟨o', es', ep', ho', r'⟩ := hm
    rw [ho] at ho'; cases ho'
    exact ⟨_, es', ep', hL, r'⟩) hok I.bare
theorem Inv.call {g' : Array GenState} {t' : Nat} {d' : Drawn} {ch : List Addr} (I : Inv X pins σ H s) (u : Un (frs X.stack) ch H H' s.heap h') (hok : HOk X.prog X.w H' h') (hg : AllBare g')
    (hch : ∀ b ∈ ch, (b ∈ X.ex ∨ X.s₀.heap.objs.size ≤ b) ∧ b ≠ X.env.locals ∧ (∀ x c, X.env.cells.lookup x = some c → c ≠ b) ∧ ∀ p ∈ X.pn ++ pins, p.1 ≠ b) :
    Inv X pins σ H' { s with heap := h', gens := g', drawn := d', toks := t' } := by
  obtain ⟨m, ⟨o, es, ep, ho, r⟩, _⟩ := id I.loc
  obtain ⟨sl, hL⟩ := u.any ho I.free fun z => (hch _ z).2.1 rfl
  exact I.step (ch := ch) hch (fun b o hL hb hc e n => u.keep b o e n (fun z => (List.mem_cons.mp (I.stkSub b z)).elim hL hb) hc) (fun b o _ _ hc e n => u.any e n hc) (fun b o hc e n => u.free b o e n hc) (fun b o hc e => u.there b o e hc) u.tups u.frzs u.tbls (fun m' hm => by
    obtain ⟨o', es', ep', ho', r'⟩ := hm
    rw [ho] at ho'; cases ho'
    exact ⟨_, es', ep', hL, r'⟩) hok hg
theorem Inv.turned {t' : Nat} {it : Addr} (I : Inv X pins σ H s) (k : ∀ b o, b ≠ it → s.heap.get? b = some o → h'.get? b = some o) (hn : H it = none) (hL : it ≠ X.env.locals)
    (h1 : it ∈ X.ex ∨ X.s₀.heap.objs.size ≤ it) (h2 : ∀ x c, X.env.cells.lookup x = some c → c ≠ it) (h3 : ∀ p ∈ X.pn ++ pins, p.1 ≠ it) : Inv X pins σ H { s with heap := h', toks := t' } := by
  have nit : ∀ b u, H b = some u → b ≠ it := fun b u e z => by rw [z, hn] at e; cases e
  refine I.step (g' := s.gens) (d' := s.drawn) (ch := [it]) (fun b hb => ?_) (fun b o _ _ hc e _ => k b o (fun z => hc (by simp [z])) e) (fun b o _ _ hc e _ => ⟨o.slots, k b o (fun z => hc (by simp [z])) e⟩) (fun _ _ _ _ n => n)
    (fun b o hc e => ⟨o, k b o (fun z => hc (by simp [z])) e⟩) (fun _ _ e => e) (fun _ _ _ e => e) (fun b ps e => ⟨#[], by rw [e]; simp⟩) (fun m hm => ?_) (fun b u e => ?_) I.bare
  · have e : b = it := by simpa using hb
    subst e
    exact ⟨h1, hL, h2, h3⟩
  · obtain ⟨o, es, ep, ho, r⟩ := hm
    exact ⟨o, es, ep, k _ o (Ne.symm hL) ho, r⟩
  · refine (I.hok b u e).stay (fun c v hc q => k c v ?_ q) (fun _ q => q) fun _ _ q => q
    rcases hc with z | z
    · rw [z]; exact nit b u e
    · exact nit c _ z
theorem Inv.tok (I : Inv X pins σ H s) (t : Nat) : Inv X pins σ H { s with toks := t } := I.un (h' := s.heap) (t' := t) Un.refl I.hok
theorem Inv.kept {t' : Nat} (I : Inv X pins σ H s) (k : ∀ b u, s.heap.get? b = some u → h'.get? b = some u) : Inv X pins σ H { s with heap := h', toks := t' } := I.un (Un.kept k) (I.hok.kept k)
theorem Inv.laid {a : Addr} {o : HO} {t' : Nat} (I : Inv X pins σ H s) (k : ∀ b u, s.heap.get? b = some u → h'.get? b = some u) (hp : s.heap.objs.size ≤ a) (new : ObjOk X.prog X.w (upd H a o) h' a o) :
    Inv X pins σ (upd H a o) { s with heap := h', toks := t' } := I.un (Un.laid k hp (I.hok.fresh hp)) (I.hok.laid k hp new)
theorem Inv.write {x e : Addr} {o : HO} {t' : Nat} (I : Inv X pins σ H s) (mu : Mut (H x)) (he : e = x ∨ H e = some (.own x)) (k : ∀ b u, b ≠ e → s.heap.get? b = some u → h'.get? b = some u) (heo : ∃ u, h'.get? e = some u)
    (new : ObjOk X.prog X.w (upd H x o) h' x o) : Inv X pins σ (upd H x o) { s with heap := h', toks := t' } := I.un (Un.write mu he k heo) (I.hok.write mu he k heo new)
theorem Inv.weak {σ' : List (Option V)} (I : Inv X pins σ H s) (hl : σ'.length = σ.length) (w : ∀ (i : Nat) v, σ'[i]? = some (some v) → σ[i]? = some (some v)) : Inv X pins σ' H s :=
  ⟨I.ok, I.os, I.bare, I.base, let ⟨m, hn, hl'⟩ := I.loc; ⟨m, hn, fun i x v e1 e2 e3 => hl' i x v e1 (w i v e2) e3⟩, I.cell, I.free, I.freeC, I.pin, I.hok, hl.trans I.len⟩
theorem Inv.pins_of {pins' : List (Addr × Obj)} (I : Inv X pins σ H s) (h : ∀ p ∈ pins', s.heap.get? p.1 = some p.2 ∧ H p.1 = none ∧ p.1 ≠ X.env.locals ∧ p.1 ∉ X.fs ∧ ∀ v, p.2.data ≠ .cell v) : Inv X pins' σ H s :=
  ⟨I.ok, I.os, I.bare, I.base, I.loc, I.cell, I.free, I.freeC, fun p hp => (List.mem_append.mp hp).elim (fun z => I.pin p (List.mem_append_left _ z)) (h p), I.hok, I.len⟩

theorem nodup_ix {N : List Str} (hN : N.Nodup) {i j : Nat} {x : Str} (a : N[i]? = some x) (b : N[j]? = some x) : i = j := by
  obtain ⟨h1, e1⟩ := List.getElem?_eq_some_iff.mp a
  obtain ⟨h2, e2⟩ := List.getElem?_eq_some_iff.mp b
  exact (List.getElem_inj hN).mp (e1.trans e2.symm)

theorem store_ok2 {M : Model} {A : Around} {E : Value → Shared → Prop} {i : Nat} {x : Str} {v : V} {u : Value} {Q : Unit → Shared → Prop} (I : Inv X pins σ H s) (hN : X.N.Nodup) (hi : X.N[i]? = some x) (hx : Loc X.env.scope x) (r : RelV v u)
    (h : ∀ s', Inv X pins (σ.set i (some v)) H s' → (∃ a, Heap.SameBut a s.heap s'.heap ∧ (a = X.env.locals ∨ X.env.cells.lookup x = some a)) → Q () s') (hf : autoParam (X.fn x = true ∨ X.env.scope.names.lookup x = some .local) L2.auto1._auto_1) : wpAny M A (storeName X.env x u) Q E s := by
  obtain ⟨m, hn, hl⟩ := id I.loc
  have hcls : (X.env.scope.kind == .class || (X.env.scope.kind == .module && X.env.locals != X.env.globals)) = false := by rw [I.ok.kind]; rfl
  have hiσ : i < σ.length := by rw [I.len]; exact (List.getElem?_eq_some_iff.mp hi).1
  have cne := I.cne
  have tracked : ∀ {a : Addr} {h' : Heap}, (∃ o, s.heap.get? a = some o ∧ H a = none) → Heap.SameBut a s.heap h' → HOk X.prog X.w H h' := fun {a h'} ha hs b ob e => by
    obtain ⟨_, _, hfree⟩ := ha
    refine (I.hok b ob e).stay (fun c w' hc q => (hs.2 c ?_).trans q) (fun _ q => q) fun _ _ q => q
    rintro rfl
    rcases hc with rfl | hc
    · rw [hfree] at e; cases e
    · rw [hfree] at hc; cases hc
  rcases hx with hk | hk
  · refine wpAny_storeName_local hk hn (fun h' hn' hs => ?_) hcls
    obtain ⟨oL, _, _, hoL, _⟩ := id hn
    refine h _ ⟨I.ok, I.os, I.bare, ⟨fun b o e n hb hx => ?_, fun b o e n hb hx => ?_, I.base.free, fun b o e hx => ?_, I.base.tups, I.base.frzs, I.base.tbls⟩, ⟨_, hn', fun j y v' e1 e2 e3 => ?_⟩, fun y c e => ?_, I.free, I.freeC, fun p hp => ?_, tracked ⟨oL, hoL, I.free⟩ hs, by simpa using I.len⟩ ⟨_, hs, .inl rfl⟩
    · exact (hs.2 b (Nat.ne_of_lt (Nat.lt_of_lt_of_le (Heap.lt_size e) I.ok.above))).trans (I.base.keep b o e n hb hx)
    · obtain ⟨sl, e1⟩ := I.base.slot b o e n hb hx
      exact ⟨sl, (hs.2 b (Nat.ne_of_lt (Nat.lt_of_lt_of_le (Heap.lt_size e) I.ok.above))).trans e1⟩
    · obtain ⟨o', e1⟩ := I.base.there b o e hx
      exact ⟨o', (hs.2 b (Nat.ne_of_lt (Nat.lt_of_lt_of_le (Heap.lt_size e) I.ok.above))).trans e1⟩
    · by_cases hj : j = i
      · subst hj
        rw [hi] at e1; cases e1
        rw [List.getElem?_set_self hiσ] at e2
        cases e2
        exact ⟨u, r, .inl ⟨hk, by simp⟩⟩
      · rw [List.getElem?_set_ne (Ne.symm hj)] at e2
        obtain ⟨u', r', q⟩ := hl j y v' e1 e2 e3
        refine ⟨u', r', ?_⟩
        rcases q with ⟨k, e⟩ | ⟨k, c, e, z⟩
        · refine .inl ⟨k, ?_⟩
          have : y ≠ x := fun e => hj (nodup_ix hN e1 (e ▸ hi))
          simp [this, e]
        · exact .inr ⟨k, c, e, z.sameBut hs (cne y c e)⟩
    · obtain ⟨w', z⟩ := I.cell y c e
      exact ⟨w', z.sameBut hs (cne y c e)⟩
    · obtain ⟨e, n, ne, nf, d⟩ := I.pin p hp
      exact ⟨(hs.2 p.1 ne).trans e, n, ne, nf, d⟩
  · have hfn : X.fn x = true := by
      rcases hf with z | z
      · exact z
      · rw [z] at hk; cases hk
    obtain ⟨c, hc⟩ := I.ok.has x (.inl hk)
    obtain ⟨w', z⟩ := I.cell x c hc
    refine wpAny_storeName_cell I.ok.kind hk hc z (fun h' hc' hs => ?_)
    obtain ⟨oc, hoc, hocd⟩ := id z
    refine h { s with heap := h' } ⟨I.ok, I.os, I.bare, ⟨fun b o e n hb hx => ?_, fun b o e n hb hx => ?_, I.base.free, fun b o e hx => ?_, I.base.tups, I.base.frzs, I.base.tbls⟩, ⟨m, hn.sameBut hs (Ne.symm (cne x c hc)), fun j y v' e1 e2 e3 => ?_⟩, fun y c' e => ?_, I.free, I.freeC, fun p hp => ?_, tracked ⟨oc, hoc, I.freeC x c hc⟩ hs, by simpa using I.len⟩ ⟨c, hs, .inr hc⟩
    · exact (hs.2 b (Nat.ne_of_lt (Nat.lt_of_lt_of_le (Heap.lt_size e) (I.ok.cab x c hfn hc)))).trans (I.base.keep b o e n hb hx)
    · obtain ⟨sl, e1⟩ := I.base.slot b o e n hb hx
      exact ⟨sl, (hs.2 b (Nat.ne_of_lt (Nat.lt_of_lt_of_le (Heap.lt_size e) (I.ok.cab x c hfn hc)))).trans e1⟩
    · obtain ⟨o', e1⟩ := I.base.there b o e hx
      exact ⟨o', (hs.2 b (Nat.ne_of_lt (Nat.lt_of_lt_of_le (Heap.lt_size e) (I.ok.cab x c hfn hc)))).trans e1⟩
    · by_cases hj : j = i
      · subst hj
        rw [hi] at e1; cases e1
        rw [List.getElem?_set_self hiσ] at e2
        cases e2
        exact ⟨u, r, .inr ⟨.inl hk, c, hc, hc'⟩⟩
      · rw [List.getElem?_set_ne (Ne.symm hj)] at e2
        obtain ⟨u', r', q⟩ := hl j y v' e1 e2 e3
        refine ⟨u', r', ?_⟩
        rcases q with q | ⟨k, c', e, z'⟩
        · exact .inl q
        · refine .inr ⟨k, c', e, z'.sameBut hs ?_⟩
          rintro rfl
          exact hj (nodup_ix hN e1 (I.ok.inj _ _ _ e hc ▸ hi))
    · by_cases hcc : c' = c
      · subst hcc; exact ⟨_, hc'⟩
      · obtain ⟨w2, z2⟩ := I.cell y c' e
        exact ⟨w2, z2.sameBut hs hcc⟩
    · obtain ⟨e, n, ne, nf, d⟩ := I.pin p hp
      refine ⟨(hs.2 p.1 ?_).trans e, n, ne, nf, d⟩
      intro q
      rw [q, hoc] at e
      have q' : oc = p.2 := Option.some.inj e
      exact d w' (by rw [← q']; exact hocd)
theorem store_ok {M : Model} {A : Around} {E : Value → Shared → Prop} {i : Nat} {x : Str} {v : V} {u : Value} {Q : Unit → Shared → Prop} (I : Inv X pins σ H s) (hN : X.N.Nodup) (hi : X.N[i]? = some x) (hx : Loc X.env.scope x) (r : RelV v u)
    (h : ∀ s', Inv X pins (σ.set i (some v)) H s' → Q () s') (hf : autoParam (X.fn x = true ∨ X.env.scope.names.lookup x = some .local) L2.auto1._auto_1) : wpAny M A (storeName X.env x u) Q E s :=
  store_ok2 I hN hi hx r (fun s' I' _ => h s' I') hf
theorem Inv.call' {s' : Shared} {ch : List Addr} (I : Inv X pins σ H s) (ho : s'.os = s.os) (u : Un (frs X.stack) ch H H' s.heap s'.heap) (hok : HOk X.prog X.w H' s'.heap) (hg : AllBare s'.gens)
    (hch : ∀ b ∈ ch, (b ∈ X.ex ∨ X.s₀.heap.objs.size ≤ b) ∧ b ≠ X.env.locals ∧ (∀ x c, X.env.cells.lookup x = some c → c ≠ b) ∧ ∀ p ∈ X.pn ++ pins, p.1 ≠ b) : Inv X pins σ H' s' := by
  obtain ⟨h', g', d', t', o'⟩ := s'
  have e : o' = s.os := ho
  subst e
  exact I.call (g' := g') (t' := t') (d' := d') u hok hg hch
end

noncomputable abbrev XK := Value → Option Addr → Hp → Prop
noncomputable abbrev St := List (Option V)
noncomputable abbrev VK := V → Hp → Prop
noncomputable abbrev TE := St → Hp → VK → Prop
noncomputable abbrev TT := St → Hp → (Bool → Hp → Prop) → Prop
noncomputable abbrev TA := St → Hp → (List V → Hp → Prop) → Prop
structure Ends where
  nx : St → Hp → Prop
  rt : VK
  bk : St → Hp → Prop := fun _ _ => False
  ct : St → Hp → Prop := fun _ _ => False
noncomputable abbrev TS := Ends → St → Hp → Prop

noncomputable def EP (X : Cx) (pins : List (Addr × Obj)) (σ : St) (Q : VK) (u : Value) (s' : Shared) : Prop := ∃ v H', Inv X pins σ H' s' ∧ RelV v u ∧ Q v H'
noncomputable def TP (X : Cx) (pins : List (Addr × Obj)) (σ : St) (Q : Bool → Hp → Prop) (b : Bool) (s' : Shared) : Prop := ∃ H', Inv X pins σ H' s' ∧ Q b H'
noncomputable def AP (X : Cx) (pins : List (Addr × Obj)) (σ : St) (Q : List V → Hp → Prop) (us : List Value) (s' : Shared) : Prop := ∃ vs H', Inv X pins σ H' s' ∧ Vals vs us ∧ Q vs H'
noncomputable def SP (X : Cx) (pins : List (Addr × Obj)) (D : Ends) (f : Flow) (s' : Shared) : Prop :=
  match f with
  | .next => ∃ σ' H', Inv X pins σ' H' s' ∧ D.nx σ' H'
  | .brk => ∃ σ' H', Inv X pins σ' H' s' ∧ D.bk σ' H'
  | .cont => ∃ σ' H', Inv X pins σ' H' s' ∧ D.ct σ' H'
  | .ret u => ∃ v σ' H', Inv X pins σ' H' s' ∧ RelV v u ∧ D.rt v H'

noncomputable def PE (X : Cx) (e : Expr) (t : TE) : Prop :=
  ∀ (pins : List (Addr × Obj)) (s : Shared) (σ : St) (H : Hp) (Q : VK), Inv X pins σ H s → t σ H Q → wpAny (model X.prog X.w) X.A (eval e X.env) (EP X pins σ Q) X.xe s
noncomputable def PT (X : Cx) (e : Expr) (t : TT) : Prop :=
  ∀ (pins : List (Addr × Obj)) (s : Shared) (σ : St) (H : Hp) (Q : Bool → Hp → Prop), Inv X pins σ H s → t σ H Q → wpAny (model X.prog X.w) X.A (isTrue e X.env (eval e X.env)) (TP X pins σ Q) X.xe s
noncomputable def PW (X : Cx) (e : Expr) (t : TT) : Prop :=
  ∀ (whole : Sem Value) (pins : List (Addr × Obj)) (s : Shared) (σ : St) (H : Hp) (Q : Bool → Hp → Prop), Inv X pins σ H s → t σ H Q → wpAny (model X.prog X.w) X.A (isTrue e X.env whole) (TP X pins σ Q) X.xe s
theorem PW.pt {X : Cx} {e : Expr} {t : TT} (h : PW X e t) : PT X e t := h _
noncomputable def PA (X : Cx) (es : List Expr) (t : TA) : Prop :=
  ∀ (pos : Pos) (pins : List (Addr × Obj)) (s : Shared) (σ : St) (H : Hp) (Q : List V → Hp → Prop), Inv X pins σ H s → t σ H Q → wpAny (model X.prog X.w) X.A (spliced (backTo pos (starEach es X.env))) (AP X pins σ Q) X.xe s
noncomputable def PS (X : Cx) (st : Stmt) (t : TS) : Prop :=
  ∀ (pins : List (Addr × Obj)) (s : Shared) (σ : St) (H : Hp) (D : Ends), Inv X pins σ H s → t D σ H → wpAny (model X.prog X.w) X.A (exec st X.env) (SP X pins D) X.xe s
noncomputable def PSs (X : Cx) (st : List Stmt) (t : TS) : Prop :=
  ∀ (pins : List (Addr × Obj)) (s : Shared) (σ : St) (H : Hp) (D : Ends), Inv X pins σ H s → t D σ H → wpAny (model X.prog X.w) X.A (execs st X.env) (SP X pins D) X.xe s
theorem thn {α : Type} {t : Sem α} {Q Q' : α → Shared → Prop} {M : Model} {A : Around} {E : Value → Shared → Prop} {s : Shared} (h : wpAny M A t Q E s) (hQ : ∀ a s, Q a s → Q' a s) : wpAny M A t Q' E s := wpAny_mono h hQ fun _ _ x => x
end L2

namespace L2
open PySem PySem.Spec PyProof.Rows
section
variable {X : Cx}

noncomputable def tVar (i : Nat) : TE := fun σ H Q => ∃ v, σ[i]? = some (some v) ∧ Q v H
noncomputable def tC (v : V) : TE := fun _ H Q => Q v H
theorem pe_var {i : Nat} {x : Str} {pos : Pos} (hN : X.N[i]? = some x) (hv : Vis X.env.scope x) (hd : autoParam ((x == ("__debug__" : Str)) = false) L2.auto2._auto_1) (hcd : autoParam ((x == ("__classdict__" : Str)) = false) L2.auto2._auto_1) : PE X (.Name x pos) (tVar i) := by
  intro pins s σ H Q I h
  obtain ⟨v, e, h⟩ := h
  obtain ⟨m, hn, hl⟩ := I.loc
  obtain ⟨u, r, l⟩ := hl i x v hN e hv
  have fin : EP X pins σ Q u s := ⟨v, H, I, r, h⟩
  rcases l with ⟨hk, hm⟩ | ⟨hk, c, hc, hcell⟩
  · exact wpAny_Name (wpAny_loadName_local I.ok.kind hk hn hm fin) hd
  · rcases hk with hk | hk
    · exact wpAny_Name (wpAny_loadName_cell I.ok.kind hk hc hcell fin) hd
    · exact wpAny_Name (wpAny_loadName_free I.ok.kind hk hc hcell fin hcd) hd
theorem pe_int {i j pos} : PE X (.Constant (.int i) j pos) (tC (.int i)) := fun _ _ _ H _ I h => wpAny_Constant_int ⟨.int i, H, I.tok _, ⟨_, rfl⟩, h⟩
theorem pe_bl {b j pos} : PE X (.Constant (.bool b) j pos) (tC (.bl b)) := fun _ _ _ H _ I h => Constant_bool ⟨.bl b, H, I, rfl, h⟩
noncomputable def Gl (X : Cx) (x : Str) : Prop := X.env.kindOf x = some .globalImplicit
theorem ld_glob {E : Value → Shared → Prop} {pins : List (Addr × Obj)} {s : Shared} {σ : St} {H : Hp} {x : Str} {u : Value} {pos : Pos} {Q : Value → Shared → Prop} (I : Inv X pins σ H s) (hg : Gl X x) (hm : X.mg x = some u) (h : Q u s)
    (hd : autoParam ((x == ("__debug__" : Str)) = false) L2.auto2._auto_1) : wpAny (model X.prog X.w) X.A (eval (.Name x pos) X.env) Q E s :=
  Calls.Name_function_global I.ok.kind hg (Calls.loadGlobal_global (by rw [I.ok.glob]; exact I.mod.glob.keeps I.bk) hm h) hd
theorem ld_blt {E : Value → Shared → Prop} {pins : List (Addr × Obj)} {s : Shared} {σ : St} {H : Hp} {x : Str} {u : Value} {pos : Pos} {Q : Value → Shared → Prop} (I : Inv X pins σ H s) (hg : Gl X x) (hm : X.mg x = none) (hv : bootBuiltins x = some u) (h : Q u s)
    (hn : autoParam (x ≠ "__name__") L2.auto2._auto_1) (hd : autoParam ((x == ("__debug__" : Str)) = false) L2.auto2._auto_1) : wpAny (model X.prog X.w) X.A (eval (.Name x pos) X.env) Q E s := by
  obtain ⟨mb, h1, h2⟩ := I.mod.blt
  exact Calls.Name_function_global I.ok.kind hg (Calls.loadGlobal_builtin (by rw [I.ok.glob]; exact I.mod.glob.keeps I.bk) hm (by rw [I.ok.blt]; exact h1.keeps I.bk) ((h2 x hn).trans hv) h) hd
theorem pe_glob {x : Str} {v : V} {u : Value} {pos : Pos} (hg : Gl X x) (hm : X.mg x = some u) (r : RelV v u) (hd : autoParam ((x == ("__debug__" : Str)) = false) L2.auto2._auto_1) : PE X (.Name x pos) (tC v) :=
  fun _ _ _ H _ I h => ld_glob I hg hm ⟨v, H, I, r, h⟩ hd
theorem pe_bltn {x : Str} {v : V} {u : Value} {pos : Pos} (hg : Gl X x) (hm : X.mg x = none) (hv : bootBuiltins x = some u) (r : RelV v u) (hn : autoParam (x ≠ "__name__") L2.auto2._auto_1) (hd : autoParam ((x == ("__debug__" : Str)) = false) L2.auto2._auto_1) : PE X (.Name x pos) (tC v) :=
  fun _ _ _ H _ I h => ld_blt I hg hm hv ⟨v, H, I, r, h⟩ hn hd

variable {a b : Expr} {ta tb : TE} {pos : Pos}
noncomputable def tB (t : TE) : TT := fun σ H Q => t σ H fun x H1 => ∃ c, x = .bl c ∧ Q c H1
theorem pt_val {e : Expr} {t : TE} (h : PE X e t) (he : autoParam (∀ whole, isTrue e X.env whole = (do let v ← whole; standAt e.pos; holding [v] (truthy v))) L2.auto3._auto_1) : PT X e (tB t) := by
  intro pins s σ H Q I hw
  refine isTrue_plain (thn (h pins s σ H _ I hw) fun v s1 qq0 => ?_) (he _)
  obtain ⟨x, H1, I1, r1, q1⟩ := qq0
  obtain ⟨d, rfl, q⟩ := q1
  cases r1
  exact wpAny_truthy_bool ⟨H1, I1, q⟩

variable {tA tB' : TT} {rest : List Expr}
noncomputable def tAnd (t u : TT) : TT := fun σ H Q => t σ H fun c H1 => if c = true then u σ H1 Q else Q false H1
noncomputable def tOr (t u : TT) : TT := fun σ H Q => t σ H fun c H1 => if c = true then Q true H1 else u σ H1 Q
noncomputable def tNot (t : TT) : TT := fun σ H Q => t σ H fun c H1 => Q (!c) H1
theorem pw_and1 (ha : PT X a tA) : PW X (.BoolOp .And [a] pos) tA := by
  intro wh pins s σ H Q I h
  refine isTrue_and (thn (ha pins s σ H Q I h) fun c s1 e => ?_)
  cases c with
  | true => exact isTrue_and_nil e
  | false => exact e
theorem pw_or1 (ha : PT X a tA) : PW X (.BoolOp .Or [a] pos) tA := by
  intro wh pins s σ H Q I h
  refine isTrue_or (thn (ha pins s σ H Q I h) fun c s1 e => ?_)
  cases c with
  | false => exact isTrue_or_nil e
  | true => exact e
theorem pw_and (ha : PT X a tA) (hb : PW X (.BoolOp .And (b :: rest) pos) tB') : PW X (.BoolOp .And (a :: b :: rest) pos) (tAnd tA tB') := by
  intro wh pins s σ H Q I h
  refine isTrue_and (thn (ha pins s σ H _ I h) fun c s1 qq0 => ?_)
  obtain ⟨H1, I1, q1⟩ := qq0
  cases c with
  | true => exact hb wh pins s1 σ H1 Q I1 q1
  | false => exact ⟨H1, I1, q1⟩
theorem pw_or (ha : PT X a tA) (hb : PW X (.BoolOp .Or (b :: rest) pos) tB') : PW X (.BoolOp .Or (a :: b :: rest) pos) (tOr tA tB') := by
  intro wh pins s σ H Q I h
  refine isTrue_or (thn (ha pins s σ H _ I h) fun c s1 qq0 => ?_)
  obtain ⟨H1, I1, q1⟩ := qq0
  cases c with
  | true => exact ⟨H1, I1, q1⟩
  | false => exact hb wh pins s1 σ H1 Q I1 q1
theorem pt_not (ha : PT X a tA) : PT X (.UnaryOp .Not a pos) (tNot tA) := by
  intro pins s σ H Q I h
  exact isTrue_not (ha pins s σ H (fun c H1 => Q (!c) H1) I h)
noncomputable def tAndV (ta tb : TE) : TE := fun σ H Q => ta σ H fun x H1 => ∃ c, x = .bl c ∧ if c = true then tb σ H1 Q else Q (.bl false) H1
noncomputable def tNotV (ta : TE) : TE := fun σ H Q => ta σ H fun x H1 => ∃ c, x = .bl c ∧ Q (.bl (!c)) H1
theorem pe_one {op} {t : TE} (h : PE X a t) : PE X (.BoolOp op [a] pos) t := fun pins s σ H Q I hw => BoolOp_one (h pins s σ H Q I hw)
theorem pe_and (ha : PE X a ta) (hb : PE X (.BoolOp .And (b :: rest) pos) tb) : PE X (.BoolOp .And (a :: b :: rest) pos) (tAndV ta tb) := by
  intro pins s σ H Q I h
  refine BoolOp_and (thn (ha pins s σ H _ I h) fun v s1 qq0 => ?_)
  obtain ⟨x, H1, I1, r1, q1⟩ := qq0
  obtain ⟨c, rfl, q1⟩ := q1
  cases r1
  refine wpAny_truthy_bool ?_
  cases c with
  | true => exact hb pins s1 σ H1 Q I1 q1
  | false => exact ⟨.bl false, H1, I1, rfl, q1⟩
theorem pe_not (ha : PE X a ta) : PE X (.UnaryOp .Not a pos) (tNotV ta) := by
  intro pins s σ H Q I h
  refine UnaryOp_ (thn (ha pins s σ H _ I h) fun v s1 qq0 => ?_)
  obtain ⟨x, H1, I1, r1, q1⟩ := qq0
  obtain ⟨c, rfl, q1⟩ := q1
  cases r1
  exact not_of (wpAny_truthy_bool ⟨.bl (!c), H1, I1, rfl, q1⟩)
end
end L2

namespace L2
open PySem PySem.Spec PyProof.Rows

noncomputable def SqL (K : PySem.W.Frag) (H : Hp) (a : Addr) (xs : List V) : Prop :=
  Rd H a (.lst xs) ∨
    ∃ (o : Obj) (its : Array Value) (n : Nat), K.lookup a = some o ∧ o.cls = .type "list" ∧ o.dict = none ∧ o.data = .seq its n ∧ its.size ≤ sizeLine ∧ Vals xs its.toList
noncomputable def SqT (K : PySem.W.Frag) (H : Hp) (a : Addr) (xs : List V) : Prop :=
  Rd H a (.tup xs) ∨
    ∃ (o : Obj) (its : Array Value) (n : Nat), K.lookup a = some o ∧ o.cls = .type "tuple" ∧ o.data = .seq its n ∧ its.size ≤ sizeLine ∧ Vals xs its.toList
noncomputable def absV : Value → Option V
  | .none => some .non
  | .bool b => some (.bl b)
  | .int i _ => some (.int i)
  | .str x _ => some (.str x)
  | .bytes b _ => some (.byt b)
  | .float b _ => some (.flt b)
  | .ref a => some (.ref a)
  | .type n => some (.ty n)
  | _ => none
theorem RelV.abs {x : V} {u : Value} (r : RelV x u) : absV u = some x := by
  cases x with
  | non => cases r; rfl
  | bl _ => cases r; rfl
  | int _ => obtain ⟨t, rfl⟩ := r; rfl
  | str _ => obtain ⟨t, rfl⟩ := r; rfl
  | byt _ => obtain ⟨t, rfl⟩ := r; rfl
  | flt _ => obtain ⟨t, rfl⟩ := r; rfl
  | ref _ => cases r; rfl
  | ty _ => cases r; rfl
theorem RelV.inj {x y : V} {u : Value} (r : RelV x u) (q : RelV y u) : x = y := Option.some.inj (r.abs.symm.trans q.abs)
theorem Vals.inj : ∀ {xs ys : List V} {us : List Value}, Vals xs us → Vals ys us → xs = ys
  | _, _, _, .nil, .nil => rfl
  | _, _, _, .cons r t, .cons r' t' => by rw [r.inj r', Vals.inj t t']
section
variable {X : Cx} {pins : List (Addr × Obj)} {σ : St} {H : Hp} {s : Shared} {a : Addr} {xs ys : List V}
theorem SqL.of {K : PySem.W.Frag} (h : H a = some (.lst xs)) : SqL K H a xs := .inl (.inl h)
theorem SqT.of {K : PySem.W.Frag} (h : H a = some (.tup xs)) : SqT K H a xs := .inl (.inl h)
theorem Inv.list (I : Inv X pins σ H s) (h : SqL X.K H a xs) : ∃ its : List Value, Vals xs its ∧ PlainL s.heap a its.toArray ∧ xs.length ≤ sizeLine := by
  rcases h with h | ⟨o, its, n, hk, hc, hd, hs, hz, r⟩
  · obtain ⟨z, its, n, r, e⟩ := h.ok I.hok
    exact ⟨its, r, ⟨_, n, e, rfl, rfl, rfl⟩, z⟩
  · refine ⟨its.toList, r, ⟨o, n, I.kIn a o hk, hc, hd, by simpa using hs⟩, ?_⟩
    have e := r.length
    simp only [Array.length_toList] at e
    omega
theorem Inv.tuple (I : Inv X pins σ H s) (h : SqT X.K H a xs) : ∃ its : List Value, Vals xs its ∧ IsTup s.heap a its.toArray ∧ xs.length ≤ sizeLine := by
  rcases h with h | ⟨o, its, n, hk, hc, hs, hz, r⟩
  · obtain ⟨z, its, r, p⟩ := h.ok I.hok
    exact ⟨its, r, p, z⟩
  · refine ⟨its.toList, r, ⟨o, I.kIn a o hk, hc, n, by simpa using hs⟩, ?_⟩
    have e := r.length
    simp only [Array.length_toList] at e
    omega
theorem Inv.list_inj (I : Inv X pins σ H s) (h : SqL X.K H a xs) (h' : SqL X.K H a ys) : xs = ys := by
  obtain ⟨its, r, ⟨o, n, e, _, _, d⟩, _⟩ := I.list h
  obtain ⟨its', r', ⟨o', n', e', _, _, d'⟩, _⟩ := I.list h'
  rw [e] at e'; cases e'
  rw [d] at d'
  injection d' with d1 _
  have : its = its' := by simpa using congrArg Array.toList d1
  subst this
  exact r.inj r'
theorem Inv.tuple_inj (I : Inv X pins σ H s) (h : SqT X.K H a xs) (h' : SqT X.K H a ys) : xs = ys := by
  obtain ⟨its, r, ⟨o, e, _, n, d⟩, _⟩ := I.tuple h
  obtain ⟨its', r', ⟨o', e', _, n', d'⟩, _⟩ := I.tuple h'
  rw [e] at e'; cases e'
  rw [d] at d'
  injection d' with d1 _
  have : its = its' := by simpa using congrArg Array.toList d1
  subst this
  exact r.inj r'
end

noncomputable abbrev Cx.wish (X : Cx) (E : Value → Shared → Prop) : Cx := { X with xe := E }
noncomputable abbrev Cx.nox (X : Cx) : Cx := X.wish fun _ _ => False
theorem Cx.Ok.wish {X : Cx} (ok : X.Ok) (E : Value → Shared → Prop) : (X.wish E).Ok :=
  ⟨ok.mod, ok.kind, ok.glob, ok.blt, ok.above, ok.inj, ok.has, ok.cab, ok.hd, ok.frames, ok.stk, ok.exf, ok.bs, ok.bsz, ok.noex, ok.exfs, ok.funs, ok.frf⟩
theorem Cx.Ok.unwish {X : Cx} {E : Value → Shared → Prop} (ok : (X.wish E).Ok) : X.Ok :=
  ⟨ok.mod, ok.kind, ok.glob, ok.blt, ok.above, ok.inj, ok.has, ok.cab, ok.hd, ok.frames, ok.stk, ok.exf, ok.bs, ok.bsz, ok.noex, ok.exfs, ok.funs, ok.frf⟩
section
variable {X : Cx} {pins : List (Addr × Obj)} {σ : St} {H : Hp} {s : Shared} {E : Value → Shared → Prop}
theorem Inv.wish (I : Inv X pins σ H s) (E : Value → Shared → Prop) : Inv (X.wish E) pins σ H s := ⟨I.ok.wish E, I.os, I.bare, I.base, I.loc, I.cell, I.free, I.freeC, I.pin, I.hok, I.len⟩
theorem Inv.unwish (I : Inv (X.wish E) pins σ H s) : Inv X pins σ H s := ⟨I.ok.unwish, I.os, I.bare, I.base, I.loc, I.cell, I.free, I.freeC, I.pin, I.hok, I.len⟩
theorem SP.unwish {D : Ends} {f : Flow} {s' : Shared} (h : SP (X.wish E) pins D f s') : SP X pins D f s' := by
  cases f with
  | next => obtain ⟨σ', H', I, q⟩ := h; exact ⟨σ', H', I.unwish, q⟩
  | brk => obtain ⟨σ', H', I, q⟩ := h; exact ⟨σ', H', I.unwish, q⟩
  | cont => obtain ⟨σ', H', I, q⟩ := h; exact ⟨σ', H', I.unwish, q⟩
  | ret u => obtain ⟨v, σ', H', I, r, q⟩ := h; exact ⟨v, σ', H', I.unwish, r, q⟩
theorem PSs.nox {st : List Stmt} {t : TS} (h : PSs X.nox st t) : PSs X st t := fun pins s σ H D I hw =>
  wpAny_mono (h pins s σ H D (I.wish _) hw) (fun _ _ q => q.unwish) fun _ _ z => False.elim z
end

section
variable {X : Cx} {st : Stmt} {rest : List Stmt} {t u : TS} {e : Expr} {te : TE} {pos : Pos}
noncomputable def tNext : TS := fun D σ H => D.nx σ H
noncomputable def tSeq (t u : TS) : TS := fun D σ H => t { D with nx := u D } σ H
theorem pss_nil : PSs X [] tNext := fun _ _ σ H _ I h => wpAny_execs_nil ⟨σ, H, I, h⟩
theorem pss_cons (h1 : PS X st t) (h2 : PSs X rest u) : PSs X (st :: rest) (tSeq t u) := by
  intro pins s σ H D I h
  refine wpAny_execs_cons (thn (h1 pins s σ H { D with nx := u D } I h) fun f s1 q => ?_)
  cases f with
  | next =>
    obtain ⟨σ', H', I', q⟩ := q
    exact h2 pins s1 σ' H' D I' q
  | ret v => exact q
  | brk => exact q
  | cont => exact q
theorem pss_one (h1 : PS X st t) : PSs X [st] t := by
  intro pins s σ H D I h
  refine wpAny_execs_cons (thn (h1 pins s σ H D I h) fun f s1 q => ?_)
  cases f with
  | next => exact wpAny_execs_nil q
  | ret v => exact q
  | brk => exact q
  | cont => exact q
theorem Inv.quiet {pins : List (Addr × Obj)} {σ : St} {H : Hp} {s : Shared} (I : Inv X pins σ H s) : interactive X.env = false := by simp [interactive, I.ok.kind]
noncomputable def tDrop (te : TE) : TS := fun D σ H => te σ H fun _ H1 => D.nx σ H1
theorem ps_expr (he : PE X e te) (hs : autoParam (swapsWith e none pos.line X.env = pure false) L2.auto4._auto_1) : PS X (.Expr e pos) (tDrop te) := by
  intro pins s σ H D I h
  exact wpAny_Expr_any (thn (he pins s σ H _ I h) fun v s1 ⟨x, H1, I1, r1, q1⟩ => ⟨σ, H1, I1, q1⟩) I.quiet hs
noncomputable def tRet (te : TE) : TS := fun D σ H => te σ H D.rt
theorem ps_ret (he : PE X e te) : PS X (.Return (some e) pos) (tRet te) := by
  intro pins s σ H D I h
  exact wpAny_Return_some (thn (he pins s σ H _ I h) fun v s1 ⟨x, H1, I1, r1, q1⟩ => ⟨x, σ, H1, I1, r1, q1⟩)
noncomputable def tIfS (c : TT) (t u : TS) : TS := fun D σ H => c σ H fun b H1 => if b = true then t D σ H1 else u D σ H1
theorem ps_if {c : Expr} {a b : List Stmt} {tc : TT} (hc : PT X c tc) (ha : PSs X a t) (hb : PSs X b u) : PS X (.If c a b pos) (tIfS tc t u) := by
  intro pins s σ H D I h
  refine wpAny_If (thn (hc pins s σ H _ I h) fun d s1 qq0 => ?_)
  obtain ⟨H1, I1, q1⟩ := qq0
  cases d with
  | true => exact ha pins s1 σ H1 D I1 q1
  | false => exact hb pins s1 σ H1 D I1 q1
end

noncomputable abbrev TG := V → St → Hp → (St → Hp → Prop) → Prop
noncomputable abbrev TGs := List V → St → Hp → (St → Hp → Prop) → Prop
noncomputable def PG (X : Cx) (target : Expr) (t : TG) : Prop :=
  ∀ (pins : List (Addr × Obj)) (s : Shared) (σ : St) (H : Hp) (v : V) (u : Value) (Q : St → Hp → Prop), Inv X pins σ H s → RelV v u → t v σ H Q →
    wpAny (model X.prog X.w) X.A (assign target X.env u) (fun _ s' => ∃ σ' H', Inv X pins σ' H' s' ∧ Q σ' H') X.xe s
noncomputable def PGs (X : Cx) (ts : List Expr) (t : TGs) : Prop :=
  ∀ (pins : List (Addr × Obj)) (s : Shared) (σ : St) (H : Hp) (vs : List V) (us : List Value) (Q : St → Hp → Prop), Inv X pins σ H s → Vals vs us → t vs σ H Q →
    wpAny (model X.prog X.w) X.A (assignInOrder ((assignEach ts X.env).map (·.2)) us) (fun _ s' => ∃ σ' H', Inv X pins σ' H' s' ∧ Q σ' H') X.xe s
noncomputable abbrev TSet := V → V → V → Hp → (Hp → Prop) → Prop
noncomputable def PSet (X : Cx) (t : TSet) : Prop :=
  ∀ (pins : List (Addr × Obj)) (s : Shared) (σ : St) (H : Hp) (o i v : V) (ov iv u : Value) (Q : Hp → Prop), Inv X pins σ H s → RelV o ov → RelV i iv → RelV v u → t o i v H Q →
    wpAny (model X.prog X.w) X.A (setItem ov iv u) (fun _ s' => ∃ H', Inv X pins σ H' s' ∧ Q H') X.xe s
noncomputable abbrev TIp := V → V → Hp → VK → Prop
noncomputable def PIp (X : Cx) (op : Operator) (t : TIp) : Prop :=
  ∀ (pins : List (Addr × Obj)) (s : Shared) (σ : St) (H : Hp) (x y : V) (v u : Value) (Q : VK), Inv X pins σ H s → RelV x v → RelV y u → t x y H Q →
    wpAny (model X.prog X.w) X.A (inplaceOp op v u) (EP X pins σ Q) X.xe s
section
variable {X : Cx} {pos : Pos}
noncomputable def gName (i : Nat) : TG := fun v σ H Q => Q (σ.set i (some v)) H
theorem pg_name {i : Nat} {x : Str} (hN : X.N.Nodup) (hi : X.N[i]? = some x) (hx : Loc X.env.scope x) (hf : autoParam (X.fn x = true ∨ X.env.scope.names.lookup x = some .local) L2.auto1._auto_1) : PG X (.Name x pos) (gName i) := by
  intro pins s σ H v u Q I r h
  exact wpAny_assign_Name (store_ok I hN hi hx r (fun s' I' => ⟨_, H, I', h⟩) hf)
noncomputable def gNil : TGs := fun vs σ H Q => vs = [] ∧ Q σ H
noncomputable def gCons (t : TG) (u : TGs) : TGs := fun vs σ H Q => ∃ v r, vs = v :: r ∧ t v σ H fun σ' H' => u r σ' H' Q
theorem pgs_nil : PGs X [] gNil := by
  intro pins s σ H vs us Q I r h
  obtain ⟨e, h⟩ := h
  subst e
  cases r
  exact assignInOrder_nil ⟨σ, H, I, h⟩
theorem pgs_cons {e : Expr} {es : List Expr} {t : TG} {u : TGs} (h1 : PG X e t) (h2 : PGs X es u)
    (hs : autoParam ((assignEach (e :: es) X.env).map (·.2) = assign e X.env :: (assignEach es X.env).map (·.2)) L2.auto4._auto_1) : PGs X (e :: es) (gCons t u) := by
  intro pins s σ H vs us Q I r h
  obtain ⟨v, vr, e1, h⟩ := h
  subst e1
  cases r with
  | cons r rr =>
    rw [hs]
    refine assignInOrder_cons (thn (h1 pins s σ H _ _ _ I r h) fun _ s1 qq0 => ?_)
    obtain ⟨σ1, H1, I1, q1⟩ := qq0
    exact h2 pins s1 σ1 H1 _ _ Q I1 rr q1
noncomputable def gTup (K : PySem.W.Frag) (n : Nat) (t : TGs) : TG := fun v σ H Q => ∃ a xs, v = .ref a ∧ SqT K H a xs ∧ xs.length = n ∧ t xs σ H Q
theorem pg_tup {es : List Expr} {k : Nat} {t : TGs} {n : Nat} (hc : X.calm = true) (h : PGs X es t)
    (hn : autoParam ((assignEach es X.env).length = n) L2.auto4._auto_1) (hst : autoParam ((assignEach es X.env).findIdx? (·.1) = none) L2.auto4._auto_1) : PG X (.Tuple es k pos) (gTup X.K n t) := by
  intro pins s σ H v u Q I r hw
  obtain ⟨a, xs, e1, hq, hl, hw⟩ := hw
  subst e1
  cases r
  obtain ⟨its, rv, ht, hz⟩ := I.tuple hq
  refine assign_Tuple_tuple (I.ok.hd hc) ht (by simp [hn, ← hl, rv.length]) hst fun h' hx => ?_
  have I1 : Inv X pins σ H { s with heap := h' } := I.kept (t' := s.toks) fun b o e => hx b o (Nat.ne_of_lt (Heap.lt_size e)) e
  exact h pins _ σ H xs _ Q I1 (by simpa using rv) hw
noncomputable def gSub (to ti : TE) (t : TSet) : TG := fun v σ H Q => to σ H fun o H1 => ti σ H1 fun i H2 => t o i v H2 fun H3 => Q σ H3
theorem pg_sub {o i : Expr} {to ti : TE} {t : TSet} (ho : PE X o to) (hi : PE X i ti) (hs : PSet X t)
    (ha : ∀ v, assign (.Subscript o i pos) X.env v = (do
      let ov ← holding [v] (eval o X.env)
      let iv ← holding [v, ov] (eval i X.env)
      standAt pos
      holding [v, ov, iv] (setItem ov iv v)
      release [v, ov, iv] []) := by intro _; rfl) : PG X (.Subscript o i pos) (gSub to ti t) := by
  intro pins s σ H v u Q I r h
  rw [ha]
  refine wpAny_bind (wpAny_holding (thn (ho pins s σ H _ I h) fun ov s1 qq0 => ?_))
  obtain ⟨x, H1, I1, r1, q1⟩ := qq0
  refine wpAny_bind (wpAny_holding (thn (hi pins s1 σ H1 _ I1 q1) fun iv s2 qq0 => ?_))
  obtain ⟨y, H2, I2, r2, q2⟩ := qq0
  refine wpAny_bind (wpAny_standAt (wpAny_bind (wpAny_holding (thn (hs pins s2 σ H2 x y v ov iv u _ I2 r1 r2 r q2) fun _ s3 qq0 => ?_))))
  obtain ⟨H3, I3, q3⟩ := qq0
  exact wpAny_release ⟨σ, H3, I3, q3⟩
noncomputable def tAsg (te : TE) (g : TG) : TS := fun D σ H => te σ H fun x H1 => g x σ H1 D.nx
theorem ps_asg {tg e : Expr} {te : TE} {g : TG} (he : PE X e te) (hg : PG X tg g) (hs : autoParam (swapsWithSole [tg] e pos.line X.env = pure false) L2.auto4._auto_1) (hw : autoParam (swappedStores [tg] e X.env = pure none) L2.auto4._auto_1)
    (h1 : autoParam ((assignEach [tg] X.env).map (·.2) = [assign tg X.env]) L2.auto4._auto_1) : PS X (.Assign [tg] e pos) (tAsg te g) := by
  intro pins s σ H D I h
  refine wpAny_Assign_stores (thn (he pins s σ H _ I h) fun v s1 qq0 => ?_) hs hw
  obtain ⟨x, H1, I1, r1, q1⟩ := qq0
  rw [h1]
  exact thn (hg pins s1 σ H1 x v _ I1 r1 q1) fun _ s2 q => q
theorem ps_set {i : Nat} {x : Str} {e : Expr} {te : TE} {pos' : Pos} (hN : X.N.Nodup) (hi : X.N[i]? = some x) (hx : Loc X.env.scope x) (he : PE X e te) (hs : autoParam (swapsWith e (some (.Name x pos')) pos.line X.env = pure false) L2.auto4._auto_1) (hf : autoParam (X.fn x = true ∨ X.env.scope.names.lookup x = some .local) L2.auto1._auto_1) :
    PS X (.Assign [.Name x pos'] e pos) (tAsg te (gName i)) := by
  intro pins s σ H D I h
  refine wpAny_Assign_Name (thn (he pins s σ H _ I h) fun v s1 qq0 => ?_) hs
  obtain ⟨y, H1, I1, r1, q1⟩ := qq0
  exact store_ok I1 hN hi hx r1 (fun s2 I2 => ⟨_, H1, I2, q1⟩) hf
noncomputable def tAug (i : Nat) (te : TE) (ti : TIp) : TS := fun D σ H => ∃ x, σ[i]? = some (some x) ∧ te σ H fun y H1 => ti x y H1 fun z H2 => D.nx (σ.set i (some z)) H2
theorem ps_aug {i : Nat} {x : Str} {e : Expr} {te : TE} {op : Operator} {ti : TIp} {pos' : Pos} (hN : X.N.Nodup) (hi : X.N[i]? = some x) (hx : Loc X.env.scope x) (he : PE X e te) (ho : PIp X op ti) (hf : autoParam (X.fn x = true ∨ X.env.scope.names.lookup x = some .local) L2.auto1._auto_1) :
    PS X (.AugAssign (.Name x pos') op e pos) (tAug i te ti) := by
  intro pins s σ H D I h
  obtain ⟨v, e1, h⟩ := h
  obtain ⟨m, hn, hl⟩ := I.loc
  have vis : Vis X.env.scope x := by rcases hx with k | k; exact .inl k; exact .inr (.inl k)
  obtain ⟨u, r, l⟩ := hl i x v hi e1 vis
  refine wpAny_AugAssign_Name ?_
  have go : wpAny (model X.prog X.w) X.A (eval e X.env) (fun w s₂ => wpAny (model X.prog X.w) X.A (inplaceOp op u w) (fun r s₃ => wpAny (model X.prog X.w) X.A (storeName X.env x r) (fun _ => SP X pins D .next) X.xe s₃) X.xe s₂) X.xe s := by
    refine thn (he pins s σ H _ I h) fun w s1 qq0 => ?_
    obtain ⟨y, H1, I1, r1, q1⟩ := qq0
    refine thn (ho pins s1 σ H1 v y u w _ I1 r r1 q1) fun z s2 qq0 => ?_
    obtain ⟨zv, H2, I2, r2, q2⟩ := qq0
    exact store_ok I2 hN hi hx r2 (fun s3 I3 => ⟨_, H2, I3, q2⟩) hf
  rcases l with ⟨hk, hm⟩ | ⟨hk, c, hc, hcell⟩
  · exact wpAny_loadName_local I.ok.kind hk hn hm go
  · rcases hk with hk | hk
    · exact wpAny_loadName_cell I.ok.kind hk hc hcell go
    · rcases hx with k | k
      · have : X.env.scope.names.lookup x = some .free := hk
        rw [k] at this; cases this
      · have : X.env.scope.names.lookup x = some .free := hk
        rw [k] at this; cases this
end

section
variable {X : Cx} {pos : Pos}
noncomputable def tWhile (c : TT) (tb : TS) : TS := fun D σ H => ∃ W : Nat → St → Hp → Prop, (∃ m, W m σ H) ∧ ∀ m σ H, W m σ H →
  c σ H fun b H1 => if b = true then ∃ N : St → Hp → Prop, (∀ σ' H', N σ' H' → ∃ m', m' < m ∧ W m' σ' H') ∧ tb { D with nx := N, ct := N, bk := D.nx } σ H1 else D.nx σ H1
theorem ps_while {c : Expr} {body : List Stmt} {tc : TT} {tb : TS} (hp : PassesOwn (model X.prog X.w) X.A X.env X.xe) (hc : PT X c tc) (hb : PSs X body tb) : PS X (.While c body [] pos) (tWhile tc tb) := by
  intro pins s σ H D I h
  obtain ⟨W, ⟨m0, w0⟩, turn⟩ := h
  refine wpAny_While (codeAny_whileLoop (fun n s' => ∃ σ' H', Inv X pins σ' H' s' ∧ W n σ' H') ?_ m0 ⟨σ, H, I, w0⟩)
  rintro n s1 ⟨σ1, H1, I1, w1⟩
  refine wpAny_passesOwn hp (thn (hc pins s1 σ1 H1 _ I1 (turn n σ1 H1 w1)) fun b s2 qq0 => ?_)
  obtain ⟨H2, I2, q2⟩ := qq0
  cases b with
  | true =>
    obtain ⟨N, hN, q2⟩ := q2
    rw [if_pos rfl]
    refine wpAny_passesOwn hp (thn (hb pins s2 σ1 H2 _ I2 q2) fun f s3 q3 => ?_)
    cases f with
    | next =>
      obtain ⟨σ3, H3, I3, n3⟩ := q3
      obtain ⟨m', hm, w3⟩ := hN σ3 H3 n3
      exact ⟨m', hm, σ3, H3, I3, w3⟩
    | cont =>
      obtain ⟨σ3, H3, I3, n3⟩ := q3
      obtain ⟨m', hm, w3⟩ := hN σ3 H3 n3
      exact ⟨m', hm, σ3, H3, I3, w3⟩
    | brk => exact q3
    | ret v => exact q3
  | false =>
    rw [if_neg Bool.false_ne_true]
    exact wpAny_execs_nil ⟨σ1, H2, I2, q2⟩
end

structure It where
  go : Nat → Hp → Prop
  yld : Nat → Hp → V → Hp → Prop
  stop : Nat → Hp → Prop
noncomputable def FpOk (X : Cx) (pins : List (Addr × Obj)) (H : Hp) (b : Addr) : Prop :=
  H b = none ∧ b ≠ X.env.locals ∧ b ∉ X.fs ∧ (b ∈ X.ex ∨ X.s₀.heap.objs.size ≤ b) ∧ (∀ x c, X.env.cells.lookup x = some c → c ≠ b) ∧ ∀ p ∈ X.pn ++ pins, p.1 ≠ b
theorem Inv.fpOk {X : Cx} {pins : List (Addr × Obj)} {σ : St} {H H' : Hp} {s : Shared} {b : Addr} (I : Inv X pins σ H s) (hb : s.heap.objs.size ≤ b) (hn : H' b = none) : FpOk X pins H' b := by
  refine ⟨hn, Nat.ne_of_gt (Nat.lt_of_lt_of_le I.lt hb), I.nofs hb, .inr (Nat.le_trans I.sz hb), fun x c e z => ?_, fun p hp z => ?_⟩
  · obtain ⟨v, q⟩ := I.cell x c e
    exact absurd (Nat.lt_of_lt_of_le q.lt (by rw [z]; exact hb)) (Nat.lt_irrefl _)
  · exact absurd (Nat.lt_of_lt_of_le (Heap.lt_size (I.pin p hp).1) (by rw [z]; exact hb)) (Nat.lt_irrefl _)
structure Turn (P : Program) (w : World) (K : PySem.W.Frag) (tg : Expr) (J : It) (fp : List Addr) (it : Addr) (tn : Nat → Heap → Prop) : Prop where
  mem : it ∈ fp
  obj : ∀ i h, tn i h → ∀ b ∈ fp, ∃ o, h.get? b = some o ∧ ∀ v, o.data ≠ .cell v
  keep : ∀ i h h', tn i h → (∀ b ∈ fp, ∀ o, h.get? b = some o → h'.get? b = some o) → tn i h'
  item : ∀ (X : Cx), X.prog = P → X.w = w → X.K = K → X.calm = true → ∀ (i : Nat) (pins : List (Addr × Obj)) (s : Shared) (σ : St) (H : Hp) (E : Value → Shared → Prop), Inv X pins σ H s → (∀ b ∈ fp, FpOk X pins H b) → tn i s.heap → J.go i H →
    wpAny (model P w) X.A (pyNext (.ref it)) (fun r s1 => ∃ u, r = some u ∧
      wpAny (model P w) X.A (letOwnedTupleGo tg (.ref it) u) (fun _ s2 => ∃ x H', Inv X pins σ H' s2 ∧ RelV x u ∧ J.yld i H x H' ∧ tn (i + 1) s2.heap ∧ ∀ b ∈ fp, H' b = none) E s1) E s
  done : ∀ (X : Cx), X.prog = P → X.w = w → X.K = K → X.calm = true → ∀ (i : Nat) (pins : List (Addr × Obj)) (s : Shared) (σ : St) (H : Hp) (E : Value → Shared → Prop), Inv X pins σ H s → (∀ b ∈ fp, FpOk X pins H b) → tn i s.heap → J.stop i H →
    wpAny (model P w) X.A (pyNext (.ref it)) (fun r s1 => r = none ∧ Inv X pins σ H s1) E s
  self : ∀ (A : Around) (i : Nat) (s : Shared) (Q : Value → Shared → Prop) (E : Value → Shared → Prop), tn i s.heap → Q (.ref it) s → wpAny (model P w) A (pyIter (.ref it)) Q E s
noncomputable abbrev TI := St → Hp → (It → Hp → Prop) → Prop
noncomputable def PIE (X : Cx) (pins : List (Addr × Obj)) (σ : St) (tg : Expr) (R : It → Hp → Prop) (itv : Value) (s2 : Shared) : Prop :=
  ∃ (it : Addr) (fp : List Addr) (tn : Nat → Heap → Prop) (J : It) (H' : Hp), itv = .ref it ∧ Inv X pins σ H' s2 ∧ Turn X.prog X.w X.K tg J fp it tn ∧ tn 0 s2.heap ∧ (∀ b ∈ fp, FpOk X pins H' b) ∧ R J H'
noncomputable def PI (X : Cx) (tg iter : Expr) (wi : TI) : Prop :=
  ∀ (pins : List (Addr × Obj)) (s : Shared) (σ : St) (H : Hp) (R : It → Hp → Prop), Inv X pins σ H s → wi σ H R →
    wpAny (model X.prog X.w) X.A (eval iter X.env) (fun v s1 => wpAny (model X.prog X.w) X.A (pyIter v) (PIE X pins σ tg R) X.xe s1) X.xe s

theorem go_of {M : Model} {A : Around} {E : Value → Shared → Prop} {s : Shared} {tg : Expr} {it : Addr} {u : Value} {o : Obj} {n : String} {vs : Array Value} {Q : Unit → Shared → Prop} (ho : s.heap.get? it = some o) (hc : o.cls = .type n) (hd : o.data = .fields vs)
    (hn : ["enumerate", "zip", "dict_itemiterator", "dict_reverseitemiterator", "odict_iterator", "itertools.zip_longest", "itertools.pairwise"].contains n = false) (hQ : Q () s) : wpAny M A (letOwnedTupleGo tg (.ref it) u) Q E s := by
  unfold letOwnedTupleGo
  cases tg <;> first
    | exact wpAny_pure hQ
    | (cases u <;> first
        | exact wpAny_pure hQ
        | (refine wpAny_bind (wpAny_load ho ?_)
           rw [hc, hd]
           show wpAny M A (if (["enumerate", "zip", "dict_itemiterator", "dict_reverseitemiterator", "odict_iterator", "itertools.zip_longest", "itertools.pairwise"].contains n && vs[0]? == some (rawInt _)) = true then _ else _) Q E s
           rw [if_neg (by intro h; rw [hn, Bool.false_and] at h; cases h)]
           exact wpAny_pure hQ))

noncomputable def Itl (K : PySem.W.Frag) (a : Addr) : It :=
  ⟨fun i H => ∃ xs x, SqL K H a xs ∧ xs[i]? = some x, fun i H x H' => H' = H ∧ ∀ xs, SqL K H a xs → xs[i]? = some x, fun i H => ∃ xs, SqL K H a xs ∧ xs.length ≤ i⟩
noncomputable def Itt (K : PySem.W.Frag) (a : Addr) : It :=
  ⟨fun i H => ∃ xs x, SqT K H a xs ∧ xs[i]? = some x, fun i H x H' => H' = H ∧ ∀ xs, SqT K H a xs → xs[i]? = some x, fun i H => ∃ xs, SqT K H a xs ∧ xs.length ≤ i⟩
noncomputable def Itr (lo : Int) (n : Nat) : It := ⟨fun i _ => i < n, fun i H x H' => H' = H ∧ x = .int (lo + i), fun i _ => n ≤ i⟩
theorem turn_list {P : Program} {w : World} {K : PySem.W.Frag} {tg : Expr} (a it : Addr) : Turn P w K tg (Itl K a) [it] it (fun i h => h.IsListIter it a i) where
  mem := by simp
  obj := fun i h st b hb => by
    have e : b = it := by simpa using hb
    subst e
    obtain ⟨o, e, c, d⟩ := st
    exact ⟨o, e, fun v z => by rw [d] at z; cases z⟩
  keep := fun i h h' st k => st.at fun o e => k it (by simp) o e
  item := by
    intro X hP hw hK hc i pins s σ H E I hf st hg
    subst hP hw hK
    obtain ⟨xs, x, hq, hx⟩ := hg
    obtain ⟨its, rv, p, hz⟩ := I.list hq
    obtain ⟨u, hu, ru⟩ := rv.get hx
    obtain ⟨f0, f1, f2, f3, f4, f5⟩ := hf it (by simp)
    refine wpAny_pyNext_list_item st p.isList (x := u) (by simpa using hu) fun h' st' sb => ?_
    have I1 : Inv X pins σ H { s with heap := h' } := I.turned (t' := s.toks) (fun b o hb e => (sb.2 b hb).trans e) f0 f1 f3 f4 f5
    obtain ⟨o, e, c, d⟩ := id st'
    exact ⟨u, rfl, go_of (s := { s with heap := h' }) e c d (by decide) ⟨x, H, I1, ru, ⟨rfl, fun ys hy => by rw [I.list_inj hy hq]; exact hx⟩, st', fun b hb => (hf b hb).1⟩⟩
  done := by
    intro X hP hw hK hc i pins s σ H E I hf st hg
    subst hP hw hK
    obtain ⟨xs, hq, hx⟩ := hg
    obtain ⟨its, rv, p, hz⟩ := I.list hq
    obtain ⟨f0, f1, f2, f3, f4, f5⟩ := hf it (by simp)
    have hl := rv.length
    exact wpAny_pyNext_list_end (I.ok.hd hc) st p.isList (by simp; omega) fun h' eb => ⟨rfl, I.turned (t' := s.toks) (fun b o hb e => eb b o hb e) f0 f1 f3 f4 f5⟩
  self := fun _ _ _ _ _ st h => wpAny_pyIter_listiter st h
theorem turn_tuple {P : Program} {w : World} {K : PySem.W.Frag} {tg : Expr} (a it : Addr) : Turn P w K tg (Itt K a) [it] it (fun i h => h.IsTupleIter it a i) where
  mem := by simp
  obj := fun i h st b hb => by
    have e : b = it := by simpa using hb
    subst e
    obtain ⟨o, e, c, d⟩ := st
    exact ⟨o, e, fun v z => by rw [d] at z; cases z⟩
  keep := fun i h h' st k => st.at fun o e => k it (by simp) o e
  item := by
    intro X hP hw hK hc i pins s σ H E I hf st hg
    subst hP hw hK
    obtain ⟨xs, x, hq, hx⟩ := hg
    obtain ⟨its, rv, p, hz⟩ := I.tuple hq
    obtain ⟨u, hu, ru⟩ := rv.get hx
    obtain ⟨f0, f1, f2, f3, f4, f5⟩ := hf it (by simp)
    refine wpAny_pyNext_tuple_item st (show s.heap.IsTuple a its.toArray from p) (x := u) (by simpa using hu) fun h' st' sb => ?_
    have I1 : Inv X pins σ H { s with heap := h' } := I.turned (t' := s.toks) (fun b o hb e => (sb.2 b hb).trans e) f0 f1 f3 f4 f5
    obtain ⟨o, e, c, d⟩ := id st'
    exact ⟨u, rfl, go_of (s := { s with heap := h' }) e c d (by decide) ⟨x, H, I1, ru, ⟨rfl, fun ys hy => by rw [I.tuple_inj hy hq]; exact hx⟩, st', fun b hb => (hf b hb).1⟩⟩
  done := by
    intro X hP hw hK hc i pins s σ H E I hf st hg
    subst hP hw hK
    obtain ⟨xs, hq, hx⟩ := hg
    obtain ⟨its, rv, p, hz⟩ := I.tuple hq
    obtain ⟨f0, f1, f2, f3, f4, f5⟩ := hf it (by simp)
    have hl := rv.length
    exact wpAny_pyNext_tuple_end (I.ok.hd hc) st (show s.heap.IsTuple a its.toArray from p) (by simp; omega) fun h' eb => ⟨rfl, I.turned (t' := s.toks) (fun b o hb e => eb b o hb e) f0 f1 f3 f4 f5⟩
  self := fun _ _ _ _ _ st h => wpAny_pyIter_tupleiter st h
theorem turn_range {P : Program} {w : World} {K : PySem.W.Frag} {tg : Expr} (it : Addr) (lo : Int) (n : Nat) : Turn P w K tg (Itr lo n) [it] it (fun i h => IsRangeIter h it (lo + (i : Nat) * 1) ((n : Int) - (i : Nat)) 1) where
  mem := by simp
  obj := fun i h st b hb => by
    have e : b = it := by simpa using hb
    subst e
    exact ⟨_, st, fun v z => by
      have z' : Data.fields _ = Data.cell v := z
      cases z'⟩
  keep := fun i h h' st k => k it (by simp) _ st
  item := by
    intro X hP hw hK hc i pins s σ H E I hf st hg
    subst hP hw hK
    obtain ⟨f0, f1, f2, f3, f4, f5⟩ := hf it (by simp)
    have W := Walks.range (prog := X.prog) (w := X.w) (I.ok.hd hc) it lo 1 n
    refine W.item i s _ _ hg st fun v h' tk hv st' kk => ?_
    obtain ⟨t, rfl⟩ := hv
    have I1 : Inv X pins σ H { s with heap := h', toks := tk } := I.turned (fun b o hb e => kk b o (by simpa using hb) e) f0 f1 f3 f4 f5
    refine ⟨_, rfl, go_of (s := { s with heap := h', toks := tk }) (n := "range_iterator") st' rfl rfl (by decide) ⟨.int (lo + i), H, I1, ⟨t, ?_⟩, ⟨rfl, rfl⟩, st', fun b hb => (hf b hb).1⟩⟩
    rw [Int.mul_one]
  done := by
    intro X hP hw hK hc i pins s σ H E I hf st hg
    subst hP hw hK
    obtain ⟨f0, f1, f2, f3, f4, f5⟩ := hf it (by simp)
    exact wpAny_pyNext_range_end (I.ok.hd hc) st (by have : n ≤ i := hg; omega) fun h' eb => ⟨rfl, I.turned (t' := s.toks) (fun b o hb e => eb b o hb e) f0 f1 f3 f4 f5⟩
  self := fun _ _ _ _ _ st h => wpAny_pyIter_rangeiter st h
end L2

namespace L2
open PySem PySem.Spec PyProof.Rows
section
variable {X : Cx} {tg : Expr}
theorem range_it {pins : List (Addr × Obj)} {σ : St} {H : Hp} {s : Shared} {R : It → Hp → Prop} {E : Value → Shared → Prop} {lo hi : Int} {t u v : Tok} {tk : Nat} (I : Inv X pins σ H s) (h1 : -(2 ^ 62) ≤ lo) (h2 : lo < 2 ^ 62) (h3 : -(2 ^ 62) ≤ hi) (h4 : hi < 2 ^ 62)
    (q : R (Itr lo (hi - lo).toNat) H) : wpAny (model X.prog X.w) X.A (pyIter (.ref s.heap.objs.size)) (PIE X pins σ tg R) E { s with heap := s.heap.push { cls := .type "range", data := .fields #[.int lo t, .int hi u, .int 1 v] }, toks := tk } := by
  refine wpAny_pyIter_range (IsRange.new ..) (small_one h1 h2 h3 h4) ?_
  have I1 : Inv X pins σ H { s with heap := s.heap.push { cls := .type "range", data := .fields #[.int lo t, .int hi u, .int 1 v] }, toks := tk } := I.kept fun b o e => Heap.get?_push_of_some _ e
  refine ⟨(s.heap.push { cls := .type "range", data := .fields #[.int lo t, .int hi u, .int 1 v] }).objs.size, [(s.heap.push { cls := .type "range", data := .fields #[.int lo t, .int hi u, .int 1 v] }).objs.size], _, _, H, rfl,
    I1.kept (t' := tk) fun b o e => Heap.get?_push_of_some _ e, turn_range _ lo (hi - lo).toNat, ?_, fun b hb => ?_, q⟩
  · have e1 : lo + ((0 : Nat) : Int) * 1 = lo := by simp
    have e2 : (((hi - lo).toNat : Nat) : Int) - ((0 : Nat) : Int) = Builtin.Range.rangeSize lo hi 1 := by rw [rangeSize_one]; split <;> omega
    show IsRangeIter _ _ (lo + ((0 : Nat) : Int) * 1) ((((hi - lo).toNat : Nat) : Int) - ((0 : Nat) : Int)) 1
    rw [e1, e2]
    exact Heap.get?_push_size _ rfl
  · have e : b = (s.heap.push { cls := .type "range", data := .fields #[.int lo t, .int hi u, .int 1 v] }).objs.size := by simpa using hb
    subst e
    exact I1.fpOk (Nat.le_refl _) (I1.hok.fresh (Nat.le_refl _))
noncomputable def iRng1 (ta : TA) : TI := fun σ H R => ta σ H fun vs H1 => ∃ j : Int, vs = [.int j] ∧ -(2 ^ 62) ≤ j ∧ j < 2 ^ 62 ∧ R (Itr 0 j.toNat) H1
noncomputable def iRng2 (ta : TA) : TI := fun σ H R => ta σ H fun vs H1 => ∃ i j : Int, vs = [.int i, .int j] ∧ (-(2 ^ 62) ≤ i ∧ i < 2 ^ 62 ∧ -(2 ^ 62) ≤ j ∧ j < 2 ^ 62) ∧ R (Itr i (j - i).toNat) H1
theorem pi_range1 {a : Expr} {ta : TA} {p pos : Pos} (hg : Gl X "range") (hm : X.mg "range" = none) (ha : PA X [a] ta) (hs : autoParam (starEach [a] X.env = [(false, eval a X.env)]) L2.auto4._auto_1) : PI X tg (.Call (.Name "range" p) [a] [] pos) (iRng1 ta) := by
  intro pins s σ H R I h
  refine Call_ (ld_blt I hg hm boot_range (PyProof.Rows.callWith_type1 (thn (ha pos pins s σ H _ I h) fun us s1 ⟨vs, H1, I1, r1, q1⟩ => ?_) hs rfl))
  obtain ⟨j, e, q1, q2, q⟩ := q1
  subst e
  cases r1 with
  | cons r rr =>
    cases rr
    obtain ⟨t, rfl⟩ := r
    exact call_range_1 (range_it I1 (by omega) (by omega) q1 q2 (by simpa using q))
theorem pi_range2 {a b : Expr} {ta : TA} {p pos : Pos} (hg : Gl X "range") (hm : X.mg "range" = none) (ha : PA X [a, b] ta) (hs : autoParam (starEach [a, b] X.env = [(false, eval a X.env), (false, eval b X.env)]) L2.auto4._auto_1) (hs2 : autoParam (starEach [b] X.env = [(false, eval b X.env)]) L2.auto4._auto_1) :
    PI X tg (.Call (.Name "range" p) [a, b] [] pos) (iRng2 ta) := by
  intro pins s σ H R I h
  refine Call_ (ld_blt I hg hm boot_range (PyProof.Rows.callWith_type1 (thn (ha pos pins s σ H _ I h) fun us s1 qq0 => ?_) (by rw [hs, hs2]) (by rw [hs2]; rfl)))
  obtain ⟨vs, H1, I1, r1, q1⟩ := qq0
  obtain ⟨i, j, e, ⟨q1, q2, q3, q4⟩, q⟩ := q1
  subst e
  cases r1 with
  | cons r rr =>
    cases rr with
    | cons r' rr =>
      cases rr
      obtain ⟨t, rfl⟩ := r
      obtain ⟨t', rfl⟩ := r'
      exact call_range_2 (range_it I1 q1 q2 q3 q4 q)

noncomputable def tFor (wi : TI) (g : TG) (tb : TS) : TS := fun D σ H => wi σ H fun J H1 => ∃ W : Nat → Nat → St → Hp → Prop, (∃ m, W 0 m σ H1) ∧ ∀ i m σ H, W i m σ H →
  (J.stop i H ∧ D.nx σ H) ∨ (J.go i H ∧ ∃ N : St → Hp → Prop, (∀ σ' H', N σ' H' → ∃ m', m' < m ∧ W (i + 1) m' σ' H') ∧ ∀ x H', J.yld i H x H' → g x σ H' fun σ2 H2 => tb { D with nx := N, ct := N, bk := D.nx } σ2 H2)
noncomputable def pinsAt (fp : List Addr) (h : Heap) : List (Addr × Obj) := fp.filterMap fun b => (h.get? b).map fun o => (b, o)
theorem mem_pinsAt {fp : List Addr} {h : Heap} {b : Addr} {o : Obj} (hb : b ∈ fp) (e : h.get? b = some o) : (b, o) ∈ pinsAt fp h := List.mem_filterMap.mpr ⟨b, hb, by rw [e]; rfl⟩
theorem of_pinsAt {fp : List Addr} {h : Heap} {p : Addr × Obj} (hp : p ∈ pinsAt fp h) : p.1 ∈ fp ∧ h.get? p.1 = some p.2 := by
  obtain ⟨b, hb, e⟩ := List.mem_filterMap.mp hp
  cases q : h.get? b with
  | none => rw [q] at e; cases e
  | some o =>
    rw [q] at e
    have e' : (b, o) = p := Option.some.inj e
    subst e'
    exact ⟨hb, q⟩
theorem Inv.pinned {pins : List (Addr × Obj)} {σ : St} {H : Hp} {s : Shared} {fp : List Addr} (I : Inv X pins σ H s) (hf : ∀ b ∈ fp, FpOk X pins H b) (ho : ∀ b ∈ fp, ∃ o, s.heap.get? b = some o ∧ ∀ v, o.data ≠ .cell v) : Inv X (pins ++ pinsAt fp s.heap) σ H s :=
  I.pins_of fun p hp => (List.mem_append.mp hp).elim (fun z => I.pin p (List.mem_append_right _ z)) fun z => by
    obtain ⟨hb, e⟩ := of_pinsAt z
    obtain ⟨f0, f1, f2, _⟩ := hf p.1 hb
    obtain ⟨o, e', d⟩ := ho p.1 hb
    rw [e] at e'; cases e'
    exact ⟨e, f0, f1, f2, d⟩
theorem Inv.unpinned {pins pl : List (Addr × Obj)} {σ : St} {H : Hp} {s : Shared} (I : Inv X (pins ++ pl) σ H s) : Inv X pins σ H s := I.pins_of fun p hp => I.pin p (List.mem_append_right _ (List.mem_append_left _ hp))
theorem ps_for {iter : Expr} {body : List Stmt} {wi : TI} {g : TG} {tb : TS} {pos : Pos} (hp : PassesOwn (model X.prog X.w) X.A X.env X.xe) (hc : X.calm = true) (hi : PI X tg iter wi) (hg : PG X tg g) (hb : PSs X body tb)
    (hs : autoParam (∀ x, foldedSetIterable iter X.env x = pure x) L2.auto3._auto_1) : PS X (.For tg iter body [] pos) (tFor wi g tb) := by
  intro pins s σ H D I h
  refine wpAny_For (thn (hi pins s σ H _ I h) fun v s1 h1 => thn h1 fun itv s2 h2 => ?_) hs
  obtain ⟨it, fp, tn, J, H2, e, I2, T, st2, f2, W, ⟨m0, w0⟩, turn⟩ := h2
  subst e
  -- what stays true of the iterator's objects through the loop
  have stat : ∀ {H' : Hp}, (∀ b ∈ fp, H' b = none) → ∀ b ∈ fp, FpOk X pins H' b := fun hn b hb => ⟨hn b hb, (f2 b hb).2⟩
  refine codeAny_forLoop_any (fun n s' => ∃ i σ' H', Inv X pins σ' H' s' ∧ tn i s'.heap ∧ (∀ b ∈ fp, H' b = none) ∧ W i n σ' H') ?_ m0 ⟨0, σ, H2, I2, st2, fun b hb => (f2 b hb).1, w0⟩
  rintro n s3 ⟨i, σ3, H3, I3, st3, fr3, w3⟩
  rcases turn i n σ3 H3 w3 with ⟨stop, qn⟩ | ⟨go, N, hN, step⟩
  · refine wpAny_passesOwn hp (thn (T.done X rfl rfl rfl hc i pins s3 σ3 H3 X.xe I3 (stat fr3) st3 stop) fun r s4 qq0 => ?_)
    obtain ⟨hr, I4⟩ := qq0
    subst hr
    exact wpAny_execs_nil ⟨σ3, H3, I4, qn⟩
  · refine wpAny_passesOwn hp (thn (T.item X rfl rfl rfl hc i pins s3 σ3 H3 X.xe I3 (stat fr3) st3 go) fun r s4 qq0 => ?_)
    obtain ⟨u, hr, h4⟩ := qq0
    subst hr
    refine wpAny_passesOwn hp (thn h4 fun _ s5 qq0 => ?_)
    obtain ⟨x, H5, I5, r5, y5, st5, fr5⟩ := qq0
    have I5' := I5.pinned (stat fr5) (T.obj _ _ st5)
    refine wpAny_passesOwn hp (thn (hg _ s5 σ3 H5 x u _ I5' r5 (step x H5 y5)) fun _ s6 qq0 => ?_)
    obtain ⟨σ6, H6, I6, q6⟩ := qq0
    refine wpAny_passesOwn hp (thn (hb _ s6 σ6 H6 _ I6 q6) fun f s7 q7 => ?_)
    have again : ∀ {σ7 : St} {H7 : Hp}, Inv X (pins ++ pinsAt fp s5.heap) σ7 H7 s7 → N σ7 H7 → ∃ m, m < n ∧ ∃ i σ' H', Inv X pins σ' H' s7 ∧ tn i s7.heap ∧ (∀ b ∈ fp, H' b = none) ∧ W i m σ' H' := fun {σ7 H7} I7 n7 => by
      obtain ⟨m', hm, w7⟩ := hN σ7 H7 n7
      refine ⟨m', hm, i + 1, σ7, H7, I7.unpinned, T.keep _ _ _ st5 fun b hb o e => (I7.pin (b, o) (List.mem_append_right _ (List.mem_append_right _ (mem_pinsAt hb e)))).1, fun b hb => ?_, w7⟩
      obtain ⟨o, e, d⟩ := T.obj _ _ st5 b hb
      exact (I7.pin (b, o) (List.mem_append_right _ (List.mem_append_right _ (mem_pinsAt hb e)))).2.1
    cases f with
    | next => obtain ⟨σ7, H7, I7, n7⟩ := q7; exact again I7 n7
    | cont => obtain ⟨σ7, H7, I7, n7⟩ := q7; exact again I7 n7
    | brk => obtain ⟨σ7, H7, I7, q7⟩ := q7; exact ⟨σ7, H7, I7.unpinned, q7⟩
    | ret v => obtain ⟨x7, σ7, H7, I7, r7, q7⟩ := q7; exact ⟨x7, σ7, H7, I7.unpinned, r7, q7⟩
end

theorem for_list {K : PySem.W.Frag} {a : Addr} {xs : List V} {g : TG} {tb : TS} {D : Ends} {σ : St} {H : Hp} (Pv : Nat → St → Hp → Prop) (h0 : Pv 0 σ H) (hl : ∀ i σ H, i ≤ xs.length → Pv i σ H → SqL K H a xs)
    (hs : ∀ i x σ H, xs[i]? = some x → Pv i σ H → g x σ H fun σ2 H2 => tb { D with nx := Pv (i + 1), ct := Pv (i + 1), bk := D.nx } σ2 H2) (hd : ∀ σ H, Pv xs.length σ H → D.nx σ H) :
    ∃ W : Nat → Nat → St → Hp → Prop, (∃ m, W 0 m σ H) ∧ ∀ i m σ H, W i m σ H →
      ((Itl K a).stop i H ∧ D.nx σ H) ∨ ((Itl K a).go i H ∧ ∃ N : St → Hp → Prop, (∀ σ' H', N σ' H' → ∃ m', m' < m ∧ W (i + 1) m' σ' H') ∧ ∀ x H', (Itl K a).yld i H x H' → g x σ H' fun σ2 H2 => tb { D with nx := N, ct := N, bk := D.nx } σ2 H2) := by
  refine ⟨fun i m σ H => m = xs.length - i ∧ i ≤ xs.length ∧ Pv i σ H, ⟨xs.length, by simp, Nat.zero_le _, h0⟩, ?_⟩
  rintro i m σ H ⟨rfl, hi, p⟩
  have q := hl i σ H hi p
  by_cases hlt : i < xs.length
  · refine .inr ⟨⟨xs, xs[i], q, by simp [hlt]⟩, Pv (i + 1), fun σ' H' p' => ⟨xs.length - (i + 1), by omega, rfl, hlt, p'⟩, fun x H' y => ?_⟩
    obtain ⟨e, y⟩ := y
    subst e
    exact hs i x σ _ (y xs q) p
  · have e : i = xs.length := by omega
    subst e
    exact .inl ⟨⟨xs, q, Nat.le_refl _⟩, hd σ H p⟩
theorem for_tup {K : PySem.W.Frag} {a : Addr} {xs : List V} {g : TG} {tb : TS} {D : Ends} {σ : St} {H : Hp} (Pv : Nat → St → Hp → Prop) (h0 : Pv 0 σ H) (hl : ∀ i σ H, i ≤ xs.length → Pv i σ H → SqT K H a xs)
    (hs : ∀ i x σ H, xs[i]? = some x → Pv i σ H → g x σ H fun σ2 H2 => tb { D with nx := Pv (i + 1), ct := Pv (i + 1), bk := D.nx } σ2 H2) (hd : ∀ σ H, Pv xs.length σ H → D.nx σ H) :
    ∃ W : Nat → Nat → St → Hp → Prop, (∃ m, W 0 m σ H) ∧ ∀ i m σ H, W i m σ H →
      ((Itt K a).stop i H ∧ D.nx σ H) ∨ ((Itt K a).go i H ∧ ∃ N : St → Hp → Prop, (∀ σ' H', N σ' H' → ∃ m', m' < m ∧ W (i + 1) m' σ' H') ∧ ∀ x H', (Itt K a).yld i H x H' → g x σ H' fun σ2 H2 => tb { D with nx := N, ct := N, bk := D.nx } σ2 H2) := by
  refine ⟨fun i m σ H => m = xs.length - i ∧ i ≤ xs.length ∧ Pv i σ H, ⟨xs.length, by simp, Nat.zero_le _, h0⟩, ?_⟩
  rintro i m σ H ⟨rfl, hi, p⟩
  have q := hl i σ H hi p
  by_cases hlt : i < xs.length
  · refine .inr ⟨⟨xs, xs[i], q, by simp [hlt]⟩, Pv (i + 1), fun σ' H' p' => ⟨xs.length - (i + 1), by omega, rfl, hlt, p'⟩, fun x H' y => ?_⟩
    obtain ⟨e, y⟩ := y
    subst e
    exact hs i x σ _ (y xs q) p
  · have e : i = xs.length := by omega
    subst e
    exact .inl ⟨⟨xs, q, Nat.le_refl _⟩, hd σ H p⟩
theorem for_range {lo : Int} {n : Nat} {g : TG} {tb : TS} {D : Ends} {σ : St} {H : Hp} (Pv : Nat → St → Hp → Prop) (h0 : Pv 0 σ H)
    (hs : ∀ i σ H, i < n → Pv i σ H → g (.int (lo + i)) σ H fun σ2 H2 => tb { D with nx := Pv (i + 1), ct := Pv (i + 1), bk := D.nx } σ2 H2) (hd : ∀ σ H, Pv n σ H → D.nx σ H) :
    ∃ W : Nat → Nat → St → Hp → Prop, (∃ m, W 0 m σ H) ∧ ∀ i m σ H, W i m σ H →
      ((Itr lo n).stop i H ∧ D.nx σ H) ∨ ((Itr lo n).go i H ∧ ∃ N : St → Hp → Prop, (∀ σ' H', N σ' H' → ∃ m', m' < m ∧ W (i + 1) m' σ' H') ∧ ∀ x H', (Itr lo n).yld i H x H' → g x σ H' fun σ2 H2 => tb { D with nx := N, ct := N, bk := D.nx } σ2 H2) := by
  refine ⟨fun i m σ H => m = n - i ∧ i ≤ n ∧ Pv i σ H, ⟨n, by simp, Nat.zero_le _, h0⟩, ?_⟩
  rintro i m σ H ⟨rfl, hi, p⟩
  by_cases hlt : i < n
  · refine .inr ⟨hlt, Pv (i + 1), fun σ' H' p' => ⟨n - (i + 1), by omega, rfl, hlt, p'⟩, fun x H' y => ?_⟩
    obtain ⟨e, y⟩ := y
    subst e y
    exact hs i σ _ hlt p
  · have e : i = n := by omega
    subst e
    exact .inl ⟨Nat.le_refl _, hd σ H p⟩
theorem while_by {c : TT} {tb : TS} {D : Ends} {σ : St} {H : Hp} (Pv : St → Hp → Prop) (μ : St → Hp → Nat) (h0 : Pv σ H)
    (hs : ∀ σ H, Pv σ H → c σ H fun b H1 => if b = true then tb { D with nx := fun σ' H' => Pv σ' H' ∧ μ σ' H' < μ σ H, ct := fun σ' H' => Pv σ' H' ∧ μ σ' H' < μ σ H, bk := D.nx } σ H1 else D.nx σ H1)
    (mono : ∀ σ H Q Q', (∀ b H1, Q b H1 → Q' b H1) → c σ H Q → c σ H Q') : tWhile c tb D σ H := by
  refine ⟨fun m σ H => m = μ σ H ∧ Pv σ H, ⟨_, rfl, h0⟩, ?_⟩
  rintro m σ H ⟨rfl, p⟩
  refine mono σ H _ _ (fun b H1 q => ?_) (hs σ H p)
  cases b with
  | true => exact ⟨_, fun σ' H' ⟨p', l⟩ => ⟨_, l, rfl, p'⟩, q⟩
  | false => exact q
end L2

namespace L2
open PySem PySem.Spec PyProof.Rows

noncomputable abbrev R2 := V → V → Hp → VK → Prop
noncomputable def OpR (X : Cx) (f : Value → Value → Sem Value) (r : R2) : Prop :=
  ∀ (pins : List (Addr × Obj)) (s : Shared) (σ : St) (H : Hp) (x y : V) (v u : Value) (Q : VK), Inv X pins σ H s → RelV x v → RelV y u → r x y H Q →
    wpAny (model X.prog X.w) X.A (f v u) (EP X pins σ Q) X.xe s
noncomputable def UnR (X : Cx) (f : Value → Sem Value) (r : V → Hp → VK → Prop) : Prop :=
  ∀ (pins : List (Addr × Obj)) (s : Shared) (σ : St) (H : Hp) (x : V) (v : Value) (Q : VK), Inv X pins σ H s → RelV x v → r x H Q →
    wpAny (model X.prog X.w) X.A (f v) (EP X pins σ Q) X.xe s
noncomputable def CallR (X : Cx) (f : Value) (r : List V → Hp → VK → Prop) : Prop :=
  ∀ (pins : List (Addr × Obj)) (s : Shared) (σ : St) (H : Hp) (xs : List V) (us : List Value) (Q : VK), Inv X pins σ H s → Vals xs us → r xs H Q →
    wpAny (model X.prog X.w) X.A (call f us) (EP X pins σ Q) X.xe s
noncomputable def tOp (r : R2) (ta tb : TE) : TE := fun σ H Q => ta σ H fun x H1 => tb σ H1 fun y H2 => r x y H2 Q
noncomputable def tUn (r : V → Hp → VK → Prop) (ta : TE) : TE := fun σ H Q => ta σ H fun x H1 => r x H1 Q
noncomputable def rI (C : Int → Int → Prop) (g : Int → Int → V) : R2 := fun x y H Q => ∃ i j, x = .int i ∧ y = .int j ∧ C i j ∧ Q (g i j) H
noncomputable def rI0 (g : Int → Int → V) : R2 := fun x y H Q => ∃ i j, x = .int i ∧ y = .int j ∧ Q (g i j) H
noncomputable def rU (g : Int → V) : V → Hp → VK → Prop := fun x H Q => ∃ i, x = .int i ∧ Q (g i) H

section
variable {X : Cx} {a b c : Expr} {ta tb tc : TE} {pos : Pos}

theorem binT (ha : PE X a ta) (hb : PE X b tb) {pins : List (Addr × Obj)} {s : Shared} {σ : St} {H : Hp} {R : V → V → Hp → Prop} (I : Inv X pins σ H s)
    (h : ta σ H fun x H1 => tb σ H1 fun y H2 => R x y H2) {Q : Value → Shared → Prop} {f : Value → Value → Sem Value}
    (hf : ∀ v u s2 x y H2, Inv X pins σ H2 s2 → RelV x v → RelV y u → R x y H2 → wpAny (model X.prog X.w) X.A (f v u) Q X.xe s2) :
    wpAny (model X.prog X.w) X.A (eval a X.env) (fun v s₁ => wpAny (model X.prog X.w) X.A (eval b X.env) (fun u s₂ => wpAny (model X.prog X.w) X.A (f v u) Q X.xe s₂) X.xe s₁) X.xe s := by
  refine thn (ha pins s σ H _ I h) fun v s1 qq0 => ?_
  obtain ⟨x, H1, I1, r1, q1⟩ := qq0
  refine thn (hb pins s1 σ H1 _ I1 q1) fun u s2 qq0 => ?_
  obtain ⟨y, H2, I2, r2, q2⟩ := qq0
  exact hf v u s2 x y H2 I2 r1 r2 q2

theorem pe_op {op : Operator} {r : R2} (ho : OpR X (binaryOp op) r) (ha : PE X a ta) (hb : PE X b tb) : PE X (.BinOp a op b pos) (tOp r ta tb) := by
  intro pins s σ H Q I h
  exact wpAny_BinOp (binT ha hb I h fun v u s2 x y H2 I2 rx ry q => ho pins s2 σ H2 x y v u Q I2 rx ry q)
theorem pe_un {op : UnaryOp} {r : V → Hp → VK → Prop} (ho : UnR X (unaryOp op) r) (ha : PE X a ta) : PE X (.UnaryOp op a pos) (tUn r ta) := by
  intro pins s σ H Q I h
  exact UnaryOp_ (thn (ha pins s σ H _ I h) fun v s1 ⟨x, H1, I1, r1, q1⟩ => ho pins s1 σ H1 x v Q I1 r1 q1)
theorem opI {f : Value → Value → Sem Value} {C : Int → Int → Prop} {g : Int → Int → Int}
    (rule : ∀ (i j : Int) (t u : Tok) (s : Shared) (Q : Value → Shared → Prop) (E : Value → Shared → Prop), C i j → Q (.int (g i j) s.toks) { s with toks := s.toks + 1 } → wpAny (model X.prog X.w) X.A (f (.int i t) (.int j u)) Q E s) :
    OpR X f (rI C fun i j => .int (g i j)) := by
  intro pins s σ H x y v u Q I rx ry h
  obtain ⟨i, j, rfl, rfl, hc, q⟩ := h
  obtain ⟨t, rfl⟩ := rx
  obtain ⟨t', rfl⟩ := ry
  exact rule i j t t' s _ _ hc ⟨.int (g i j), H, I.tok _, ⟨_, rfl⟩, q⟩
theorem opI0 {f : Value → Value → Sem Value} {g : Int → Int → Int}
    (rule : ∀ (i j : Int) (t u : Tok) (s : Shared) (Q : Value → Shared → Prop) (E : Value → Shared → Prop), Q (.int (g i j) s.toks) { s with toks := s.toks + 1 } → wpAny (model X.prog X.w) X.A (f (.int i t) (.int j u)) Q E s) :
    OpR X f (rI0 fun i j => .int (g i j)) := by
  intro pins s σ H x y v u Q I rx ry h
  obtain ⟨i, j, rfl, rfl, q⟩ := h
  obtain ⟨t, rfl⟩ := rx
  obtain ⟨t', rfl⟩ := ry
  exact rule i j t t' s _ _ ⟨.int (g i j), H, I.tok _, ⟨_, rfl⟩, q⟩
theorem opB0 {f : Value → Value → Sem Value} {g : Int → Int → Bool}
    (rule : ∀ (i j : Int) (t u : Tok) (s : Shared) (Q : Value → Shared → Prop) (E : Value → Shared → Prop), Q (.bool (g i j)) s → wpAny (model X.prog X.w) X.A (f (.int i t) (.int j u)) Q E s) :
    OpR X f (rI0 fun i j => .bl (g i j)) := by
  intro pins s σ H x y v u Q I rx ry h
  obtain ⟨i, j, rfl, rfl, q⟩ := h
  obtain ⟨t, rfl⟩ := rx
  obtain ⟨t', rfl⟩ := ry
  exact rule i j t t' s _ _ ⟨.bl (g i j), H, I, rfl, q⟩

noncomputable def CPow (i j : Int) : Prop := 0 ≤ j ∧ j ≤ 1000000 ∧ i.natAbs < 2 ^ 64
noncomputable def CMul (i j : Int) : Prop := (-(2 ^ 64) < i ∧ i < 2 ^ 64) ∨ (-(2 ^ 64) < j ∧ j < 2 ^ 64)
theorem CMul.ok {i j : Int} (h : CMul i j) : IntMulOk i j := by
  rcases h with ⟨h1, h2⟩ | ⟨h1, h2⟩
  · exact .of_left (intBits_le_64 h1 h2)
  · exact .of_right (intBits_le_64 h1 h2)
theorem op_add : OpR X (binaryOp .Add) (rI0 fun i j => .int (i + j)) := opI0 fun _ _ _ _ _ _ _ q => add_int q
theorem op_sub : OpR X (binaryOp .Sub) (rI0 fun i j => .int (i - j)) := opI0 fun _ _ _ _ _ _ _ q => sub_int q
theorem op_mul : OpR X (binaryOp .Mult) (rI CMul fun i j => .int (i * j)) := opI fun _ _ _ _ _ _ _ hc q => mul_int q hc.ok
theorem op_mod : OpR X (binaryOp .Mod) (rI (fun _ j => 0 < j) fun i j => .int (i % j)) := opI fun i j _ _ _ _ _ hc q => by
  have h1 : (0 : Int) < j := hc
  exact mod_int' (by omega) (by rw [Int.fmod_eq_emod_of_nonneg i (by omega)]; exact q)
theorem op_pow : OpR X (binaryOp .Pow) (rI CPow fun i j => .int (i ^ j.toNat)) := opI fun _ _ _ _ _ _ _ hc q => pow_int_small hc.1 hc.2.1 hc.2.2 q
theorem iop_add : OpR X (inplaceOp .Add) (rI0 fun i j => .int (i + j)) := opI0 fun _ _ _ _ _ _ _ q => iadd_int q
theorem iop_sub : OpR X (inplaceOp .Sub) (rI0 fun i j => .int (i - j)) := opI0 fun _ _ _ _ _ _ _ q => isub_int q
theorem unI {f : Value → Sem Value} {g : Int → Int}
    (rule : ∀ (i : Int) (t : Tok) (s : Shared) (Q : Value → Shared → Prop) (E : Value → Shared → Prop), Q (.int (g i) s.toks) { s with toks := s.toks + 1 } → wpAny (model X.prog X.w) X.A (f (.int i t)) Q E s) :
    UnR X f (rU fun i => .int (g i)) := by
  intro pins s σ H x v Q I rx h
  obtain ⟨i, rfl, q⟩ := h
  obtain ⟨t, rfl⟩ := rx
  exact rule i t s _ _ ⟨.int (g i), H, I.tok _, ⟨_, rfl⟩, q⟩
theorem un_neg : UnR X (unaryOp .USub) (rU fun i => .int (-i)) := unI fun _ _ _ _ _ q => neg_int q
end

noncomputable def scal : V → V → Bool
  | .non, .non => true | .non, .int _ => true | .int _, .non => true | .non, .bl _ => true | .bl _, .non => true | .non, .str _ => true | .str _, .non => true
  | .int _, .int _ => true | .bl _, .bl _ => true | .str _, .str _ => true | .byt _, .byt _ => true
  | .int _, .str _ => true | .str _, .int _ => true | .bl _, .str _ => true | .str _, .bl _ => true
  | _, _ => false
noncomputable def rEq : R2 := fun x y H Q => scal x y = true ∧ Q (.bl (decide (x = y))) H
noncomputable def rNe : R2 := fun x y H Q => scal x y = true ∧ Q (.bl (!decide (x = y))) H

theorem dec_int {i j : Int} : decide (V.int i = V.int j) = (i == j) := by
  rw [Bool.eq_iff_iff]
  simp
theorem dec_bl {i j : Bool} : decide (V.bl i = V.bl j) = (i == j) := by
  rw [Bool.eq_iff_iff]
  simp
theorem dec_str {i j : Str} : decide (V.str i = V.str j) = (i == j) := by
  rw [Bool.eq_iff_iff]
  simp
theorem dec_byt {i j : Array UInt8} : decide (V.byt i = V.byt j) = (i.toList == j.toList) := by
  rw [Bool.eq_iff_iff]
  cases i
  cases j
  simp

section
variable {X : Cx} {a b c : Expr} {ta tb tc : TE} {pos : Pos}
theorem fin_bl {pins : List (Addr × Obj)} {σ : St} {H : Hp} {s : Shared} {Q : VK} {k k' : Bool} (I : Inv X pins σ H s) (q : Q (.bl k) H) (e : k = k') : EP X pins σ Q (.bool k') s := by
  subst e
  exact ⟨.bl k, H, I, rfl, q⟩
theorem op_eq : OpR X (compareOp .Eq) rEq := by
  intro pins s σ H x y v u Q I rx ry h
  obtain ⟨hs, q⟩ := h
  cases x with
  | non =>
    cases rx
    cases y with
    | non => cases ry; exact PySem.EqNone.eq_none_none (fin_bl I q (by simp))
    | bl j => cases ry; exact PySem.EqNone.eq_none_bool (fin_bl I q (by simp))
    | int j => obtain ⟨t', rfl⟩ := ry; exact PySem.EqNone.eq_none_int (fin_bl I q (by simp))
    | str j => obtain ⟨t', rfl⟩ := ry; exact PySem.EqNone.eq_none_str (fin_bl I q (by simp))
    | _ => exact absurd (show false = true from hs) Bool.false_ne_true
  | bl i =>
    cases rx
    cases y with
    | non => cases ry; exact PySem.EqNone.eq_bool_none (fin_bl I q (by simp))
    | bl j => cases ry; exact eq_bool (fin_bl I q dec_bl)
    | str j => obtain ⟨t', rfl⟩ := ry; exact PySem.EqMixed.eq_bool_str (fin_bl I q (by simp))
    | _ => exact absurd (show false = true from hs) Bool.false_ne_true
  | int i =>
    obtain ⟨t, rfl⟩ := rx
    cases y with
    | non => cases ry; exact PySem.EqNone.eq_int_none (fin_bl I q (by simp))
    | int j => obtain ⟨t', rfl⟩ := ry; exact eq_int (fin_bl I q dec_int)
    | str j => obtain ⟨t', rfl⟩ := ry; exact PySem.EqMixed.eq_int_str (fin_bl I q (by simp))
    | _ => exact absurd (show false = true from hs) Bool.false_ne_true
  | str i =>
    obtain ⟨t, rfl⟩ := rx
    cases y with
    | non => cases ry; exact PySem.EqNone.eq_str_none (fin_bl I q (by simp))
    | bl j => cases ry; exact PySem.EqMixed.eq_str_bool (fin_bl I q (by simp))
    | int j => obtain ⟨t', rfl⟩ := ry; exact PySem.EqMixed.eq_str_int (fin_bl I q (by simp))
    | str j => obtain ⟨t', rfl⟩ := ry; exact eq_str (fin_bl I q dec_str)
    | _ => exact absurd (show false = true from hs) Bool.false_ne_true
  | byt i =>
    obtain ⟨t, rfl⟩ := rx
    cases y with
    | byt j => obtain ⟨t', rfl⟩ := ry; exact PySem.W.eq_bytes (fin_bl I q dec_byt)
    | _ => exact absurd (show false = true from hs) Bool.false_ne_true
  | _ => cases y <;> exact absurd (show false = true from hs) Bool.false_ne_true
theorem op_ne : OpR X (compareOp .NotEq) rNe := by
  intro pins s σ H x y v u Q I rx ry h
  obtain ⟨hs, q⟩ := h
  cases x with
  | non =>
    cases rx
    cases y with
    | non => cases ry; exact PySem.EqNone.ne_none_none (fin_bl I q (by simp))
    | bl j => cases ry; exact PySem.EqNone.ne_none_bool (fin_bl I q (by simp))
    | int j => obtain ⟨t', rfl⟩ := ry; exact PySem.EqNone.ne_none_int (fin_bl I q (by simp))
    | str j => obtain ⟨t', rfl⟩ := ry; exact PySem.EqNone.ne_none_str (fin_bl I q (by simp))
    | _ => exact absurd (show false = true from hs) Bool.false_ne_true
  | bl i =>
    cases rx
    cases y with
    | non => cases ry; exact PySem.EqNone.ne_bool_none (fin_bl I q (by simp))
    | bl j => cases ry; exact ne_bool (fin_bl I q (congrArg not dec_bl))
    | str j => obtain ⟨t', rfl⟩ := ry; exact PySem.EqMixed.ne_bool_str (fin_bl I q (by simp))
    | _ => exact absurd (show false = true from hs) Bool.false_ne_true
  | int i =>
    obtain ⟨t, rfl⟩ := rx
    cases y with
    | non => cases ry; exact PySem.EqNone.ne_int_none (fin_bl I q (by simp))
    | int j => obtain ⟨t', rfl⟩ := ry; exact ne_int (fin_bl I q (congrArg not dec_int))
    | str j => obtain ⟨t', rfl⟩ := ry; exact PySem.EqMixed.ne_int_str (fin_bl I q (by simp))
    | _ => exact absurd (show false = true from hs) Bool.false_ne_true
  | str i =>
    obtain ⟨t, rfl⟩ := rx
    cases y with
    | non => cases ry; exact PySem.EqNone.ne_str_none (fin_bl I q (by simp))
    | bl j => cases ry; exact PySem.EqMixed.ne_str_bool (fin_bl I q (by simp))
    | int j => obtain ⟨t', rfl⟩ := ry; exact PySem.EqMixed.ne_str_int (fin_bl I q (by simp))
    | str j => obtain ⟨t', rfl⟩ := ry; exact ne_str (fin_bl I q (congrArg not dec_str))
    | _ => exact absurd (show false = true from hs) Bool.false_ne_true
  | byt i =>
    obtain ⟨t, rfl⟩ := rx
    cases y with
    | byt j => obtain ⟨t', rfl⟩ := ry; exact PySem.W.ne_bytes (fin_bl I q (congrArg not dec_byt))
    | _ => exact absurd (show false = true from hs) Bool.false_ne_true
  | _ => cases y <;> exact absurd (show false = true from hs) Bool.false_ne_true

theorem op_lt : OpR X (compareOp .Lt) (rI0 fun i j => .bl (decide (i < j))) := opB0 fun _ _ _ _ _ _ _ q => lt_int q
theorem op_le : OpR X (compareOp .LtE) (rI0 fun i j => .bl (decide (i ≤ j))) := opB0 fun _ _ _ _ _ _ _ q => le_int q
theorem op_gt : OpR X (compareOp .Gt) (rI0 fun i j => .bl (decide (j < i))) := opB0 fun _ _ _ _ _ _ _ q => gt_int q
theorem op_ge : OpR X (compareOp .GtE) (rI0 fun i j => .bl (decide (j ≤ i))) := opB0 fun _ _ _ _ _ _ _ q => ge_int q
theorem op_in_str : OpR X (compareOp .In) (fun x y H Q => ∃ i j, x = .str i ∧ y = .str j ∧ Q (.bl (!(Builtin.Str.occurrences j i 0 j.length 1).isEmpty)) H) := by
  intro pins s σ H x y v u Q I rx ry h
  obtain ⟨i, j, rfl, rfl, q⟩ := h
  obtain ⟨t, rfl⟩ := rx
  obtain ⟨t', rfl⟩ := ry
  exact in_str (fin_bl I q rfl)

theorem OpR.or {f : Value → Value → Sem Value} {r r' : R2} (h : OpR X f r) (h' : OpR X f r') : OpR X f (fun x y H Q => r x y H Q ∨ r' x y H Q) := by
  intro pins s σ H x y v u Q I rx ry q
  rcases q with q | q
  · exact h pins s σ H x y v u Q I rx ry q
  · exact h' pins s σ H x y v u Q I rx ry q

theorem nomark (b : Expr) {op : CmpOp} (h : autoParam (op ≠ .In) L2.auto2._auto_1) (h2 : autoParam (op ≠ .NotIn) L2.auto2._auto_1) : behindInMarks op b = false := by
  have e1 : (op == CmpOp.In) = false := by cases op <;> first | rfl | exact absurd rfl h
  have e2 : (op == CmpOp.NotIn) = false := by cases op <;> first | rfl | exact absurd rfl h2
  cases b <;> simp [behindInMarks, e1, e2]
theorem pe_cmpR {op : CmpOp} {r : R2} (ho : OpR X (compareOp op) r) (ha : PE X a ta) (hb : PE X b tb) (hm : behindInMarks op b = false) : PE X (.Compare a [op] [b] pos) (tOp r ta tb) := by
  intro pins s σ H Q I h
  exact wpAny_Compare1 (binT ha hb I h fun v u s2 x y H2 I2 rx ry q => ho pins s2 σ H2 x y v u Q I2 rx ry q) hm
noncomputable def tTest (t : TE) : TT := fun σ H Q => t σ H fun x H' => ∃ k, x = .bl k ∧ Q k H'
theorem pt_cmpR {op : CmpOp} {r : R2} (ho : OpR X (compareOp op) r) (ha : PE X a ta) (hb : PE X b tb) (hm : behindInMarks op b = false) : PT X (.Compare a [op] [b] pos) (tTest (tOp r ta tb)) := by
  intro pins s σ H Q I h
  refine wpAny_isTrue_Compare1 (thn (ha pins s σ H _ I h) fun v s1 ⟨x, H1, I1, r1, q1⟩ => thn (hb pins s1 σ H1 _ I1 q1) fun u s2 ⟨y, H2, I2, r2, q2⟩ =>
    thn (ho pins s2 σ H2 x y v u _ I2 r1 r2 q2) fun c s3 ⟨z, H3, I3, r3, k, e, q3⟩ => ?_) hm
  subst e
  cases r3
  exact wpAny_truthy_bool ⟨H3, I3, q3⟩
noncomputable def tChain (r r' : R2) (ta tb tc : TE) : TE := fun σ H Q => ta σ H fun x H1 => tb σ H1 fun y H2 => r x y H2 fun z H3 => ∃ k, z = .bl k ∧
  (if k = true then tc σ H3 fun w' H4 => r' y w' H4 Q else Q (.bl false) H3)
theorem pe_chain {op op' : CmpOp} {r r' : R2} (ho : OpR X (compareOp op) r) (ho' : OpR X (compareOp op') r') (ha : PE X a ta) (hb : PE X b tb) (hc : PE X c tc)
    (hm : autoParam (lastMarks [op, op'] [b, c] = false) L2.auto5._auto_1) : PE X (.Compare a [op, op'] [b, c] pos) (tChain r r' ta tb tc) := by
  intro pins s σ H Q I h
  refine Compare_chain (thn (ha pins s σ H _ I h) fun v s1 ⟨x, H1, I1, r1, q1⟩ => chain_link (thn (hb pins s1 σ H1 _ I1 q1) fun u s2 ⟨y, H2, I2, r2, q2⟩ =>
    thn (ho pins s2 σ H2 x y v u _ I2 r1 r2 q2) fun d s3 ⟨z, H3, I3, r3, k, e, q3⟩ => ?_)) hm
  subst e
  cases r3
  refine wpAny_truthy_bool ?_
  cases k with
  | false => exact ite_ff ⟨.bl false, H3, I3, rfl, q3⟩
  | true => exact ite_tt (chain_last (thn (hc pins s3 σ H3 _ I3 q3) fun w' s4 ⟨z', H4, I4, r4, q4⟩ => ho' pins s4 σ H4 y z' u w' Q I4 r2 r4 q4))
theorem line63 : (sizeLine : Nat) < 2 ^ 63 := by rw [sizeLine_eq]; decide
theorem op_add_str : OpR X (binaryOp .Add) (fun x y H Q => ∃ i j, x = .str i ∧ y = .str j ∧ i.length + j.length ≤ sizeLine ∧ Q (.str (i ++ j)) H) := by
  intro pins s σ H x y v u Q I rx ry h
  obtain ⟨i, j, rfl, rfl, hz, q⟩ := h
  obtain ⟨t, rfl⟩ := rx
  obtain ⟨t', rfl⟩ := ry
  exact add_str (fun t' tk => ⟨.str (i ++ j), H, I.tok _, ⟨_, rfl⟩, q⟩) hz
theorem vals1 {x : V} {us : List Value} (r : Vals [x] us) : ∃ u, us = [u] ∧ RelV x u := by
  cases r with
  | cons r1 r2 => cases r2; exact ⟨_, rfl, r1⟩
theorem vals2 {x y : V} {us : List Value} (r : Vals [x, y] us) : ∃ u w', us = [u, w'] ∧ RelV x u ∧ RelV y w' := by
  cases r with
  | cons r1 r2 =>
    cases r2 with
    | cons r3 r4 => cases r4; exact ⟨_, _, rfl, r1, r3⟩
theorem call_max2 (hc : X.calm = true) : CallR X (.builtin "max") (fun xs H Q => ∃ i j, xs = [.int i, .int j] ∧ Q (.int (if j > i then j else i)) H) := by
  intro pins s σ H xs us Q I r h
  obtain ⟨i, j, rfl, q⟩ := h
  obtain ⟨u, w', rfl, ⟨t, rfl⟩, ⟨t', rfl⟩⟩ := vals2 r
  refine max_two_ints (I.ok.hd hc) fun h' tk k => ⟨_, H, I.kept k, ?_, q⟩
  by_cases hj : j > i
  · rw [if_pos hj, if_pos hj]; exact ⟨_, rfl⟩
  · rw [if_neg hj, if_neg hj]; exact ⟨_, rfl⟩
theorem call_min2 (hc : X.calm = true) : CallR X (.builtin "min") (fun xs H Q => ∃ i j, xs = [.int i, .int j] ∧ Q (.int (if j < i then j else i)) H) := by
  intro pins s σ H xs us Q I r h
  obtain ⟨i, j, rfl, q⟩ := h
  obtain ⟨u, w', rfl, ⟨t, rfl⟩, ⟨t', rfl⟩⟩ := vals2 r
  refine min_two_ints (I.ok.hd hc) fun h' tk k => ⟨_, H, I.kept k, ?_, q⟩
  by_cases hj : j < i
  · rw [if_pos hj, if_pos hj]; exact ⟨_, rfl⟩
  · rw [if_neg hj, if_neg hj]; exact ⟨_, rfl⟩
theorem call_int1 : CallR X (.type "int") (fun xs H Q => (∃ i, xs = [.int i] ∧ Q (.int i) H) ∨ ∃ k, xs = [.bl k] ∧ Q (.int (if k then 1 else 0)) H) := by
  intro pins s σ H xs us Q I r h
  rcases h with ⟨i, rfl, q⟩ | ⟨k, rfl, q⟩
  · obtain ⟨u, rfl, t, rfl⟩ := vals1 r
    exact call_int_int ⟨.int i, H, I, ⟨_, rfl⟩, q⟩
  · obtain ⟨u, rfl, r1⟩ := vals1 r
    cases r1
    exact call_int_bool ⟨.int (if k then 1 else 0), H, I.tok _, ⟨_, rfl⟩, q⟩
noncomputable def LenV (K : PySem.W.Frag) (x : V) (H : Hp) (n : Nat) : Prop :=
  match x with
  | .str y => y.length ≤ sizeLine ∧ n = y.length
  | .byt y => y.size ≤ sizeLine ∧ n = y.size
  | .ref p => (∃ xs, SqL K H p xs ∧ n = xs.length) ∨ ∃ xs, SqT K H p xs ∧ n = xs.length
  | _ => False
theorem call_len : CallR X (.builtin "len") (fun xs H Q => ∃ x n, xs = [x] ∧ LenV X.K x H n ∧ Q (.int n) H) := by
  intro pins s σ H xs us Q I r h
  obtain ⟨x, n, rfl, e, q⟩ := h
  obtain ⟨u, rfl, rx⟩ := vals1 r
  have hl := line63
  have hs : sizeLine = 16777216 := sizeLine_eq
  cases x with
  | str y =>
    obtain ⟨t, rfl⟩ := rx
    obtain ⟨hy, e'⟩ : y.length ≤ sizeLine ∧ n = y.length := e
    subst e'
    exact len_str (by omega) ⟨.int _, H, I.tok _, ⟨_, rfl⟩, q⟩
  | byt y =>
    obtain ⟨t, rfl⟩ := rx
    obtain ⟨hy, e'⟩ : y.size ≤ sizeLine ∧ n = y.size := e
    subst e'
    exact PySem.W.len_bytes (by omega) ⟨.int _, H, I.tok _, ⟨_, rfl⟩, q⟩
  | ref p =>
    cases rx
    have e' : (∃ xs, SqL X.K H p xs ∧ n = xs.length) ∨ ∃ xs, SqT X.K H p xs ∧ n = xs.length := e
    rcases e' with ⟨xs, hx, e'⟩ | ⟨xs, hx, e'⟩
    · subst e'
      obtain ⟨its, r', pl, hz⟩ := I.list hx
      have hlen := r'.length
      exact Calls.call_len_list pl.isList (by simp only [List.size_toArray]; omega) ⟨.int xs.length, H, I.tok _, ⟨_, by simp only [List.size_toArray]; rw [hlen]⟩, q⟩
    · subst e'
      obtain ⟨its, r', pl, hz⟩ := I.tuple hx
      have hlen := r'.length
      exact len_tuple pl (by simp only [List.size_toArray]; omega) ⟨.int xs.length, H, I.tok _, ⟨_, by simp only [List.size_toArray]; rw [hlen]⟩, q⟩
  | _ => exact (show False from e).elim
end
end L2

namespace L2
open PySem PySem.Spec PyProof.Rows

structure ObjM (h : Heap) (x dx C : Addr) (mA : Str → Option Value) : Prop where
  obj : h.get? x = some (PySem.W.instObj C dx)
  ns : h.Ns1 dx mA
  ne : dx ≠ x

theorem lookIn_ns {h : Heap} {dx : Addr} {mA : Str → Option Value} (n : h.Ns1 dx mA) : ∃ od, h.get? dx = some od ∧ ∀ name, PySem.W.lookIn name od = some (mA name) := by
  obtain ⟨o, es, ep, ho, hd, hk, _, hm⟩ := n
  refine ⟨o, ho, fun name => ?_⟩
  have e := hm name
  unfold nsFind findBy at e
  rw [← Array.find?_toList] at e
  unfold PySem.W.lookIn
  rw [hd]
  dsimp only
  split
  · rename_i y q
    rw [q] at e
    exact congrArg some e
  · rename_i q
    rw [q] at e
    have a : es.toList.any (·.refKey) = false := by
      rw [List.any_eq_false]
      intro y hy
      obtain ⟨z, t, hkey⟩ := hk y (Array.mem_toList_iff.mp hy)
      simp [DictEntry.refKey, hkey]
    have a' : ¬ es.toList.any (·.refKey) = true := by rw [a]; exact Bool.false_ne_true
    rw [if_neg a']
    exact congrArg some e

theorem ObjM.look {h : Heap} {x dx C : Addr} {mA : Str → Option Value} (I : ObjM h x dx C mA) : ∃ od, PySem.W.InstAt h x (PySem.W.instObj C dx) C (some od) ∧ ∀ name, PySem.W.lookIn name od = some (mA name) :=
  let ⟨od, ho, hl⟩ := lookIn_ns I.ns
  ⟨od, ⟨I.obj, rfl, rfl, ho⟩, hl⟩

section
variable {prog : Program} {w : World} {A : Around} {E : Value → Shared → Prop} {s : Shared} {K : PySem.W.Frag} {x dx C f : Addr} {mA : Str → Option Value} {name : Str} {v : Value}

end

noncomputable def putF (f : Str) (v : V) : List (Str × V) → List (Str × V)
  | [] => [(f, v)]
  | (g, x) :: r => if g = f then (g, v) :: r else (g, x) :: putF f v r
theorem lookup_putF (f g : Str) (v : V) : ∀ fs : List (Str × V), (putF f v fs).lookup g = if g = f then some v else fs.lookup g
  | [] => by
    show List.lookup g [(f, v)] = _
    by_cases h : g = f
    · have hb : (g == f) = true := beq_iff_eq.mpr h
      simp only [List.lookup, hb, if_pos h]
    · have hb : (g == f) = false := beq_eq_false_iff_ne.mpr h
      simp only [List.lookup, hb, if_neg h]
  | (k, x) :: r => by
    have ih := lookup_putF f g v r
    rw [show putF f v ((k, x) :: r) = (if k = f then (k, v) :: r else (k, x) :: putF f v r) from rfl]
    by_cases hk : k = f
    · rw [if_pos hk]
      by_cases h : g = k
      · have hb : (g == k) = true := beq_iff_eq.mpr h
        simp only [List.lookup, hb, if_pos (h.trans hk)]
      · have hb : (g == k) = false := beq_eq_false_iff_ne.mpr h
        simp only [List.lookup, hb, if_neg (fun e : g = f => h (e.trans hk.symm))]
    · rw [if_neg hk]
      by_cases h : g = k
      · have hb : (g == k) = true := beq_iff_eq.mpr h
        simp only [List.lookup, hb, if_neg (fun e : g = f => hk (h.symm.trans e))]
      · have hb : (g == k) = false := beq_eq_false_iff_ne.mpr h
        simp only [List.lookup, hb]
        exact ih
theorem RelO.none_of {o : Option Value} (r : RelO none o) : o = none := by
  cases o with
  | none => rfl
  | some u => exact (show False from r).elim
section
variable {P : Program} {w : World} {H H' : Hp} {h h' : Heap} {a C dx : Addr} {fs fs' : List (Str × V)}
theorem ins_get (hok : HOk P w H h) (e : H a = some (.ins C dx fs)) : ∃ mA, ObjM h a dx C mA ∧ (∀ f, RelO (fs.lookup f) (mA f)) ∧ PySem.Within mA (fs.map (·.1)) ∧ fs.length ≤ 1000 ∧ H dx = some (.own a) := by
  obtain ⟨d, z, ne, ob, mA, n, r, q⟩ := (show ObjOk P w H h a (.ins C dx fs) from hok a _ e)
  exact ⟨mA, ⟨ob, n, ne⟩, r, q, z, d⟩
end

structure Cls (K : PySem.W.Frag) (C : Addr) : Prop where
  pg : PySem.W.plainGet K C Str.empty = true
  hd : PySem.W.hasDictIn K C = true
  po : PySem.W.plainOver K C = true
  sa : PySem.W.findIn K (.ref C) "__setattr__" = some (some (.builtin "object.__setattr__"))
theorem Cls.get {K : PySem.W.Frag} {C : Addr} (c : Cls K C) (f : Str) : PySem.W.plainGet K C f = true := c.pg
noncomputable def NoAttr (K : PySem.W.Frag) (C : Addr) (f : Str) : Prop := PySem.W.findIn K (.ref C) f = some none
structure Con (K : PySem.W.Frag) (C : Addr) (f : Str) (v : V) (u : Value) : Prop where
  at_ : PySem.W.findIn K (.ref C) f = some (some u)
  rel : RelV v u
  get : PySem.W.specialIn K u "__get__" = some none
  cp : PySem.W.copiedNames.contains f = false
structure Meth (K : PySem.W.Frag) (C : Addr) (m : Str) (f : Addr) : Prop where
  at_ : PySem.W.findIn K (.ref C) m = some (some (.ref f))
  fn : PySem.W.isFn K (.ref f) = true
  kp : PySem.W.keepIn K (.ref f) = true

section
variable {X : Cx} {pins : List (Addr × Obj)} {σ : St} {H : Hp} {s : Shared} {a C dx : Addr} {fs : List (Str × V)} {f : Str} {v : V} {A : Around} {E : Value → Shared → Prop}

end

section
variable {X : Cx} {o e value : Expr} {f : Str} {pos pos' tpos : Pos} {ta tv : TE}
end

section
variable {X : Cx} {pins : List (Addr × Obj)} {σ : St} {H : Hp} {s : Shared} {A : Around} {E : Value → Shared → Prop} {Q : Value → Shared → Prop} {c : Value} {b : Bool}
inductive TyOf (K : PySem.W.Frag) (H : Hp) : V → Value → Prop where
  | non : TyOf K H .non (.type "NoneType")
  | bl (x : Bool) : TyOf K H (.bl x) (.type "bool")
  | int (i : Int) : TyOf K H (.int i) (.type "int")
  | str (x : Str) : TyOf K H (.str x) (.type "str")
  | flt (x : UInt64) : TyOf K H (.flt x) (.type "float")
  | lst {a : Addr} {xs : List V} (e : H a = some (.lst xs)) : TyOf K H (.ref a) (.type "list")
  | frz {a : Addr} {o : Obj} {xs : List V} (e : H a = some (.frz o (.lst xs))) : TyOf K H (.ref a) (.type "list")
  | tup {a : Addr} {xs : List V} (e : H a = some (.tup xs)) : TyOf K H (.ref a) (.type "tuple")
  | dK {a : Addr} {kvs : List (Key × V)} (e : H a = some (.dK kvs)) : TyOf K H (.ref a) (.type "dict")
  | dT {a : Addr} {kvs : List (List Key × V)} (e : H a = some (.dT kvs)) : TyOf K H (.ref a) (.type "dict")
  | ins {a C dx : Addr} {fs : List (Str × V)} (e : H a = some (.ins C dx fs)) (cl : Cls K C) (ha : PySem.W.findIn K (.ref C) "__class__" = some (some (.builtin "object.__class__")))
      (hn : PySem.W.specialIn K (.builtin "object.__class__") "__get__" = some (some (.builtin "getset_descriptor.__get__"))) (htk : PySem.W.takesIn K (.builtin "object.__class__") = some true)
      (hm : PySem.W.mroIn K C (.type "object") = some true) : TyOf K H (.ref a) (.ref C)
theorem isinst_ok {x : V} {u t : Value} (I : Inv X pins σ H s) (rx : RelV x u) (ty : TyOf X.K H x t) (e : PySem.W.kitOne X.K t c = some b) (h : ∀ tk, Q (.bool b) { s with toks := tk }) :
    wpAny (model X.prog X.w) A (call (.builtin "isinstance") [u, c]) Q E s := by
  cases ty with
  | non => cases (show u = Value.none from rx); exact PySem.W.kia_one PySem.W.kitx_none I.kIn True.intro e (fun z => nomatch z) h
  | bl y => cases (show u = Value.bool y from rx); exact PySem.W.kia_one PySem.W.kitx_bool I.kIn True.intro e (fun z => nomatch z) h
  | int i => obtain ⟨t, q⟩ := (show ∃ t, u = Value.int i t from rx); cases q; exact PySem.W.kia_one PySem.W.kitx_int I.kIn True.intro e (fun z => nomatch z) h
  | str y => obtain ⟨t, q⟩ := (show ∃ t, u = Value.str y t from rx); cases q; exact PySem.W.kia_one PySem.W.kitx_str I.kIn True.intro e (fun z => nomatch z) h
  | flt y => obtain ⟨t, q⟩ := (show ∃ t, u = Value.float y t from rx); cases q; exact PySem.W.kia_one PySem.W.kitx_float I.kIn True.intro e (fun z => nomatch z) h
  | @lst a xs ea =>
    cases (show u = Value.ref a from rx)
    obtain ⟨_, _, n, _, h1⟩ := (show ObjOk X.prog X.w H s.heap a (.lst xs) from I.hok a _ ea)
    exact PySem.W.kia_one PySem.W.kitx_list I.kIn ⟨_, h1, rfl⟩ e (fun z => nomatch z) h
  | @frz a ob xs ea =>
    cases (show u = Value.ref a from rx)
    obtain ⟨_, _, _, n, _, h1⟩ := (show ObjOk X.prog X.w H s.heap a (.frz ob (.lst xs)) from I.hok a _ ea)
    exact PySem.W.kia_one PySem.W.kitx_list I.kIn ⟨_, h1, rfl⟩ e (fun z => nomatch z) h
  | @tup a xs ea =>
    cases (show u = Value.ref a from rx)
    obtain ⟨_, _, _, p⟩ := (show ObjOk X.prog X.w H s.heap a (.tup xs) from I.hok a _ ea)
    obtain ⟨o, h1, h2, _⟩ := p
    exact PySem.W.kia_one PySem.W.kitx_tuple I.kIn ⟨o, h1, h2⟩ e (fun z => nomatch z) h
  | @dK a kvs ea =>
    cases (show u = Value.ref a from rx)
    obtain ⟨_, _, vs, _, p⟩ := (show ObjOk X.prog X.w H s.heap a (.dK kvs) from I.hok a _ ea)
    obtain ⟨o, es, ep, h1, h2, _⟩ := p
    exact PySem.W.kia_one PySem.W.kitx_dict I.kIn ⟨o, h1, h2.1⟩ e (fun z => nomatch z) h
  | @dT a kvs ea =>
    cases (show u = Value.ref a from rx)
    obtain ⟨_, _, xs, _, o, es, ep, h1, h2, _⟩ := (show ObjOk X.prog X.w H s.heap a (.dT kvs) from I.hok a _ ea)
    exact PySem.W.kia_one PySem.W.kitx_dict I.kIn ⟨o, h1, h2.1⟩ e (fun z => nomatch z) h
  | @ins a C dx fs ea cl ha hn htk hm =>
    cases (show u = Value.ref a from rx)
    obtain ⟨mA, O, _⟩ := ins_get I.hok ea
    obtain ⟨od, J, _⟩ := O.look
    exact PySem.W.kia_one (PySem.W.kitx_own (cl.get _) cl.hd ha hn htk hm) I.kIn J e (fun z => nomatch z) h
end
end L2

namespace L2
open PySem PySem.Spec PyProof.Rows

structure Room (k : Nat) (A : Around) : Prop where
  hd : A.handled = none
  dp : A.depth + 3 * k + 5 < recursionLimit
  un : A.units + 16 * k + 200 < cLine
  gd : A.guards = some []
theorem Room.mono {j k : Nat} {A : Around} (r : Room k A) (h : j ≤ k) : Room j A := ⟨r.hd, by have := r.dp; omega, by have := r.un; omega, r.gd⟩
theorem Room.deeper {k : Nat} {A : Around} (r : Room (k + 1) A) (env : Env) : Room k (A.deeper env) :=
  ⟨r.hd, by have := r.dp; show A.depth + 1 + 3 * k + 5 < _; omega, by have := r.un; show A.units + 3 + 16 * k + 200 < _; omega, r.gd⟩
theorem make_depth {A : Around} {C : Addr} {us : List Value} {kw : List (Str × Value)} : (A.under (.builtin "type.__call__" ⟨.ref C :: us, kw⟩)).depth = A.depth + 1 := by
  first | rfl | simp [Around.under, Code.weight, Code.isCreation, Code.isGuard, Code.isCaller, Code.frames, Code.isFrame, guardIds]
theorem make_units {A : Around} {C : Addr} {us : List Value} {kw : List (Str × Value)} : (A.under (.builtin "type.__call__" ⟨.ref C :: us, kw⟩)).units = A.units + 1 := by
  first | rfl | simp [Around.under, Code.cUnits, Code.frames, Code.isFrame]
theorem make_guards {A : Around} {C : Addr} {us : List Value} {kw : List (Str × Value)} : (A.under (.builtin "type.__call__" ⟨.ref C :: us, kw⟩)).guards = pushGuards [] A.guards := by
  first | rfl | simp [Around.under, Code.guards, Code.isGuard, guardIds]
theorem Room.make {k : Nat} {A : Around} (r : Room (k + 1) A) (C : Addr) (us : List Value) (kw : List (Str × Value)) : Room k (A.under (.builtin "type.__call__" ⟨.ref C :: us, kw⟩)) :=
  ⟨r.hd, by have := r.dp; rw [make_depth]; omega, by have := r.un; rw [make_units]; omega, (make_guards.trans (by rw [r.gd]; rfl))⟩
theorem Room.depth {k : Nat} {A : Around} (r : Room k A) : A.depth < recursionLimit := by have := r.dp; omega
theorem Room.units {k : Nat} {A : Around} (r : Room k A) : A.units + 64 < cLine := by have := r.un; omega
theorem Room.units0 {k : Nat} {A : Around} (r : Room k A) : A.units < cLine := by have := r.un; omega

noncomputable def tNil : TA := fun _ H Q => Q [] H
noncomputable def tCons (ta : TE) (tr : TA) : TA := fun σ H Q => ta σ H fun x H1 => tr σ H1 fun xs H2 => Q (x :: xs) H2
section
variable {X : Cx} {e : Expr} {es : List Expr} {te : TE} {t : TA} {pos : Pos}
theorem pa_nil : PA X [] tNil := fun _ _ _ _ H Q I h => Calls.spliced_nil ⟨[], H, I, .nil, h⟩
theorem pa_cons (ha : PE X e te) (hr : PA X es t) (hs : autoParam (starEach (e :: es) X.env = (false, eval e X.env) :: starEach es X.env) L2.auto4._auto_1) : PA X (e :: es) (tCons te t) := by
  intro pos pins s σ H Q I h
  rw [hs]
  show wpAny _ _ (spliced ((false, eval e X.env) :: backTo pos (starEach es X.env))) _ _ s
  refine Calls.spliced_cons (thn (ha pins s σ H _ I h) fun u s1 qq0 => ?_)
  obtain ⟨x, H1, I1, r1, q1⟩ := qq0
  exact thn (hr pos pins s1 σ H1 _ I1 q1) fun us s2 ⟨xs, H2, I2, r2, q2⟩ => ⟨x :: xs, H2, I2, .cons r1 r2, q2⟩

noncomputable def tTup (t : TA) : TE := fun σ H Q => t σ H fun xs H1 => xs.length ≤ sizeLine ∧ ∀ p, H1 p = none → Q (.ref p) (upd H1 p (.tup xs))
noncomputable def tLst (t : TA) : TE := fun σ H Q => t σ H fun xs H1 => xs.length ≤ sizeLine ∧ ∀ p, H1 p = none → Q (.ref p) (upd H1 p (.lst xs))
theorem pe_tup {x1} (h : PA X es t) : PE X (.Tuple es x1 pos) (tTup t) := by
  intro pins s σ H Q I hq
  refine wpAny_Tuple_spliced (thn (h pos pins s σ H _ I hq) fun us s1 ⟨xs, H1, I1, r, z, q⟩ => ⟨by rw [← r.length]; exact z, ?_⟩)
  have hf : H1 s1.heap.objs.size = none := I1.hok.fresh (Nat.le_refl _)
  refine ⟨.ref s1.heap.objs.size, upd H1 s1.heap.objs.size (.tup xs), I1.laid (t' := s1.toks) (fun b u e => Heap.get?_push_of_some _ e) (Nat.le_refl _) ?_, rfl, q _ hf⟩
  exact ⟨z, us, r, ⟨_, Heap.get?_push_size _ rfl, rfl, _, rfl⟩⟩
theorem pe_lst (h : PA X es t) : PE X (.List es pos) (tLst t) := by
  intro pins s σ H Q I hq
  refine wpAny_List_spliced (thn (h pos pins s σ H _ I hq) fun us s1 ⟨xs, H1, I1, r, z, q⟩ => ⟨by rw [← r.length]; exact z, ?_⟩)
  have hf : H1 s1.heap.objs.size = none := I1.hok.fresh (Nat.le_refl _)
  refine ⟨.ref s1.heap.objs.size, upd H1 s1.heap.objs.size (.lst xs), I1.laid (t' := s1.toks) (fun b u e => Heap.get?_push_of_some _ e) (Nat.le_refl _) ?_, rfl, q _ hf⟩
  exact ⟨z, us, 0, r, Heap.get?_push_size _ rfl⟩
end

noncomputable abbrev Sp := List V → Hp → VK → XK → Prop
noncomputable abbrev CXT := List Env → Hp → Shared → XK → Value → Shared → Prop

structure Env0 (P : Program) (w : World) (K : PySem.W.Frag) (mg : Str → Option Value) (base : Heap) (A : Around) (outer : List Env) (s : Shared) (H : Hp) : Prop where
  frames : A.frames = some outer
  mod : Mod K mg base
  bs : ∀ b o, base.get? b = some o → s.heap.get? b = some o ∧ H b = none
  bsz : base.objs.size ≤ s.heap.objs.size
  funs : s.heap.FunFrames base outer
  frf : ∀ b ∈ frs outer, H b = none
  hok : HOk P w H s.heap
  bare : AllBare s.gens
noncomputable def CE (outer : List Env) (P : Program) (w : World) (H : Hp) (s : Shared) (Q : VK) (u : Value) (s' : Shared) : Prop :=
  ∃ v H', s'.os = s.os ∧ AllBare s'.gens ∧ Un (frs outer) [] H H' s.heap s'.heap ∧ HOk P w H' s'.heap ∧ RelV v u ∧ Q v H'
noncomputable def CR (CX : CXT) (outer : List Env) (P : Program) (w : World) (H : Hp) (s : Shared) (Q : VK) (E : XK) (r : Result) (s' : Shared) : Prop :=
  match r with
  | .ok (.ret u) => CE outer P w H s Q u s'
  | .ok _ => False
  | .error e => CX outer H s E e s'
structure FnOk (P : Program) (w : World) (K : PySem.W.Frag) (mg : Str → Option Value) (base : Heap) (CX : CXT) (k : Nat) (f : Addr) (fd : FuncData) (ps : List Str) (sp : Sp) : Prop where
  len : ∀ vs H Q E, sp vs H Q E → vs.length = ps.length
  run : ∀ (A : Around) (outer : List Env) (s : Shared) (H : Hp) (args : Args) (us : List Value) (vs : List V) (Q : VK) (E : XK), Room k A → Env0 P w K mg base A outer s H → BindsTo s fd args (ps.zip us) → Vals vs us → sp vs H Q E →
    codeAny (model P w) A (.call (.ref f) args) (CR CX outer P w H s Q E) s
theorem Env0.make {P : Program} {w : World} {K : PySem.W.Frag} {mg : Str → Option Value} {base : Heap} {A : Around} {outer : List Env} {s : Shared} {H : Hp} (e : Env0 P w K mg base A outer s H) (C : Addr) (us : List Value) (kw : List (Str × Value)) :
    Env0 P w K mg base (A.under (.builtin "type.__call__" ⟨.ref C :: us, kw⟩)) outer s H := ⟨by first | exact e.frames | (simpa [Around.under, Code.envs, Code.isFrame, pushEnvs] using e.frames), e.mod, e.bs, e.bsz, e.funs, e.frf, e.hok, e.bare⟩
section
variable {X : Cx} {pins : List (Addr × Obj)} {σ : St} {H : Hp} {s s' : Shared}
theorem Inv.env0 (I : Inv X pins σ H s) : Env0 X.prog X.w X.K X.mg X.base X.A X.stack s H :=
  ⟨I.ok.frames, I.ok.mod, I.bs, Nat.le_trans I.ok.bsz I.sz, I.stack, I.stkFree, I.hok, I.bare⟩
theorem Inv.after {Q : VK} {u : Value} (I : Inv X pins σ H s) (h : CE X.stack X.prog X.w H s Q u s') : EP X pins σ Q u s' := by
  obtain ⟨v, H', os, bare, un, hok, r, q⟩ := h
  obtain ⟨hh, g, d, t, os'⟩ := s'
  obtain rfl : os' = s.os := os
  exact ⟨v, H', I.call (h' := hh) (g' := g) (d' := d) (t' := t) (ch := []) un hok bare (fun b z => absurd z (by simp)), r, q⟩
end

noncomputable def tCall (sp : Sp) (dvs : List V) (E : XK) (t : TA) : TE := fun σ H Q => t σ H fun vs H1 => sp (vs ++ dvs) H1 Q E
noncomputable def Binds (K : PySem.W.Frag) (fd : FuncData) (ps : List Str) (ds : List Value) : Prop :=
  ∀ (s : Shared) (us : List Value), K.In s.heap → (us ++ ds).length = ps.length → BindsTo s fd ⟨us, []⟩ (ps.zip (us ++ ds))
theorem Binds.all {K : PySem.W.Frag} {fd : FuncData} {ps : List Str} (h : ∀ us : List Value, us.length = ps.length → bindArgs fd ⟨us, []⟩ = pure (ps.zip us)) : Binds K fd ps [] := fun s us _ hl => by
  rw [List.append_nil] at hl ⊢
  exact .of_eq (h us hl)

noncomputable def Passes (CX : CXT) (X : Cx) (E : XK) : Prop := ∀ (pins : List (Addr × Obj)) (σ : St) (H : Hp) (s : Shared) (e : Value) (s' : Shared), Inv X pins σ H s → CX X.stack H s E e s' → X.xe e s'

section
variable {X : Cx} {CX : CXT} {k : Nat} {f C : Addr} {fd : FuncData} {ps : List Str} {sp : Sp} {dvs : List V} {ds : List Value} {E : XK} {x m : Str} {p pos apos : Pos} {e o : Expr} {es : List Expr} {ta : TE} {t : TA}

theorem run_fn {pins : List (Addr × Obj)} {σ : St} {H : Hp} {s : Shared} {Q : VK} {us : List Value} {vs : List V} (F : FnOk X.prog X.w X.K X.mg X.base CX k f fd ps sp) (hr : Room k X.A) (hb : Binds X.K fd ps ds) (hd : Vals dvs ds) (hx : Passes CX X E)
    (I : Inv X pins σ H s) (r : Vals vs us) (h : sp (vs ++ dvs) H Q E) : wpAny (model X.prog X.w) X.A (call (.ref f) us) (EP X pins σ Q) X.xe s := by
  have r2 : Vals (vs ++ dvs) (us ++ ds) := r.append hd
  have hl : (us ++ ds).length = ps.length := by rw [← r2.length]; exact F.len _ _ _ _ h
  refine wpAny_call (codeAny_mono (F.run X.A X.stack s H ⟨us, []⟩ (us ++ ds) (vs ++ dvs) Q E hr I.env0 (hb s us I.kIn hl) r2 h) fun r s' hq => ?_)
  cases r with
  | error e => exact hx pins σ H s e s' I hq
  | ok fl =>
    cases fl with
    | ret u => exact I.after hq
    | next => exact False.elim hq
    | brk => exact False.elim hq
    | cont => exact False.elim hq

theorem pe_call (F : FnOk X.prog X.w X.K X.mg X.base CX k f fd ps sp) (hr : Room k X.A) (hg : Gl X x) (hm : X.mg x = some (.ref f)) (hk : PySem.W.keepIn X.K (.ref f) = true) (hb : Binds X.K fd ps ds) (hd : Vals dvs ds) (hx : Passes CX X E)
    (ha : PA X (e :: es) t) (hdb : autoParam ((x == ("__debug__" : Str)) = false) L2.auto2._auto_1) (he : autoParam (starEach (e :: es) X.env = (false, eval e X.env) :: starEach es X.env) L2.auto4._auto_1) (hpl : autoParam ((backTo pos (starEach es X.env)).any (·.1) = false) L2.auto4._auto_1) :
    PE X (.Call (.Name x p) (e :: es) [] pos) (tCall sp dvs E t) := by
  intro pins s σ H Q I h
  refine wpAny_Call_Name_kw (ld_glob I hg hm ?_ hdb)
  refine PySem.W.callWith_K (h₀ := X.base) I.ok.mod.kin hk (thn (ha pos pins s σ H _ I h) fun us s1 ⟨vs, H1, I1, r, q⟩ => ⟨I1.kIn, ?_⟩) he hpl
  exact run_fn F hr hb hd hx I1 r q
structure Mk (K : PySem.W.Frag) (C f : Addr) : Prop where
  makes : PySem.W.makesIn K C = true
  init : PySem.W.findIn K (.ref C) "__init__" = some (some (.ref f))
  fn : PySem.W.isFn K (.ref f) = true
  kp : PySem.W.keepIn K (.ref C) = true

end

section
variable {X : Cx} {CX : CXT} {k : Nat} {f C : Addr} {fd : FuncData} {ps ks : List Str} {sp : Sp} {E : XK} {x m : Str} {p pos apos kpos : Pos} {e o : Expr} {es : List Expr} {kws : List Keyword} {te ta : TE} {t tk : TA} {nm : Option Str}
structure KBinds (K : PySem.W.Frag) (fd : FuncData) (ps ks : List Str) (g : List Value → List Value → List Value) (gV : List V → List V → List V) : Prop where
  to : ∀ (s : Shared) (us ws : List Value), K.In s.heap → (g us ws).length = ps.length → BindsTo s fd ⟨us, ks.zip ws⟩ (ps.zip (g us ws))
  rel : ∀ {vs : List V} {us : List Value} {zs : List V} {ws : List Value}, Vals vs us → Vals zs ws → Vals (gV vs zs) (g us ws)
variable {g : List Value → List Value → List Value} {gV : List V → List V → List V}
end

structure FnScope (N P : List Str) (sc : Scope) : Prop where
  kind : sc.kind = .function
  co : sc.isCoroutine = false
  gen : sc.isGenerator = false
  nd : N.Nodup
  pre : N.take P.length = P
  par : ∀ x ∈ P, sc.names.lookup x = some .local ∨ sc.names.lookup x = some .cell
  nofree : ∀ y ∈ sc.names, y.2 ≠ .free

theorem bindL_out {kindOf : Str → Option NameKind} {x : Str} : ∀ {binds : List (Str × Value)} {m : Str → Option Value}, (∀ v, (x, v) ∉ binds) → bindL kindOf binds m x = m x
  | [], _, _ => rfl
  | (n, v) :: r, m, h => by
    unfold bindL
    rw [bindL_out fun w hw => h w (List.mem_cons_of_mem _ hw)]
    split
    · have : x ≠ n := by rintro rfl; exact h v List.mem_cons_self
      simp [this]
    · rfl
theorem bindC_out {kindOf : Str → Option NameKind} {x : Str} : ∀ {binds : List (Str × Value)} {m : Str → Option Value}, (∀ v, (x, v) ∉ binds) → bindC kindOf binds m x = m x
  | [], _, _ => rfl
  | (n, v) :: r, m, h => by
    unfold bindC
    rw [bindC_out fun w hw => h w (List.mem_cons_of_mem _ hw)]
    split
    · rfl
    · have : x ≠ n := by rintro rfl; exact h v List.mem_cons_self
      simp [this]
theorem bindL_get {kindOf : Str → Option NameKind} {x : Str} {v : Value} : ∀ {P : List Str} {vs : List Value} {i : Nat} {m : Str → Option Value}, P.Nodup → P[i]? = some x → vs[i]? = some v → kindOf x = some .local →
    bindL kindOf (P.zip vs) m x = some v
  | [], _, _, _, _, h, _, _ => by simp at h
  | _ :: _, [], _, _, _, _, h, _ => by simp at h
  | p :: P, w :: vs, 0, m, nd, h1, h2, hk => by
    simp at h1 h2; subst h1; subst h2
    show bindL kindOf ((p, w) :: P.zip vs) m p = _
    unfold bindL
    rw [bindL_out fun v hv => (List.nodup_cons.mp nd).1 (List.of_mem_zip hv).1, if_pos hk]
    simp
  | p :: P, w :: vs, i + 1, m, nd, h1, h2, hk => by
    show bindL kindOf ((p, w) :: P.zip vs) m x = _
    unfold bindL
    exact bindL_get (i := i) (List.nodup_cons.mp nd).2 (by simpa using h1) (by simpa using h2) hk
theorem bindC_get {kindOf : Str → Option NameKind} {x : Str} {v : Value} : ∀ {P : List Str} {vs : List Value} {i : Nat} {m : Str → Option Value}, P.Nodup → P[i]? = some x → vs[i]? = some v → kindOf x ≠ some .local →
    bindC kindOf (P.zip vs) m x = some v
  | [], _, _, _, _, h, _, _ => by simp at h
  | _ :: _, [], _, _, _, _, h, _ => by simp at h
  | p :: P, w :: vs, 0, m, nd, h1, h2, hk => by
    simp at h1 h2; subst h1; subst h2
    show bindC kindOf ((p, w) :: P.zip vs) m p = _
    unfold bindC
    rw [bindC_out fun v hv => (List.nodup_cons.mp nd).1 (List.of_mem_zip hv).1, if_neg hk]
    simp
  | p :: P, w :: vs, i + 1, m, nd, h1, h2, hk => by
    show bindC kindOf ((p, w) :: P.zip vs) m x = _
    unfold bindC
    exact bindC_get (i := i) (List.nodup_cons.mp nd).2 (by simpa using h1) (by simpa using h2) hk

noncomputable def start (N : List Str) (vs : List V) : St := vs.map some ++ List.replicate (N.length - vs.length) none

noncomputable def cxOf (CX : CXT) (P : Program) (w : World) (K : PySem.W.Frag) (mg : Str → Option Value) (base : Heap) (N : List Str) (qual : Str) (scope : Scope) (f : Addr) (cd : Value) (A : Around) (outer : List Env) (s : Shared) (H : Hp) (E : XK) : Cx where
  prog := P
  w := w
  K := K
  mg := mg
  base := base
  A := A.deeper (envOfC qual scope s.heap.objs.size f cd)
  N := N
  s₀ := s
  H₀ := H
  env := envOfC qual scope s.heap.objs.size f cd
  outer := outer
  stack := envOfC qual scope s.heap.objs.size f cd :: outer
  ex := []
  calm := true
  fn := fun _ => true
  pn := []
  xe := fun e s' => wpAny (model P w) (A.deeper (envOfC qual scope s.heap.objs.size f cd)) (leaving (envOfC qual scope s.heap.objs.size f cd) e) (fun _ s'' => CX outer H s E e s'') (fun e' s'' => CX outer H s E e' s'') s'

theorem cell_has {sc : Scope} {n : Nat} {x : Str} (h : sc.names.lookup x = some .cell) : ∃ c, (cellsFrom n sc.names []).lookup x = some c := by
  have q := PySem.W.cellsFrom_some sc.names n [] (.inl h)
  exact Option.isSome_iff_exists.mp q

theorem inv_start {CX : CXT} {P : Program} {w : World} {K : PySem.W.Frag} {mg : Str → Option Value} {base : Heap} {N ps : List Str} {qual : Str} {scope : Scope} {f : Addr} {cd : Value} {A : Around} {outer : List Env} {s s1 : Shared} {H : Hp} {E : XK} {us : List Value} {vs : List V}
    (S : FnScope N ps scope) (hd : A.handled = none) (e0 : Env0 P w K mg base A outer s H) (hl : vs.length = ps.length) (r : Vals vs us)
    (x : InCallC s s.heap.objs.size (bindL (envOfC qual scope s.heap.objs.size f cd).kindOf (ps.zip us) fun _ => none) (cellsFrom (s.heap.objs.size + 1) scope.names []) (bindC (envOfC qual scope s.heap.objs.size f cd).kindOf (ps.zip us) fun _ => none) s1) :
    Inv (cxOf CX P w K mg base N qual scope f cd A outer s H E) [] (start N vs) H s1 := by
  have hpl : ps.length ≤ N.length := by have := congrArg List.length S.pre; rw [List.length_take] at this; omega
  obtain ⟨h1, tk, rfl, hk⟩ := x.done
  have noA : ∀ b : Addr, b ∉ (cxOf CX P w K mg base N qual scope f cd A outer s H E).ex := fun b z => absurd (show b ∈ ([] : List Addr) from z) (by simp)
  refine ⟨⟨e0.mod, S.kind, rfl, rfl, Nat.le_refl _, fun y z c h1 h2 => ?_, fun y hy => ?_, fun y c _ h => ?_, fun _ => hd, Around.frames_deeper e0.frames, .inr ⟨rfl, rfl⟩, fun b z => absurd z (noA b), e0.bs, e0.bsz, fun b _ _ => noA b, fun b z => absurd z (noA b), e0.funs, e0.frf⟩,
    rfl, e0.bare, Un.kept hk, ⟨_, x.toInCall.ns, fun i y v h1 h2 h3 => ?_⟩, fun y c h => ⟨_, x.cell y c h⟩, e0.hok.fresh (Nat.le_refl _), fun y c h => ?_, fun p hp => absurd (show p ∈ ([] : List (Addr × Obj)) from hp) (by simp), e0.hok.kept hk, ?_⟩
  · exact name_of_addr x.apart (PySem.mem_of_lookup h1) (PySem.mem_of_lookup h2)
  · have hy : scope.names.lookup y = some .cell ∨ scope.names.lookup y = some .free := hy
    rcases hy with hy | hy
    · exact cell_has hy
    · exact absurd rfl (S.nofree _ (PySem.mem_of_lookup hy))
  · exact Nat.le_of_lt (x.above y c (PySem.mem_of_lookup h))
  · have hi : i < vs.length := by
      unfold start at h2
      by_cases hi : i < vs.length
      · exact hi
      · rw [List.getElem?_append_right (by simpa using hi)] at h2
        rw [List.getElem?_replicate] at h2
        split at h2 <;> cases h2
    have ha : vs[i]? = some v := by
      unfold start at h2
      rw [List.getElem?_append_left (by simpa using hi), List.getElem?_map] at h2
      cases e : vs[i]? with
      | none => rw [e] at h2; cases h2
      | some a => rw [e] at h2; cases h2; rfl
    obtain ⟨u, hu, rv⟩ := r.get ha
    have hp : ps[i]? = some y := by
      rw [← S.pre, List.getElem?_take_of_lt (by omega)]; exact h1
    have ndP : ps.Nodup := by rw [← S.pre]; exact S.nd.sublist (List.take_sublist _ _)
    refine ⟨u, rv, ?_⟩
    rcases S.par y (List.mem_of_getElem? hp) with k | k
    · exact .inl ⟨k, bindL_get ndP hp hu k⟩
    · obtain ⟨c, e⟩ := cell_has (n := s.heap.objs.size + 1) k
      refine .inr ⟨.inl k, c, e, ?_⟩
      have q := x.cell y c e
      rw [bindC_get ndP hp hu (by show scope.names.lookup y ≠ _; rw [k]; decide)] at q
      exact q
  · exact e0.hok.fresh (Nat.le_of_lt (x.above y c (PySem.mem_of_lookup h)))
  · unfold start
    show _ = N.length
    rw [List.length_append, List.length_map, List.length_replicate]
    omega

theorem fn_of {CX : CXT} {P : Program} {w : World} {K : PySem.W.Frag} {mg : Str → Option Value} {base : Heap} {k : Nat} {f : Addr} {name qual : Str} {params : Arguments} {body : List Stmt} {scope : Scope} {dV kV doc pm cdv ct oc : Value} {an od : Option Addr}
    {osl : Array (Option Value)} {N ps : List Str} {sp : Sp} (lk : K.lookup f = some ⟨oc, od, .func (PySem.W.fnOf name qual params body scope dV kV doc pm an cdv ct), osl⟩) (hcd : PySem.W.codeIn K cdv qual = true) (S : FnScope N ps scope)
    (len : ∀ vs H Q E, sp vs H Q E → vs.length = ps.length)
    (hbody : ∀ (A : Around) (outer : List Env) (s : Shared) (H : Hp) (vs : List V) (Q : VK) (E : XK), Room k (A.deeper (envOfC qual scope s.heap.objs.size f cdv)) → sp vs H Q E →
      ∃ t, PSs (cxOf CX P w K mg base N qual scope f cdv A outer s H E) body t ∧ t { nx := fun _ H' => Q .non H', rt := Q } (start N vs) H) :
    FnOk P w K mg base CX (k + 1) f (PySem.W.fnOf name qual params body scope dV kV doc pm an cdv ct) ps sp := by
  refine ⟨len, fun A outer s H args us vs Q E hr e0 hb r hsp => ?_⟩
  have hl := len _ _ _ _ hsp
  have KX : K.In s.heap := e0.mod.kin.keeps fun b o e => (e0.bs b o e).1
  have lim : s.heap.NoLimit := e0.mod.nolimit.keeps fun b o e => (e0.bs b o e).1
  have hkind : ∀ y ∈ ps.zip us, scope.names.lookup y.1 = some .local ∨ (scope.names.lookup y.1 = some .cell ∧ ((cellsFrom (s.heap.objs.size + 1) scope.names []).lookup y.1).isSome = true) := fun ⟨n, v⟩ hy => by
    rcases S.par n (List.of_mem_zip hy).1 with q | q
    · exact .inl q
    · exact .inr ⟨q, PySem.W.cellsFrom_some _ _ _ (.inl q)⟩
  refine codeAny_call_function hr.depth (KX _ _ lk) rfl S.co S.gen rfl (PySem.W.codeRec_of KX hcd) (hb _ _ _ _ ?_)
  refine wpAny_newFunctionEnv_cells S.kind hkind fun env he s1 x => ?_
  subst he
  refine ⟨lim.keeps x.toInCall.keep, codeAny_func ?_⟩
  obtain ⟨t, ht, hq⟩ := hbody A outer s H vs Q E (hr.deeper _) hsp
  have I : Inv (cxOf CX P w K mg base N qual scope f cdv A outer s H E) [] (start N vs) H s1 := inv_start S hr.hd e0 hl r x
  refine wpAny_mono (ht [] s1 (start N vs) H _ I hq) (fun fl s' hs => ?_) fun e s' hs => hs
  have fin : ∀ {σ' : St} {H' : Hp} {v : V} {u : Value}, Inv (cxOf CX P w K mg base N qual scope f cdv A outer s H E) [] σ' H' s' → RelV v u → Q v H' → CE outer P w H s Q u s' :=
    fun {σ' H' v u} J rv q => ⟨v, H', J.os, J.bare, J.base, J.hok, rv, q⟩
  cases fl with
  | ret u =>
    obtain ⟨v, σ', H', J, rv, q⟩ := hs
    exact fin J rv q
  | next =>
    obtain ⟨σ', H', J, q⟩ := hs
    exact fin (v := V.non) (u := Value.none) J rfl q
  | brk =>
    obtain ⟨_, _, _, q⟩ := hs
    exact False.elim q
  | cont =>
    obtain ⟨_, _, _, q⟩ := hs
    exact False.elim q
end L2

namespace L2
open PySem PySem.Spec PyProof.Rows
section
variable {X : Cx} {x : Str} {p pos : Pos} {e : Expr} {es : List Expr} {t : TA} {id T : String} {r : List V → Hp → VK → Prop}

noncomputable def tCB (r : List V → Hp → VK → Prop) (t : TA) : TE := fun σ H Q => t σ H fun vs H1 => r vs H1 Q
theorem pe_callB (hc : CallR X (.builtin id) r) (hg : Gl X x) (hm : X.mg x = none) (hv : bootBuiltins x = some (.builtin id)) (ha : PA X (e :: es) t) (hn : autoParam (x ≠ "__name__") L2.auto2._auto_1) (hdb : autoParam ((x == ("__debug__" : Str)) = false) L2.auto2._auto_1)
    (he : autoParam (starEach (e :: es) X.env = (false, eval e X.env) :: starEach es X.env) L2.auto4._auto_1) (hpl : autoParam ((backTo pos (starEach es X.env)).any (·.1) = false) L2.auto4._auto_1) : PE X (.Call (.Name x p) (e :: es) [] pos) (tCB r t) := by
  intro pins s σ H Q I h
  refine wpAny_Call_Name_kw (ld_blt I hg hm hv ?_ hn hdb)
  exact PyProof.Rows.callWith_builtin1 (thn (ha pos pins s σ H _ I h) fun us s1 ⟨vs, H1, I1, r1, q1⟩ => hc pins s1 σ H1 vs us Q I1 r1 q1) he hpl
theorem pe_callTy (hc : CallR X (.type T) r) (hg : Gl X x) (hm : X.mg x = none) (hv : bootBuiltins x = some (.type T)) (ha : PA X (e :: es) t) (hn : autoParam (x ≠ "__name__") L2.auto2._auto_1) (hdb : autoParam ((x == ("__debug__" : Str)) = false) L2.auto2._auto_1)
    (he : autoParam (starEach (e :: es) X.env = (false, eval e X.env) :: starEach es X.env) L2.auto4._auto_1) (hpl : autoParam ((backTo pos (starEach es X.env)).any (·.1) = false) L2.auto4._auto_1) : PE X (.Call (.Name x p) (e :: es) [] pos) (tCB r t) := by
  intro pins s σ H Q I h
  refine wpAny_Call_Name_kw (ld_blt I hg hm hv ?_ hn hdb)
  exact PyProof.Rows.callWith_type1 (thn (ha pos pins s σ H _ I h) fun us s1 ⟨vs, H1, I1, r1, q1⟩ => hc pins s1 σ H1 vs us Q I1 r1 q1) he hpl
end
end L2

namespace HT
open PySem PyProof.Rows

section
open PySem.SeqAt
open PySem.AutoSeq1 (wpAny_loadPart')
open PySem.MeetsSeq PySem.MeetsSeq2 PySem.MeetsSeq3

end

section
variable {prog : Program} {w : World} {A : Around} {E : Value → Shared → Prop} {s : Shared}

theorem cat_tup {t b : Addr} {vs ws : List Value} {Q : Value → Shared → Prop} (ht : IsTup s.heap t vs.toArray) (hb : IsTup s.heap b ws.toArray) (hv : vs ≠ [])
    (h1 : ws = [] → Q (.ref t) s) (h2 : ws ≠ [] → Q (.ref s.heap.objs.size) { s with heap := s.heap.push { cls := .type "tuple", data := .seq (vs ++ ws).toArray } })
    (hsz : vs.length + ws.length ≤ sizeLine) : wpAny (model prog w) A (binaryOp .Add (.ref t) (.ref b)) Q E s := by
  obtain ⟨⟨cls, dd, data, sl⟩, ho, hc, n, hd⟩ := id ht
  obtain ⟨⟨cls2, dd2, data2, sl2⟩, ho2, hc2, n2, hd2⟩ := id hb
  simp only at hc hd hc2 hd2
  subst hc hd hc2 hd2
  have e : vs.toArray ++ ws.toArray = (vs ++ ws).toArray := by simp
  by_cases hw : ws = []
  · exact concat_meets ⟨_, ho, rfl⟩ ⟨_, ho2, rfl⟩ noFill_tuple_add seq_tuple_add PySem.F.slot_tuple_add PySem.F.entry_tuple_add (PySem.F.args_tuple_add_2 _ _)
      (tuple_addW1 t b vs.toArray ws.toArray n n2 dd dd2 sl sl2 (by simpa using hv) (by simp [hw])) ⟨ho, ho2, h1 hw⟩
  · refine concat_meets ⟨_, ho, rfl⟩ ⟨_, ho2, rfl⟩ noFill_tuple_add seq_tuple_add PySem.F.slot_tuple_add PySem.F.entry_tuple_add (PySem.F.args_tuple_add_2 _ _)
      (tuple_addW2 t b vs.toArray ws.toArray n n2 dd dd2 sl sl2 (by simpa using hv) (by simpa using hw) (by rw [List.size_toArray, List.size_toArray]; exact hsz)) ⟨ho, ho2, ?_⟩
    rw [e]
    exact h2 hw

noncomputable def sIx (n d : Nat) : Option Int → Nat
  | none => d
  | some v => if v < 0 then (v + (n : Int)).toNat else min v.toNat n
theorem sIx_le (n d : Nat) (hd : d ≤ n) (o : Option Int) : sIx n d o ≤ n := by
  cases o with
  | none => exact hd
  | some v =>
    show (if v < 0 then (v + (n : Int)).toNat else min v.toNat n) ≤ n
    by_cases hv : v < 0
    · rw [if_pos hv]; omega
    · rw [if_neg hv]; exact Nat.min_le_right _ _
theorem clip_eq (v : Int) (n d : Nat) : (if v < 0 then max (v + (n : Int)) 0 else min v (n : Int)) = ((sIx n d (some v) : Nat) : Int) := by
  show (if v < 0 then max (v + (n : Int)) 0 else min v (n : Int)) = (((if v < 0 then (v + (n : Int)).toNat else min v.toNat n) : Nat) : Int)
  by_cases hv : v < 0
  · simp only [if_pos hv]; omega
  · simp only [if_neg hv]; omega
theorem adjust_gen (lo hi : Option Int) (n : Nat) : Builtin.Slice.sliceAdjust lo hi 1 (n : Int) = (((sIx n 0 lo : Nat) : Int), ((sIx n n hi : Nat) : Int)) := by
  have h1 : ¬ ((1 : Int) < 0) := by omega
  unfold Builtin.Slice.sliceAdjust
  simp only [h1, if_false]
  refine Prod.ext ?_ ?_
  · cases lo with
    | none => rfl
    | some v => exact clip_eq v n 0
  · cases hi with
    | none => rfl
    | some v => exact clip_eq v n n
theorem places_gen (i j : Nat) : Builtin.Slice.slicePlaces (i : Int) (j : Int) 1 = j - i := by
  unfold Builtin.Slice.slicePlaces
  have h1 : (1 : Int) > 0 := by omega
  simp only [h1, if_true, Int.ediv_one]
  split <;> omega
theorem slicePart_ {v : Value} {o : Option Int} {Q : Option Int → Shared → Prop} (p : IsPart v o) (h : Q o s) : wpAny (model prog w) A (Builtin.Slice.slicePartIndex v) Q E s := by
  cases p with
  | none => exact slicePart_none h
  | int i t => exact slicePart_int h
theorem sliceApplied_gen {sl : Addr} {vl vu : Value} {lo hi : Option Int} {n : Nat} {Q : Int × Int × Nat → Shared → Prop} (hs : s.heap.IsSliceOf sl vl vu .none) (pl : IsPart vl lo) (pu : IsPart vu hi)
    (h : Q (((sIx n 0 lo : Nat) : Int), 1, sIx n n hi - sIx n 0 lo) s) : wpAny (model prog w) A (Builtin.Slice.sliceApplied (.ref sl) (pure (n : Int))) Q E s := by
  obtain ⟨os, hos, hcs, hds⟩ := id hs
  unfold Builtin.Slice.sliceApplied Builtin.Slice.sliceFields
  refine wpAny_bind (wpAny_bind (wpAny_field hos hds (x := vl) rfl (wpAny_bind (wpAny_field hos hds (x := vu) rfl (wpAny_bind (wpAny_field hos hds (x := .none) rfl (wpAny_pure ?_)))))))
  refine wpAny_bind (slicePart_none ?_)
  show wpAny _ _ (if ((1 : Int) == 0) = true then _ else _) _ _ s
  rw [if_neg (by decide)]
  refine wpAny_bind (slicePart_ pl (wpAny_bind (slicePart_ pu (wpAny_bind (wpAny_pure ?_)))))
  show wpAny _ _ (match Builtin.Slice.sliceAdjust lo hi 1 (n : Int) with | (lo, hi) => pure (lo, (1 : Int), Builtin.Slice.slicePlaces lo hi 1)) _ _ s
  rw [adjust_gen lo hi n]
  show wpAny _ _ (pure (((sIx n 0 lo : Nat) : Int), (1 : Int), Builtin.Slice.slicePlaces ((sIx n 0 lo : Nat) : Int) ((sIx n n hi : Nat) : Int) 1)) _ _ s
  rw [places_gen]
  exact wpAny_pure h
theorem pick_gen (xs : Array Value) (i k : Nat) : ((List.range k).filterMap fun (m : Nat) => xs[((i : Int) + (m : Int) * 1).toNat]?).toArray = ((xs.toList.drop i).take k).toArray := by
  have e : (fun (m : Nat) => xs[((i : Int) + (m : Int) * 1).toNat]?) = fun m => xs[i + m]? := by
    funext m
    have : ((i : Int) + (m : Int) * 1).toNat = i + m := by omega
    rw [this]
  rw [e]
  have := pick_run xs i k
  rw [List.filterMap_map] at this
  have e2 : ((fun x => xs[x]?) ∘ fun x => i + x) = fun m => xs[i + m]? := rfl
  rw [e2] at this
  rw [this]

theorem getItem_tuple_cut {t sl : Addr} {items : Array Value} {vl vu : Value} {lo hi : Option Int} {Q : Value → Shared → Prop} (ht : IsTup s.heap t items) (hs : s.heap.IsSliceOf sl vl vu .none) (pl : IsPart vl lo) (pu : IsPart vu hi)
    (hw : ¬ (sIx items.size 0 lo = 0 ∧ sIx items.size items.size hi = items.size))
    (h : Q (.ref s.heap.objs.size) { s with heap := s.heap.push { cls := .type "tuple", data := .seq ((items.toList.drop (sIx items.size 0 lo)).take (sIx items.size items.size hi - sIx items.size 0 lo)).toArray } })
    (hsz : items.size ≤ sizeLine) : wpAny (model prog w) A (getItem (.ref t) (.ref sl)) Q E s := by
  have htake : sizeOk (.seq ((items.toList.drop (sIx items.size 0 lo)).take (sIx items.size items.size hi - sIx items.size 0 lo)).toArray) := by
    show ((items.toList.drop (sIx items.size 0 lo)).take (sIx items.size items.size hi - sIx items.size 0 lo)).toArray.size ≤ sizeLine
    rw [List.size_toArray, List.length_take, List.length_drop, Array.length_toList]
    omega
  have hj : sIx items.size items.size hi ≤ items.size := sIx_le _ _ (Nat.le_refl _) hi
  obtain ⟨os, hos, hcs, hds⟩ := id hs
  have hTs : s.TypeIs (.ref sl) "slice" := ⟨os, hos, hcs⟩
  unfold getItem
  try with_reducible refine wpAny_holding ?_
  first | refine wpAny_bind (wpAny_pure ?_) | skip
  refine wpAny_bind (wpAny_sequenceKey ht.typeIs (by decide) ?_)
  refine wpAny_bind (wpAny_callSpecial?_slot (name := Str.ofString "__getitem__") ht.typeIs PyProof.Rows.slot_tuple_getitem
    (wpAny_call_entry PyProof.Rows.slot_tuple_getitem ht.typeIs entry_tuple_getitem ?_ (args_tuple_getitem _ _)))
  show wpAny _ _ (Builtin.Tuple.tupleItemsOf (.ref t) >>= _) _ _ s
  refine wpAny_bind (tupleItemsOf_ ht ?_)
  refine wpAny_bind (wpAny_typeOf hTs ?_)
  rw [if_pos (by decide)]
  refine wpAny_bind (sliceApplied_gen hs pl pu ?_)
  have hno : ¬ ((((sIx items.size 0 lo : Nat) : Int) == 0 && (1 : Int) == 1 && (sIx items.size items.size hi - sIx items.size 0 lo) == items.size) = true) := by
    intro q
    rw [Bool.and_eq_true, Bool.and_eq_true] at q
    have q1 : ((sIx items.size 0 lo : Nat) : Int) = 0 := eq_of_beq q.1.1
    have q2 : sIx items.size items.size hi - sIx items.size 0 lo = items.size := eq_of_beq q.2
    exact hw ⟨by omega, by omega⟩
  show wpAny _ _ (if (((sIx items.size 0 lo : Nat) : Int) == 0 && (1 : Int) == 1 && (sIx items.size items.size hi - sIx items.size 0 lo) == items.size) = true then _ else _) _ _ s
  rw [if_neg hno, pick_gen]
  first
    | exact wpAny_bind (m := Builtin.Tuple.tupleExact _) (wpAny_newObj_type (wpAny_pure ⟨_, rfl, wpAny_pure h⟩) htake)
    | exact wpAny_bind (m := Builtin.Tuple.tupleExact _) (wpAny_newObj_type (wpAny_bind (wpAny_pure (wpAny_pure ⟨_, rfl, wpAny_pure h⟩))) htake)
    | exact wpAny_bind (wpAny_bind (m := Builtin.Tuple.tupleExact _) (wpAny_newObj_type (wpAny_pure (wpAny_pure ⟨_, rfl, wpAny_pure h⟩)) htake))
    | exact wpAny_bind (wpAny_bind (m := Builtin.Tuple.tupleExact _) (wpAny_newObj_type (wpAny_pure ⟨_, rfl, wpAny_pure h⟩) htake))
end
end HT

namespace L2
open PySem PySem.Spec PyProof.Rows

noncomputable abbrev TO := St → Hp → (Option Int → Hp → Prop) → Prop
noncomputable def PO (X : Cx) (e : Option Expr) (t : TO) : Prop :=
  ∀ (pins : List (Addr × Obj)) (s : Shared) (σ : St) (H : Hp) (Q : Option Int → Hp → Prop), Inv X pins σ H s → t σ H Q →
    wpAny (model X.prog X.w) X.A (evalPart e X.env) (fun u s' => ∃ o H', Inv X pins σ H' s' ∧ IsPart u o ∧ Q o H') X.xe s
noncomputable def tNoPart : TO := fun _ H Q => Q none H
noncomputable def tPart (t : TE) : TO := fun σ H Q => t σ H fun x H1 => ∃ i, x = .int i ∧ Q (some i) H1

theorem intsAre_of {ns : List Int} : ∀ {us : List Value}, Vals (ns.map V.int) us → IntsAre us ns := by
  induction ns with
  | nil => intro us r; rw [List.map_nil] at r; cases r; exact .nil
  | cons n ns ih =>
    intro us r
    rw [List.map_cons] at r
    cases r with
    | cons r1 r2 =>
      obtain ⟨t, e⟩ := r1
      subst e
      exact .cons n t (ih r2)

section
variable {X : Cx} {e : Expr} {te : TE} {lo hi : Option Expr} {tl th : TO} {pos p2 : Pos}

theorem po_none : PO X none tNoPart := by
  intro pins s σ H Q I h
  rw [evalPart_none]
  exact wpAny_pure ⟨none, H, I, .none, h⟩
theorem po_some (h : PE X e te) : PO X (some e) (tPart te) := by
  intro pins s σ H Q I hw
  rw [evalPart_some]
  refine thn (h pins s σ H _ I hw) fun u s1 qq0 => ?_
  obtain ⟨x, H1, I1, r1, q1⟩ := qq0
  obtain ⟨i, rfl, q⟩ := q1
  obtain ⟨t, rfl⟩ := r1
  exact ⟨some i, H1, I1, .int i t, q⟩

noncomputable def SlR (X : Cx) (r : V → Option Int → Option Int → Hp → VK → Prop) : Prop :=
  ∀ (pins : List (Addr × Obj)) (s : Shared) (σ : St) (H : Hp) (x : V) (v vl vu : Value) (lo hi : Option Int) (sl : Addr) (Q : VK), Inv X pins σ H s → RelV x v → s.heap.IsSliceOf sl vl vu .none → IsPart vl lo → IsPart vu hi → r x lo hi H Q →
    ∃ T id, typeLookup (.type T) "__getitem__" = pure (some (.builtin id)) ∧ s.TypeIs v T ∧ wpAny (model X.prog X.w) X.A (getItem v (.ref sl)) (EP X pins σ Q) X.xe s
theorem SlR.or {r r' : V → Option Int → Option Int → Hp → VK → Prop} (h : SlR X r) (h' : SlR X r') : SlR X (fun x lo hi H Q => r x lo hi H Q ∨ r' x lo hi H Q) := by
  intro pins s σ H x v vl vu lo hi sl Q I rx hs pl pu q
  rcases q with q | q
  · exact h pins s σ H x v vl vu lo hi sl Q I rx hs pl pu q
  · exact h' pins s σ H x v vl vu lo hi sl Q I rx hs pl pu q
noncomputable def tSl (r : V → Option Int → Option Int → Hp → VK → Prop) (te : TE) (tl th : TO) : TE := fun σ H Q => te σ H fun x H1 => tl σ H1 fun l H2 => th σ H2 fun u H3 => r x l u H3 Q
theorem pe_slice {r : V → Option Int → Option Int → Hp → VK → Prop} (hr : SlR X r) (he : PE X e te) (hl : PO X lo tl) (hu : PO X hi th) : PE X (.Subscript e (.Slice lo hi none p2) pos) (tSl r te tl th) := by
  intro pins s σ H Q I h
  refine Subscript_ (thn (he pins s σ H _ I h) fun v s1 qq0 => ?_)
  obtain ⟨x, H1, I1, r1, q1⟩ := qq0
  refine wpAny_Slice (thn (hl pins s1 σ H1 _ I1 q1) fun vl s2 ⟨l, H2, I2, pl, q2⟩ => thn (hu pins s2 σ H2 _ I2 q2) fun vu s3 qq0 => ?_)
  obtain ⟨u, H3, I3, pu, q3⟩ := qq0
  rw [evalPart_none]
  refine wpAny_pure ?_
  have I4 : Inv X pins σ H3 { s3 with heap := s3.heap.push { cls := .type "slice", data := .fields #[vl, vu, .none] } } := I3.kept (t' := s3.toks) fun b ob q => Heap.get?_push_of_some _ q
  obtain ⟨T, id, hT, ht, hg⟩ := hr pins { s3 with heap := s3.heap.push { cls := .type "slice", data := .fields #[vl, vu, .none] } } σ H3 x v vl vu l u s3.heap.objs.size Q I4 r1 (Heap.IsSliceOf.new ..) pl pu q3
  show wpAny (model X.prog X.w) X.A (subscriptTail e (.Slice lo hi none p2) v (.ref s3.heap.objs.size)) (EP X pins σ Q) X.xe { s3 with heap := s3.heap.push { cls := .type "slice", data := .fields #[vl, vu, .none] } }
  exact tail_any (ops := [.ref s3.heap.objs.size, v]) ht hT hg (by with_unfolding_all rfl)

noncomputable def cutV (xs : List V) (lo hi : Option Int) : List V := (xs.drop (HT.sIx xs.length 0 lo)).take (HT.sIx xs.length xs.length hi - HT.sIx xs.length 0 lo)
theorem cutV_length (xs : List V) (lo hi : Option Int) : (cutV xs lo hi).length ≤ xs.length := by
  unfold cutV
  rw [List.length_take, List.length_drop]
  omega
noncomputable def rSlT (K : PySem.W.Frag) : V → Option Int → Option Int → Hp → VK → Prop := fun x lo hi H Q => ∃ a xs, x = .ref a ∧ SqT K H a xs ∧
  ¬ (HT.sIx xs.length 0 lo = 0 ∧ HT.sIx xs.length xs.length hi = xs.length) ∧ ∀ p, H p = none → Q (.ref p) (upd H p (.tup (cutV xs lo hi)))
theorem sl_tup : SlR X (rSlT X.K) := by
  intro pins s σ H x v vl vu lo hi sl Q I rx hs pl pu h
  obtain ⟨a, xs, rfl, hx, hw, q⟩ := h
  cases rx
  obtain ⟨its, r, ht, hz⟩ := I.tuple hx
  have hlen : its.toArray.size = xs.length := by rw [List.size_toArray]; exact r.length.symm
  refine ⟨"tuple", _, PyProof.Rows.slot_tuple_getitem.lookup, ht.typeIs, ?_⟩
  refine HT.getItem_tuple_cut ht hs pl pu (by rw [hlen]; exact hw) ?_ (by rw [hlen]; exact hz)
  rw [hlen]
  refine ⟨.ref s.heap.objs.size, _, I.laid (t' := s.toks) (o := .tup (cutV xs lo hi)) (fun b ob q => Heap.get?_push_of_some _ q) (Nat.le_refl _) ?_, rfl, q _ (I.hok.fresh (Nat.le_refl _))⟩
  exact ⟨Nat.le_trans (cutV_length xs lo hi) hz, _, (r.drop (HT.sIx xs.length 0 lo)).take (HT.sIx xs.length xs.length hi - HT.sIx xs.length 0 lo), IsTup.new _ _⟩

noncomputable def rCatT (K : PySem.W.Frag) : R2 := fun x y H Q => ∃ a b xs ys, x = .ref a ∧ y = .ref b ∧ SqT K H a xs ∧ SqT K H b ys ∧ xs ≠ [] ∧ xs.length + ys.length ≤ sizeLine ∧
  (ys = [] → Q (.ref a) H) ∧ (ys ≠ [] → ∀ p, H p = none → Q (.ref p) (upd H p (.tup (xs ++ ys))))
theorem Vals.nil_iff {xs : List V} {us : List Value} (r : Vals xs us) : us = [] ↔ xs = [] := by
  cases r with
  | nil => simp
  | cons _ _ => simp
theorem op_catT : OpR X (binaryOp .Add) (rCatT X.K) := by
  intro pins s σ H x y v u Q I rx ry h
  obtain ⟨a, b, xs, ys, rfl, rfl, ha, hb, hx, hz, q1, q2⟩ := h
  cases rx
  cases ry
  obtain ⟨its, r1, p1, _⟩ := I.tuple ha
  obtain ⟨its2, r2, p2, _⟩ := I.tuple hb
  refine HT.cat_tup p1 p2 (fun z => hx (r1.nil_iff.mp z)) (fun z => ⟨.ref a, H, I, rfl, q1 (r2.nil_iff.mp z)⟩) (fun z => ?_) (by rw [← r1.length, ← r2.length]; exact hz)
  refine ⟨.ref s.heap.objs.size, _, I.laid (t' := s.toks) (o := .tup (xs ++ ys)) (fun b ob q => Heap.get?_push_of_some _ q) (Nat.le_refl _) ?_, rfl, q2 (fun w => z (r2.nil_iff.mpr w)) _ (I.hok.fresh (Nat.le_refl _))⟩
  exact ⟨by rw [List.length_append]; exact hz, _, r1.append r2, IsTup.new _ _⟩
end
end L2

namespace L2
open PySem PySem.Spec PyProof.Rows

noncomputable def ixN (n : Nat) (i : Int) : Option Nat := if 0 ≤ i then (if i < n then some i.toNat else none) else if -(n : Int) ≤ i then some (i + n).toNat else none
noncomputable def atI {α : Type} (xs : List α) (i : Int) : Option α := (ixN xs.length i).bind fun j => xs[j]?
theorem ixN_seq {n : Nat} {i : Int} {j : Nat} (h : ixN n i = some j) : seqIndex? i n = some j ∧ j < n ∧ -(n : Int) ≤ i ∧ i < n := by
  unfold ixN at h
  by_cases h0 : 0 ≤ i
  · rw [if_pos h0] at h
    by_cases h1 : i < n
    · rw [if_pos h1] at h
      have e : i.toNat = j := Option.some.inj h
      exact ⟨by rw [seqIndex_of h0 h1, e], by omega, by omega, h1⟩
    · rw [if_neg h1] at h; cases h
  · rw [if_neg h0] at h
    by_cases h1 : -(n : Int) ≤ i
    · rw [if_pos h1] at h
      have e : (i + n).toNat = j := Option.some.inj h
      exact ⟨by rw [seqIndex_neg (by omega) h1, e], by omega, h1, by omega⟩
    · rw [if_neg h1] at h; cases h
theorem atI_get {α : Type} {xs : List α} {i : Int} {v : α} (h : atI xs i = some v) : ∃ j, seqIndex? i xs.length = some j ∧ xs[j]? = some v ∧ j < xs.length ∧ -(xs.length : Int) ≤ i ∧ i < xs.length := by
  unfold atI at h
  cases e : ixN xs.length i with
  | none => rw [e] at h; cases h
  | some j =>
    rw [e] at h
    obtain ⟨h1, h2, h3, h4⟩ := ixN_seq e
    exact ⟨j, h1, h, h2, h3, h4⟩
theorem atI_nat {α : Type} {xs : List α} {j : Nat} {v : α} (h : xs[j]? = some v) : atI xs (j : Int) = some v := by
  have hj : j < xs.length := (List.getElem?_eq_some_iff.mp h).1
  have e : ixN xs.length (j : Int) = some j := by
    unfold ixN
    rw [if_pos (by omega), if_pos (by omega)]; simp
  unfold atI; rw [e]; exact h
noncomputable def PlainIx (b : Expr) : Prop := ∀ o i, subscripted b false o i = operate [o, i] (getItem o i)
noncomputable def IxR (X : Cx) (r : R2) : Prop :=
  ∀ (value slice : Expr) (pins : List (Addr × Obj)) (s : Shared) (σ : St) (H : Hp) (x y : V) (v u : Value) (Q : VK), Inv X pins σ H s → RelV x v → RelV y u → r x y H Q →
    subscripted slice false v u = operate [v, u] (getItem v u) → wpAny (model X.prog X.w) X.A (subscriptTail value slice v u) (EP X pins σ Q) X.xe s
noncomputable def MtR (X : Cx) (id : String) (r : V → List V → Hp → VK → Prop) : Prop :=
  ∀ (pins : List (Addr × Obj)) (s : Shared) (σ : St) (H : Hp) (x : V) (xs : List V) (v : Value) (us : List Value) (Q : VK), Inv X pins σ H s → RelV x v → Vals xs us → r x xs H Q →
    wpAny (model X.prog X.w) X.A (call (.builtin id) (v :: us)) (EP X pins σ Q) X.xe s
section
variable {X : Cx} {a b : Expr} {ta tb : TE} {pos : Pos}
theorem IxR.or {r r' : R2} (h : IxR X r) (h' : IxR X r') : IxR X (fun x y H Q => r x y H Q ∨ r' x y H Q) := by
  intro value slice pins s σ H x y v u Q I rx ry q hs
  rcases q with q | q
  · exact h value slice pins s σ H x y v u Q I rx ry q hs
  · exact h' value slice pins s σ H x y v u Q I rx ry q hs
theorem pe_ix {r : R2} (hr : IxR X r) (ha : PE X a ta) (hb : PE X b tb) (hs : PlainIx b) : PE X (.Subscript a b pos) (tOp r ta tb) := by
  intro pins s σ H Q I h
  exact Subscript_ (binT ha hb I h fun v u s2 x y H2 I2 rx ry q => hr a b pins s2 σ H2 x y v u Q I2 rx ry q (hs _ _))

noncomputable def rIxL (K : PySem.W.Frag) : R2 := fun x y H Q => ∃ p xs i v, x = .ref p ∧ y = .int i ∧ SqL K H p xs ∧ atI xs i = some v ∧ Q v H
noncomputable def rIxT (K : PySem.W.Frag) : R2 := fun x y H Q => ∃ p xs i v, x = .ref p ∧ y = .int i ∧ SqT K H p xs ∧ atI xs i = some v ∧ Q v H
noncomputable def rIxS : R2 := fun x y H Q => ∃ z i c, x = .str z ∧ y = .int i ∧ z.length ≤ sizeLine ∧ atI z.cps.toList i = some c ∧ Q (.str ⟨#[c]⟩) H
theorem ix_list : IxR X (rIxL X.K) := by
  intro value slice pins s σ H x y v u Q I rx ry h hs
  obtain ⟨p, xs, i, z, rfl, rfl, hq, he, q⟩ := h
  cases rx
  obtain ⟨t, rfl⟩ := ry
  obtain ⟨its, r, pl, hz⟩ := I.list hq
  obtain ⟨j, h1, h2, h3, h4, h5⟩ := atI_get he
  obtain ⟨w, ew, rw'⟩ := r.get h2
  have hl := r.length
  have hn := line63
  have fin : EP X pins σ Q w s := ⟨z, H, I, rw', q⟩
  by_cases h0 : 0 ≤ i
  · have hj : i.toNat = j := by
      rw [seqIndex_of h0 h5] at h1
      exact Option.some.inj h1
    exact item_listR pl.isList h0 (by omega) (by rw [hj]; simpa using ew) fin hs
  · have hj : (i + (its.toArray.size : Int)).toNat = j := by
      rw [seqIndex_neg (by omega) h4] at h1
      rw [List.size_toArray, ← hl]
      exact Option.some.inj h1
    exact subscriptTail_builtinR (x := w) pl.isList.typeIs slot_list_getitem.lookup
      (wpAny_getItem_list_neg (Q := fun r s' => r = w ∧ EP X pins σ Q r s') pl.isList (by omega) (by rw [List.size_toArray] <;> omega) (by omega) (by rw [hj]; simpa using ew) ⟨rfl, fin⟩) hs
theorem ix_tup : IxR X (rIxT X.K) := by
  intro value slice pins s σ H x y v u Q I rx ry h hs
  obtain ⟨p, xs, i, z, rfl, rfl, hq, he, q⟩ := h
  cases rx
  obtain ⟨t, rfl⟩ := ry
  obtain ⟨its, r, pl, hz⟩ := I.tuple hq
  obtain ⟨j, h1, h2, h3, h4, h5⟩ := atI_get he
  obtain ⟨w, ew, rw'⟩ := r.get h2
  have hl := r.length
  have hn := line63
  have fin : EP X pins σ Q w s := ⟨z, H, I, rw', q⟩
  exact subscriptTail_builtinR (x := w) pl.typeIs slot_tuple_getitem.lookup
    (getItem_tuple (j := j) (Q := fun r s' => r = w ∧ EP X pins σ Q r s') pl (by omega) (by omega) (by rw [List.size_toArray, ← hl]; exact h1) (by simpa using ew) ⟨rfl, fin⟩) hs
theorem ix_str : IxR X rIxS := by
  intro value slice pins s σ H x y v u Q I rx ry h hs
  obtain ⟨z, i, c, rfl, rfl, hz, he, q⟩ := h
  obtain ⟨t, rfl⟩ := rx
  obtain ⟨t', rfl⟩ := ry
  obtain ⟨j, h1, h2, h3, h4, h5⟩ := atI_get he
  have hl : z.cps.toList.length = z.length := by simp [Str.length]
  rw [hl] at h1 h4 h5
  have hn := line63
  exact tail_any (typeIs_str s z t) slot_str_getitem.lookup (getItem_str (c := c) (by
    have e1 : decide (i < -(2 ^ 63 : Int)) = false := decide_eq_false (by omega)
    have e2 : decide (i ≥ 2 ^ 63) = false := decide_eq_false (by omega)
    rw [e1, e2, Bool.or_false]) (by rw [h1]; simpa using h2) ⟨.str ⟨#[c]⟩, H, I.tok _, ⟨_, rfl⟩, q⟩) hs
noncomputable def rIx (K : PySem.W.Frag) : R2 := fun x y H Q => rIxL K x y H Q ∨ rIxT K x y H Q ∨ rIxS x y H Q
theorem ix_seq : IxR X (rIx X.K) := ix_list.or (ix_tup.or ix_str)

theorem mapSeq_set (its : List Value) (n j : Nat) (u : Value) : Obj.mapSeq (·.setIfInBounds j u) { cls := .type "list", data := .seq its.toArray n } = { cls := .type "list", data := .seq (its.set j u).toArray n } := by
  simp [Obj.mapSeq]
theorem Inv.lst {pins : List (Addr × Obj)} {σ : St} {H : Hp} {s : Shared} {p : Addr} {xs : List V} (I : Inv X pins σ H s) (h : H p = some (.lst xs)) :
    ∃ (its : List Value) (n : Nat), Vals xs its ∧ s.heap.get? p = some { cls := .type "list", data := .seq its.toArray n } ∧ xs.length ≤ sizeLine := by
  obtain ⟨z, its, n, r, e⟩ := I.hok p _ h
  exact ⟨its, n, r, e, z⟩
theorem Inv.lstUpd {pins : List (Addr × Obj)} {σ : St} {H : Hp} {s : Shared} {p : Addr} {xs ys : List V} {its its' : List Value} {n n' : Nat} {f : Obj → Obj} (I : Inv X pins σ H s) (h : H p = some (.lst xs))
    (ho : s.heap.get? p = some { cls := .type "list", data := .seq its.toArray n }) (hf : f { cls := .type "list", data := .seq its.toArray n } = { cls := .type "list", data := .seq its'.toArray n' }) (r : Vals ys its') (hz : ys.length ≤ sizeLine) (t : Nat) :
    Inv X pins σ (upd H p (.lst ys)) { s with heap := s.heap.update p f, toks := t } := by
  have e : (s.heap.update p f).get? p = some { cls := .type "list", data := .seq its'.toArray n' } := by
    rw [Heap.get?_update_self f ho (by rw [hf] <;> rfl), hf]
  refine I.write (x := p) (e := p) (by rw [h]; trivial) (.inl rfl) (fun b u hb q => (Heap.get?_update_other _ _ (Ne.symm hb)).trans q) ⟨_, e⟩ ?_
  exact ⟨hz, its', n', r, e⟩
noncomputable def rSetL : V → V → V → Hp → (Hp → Prop) → Prop := fun o i v H Q => ∃ p xs k j, o = .ref p ∧ i = .int k ∧ H p = some (.lst xs) ∧ ixN xs.length k = some j ∧ Q (upd H p (.lst (xs.set j v)))
theorem set_list : PSet X rSetL := by
  intro pins s σ H o i v ov iv u Q I ro ri rv h
  obtain ⟨p, xs, k, j, rfl, rfl, hp, hj, q⟩ := h
  cases ro
  obtain ⟨t, rfl⟩ := ri
  obtain ⟨its, n, r, ho, hz⟩ := I.lst hp
  obtain ⟨h1, h2, h3, h4⟩ := ixN_seq hj
  have hl := r.length
  have hn := line63
  have I' : Inv X pins σ (upd H p (.lst (xs.set j v))) { s with heap := s.heap.update p (Obj.mapSeq (·.setIfInBounds j u)) } :=
    I.lstUpd hp ho (mapSeq_set its n j u) (r.set rv j) (by rw [List.length_set]; exact hz) s.toks
  by_cases h0 : 0 ≤ k
  · have hk : k.toNat = j := by
      rw [seqIndex_of h0 h4] at h1
      exact Option.some.inj h1
    exact PySem.W.ki_setAt ho h0 (by omega) (by rw [List.size_toArray, ← hl]; exact h4) (by rw [hk]; exact ⟨_, I', q⟩)
  · have hk : (k + (its.toArray.size : Int)).toNat = j := by
      rw [seqIndex_neg (by omega) h3] at h1
      rw [List.size_toArray, ← hl]
      exact Option.some.inj h1
    exact PySem.W.ki_setBack ho (by omega) (by rw [List.size_toArray, ← hl]; exact h3) (by omega) (by rw [hk]; exact ⟨_, I', q⟩)

theorem slice_bounds (lo hi : Option Int) (n : Nat) : (sliceBounds lo hi none n).1 = ((HT.sIx n 0 lo : Nat) : Int) ∧ (sliceBounds lo hi none n).2.1 = ((HT.sIx n n hi : Nat) : Int) ∧ (sliceBounds lo hi none n).2.2 = 1 := by
  refine ⟨?_, ?_, rfl⟩
  · cases lo with
    | none => simp [sliceBounds, HT.sIx]
    | some i =>
      simp only [sliceBounds, HT.sIx, Option.getD_none, show (1 : Int) > 0 by decide, if_true]
      by_cases h : i < 0
      · simp only [h, if_true] <;> omega
      · simp only [h, if_false] <;> omega
  · cases hi with
    | none => simp [sliceBounds, HT.sIx]
    | some i =>
      simp only [sliceBounds, HT.sIx, Option.getD_none, show (1 : Int) > 0 by decide, if_true]
      by_cases h : i < 0
      · simp only [h, if_true] <;> omega
      · simp only [h, if_false] <;> omega
theorem slicePick_cut (its : List Value) (lo hi : Option Int) : slicePick its.toArray lo hi none = ((its.drop (HT.sIx its.length 0 lo)).take (HT.sIx its.length its.length hi - HT.sIx its.length 0 lo)).toArray := by
  obtain ⟨h1, h2, h3⟩ := slice_bounds lo hi its.toArray.size
  unfold slicePick
  rw [h1, h2, h3]
  simp only [sliceRange_one, pick_run, List.size_toArray] <;> rfl
noncomputable def rSlL (K : PySem.W.Frag) : V → Option Int → Option Int → Hp → VK → Prop := fun x lo hi H Q => ∃ a xs, x = .ref a ∧ SqL K H a xs ∧ ∀ p, H p = none → Q (.ref p) (upd H p (.lst (cutV xs lo hi)))
theorem sl_list : SlR X (rSlL X.K) := by
  intro pins s σ H x v vl vu lo hi sl Q I rx hs pl pu h
  obtain ⟨a, xs, rfl, hx, q⟩ := h
  cases rx
  obtain ⟨its, r, ht, hz⟩ := I.list hx
  have hlen := r.length
  refine ⟨"list", _, slot_list_getitem.lookup, ht.isList.typeIs, ?_⟩
  refine wpAny_getItem_list_slice ht.isList hs pl pu .none (by simp) ?_ (by rw [List.size_toArray] <;> omega)
  rw [slicePick_cut, ← hlen]
  refine ⟨.ref s.heap.objs.size, _, I.laid (t' := s.toks) (o := .lst (cutV xs lo hi)) (fun b ob q => Heap.get?_push_of_some _ q) (Nat.le_refl _) ?_, rfl, q _ (I.hok.fresh (Nat.le_refl _))⟩
  exact ⟨Nat.le_trans (cutV_length xs lo hi) hz, _, 0, (r.drop (HT.sIx xs.length 0 lo)).take (HT.sIx xs.length xs.length hi - HT.sIx xs.length 0 lo), Heap.get?_push_size _ rfl⟩

noncomputable def flatV : V → Bool
  | .non => true
  | .bl _ => true
  | .int _ => true
  | .str _ => true
  | _ => false
noncomputable def eqV : V → V → Bool
  | .non, .non => true
  | .bl a, .bl b => a == b
  | .bl a, .int b => (if a then 1 else 0) == b
  | .int a, .bl b => a == (if b then 1 else 0)
  | .int a, .int b => a == b
  | .str a, .str b => a == b
  | _, _ => false
theorem eqAt_V {A : Around} {s : Shared} {y x : V} {u v : Value} (ry : RelV y u) (rx : RelV x v) (fy : flatV y = true) (fx : flatV x = true) : SeqAt.EqAt A s u v (eqV y x) := by
  cases y with
  | non =>
    cases ry
    cases x with
    | non => cases rx; exact SeqAt.EqAt.same _
    | bl b => cases rx; exact SeqAt.EqAt.none_bool b
    | int b => obtain ⟨t, rfl⟩ := rx; exact SeqAt.EqAt.none_int b t
    | str b => obtain ⟨t, rfl⟩ := rx; exact SeqAt.EqAt.none_str b t
    | _ => exact absurd (show false = true from fx) Bool.false_ne_true
  | bl a =>
    cases ry
    cases x with
    | non => cases rx; exact SeqAt.EqAt.bool_none a
    | bl b => cases rx; exact SeqAt.EqAt.bool_bool a b
    | int b => obtain ⟨t, rfl⟩ := rx; exact SeqAt.EqAt.bool_int a b t
    | str b => obtain ⟨t, rfl⟩ := rx; exact SeqAt.EqAt.bool_str a b t
    | _ => exact absurd (show false = true from fx) Bool.false_ne_true
  | int a =>
    obtain ⟨t', rfl⟩ := ry
    cases x with
    | non => cases rx; exact SeqAt.EqAt.int_none a t'
    | bl b => cases rx; exact SeqAt.EqAt.int_bool a t' b
    | int b => obtain ⟨t, rfl⟩ := rx; exact SeqAt.EqAt.int_int a t' b t
    | str b => obtain ⟨t, rfl⟩ := rx; exact SeqAt.EqAt.int_str a t' b t
    | _ => exact absurd (show false = true from fx) Bool.false_ne_true
  | str a =>
    obtain ⟨t', rfl⟩ := ry
    cases x with
    | non => cases rx; exact SeqAt.EqAt.str_none a t'
    | bl b => cases rx; exact SeqAt.EqAt.str_bool a t' b
    | int b => obtain ⟨t, rfl⟩ := rx; exact SeqAt.EqAt.str_int a t' b t
    | str b => obtain ⟨t, rfl⟩ := rx; exact SeqAt.EqAt.str_str a t' b t
    | _ => exact absurd (show false = true from fx) Bool.false_ne_true
  | _ => exact absurd (show false = true from fy) Bool.false_ne_true
noncomputable def eqU (x : V) (u : Value) : Bool := match u with
  | .none => eqV .non x
  | .bool b => eqV (.bl b) x
  | .int i _ => eqV (.int i) x
  | .str z _ => eqV (.str z) x
  | _ => false
theorem eqU_of {x y : V} {u : Value} (r : RelV y u) (f : flatV y = true) : eqU x u = eqV y x := by
  cases y with
  | non => cases r; rfl
  | bl b => cases r; rfl
  | int i => obtain ⟨t, rfl⟩ := r; rfl
  | str z => obtain ⟨t, rfl⟩ := r; rfl
  | _ => exact absurd (show false = true from f) Bool.false_ne_true
theorem any_eqU {x : V} : ∀ {xs : List V} {us : List Value}, Vals xs us → xs.all flatV = true → us.any (eqU x) = xs.any fun y => eqV y x
  | _, _, .nil, _ => rfl
  | y :: xs, u :: us, .cons r t, f => by
    rw [List.all_cons, Bool.and_eq_true] at f
    rw [List.any_cons, List.any_cons, eqU_of r f.1, any_eqU t f.2]
theorem mem_eqAt {A : Around} {s : Shared} {x : V} {v : Value} (rx : RelV x v) (fx : flatV x = true) : ∀ {xs : List V} {us : List Value}, Vals xs us → xs.all flatV = true → ∀ u ∈ us, SeqAt.EqAt A s u v (eqU x u)
  | _, _, .nil, _ => fun u hu => by cases hu
  | y :: xs, u :: us, .cons r t, f => fun u' hu => by
    rw [List.all_cons, Bool.and_eq_true] at f
    rcases List.mem_cons.mp hu with rfl | hu
    · rw [eqU_of r f.1]; exact eqAt_V r rx f.1 fx
    · exact mem_eqAt rx fx t f.2 u' hu
noncomputable def inV (x : V) (xs : List V) : Bool := xs.any fun y => eqV y x
noncomputable def rIn (K : PySem.W.Frag) (neg : Bool) : R2 := fun x y H Q => ∃ p xs, y = .ref p ∧ (SqL K H p xs ∨ SqT K H p xs) ∧ flatV x = true ∧ xs.all flatV = true ∧ Q (.bl (if neg then !inV x xs else inV x xs)) H
theorem op_in_seq : OpR X (compareOp .In) (rIn X.K false) := by
  intro pins s σ H x y v u Q I rx ry h
  obtain ⟨p, xs, rfl, hq, fx, fs, q⟩ := h
  cases ry
  rcases hq with hq | hq
  · obtain ⟨its, r, pl, hz⟩ := I.list hq
    refine SeqAt.in_listAt (eqU x) pl.isList (fun w hw => mem_eqAt rx fx r fs w (by simpa using hw)) ⟨.bl _, H, I, rfl, ?_⟩
    rw [show its.toArray.any (eqU x) = its.any (eqU x) by simp, any_eqU r fs]
    exact q
  · obtain ⟨its, r, pl, hz⟩ := I.tuple hq
    refine SeqAt.in_tupleAt (eqU x) pl (fun w hw => mem_eqAt rx fx r fs w (by simpa using hw)) ⟨.bl _, H, I, rfl, ?_⟩
    rw [show its.toArray.any (eqU x) = its.any (eqU x) by simp, any_eqU r fs]
    exact q
theorem CallR.or {f : Value} {r r' : List V → Hp → VK → Prop} (h : CallR X f r) (h' : CallR X f r') : CallR X f (fun xs H Q => r xs H Q ∨ r' xs H Q) := by
  intro pins s σ H xs us Q I rs q
  rcases q with q | q
  · exact h pins s σ H xs us Q I rs q
  · exact h' pins s σ H xs us Q I rs q
theorem call_list_of : CallR X (.type "list") (fun xs H Q => ∃ p ys, xs = [.ref p] ∧ (SqL X.K H p ys ∨ SqT X.K H p ys) ∧ ∀ l, H l = none → Q (.ref l) (upd H l (.lst ys))) := by
  intro pins s σ H xs us Q I r h
  obtain ⟨p, ys, rfl, hq, q⟩ := h
  obtain ⟨u, rfl, rx⟩ := vals1 r
  cases rx
  have fin : ∀ (its : List Value), Vals ys its → ys.length ≤ sizeLine → ∀ (h' : Heap) (c' : Nat), (∀ b o', s.heap.get? b = some o' → h'.get? b = some o') →
      h'.get? s.heap.objs.size = some { cls := .type "list", dict := none, data := .seq its.toArray c', slots := #[] } → EP X pins σ Q (.ref s.heap.objs.size) { s with heap := h' } := fun its r' hz h' c' kp e =>
    ⟨.ref s.heap.objs.size, _, I.laid (t' := s.toks) kp (Nat.le_refl _) (show ObjOk X.prog X.w _ h' _ (.lst ys) from ⟨hz, its, c', r', e⟩), rfl, q _ (I.hok.fresh (Nat.le_refl _))⟩
  rcases hq with hq | hq
  · obtain ⟨its, r', pl, hz⟩ := I.list hq
    have hlen := r'.length
    obtain ⟨o, ho, hc, n, hd⟩ := pl.isList
    exact call_list_seq p (.inl rfl) ho hc hd (fun h' c' kp e => fin its r' hz h' c' kp e) (by simp only [List.size_toArray] <;> omega)
  · obtain ⟨its, r', pl, hz⟩ := I.tuple hq
    have hlen := r'.length
    obtain ⟨o, ho, hc, n, hd⟩ := pl
    exact call_list_seq p (.inr rfl) ho hc hd (fun h' c' kp e => fin its r' hz h' c' kp e) (by simp only [List.size_toArray] <;> omega)
theorem call_tuple_of : CallR X (.type "tuple") (fun xs H Q => ∃ p ys, xs = [.ref p] ∧ ((SqL X.K H p ys ∧ ∀ l, H l = none → Q (.ref l) (upd H l (.tup ys))) ∨ (SqT X.K H p ys ∧ Q (.ref p) H))) := by
  intro pins s σ H xs us Q I r h
  obtain ⟨p, ys, rfl, h⟩ := h
  obtain ⟨u, rfl, rx⟩ := vals1 r
  cases rx
  rcases h with ⟨hq, q⟩ | ⟨hq, q⟩
  · obtain ⟨its, r', pl, hz⟩ := I.list hq
    have hlen := r'.length
    refine call_tuple_list pl.isList (fun h' kp => ?_) (by simp only [List.size_toArray] <;> omega)
    have I1 : Inv X pins σ H { s with heap := h' } := I.kept (t' := s.toks) kp
    have I2 : Inv X pins σ (upd H h'.objs.size (.tup ys)) { s with heap := h'.push { cls := .type "tuple", data := .seq its.toArray } } :=
      I1.laid (t' := s.toks) (fun b o e => Heap.get?_push_of_some _ e) (Nat.le_refl _) (show ObjOk X.prog X.w _ _ _ (.tup ys) from ⟨hz, its, r', IsTup.new _ _⟩)
    exact ⟨.ref h'.objs.size, _, I2, rfl, q _ (I1.hok.fresh (Nat.le_refl _))⟩
  · obtain ⟨its, r', pl, hz⟩ := I.tuple hq
    exact call_tuple_same pl ⟨.ref p, H, I, rfl, q⟩

noncomputable def tyV (K : PySem.W.Frag) (T : String) (x : V) (H : Hp) : Prop := match x with
  | .str _ => T = "str"
  | .int _ => T = "int"
  | .ref p => (T = "list" ∧ ∃ xs, SqL K H p xs) ∨ (T = "tuple" ∧ ∃ o, K.lookup p = some o ∧ o.cls = .type "tuple" ∧ o.dict = none) ∨
      (T = "dict" ∧ ((∃ kvs, H p = some (.dK kvs)) ∨ ∃ kvs, H p = some (.dT kvs))) ∨ (T = "set" ∧ ∃ S n, H p = some (.set S n))
  | _ => False
theorem tyV_is {pins : List (Addr × Obj)} {σ : St} {H : Hp} {s : Shared} {T : String} {x : V} {v : Value} (I : Inv X pins σ H s) (r : RelV x v) (ty : tyV X.K T x H) :
    s.TypeIs v T ∧ ∀ a, v = .ref a → ∃ ob, s.heap.get? a = some ob ∧ ob.dict = none := by
  cases x with
  | str z =>
    obtain ⟨t, rfl⟩ := r
    cases (show T = "str" from ty)
    exact ⟨typeIs_str s z t, fun _ e => nomatch e⟩
  | int i =>
    obtain ⟨t, rfl⟩ := r
    cases (show T = "int" from ty)
    exact ⟨typeIs_int s i t, fun _ e => nomatch e⟩
  | ref p =>
    cases r
    rcases ty with ⟨rfl, xs, hq⟩ | ⟨rfl, o, hk, hc, hd⟩ | ⟨rfl, hk⟩ | ⟨rfl, S, n, hk⟩
    · obtain ⟨its, _, pl, _⟩ := I.list hq
      refine ⟨pl.isList.typeIs, fun a e => ?_⟩
      cases e
      obtain ⟨o, n, e, c, hd, _⟩ := pl
      exact ⟨o, e, hd⟩
    · refine ⟨⟨o, I.kIn p o hk, hc⟩, fun a e => ?_⟩
      cases e
      exact ⟨o, I.kIn _ o hk, hd⟩
    · have z : ∃ o, s.heap.get? p = some o ∧ o.ExactDict := by
        rcases hk with ⟨kvs, hk⟩ | ⟨kvs, hk⟩
        · obtain ⟨_, _, _, _, o, _, _, e, ex, _⟩ := I.hok p _ hk
          exact ⟨o, e, ex⟩
        · obtain ⟨_, _, _, _, o, _, _, e, ex, _⟩ := I.hok p _ hk
          exact ⟨o, e, ex⟩
      obtain ⟨o, e, ex⟩ := z
      refine ⟨⟨o, e, ex.1⟩, fun a e2 => ?_⟩
      cases e2
      exact ⟨o, e, ex.2.1⟩
    · obtain ⟨o, _, _, _, e, ex, _⟩ := I.hok p _ hk
      refine ⟨⟨o, e, ex.1⟩, fun a e2 => ?_⟩
      cases e2
      exact ⟨o, e, ex.2.1⟩
  | _ => exact False.elim ty
noncomputable def tBM0 (K : PySem.W.Frag) (T : String) (r : V → List V → Hp → VK → Prop) (to : TE) : TE := fun σ H Q => to σ H fun x H1 => tyV K T x H1 ∧ r x [] H1 Q
noncomputable def tBM (K : PySem.W.Frag) (T : String) (r : V → List V → Hp → VK → Prop) (to : TE) (t : TA) : TE := fun σ H Q => to σ H fun x H1 => tyV K T x H1 ∧ t σ H1 fun xs H2 => r x xs H2 Q
variable {o e : Expr} {es : List Expr} {to : TE} {t : TA} {name : Str} {apos cpos : Pos} {T id : String} {r : V → List V → Hp → VK → Prop}
theorem pe_bm0 (pa : PlainAttrs T) (slot : Slot T name id) (hty : typeOf (.builtin id) = pure (.type "method_descriptor")) (hm : MtR X id r) (ho : PE X o to)
    (hbase : autoParam (attributeBase o name X.env (eval o X.env) = eval o X.env) L2.auto4._auto_1) (hline : autoParam ((apos.endLine == cpos.line) = true) L2.auto4._auto_1) : PE X (.Call (.Attribute o name apos) [] [] cpos) (tBM0 X.K T r to) := by
  intro pins s σ H Q I h
  refine wpAny_Call_method0_late hbase hline (thn (ho pins s σ H _ I h) fun v s1 qq0 => ?_)
  obtain ⟨x, H1, I1, r1, ty, q1⟩ := qq0
  obtain ⟨h1, h2⟩ := tyV_is I1 r1 ty
  exact ⟨T, id, pa, slot, hty, h1, h2, Calls.callWith_builtin rfl (PySem.evalArgs_none (hm pins s1 σ H1 x [] v [] Q I1 r1 .nil q1))⟩
theorem pe_bm (pa : PlainAttrs T) (slot : Slot T name id) (hty : typeOf (.builtin id) = pure (.type "method_descriptor")) (hm : MtR X id r) (ho : PE X o to) (ha : PA X (e :: es) t)
    (hbase : autoParam (attributeBase o name X.env (eval o X.env) = eval o X.env) L2.auto4._auto_1)
    (hfew : ((backTo cpos (starEach (e :: es) X.env)).all (fun x => !x.1) && (backToKw cpos (keywordEach [] X.env)).all (fun x => x.1.isSome)
      && decide ((e :: es).length + ([] : List Keyword).length + (if ([] : List Keyword).isEmpty then 0 else 1) < 30)) = true := by rfl)
    (hline : autoParam ((apos.endLine == cpos.line) = true) L2.auto4._auto_1) (hs : autoParam (starEach (e :: es) X.env = (false, eval e X.env) :: starEach es X.env) L2.auto4._auto_1) (hplain : autoParam ((backTo cpos (starEach es X.env)).any (·.1) = false) L2.auto4._auto_1) :
    PE X (.Call (.Attribute o name apos) (e :: es) [] cpos) (tBM X.K T r to t) := by
  intro pins s σ H Q I h
  refine wpAny_Call_method_late hbase hfew hline rfl (thn (ho pins s σ H _ I h) fun v s1 qq0 => ?_)
  obtain ⟨x, H1, I1, r1, ty, q1⟩ := qq0
  obtain ⟨h1, h2⟩ := tyV_is I1 r1 ty
  refine ⟨T, id, pa, slot, hty, h1, h2, ?_⟩
  have hA := ha cpos pins s1 σ H1 _ I1 q1
  rw [hs] at hA ⊢
  refine Calls.callWith_builtin (by show (false || (backTo cpos (starEach es X.env)).any (·.1)) = false; rw [hplain] <;> rfl) (Calls.evalArgs_plain ?_)
  exact thn hA fun us s2 ⟨vs, H2, I2, r2, q2⟩ => hm pins s2 σ H2 x vs v us Q I2 r1 r2 q2
end
end L2

namespace L2
open PySem PySem.Spec PyProof.Rows

noncomputable def MtM (X : Cx) (id : String) (r : V → List V → Hp → VK → Prop) : Prop :=
  ∀ (pins : List (Addr × Obj)) (s : Shared) (σ : St) (H : Hp) (x : V) (xs : List V) (v : Value) (us : List Value) (Q : VK), Inv X pins σ H s → RelV x v → Vals xs us → r x xs H Q →
    wpAny (model X.prog X.w) X.A (call (.builtin id) (v :: us)) (EP X pins σ Q) X.xe s

theorem Vals.one : ∀ {x : V} {us : List Value}, Vals [x] us → ∃ u, us = [u] ∧ RelV x u
  | _, _, .cons r .nil => ⟨_, rfl, r⟩
theorem Vals.zero : ∀ {us : List Value}, Vals [] us → us = []
  | _, .nil => rfl
theorem Vals.eraseIdx : ∀ {xs : List V} {us : List Value} (i : Nat), Vals xs us → Vals (xs.eraseIdx i) (us.eraseIdx i)
  | _, _, _, .nil => .nil
  | _, _, 0, .cons _ t => t
  | _, _, i + 1, .cons r t => .cons r (Vals.eraseIdx i t)
theorem Vals.reverse {xs : List V} {us : List Value} (h : Vals xs us) : Vals xs.reverse us.reverse := by
  induction h with
  | nil => exact .nil
  | cons r t ih => rw [List.reverse_cons, List.reverse_cons]; exact Vals.append ih (.cons r .nil)
theorem Vals.rep {xs : List V} {us : List Value} (h : Vals xs us) : ∀ k : Nat, Vals (List.replicate k xs).flatten (List.replicate k us).flatten
  | 0 => .nil
  | k + 1 => by
    rw [List.replicate_succ, List.replicate_succ, List.flatten_cons, List.flatten_cons]
    exact Vals.append h (Vals.rep h k)
theorem len_erase {α : Type} : ∀ (l : List α) (i : Nat), (l.eraseIdx i).length ≤ l.length
  | [], _ => Nat.le_refl _
  | _ :: _, 0 => Nat.le_succ _
  | _ :: r, i + 1 => Nat.succ_le_succ (len_erase r i)
theorem foldl_rep (its : List Value) : ∀ (k : Nat) (acc : List Value),
    List.foldl (fun x1 x2 => x1 ++ x2) acc.toArray (List.replicate k its.toArray) = (acc ++ (List.replicate k its).flatten).toArray
  | 0, acc => by simp
  | k + 1, acc => by
    have e : acc.toArray ++ its.toArray = (acc ++ its).toArray := by simp
    have e2 : (acc ++ its) ++ (List.replicate k its).flatten = acc ++ (List.replicate (k + 1) its).flatten := by
      rw [List.replicate_succ, List.flatten_cons, List.append_assoc]
    rw [← e2, ← foldl_rep its k (acc ++ its), ← e, List.replicate_succ, List.foldl_cons]

section
variable {X : Cx} {pins : List (Addr × Obj)} {σ : St} {H : Hp} {s : Shared} {l b : Addr} {xs ys zs : List V}

theorem Inv.lset {its its' : List Value} {n : Nat} {f : Array Value → Array Value} {t' : Nat} (I : Inv X pins σ H s) (hH : H l = some (.lst xs))
    (e : s.heap.get? l = some { cls := .type "list", data := .seq its.toArray n }) (hf : f its.toArray = its'.toArray) (hv : Vals ys its') (hz : ys.length ≤ sizeLine) :
    Inv X pins σ (upd H l (.lst ys)) { s with heap := s.heap.update l (Obj.mapSeq f), toks := t' } := by
  have q := PySem.IsL.update e f
  rw [hf] at q
  refine I.write (x := l) (e := l) (by rw [hH]; exact trivial) (.inl rfl) (fun b' u hb hu => (Heap.get?_update_other s.heap (Obj.mapSeq f) (Ne.symm hb)).trans hu) ⟨_, q⟩ ?_
  exact ⟨hz, its', _, hv, q⟩
theorem Inv.lnew {its : List Value} {t' : Nat} (I : Inv X pins σ H s) (hv : Vals ys its) (hz : ys.length ≤ sizeLine) :
    Inv X pins σ (upd H s.heap.objs.size (.lst ys)) { s with heap := s.heap.push { cls := .type "list", data := .seq its.toArray }, toks := t' } :=
  I.laid (fun _ _ q => Heap.get?_push_of_some _ q) (Nat.le_refl _) ⟨hz, its, 0, hv, Heap.get?_push_size _ rfl⟩
theorem Inv.fresh (I : Inv X pins σ H s) : H s.heap.objs.size = none := I.hok.fresh (Nat.le_refl _)
theorem Inv.lstM (I : Inv X pins σ H s) (hH : H l = some (.lst xs)) : xs.length ≤ sizeLine ∧ ∃ (its : List Value) (n : Nat), Vals xs its ∧ xs.length = its.length ∧ s.heap.get? l = some { cls := .type "list", data := .seq its.toArray n } := by
  obtain ⟨z, its, n, r, e⟩ := I.hok l _ hH
  exact ⟨z, its, n, r, r.length, e⟩

theorem notLongL {n : Nat} (h : n ≤ sizeLine) : Builtin.List.listTooLong n = false := by
  unfold Builtin.List.listTooLong
  exact decide_eq_false (by omega)
end

section
variable {X : Cx}

noncomputable def rAppend : V → List V → Hp → VK → Prop := fun x vs H Q => ∃ l xs y, x = .ref l ∧ vs = [y] ∧ H l = some (.lst xs) ∧ xs.length < sizeLine ∧ Q .non (upd H l (.lst (xs ++ [y])))
theorem mt_append : MtM X "list.append" rAppend := by
  intro pins s σ H x vs v us Q I rx rv h
  obtain ⟨l, xs, y, rfl, rfl, hH, hz, q⟩ := h
  cases rx
  obtain ⟨u, rfl, ru⟩ := rv.one
  obtain ⟨z, its, n, r, hl, e⟩ := I.lstM hH
  refine call_meets F.slot_list_append ⟨_, e, rfl⟩ F.entry_list_append (F.args_list_append_2 _ _) (PySem.list_append l its.toArray n u (by rw [List.size_toArray]; omega)) ⟨e, ?_⟩
  refine ⟨.non, _, I.lset (its' := its ++ [u]) hH e (by simp) (r.append (.cons ru .nil)) ?_, rfl, q⟩
  rw [List.length_append, List.length_singleton]
  omega

noncomputable def rPopAt : V → List V → Hp → VK → Prop := fun x vs H Q => ∃ l xs i k y, x = .ref l ∧ vs = [.int i] ∧ H l = some (.lst xs) ∧ -(2 ^ 63) ≤ i ∧ i < 2 ^ 63 ∧ seqIndex? i xs.length = some k ∧ xs[k]? = some y ∧ Q y (upd H l (.lst (xs.eraseIdx k)))
theorem mt_popAt : MtM X "list.pop" rPopAt := by
  intro pins s σ H x vs v us Q I rx rv h
  obtain ⟨l, xs, i, k, y, rfl, rfl, hH, h1, h2, hk, hy, q⟩ := h
  cases rx
  obtain ⟨u, rfl, ru⟩ := rv.one
  obtain ⟨t, rfl⟩ := ru
  obtain ⟨z, its, n, r, hl, e⟩ := I.lstM hH
  obtain ⟨w, hw, rw'⟩ := r.get hy
  refine call_meets F.slot_list_pop ⟨_, e, rfl⟩ F.entry_list_pop (F.args_list_pop_2 _ _)
    (MeetsSeq.list_pop_at l its.toArray n i t k w (fitsIndex_both h1 h2) (by rw [List.size_toArray, ← hl]; exact hk) (by rw [← Array.getElem?_toList]; exact hw) (by rw [List.size_toArray]; omega)) ⟨e, ?_⟩
  refine ⟨y, _, I.lset (its' := its.eraseIdx k) hH e ?_ (r.eraseIdx k) ?_, rw', q⟩
  · show its.toArray.eraseIdxIfInBounds k = (its.eraseIdx k).toArray
    rw [List.eraseIdxIfInBounds_toArray]
  · have := len_erase xs k
    omega

noncomputable def rClear : V → List V → Hp → VK → Prop := fun x vs H Q => ∃ l xs, x = .ref l ∧ vs = [] ∧ H l = some (.lst xs) ∧ Q .non (upd H l (.lst []))
theorem mt_clear : MtM X "list.clear" rClear := by
  intro pins s σ H x vs v us Q I rx rv h
  obtain ⟨l, xs, rfl, rfl, hH, q⟩ := h
  cases rx
  have hus := rv.zero
  subst hus
  obtain ⟨z, its, n, r, hl, e⟩ := I.lstM hH
  refine call_meets F.slot_list_clear ⟨_, e, rfl⟩ F.entry_list_clear (F.args_list_clear_1 _) (AutoSeq1.list_clear_list_0 l its.toArray n (by rw [List.size_toArray]; omega)) ⟨e, ?_⟩
  exact ⟨.non, _, I.lset (its' := []) (ys := []) hH e rfl .nil (Nat.zero_le _), rfl, q⟩

noncomputable def rCat : R2 := fun x y H Q => ∃ l b xs zs, x = .ref l ∧ y = .ref b ∧ H l = some (.lst xs) ∧ H b = some (.lst zs) ∧ xs.length + zs.length ≤ sizeLine ∧ ∀ p, H p = none → Q (.ref p) (upd H p (.lst (xs ++ zs)))
theorem op_cat : OpR X (binaryOp .Add) rCat := by
  intro pins s σ H x y v u Q I rx ry h
  obtain ⟨l, b, xs, zs, rfl, rfl, hH, hB, hz, q⟩ := h
  cases rx
  cases ry
  obtain ⟨z, its, n, r, hl, e⟩ := I.lstM hH
  obtain ⟨z2, its2, n2, r2, hl2, e2⟩ := I.lstM hB
  refine PySem.P.add_list e e2 ?_ (by rw [List.size_toArray, List.size_toArray]; omega)
  have ea : its.toArray ++ its2.toArray = (its ++ its2).toArray := by simp
  rw [ea]
  exact ⟨.ref _, _, I.lnew (t' := s.toks) (r.append r2) (by rw [List.length_append]; omega), rfl, q _ I.fresh⟩
noncomputable def rRep : R2 := fun x y H Q => ∃ l k xs, x = .ref l ∧ y = .int k ∧ H l = some (.lst xs) ∧ -(2 ^ 63) ≤ k ∧ k < 2 ^ 63 ∧ xs.length * k.toNat ≤ sizeLine ∧
  ∀ p, H p = none → Q (.ref p) (upd H p (.lst (List.replicate k.toNat xs).flatten))
theorem len_rep {α : Type} (xs : List α) (k : Nat) : (List.replicate k xs).flatten.length = k * xs.length := by
  induction k with
  | zero => simp
  | succ k ih => rw [List.replicate_succ, List.flatten_cons, List.length_append, ih, Nat.succ_mul, Nat.add_comm]
theorem op_rep : OpR X (binaryOp .Mult) rRep := by
  intro pins s σ H x y v u Q I rx ry h
  obtain ⟨l, k, xs, rfl, rfl, hH, h1, h2, hz, q⟩ := h
  cases rx
  obtain ⟨t, rfl⟩ := ry
  obtain ⟨z, its, n, r, hl, e⟩ := I.lstM hH
  have hlen : its.toArray.size * k.toNat ≤ sizeLine := by rw [List.size_toArray, ← hl]; exact hz
  have hcap : ¬ its.toArray.size * k.toNat > (2 ^ 63 - 1) / 8 := by
    have : (sizeLine : Nat) ≤ (2 ^ 63 - 1) / 8 := by decide
    omega
  have hfit : ¬ (!Builtin.List.listFitsIndex k) = true := by
    rw [fitsIndex_both h1 h2]
    exact Bool.false_ne_true
  have hlong : ¬ Builtin.List.listTooLong (its.toArray.size * k.toNat) = true := by
    rw [notLongL hlen]
    exact Bool.false_ne_true
  have hnew : List.foldl (fun x1 x2 => x1 ++ x2) #[] (List.replicate (if its.toArray.isEmpty = true then 0 else k.toNat) its.toArray) = (List.replicate k.toNat its).flatten.toArray := by
    have f0 : ∀ m : Nat, List.foldl (fun x1 x2 => x1 ++ x2) #[] (List.replicate m its.toArray) = (List.replicate m its).flatten.toArray := fun m => by
      have := foldl_rep its m []
      rw [List.nil_append] at this
      exact this
    rw [f0]
    cases its with
    | nil => simp
    | cons a r' => rw [if_neg (by simp)]
  refine wpAny_binaryOp_repeat_ref (T := "list") (U := "int") (by decide) ⟨_, e, rfl⟩ (fun s' => typeIs_int s' k t) noFill_list_mul F.fills_int_mul F.slot_int_rmul repeat_list F.slot_int_index.lookup
    (call_meets F.slot_int_rmul (typeIs_int s k t) F.entry_int_rmul (F.args_int_rmul_2 _ _) (int___rmul___int_list k t l its.toArray n)
      ⟨e, rfl, ⟨_, e, rfl⟩, call_meets F.slot_list_mul ⟨_, e, rfl⟩ F.entry_list_mul (F.args_list_mul_2 _ _) (AutoListH.list___mul___list_int_3 l its.toArray n k t hfit hcap hlong) ⟨e, ?_⟩⟩)
  rw [hnew]
  exact ⟨.ref _, _, I.lnew (t' := s.toks) (r.rep k.toNat) (by rw [len_rep, Nat.mul_comm]; exact hz), rfl, q _ I.fresh⟩

end

section
variable {prog : Program} {w : World} {A : Around} {E : Value → Shared → Prop} {s : Shared}
end

section
variable {X : Cx}
end
end L2

namespace Att
open PySem PySem.W PySem.Calls PyProof.Rows

theorem ints_of_wellAll {P : Params} {h : Heap} : ∀ (ns : List Int) (vs : List Value), WellAll P h vs (ns.map WData.int) → IntsAre vs ns := by
  intro ns
  induction ns with
  | nil =>
    intro vs w
    rw [List.map_nil] at w
    cases w
    exact .nil
  | cons n ns ih =>
    intro vs w
    rw [List.map_cons] at w
    cases w with
    | cons a b =>
      cases a
      exact .cons _ _ (ih _ b)

theorem script_of {l : OpenLaw} {n : Nat} (hn : l.most = some n) {P : Params} {h : Heap} {args : List WData} {vals : List Value}
    (hpre : l.row.toRowW.claim.pre args = true) (hwl : WellAll P h vals args) :
    ∃ a vs ns, vals = [Value.ref a] ∧ args = [WData.list (ns.map WData.int)] ∧ h.get? a = some { cls := .type "list", data := .seq vs.toArray } ∧ IntsAre vs ns ∧ ns.length ≤ n := by
  have hsh : WShape.hasAll [] args [.list .int] = true := (pre_splitW hpre).1
  have hc : l.pre.holds [] { args := args } = true := (pre_splitW hpre).2
  obtain ⟨d, r, rfl, h1, h2⟩ := hasAllW_cons hsh
  obtain rfl := hasAllW_nil h2
  obtain ⟨xs, rfl, h3⟩ := hasW_list h1
  obtain ⟨ns, rfl⟩ := items_int h3
  have hlen : ns.length ≤ n := by
    unfold OpenLaw.pre at hc
    have h4 : (WTm.not (.lt (.lit (.int (n : Int))) (.len (.arg 0)))).holds [] { args := [.list (ns.map .int)] } = true := by
      have h4 := (holds_andW hc).1
      rw [hn] at h4
      exact h4
    have h5 := condW_of h4 (w_not (w_lt w_lit (w_len_list (w_arg rfl))))
    rw [List.length_map] at h5
    refine Nat.le_of_not_lt fun q => ?_
    have q' : (n : Int) < ((ns.length : Nat) : Int) := by omega
    first
      | (rw [decide_eq_true q'] at h5; exact absurd h5 (by decide))
      | (simp at h5; omega)
  cases hwl with
  | cons w1 w2 =>
    cases w2
    cases w1 with
    | list ho hall => exact ⟨_, _, ns, rfl, rfl, ho, ints_of_wellAll ns _ hall, hlen⟩

theorem post_true (l : OpenLaw) (args : List WData) : l.row.toRowW.claim.post args (.bool true) args = true :=
  postW_of (r := l.row.toRowW) (X := (true == true))
    (show WShape.has [] (.bool true) .bool = true by first | rfl | decide | simp [WShape.has, WShape.arms, WShape.armsAll])
    (show (WTm.eq .res (.lit (.bool true))).value [] { args := args, res := some (.bool true), after := args } = some (.bool (true == true)) from w_eq_bool (w_res rfl) w_lit) rfl

theorem attach_call {l : OpenLaw} {n : Nat} {q : Program} {loose : List Str} {XP : (Str → Option Value) → Heap → Prop} {YP : World → Heap → Prop} {d : DefRec}
    (hn : l.most = some n) (hdf : d.params.defaults = [])
    (call : ∀ (w : World) (s₀ s₁ : Shared) (mg mb : Str → Option Value) (fa : Addr) (o : Obj) (pm cd doc : Value) (a : Addr) (vs : List Value) (ns : List Int),
      Ground q loose [] XP w s₀ mg mb s₁.heap → YP w s₁.heap →
      s₁.heap.get? fa = some o → o.data = .func (docDef d.name d.params d.body d.scope pm cd doc) → s₁.heap.CodeRec cd d.name → mg d.name = some (.ref fa) →
      s₁.heap.get? a = some { cls := .type "list", data := .seq vs.toArray } → IntsAre vs ns → ns.length ≤ n → s₁.gens = #[] →
      codeAny (model l.prog w) callerA (.call (.ref fa) ⟨[.ref a], []⟩) (fun r s' => r = .ok (.ret (.bool true)) ∧ OldK s₁.heap s'.heap ∧ s'.os = s₁.os ∧ AllBare s'.gens) s₁) :
    WalkO q loose XP YP l.row.toRowW d [] (fun f vs => PySem.call f vs) := by
  intro w s₀ s₁ mg mb G Y fa o pm cd doc dV kV ho hd hcd hD hmg hg args vals as hpre hlay hrd hwl hlo
  obtain rfl : dV = .none := Dflts.none hD hdf
  obtain rfl : kV = .none := Dflts.noKw hD
  obtain ⟨a, vs, ns, rfl, rfl, hobj, hints, hlen⟩ := script_of hn hpre hwl
  refine enter_call (codeAny_mono (call w s₀ s₁ mg mb fa o pm cd doc a vs ns G Y ho (fd_plain hd) hcd hmg hobj hints hlen hg) fun r s' hq => ?_)
  obtain ⟨rfl, h2, h3, h4⟩ := hq
  exact ⟨.inl ⟨.bool true, .bool true, [], rfl, fun _ => rfl, .bool true, post_true l _, fun _ => ⟨List.Pairwise.nil, fun _ hm => (nomatch hm)⟩⟩, h2, h3, h4⟩

section
variable {prog : Program} {w : World} {A : Around} {E : Value → Shared → Prop} {s : Shared} {K : Frag}

end
end Att

namespace L2
open PySem PySem.Spec PyProof.Rows

theorem vals_ints : ∀ {vs : List Value} {ns : List Int}, IntsAre vs ns → Vals (ns.map V.int) vs
  | _, _, .nil => .nil
  | _, _, .cons n t h => .cons ⟨t, rfl⟩ (vals_ints h)

noncomputable def Only (H : Hp) : Prop := ∀ b, H b = none ∨ ∃ o xs, H b = some (.frz o (.lst xs))

theorem law_call {P : Program} {w : World} {K : PySem.W.Frag} {mg mb : Str → Option Value} {CX : CXT} {k : Nat} {fa a : Addr} {fd : FuncData} {x : Str} {sp : Sp} {s₁ : Shared} {vs : List Value} {ns : List Int}
    (KX : K.In s₁.heap) (hns : s₁.heap.Ns mainGlobals mg) (hb : s₁.heap.Ns builtinsNs mb) (hbb : ∀ x : Str, x ≠ "__name__" → mb x = bootBuiltins x) (hlim : s₁.heap.NoLimit) (hsm : ∃ mm, s₁.heap.Ns sysModules mm) (hg : s₁.gens = #[])
    (ha : s₁.heap.get? a = some { cls := .type "list", data := .seq vs.toArray }) (hi : IntsAre vs ns) (hl : ns.length ≤ sizeLine) (hr : Room k callerA)
    (F : ∀ base : Heap, K.In base → base.Ns mainGlobals mg → FnOk P w K mg base CX k fa fd [x] sp) (hbind : ∀ (s : Shared) (u : Value), BindsTo s fd ⟨[u], []⟩ [(x, u)])
    (hsp : ∀ H : Hp, Only H → SqL K H a (ns.map V.int) → sp [.ref a] H (fun v _ => v = .bl true) fun _ _ _ => False)
    (hCX : ∀ H e s', CX [] H s₁ (fun _ _ _ => False) e s' → False) :
    codeAny (model P w) callerA (.call (.ref fa) ⟨[.ref a], []⟩) (fun r s' => r = .ok (.ret (.bool true)) ∧ OldK s₁.heap s'.heap ∧ s'.os = s₁.os ∧ AllBare s'.gens) s₁ := by
  have rv := vals_ints hi
  have lenV := hi.length
  -- from an abstract heap in which nothing but the script may be tracked
  have core : ∀ H : Hp, Only H → SqL K H a (ns.map V.int) → HOk P w H s₁.heap → (∀ b, H b ≠ none → b = a) → (H a ≠ none → K.lookup a = none) →
      codeAny (model P w) callerA (.call (.ref fa) ⟨[.ref a], []⟩) (fun r s' => r = .ok (.ret (.bool true)) ∧ OldK s₁.heap s'.heap ∧ s'.os = s₁.os ∧ AllBare s'.gens) s₁ := by
    intro H hO hS hok hA hK
    have base_of : ∀ {b : Addr} {o : Obj}, s₁.heap.get? b = some o → H b = none → (hidT s₁.heap H).get? b = some o := fun e n => hidT_get e n
    have noA : ∀ {b : Addr} {o : Obj} {es : Array DictEntry} {ep : Nat}, s₁.heap.get? b = some o → o.data = .dict es ep → H b = none := fun {b o es ep} e d => by
      cases q : H b with
      | none => rfl
      | some u =>
        have e' : b = a := hA b (by rw [q]; simp)
        subst e'
        rw [ha] at e; cases e
        have d' : Data.seq vs.toArray _ = Data.dict es ep := d
        cases d'
    have nsK : ∀ {b : Addr} {m : Str → Option Value}, s₁.heap.Ns b m → (hidT s₁.heap H).Ns b m := fun {b m} ⟨o, es, ep, e, d, r⟩ => ⟨o, es, ep, base_of e (noA e d), d, r⟩
    have hKb : K.In (hidT s₁.heap H) := fun b o e => base_of (KX b o e) (by
      cases q : H b with
      | none => rfl
      | some u =>
        have e' : b = a := hA b (by rw [q]; simp)
        subst e'
        rw [hK (by rw [q]; simp)] at e; cases e)
    have hM : Mod K mg (hidT s₁.heap H) := ⟨hKb, nsK hns, ⟨mb, nsK hb, hbb⟩, (let ⟨mc, h1, h2⟩ := hlim; ⟨mc, nsK h1, h2⟩), let ⟨mm, h1⟩ := hsm; ⟨mm, nsK h1⟩⟩
    have e0 : Env0 P w K mg (hidT s₁.heap H) callerA [] s₁ H := ⟨rfl, hM, fun b o e => of_hidT e, Nat.le_of_eq (hidT_size _ _), trivial, fun b hb => absurd (show b ∈ ([] : List Addr) from hb) (by simp), hok, .of_eq hg⟩
    refine codeAny_mono ((F _ hKb (nsK hns)).run callerA [] s₁ H ⟨[.ref a], []⟩ [.ref a] [.ref a] _ _ hr e0 (hbind s₁ (.ref a)) (.cons rfl .nil) (hsp H hO hS)) fun r s' h => ?_
    cases r with
    | error e => exact (hCX H e s' h).elim
    | ok fl =>
      cases fl with
      | next => exact False.elim h
      | brk => exact False.elim h
      | cont => exact False.elim h
      | ret u =>
        obtain ⟨v, H', os, bare, un, hok', r', q⟩ := h
        have q' : v = .bl true := q
        subst q'
        obtain rfl : u = Value.bool true := r'
        refine ⟨rfl, OldK.of_keep fun b o e => ?_, os, bare⟩
        cases q : H b with
        | none => exact un.keep b o e q (by intro z; exact absurd (show b ∈ ([] : List Addr) from z) (by simp)) (by simp)
        | some u =>
          rcases hO b with z | ⟨ob, xs, z⟩
          · rw [q] at z; cases z
          · have z2 := un.frzs b ob _ z
            obtain ⟨e1, _⟩ := hok b _ z
            obtain ⟨e2, _⟩ := hok' b _ z2
            rw [e] at e1; cases e1
            exact e2
  cases hk : K.lookup a with
  | some o =>
    -- the script is one of the module's own objects
    have e := KX a o hk
    rw [ha] at e
    cases e
    refine core (fun _ => none) (fun _ => .inl rfl) (.inr ⟨_, vs.toArray, _, hk, rfl, rfl, rfl, by rw [List.size_toArray, lenV]; exact hl, by simpa using rv⟩) (fun b u z => by have z' : (none : Option HO) = some u := z; cases z') (fun b z => absurd rfl z) fun z => absurd rfl z
  | none =>
    refine core (fun b => if b = a then some (.frz { cls := .type "list", data := .seq vs.toArray } (.lst (ns.map V.int))) else none) (fun b => ?_) (.inl (.inr ⟨{ cls := .type "list", data := .seq vs.toArray }, if_pos rfl⟩)) (fun b u z => ?_) (fun b z => ?_) fun _ => hk
    · by_cases hb : b = a
      · exact .inr ⟨_, _, if_pos hb⟩
      · exact .inl (if_neg hb)
    · by_cases hb : b = a
      · have z' := (if_pos hb).symm.trans z
        cases z'
        subst hb
        exact ⟨ha, by rw [List.length_map]; exact hl, vs, _, rv, ha⟩
      · have z' := (if_neg hb).symm.trans z
        cases z'
    · by_cases hb : b = a
      · exact hb
      · exact absurd (if_neg hb) z
end L2

namespace L2
open PySem PySem.Spec PyProof.Rows

noncomputable abbrev KOf {K : PySem.W.Frag} {h : Heap} (_ : K.In h) : PySem.W.Frag := K

theorem walk_of {l : PySem.W.OpenLaw} {n k : Nat} {q : Program} {loose : List Str} {XP : (Str → Option Value) → Heap → Prop} {YP : World → Heap → Prop} {d : DefRec} {K : Params → PySem.W.Frag} {CX : World → CXT} {sp : World → Sp} {x : Str}
    (hn : l.most = some n) (hn2 : n ≤ sizeLine) (hdf : d.params.defaults = []) (hr : Room k callerA)
    (hY : ∀ (w : World) (h : Heap), YP w h → (K w.params).In h)
    (F : ∀ (w : World) (mg : Str → Option Value) (fa : Addr) (h : Heap), (K w.params).In h → h.Ns mainGlobals mg → mg d.name = some (.ref fa) →
      ∃ fd : FuncData, (∀ (s : Shared) (u : Value), BindsTo s fd ⟨[u], []⟩ [(x, u)]) ∧
        ∀ base : Heap, (K w.params).In base → base.Ns mainGlobals mg → FnOk l.prog w (K w.params) mg base (CX w) k fa fd [x] (sp w))
    (hsp : ∀ (w : World) (H : Hp) (a : Addr) (ns : List Int), ns.length ≤ n → Only H → SqL (K w.params) H a (ns.map V.int) → sp w [.ref a] H (fun v _ => v = .bl true) fun _ _ _ => False)
    (hCX : ∀ (w : World) (H : Hp) (s : Shared) (e : Value) (s' : Shared), CX w [] H s (fun _ _ _ => False) e s' → False) (him : importsNone q = true) :
    PySem.W.WalkO q loose XP YP l.row.toRowW d [] (fun f vs => PySem.call f vs) := by
  refine Att.attach_call hn hdf fun w s₀ s₁ mg mb fa o pm cd doc a vs ns G Y ho hd hcd hmg hobj hints hlen hg => ?_
  have KX := hY w _ Y
  obtain ⟨fd, hb, hF⟩ := F w mg fa _ KX G.T.g hmg
  exact law_call KX G.T.g G.T.b G.T.builtins G.T.nolimit (let ⟨mm, h1, _⟩ := (G.T.seer him).mods; ⟨mm, h1⟩) hg hobj hints (Nat.le_trans hlen hn2) hr hF hb (fun H hO hS => hsp w H a ns hlen hO hS) fun H e s' => hCX w H s₁ e s'
end L2


namespace L2
open PySem PySem.Spec PyProof.Rows

noncomputable def defArgs (s : Stmt) : Arguments := match s with
  | .FunctionDef _ a _ _ _ _ _ _ _ _ => a
  | _ => { posonlyargs := [], args := [], vararg := none, kwonlyargs := [], kw_defaults := [], kwarg := none, defaults := [] }
noncomputable def defBody (s : Stmt) : List Stmt := match s with
  | .FunctionDef _ _ b _ _ _ _ _ _ _ => b
  | _ => []
noncomputable def defScope (s : Stmt) : Scope := match s with
  | .FunctionDef _ _ _ _ _ _ sc _ _ _ => sc
  | _ => { kind := .function, names := [], isGenerator := false, isCoroutine := false }

noncomputable abbrev CX0 : CXT := fun _ _ _ _ _ _ => False
noncomputable abbrev E0 : XK := fun _ _ _ => False
theorem pass0 {X : Cx} : Passes CX0 X E0 := fun _ _ _ _ _ _ _ h => h.elim

structure Fun (K : PySem.W.Frag) (x qual : Str) (st : Stmt) (f : Addr) (fd : FuncData) : Prop where
  ex : ∃ (oc : Value) (od : Option Addr) (kV doc pm : Value) (an : Option Addr) (cdv ct : Value) (osl : Array (Option Value)),
    fd = PySem.W.fnOf x qual (defArgs st) (defBody st) (defScope st) .none kV doc pm an cdv ct ∧ K.lookup f = some ⟨oc, od, .func fd, osl⟩ ∧ PySem.W.codeIn K cdv qual = true
  kp : PySem.W.keepIn K (.ref f) = true
section
variable {P : Program} {w : World} {K : PySem.W.Frag} {mg : Str → Option Value} {base : Heap}
theorem Fun.ok {x qual : Str} {st : Stmt} {f : Addr} {fd : FuncData} {N ps : List Str} {k : Nat} {sp : Sp} (F : Fun K x qual st f fd) (S : FnScope N ps (defScope st)) (len : ∀ vs H Q E, sp vs H Q E → vs.length = ps.length)
    (hbody : ∀ (cdv : Value) (A : Around) (outer : List Env) (s : Shared) (H : Hp) (vs : List V) (Q : VK) (E : XK), Room k (A.deeper (envOfC qual (defScope st) s.heap.objs.size f cdv)) → sp vs H Q E →
      ∃ t, PSs (cxOf CX0 P w K mg base N qual (defScope st) f cdv A outer s H E).nox (defBody st) t ∧ t { nx := fun _ H' => Q .non H', rt := Q } (start N vs) H) : FnOk P w K mg base CX0 (k + 1) f fd ps sp := by
  obtain ⟨oc, od, kV, doc, pm, an, cdv, ct, osl, rfl, lk, hcd⟩ := F.ex
  refine fn_of lk hcd S len fun A outer s H vs Q E hr hsp => ?_
  obtain ⟨t, h, q⟩ := hbody cdv A outer s H vs Q E hr hsp
  exact ⟨t, h.nox, q⟩
theorem Fun.binds {x qual : Str} {st : Stmt} {f : Addr} {fd : FuncData} {ps : List Str} (F : Fun K x qual st f fd)
    (h : ∀ (kV doc pm : Value) (an : Option Addr) (cdv ct : Value) (us : List Value), us.length = ps.length → bindArgs (PySem.W.fnOf x qual (defArgs st) (defBody st) (defScope st) .none kV doc pm an cdv ct) ⟨us, []⟩ = pure (ps.zip us)) : Binds K fd ps [] := by
  obtain ⟨oc, od, kV, doc, pm, an, cdv, ct, osl, rfl, lk, hcd⟩ := F.ex
  exact .all (h kV doc pm an cdv ct)
theorem fun_mk {x qual : Str} {st : Stmt} {f : Addr} {oc : Value} {od an : Option Addr} {osl : Array (Option Value)} {kV doc pm cdv ct : Value} (l : K.lookup f = some ⟨oc, od, .func (PySem.W.fnOf x qual (defArgs st) (defBody st) (defScope st) .none kV doc pm an cdv ct), osl⟩)
    (c : PySem.W.codeIn K cdv qual = true) (k : PySem.W.keepIn K (.ref f) = true) : Fun K x qual st f (PySem.W.fnOf x qual (defArgs st) (defBody st) (defScope st) .none kV doc pm an cdv ct) := ⟨⟨oc, od, kV, doc, pm, an, cdv, ct, osl, rfl, l, c⟩, k⟩
end
section
variable {X : Cx}
end

theorem iteF {A B : Prop} (h : B) : if false = true then A else B := by
  rw [if_neg Bool.false_ne_true]
  exact h
theorem iteT {A B : Prop} (h : A) : if true = true then A else B := by
  rw [if_pos rfl]
  exact h
noncomputable def Same (H H' : Hp) : Prop := ∀ b o, H b = some o → H' b = some o
theorem Same.refl (H : Hp) : Same H H := fun _ _ h => h
theorem Same.trans {H H1 H2 : Hp} (a : Same H H1) (b : Same H1 H2) : Same H H2 := fun c o h => b c o (a c o h)
end L2

set_option maxHeartbeats 4000000
namespace L2
open PySem PySem.Spec PyProof.Rows

noncomputable def clOf (env : Env) : List (Str × NameKind) → List (Str × Addr) → List (Str × Addr)
  | [], acc => acc
  | (n, k) :: r, acc => clOf env r (if k == .free then (match env.cells.lookup n with | some c => (n, c) :: acc | none => acc) else acc)
theorem clOf_mem {env : Env} : ∀ {names : List (Str × NameKind)} {acc : List (Str × Addr)}, (∀ x c, (x, c) ∈ acc → env.cells.lookup x = some c) → ∀ x c, (x, c) ∈ clOf env names acc → env.cells.lookup x = some c
  | [], _, h, x, c, m => h x c m
  | (n, k) :: r, acc, h, x, c, m => by
    refine clOf_mem (names := r) ?_ x c m
    intro y d hm
    cases hk : (k == NameKind.free) with
    | false => rw [hk] at hm; exact h y d hm
    | true =>
      rw [hk] at hm
      simp only [if_true] at hm
      cases e : env.cells.lookup n with
      | none => rw [e] at hm; exact h y d hm
      | some c' =>
        rw [e] at hm
        rcases List.mem_cons.mp hm with z | z
        · cases z; exact e
        · exact h y d z
theorem clOf_sub {env : Env} : ∀ {names : List (Str × NameKind)} {acc : List (Str × Addr)} {p : Str × Addr}, p ∈ acc → p ∈ clOf env names acc
  | [], _, _, h => h
  | (n, k) :: r, acc, p, h => by
    refine clOf_sub (names := r) ?_
    split
    · split
      · exact List.mem_cons_of_mem _ h
      · exact h
    · exact h
theorem clOf_has {env : Env} {x : Str} {c : Addr} (e : env.cells.lookup x = some c) : ∀ {names : List (Str × NameKind)} {acc : List (Str × Addr)}, (x, NameKind.free) ∈ names → (x, c) ∈ clOf env names acc
  | [], _, h => by simp at h
  | (n, k) :: r, acc, h => by
    rcases List.mem_cons.mp h with z | z
    · cases z
      refine clOf_sub (names := r) ?_
      rw [e]
      simp
    · exact clOf_has e (names := r) z
theorem lookup_of_all {l : List (Str × Addr)} {x : Str} {c : Addr} (hm : (x, c) ∈ l) (ha : ∀ d, (x, d) ∈ l → d = c) : l.lookup x = some c := by
  induction l with
  | nil => simp at hm
  | cons p r ih =>
    obtain ⟨n, d⟩ := p
    by_cases e : x = n
    · subst e
      have : d = c := ha d (by simp)
      subst this
      simp [List.lookup_cons]
    · have hb : (x == n) = false := by simpa using e
      rw [List.lookup_cons, hb]
      refine ih ?_ fun d' h' => ha d' (List.mem_cons_of_mem _ h')
      rcases List.mem_cons.mp hm with z | z
      · cases z; exact absurd rfl e
      · exact z
theorem clOf_lookup {env : Env} {names : List (Str × NameKind)} {x : Str} {c : Addr} (e : env.cells.lookup x = some c) (h : (x, NameKind.free) ∈ names) : (clOf env names []).lookup x = some c :=
  lookup_of_all (clOf_has e h) fun d hd => by
    have q := clOf_mem (names := names) (acc := []) (env := env) (by simp) x d hd
    rw [e] at q
    exact (Option.some.inj q).symm
theorem clOf_some {env : Env} {names : List (Str × NameKind)} {x : Str} {c : Addr} (e : (clOf env names []).lookup x = some c) : env.cells.lookup x = some c :=
  clOf_mem (names := names) (acc := []) (env := env) (by simp) x c (PySem.mem_of_lookup e)

theorem closure_eq {env : Env} : ∀ (names : List (Str × NameKind)) (acc : List (Str × Addr)), (∀ x ∈ names, x.2 = NameKind.free → ∃ c, env.cells.lookup x.1 = some c) →
    (forIn (m := Sem) names acc fun x r => match x with
      | (name, kind) => if (kind == NameKind.free) = true then do let c ← cellOf env name; pure (ForInStep.yield ((name, c) :: r)) else pure (ForInStep.yield r)) = pure (clOf env names acc)
  | [], acc, _ => rfl
  | (n, k) :: r, acc, h => by
    rw [List.forIn_cons]
    cases hk : (k == NameKind.free) with
    | false =>
      simp only [hk, Bool.false_eq_true, if_false, pure_bind, clOf]
      exact closure_eq r acc fun x hx => h x (List.mem_cons_of_mem _ hx)
    | true =>
      obtain ⟨c, e⟩ := h (n, k) List.mem_cons_self (by simpa using hk)
      simp only [hk, if_true, pure_bind, clOf, cellOf, e]
      exact closure_eq r ((n, c) :: acc) fun x hx => h x (List.mem_cons_of_mem _ hx)
theorem closureFor_cl {scope : Scope} {env : Env} (h : ∀ x ∈ scope.names, x.2 = NameKind.free → ∃ c, env.cells.lookup x.1 = some c) : closureFor scope env = pure (clOf env scope.names []) := by
  unfold closureFor
  have := closure_eq (env := env) scope.names [] h
  simp only [this, pure_bind]

theorem comp_loop {prog : Program} {w : World} {A : Around} {R : Result → Shared → Prop} {s : Shared} {elt target iter : Expr} {ifs : List Expr} {scope : Scope} {pos : Pos} {it acc : Value} {env : Env} (I : Nat → Shared → Prop)
    (turn : ∀ n s, I n s → wpAny (model prog w) A (pyNext it) (fun r s₁ => match r with
      | none => R (.ok .next) s₁
      | some v => wpAny (model prog w) A (letOwnedTupleGo target it v) (fun _ s₁' => wpAny (model prog w) A (assign target env v) (fun _ s₂ =>
          wpAny (model prog w) A (forIn ifs true fun c r => if r = true then do let ok ← isTrue c env (eval c env); pure (ForInStep.yield ok) else pure (ForInStep.yield r)) (fun ok s₃ =>
            if ok = true then wpAny (model prog w) A (eval elt env) (fun x s₄ =>
              wpAny (model prog w) A (call (.builtin "list.append") [acc, x]) (fun _ s₅ => ∃ m, m < n ∧ I m s₅) (fun _ _ => False) s₄) (fun _ _ => False) s₃
            else ∃ m, m < n ∧ I m s₃) (fun _ _ => False) s₂) (fun _ _ => False) s₁') (fun _ _ => False) s₁) (fun _ _ => False) s)
    (n : Nat) (h : I n s) :
    codeAny (model prog w) A (.compLoop (.ListComp elt [⟨target, iter, ifs, 0⟩] scope pos) 0 it acc env) R s := by
  refine codeAny_loop rfl I (fun n s hI => ?_) n h
  show wpAny _ A ((compTurn (.ListComp elt [⟨target, iter, ifs, 0⟩] scope pos) 0 it acc env).onRaise (fun x => do noteFrame x env; theTreesLotGoes x)) _ _ s
  refine wpAny_noted ?_
  rw [compTurn_list]
  refine wpAny_bind (wpAny_standAt (wpAny_bind (wpAny_mono (turn n s hI) (fun r s₁ h₁ => ?_) fun _ _ h' => h'.elim)))
  cases r with
  | none => exact wpAny_pure h₁
  | some v =>
    refine wpAny_bind (wpAny_mono h₁ (fun _ s₁' h₁' => ?_) fun _ _ h' => h'.elim)
    refine wpAny_bind (wpAny_mono h₁' (fun _ s₂ h₂ => wpAny_bind (wpAny_mono h₂ (fun ok s₃ h₃ => ?_) fun _ _ h' => h'.elim)) fun _ _ h' => h'.elim)
    cases ok with
    | false => exact wpAny_pure ⟨rfl, h₃⟩
    | true =>
      exact wpAny_bind (wpAny_bind (wpAny_mono h₃ (fun x s₄ h₄ => wpAny_bind (wpAny_mono h₄ (fun _ s₅ h₅ => wpAny_pure (wpAny_pure ⟨rfl, h₅⟩)) fun _ _ h' => h'.elim)) fun _ _ h' => h'.elim))
end L2

namespace L2
open PySem PySem.Spec PyProof.Rows

theorem cellsFrom_app : ∀ (names : List (Str × NameKind)) (n : Nat) (acc : List (Str × Addr)), cellsFrom n names acc = cellsFrom n names [] ++ acc
  | [], _, _ => rfl
  | (x, k) :: r, n, acc => by
    unfold cellsFrom
    split
    · rw [cellsFrom_app r (n + 1) ((x, n) :: acc), cellsFrom_app r (n + 1) [(x, n)], List.append_assoc]; rfl
    · exact cellsFrom_app r n acc
theorem look_app {α : Type} : ∀ {A B : List (Str × α)} {x : Str}, (A ++ B).lookup x = (match A.lookup x with | some c => some c | none => B.lookup x)
  | [], _, _ => rfl
  | (y, c) :: A, B, x => by
    rw [List.cons_append, List.lookup_cons, List.lookup_cons]
    cases x == y with
    | true => rfl
    | false => exact look_app (A := A)
theorem own_cell : ∀ {names : List (Str × NameKind)} {n : Nat} {acc : List (Str × Addr)} {x : Str} {c : Addr}, (x, c) ∈ cellsFrom n names acc → (x, c) ∈ acc ∨ (x, NameKind.cell) ∈ names
  | [], _, _, _, _, h => .inl h
  | (y, k) :: r, n, acc, x, c, h => by
    unfold cellsFrom at h
    split at h
    · rename_i hk
      rcases own_cell h with z | z
      · rcases List.mem_cons.mp z with z | z
        · cases z
          have : k = .cell := by simpa using hk
          rw [this]; exact .inr List.mem_cons_self
        · exact .inl z
      · exact .inr (List.mem_cons_of_mem _ z)
    · exact (own_cell h).imp id (List.mem_cons_of_mem _)
theorem look_mem {α : Type} : ∀ {l : List (Str × α)} {x : Str} {c : α}, (x, c) ∈ l → ∃ d, l.lookup x = some d
  | (y, d) :: r, x, c, h => by
    by_cases e : x = y
    · subst e; exact ⟨d, by simp [List.lookup_cons]⟩
    · have hb : (x == y) = false := by simpa using e
      rw [List.lookup_cons, hb]
      rcases List.mem_cons.mp h with z | z
      · cases z; exact absurd rfl e
      · exact look_mem z
theorem has_cell : ∀ {names : List (Str × NameKind)} {n : Nat} {acc : List (Str × Addr)} {x : Str}, (x, NameKind.cell) ∈ names ∨ (∃ c, (x, c) ∈ acc) → ∃ c, (x, c) ∈ cellsFrom n names acc
  | [], _, _, _, h => h.elim (fun h => by simp at h) id
  | (y, k) :: r, n, acc, x, h => by
    unfold cellsFrom
    split
    · refine has_cell ?_
      rcases h with h | ⟨c, h⟩
      · rcases List.mem_cons.mp h with z | z
        · cases z; exact .inr ⟨n, List.mem_cons_self⟩
        · exact .inl z
      · exact .inr ⟨c, List.mem_cons_of_mem _ h⟩
    · rename_i hk
      refine has_cell ?_
      rcases h with h | h
      · rcases List.mem_cons.mp h with z | z
        · cases z; exact absurd (by decide) hk
        · exact .inl z
      · exact .inr h
noncomputable def clC (X : Cx) (scope : Scope) (C : Addr) : List (Str × Addr) := cellsFrom (C + 1) scope.names (clOf X.env scope.names [])
section
variable {M : Model} {A : Around} {E : Value → Shared → Prop} {s : Shared}
theorem wpAny_newFunctionEnv_cl {scope : Scope} {globals : Addr} {cl : List (Str × Addr)} {qual : Str} {env : Env} {Q : Env → Shared → Prop}
    (hQ : ∀ h' : Heap, h'.Ns s.heap.objs.size (fun _ => none) → (∀ b o, s.heap.get? b = some o → h'.get? b = some o) → CellsOk h' (s.heap.objs.size + 1) (cellsFrom (s.heap.objs.size + 1) scope.names []) →
      Q (newEnv scope s.heap.objs.size globals (cellsFrom (s.heap.objs.size + 1) scope.names cl) qual none .none (some env) builtinsNs) { s with heap := h', toks := s.toks + ([] : List (Str × Value)).length }) :
    wpAny M A (newFunctionEnv scope globals cl [] qual none .none (some env)) Q E s := by
  simp only [newFunctionEnv, Option.isSome_some, if_true]
  refine wpAny_bind (wpAny_alloc ?_)
  refine wpAny_bind (wpAny_layCells _ (fun name kind cells => by cases hkc : kind == NameKind.cell <;> simp [hkc]) _ _ _ _ ?_)
  have ok := cellsFrom_ok scope.names (s.heap.push { cls := .type "dict", data := .dict #[] }) (s.heap.objs.size + 1) [] ⟨fun _ _ hm => (nomatch hm), List.Pairwise.nil⟩ (by rw [Heap.size_push]; exact Nat.le_refl _)
  rw [Heap.size_push] at ok
  rw [show ({ s with heap := s.heap.push { cls := .type "dict", data := .dict #[] } } : Shared).heap.objs.size = s.heap.objs.size + 1 from Heap.size_push ..]
  exact wpAny_bind (wpAny_pure (wpAny_pure (hQ _ ((Heap.Ns.new s.heap (.type "dict")).keeps (pushCells_keeps _ _)) (fun b o e => pushCells_keeps _ _ b o (Heap.get?_push_of_some _ e)) ok)))
end
noncomputable def cxC (X : Cx) (N' : List Str) (scope : Scope) (C : Addr) (s₀ : Shared) (H₀ : Hp) (ex : List Addr) : Cx :=
  { X with N := N', s₀ := s₀, H₀ := H₀, env := compEnvC scope (clC X scope C) C X.env, outer := X.stack, ex := ex, fn := fun x => decide (scope.names.lookup x = some .cell), pn := [], xe := fun _ _ => False }
noncomputable def subSt (sub : List (Option Nat)) (σ : St) : St := sub.map fun o => o.bind fun j => (σ[j]?).join
structure SubOk (N : List Str) (sc : Scope) (N' : List Str) (scope : Scope) (sub : List (Option Nat)) : Prop where
  kind : scope.kind = .function
  cel : ∀ x ∈ scope.names, x.2 = .cell → scope.names.lookup x.1 = some .cell
  loc : ∀ x ∈ scope.names, x.2 = .local → scope.names.lookup x.1 = some .local
  free : ∀ x ∈ scope.names, x.2 = .free → sc.names.lookup x.1 = some .cell ∨ sc.names.lookup x.1 = some .free
  len : sub.length = N'.length
  at_ : ∀ (i j : Nat) (x : Str), sub[i]? = some (some j) → N'[i]? = some x → N[j]? = some x ∧ (x, NameKind.free) ∈ scope.names ∧ scope.names.lookup x = some .free
noncomputable def subOkB (N : List Str) (sc : Scope) (N' : List Str) (scope : Scope) (sub : List (Option Nat)) : Bool :=
  decide (scope.kind = .function) && scope.names.all (fun x => decide (x.2 = .cell → scope.names.lookup x.1 = some .cell)) && scope.names.all (fun x => decide (x.2 = .local → scope.names.lookup x.1 = some .local)) &&
  scope.names.all (fun x => decide (x.2 = .free → sc.names.lookup x.1 = some .cell ∨ sc.names.lookup x.1 = some .free)) && decide (sub.length = N'.length) &&
  (List.range sub.length).all fun i => match sub[i]?, N'[i]? with
    | some (some j), some x => decide (N[j]? = some x ∧ (x, NameKind.free) ∈ scope.names ∧ scope.names.lookup x = some .free)
    | _, _ => true
theorem subOk_of {N : List Str} {sc : Scope} {N' : List Str} {scope : Scope} {sub : List (Option Nat)} (h : subOkB N sc N' scope sub = true) : SubOk N sc N' scope sub := by
  simp only [subOkB, Bool.and_eq_true, decide_eq_true_eq, List.all_eq_true] at h
  obtain ⟨⟨⟨⟨⟨h1, h2⟩, h3⟩, h4⟩, h5⟩, h6⟩ := h
  refine ⟨h1, h2, h3, h4, h5, fun i j x e1 e2 => ?_⟩
  have hi : i < sub.length := (List.getElem?_eq_some_iff.mp e1).1
  have q := h6 i (List.mem_range.mpr hi)
  rw [e1, e2] at q
  simpa using q

noncomputable def tTrue : TT := fun _ H Q => Q true H
noncomputable def PIfs (X : Cx) (ifs : List Expr) (t : TT) : Prop :=
  ∀ (pins : List (Addr × Obj)) (s : Shared) (σ : St) (H : Hp) (Q : Bool → Hp → Prop), Inv X pins σ H s → t σ H Q →
    wpAny (model X.prog X.w) X.A (forIn ifs true fun c r => if r = true then do let ok ← isTrue c X.env (eval c X.env); pure (ForInStep.yield ok) else pure (ForInStep.yield r)) (TP X pins σ Q) X.xe s
theorem pifs_nil {X : Cx} : PIfs X [] tTrue := fun _ _ _ H _ I h => wpAny_tests_nil ⟨H, I, h⟩
theorem pifs_one {X : Cx} {c : Expr} {t : TT} (hc : PT X c t) : PIfs X [c] t := fun pins s σ H Q I h => wpAny_tests_one (hc pins s σ H Q I h)

noncomputable def KeepSt (σ σ' : St) : Prop := σ'.length = σ.length ∧ ∀ (i : Nat) (v : V), σ[i]? = some (some v) → σ'[i]? = some (some v)
theorem KeepSt.set {σ : St} {i : Nat} {v : V} (h : σ[i]? = some none) : KeepSt σ (σ.set i (some v)) := by
  refine ⟨by simp, fun j u e => ?_⟩
  by_cases hj : i = j
  · subst hj; rw [h] at e; cases e
  · rw [List.getElem?_set_ne hj]; exact e
theorem KeepSt.trans {σ1 σ2 σ3 : St} (a : KeepSt σ1 σ2) (b : KeepSt σ2 σ3) : KeepSt σ1 σ3 := ⟨b.1.trans a.1, fun i v e => b.2 i v (a.2 i v e)⟩
noncomputable def tComp (sub : List (Option Nat)) (wi : TI) (g : TG) (tt : TT) (te : TE) : TE := fun σ H Q => wi σ H fun J H1 => ∃ W : Nat → Nat → List V → Hp → Prop, (∃ m, W 0 m [] H1) ∧ ∀ i m ys H, W i m ys H →
  (J.stop i H ∧ ys.length ≤ sizeLine ∧ ∀ D, H D = none → Q (.ref D) (upd H D (.lst ys))) ∨
  (J.go i H ∧ ys.length < sizeLine ∧ ∃ N : List V → Hp → Prop, (∀ ys' H', N ys' H' → ∃ m', m' < m ∧ W (i + 1) m' ys' H') ∧
    ∀ x H', J.yld i H x H' → g x (subSt sub σ) H' fun σ2 H2 => KeepSt (subSt sub σ) σ2 ∧ tt σ2 H2 fun b H3 => if b = true then te σ2 H3 fun y H4 => N (ys ++ [y]) H4 else N ys H3)

theorem relabel_free {scope : Scope} {env : Env} {x : Str} (hx : scope.names.lookup x = some .free) : (relabel scope env).names.lookup x = some .cell ∨ (relabel scope env).names.lookup x = some .free := by
  have : ∀ names : List (Str × NameKind), names.lookup x = some .free →
    (names.map fun (n, k) => if (k == NameKind.free && env.scope.kind == .function && env.kindOf n == some .cell) then (n, NameKind.cell) else (n, k)).lookup x = some .cell ∨
    (names.map fun (n, k) => if (k == NameKind.free && env.scope.kind == .function && env.kindOf n == some .cell) then (n, NameKind.cell) else (n, k)).lookup x = some .free := by
    intro names
    induction names with
    | nil => intro h; simp at h
    | cons p r ih =>
      obtain ⟨n, k⟩ := p
      intro h
      by_cases e : x = n
      · subst e
        have hk : k = .free := by simpa [List.lookup_cons] using h
        subst hk
        by_cases hc : ((NameKind.free == NameKind.free && env.scope.kind == .function && env.kindOf x == some .cell) = true)
        · left; simp only [List.map_cons]; rw [if_pos hc]; simp [List.lookup_cons]
        · right; simp only [List.map_cons]; rw [if_neg hc]; simp [List.lookup_cons]
      · have hb : (x == n) = false := by simpa using e
        rw [List.lookup_cons, hb] at h
        have q := ih h
        simp only [List.map_cons]
        split <;> (rw [List.lookup_cons, hb]; exact q)
  exact this scope.names hx
theorem relabel_back {scope : Scope} {env : Env} {x : Str} (h : (relabel scope env).names.lookup x = some .cell ∨ (relabel scope env).names.lookup x = some .free) : (x, NameKind.cell) ∈ scope.names ∨ (x, NameKind.free) ∈ scope.names := by
  have key : ∀ k, (k = NameKind.cell ∨ k = NameKind.free) → (relabel scope env).names.lookup x = some k → (x, NameKind.cell) ∈ scope.names ∨ (x, NameKind.free) ∈ scope.names := by
    intro k hk hl
    have hm := PySem.mem_of_lookup hl
    unfold relabel at hm
    obtain ⟨⟨n, k'⟩, hm1, hm2⟩ := List.mem_map.mp hm
    dsimp only at hm2
    by_cases hc : (k' == NameKind.free && env.scope.kind == .function && env.kindOf n == some .cell) = true
    · rw [if_pos hc] at hm2
      cases hm2
      simp only [Bool.and_eq_true, beq_iff_eq] at hc
      rw [← hc.1.1]; exact .inr hm1
    · rw [if_neg hc] at hm2
      cases hm2
      rcases hk with hk | hk
      · subst hk; exact .inl hm1
      · subst hk; exact .inr hm1
  rcases h with h | h
  · exact key _ (.inl rfl) h
  · exact key _ (.inr rfl) h
theorem relabel_cell {scope : Scope} {env : Env} {x : Str} (hx : scope.names.lookup x = some .cell) : (relabel scope env).names.lookup x = some .cell := by
  have : ∀ names : List (Str × NameKind), names.lookup x = some .cell →
    (names.map fun (n, k) => if (k == NameKind.free && env.scope.kind == .function && env.kindOf n == some .cell) then (n, NameKind.cell) else (n, k)).lookup x = some .cell := by
    intro names
    induction names with
    | nil => intro h; simp at h
    | cons p r ih =>
      obtain ⟨n, k⟩ := p
      intro h
      by_cases e : x = n
      · subst e
        have hk : k = .cell := by simpa [List.lookup_cons] using h
        subst hk
        simp only [List.map_cons]
        split <;> simp [List.lookup_cons]
      · have hb : (x == n) = false := by simpa using e
        rw [List.lookup_cons, hb] at h
        have q := ih h
        simp only [List.map_cons]
        split <;> (rw [List.lookup_cons, hb]; exact q)
  exact this scope.names hx

section
variable {X : Cx} {tg iter elt : Expr} {ifs : List Expr} {scope : Scope} {pos : Pos} {N' : List Str} {sub : List (Option Nat)} {wi : TI} {g : TG} {tt : TT} {te : TE}

theorem inv_block {pins : List (Addr × Obj)} {σ : St} {H : Hp} {s : Shared} {fp : List Addr} {D : Addr} {h' : Heap} {tk : Nat} {N : List Str} {sc : Scope} (S : SubOk N sc N' scope sub) (hN : X.N = N) (hsc : X.env.scope = sc) (I : Inv X pins σ H s) (hf : ∀ b ∈ fp, FpOk X pins H b) (hfo : ∀ b ∈ fp, b < s.heap.objs.size)
    (hD : D < s.heap.objs.size) (fD : FpOk X pins H D) (hns : h'.Ns s.heap.objs.size fun _ => none) (hk : ∀ b o, s.heap.get? b = some o → h'.get? b = some o) (hc : CellsOk h' (s.heap.objs.size + 1) (cellsFrom (s.heap.objs.size + 1) scope.names [])) :
    Inv (cxC X N' scope s.heap.objs.size s H (D :: fp)) [] (subSt sub σ) H { s with heap := h', toks := tk } := by
  have hex : ∀ b ∈ D :: fp, FpOk X pins H b ∧ b < s.heap.objs.size := fun b hb => by
    rcases List.mem_cons.mp hb with rfl | z
    · exact ⟨fD, hD⟩
    · exact ⟨hf b z, hfo b z⟩
  have spl : ∀ {x c}, (clC X scope s.heap.objs.size).lookup x = some c → (h'.IsCell c none ∧ s.heap.objs.size + 1 ≤ c ∧ (x, c) ∈ cellsFrom (s.heap.objs.size + 1) scope.names []) ∨ (X.env.cells.lookup x = some c ∧ ∃ o, s.heap.get? c = some o) := fun {x c} h => by
    unfold clC at h
    rw [cellsFrom_app, look_app] at h
    cases e : (cellsFrom (s.heap.objs.size + 1) scope.names []).lookup x with
    | some d =>
      rw [e] at h
      cases h
      have m := PySem.mem_of_lookup e
      exact .inl ⟨(hc.empty _ _ m).1, (hc.empty _ _ m).2, m⟩
    | none =>
      rw [e] at h
      have z := clOf_some h
      obtain ⟨v, o, ho, _⟩ := I.cell x c z
      exact .inr ⟨z, o, ho⟩
  have fre : ∀ {x c}, (x, NameKind.free) ∈ scope.names → scope.names.lookup x = some .free → X.env.cells.lookup x = some c → (clC X scope s.heap.objs.size).lookup x = some c := fun {x c} h1 h2 h3 => by
    unfold clC
    rw [cellsFrom_app, look_app]
    cases e : (cellsFrom (s.heap.objs.size + 1) scope.names []).lookup x with
    | some d =>
      rcases own_cell (PySem.mem_of_lookup e) with z | z
      · cases z
      · have := S.cel _ z rfl
        rw [h2] at this; cases this
    | none => exact clOf_lookup h3 h1
  refine ⟨⟨I.ok.mod, S.kind, I.ok.glob, I.ok.blt, Nat.le_refl _, fun x y c h1 h2 => ?_, fun x hx => ?_, fun x c hx h => ?_, I.ok.hd, I.ok.frames, .inl rfl, fun b hb => ?_, I.bs, Nat.le_trans I.ok.bsz I.sz, fun b o e hb => ?_, fun b hb => ?_, I.stack, I.stkFree⟩,
    rfl, I.bare, Un.kept hk, ⟨_, hns, fun i x v h1 h2 h3 => ?_⟩, fun x c h => ?_, I.hok.fresh (Nat.le_refl _), fun x c h => ?_, fun p hp => (nomatch hp), I.hok.kept hk, ?_⟩
  · rcases spl h1 with ⟨_, l1, m1⟩ | ⟨z1, o1, q1⟩ <;> rcases spl h2 with ⟨_, l2, m2⟩ | ⟨z2, o2, q2⟩
    · exact PySem.name_of_addr hc.apart m1 m2
    · exact absurd (Nat.lt_of_lt_of_le (Heap.lt_size q2) (Nat.le_of_succ_le l1)) (Nat.lt_irrefl _)
    · exact absurd (Nat.lt_of_lt_of_le (Heap.lt_size q1) (Nat.le_of_succ_le l2)) (Nat.lt_irrefl _)
    · exact I.ok.inj x y c z1 z2
  · rcases relabel_back hx with z | z
    · obtain ⟨c, m⟩ := has_cell (n := s.heap.objs.size + 1) (acc := clOf X.env scope.names []) (.inl z)
      exact look_mem m
    · obtain ⟨c, e⟩ := I.ok.has x (by have := S.free _ z rfl; rw [← hsc] at this; exact this)
      show ∃ c, (clC X scope s.heap.objs.size).lookup x = some c
      unfold clC
      rw [cellsFrom_app]
      exact look_mem (c := c) (List.mem_append_right _ (clOf_has e z))
  · have hx' : scope.names.lookup x = some .cell := by simpa [cxC] using hx
    rcases spl h with ⟨_, l, _⟩ | ⟨z, o, q⟩
    · exact Nat.le_of_succ_le l
    · exfalso
      have m : (x, NameKind.cell) ∈ scope.names := PySem.mem_of_lookup hx'
      obtain ⟨d, md⟩ := has_cell (n := s.heap.objs.size + 1) (acc := []) (.inl m)
      obtain ⟨d', e'⟩ := look_mem md
      have h : (clC X scope s.heap.objs.size).lookup x = some c := h
      unfold clC at h
      rw [cellsFrom_app, look_app, e'] at h
      cases h
      exact absurd (Nat.lt_of_lt_of_le (Heap.lt_size q) (Nat.le_of_succ_le (hc.empty _ _ (PySem.mem_of_lookup e')).2)) (Nat.lt_irrefl _)
  · obtain ⟨⟨f0, f1, f2, f3, f4, f5⟩, hlt⟩ := hex b hb
    refine ⟨Nat.ne_of_lt hlt, fun x c h => ?_⟩
    rcases spl h with ⟨_, l, _⟩ | ⟨z, _⟩
    · exact fun z => absurd (Nat.lt_of_lt_of_le hlt (Nat.le_of_succ_le (z ▸ l))) (Nat.lt_irrefl _)
    · exact f4 x c z
  · obtain ⟨⟨f0, f1, f2, f3, f4, f5⟩, hlt⟩ := hex b hb
    rcases f3 with z | z
    · exact I.ok.noex b o e z
    · exact absurd (Nat.lt_of_lt_of_le (Heap.lt_size (I.ok.bs b o e).1) z) (Nat.lt_irrefl _)
  · obtain ⟨⟨f0, f1, f2, f3, f4, f5⟩, hlt⟩ := hex b hb
    intro z
    rcases List.mem_cons.mp (I.stkSub b z) with z | z
    · exact f1 z
    · exact f2 z
  · have hs : ∃ j, sub[i]? = some (some j) ∧ σ[j]? = some (some v) := by
      unfold subSt at h2
      rw [List.getElem?_map] at h2
      cases e : sub[i]? with
      | none => rw [e] at h2; cases h2
      | some o =>
        rw [e] at h2
        cases o with
        | none => cases h2
        | some j =>
          refine ⟨j, rfl, ?_⟩
          have h3 : (σ[j]?).join = some v := Option.some.inj h2
          cases e2 : σ[j]? with
          | none => rw [e2] at h3; cases h3
          | some z => rw [e2] at h3; cases z with
            | none => cases h3
            | some z => cases h3; rfl
    obtain ⟨j, e1, e2⟩ := hs
    obtain ⟨g1, g2, g3⟩ := S.at_ i j x e1 h1
    rw [← hN] at g1
    obtain ⟨m, hn, hl⟩ := I.loc
    have hkf : X.env.kindOf x = some .cell ∨ X.env.kindOf x = some .free := by have := S.free _ g2 rfl; rw [← hsc] at this; exact this
    have hvis : Vis X.env.scope x := by
      rcases hkf with z | z
      · exact .inr (.inl z)
      · exact .inr (.inr z)
    obtain ⟨u, r, l⟩ := hl j x v g1 e2 hvis
    refine ⟨u, r, .inr ⟨relabel_free g3, ?_⟩⟩
    rcases l with ⟨k, _⟩ | ⟨_, c, e, o, ho, hd⟩
    · have k' : X.env.kindOf x = some .local := k
      rcases hkf with z | z <;> (rw [k'] at z; cases z)
    · exact ⟨c, fre g2 g3 e, o, hk _ _ ho, hd⟩
  · rcases spl h with ⟨z, _⟩ | ⟨z, _⟩
    · exact ⟨_, z⟩
    · obtain ⟨v, o, ho, hd⟩ := I.cell x c z
      exact ⟨v, o, hk _ _ ho, hd⟩
  · rcases spl h with ⟨_, l, _⟩ | ⟨z, _⟩
    · exact I.hok.fresh (Nat.le_of_succ_le l)
    · exact I.freeC x c z
  · show (subSt sub σ).length = N'.length
    unfold subSt
    rw [List.length_map]
    exact S.len

theorem pe_comp {N : List Str} {sc : Scope} (S : SubOk N sc N' scope sub) (hc : X.calm = true) (hN : X.N = N) (hsc : X.env.scope = sc) (hi : PI X tg iter wi)
    (hg : ∀ (C : Addr) (s₀ : Shared) (H₀ : Hp) (ex : List Addr), PG (cxC X N' scope C s₀ H₀ ex) tg g)
    (ht : ∀ (C : Addr) (s₀ : Shared) (H₀ : Hp) (ex : List Addr), PIfs (cxC X N' scope C s₀ H₀ ex) ifs tt)
    (he : ∀ (C : Addr) (s₀ : Shared) (H₀ : Hp) (ex : List Addr), PE (cxC X N' scope C s₀ H₀ ex) elt te)
    (hs : autoParam (∀ x, foldedSetIterable iter X.env x = pure x) L2.auto3._auto_1) :
    PE X (.ListComp elt [⟨tg, iter, ifs, 0⟩] scope pos) (tComp sub wi g tt te) := by
  intro pins s σ H Q I h
  rw [eval_ListComp]
  have hcl : ∀ x ∈ scope.names, x.2 = NameKind.free → ∃ c, X.env.cells.lookup x.1 = some c := fun x hx hk => I.ok.has x.1 (by have := S.free x hx hk; rw [← hsc] at this; exact this)
  refine wpAny_comprehension_free (use := none) rfl hs (closureFor_cl hcl) S.kind S.loc ?_
  refine thn (hi pins s σ H _ I h) fun v s1 h1 => thn h1 fun itv s2 h2 => ?_
  obtain ⟨it, fp, tn, J, H2, e, I2, T, st2, f2, W, ⟨m0, w0⟩, turn⟩ := h2
  subst e
  refine wpAny_newObj_type (wpAny_newFunctionEnv_cl fun h₁ hns₁ hk31 hcl₁ => ?_)
  dsimp only at hns₁ hk31 hcl₁ ⊢
  generalize hs3 : ({ s2 with heap := s2.heap.push { cls := .type "list", dict := none, data := .seq ([] : List Value).toArray } } : Shared) = s3
  have e3 : s2.heap.push { cls := .type "list", dict := none, data := .seq ([] : List Value).toArray } = s3.heap := by rw [← hs3]
  rw [e3] at hns₁ hk31 hcl₁ ⊢
  have hD3 : s3.heap.get? s2.heap.objs.size = some { cls := .type "list", dict := none, data := .seq ([] : List Value).toArray } := by rw [← e3]; exact Heap.get?_push_size _ rfl
  have I3 : Inv X pins σ H2 s3 := by
    rw [← hs3]
    exact I2.kept (t' := s2.toks) fun b o e => Heap.get?_push_of_some _ e
  have k23 : ∀ b o, s2.heap.get? b = some o → s3.heap.get? b = some o := fun b o e => by rw [← e3]; exact Heap.get?_push_of_some _ e
  have hsz : s3.heap.objs.size = s2.heap.objs.size + 1 := by rw [← e3, Heap.size_push]
  have hDn : H2 s2.heap.objs.size = none := I2.hok.fresh (Nat.le_refl _)
  have fD : FpOk X pins H2 s2.heap.objs.size := I2.fpOk (Nat.le_refl _) hDn
  have hfo : ∀ b ∈ fp, b < s2.heap.objs.size := fun b hb => let ⟨o, e, _⟩ := T.obj _ _ st2 b hb; Heap.lt_size e
  have hDfp : s2.heap.objs.size ∉ fp := fun z => absurd (hfo _ z) (Nat.lt_irrefl _)
  have I4 := inv_block (tk := s3.toks + ([] : List (Str × Value)).length) S hN hsc I3 f2 (fun b hb => by rw [hsz]; exact Nat.lt_succ_of_lt (hfo b hb)) (D := s2.heap.objs.size) (by rw [hsz]; exact Nat.lt_succ_self _) fD hns₁ hk31 hcl₁
  -- facts of the block
  have stat : ∀ {H' : Hp} {ob : Obj}, (∀ b ∈ fp, H' b = none) → ∀ b ∈ fp, FpOk (cxC X N' scope s3.heap.objs.size s3 H2 (s2.heap.objs.size :: fp)) [(s2.heap.objs.size, ob)] H' b := fun {H' ob} hn b hb => by
    obtain ⟨q1, q2⟩ := I4.ok.exf b (List.mem_cons_of_mem _ hb)
    refine ⟨hn b hb, q1, I4.ok.exfs b (List.mem_cons_of_mem _ hb), .inl (List.mem_cons_of_mem _ hb), q2, fun p hp z => ?_⟩
    have hp' : p = (s2.heap.objs.size, ob) := by simpa [cxC] using hp
    subst hp'
    have z' : s2.heap.objs.size = b := z
    exact hDfp (by rw [z']; exact hb)
  generalize hXC : cxC X N' scope s3.heap.objs.size s3 H2 (s2.heap.objs.size :: fp) = XC at I4 stat
  have eP : XC.prog = X.prog := by rw [← hXC]; rfl
  have eW : XC.w = X.w := by rw [← hXC]; rfl
  have eK : XC.K = X.K := by rw [← hXC]; rfl
  have eA : XC.A = X.A := by rw [← hXC]; rfl
  have eE : XC.env = compEnvC scope (clC X scope s3.heap.objs.size) s3.heap.objs.size X.env := by rw [← hXC]; rfl
  have eC : XC.calm = true := by rw [← hXC]; exact hc
  have eX : XC.xe = fun _ _ => False := by rw [← hXC]; rfl
  have eH : XC.H₀ = H2 := by rw [← hXC]; rfl
  have eS : XC.s₀ = s3 := by rw [← hXC]; rfl
  have eF : XC.fs = frs X.stack := by rw [← hXC]; rfl
  have eEx : XC.ex = s2.heap.objs.size :: fp := by rw [← hXC]; rfl
  have ePn : XC.pn = [] := by rw [← hXC]; rfl
  have hgC : PG XC tg g := by rw [← hXC]; exact hg _ _ _ _
  have htC : PIfs XC ifs tt := by rw [← hXC]; exact ht _ _ _ _
  have heC : PE XC elt te := by rw [← hXC]; exact he _ _ _ _
  have pinD : ∀ {σ' : St} {H' : Hp} {s' : Shared} {ob : Obj}, Inv XC [] σ' H' s' → H' s2.heap.objs.size = none → s'.heap.get? s2.heap.objs.size = some ob → (∀ v, ob.data ≠ .cell v) → Inv XC [(s2.heap.objs.size, ob)] σ' H' s' := fun {σ' H' s' ob} J hn hg hd =>
    J.pins_of fun p hp => by
      have hp' : p = (s2.heap.objs.size, ob) := by simpa using hp
      subst hp'
      refine ⟨hg, hn, (J.ok.exf _ (by rw [eEx]; exact List.mem_cons_self)).1, J.ok.exfs _ (by rw [eEx]; exact List.mem_cons_self), hd⟩
  have loop : codeAny (model X.prog X.w) X.A (.compLoop (.ListComp elt [⟨tg, iter, ifs, 0⟩] scope pos) 0 (.ref it) (.ref s2.heap.objs.size) (compEnvC scope (clC X scope s3.heap.objs.size) s3.heap.objs.size X.env))
      (compPost (model X.prog X.w) X.A X.xe none (EP X pins σ Q) (.ref s2.heap.objs.size) s3.heap.objs.size) { s3 with heap := h₁, toks := s3.toks + ([] : List (Str × Value)).length } := by
    refine comp_loop (fun n s' => ∃ (i : Nat) (ys : List V) (its : List Value) (nn : Nat) (H' : Hp), Inv XC [] (subSt sub σ) H' s' ∧ tn i s'.heap ∧ (∀ b ∈ fp, H' b = none) ∧ H' s2.heap.objs.size = none ∧
      s'.heap.get? s2.heap.objs.size = some { cls := .type "list", data := .seq its.toArray nn } ∧ Vals ys its ∧ W i n ys H') ?_ m0
      ⟨0, [], [], _, H2, I4, T.keep _ _ _ st2 fun b _ o e => hk31 b o (k23 b o e), fun b hb => (f2 b hb).1, hDn, hk31 _ _ hD3, .nil, w0⟩
    rintro n s4 ⟨i, ys, its, nn, H4, J4, st4, fr4, dn4, dg4, rv4, w4⟩
    have P4 := pinD J4 dn4 dg4 (fun v z => by cases z)
    rcases turn i n ys H4 w4 with ⟨stop, hyl, qn⟩ | ⟨go, hyl, N, hN, step⟩
    · have hdone := T.done XC eP eW eK eC i _ s4 _ H4 (fun _ _ => False) P4 (stat fr4) st4 stop
      rw [eA] at hdone
      refine wpAny_mono hdone (fun r s5 ⟨hr, I5⟩ => ?_) fun _ _ z => z
      subst hr
      -- the end
      obtain ⟨m, hn, _⟩ := id I5.loc
      have hCe : XC.env.locals = s3.heap.objs.size := by rw [eE]; rfl
      rw [hCe] at hn
      refine ⟨m, hn, fun h6 hs6 => ?_⟩
      have hDg := (I5.pin (s2.heap.objs.size, _) (by rw [ePn]; exact List.mem_cons_self)).1
      have hDne : s2.heap.objs.size ≠ s3.heap.objs.size := by rw [hsz]; exact Nat.ne_of_lt (Nat.lt_succ_self _)
      have hHC : H4 s3.heap.objs.size = none := by have := I5.free; rw [hCe] at this; exact this
      have k56 : ∀ b o, b ≠ s3.heap.objs.size → s5.heap.get? b = some o → h6.get? b = some o := fun b o hb e => hs6.extBut b o hb e
      have un := I5.base
      rw [eF, eEx, eH, eS] at un
      have nC : ∀ b o, s3.heap.get? b = some o → b ≠ s3.heap.objs.size := fun b o e => Nat.ne_of_lt (Heap.lt_size e)
      have hok6 : HOk X.prog X.w (upd H4 s2.heap.objs.size (.lst ys)) h6 := by
        have h5 := I5.hok
        rw [eP, eW] at h5
        have trk : ∀ b u, H4 b = some u → b ≠ s3.heap.objs.size := fun b u e z => by rw [z, hHC] at e; cases e
        intro b u e
        by_cases hb : b = s2.heap.objs.size
        · subst hb
          rw [upd_same] at e; cases e
          exact ⟨hyl, its, nn, rv4, k56 _ _ hDne hDg⟩
        · rw [upd_ne hb] at e
          have nD : ∀ c u, H4 c = some u → c ≠ s2.heap.objs.size := fun c u e z => by rw [z, dn4] at e; cases e
          refine (h5 b u e).stay (fun c v hc' q => k56 c v ?_ q) (fun c q => by rw [upd_ne (nD c _ q)]; exact q) fun c xs q => by rw [upd_ne (nD c _ q)]; exact q
          rcases hc' with z | z
          · rw [z]; exact trk b u e
          · exact trk c _ z
      have nD2 : ∀ c u, H4 c = some u → c ≠ s2.heap.objs.size := fun c u e z => by rw [z, dn4] at e; cases e
      have un6 : Un (frs X.stack) (s2.heap.objs.size :: fp) H2 (upd H4 s2.heap.objs.size (.lst ys)) s3.heap h6 :=
        ⟨fun b o e nn' hb hx => k56 b o (nC b o e) (un.keep b o e nn' hb hx), fun b o e nn' hb hx => let ⟨sl, q⟩ := un.slot b o e nn' hb hx; ⟨sl, k56 b _ (nC b o e) q⟩,
          fun b o e nn' hx => by rw [upd_ne (fun z => hx (by rw [z]; exact List.mem_cons_self))]; exact un.free b o e nn' hx,
          fun b o e hx => let ⟨o', q⟩ := un.there b o e hx; ⟨o', k56 b o' (nC b o e) q⟩,
          fun b xs e => by have q := un.tups b xs e; rw [upd_ne (nD2 b _ q)]; exact q,
          fun b o u e => by have q := un.frzs b o u e; rw [upd_ne (nD2 b _ q)]; exact q,
          fun b ps e => let ⟨more, q⟩ := un.tbls b ps e; ⟨more, by rw [upd_ne (nD2 b _ q)]; exact q⟩⟩
      have I6 : Inv X pins σ (upd H4 s2.heap.objs.size (.lst ys)) { s5 with heap := h6 } := by
        refine I3.call' (s' := { s5 with heap := h6 }) (ch := s2.heap.objs.size :: fp) ?_ un6 hok6 I5.bare fun b hb => ?_
        · show s5.os = s3.os
          have := I5.os
          rw [eS] at this
          exact this
        · have q : FpOk X pins H2 b := by
            rcases List.mem_cons.mp hb with rfl | z
            · exact fD
            · exact f2 b z
          obtain ⟨f0, f1, f2', f3, f4, f5⟩ := q
          exact ⟨f3, f1, f4, f5⟩
      exact ⟨.ref s2.heap.objs.size, _, I6, rfl, qn _ dn4⟩
    · have hitem := T.item XC eP eW eK eC i _ s4 _ H4 (fun _ _ => False) P4 (stat fr4) st4 go
      rw [eA] at hitem
      refine wpAny_mono hitem (fun r s5 ⟨u, hr, h5⟩ => ?_) fun _ _ z => z
      subst hr
      dsimp only
      refine wpAny_mono h5 (fun _ s6 ⟨x, H6, I6, r6, y6, st6, fr6⟩ => ?_) fun _ _ z => z
      have P6 := I6.pinned (stat fr6) (T.obj _ _ st6)
      rw [← eE, ← eP, ← eW, ← eA]
      refine wpAny_mono (hgC _ s6 _ H6 x u _ P6 r6 (step x H6 y6)) (fun _ s7 ⟨σ7, H7, I7, kp7, q7⟩ => ?_) fun _ _ z => by rw [eX] at z; exact z
      refine wpAny_mono (htC _ s7 σ7 H7 _ I7 q7) (fun ok s8 ⟨H8, I8, q8⟩ => ?_) fun _ _ z => by rw [eX] at z; exact z
      -- back to the turn's start
      have fin : ∀ {H9 : Hp} {s9 : Shared}, Inv XC ([(s2.heap.objs.size, ({ cls := .type "list", data := .seq its.toArray nn } : Obj))] ++ pinsAt fp s6.heap) σ7 H9 s9 → Inv XC [] (subSt sub σ) H9 s9 ∧ tn (i + 1) s9.heap ∧ (∀ b ∈ fp, H9 b = none) ∧ H9 s2.heap.objs.size = none ∧
          s9.heap.get? s2.heap.objs.size = some { cls := .type "list", data := .seq its.toArray nn } := fun {H9 s9} J => by
        have pD := J.pin (s2.heap.objs.size, ({ cls := .type "list", data := .seq its.toArray nn } : Obj)) (by rw [ePn]; simp)
        have pF : ∀ b ∈ fp, ∀ o, s6.heap.get? b = some o → s9.heap.get? b = some o ∧ H9 b = none := fun b hb o e => by
          have q := J.pin (b, o) (by rw [ePn]; exact List.mem_append_right _ (List.mem_append_right _ (mem_pinsAt hb e)))
          exact ⟨q.1, q.2.1⟩
        refine ⟨?_, T.keep _ _ _ st6 fun b hb o e => (pF b hb o e).1, fun b hb => ?_, pD.2.1, pD.1⟩
        · have J0 : Inv XC [] σ7 H9 s9 := J.pins_of fun p hp => nomatch hp
          exact J0.weak kp7.1.symm fun j v e => kp7.2 j v e
        · obtain ⟨o, e, _⟩ := T.obj _ _ st6 b hb
          exact (pF b hb o e).2
      cases ok with
      | false =>
        rw [if_neg (by simp)]
        rw [if_neg (by simp)] at q8
        obtain ⟨m', hm, w8⟩ := hN _ _ q8
        obtain ⟨a1, a2, a3, a4, a5⟩ := fin I8
        exact ⟨m', hm, i + 1, ys, its, nn, H8, a1, a2, a3, a4, a5, rv4, w8⟩
      | true =>
        rw [if_pos rfl]
        rw [if_pos rfl] at q8
        refine wpAny_mono (heC _ s8 σ7 H8 _ I8 q8) (fun xv s9 ⟨y, H9, I9, r9, n9⟩ => ?_) fun _ _ z => by rw [eX] at z; exact z
        obtain ⟨m', hm, w9⟩ := hN _ _ n9
        obtain ⟨a1, a2, a3, a4, a5⟩ := fin I9
        refine wpAny_list_append_plain (items := its.toArray) ⟨nn, a5⟩ (fun h' ⟨n', hp'⟩ sb => ?_) (by simp; rw [← rv4.length]; omega)
        obtain ⟨q1, q2⟩ := I4.ok.exf s2.heap.objs.size (by rw [eEx]; exact List.mem_cons_self)
        have a1' : Inv XC [] (subSt sub σ) H9 { s9 with heap := h' } := a1.turned (t' := s9.toks) (fun b o hb e => (sb.2 b hb).trans e) a4 q1 (.inl (by rw [eEx]; exact List.mem_cons_self)) q2 (fun p hp => by rw [ePn] at hp; exact nomatch hp)
        refine ⟨m', hm, i + 1, ys ++ [y], its ++ [xv], n', H9, a1', T.keep _ _ _ a2 fun b hb o e => (sb.2 b (fun z => hDfp (by rw [← z]; exact hb))).trans e, a3, a4, ?_, rv4.append (.cons r9 .nil), w9⟩
        rw [hp']
        simp
  subst hs3
  exact codeAny_compStart_list loop (T.self _ 0 _ _ _ (T.keep _ _ _ st2 fun b _ o e => hk31 b o (k23 b o e)) loop)
end

noncomputable abbrev CompR (sub : List (Option Nat)) (g : TG) (tt : TT) (te : TE) (σ : St) (Q : VK) (J : It) (H1 : Hp) : Prop := ∃ W : Nat → Nat → List V → Hp → Prop, (∃ m, W 0 m [] H1) ∧ ∀ i m ys H, W i m ys H →
  (J.stop i H ∧ ys.length ≤ sizeLine ∧ ∀ D, H D = none → Q (.ref D) (upd H D (.lst ys))) ∨
  (J.go i H ∧ ys.length < sizeLine ∧ ∃ N : List V → Hp → Prop, (∀ ys' H', N ys' H' → ∃ m', m' < m ∧ W (i + 1) m' ys' H') ∧
    ∀ x H', J.yld i H x H' → g x (subSt sub σ) H' fun σ2 H2 => KeepSt (subSt sub σ) σ2 ∧ tt σ2 H2 fun b H3 => if b = true then te σ2 H3 fun y H4 => N (ys ++ [y]) H4 else N ys H3)
theorem comp_by {sub : List (Option Nat)} {g : TG} {tt : TT} {te : TE} {σ : St} {Q : VK} {J : It} {H : Hp} {n : Nat} (Pv : Nat → List V → Hp → Prop) (hn : n ≤ sizeLine) (h0 : Pv 0 [] H) (hl : ∀ i ys H, Pv i ys H → ys.length ≤ i)
    (hgo : ∀ i ys H, i < n → Pv i ys H → J.go i H) (hstop : ∀ ys H, Pv n ys H → J.stop n H)
    (hs : ∀ i ys H x H', i < n → Pv i ys H → J.yld i H x H' → g x (subSt sub σ) H' fun σ2 H2 => KeepSt (subSt sub σ) σ2 ∧ tt σ2 H2 fun b H3 => if b = true then te σ2 H3 fun y H4 => Pv (i + 1) (ys ++ [y]) H4 else Pv (i + 1) ys H3)
    (hd : ∀ ys H, Pv n ys H → ∀ D, H D = none → Q (.ref D) (upd H D (.lst ys))) : CompR sub g tt te σ Q J H := by
  refine ⟨fun i m ys H => m = n - i ∧ i ≤ n ∧ Pv i ys H, ⟨n, by simp, Nat.zero_le _, h0⟩, ?_⟩
  rintro i m ys H ⟨rfl, hi, p⟩
  have hl' := hl i ys H p
  by_cases hlt : i < n
  · exact .inr ⟨hgo i ys H hlt p, by omega, fun ys' H' => Pv (i + 1) ys' H', fun ys' H' p' => ⟨n - (i + 1), by omega, rfl, hlt, p'⟩, fun x H' y => hs i ys H x H' hlt p y⟩
  · have e : i = n := by omega
    subst e
    exact .inl ⟨hstop ys H p, by omega, hd ys H p⟩
end L2

namespace L2
open PySem PySem.Spec PyProof.Rows

section
variable {κ : Type} [DecidableEq κ]
noncomputable def valV (kvs : List (κ × V)) (k : κ) : Option V := (kvs.find? fun kv => decide (kv.1 = k)).map (·.2)
noncomputable def putK (kvs : List (κ × V)) (k : κ) (v : V) : List (κ × V) :=
  if (kvs.any fun kv => decide (kv.1 = k)) = true then kvs.map (fun kv => if kv.1 = k then (kv.1, v) else kv) else kvs ++ [(k, v)]
theorem valV_nil {k : κ} : valV ([] : List (κ × V)) k = none := rfl
theorem valV_pos {p : κ × V} {r : List (κ × V)} {k : κ} (e : p.1 = k) : valV (p :: r) k = some p.2 := by simp [valV, List.find?_cons, e]
theorem valV_neg {p : κ × V} {r : List (κ × V)} {k : κ} (e : ¬ p.1 = k) : valV (p :: r) k = valV r k := by simp [valV, List.find?_cons, e]
theorem valV_any (k : κ) : ∀ kvs : List (κ × V), (kvs.any fun kv => decide (kv.1 = k)) = (valV kvs k).isSome
  | [] => rfl
  | p :: r => by
    rw [List.any_cons]
    by_cases e : p.1 = k
    · simp only [valV_pos e, decide_eq_true e, Bool.true_or, Option.isSome_some]
    · rw [valV_neg e, decide_eq_false e, Bool.false_or]; exact valV_any k r
theorem valV_map (k j : κ) (y : V) : ∀ kvs : List (κ × V), valV (kvs.map fun kv => if kv.1 = k then (kv.1, y) else kv) j = (valV kvs j).map fun x => if j = k then y else x
  | [] => rfl
  | p :: r => by
    have ih := valV_map k j y r
    rw [List.map_cons]
    by_cases h : p.1 = k
    · rw [if_pos h]
      by_cases e : p.1 = j
      · rw [valV_pos (p := (p.1, y)) e, valV_pos e, Option.map_some, if_pos (e.symm.trans h)]
      · rw [valV_neg (p := (p.1, y)) e, valV_neg e, ih]
    · rw [if_neg h]
      by_cases e : p.1 = j
      · rw [valV_pos (p := p) e, valV_pos e, Option.map_some, if_neg (fun z => h (e.trans z))]
      · rw [valV_neg (p := p) e, valV_neg e, ih]
theorem valV_snoc (k j : κ) (y : V) : ∀ kvs : List (κ × V), valV kvs k = none → valV (kvs ++ [(k, y)]) j = if j = k then some y else valV kvs j
  | [], _ => by
    by_cases e : k = j
    · rw [if_pos e.symm]; exact valV_pos (p := (k, y)) e
    · rw [if_neg (fun z => e z.symm)]; exact valV_neg (p := (k, y)) e
  | p :: r, hn => by
    rw [List.cons_append]
    have hk : ¬ p.1 = k := fun z => by rw [valV_pos z] at hn; cases hn
    rw [valV_neg hk] at hn
    have ih := valV_snoc k j y r hn
    by_cases e : p.1 = j
    · rw [valV_pos e, valV_pos e, if_neg (fun z => hk (e.trans z))]
    · rw [valV_neg e, valV_neg e, ih]
theorem valV_put (kvs : List (κ × V)) (k j : κ) (y : V) : valV (putK kvs k y) j = if j = k then some y else valV kvs j := by
  unfold putK
  by_cases a : (kvs.any fun kv => decide (kv.1 = k)) = true
  · rw [if_pos a, valV_map]
    rw [valV_any] at a
    by_cases e : j = k
    · obtain ⟨x, hx⟩ := Option.isSome_iff_exists.mp a
      rw [if_pos e, e, hx, Option.map_some, if_pos rfl]
    · rw [if_neg e]
      cases valV kvs j with
      | none => rfl
      | some x => rw [Option.map_some, if_neg e]
  · rw [if_neg a]
    refine valV_snoc k j y kvs ?_
    rw [valV_any] at a
    cases q : valV kvs k with
    | none => rfl
    | some x => rw [q] at a; exact (a rfl).elim
theorem length_putK (kvs : List (κ × V)) (k : κ) (v : V) : (putK kvs k v).length ≤ kvs.length + 1 := by
  unfold putK
  split
  · rw [List.length_map]; omega
  · rw [List.length_append, List.length_cons, List.length_nil]; omega
theorem RelO.isSome_eq {o : Option V} {u : Option Value} (r : RelO o u) : o.isSome = u.isSome := by
  cases o with
  | none => cases u with
    | none => rfl
    | some _ => exact (show False from r).elim
  | some _ => cases u with
    | none => exact (show False from r).elim
    | some _ => rfl
theorem KV.val {kvs : List (κ × V)} {vs : List (κ × Value)} (r : KV kvs vs) (k : κ) : RelO (valV kvs k) (valueAt vs k) := by
  unfold KV at r
  induction r with
  | nil => exact True.intro
  | @cons p q ps qs h t ih =>
    obtain ⟨h1, h2⟩ := h
    by_cases e : p.1 = k
    · have e' : q.1 = k := h1.symm.trans e
      have b : valueAt (q :: qs) k = some q.2 := by simp [valueAt, List.find?_cons, e']
      rw [valV_pos e, b]; exact h2
    · have e' : ¬ q.1 = k := fun z => e (h1.trans z)
      have b : valueAt (q :: qs) k = valueAt qs k := by simp [valueAt, List.find?_cons, e']
      rw [valV_neg e, b]; exact ih
theorem KV.any {kvs : List (κ × V)} {vs : List (κ × Value)} (r : KV kvs vs) (k : κ) : (kvs.any fun kv => decide (kv.1 = k)) = vs.any fun kv => decide (kv.1 = k) := by
  unfold KV at r
  induction r with
  | nil => rfl
  | cons h t ih => rw [List.any_cons, List.any_cons, ih, h.1]
theorem KV.repl {kvs : List (κ × V)} {vs : List (κ × Value)} (r : KV kvs vs) (k : κ) {y : V} {u : Value} (ry : RelV y u) :
    KV (kvs.map fun kv => if kv.1 = k then (kv.1, y) else kv) (vs.map fun kv => if kv.1 = k then (kv.1, u) else kv) := by
  unfold KV at r ⊢
  induction r with
  | nil => exact .nil
  | @cons p q ps qs h t ih =>
    rw [List.map_cons, List.map_cons]
    refine .cons ?_ ih
    obtain ⟨h1, h2⟩ := h
    by_cases e : p.1 = k
    · rw [if_pos e, if_pos (h1.symm.trans e)]; exact ⟨h1, ry⟩
    · rw [if_neg e, if_neg (fun z => e (h1.trans z))]; exact ⟨h1, h2⟩
theorem KV.put {kvs : List (κ × V)} {vs : List (κ × Value)} (r : KV kvs vs) (k : κ) {y : V} {u : Value} (ry : RelV y u) : KV (putK kvs k y) (stored vs k u) := by
  unfold putK stored
  rw [r.any k]
  by_cases e : (vs.any fun kv => decide (kv.1 = k)) = true
  · rw [if_pos e, if_pos e]; exact r.repl k ry
  · rw [if_neg e, if_neg e]; exact Paired.snoc r ⟨rfl, ry⟩
theorem KV.length {kvs : List (κ × V)} {vs : List (κ × Value)} (r : KV kvs vs) : kvs.length = vs.length := Paired.length r
end


theorem kV_is {P : Program} {w : World} {k : Key} {u : Value} (r : RelV (kV k) u) : (mixKind P w).is k u = true := by
  cases k with
  | inl i => obtain ⟨t, e⟩ := (show ∃ t, u = Value.int i t from r); subst e; exact mixKind_int P w i t
  | inr x => obtain ⟨t, e⟩ := (show ∃ t, u = Value.str x t from r); subst e; exact mixKind_str P w x t
theorem items_are {P : Program} {w : World} : ∀ {ks : List Key} {us : List Value}, Vals (ks.map kV) us → ItemsAre (mixKind P w) ks us
  | [], _, r => by rw [List.map_nil] at r; cases r; exact .nil
  | k :: ks, _, r => by
    rw [List.map_cons] at r
    cases r with
    | cons h t => exact .cons (kV_is h) (items_are t)

noncomputable abbrev KT (H : Hp) : List (List Key × V) → List (List Key × Addr × Value) → Prop := Paired fun p q => p.1 = q.1 ∧ H q.2.1 = some (.tup (p.1.map kV)) ∧ RelV p.2 q.2.2
theorem KT.val {H : Hp} {kvs : List (List Key × V)} {xs : List (List Key × Addr × Value)} (r : KT H kvs xs) (k : List Key) : RelO (valV kvs k) ((atKey xs k).map (·.2)) := by
  induction r with
  | nil => exact True.intro
  | @cons p q ps qs h t ih =>
    obtain ⟨h1, _, h2⟩ := h
    by_cases e : p.1 = k
    · have e' : q.1 = k := h1.symm.trans e
      have b : atKey (q :: qs) k = some q.2 := by simp [atKey, List.find?_cons, e']
      rw [valV_pos e, b]; exact h2
    · have e' : ¬ q.1 = k := fun z => e (h1.trans z)
      have b : atKey (q :: qs) k = atKey qs k := by simp [atKey, List.find?_cons, e']
      rw [valV_neg e, b]; exact ih
theorem KT.repl {H : Hp} {kvs : List (List Key × V)} {xs : List (List Key × Addr × Value)} (r : KT H kvs xs) (k : List Key) {y : V} {u : Value} (ry : RelV y u) :
    KT H (kvs.map fun kv => if kv.1 = k then (kv.1, y) else kv) (xs.map (putAt k u)) := by
  induction r with
  | nil => exact .nil
  | @cons p q ps qs h t ih =>
    rw [List.map_cons, List.map_cons]
    refine .cons ?_ ih
    obtain ⟨h1, h2, h3⟩ := h
    unfold putAt
    by_cases e : p.1 = k
    · rw [if_pos e, if_pos (h1.symm.trans e)]; exact ⟨h1, h2, ry⟩
    · rw [if_neg e, if_neg (fun z => e (h1.trans z))]; exact ⟨h1, h2, h3⟩
theorem KT.put {H : Hp} {kvs : List (List Key × V)} {xs : List (List Key × Addr × Value)} (r : KT H kvs xs) (k : List Key) {b : Addr} {y : V} {u : Value} (hb : H b = some (.tup (k.map kV))) (ry : RelV y u) :
    KT H (putK kvs k y) (storedH xs k b u) := by
  have e : (kvs.any fun kv => decide (kv.1 = k)) = (atKey xs k).isSome := by
    rw [valV_any, (r.val k).isSome_eq, Option.isSome_map]
  unfold putK storedH
  rw [e]
  by_cases q : (atKey xs k).isSome = true
  · rw [if_pos q, if_pos q]; exact r.repl k ry
  · rw [if_neg q, if_neg q]; exact Paired.snoc r ⟨rfl, hb, ry⟩
theorem KT.keeps {H H' : Hp} {kvs : List (List Key × V)} {xs : List (List Key × Addr × Value)} (r : KT H kvs xs) (ht : ∀ b ys, H b = some (.tup ys) → H' b = some (.tup ys)) : KT H' kvs xs :=
  Paired.mapP r fun _ _ z => ⟨z.1, ht _ _ z.2.1, z.2.2⟩

section
variable {P : Program} {w : World} {H : Hp} {h : Heap} {a : Addr}
theorem rd_of {u : HO} (ok : HOk P w H h) (e : Rd H a u) : ObjOk P w H h a u := e.ok ok
theorem dk_rd {kvs : List (Key × V)} (ok : HOk P w H h) (e : Rd H a (.dK kvs)) : kvs.length ≤ sizeLine ∧ (a == sysModules) = false ∧ ∃ vs, KV kvs vs ∧ h.DictOf (mixKind P w) a vs :=
  show ObjOk P w H h a (.dK kvs) from rd_of ok e
theorem dk_of {kvs : List (Key × V)} (ok : HOk P w H h) (e : H a = some (.dK kvs)) : kvs.length ≤ sizeLine ∧ (a == sysModules) = false ∧ ∃ vs, KV kvs vs ∧ h.DictOf (mixKind P w) a vs := dk_rd ok (.inl e)
theorem key_of {ks : List Key} (ok : HOk P w H h) (e : H a = some (.tup (ks.map kV))) : (tupleKind (mixKind P w)).is h ks a := by
  obtain ⟨_, its, r, o, h1, h2, n, h3⟩ := (show ObjOk P w H h a (.tup (ks.map kV)) from ok a _ e)
  exact ⟨o, its.toArray, n, h1, h2, h3, by simpa using items_are r⟩
theorem dt_rd {kvs : List (List Key × V)} (ok : HOk P w H h) (e : Rd H a (.dT kvs)) : kvs.length ≤ sizeLine ∧ (a == sysModules) = false ∧
    ∃ xs, KT H kvs xs ∧ h.DictOfH (tupleKind (mixKind P w)) a xs := by
  obtain ⟨z, y, xs, r, o, es, ep, h1, h2, h3, h4, h5⟩ := (show ObjOk P w H h a (.dT kvs) from rd_of ok e)
  refine ⟨z, y, xs, r, o, es, ep, h1, h2, h3, h4, fun x hx => ?_, h5⟩
  have all : ∀ {l : List (List Key × V)} {m : List (List Key × Addr × Value)}, KT H l m → ∀ x ∈ m, (tupleKind (mixKind P w)).is h x.1 x.2.1 := by
    intro l m q
    induction q with
    | nil => intro x hx; exact nomatch hx
    | @cons p q ps qs hq t ih =>
      intro x hx
      rcases List.mem_cons.mp hx with e | hx
      · subst e
        exact key_of ok (by rw [← hq.1]; exact hq.2.1)
      · exact ih x hx
  exact all r x hx
theorem dt_of {kvs : List (List Key × V)} (ok : HOk P w H h) (e : H a = some (.dT kvs)) : kvs.length ≤ sizeLine ∧ (a == sysModules) = false ∧
    ∃ xs, KT H kvs xs ∧ h.DictOfH (tupleKind (mixKind P w)) a xs := dt_rd ok (.inl e)
end

noncomputable def DGet (H : Hp) (a : Addr) (y : V) (r : Option V) : Prop :=
  (∃ kvs k, Rd H a (.dK kvs) ∧ y = kV k ∧ r = valV kvs k) ∨ ∃ kvs k b, Rd H a (.dT kvs) ∧ y = .ref b ∧ H b = some (.tup (k.map kV)) ∧ r = valV kvs k
noncomputable def DPut (H : Hp) (a : Addr) (y v : V) (H' : Hp) : Prop :=
  (∃ kvs k, H a = some (.dK kvs) ∧ y = kV k ∧ kvs.length < sizeLine ∧ H' = upd H a (.dK (putK kvs k v))) ∨
  ∃ kvs k b, H a = some (.dT kvs) ∧ y = .ref b ∧ H b = some (.tup (k.map kV)) ∧ kvs.length < sizeLine ∧ H' = upd H a (.dT (putK kvs k v))
theorem DGet.k {H : Hp} {a : Addr} {kvs : List (Key × V)} {k : Key} (e : H a = some (.dK kvs)) : DGet H a (kV k) (valV kvs k) := .inl ⟨kvs, k, .inl e, rfl, rfl⟩
theorem DPut.k {H : Hp} {a : Addr} {kvs : List (Key × V)} {k : Key} {v : V} (e : H a = some (.dK kvs)) (hl : kvs.length < sizeLine) : DPut H a (kV k) v (upd H a (.dK (putK kvs k v))) := .inl ⟨kvs, k, e, rfl, hl, rfl⟩
section
variable {X : Cx} {pins : List (Addr × Obj)} {σ : St} {H : Hp} {s : Shared} {a : Addr} {y v : V} {u r : Value} {o : Option V} {A : Around} {E : Value → Shared → Prop}

theorem Inv.big (I : Inv X pins σ H s) : sysModules < s.heap.objs.size := by
  have h : mainGlobals < s.heap.objs.size := (I.mod.glob.keeps I.bk).lt
  exact Nat.lt_trans (by decide) h

theorem d_in {Q : Value → Shared → Prop} (hu : A.units + 1 < cLine) (I : Inv X pins σ H s) (g : DGet H a y o) (ry : RelV y u) (h : ∀ s', Inv X pins σ H s' → Q (.bool o.isSome) s') :
    wpAny (model X.prog X.w) A (compareOp .In u (.ref a)) Q E s := by
  rcases g with ⟨kvs, k, e, ey, l⟩ | ⟨kvs, k, b, e, ey, eb, l⟩
  · subst ey
    obtain ⟨z, hd, vs, rel, dd⟩ := dk_rd I.hok e
    refine wpAny_in_of (kV_is ry) hd dd.mapOf ?_
    rw [← (rel.val k).isSome_eq, ← l]
    exact h _ (I.tok _)
  · subst ey
    cases (show u = Value.ref b from ry)
    obtain ⟨z, hd, xs, rel, dd⟩ := dt_rd I.hok e
    refine wpAny_in_heap (tupleKind_room_in1 hu) (key_of I.hok eb) hd dd ?_
    have q := (rel.val k).isSome_eq
    rw [Option.isSome_map] at q
    rw [← q, ← l]
    exact h _ (I.tok _)
theorem d_write {h' : Heap} {t' : Nat} {ob : HO} (I : Inv X pins σ H s) (mu : Mut (H a)) (hs : Heap.SameBut a s.heap h') (he : ∃ q, h'.get? a = some q) (new : ObjOk X.prog X.w (upd H a ob) h' a ob) :
    Inv X pins σ (upd H a ob) { s with heap := h', toks := t' } :=
  I.write (x := a) (e := a) mu (.inl rfl) (fun b q hb z => (hs.2 b hb).trans z) he new
theorem dk_new {P : Program} {w : World} {H' : Hp} {h' : Heap} {kvs : List (Key × V)} {vs : List (Key × Value)} (z : kvs.length ≤ sizeLine) (hd : (a == sysModules) = false) (rel : KV kvs vs) (dd : h'.DictOf (mixKind P w) a vs) :
    ObjOk P w H' h' a (.dK kvs) := ⟨z, hd, vs, rel, dd⟩
theorem d_setItem {H' : Hp} {Q : Unit → Shared → Prop} (hu : A.units + 1 < cLine) (I : Inv X pins σ H s) (g : DPut H a y v H') (ry : RelV y u) (rv : RelV v r) (h : ∀ s', Inv X pins σ H' s' → Q () s') :
    wpAny (model X.prog X.w) A (setItem (.ref a) u r) Q E s := by
  rcases g with ⟨kvs, k, e, ey, l, eH⟩ | ⟨kvs, k, b, e, ey, eb, l, eH⟩
  · subst ey eH
    obtain ⟨z, hd, vs, rel, dd⟩ := dk_of I.hok e
    have hz : vs.length ≤ sizeLine := by rw [← rel.length]; exact z
    have hl : (putK kvs k v).length ≤ sizeLine := by have := length_putK kvs k v; omega
    refine wpAny_setItem_pairs (hsz := hz) (kV_is ry) dd fun h' dd' hs => h _ ?_
    have he : ∃ q, h'.get? a = some q := let ⟨q, _, _, hq, _⟩ := dd'; ⟨q, hq⟩
    exact d_write I (by rw [e]; exact True.intro) hs he (dk_new hl hd (rel.put k rv) dd')
  · subst ey eH
    cases (show u = Value.ref b from ry)
    obtain ⟨z, hd, xs, rel, dd⟩ := dt_of I.hok e
    have hz : xs.length ≤ sizeLine := by rw [← Paired.length rel]; exact z
    have hl : (putK kvs k v).length ≤ sizeLine := by have := length_putK kvs k v; omega
    refine wpAny_setItem_heap (hsz := hz) (tupleKind_room_in1 hu) (key_of I.hok eb) dd fun h' dd' hs => h _ ?_
    obtain ⟨q, es, ep, hq, h2, h3, h4, _, h5⟩ := dd'
    refine d_write I (by rw [e]; exact True.intro) hs ⟨q, hq⟩ ⟨hl, hd, _, (rel.put k eb rv).keeps fun c ys ec => ?_, q, es, ep, hq, h2, h3, h4, h5⟩
    rw [upd_ne (ne_of ec e (fun z => nomatch z))]
    exact ec
end

section
variable {X : Cx} {pins : List (Addr × Obj)} {σ : St} {H : Hp} {s : Shared} {a : Addr} {kvs : List (Key × V)} {k : Key} {u : Value} {A : Around} {E : Value → Shared → Prop}
end


section
variable {X : Cx} {o i e value : Expr} {pos pos' tpos : Pos} {td ty tv : TE}
end


theorem dk_empty {P : Program} {w : World} {H : Hp} (h : Heap) (hb : sysModules < h.objs.size) : ObjOk P w H (h.push { cls := .type "dict", data := .dict #[] }) h.objs.size (.dK []) :=
  ⟨Nat.zero_le _, beq_eq_false_iff_ne.mpr (Ne.symm (Nat.ne_of_lt hb)), [], .nil, Heap.DictOf.new h⟩
noncomputable def tDNewK : TE := fun _ H Q => ∀ p, H p = none → Q (.ref p) (upd H p (.dK []))
section
variable {X : Cx} {pos : Pos}
theorem pe_dnewK : PE X (.Dict [] [] pos) tDNewK := fun pins s σ H Q I h =>
  wpAny_Dict_empty ⟨.ref s.heap.objs.size, _, I.laid (a := s.heap.objs.size) (o := .dK []) (t' := s.toks) (fun _ _ q => Heap.get?_push_of_some _ q) (Nat.le_refl _) (dk_empty s.heap I.big), rfl, h _ (I.hok.fresh (Nat.le_refl _))⟩
end

noncomputable def tPairs : List (TE × TE) → St → Hp → (List (V × V) → Hp → Prop) → Prop
  | [], _, H, Q => Q [] H
  | (tk, tv) :: r, σ, H, Q => tk σ H fun x H1 => tv σ H1 fun y H2 => tPairs r σ H2 fun ps H3 => Q ((x, y) :: ps) H3
noncomputable abbrev VV : List (V × V) → List (Value × Value) → Prop := Paired fun p q => RelV p.1 q.1 ∧ RelV p.2 q.2
noncomputable def PPs (X : Cx) (pos : Pos) (keys : List (Option Expr)) (values : List Expr) (trs : List (TE × TE)) : Prop :=
  ∀ (pins : List (Addr × Obj)) (s : Shared) (σ : St) (H : Hp) (Q : List (V × V) → Hp → Prop), Inv X pins σ H s → tPairs trs σ H Q →
    wpAny (model X.prog X.w) X.A (evalPairs (pairTrees keys values X.env pos)) (fun vs s' => ∃ ps H', Inv X pins σ H' s' ∧ VV ps vs ∧ Q ps H') X.xe s
structure M1 (X : Cx) (o : Expr) (m : Str) (apos : Pos) (e : Expr) (cpos : Pos) : Prop where
  base : attributeBase o m X.env (eval o X.env) = eval o X.env
  few : ((backTo cpos (starEach [e] X.env)).all (fun x => !x.1) && (backToKw cpos (keywordEach [] X.env)).all (fun x => x.1.isSome)
    && decide (([e] : List Expr).length + ([] : List Keyword).length + (if ([] : List Keyword).isEmpty then 0 else 1) < 30)) = true
  line : (apos.endLine == cpos.line) = true
  trees : backTo cpos (starEach [e] X.env) = [(false, eval e X.env)]
structure M2 (X : Cx) (o : Expr) (m : Str) (apos : Pos) (e f : Expr) (cpos : Pos) : Prop where
  base : attributeBase o m X.env (eval o X.env) = eval o X.env
  few : ((backTo cpos (starEach [e, f] X.env)).all (fun x => !x.1) && (backToKw cpos (keywordEach [] X.env)).all (fun x => x.1.isSome)
    && decide (([e, f] : List Expr).length + ([] : List Keyword).length + (if ([] : List Keyword).isEmpty then 0 else 1) < 30)) = true
  line : (apos.endLine == cpos.line) = true
  trees : backTo cpos (starEach [e, f] X.env) = [(false, eval e X.env), (false, eval f X.env)]

section
variable {X : Cx} {pins : List (Addr × Obj)} {σ : St} {H : Hp} {s : Shared} {a : Addr} {y d : V} {u r : Value} {o : Option V} {A : Around} {E : Value → Shared → Prop}
end

section
variable {X : Cx} {o e f : Expr} {apos cpos : Pos} {td ty tx : TE}
end

section
variable {X : Cx} {pins : List (Addr × Obj)} {σ : St} {H : Hp} {s : Shared} {a : Addr} {kvs : List (Key × V)} {A : Around} {E : Value → Shared → Prop}
end


section
variable {X : Cx} {pins : List (Addr × Obj)} {σ : St} {H : Hp} {s : Shared} {a : Addr} {y : V} {u : Value} {A : Around} {E : Value → Shared → Prop}
end
end L2

namespace L2
open PySem PySem.Spec PyProof.Rows
section
variable {X : Cx}
section
variable {κ : Type} [DecidableEq κ]
end
end
end L2

namespace L2
open PySem PySem.Spec PyProof.Rows

noncomputable def Its (x : Str) : It := ⟨fun i _ => i < x.cps.size, fun i H v H' => H' = H ∧ ∃ c, x.cps[i]? = some c ∧ v = .str ⟨#[c]⟩, fun i _ => i = x.cps.size⟩
theorem turn_str {P : Program} {w : World} {K : PySem.W.Frag} {tg : Expr} (it : Addr) (x : Str) (t : Tok) (ty : String)
    (hty : ["enumerate", "zip", "dict_itemiterator", "dict_reverseitemiterator", "odict_iterator", "itertools.zip_longest", "itertools.pairwise"].contains ty = false)
    (W : ∀ A : Around, A.handled = none → Walks P w A it [it] [it] x.cps.size (SignAt x) fun i h => h.IsStrIter it ty x t i)
    (hself : ∀ (A : Around) (i : Nat) (s : Shared) (Q : Value → Shared → Prop) (E : Value → Shared → Prop), s.heap.IsStrIter it ty x t i → Q (.ref it) s → wpAny (model P w) A (pyIter (.ref it)) Q E s) : Turn P w K tg (Its x) [it] it (fun i h => h.IsStrIter it ty x t i) where
  mem := by simp
  obj := fun i h st b hb => by
    have e : b = it := by simpa using hb
    subst e
    obtain ⟨o, e, c, d⟩ := st
    exact ⟨o, e, fun v z => by rw [d] at z; cases z⟩
  keep := fun i h h' st k => by
    obtain ⟨o, e, r⟩ := st
    exact ⟨o, k it (by simp) o e, r⟩
  item := by
    intro X hP hw hK hc i pins s σ H E I hf st hg
    subst hP hw hK
    obtain ⟨f0, f1, f2, f3, f4, f5⟩ := hf it (by simp)
    refine (W X.A (I.ok.hd hc)).item i s _ _ hg st fun v h' tk hv st' kk => ?_
    obtain ⟨c, u, e1, rfl⟩ := hv
    have I1 : Inv X pins σ H { s with heap := h', toks := tk } := I.turned (fun b o hb e => kk b o (by simpa using hb) e) f0 f1 f3 f4 f5
    obtain ⟨o, e, cl, d⟩ := id st'
    exact ⟨_, rfl, go_of (s := { s with heap := h', toks := tk }) e cl d hty ⟨.str ⟨#[c]⟩, H, I1, ⟨u, rfl⟩, ⟨rfl, c, e1, rfl⟩, st', fun b hb => (hf b hb).1⟩⟩
  done := by
    intro X hP hw hK hc i pins s σ H E I hf st hg
    subst hP hw hK
    obtain ⟨f0, f1, f2, f3, f4, f5⟩ := hf it (by simp)
    have hg : i = x.cps.size := hg
    subst hg
    exact (W X.A (I.ok.hd hc)).done s _ _ st fun h' tk kk => ⟨rfl, I.turned (fun b o hb e => kk b o (by simpa using hb) e) f0 f1 f3 f4 f5⟩
  self := hself
section
variable {X : Cx}
noncomputable def rSlS : V → Option Int → Option Int → Hp → VK → Prop := fun v lo hi H Q => ∃ x, v = .str x ∧ x.length ≤ sizeLine ∧ Q (.str (Txt.slice x lo hi)) H
theorem sl_str : SlR X rSlS := by
  intro pins s σ H x v vl vu lo hi sl Q I rx hs pl pu h
  obtain ⟨z, rfl, hz, q⟩ := h
  obtain ⟨t, rfl⟩ := rx
  refine ⟨"str", _, F.slot_str_getitem.lookup, typeIs_str _ _ _, ?_⟩
  have fin : ∀ (t' k : Nat), EP X pins σ Q (.str (Txt.slice z lo hi) t') { s with toks := k } := fun t' k => ⟨.str _, H, I.tok _, ⟨_, rfl⟩, q⟩
  have sz := Nat.le_trans (Txt.slice_le z lo hi) hz
  obtain ⟨o, ho, hc, hd⟩ := hs
  cases pl with
  | none =>
    cases pu with
    | none => exact wpAny_getItem_str_slice (l := none) (u := none) (st := none) ⟨o, ho, hc, hd⟩ rfl (post_val_or_str ⟨sz, fin⟩)
    | int j tj => exact wpAny_getItem_str_slice (l := none) (u := some (j, tj)) (st := none) ⟨o, ho, hc, hd⟩ rfl (post_val_or_str ⟨sz, fin⟩)
  | int i ti =>
    cases pu with
    | none => exact wpAny_getItem_str_slice (l := some (i, ti)) (u := none) (st := none) ⟨o, ho, hc, hd⟩ rfl (post_val_or_str ⟨sz, fin⟩)
    | int j tj => exact wpAny_getItem_str_slice (l := some (i, ti)) (u := some (j, tj)) (st := none) ⟨o, ho, hc, hd⟩ rfl (post_val_or_str ⟨sz, fin⟩)
noncomputable def rMulS : R2 := fun x y H Q => ∃ i n, x = .str i ∧ y = .int n ∧ MulOk i n ∧ Q (.str (Txt.mul i n)) H
theorem op_mul_str : OpR X (binaryOp .Mult) rMulS := by
  intro pins s σ H x y v u Q I rx ry h
  obtain ⟨i, n, rfl, rfl, hk, q⟩ := h
  obtain ⟨t, rfl⟩ := rx
  obtain ⟨t', rfl⟩ := ry
  exact SB.mul hk fun t' k => ⟨.str _, H, I.tok _, ⟨_, rfl⟩, q⟩
noncomputable def sgn (x : Str) : List V := x.cps.toList.map fun c => V.str ⟨#[c]⟩
theorem items_sgn {x : Str} {acc : Array Value} (h : ItemsOf (SignAt x) acc x.cps.size) : Vals (sgn x) acc.toList := by
  obtain ⟨h1, h2⟩ := h
  have key : ∀ (l : List Nat) (a : List Value), l.length = a.length → (∀ (j : Nat) (v : Value), a[j]? = some v → ∃ (c : Nat) (u : Tok), l[j]? = some c ∧ v = Value.str ⟨#[c]⟩ u) → Vals (l.map fun c => V.str ⟨#[c]⟩) a := by
    intro l
    induction l with
    | nil => intro a hl _; cases a with
      | nil => exact .nil
      | cons _ _ => simp at hl
    | cons c l ih =>
      intro a hl hh
      cases a with
      | nil => simp at hl
      | cons v a =>
        obtain ⟨c', u, e1, e2⟩ := hh 0 v (by simp)
        simp at e1; subst e1
        refine .cons ⟨u, e2⟩ (ih a (by simpa using hl) fun j v' e => ?_)
        obtain ⟨c', u, e1, e2⟩ := hh (j + 1) v' (by simpa using e)
        exact ⟨c', u, by simpa using e1, e2⟩
  refine key x.cps.toList acc.toList (by simp [h1]) fun j v e => ?_
  obtain ⟨c, u, e1, e2⟩ := h2 j v (by simpa using e)
  exact ⟨c, u, by simpa using e1, e2⟩
theorem call_list_S (hc : X.calm = true) : CallR X (.type "list") (fun xs H Q => ∃ x, xs = [.str x] ∧ x.cps.size ≤ sizeLine ∧ ∀ p, H p = none → Q (.ref p) (upd H p (.lst (sgn x)))) := by
  intro pins s σ H xs us Q I r h
  obtain ⟨x, rfl, hz, q⟩ := h
  obtain ⟨u, rfl, t, rfl⟩ := vals1 r
  refine call_list_str (I.ok.hd hc) x t (hn := hz) fun h' tk acc' c' hk hS hacc => ?_
  refine ⟨.ref s.heap.objs.size, _, I.laid (o := .lst (sgn x)) hk (Nat.le_refl _) ⟨by simp [sgn]; exact hz, acc'.toList, c', items_sgn hacc, by simpa using hS⟩, rfl, q _ I.fresh⟩
theorem call_tuple_S (hc : X.calm = true) : CallR X (.type "tuple") (fun xs H Q => ∃ x, xs = [.str x] ∧ x.cps.size ≤ sizeLine ∧ ∀ p, H p = none → Q (.ref p) (upd H p (.tup (sgn x)))) := by
  intro pins s σ H xs us Q I r h
  obtain ⟨x, rfl, hz, q⟩ := h
  obtain ⟨u, rfl, t, rfl⟩ := vals1 r
  refine call_tuple_str (I.ok.hd hc) x t (hsz := hz) fun h' tk acc hk hacc => ?_
  have J : Inv X pins σ H { s with heap := h', toks := tk } := I.kept hk
  refine ⟨.ref h'.objs.size, _, J.laid (t' := tk) (o := .tup (sgn x)) (fun b o e => Heap.get?_push_of_some _ e) (Nat.le_refl _) ⟨by simp [sgn]; exact hz, acc.toList, items_sgn hacc, ⟨_, Heap.get?_push_size _ rfl, rfl, 0, by simp⟩⟩, rfl, q _ J.fresh⟩
noncomputable def rIsi (K : PySem.W.Frag) : List V → Hp → VK → Prop := fun xs H Q => ∃ x T t b, xs = [x, .ty T] ∧ TyOf K H x t ∧ PySem.W.kitOne K t (.type T) = some b ∧ Q (.bl b) H
theorem call_isi : CallR X (.builtin "isinstance") (rIsi X.K) := by
  intro pins s σ H xs us Q I r h
  obtain ⟨x, T, t, b, rfl, ty, e, q⟩ := h
  obtain ⟨u, v, rfl, ru, rv⟩ := vals2 r
  cases rv
  exact isinst_ok I ru ty e fun tk => ⟨.bl b, H, I.tok _, rfl, q⟩

noncomputable def eqVs : List V → List V → Bool
  | [], [] => true
  | x :: xs, y :: ys => eqV x y && eqVs xs ys
  | _, _ => false
theorem eqVs_range : ∀ (xs ys : List V), xs.length = ys.length → (List.range xs.length).all (fun j => eqV (xs.getD j .non) (ys.getD j .non)) = eqVs xs ys
  | [], [], _ => rfl
  | x :: xs, y :: ys, h => by
    have ih := eqVs_range xs ys (by simpa using h)
    rw [List.length_cons, List.range_succ_eq_map, List.all_cons, List.all_map]
    simp only [eqVs]
    rw [← ih]
    rfl
  | [], y :: ys, h => by simp at h
  | x :: xs, [], h => by simp at h
theorem eqVs_len : ∀ {xs ys : List V}, xs.length ≠ ys.length → eqVs xs ys = false
  | [], [], h => absurd rfl h
  | [], y :: ys, _ => rfl
  | x :: xs, [], _ => rfl
  | x :: xs, y :: ys, h => by simp [eqVs, eqVs_len (xs := xs) (ys := ys) (by simpa using h)]
noncomputable def rEqL (K : PySem.W.Frag) (neg : Bool) : R2 := fun x y H Q => ∃ a b xs ys, x = .ref a ∧ y = .ref b ∧ SqL K H a xs ∧ SqL K H b ys ∧ xs.all flatV = true ∧ ys.all flatV = true ∧ Q (.bl (if neg then !eqVs xs ys else eqVs xs ys)) H
theorem op_eq_lst (hu : X.A.units < cLine) : OpR X (compareOp .Eq) (rEqL X.K false) := by
  intro pins s σ H x y v u Q I rx ry h
  obtain ⟨a, b, xs, ys, rfl, rfl, ha, hb, fx, fy, q⟩ := h
  cases rx
  cases ry
  obtain ⟨its, r1, p1, z1⟩ := I.list ha
  obtain ⟨jts, r2, p2, z2⟩ := I.list hb
  have l1 : its.toArray.size = xs.length := by simpa using r1.length.symm
  have l2 : jts.toArray.size = ys.length := by simpa using r2.length.symm
  by_cases hl : xs.length = ys.length
  · refine SeqAt.eq_listAt (e := fun j => eqV (xs.getD j .non) (ys.getD j .non)) p1.isList p2.isList (by rw [l1, l2]; exact hl) hu (fun j h1 h2 => ?_) ?_
    · have h1' : j < xs.length := by omega
      have h2' : j < ys.length := by omega
      obtain ⟨u1, e1, q1⟩ := r1.get (List.getElem?_eq_getElem h1')
      obtain ⟨u2, e2, q2⟩ := r2.get (List.getElem?_eq_getElem h2')
      have e1' : its.toArray[j] = u1 := by
        have := List.getElem?_eq_some_iff.mp e1
        obtain ⟨_, z⟩ := this
        simpa using z
      have e2' : jts.toArray[j] = u2 := by
        have := List.getElem?_eq_some_iff.mp e2
        obtain ⟨_, z⟩ := this
        simpa using z
      rw [e1', e2']
      have g1 : xs.getD j .non = xs[j] := by rw [List.getD_eq_getElem?_getD, List.getElem?_eq_getElem h1']; rfl
      have g2 : ys.getD j .non = ys[j] := by rw [List.getD_eq_getElem?_getD, List.getElem?_eq_getElem h2']; rfl
      show SeqAt.EqAt X.A.in1 s u1 u2 (eqV (xs.getD j .non) (ys.getD j .non))
      rw [g1, g2]
      exact eqAt_V q1 q2 (List.all_eq_true.mp fx _ (List.getElem_mem h1')) (List.all_eq_true.mp fy _ (List.getElem_mem h2'))
    · rw [l1, eqVs_range xs ys hl]
      exact ⟨.bl _, H, I, rfl, q⟩
  · refine SeqAt.eq_list_lengthsAt p1.isList p2.isList (by rw [l1, l2]; simpa using hl) hu ?_
    rw [if_neg (by simp), eqVs_len hl] at q
    exact ⟨.bl false, H, I, rfl, q⟩
end
end L2

namespace L2
open PySem PySem.Spec PyProof.Rows

noncomputable def Def (K : PySem.W.Frag) (mg : Str → Option Value) (x : Str) (st : Stmt) : Prop := ∃ f fd, Fun K x x st f fd ∧ mg x = some (.ref f)
theorem def_mk {K : PySem.W.Frag} {mg : Str → Option Value} {h : Heap} (X : K.In h) (G : h.Ns mainGlobals mg) {x : Str} {st : Stmt} {f : Addr} {oc : Value} {od an : Option Addr} {osl : Array (Option Value)} {kV doc pm cdv ct : Value}
    (a : PySem.W.nsIn K mainGlobals x = some (some (.ref f)))
    (l : K.lookup f = some ⟨oc, od, .func (PySem.W.fnOf x x (defArgs st) (defBody st) (defScope st) .none kV doc pm an cdv ct), osl⟩)
    (c : PySem.W.codeIn K cdv x = true) (k : PySem.W.keepIn K (.ref f) = true) : Def K mg x st := ⟨f, _, fun_mk l c k, PySem.W.mg_of X G a⟩
noncomputable def Has (P : Program) (w : World) (K : PySem.W.Frag) (mg : Str → Option Value) (base : Heap) (k : Nat) (x : Str) (ps : List Str) (sp : Sp) : Prop :=
  ∃ f fd, mg x = some (.ref f) ∧ PySem.W.keepIn K (.ref f) = true ∧ Binds K fd ps [] ∧ FnOk P w K mg base CX0 k f fd ps sp
section
variable {P : Program} {w : World} {K : PySem.W.Frag} {mg : Str → Option Value} {base : Heap}
theorem has_of {x : Str} {st : Stmt} {N ps : List Str} {k : Nat} {sp : Sp} (D : Def K mg x st) (S : FnScope N ps (defScope st))
    (hb : ∀ (kV doc pm : Value) (an : Option Addr) (cdv ct : Value) (us : List Value), us.length = ps.length → bindArgs (PySem.W.fnOf x x (defArgs st) (defBody st) (defScope st) .none kV doc pm an cdv ct) ⟨us, []⟩ = pure (ps.zip us))
    (len : ∀ vs H Q E, sp vs H Q E → vs.length = ps.length)
    (hbody : ∀ (f : Addr) (cdv : Value) (A : Around) (outer : List Env) (s : Shared) (H : Hp) (vs : List V) (Q : VK) (E : XK), Room k (A.deeper (envOfC x (defScope st) s.heap.objs.size f cdv)) → sp vs H Q E →
      ∃ t, PSs (cxOf CX0 P w K mg base N x (defScope st) f cdv A outer s H E).nox (defBody st) t ∧ t { nx := fun _ H' => Q .non H', rt := Q } (start N vs) H) : Has P w K mg base (k + 1) x ps sp := by
  obtain ⟨f, fd, F, hm⟩ := D
  exact ⟨f, fd, hm, F.kp, F.binds hb, F.ok S len fun cdv A outer s H vs Q E hr h => hbody f cdv A outer s H vs Q E hr h⟩
end
section
variable {X : Cx}
theorem pe_callH {k : Nat} {x : Str} {ps : List Str} {sp : Sp} {p pos : Pos} {e : Expr} {es : List Expr} {t : TA} (F : Has X.prog X.w X.K X.mg X.base k x ps sp) (hr : Room k X.A) (hg : Gl X x)
    (ha : PA X (e :: es) t) (hdb : autoParam ((x == ("__debug__" : Str)) = false) L2.auto2._auto_1) (he : autoParam (starEach (e :: es) X.env = (false, eval e X.env) :: starEach es X.env) L2.auto4._auto_1) (hpl : autoParam ((backTo pos (starEach es X.env)).any (·.1) = false) L2.auto4._auto_1) :
    PE X (.Call (.Name x p) (e :: es) [] pos) (tCall sp [] E0 t) := by
  obtain ⟨f, fd, a, b, c, d⟩ := F
  exact pe_call d hr hg a b c .nil pass0 ha hdb he hpl
noncomputable def rAddA : R2 := fun x y H Q => (∃ i j, x = .int i ∧ y = .int j ∧ Q (.int (i + j)) H) ∨ (∃ i j, x = .str i ∧ y = .str j ∧ i.length + j.length ≤ sizeLine ∧ Q (.str (i ++ j)) H) ∨ rCat x y H Q
theorem op_addA : OpR X (binaryOp .Add) rAddA := op_add.or (op_add_str.or op_cat)
noncomputable def rMulA : R2 := fun x y H Q => (∃ i j, x = .int i ∧ y = .int j ∧ CMul i j ∧ Q (.int (i * j)) H) ∨ rMulS x y H Q ∨ rRep x y H Q
theorem op_mulA : OpR X (binaryOp .Mult) rMulA := op_mul.or (op_mul_str.or op_rep)
theorem glob_int {x : Str} {z : Int} {pos : Pos} (hg : Gl X x) (hm : ∃ t, X.mg x = some (.int z t)) (hd : autoParam ((x == ("__debug__" : Str)) = false) L2.auto2._auto_1) : PE X (.Name x pos) (tC (.int z)) :=
  let ⟨t, e⟩ := hm; pe_glob hg e ⟨t, rfl⟩ hd
theorem pe_ty {x : Str} {T : String} {pos : Pos} (hg : Gl X x) (hm : X.mg x = none) (hv : bootBuiltins x = some (.type T)) (hn : autoParam (x ≠ "__name__") L2.auto2._auto_1) (hd : autoParam ((x == ("__debug__" : Str)) = false) L2.auto2._auto_1) : PE X (.Name x pos) (tC (.ty T)) :=
  pe_bltn hg hm hv rfl hn hd
noncomputable def rInA (K : PySem.W.Frag) : R2 := fun x y H Q => (∃ i j, x = .str i ∧ y = .str j ∧ Q (.bl (!(Builtin.Str.occurrences j i 0 j.length 1).isEmpty)) H) ∨ rIn K false x y H Q
theorem op_inA : OpR X (compareOp .In) (rInA X.K) := op_in_str.or op_in_seq
noncomputable def rEqA (K : PySem.W.Frag) : R2 := fun x y H Q => rEq x y H Q ∨ rEqL K false x y H Q
theorem op_eqA (hu : X.A.units < cLine) : OpR X (compareOp .Eq) (rEqA X.K) := op_eq.or (op_eq_lst hu)
noncomputable def rSl (K : PySem.W.Frag) : V → Option Int → Option Int → Hp → VK → Prop := fun x lo hi H Q => rSlL K x lo hi H Q ∨ rSlT K x lo hi H Q ∨ rSlS x lo hi H Q
theorem sl_seq : SlR X (rSl X.K) := sl_list.or (sl_tup.or sl_str)
noncomputable def iSeq (K : PySem.W.Frag) (tl : TE) : TI := fun σ H R => tl σ H fun x H1 => (∃ a, x = .ref a ∧ (∃ xs, SqL K H1 a xs) ∧ R (Itl K a) H1) ∨ (∃ a, x = .ref a ∧ (∃ xs, SqT K H1 a xs) ∧ R (Itt K a) H1) ∨ (∃ z, x = .str z ∧ R (Its z) H1)
theorem pi_seq {tg l : Expr} {tl : TE} (hl : PE X l tl) : PI X tg l (iSeq X.K tl) := by
  intro pins s σ H R I h
  refine thn (hl pins s σ H _ I h) fun v s1 qq0 => ?_
  obtain ⟨x, H1, I1, r1, q1⟩ := qq0
  rcases q1 with ⟨a, rfl, ⟨xs, hq⟩, q⟩ | ⟨a, rfl, ⟨xs, hq⟩, q⟩ | ⟨z, rfl, q⟩
  · cases r1
    obtain ⟨its, rv, p, hz⟩ := I1.list hq
    refine wpAny_pyIter_list p.isList ?_
    refine ⟨s1.heap.objs.size, [s1.heap.objs.size], _, _, H1, rfl, I1.kept (t' := s1.toks) fun b o e => Heap.get?_push_of_some _ e, turn_list a _, ⟨_, Heap.get?_push_size _ rfl, rfl, rfl⟩, fun b hb => ?_, q⟩
    have e : b = s1.heap.objs.size := by simpa using hb
    subst e
    exact I1.fpOk (Nat.le_refl _) (I1.hok.fresh (Nat.le_refl _))
  · cases r1
    obtain ⟨its, rv, p, hz⟩ := I1.tuple hq
    refine wpAny_pyIter_tuple (show s1.heap.IsTuple a its.toArray from p) ?_
    refine ⟨s1.heap.objs.size, [s1.heap.objs.size], _, _, H1, rfl, I1.kept (t' := s1.toks) fun b o e => Heap.get?_push_of_some _ e, turn_tuple a _, ⟨_, Heap.get?_push_size _ rfl, rfl, rfl⟩, fun b hb => ?_, q⟩
    have e : b = s1.heap.objs.size := by simpa using hb
    subst e
    exact I1.fpOk (Nat.le_refl _) (I1.hok.fresh (Nat.le_refl _))
  · obtain ⟨t, rfl⟩ := r1
    have fin : ∀ (ty : String) (T : Turn X.prog X.w X.K tg (Its z) [s1.heap.objs.size] s1.heap.objs.size (fun i h => h.IsStrIter s1.heap.objs.size ty z t i)) (o : Obj), (s1.heap.push o).IsStrIter s1.heap.objs.size ty z t 0 → PIE X pins σ tg R (.ref s1.heap.objs.size) { s1 with heap := s1.heap.push o } :=
      fun ty T o st => ⟨s1.heap.objs.size, [s1.heap.objs.size], _, _, H1, rfl, I1.kept (t' := s1.toks) fun b o e => Heap.get?_push_of_some _ e, T, st, fun b hb => by
        have e : b = s1.heap.objs.size := by simpa using hb
        subst e
        exact I1.fpOk (Nat.le_refl _) (I1.hok.fresh (Nat.le_refl _)), q⟩
    cases ha : z.cps.all (· < 128)
    · exact wpAny_pyIter_wide ha (fin "str_iterator" (turn_str _ z t _ (by decide) (fun A' hA => Walks.strWide hA _ z t) fun A i s Q E st h => wpAny_pyIter_striter_wide st h) _ ⟨_, Heap.get?_push_size _ rfl, rfl, rfl⟩)
    · exact wpAny_pyIter_ascii ha (fin "str_ascii_iterator" (turn_str _ z t _ (by decide) (fun A' hA => Walks.strAscii hA _ z t) fun A i s Q E st h => wpAny_pyIter_striter_ascii st h) _ ⟨_, Heap.get?_push_size _ rfl, rfl, rfl⟩)
end
section
variable {X : Cx} {K : PySem.W.Frag}
theorem ix_seqK (hK : X.K = K) : IxR X (rIx K) := hK ▸ ix_seq
theorem op_inK (hK : X.K = K) : OpR X (compareOp .In) (rInA K) := hK ▸ op_inA
theorem op_eqK (hK : X.K = K) (hu : X.A.units < cLine) : OpR X (compareOp .Eq) (rEqA K) := hK ▸ op_eqA hu
theorem sl_seqK (hK : X.K = K) : SlR X (rSl K) := hK ▸ sl_seq
theorem pi_seqK {tg l : Expr} {tl : TE} (hK : X.K = K) (hl : PE X l tl) : PI X tg l (iSeq K tl) := hK ▸ pi_seq hl
noncomputable def rLen (K : PySem.W.Frag) : List V → Hp → VK → Prop := fun xs H Q => ∃ x n, xs = [x] ∧ LenV K x H n ∧ Q (.int n) H
theorem call_lenK (hK : X.K = K) : CallR X (.builtin "len") (rLen K) := hK ▸ call_len
theorem call_isiK (hK : X.K = K) : CallR X (.builtin "isinstance") (rIsi K) := hK ▸ call_isi
noncomputable def rListA (K : PySem.W.Frag) : List V → Hp → VK → Prop := fun xs H Q => (∃ p ys, xs = [.ref p] ∧ (SqL K H p ys ∨ SqT K H p ys) ∧ ∀ l, H l = none → Q (.ref l) (upd H l (.lst ys))) ∨ (∃ x, xs = [.str x] ∧ x.cps.size ≤ sizeLine ∧ ∀ p, H p = none → Q (.ref p) (upd H p (.lst (sgn x))))
theorem call_listK (hK : X.K = K) (hc : X.calm = true) : CallR X (.type "list") (rListA K) := hK ▸ call_list_of.or (call_list_S hc)
noncomputable def rTupA (K : PySem.W.Frag) : List V → Hp → VK → Prop := fun xs H Q => (∃ p ys, xs = [.ref p] ∧ ((SqL K H p ys ∧ ∀ l, H l = none → Q (.ref l) (upd H l (.tup ys))) ∨ (SqT K H p ys ∧ Q (.ref p) H))) ∨ (∃ x, xs = [.str x] ∧ x.cps.size ≤ sizeLine ∧ ∀ p, H p = none → Q (.ref p) (upd H p (.tup (sgn x))))
theorem call_tupleK (hK : X.K = K) (hc : X.calm = true) : CallR X (.type "tuple") (rTupA K) := hK ▸ call_tuple_of.or (call_tuple_S hc)
variable {o e : Expr} {es : List Expr} {to : TE} {t : TA} {name : Str} {apos cpos : Pos} {T id : String} {r : V → List V → Hp → VK → Prop}
theorem pe_bm0K (hK : X.K = K) (pa : PlainAttrs T) (slot : Slot T name id) (hty : typeOf (.builtin id) = pure (.type "method_descriptor")) (hm : MtR X id r) (ho : PE X o to)
    (hbase : autoParam (attributeBase o name X.env (eval o X.env) = eval o X.env) L2.auto4._auto_1) (hline : autoParam ((apos.endLine == cpos.line) = true) L2.auto4._auto_1) : PE X (.Call (.Attribute o name apos) [] [] cpos) (tBM0 K T r to) := by
  subst hK; exact pe_bm0 pa slot hty hm ho hbase hline
theorem pe_bmK (hK : X.K = K) (pa : PlainAttrs T) (slot : Slot T name id) (hty : typeOf (.builtin id) = pure (.type "method_descriptor")) (hm : MtR X id r) (ho : PE X o to) (ha : PA X (e :: es) t)
    (hbase : autoParam (attributeBase o name X.env (eval o X.env) = eval o X.env) L2.auto4._auto_1)
    (hfew : ((backTo cpos (starEach (e :: es) X.env)).all (fun x => !x.1) && (backToKw cpos (keywordEach [] X.env)).all (fun x => x.1.isSome)
      && decide ((e :: es).length + ([] : List Keyword).length + (if ([] : List Keyword).isEmpty then 0 else 1) < 30)) = true := by rfl)
    (hline : autoParam ((apos.endLine == cpos.line) = true) L2.auto4._auto_1) (hs : autoParam (starEach (e :: es) X.env = (false, eval e X.env) :: starEach es X.env) L2.auto4._auto_1) (hplain : autoParam ((backTo cpos (starEach es X.env)).any (·.1) = false) L2.auto4._auto_1) :
    PE X (.Call (.Attribute o name apos) (e :: es) [] cpos) (tBM K T r to t) := by
  subst hK; exact pe_bm pa slot hty hm ho ha hbase hfew hline hs hplain
theorem pg_tupK {ts : List Expr} {k : Nat} {gs : TGs} {n : Nat} {pos : Pos} (hK : X.K = K) (hc : X.calm = true) (h : PGs X ts gs)
    (hn : autoParam ((assignEach ts X.env).length = n) L2.auto4._auto_1) (hst : autoParam ((assignEach ts X.env).findIdx? (·.1) = none) L2.auto4._auto_1) : PG X (.Tuple ts k pos) (gTup K n gs) := by
  subst hK; exact pg_tup hc h hn hst
end
section
variable {X : Cx} {sc scope : Scope} {N' : List Str} {C : Addr} {s₀ : Shared} {H₀ : Hp} {ex : List Addr} {x : Str} {pos : Pos}
theorem pvL (i : Nat) (h : sc.names.lookup x = some .local) (hN : autoParam (X.N[i]? = some x) L2.auto4._auto_1) (hsc : autoParam (X.env.scope = sc) L2.auto4._auto_1) (hd : autoParam ((x == ("__debug__" : Str)) = false) L2.auto6._auto_1) (hcd : autoParam ((x == ("__classdict__" : Str)) = false) L2.auto6._auto_1) :
    PE X (.Name x pos) (tVar i) := pe_var hN (.inl (by rw [hsc]; exact h)) hd hcd
theorem pvC (i : Nat) (h : sc.names.lookup x = some .cell) (hN : autoParam (X.N[i]? = some x) L2.auto4._auto_1) (hsc : autoParam (X.env.scope = sc) L2.auto4._auto_1) (hd : autoParam ((x == ("__debug__" : Str)) = false) L2.auto6._auto_1) (hcd : autoParam ((x == ("__classdict__" : Str)) = false) L2.auto6._auto_1) :
    PE X (.Name x pos) (tVar i) := pe_var hN (.inr (.inl (by rw [hsc]; exact h))) hd hcd
theorem pvBL (i : Nat) (h : scope.names.lookup x = some .local) (hN : autoParam (N'[i]? = some x) L2.auto4._auto_1) (hd : autoParam ((x == ("__debug__" : Str)) = false) L2.auto6._auto_1) (hcd : autoParam ((x == ("__classdict__" : Str)) = false) L2.auto6._auto_1) :
    PE (cxC X N' scope C s₀ H₀ ex) (.Name x pos) (tVar i) := pe_var hN (.inl (lookup_relabel_local h)) hd hcd
theorem pvBF (i : Nat) (h : scope.names.lookup x = some .free) (hN : autoParam (N'[i]? = some x) L2.auto4._auto_1) (hd : autoParam ((x == ("__debug__" : Str)) = false) L2.auto6._auto_1) (hcd : autoParam ((x == ("__classdict__" : Str)) = false) L2.auto6._auto_1) :
    PE (cxC X N' scope C s₀ H₀ ex) (.Name x pos) (tVar i) := pe_var hN (by
      rcases relabel_free (env := X.env) h with z | z
      · exact .inr (.inl z)
      · exact .inr (.inr z)) hd hcd
theorem glF (h : sc.names.lookup x = some .globalImplicit) (hsc : autoParam (X.env.scope = sc) L2.auto4._auto_1) : Gl X x := by
  show X.env.scope.names.lookup x = _
  rw [hsc]; exact h
theorem lookup_relabel_glob {env : Env} : ∀ {names : List (Str × NameKind)} {x : Str}, names.lookup x = some .globalImplicit →
    (names.map fun (n, k) => if (k == NameKind.free && env.scope.kind == .function && env.kindOf n == some .cell) then (n, NameKind.cell) else (n, k)).lookup x = some .globalImplicit
  | [], _, h => by simp at h
  | (n, k) :: r, x, h => by
    have ih := @lookup_relabel_glob env r x
    show List.lookup x ((if (k == NameKind.free && env.scope.kind == .function && env.kindOf n == some .cell) = true then (n, NameKind.cell) else (n, k)) :: _) = _
    cases hx : x == n with
    | true =>
      simp only [List.lookup_cons, hx] at h
      cases h
      simp [List.lookup_cons, hx]
    | false =>
      simp only [List.lookup_cons, hx] at h
      by_cases hc : (k == NameKind.free && env.scope.kind == .function && env.kindOf n == some .cell) = true
      · rw [if_pos hc]; simp only [List.lookup_cons, hx]; exact ih h
      · rw [if_neg hc]; simp only [List.lookup_cons, hx]; exact ih h
theorem glB (h : scope.names.lookup x = some .globalImplicit) : Gl (cxC X N' scope C s₀ H₀ ex) x := lookup_relabel_glob h
theorem pgB (i : Nat) (h : scope.names.lookup x = some .local) (hN : N'.Nodup) (hi : autoParam (N'[i]? = some x) L2.auto4._auto_1) : PG (cxC X N' scope C s₀ H₀ ex) (.Name x pos) (gName i) :=
  pg_name hN hi (.inl (lookup_relabel_local h)) (.inr (lookup_relabel_local h))
end
noncomputable def notComp : Expr → Bool
  | .ListComp .. => false | .SetComp .. => false | .DictComp .. => false | _ => true
theorem sw_no {value : Expr} {target : Option Expr} {line : Nat} {env : Env} (h : notComp value = true) : swapsWith value target line env = pure false := by
  cases value <;> first | rfl | cases h
noncomputable def notSlice : Expr → Bool
  | .Slice .. => false | _ => true
theorem pix {b : Expr} (h : notSlice b = true) : PlainIx b := by
  intro o i
  cases b <;> first | rfl | cases h
noncomputable def notSet : Expr → Bool
  | .Set .. => false | _ => true
theorem fs_no {e : Expr} {env : Env} (h : notSet e = true) : ∀ x, foldedSetIterable e env x = pure x := by
  intro x
  cases e <;> first | rfl | cases h
noncomputable def notStar : Expr → Bool
  | .Starred .. => false | _ => true
theorem se_cons {e : Expr} {es : List Expr} {env : Env} (h : notStar e = true) : starEach (e :: es) env = (false, eval e env) :: starEach es env := by
  cases e <;> first | rfl | cases h
theorem se_any {env : Env} {pos : Pos} : ∀ {es : List Expr}, es.all notStar = true → (backTo pos (starEach es env)).any (·.1) = false
  | [], _ => rfl
  | e :: es, h => by
    simp only [List.all_cons, Bool.and_eq_true] at h
    rw [se_cons h.1]
    show (false || (backTo pos (starEach es env)).any (·.1)) = false
    rw [se_any h.2]; rfl
theorem se_all {env : Env} {pos : Pos} : ∀ {es : List Expr}, es.all notStar = true → (backTo pos (starEach es env)).all (fun x => !x.1) = true
  | [], _ => rfl
  | e :: es, h => by
    simp only [List.all_cons, Bool.and_eq_true] at h
    rw [se_cons h.1]
    show (true && (backTo pos (starEach es env)).all (fun x => !x.1)) = true
    rw [se_all h.2]; rfl
section
variable {X : Cx} {K : PySem.W.Frag} {e : Expr} {es : List Expr} {te : TE} {t : TA} {pos p : Pos}
theorem paC (ha : PE X e te) (hr : PA X es t) (h : autoParam (notStar e = true) L2.auto4._auto_1) : PA X (e :: es) (tCons te t) := pa_cons ha hr (se_cons h)
theorem callH {k : Nat} {x : Str} {ps : List Str} {sp : Sp} (F : Has X.prog X.w X.K X.mg X.base k x ps sp) (hr : Room k X.A) (hg : Gl X x) (ha : PA X (e :: es) t) (hdb : (x == ("__debug__" : Str)) = false) (h : autoParam ((e :: es).all notStar = true) L2.auto4._auto_1) :
    PE X (.Call (.Name x p) (e :: es) [] pos) (tCall sp [] E0 t) := by
  simp only [List.all_cons, Bool.and_eq_true] at h
  exact pe_callH F hr hg ha hdb (se_cons h.1) (se_any h.2)
theorem callB {x : Str} {id : String} {r : List V → Hp → VK → Prop} (hc : CallR X (.builtin id) r) (hg : Gl X x) (hm : X.mg x = none) (hv : bootBuiltins x = some (.builtin id)) (ha : PA X (e :: es) t) (hn : x ≠ "__name__") (hdb : (x == ("__debug__" : Str)) = false) (h : autoParam ((e :: es).all notStar = true) L2.auto4._auto_1) :
    PE X (.Call (.Name x p) (e :: es) [] pos) (tCB r t) := by
  simp only [List.all_cons, Bool.and_eq_true] at h
  exact pe_callB hc hg hm hv ha hn hdb (se_cons h.1) (se_any h.2)
theorem callTy {x : Str} {T : String} {r : List V → Hp → VK → Prop} (hc : CallR X (.type T) r) (hg : Gl X x) (hm : X.mg x = none) (hv : bootBuiltins x = some (.type T)) (ha : PA X (e :: es) t) (hn : x ≠ "__name__") (hdb : (x == ("__debug__" : Str)) = false) (h : autoParam ((e :: es).all notStar = true) L2.auto4._auto_1) :
    PE X (.Call (.Name x p) (e :: es) [] pos) (tCB r t) := by
  simp only [List.all_cons, Bool.and_eq_true] at h
  exact pe_callTy hc hg hm hv ha hn hdb (se_cons h.1) (se_any h.2)
noncomputable def notCall : Expr → Bool
  | .Call .. => false | _ => true
theorem ab_no {o : Expr} {f : Str} {env : Env} {w : Sem Value} (h : notCall o = true) : attributeBase o f env w = w := by
  cases o <;> first | rfl | cases h
theorem methK {o : Expr} {to : TE} {name : Str} {apos cpos : Pos} {T id : String} {r : V → List V → Hp → VK → Prop} (hK : X.K = K) (pa : PlainAttrs T) (slot : Slot T name id) (hty : typeOf (.builtin id) = pure (.type "method_descriptor")) (hm : MtR X id r) (ho : PE X o to) (ha : PA X (e :: es) t)
    (hbase : autoParam (notCall o = true) L2.auto4._auto_1) (hl : autoParam (es.length < 20) L2.auto2._auto_1) (hline : autoParam ((apos.endLine == cpos.line) = true) L2.auto4._auto_1) (h : autoParam ((e :: es).all notStar = true) L2.auto4._auto_1) :
    PE X (.Call (.Attribute o name apos) (e :: es) [] cpos) (tBM K T r to t) := by
  have hA := se_all (env := X.env) (pos := cpos) h
  simp only [List.all_cons, Bool.and_eq_true] at h
  refine pe_bmK hK pa slot hty hm ho ha (ab_no hbase) ?_ hline (se_cons h.1) (se_any h.2)
  rw [hA]
  have : (e :: es).length + ([] : List Keyword).length + (if ([] : List Keyword).isEmpty then 0 else 1) < 30 := by simp; omega
  rw [decide_eq_true this]; rfl
theorem meth0K {o : Expr} {to : TE} {name : Str} {apos cpos : Pos} {T id : String} {r : V → List V → Hp → VK → Prop} (hK : X.K = K) (pa : PlainAttrs T) (slot : Slot T name id) (hty : typeOf (.builtin id) = pure (.type "method_descriptor")) (hm : MtR X id r) (ho : PE X o to)
    (hbase : autoParam (notCall o = true) L2.auto4._auto_1) (hline : autoParam ((apos.endLine == cpos.line) = true) L2.auto4._auto_1) : PE X (.Call (.Attribute o name apos) [] [] cpos) (tBM0 K T r to) :=
  pe_bm0K hK pa slot hty hm ho (ab_no hbase) hline
theorem psSet {i : Nat} {x : Str} {pos' : Pos} (hN : X.N.Nodup) (hi : X.N[i]? = some x) (hx : Loc X.env.scope x) (he : PE X e te) (hf : X.fn x = true) (h : autoParam (notComp e = true) L2.auto4._auto_1) : PS X (.Assign [.Name x pos'] e pos) (tAsg te (gName i)) :=
  ps_set hN hi hx he (sw_no h) (.inl hf)
theorem psExpr (he : PE X e te) (h : autoParam (notComp e = true) L2.auto4._auto_1) : PS X (.Expr e pos) (tDrop te) := ps_expr he (sw_no h)
theorem ixE {a b : Expr} {ta tb : TE} (hK : X.K = K) (ha : PE X a ta) (hb : PE X b tb) (h : autoParam (notSlice b = true) L2.auto4._auto_1) : PE X (.Subscript a b pos) (tOp (rIx K) ta tb) := pe_ix (ix_seqK hK) ha hb (pix h)
theorem psFor {tg iter : Expr} {body : List Stmt} {wi : TI} {g : TG} {tb : TS} (hp : PassesOwn (model X.prog X.w) X.A X.env X.xe) (hc : X.calm = true) (hi : PI X tg iter wi) (hg : PG X tg g) (hb : PSs X body tb) (h : autoParam (notSet iter = true) L2.auto4._auto_1) : PS X (.For tg iter body [] pos) (tFor wi g tb) :=
  ps_for hp hc hi hg hb (fs_no h)
end
section
variable {X : Cx} {tg iter elt : Expr} {ifs : List Expr} {scope : Scope} {pos : Pos} {N' : List Str} {sub : List (Option Nat)} {wi : TI} {g : TG} {tt : TT} {te : TE} {N : List Str} {sc : Scope}
theorem compE (S : SubOk N sc N' scope sub) (hc : X.calm = true) (hN : X.N = N) (hsc : X.env.scope = sc) (hi : PI X tg iter wi)
    (hg : ∀ (C : Addr) (s₀ : Shared) (H₀ : Hp) (ex : List Addr), PG (cxC X N' scope C s₀ H₀ ex) tg g)
    (ht : ∀ (C : Addr) (s₀ : Shared) (H₀ : Hp) (ex : List Addr), PIfs (cxC X N' scope C s₀ H₀ ex) ifs tt)
    (he : ∀ (C : Addr) (s₀ : Shared) (H₀ : Hp) (ex : List Addr), PE (cxC X N' scope C s₀ H₀ ex) elt te) (h : autoParam (notSet iter = true) L2.auto4._auto_1) :
    PE X (.ListComp elt [⟨tg, iter, ifs, 0⟩] scope pos) (tComp sub wi g tt te) := pe_comp S hc hN hsc hi hg ht he (fs_no h)
end
theorem bt_len : bootBuiltins "len" = some (.builtin "len") := by decide +kernel
theorem bt_max : bootBuiltins "max" = some (.builtin "max") := by decide +kernel
theorem bt_min : bootBuiltins "min" = some (.builtin "min") := by decide +kernel
theorem bt_isinstance : bootBuiltins "isinstance" = some (.builtin "isinstance") := by decide +kernel
theorem bt_sorted : bootBuiltins "sorted" = some (.builtin "sorted") := by decide +kernel
theorem bt_list : bootBuiltins "list" = some (.type "list") := by decide +kernel
theorem bt_tuple : bootBuiltins "tuple" = some (.type "tuple") := by decide +kernel
theorem bt_int : bootBuiltins "int" = some (.type "int") := by decide +kernel
theorem bt_enumerate : bootBuiltins "enumerate" = some (.type "enumerate") := by decide +kernel
theorem bt_zip : bootBuiltins "zip" = some (.type "zip") := by decide +kernel
theorem bt_reversed : bootBuiltins "reversed" = some (.type "reversed") := by decide +kernel
theorem bt_bool : bootBuiltins "bool" = some (.type "bool") := by decide +kernel
theorem iteD {c A B : Prop} [Decidable c] (h1 : c → A) (h2 : ¬ c → B) : if decide c = true then A else B := by
  by_cases h : c
  · rw [if_pos (decide_eq_true h)]; exact h1 h
  · rw [if_neg (by rw [decide_eq_false h]; exact Bool.false_ne_true)]; exact h2 h
theorem iteB {b : Bool} {A B : Prop} (h1 : b = true → A) (h2 : b = false → B) : if b = true then A else B := by
  cases b with
  | true => rw [if_pos rfl]; exact h1 rfl
  | false => rw [if_neg Bool.false_ne_true]; exact h2 rfl
theorem atI_int {α : Type} {xs : List α} {k : Int} {v : α} (h0 : 0 ≤ k) (h : xs[k.toNat]? = some v) : atI xs k = some v := by
  have e : ((k.toNat : Nat) : Int) = k := by omega
  rw [← e]
  exact atI_nat h
end L2

namespace L2
open PySem PySem.Spec PyProof.Rows
section
variable {σ : St} {H : Hp} {D : Ends} {ta tb te tc : TE} {tt tu : TT} {Q : VK} {t u : TS} {g : TG}
theorem r_seq (h : t { D with nx := u D } σ H) : tSeq t u D σ H := h
theorem r_next (h : D.nx σ H) : tNext D σ H := h
theorem r_asg (h : te σ H fun x H1 => g x σ H1 D.nx) : tAsg te g D σ H := h
theorem r_name {i : Nat} {v : V} {R : St → Hp → Prop} (h : R (σ.set i (some v)) H) : gName i v σ H R := h
theorem r_sub {to ti : TE} {ts : TSet} {v : V} {R : St → Hp → Prop} (h : to σ H fun o H1 => ti σ H1 fun i H2 => ts o i v H2 fun H3 => R σ H3) : gSub to ti ts v σ H R := h
theorem r_ret (h : te σ H D.rt) : tRet te D σ H := h
theorem r_drop (h : te σ H fun _ H1 => D.nx σ H1) : tDrop te D σ H := h
theorem r_if (h : tt σ H fun b H1 => if b = true then t D σ H1 else u D σ H1) : tIfS tt t u D σ H := h
theorem r_test {R : Bool → Hp → Prop} (h : te σ H fun x H1 => ∃ k, x = .bl k ∧ R k H1) : tTest te σ H R := h
theorem r_tb {R : Bool → Hp → Prop} (h : te σ H fun x H1 => ∃ k, x = .bl k ∧ R k H1) : tB te σ H R := h
theorem r_not {R : Bool → Hp → Prop} (h : tt σ H fun c H1 => R (!c) H1) : tNot tt σ H R := h
theorem r_and {R : Bool → Hp → Prop} (h : tt σ H fun c H1 => if c = true then tu σ H1 R else R false H1) : tAnd tt tu σ H R := h
theorem r_or {R : Bool → Hp → Prop} (h : tt σ H fun c H1 => if c = true then R true H1 else tu σ H1 R) : tOr tt tu σ H R := h
theorem r_andV (h : ta σ H fun x H1 => ∃ c, x = .bl c ∧ if c = true then tb σ H1 Q else Q (.bl false) H1) : tAndV ta tb σ H Q := h
theorem r_notV (h : ta σ H fun x H1 => ∃ c, x = .bl c ∧ Q (.bl (!c)) H1) : tNotV ta σ H Q := h
theorem r_var {i : Nat} {v : V} (e : σ[i]? = some (some v)) (h : Q v H) : tVar i σ H Q := ⟨v, e, h⟩
theorem r_C {v : V} (h : Q v H) : tC v σ H Q := h
theorem r_op {r : R2} (h : ta σ H fun x H1 => tb σ H1 fun y H2 => r x y H2 Q) : tOp r ta tb σ H Q := h
theorem r_un {r : V → Hp → VK → Prop} (h : ta σ H fun x H1 => r x H1 Q) : tUn r ta σ H Q := h
theorem r_cb {r : List V → Hp → VK → Prop} {a : TA} (h : a σ H fun vs H1 => r vs H1 Q) : tCB r a σ H Q := h
theorem r_cons {a : TA} {R : List V → Hp → Prop} (h : te σ H fun x H1 => a σ H1 fun xs H2 => R (x :: xs) H2) : tCons te a σ H R := h
theorem r_nil {R : List V → Hp → Prop} (h : R [] H) : tNil σ H R := h
theorem r_call {sp : Sp} {E : XK} {a : TA} (h : a σ H fun vs H1 => sp vs H1 Q E) : tCall sp [] E a σ H Q := by
  unfold tCall
  simpa only [List.append_nil] using h
theorem r_tup {a : TA} (h : a σ H fun xs H1 => xs.length ≤ sizeLine ∧ ∀ p, H1 p = none → Q (.ref p) (upd H1 p (.tup xs))) : tTup a σ H Q := h
theorem r_lst {a : TA} (h : a σ H fun xs H1 => xs.length ≤ sizeLine ∧ ∀ p, H1 p = none → Q (.ref p) (upd H1 p (.lst xs))) : tLst a σ H Q := h
theorem r_bm {K : PySem.W.Frag} {T : String} {r : V → List V → Hp → VK → Prop} {a : TA} (h : te σ H fun x H1 => tyV K T x H1 ∧ a σ H1 fun xs H2 => r x xs H2 Q) : tBM K T r te a σ H Q := h
theorem r_bm0 {K : PySem.W.Frag} {T : String} {r : V → List V → Hp → VK → Prop} (h : te σ H fun x H1 => tyV K T x H1 ∧ r x [] H1 Q) : tBM0 K T r te σ H Q := h
theorem r_sl {r : V → Option Int → Option Int → Hp → VK → Prop} {tl th : TO} (h : te σ H fun x H1 => tl σ H1 fun l H2 => th σ H2 fun u H3 => r x l u H3 Q) : tSl r te tl th σ H Q := h
theorem r_nop {R : Option Int → Hp → Prop} (h : R none H) : tNoPart σ H R := h
theorem r_part {R : Option Int → Hp → Prop} (h : te σ H fun x H1 => ∃ i, x = .int i ∧ R (some i) H1) : tPart te σ H R := h
theorem r_true {R : Bool → Hp → Prop} (h : R true H) : tTrue σ H R := h
theorem r_rng1 {a : TA} {R : It → Hp → Prop} (h : a σ H fun vs H1 => ∃ j : Int, vs = [.int j] ∧ -(2 ^ 62) ≤ j ∧ j < 2 ^ 62 ∧ R (Itr 0 j.toNat) H1) : iRng1 a σ H R := h
theorem r_rng2 {a : TA} {R : It → Hp → Prop} (h : a σ H fun vs H1 => ∃ i j : Int, vs = [.int i, .int j] ∧ (-(2 ^ 62) ≤ i ∧ i < 2 ^ 62 ∧ -(2 ^ 62) ≤ j ∧ j < 2 ^ 62) ∧ R (Itr i (j - i).toNat) H1) : iRng2 a σ H R := h
theorem r_iseq {K : PySem.W.Frag} {R : It → Hp → Prop} (h : te σ H fun x H1 => (∃ a, x = .ref a ∧ (∃ xs, SqL K H1 a xs) ∧ R (Itl K a) H1) ∨ (∃ a, x = .ref a ∧ (∃ xs, SqT K H1 a xs) ∧ R (Itt K a) H1) ∨ (∃ z, x = .str z ∧ R (Its z) H1)) : iSeq K te σ H R := h
theorem r_comp {sub : List (Option Nat)} {wi : TI} (h : wi σ H fun J H1 => CompR sub g tt te σ Q J H1) : tComp sub wi g tt te σ H Q := h
theorem r_for {wi : TI} {tbd : TS} (h : wi σ H fun J H1 => ∃ W : Nat → Nat → St → Hp → Prop, (∃ m, W 0 m σ H1) ∧ ∀ i m σ H, W i m σ H →
  (J.stop i H ∧ D.nx σ H) ∨ (J.go i H ∧ ∃ N : St → Hp → Prop, (∀ σ' H', N σ' H' → ∃ m', m' < m ∧ W (i + 1) m' σ' H') ∧ ∀ x H', J.yld i H x H' → g x σ H' fun σ2 H2 => tbd { D with nx := N, ct := N, bk := D.nx } σ2 H2)) : tFor wi g tbd D σ H := h
variable {i j : Int} {x y : Str} {f : Int → Int → V} {C : Int → Int → Prop} {K : PySem.W.Frag}
theorem r_i0 (h : Q (f i j) H) : rI0 f (.int i) (.int j) H Q := ⟨_, _, rfl, rfl, h⟩
theorem r_i (c : C i j) (h : Q (f i j) H) : rI C f (.int i) (.int j) H Q := ⟨_, _, rfl, rfl, c, h⟩
theorem r_addI (h : Q (.int (i + j)) H) : rAddA (.int i) (.int j) H Q := .inl ⟨_, _, rfl, rfl, h⟩
theorem r_addL {a b : Addr} {xs ys : List V} (ha : H a = some (.lst xs)) (hb : H b = some (.lst ys)) (c : xs.length + ys.length ≤ sizeLine) (h : ∀ p, H p = none → Q (.ref p) (upd H p (.lst (xs ++ ys)))) : rAddA (.ref a) (.ref b) H Q :=
  .inr (.inr ⟨a, b, xs, ys, rfl, rfl, ha, hb, c, h⟩)
theorem r_mulI (c : CMul i j) (h : Q (.int (i * j)) H) : rMulA (.int i) (.int j) H Q := .inl ⟨_, _, rfl, rfl, c, h⟩
theorem r_ixL {p : Addr} {xs : List V} {v : V} (s : SqL K H p xs) (e : atI xs i = some v) (h : Q v H) : rIx K (.ref p) (.int i) H Q := .inl ⟨p, xs, i, v, rfl, rfl, s, e, h⟩
theorem r_ixT {p : Addr} {xs : List V} {v : V} (s : SqT K H p xs) (e : atI xs i = some v) (h : Q v H) : rIx K (.ref p) (.int i) H Q := .inr (.inl ⟨p, xs, i, v, rfl, rfl, s, e, h⟩)
theorem r_setL {p : Addr} {xs : List V} {n : Nat} {v : V} {R : Hp → Prop} (hp : H p = some (.lst xs)) (e : ixN xs.length i = some n) (h : R (upd H p (.lst (xs.set n v)))) : rSetL (.ref p) (.int i) v H R := ⟨p, xs, i, n, rfl, rfl, hp, e, h⟩
theorem r_bl {b : Bool} {R : Bool → Prop} (h : R b) : ∃ k, V.bl b = .bl k ∧ R k := ⟨b, rfl, h⟩
theorem r_intE {n : Int} {R : Int → Prop} (h : R n) : ∃ k, V.int n = .int k ∧ R k := ⟨n, rfl, h⟩
end
theorem Same.upd {H H' : Hp} {p : Addr} {o : HO} (s : Same H H') (hn : H' p = none) : Same H (upd H' p o) := fun b u e => by
  have q := s b u e
  rw [upd_ne (fun z => by rw [z, hn] at q; cases q)]
  exact q
end L2

namespace L2
open PySem PySem.Spec PyProof.Rows
noncomputable def Chg (p : Addr) (H H' : Hp) : Prop := ∀ b o, b ≠ p → H b = some o → H' b = some o
theorem Chg.refl (p : Addr) (H : Hp) : Chg p H H := fun _ _ _ e => e
theorem Chg.new {p q : Addr} {H H1 : Hp} {o : HO} (a : Chg p H H1) (hn : H1 q = none) : Chg p H (upd H1 q o) := fun b u n e => by
  have z := a b u n e
  rw [upd_ne (fun k => by rw [k, hn] at z; cases z)]
  exact z
theorem upd_old {H : Hp} {q b : Addr} {o u : HO} (hq : H q = none) (hb : H b = some u) : upd H q o b = some u := by
  rw [upd_ne (fun z => by rw [z, hq] at hb; cases hb)]; exact hb
section
variable {H : Hp} {Q : VK} {K : PySem.W.Frag}
theorem r_lenL {p : Addr} {xs : List V} (s : SqL K H p xs) (h : Q (.int xs.length) H) : rLen K [V.ref p] H Q := ⟨_, _, rfl, .inl ⟨_, s, rfl⟩, h⟩
theorem r_lenT {p : Addr} {xs : List V} (s : SqT K H p xs) (h : Q (.int xs.length) H) : rLen K [V.ref p] H Q := ⟨_, _, rfl, .inr ⟨_, s, rfl⟩, h⟩
theorem r_ii {i j : Int} {R : Int → Int → Prop} (h : R i j) : ∃ a b, [V.int i, V.int j] = [.int a, .int b] ∧ R a b := ⟨_, _, rfl, h⟩
theorem r_isi {x : V} {T : String} {t : Value} {b : Bool} (ty : TyOf K H x t) (e : PySem.W.kitOne K t (.type T) = some b) (h : Q (.bl b) H) : rIsi K [x, .ty T] H Q := ⟨x, T, t, b, rfl, ty, e, h⟩
theorem r_slL {p : Addr} {xs : List V} {lo hi : Option Int} (s : SqL K H p xs) (h : ∀ q, H q = none → Q (.ref q) (upd H q (.lst (cutV xs lo hi)))) : rSl K (.ref p) lo hi H Q := .inl ⟨p, xs, rfl, s, h⟩
end
section
variable {σ : St} {H : Hp} {Q : VK}
end
theorem TyOf.mono {K : PySem.W.Frag} {H H' : Hp} {v : V} {T : String} (h : TyOf K H v (.type T)) (s : ∀ b o, H b = some o → v = .ref b → H' b = some o) : TyOf K H' v (.type T) := by
  generalize e : (Value.type T) = t at h
  cases h with
  | non => exact .non
  | bl x => exact .bl x
  | int i => exact .int i
  | str x => exact .str x
  | flt x => exact .flt x
  | lst z => exact .lst (s _ _ z rfl)
  | frz z => exact .frz (s _ _ z rfl)
  | tup z => exact .tup (s _ _ z rfl)
  | dK z => exact .dK (s _ _ z rfl)
  | dT z => exact .dT (s _ _ z rfl)
  | ins => cases e
theorem comp_rng {sub : List (Option Nat)} {g : TG} {tt : TT} {te : TE} {σ : St} {Q : VK} {H : Hp} {lo : Int} {n : Nat} (Pv : Nat → List V → Hp → Prop) (hn : n ≤ sizeLine) (h0 : Pv 0 [] H) (hl : ∀ i ys H, Pv i ys H → ys.length ≤ i)
    (hs : ∀ i ys H, i < n → Pv i ys H → g (.int (lo + i)) (subSt sub σ) H fun σ2 H2 => KeepSt (subSt sub σ) σ2 ∧ tt σ2 H2 fun b H3 => if b = true then te σ2 H3 fun y H4 => Pv (i + 1) (ys ++ [y]) H4 else Pv (i + 1) ys H3)
    (hd : ∀ ys H, Pv n ys H → ∀ D, H D = none → Q (.ref D) (upd H D (.lst ys))) : CompR sub g tt te σ Q (Itr lo n) H :=
  comp_by (n := n) Pv hn h0 hl (fun i ys H hi _ => hi) (fun ys H _ => Nat.le_refl _) (fun i ys H x H' hi p y => by
    obtain ⟨e1, e2⟩ := y
    subst e1 e2
    exact hs i ys _ hi p) hd
theorem comp_list {sub : List (Option Nat)} {g : TG} {tt : TT} {te : TE} {σ : St} {Q : VK} {H : Hp} {K : PySem.W.Frag} {a : Addr} {xs : List V} (Pv : Nat → List V → Hp → Prop) (hn : xs.length ≤ sizeLine) (h0 : Pv 0 [] H) (hl : ∀ i ys H, Pv i ys H → ys.length ≤ i)
    (hq : ∀ i ys H, Pv i ys H → SqL K H a xs)
    (hs : ∀ i ys H x, xs[i]? = some x → Pv i ys H → g x (subSt sub σ) H fun σ2 H2 => KeepSt (subSt sub σ) σ2 ∧ tt σ2 H2 fun b H3 => if b = true then te σ2 H3 fun y H4 => Pv (i + 1) (ys ++ [y]) H4 else Pv (i + 1) ys H3)
    (hd : ∀ ys H, Pv xs.length ys H → ∀ D, H D = none → Q (.ref D) (upd H D (.lst ys))) : CompR sub g tt te σ Q (Itl K a) H :=
  comp_by (n := xs.length) Pv hn h0 hl (fun i ys H hi p => ⟨xs, xs[i], hq i ys H p, List.getElem?_eq_getElem hi⟩) (fun ys H p => ⟨xs, hq _ ys H p, Nat.le_refl _⟩) (fun i ys H x H' hi p y => by
    obtain ⟨e1, e2⟩ := y
    subst e1
    exact hs i ys _ x (e2 xs (hq i ys _ p)) p) hd
end L2

namespace L2
open PySem PySem.Spec PyProof.Rows
structure JE (X : Cx) (e : Expr) (t : TE) : Prop where
  run : PE X e t
structure JT (X : Cx) (e : Expr) (t : TT) : Prop where
  run : PT X e t
structure JW (X : Cx) (e : Expr) (t : TT) : Prop where
  run : PW X e t
structure JA (X : Cx) (es : List Expr) (t : TA) : Prop where
  run : PA X es t
structure JS (X : Cx) (s : Stmt) (t : TS) : Prop where
  run : PS X s t
structure JB (X : Cx) (s : List Stmt) (t : TS) : Prop where
  run : PSs X s t
structure JI (X : Cx) (tg iter : Expr) (t : TI) : Prop where
  run : PI X tg iter t
structure JG (X : Cx) (tg : Expr) (t : TG) : Prop where
  run : PG X tg t
structure JGs (X : Cx) (tg : List Expr) (t : TGs) : Prop where
  run : PGs X tg t
structure JO (X : Cx) (e : Option Expr) (t : TO) : Prop where
  run : PO X e t
structure JPs (X : Cx) (pos : Pos) (keys : List (Option Expr)) (values : List Expr) (t : List (TE × TE)) : Prop where
  run : PPs X pos keys values t
structure JIfs (X : Cx) (ifs : List Expr) (t : TT) : Prop where
  run : PIfs X ifs t
section
variable {X : Cx} {K : PySem.W.Frag} {sc scope : Scope} {N' : List Str} {C : Addr} {s₀ : Shared} {H₀ : Hp} {ex : List Addr} {x : Str} {pos p p2 pos' apos cpos tpos : Pos} {a b c e o : Expr} {es : List Expr} {ta tb tc te to ti : TE} {t : TA} {tA tB' tt : TT} {rest : List Expr}
theorem j_vL (i : Nat) (h : sc.names.lookup x = some .local) (hN : autoParam (X.N[i]? = some x) L2.auto4._auto_1) (hsc : autoParam (X.env.scope = sc) L2.auto4._auto_1) (hd : autoParam ((x == ("__debug__" : Str)) = false) L2.auto6._auto_1) (hcd : autoParam ((x == ("__classdict__" : Str)) = false) L2.auto6._auto_1) : JE X (.Name x pos) (tVar i) := ⟨pvL i h hN hsc hd hcd⟩
theorem j_vC (i : Nat) (h : sc.names.lookup x = some .cell) (hN : autoParam (X.N[i]? = some x) L2.auto4._auto_1) (hsc : autoParam (X.env.scope = sc) L2.auto4._auto_1) (hd : autoParam ((x == ("__debug__" : Str)) = false) L2.auto6._auto_1) (hcd : autoParam ((x == ("__classdict__" : Str)) = false) L2.auto6._auto_1) : JE X (.Name x pos) (tVar i) := ⟨pvC i h hN hsc hd hcd⟩
theorem j_vBL (i : Nat) (h : scope.names.lookup x = some .local) (hN : autoParam (N'[i]? = some x) L2.auto4._auto_1) (hd : autoParam ((x == ("__debug__" : Str)) = false) L2.auto6._auto_1) (hcd : autoParam ((x == ("__classdict__" : Str)) = false) L2.auto6._auto_1) : JE (cxC X N' scope C s₀ H₀ ex) (.Name x pos) (tVar i) := ⟨pvBL i h hN hd hcd⟩
theorem j_vBF (i : Nat) (h : scope.names.lookup x = some .free) (hN : autoParam (N'[i]? = some x) L2.auto4._auto_1) (hd : autoParam ((x == ("__debug__" : Str)) = false) L2.auto6._auto_1) (hcd : autoParam ((x == ("__classdict__" : Str)) = false) L2.auto6._auto_1) : JE (cxC X N' scope C s₀ H₀ ex) (.Name x pos) (tVar i) := ⟨pvBF i h hN hd hcd⟩
theorem j_int {i j} : JE X (.Constant (.int i) j pos) (tC (.int i)) := ⟨pe_int⟩
theorem j_bl {i j} : JE X (.Constant (.bool i) j pos) (tC (.bl i)) := ⟨pe_bl⟩
theorem j_gint {z : Int} (hg : Gl X x) (hm : ∃ t, X.mg x = some (.int z t)) (hd : (x == ("__debug__" : Str)) = false) : JE X (.Name x pos) (tC (.int z)) := ⟨glob_int hg hm hd⟩
theorem j_ty {T : String} (hg : Gl X x) (hm : X.mg x = none) (hv : bootBuiltins x = some (.type T)) (hn : x ≠ "__name__") (hd : (x == ("__debug__" : Str)) = false) : JE X (.Name x pos) (tC (.ty T)) := ⟨pe_ty hg hm hv hn hd⟩
theorem j_op {op : Operator} {r : R2} (ho : OpR X (binaryOp op) r) (ha : JE X a ta) (hb : JE X b tb) : JE X (.BinOp a op b pos) (tOp r ta tb) := ⟨pe_op ho ha.run hb.run⟩
theorem j_un {op : UnaryOp} {r : V → Hp → VK → Prop} (ho : UnR X (unaryOp op) r) (ha : JE X a ta) : JE X (.UnaryOp op a pos) (tUn r ta) := ⟨pe_un ho ha.run⟩
theorem j_cmp {op : CmpOp} {r : R2} (ho : OpR X (compareOp op) r) (ha : JE X a ta) (hb : JE X b tb) (hm : behindInMarks op b = false) : JE X (.Compare a [op] [b] pos) (tOp r ta tb) := ⟨pe_cmpR ho ha.run hb.run hm⟩
theorem jt_cmp {op : CmpOp} {r : R2} (ho : OpR X (compareOp op) r) (ha : JE X a ta) (hb : JE X b tb) (hm : behindInMarks op b = false) : JT X (.Compare a [op] [b] pos) (tTest (tOp r ta tb)) := ⟨pt_cmpR ho ha.run hb.run hm⟩
theorem jw_and1 (ha : JT X a tA) : JW X (.BoolOp .And [a] pos) tA := ⟨pw_and1 ha.run⟩
theorem jw_or1 (ha : JT X a tA) : JW X (.BoolOp .Or [a] pos) tA := ⟨pw_or1 ha.run⟩
theorem jw_and (ha : JT X a tA) (hb : JW X (.BoolOp .And (b :: rest) pos) tB') : JW X (.BoolOp .And (a :: b :: rest) pos) (tAnd tA tB') := ⟨pw_and ha.run hb.run⟩
theorem jw_or (ha : JT X a tA) (hb : JW X (.BoolOp .Or (b :: rest) pos) tB') : JW X (.BoolOp .Or (a :: b :: rest) pos) (tOr tA tB') := ⟨pw_or ha.run hb.run⟩
theorem jw_pt (h : JW X e tt) : JT X e tt := ⟨h.run.pt⟩
theorem jt_not (ha : JT X a tA) : JT X (.UnaryOp .Not a pos) (tNot tA) := ⟨pt_not ha.run⟩
noncomputable def plainT : Expr → Bool
  | .BoolOp .. => false | .UnaryOp .. => false | .Compare .. => false | .IfExp .. => false | _ => true
theorem jt_val (h : JE X e te) (hp : autoParam (plainT e = true) L2.auto4._auto_1) : JT X e (tB te) := ⟨pt_val h.run (by
  intro whole
  cases e <;> first | rfl | cases hp)⟩
theorem j_one {op} (h : JE X a te) : JE X (.BoolOp op [a] pos) te := ⟨pe_one h.run⟩
theorem j_and (ha : JE X a ta) (hb : JE X (.BoolOp .And (b :: rest) pos) tb) : JE X (.BoolOp .And (a :: b :: rest) pos) (tAndV ta tb) := ⟨pe_and ha.run hb.run⟩
theorem j_not (ha : JE X a ta) : JE X (.UnaryOp .Not a pos) (tNotV ta) := ⟨pe_not ha.run⟩
theorem j_tup {x1} (h : JA X es t) : JE X (.Tuple es x1 pos) (tTup t) := ⟨pe_tup h.run⟩
theorem j_lst (h : JA X es t) : JE X (.List es pos) (tLst t) := ⟨pe_lst h.run⟩
theorem ja_nil : JA X [] tNil := ⟨pa_nil⟩
theorem ja_cons (ha : JE X e te) (hr : JA X es t) (h : autoParam (notStar e = true) L2.auto4._auto_1) : JA X (e :: es) (tCons te t) := ⟨paC ha.run hr.run h⟩
theorem jo_none : JO X none tNoPart := ⟨po_none⟩
theorem jo_some (h : JE X e te) : JO X (some e) (tPart te) := ⟨po_some h.run⟩
theorem j_slice {r : V → Option Int → Option Int → Hp → VK → Prop} {lo hi : Option Expr} {tl th : TO} (hr : SlR X r) (he : JE X e te) (hl : JO X lo tl) (hu : JO X hi th) : JE X (.Subscript e (.Slice lo hi none p2) pos) (tSl r te tl th) := ⟨pe_slice hr he.run hl.run hu.run⟩
theorem j_ix (hK : X.K = K) (ha : JE X a ta) (hb : JE X b tb) (h : autoParam (notSlice b = true) L2.auto4._auto_1) : JE X (.Subscript a b pos) (tOp (rIx K) ta tb) := ⟨ixE hK ha.run hb.run h⟩
theorem j_call {k : Nat} {ps : List Str} {sp : Sp} (F : Has X.prog X.w X.K X.mg X.base k x ps sp) (hr : Room k X.A) (hg : Gl X x) (ha : JA X (e :: es) t) (hdb : (x == ("__debug__" : Str)) = false) (h : autoParam ((e :: es).all notStar = true) L2.auto4._auto_1) :
    JE X (.Call (.Name x p) (e :: es) [] pos) (tCall sp [] E0 t) := ⟨callH F hr hg ha.run hdb h⟩
theorem j_callB {id : String} {r : List V → Hp → VK → Prop} (hc : CallR X (.builtin id) r) (hg : Gl X x) (hm : X.mg x = none) (hv : bootBuiltins x = some (.builtin id)) (ha : JA X (e :: es) t) (hn : x ≠ "__name__") (hdb : (x == ("__debug__" : Str)) = false) (h : autoParam ((e :: es).all notStar = true) L2.auto4._auto_1) :
    JE X (.Call (.Name x p) (e :: es) [] pos) (tCB r t) := ⟨callB hc hg hm hv ha.run hn hdb h⟩
theorem j_callTy {T : String} {r : List V → Hp → VK → Prop} (hc : CallR X (.type T) r) (hg : Gl X x) (hm : X.mg x = none) (hv : bootBuiltins x = some (.type T)) (ha : JA X (e :: es) t) (hn : x ≠ "__name__") (hdb : (x == ("__debug__" : Str)) = false) (h : autoParam ((e :: es).all notStar = true) L2.auto4._auto_1) :
    JE X (.Call (.Name x p) (e :: es) [] pos) (tCB r t) := ⟨callTy hc hg hm hv ha.run hn hdb h⟩
theorem j_meth {name : Str} {T id : String} {r : V → List V → Hp → VK → Prop} (hK : X.K = K) (pa : PlainAttrs T) (slot : Slot T name id) (hty : typeOf (.builtin id) = pure (.type "method_descriptor")) (hm : MtR X id r) (ho : JE X o to) (ha : JA X (e :: es) t)
    (hbase : autoParam (notCall o = true) L2.auto4._auto_1) (hl : autoParam (es.length < 20) L2.auto2._auto_1) (hline : autoParam ((apos.endLine == cpos.line) = true) L2.auto4._auto_1) (h : autoParam ((e :: es).all notStar = true) L2.auto4._auto_1) : JE X (.Call (.Attribute o name apos) (e :: es) [] cpos) (tBM K T r to t) := ⟨methK hK pa slot hty hm ho.run ha.run hbase hl hline h⟩
theorem j_meth0 {name : Str} {T id : String} {r : V → List V → Hp → VK → Prop} (hK : X.K = K) (pa : PlainAttrs T) (slot : Slot T name id) (hty : typeOf (.builtin id) = pure (.type "method_descriptor")) (hm : MtR X id r) (ho : JE X o to)
    (hbase : autoParam (notCall o = true) L2.auto4._auto_1) (hline : autoParam ((apos.endLine == cpos.line) = true) L2.auto4._auto_1) : JE X (.Call (.Attribute o name apos) [] [] cpos) (tBM0 K T r to) := ⟨meth0K hK pa slot hty hm ho.run hbase hline⟩
theorem jif_nil : JIfs X [] tTrue := ⟨pifs_nil⟩
theorem jif_one (hc : JT X c tt) : JIfs X [c] tt := ⟨pifs_one hc.run⟩
variable {tg iter elt : Expr} {ifs : List Expr} {sub : List (Option Nat)} {wi : TI} {g : TG} {N : List Str}
theorem ji_range1 {ta : TA} (hg : Gl X "range") (hm : X.mg "range" = none) (ha : JA X [a] ta) (h : autoParam (notStar a = true) L2.auto4._auto_1) : JI X tg (.Call (.Name "range" p) [a] [] pos) (iRng1 ta) := ⟨pi_range1 hg hm ha.run (se_cons h)⟩
theorem ji_range2 {ta : TA} (hg : Gl X "range") (hm : X.mg "range" = none) (ha : JA X [a, b] ta) (h : autoParam (notStar a = true) L2.auto4._auto_1) (h2 : autoParam (notStar b = true) L2.auto4._auto_1) : JI X tg (.Call (.Name "range" p) [a, b] [] pos) (iRng2 ta) := ⟨pi_range2 hg hm ha.run (by rw [se_cons h, se_cons h2]; rfl) (by rw [se_cons h2]; rfl)⟩
theorem ji_seq (hK : X.K = K) (hl : JE X e te) : JI X tg e (iSeq K te) := ⟨pi_seqK hK hl.run⟩
theorem jg_name {i : Nat} (hN : X.N.Nodup) (hi : X.N[i]? = some x) (hx : Loc X.env.scope x) (hf : X.fn x = true) : JG X (.Name x pos) (gName i) := ⟨pg_name hN hi hx (.inl hf)⟩
theorem jg_B (i : Nat) (h : scope.names.lookup x = some .local) (hN : N'.Nodup) (hi : autoParam (N'[i]? = some x) L2.auto4._auto_1) : JG (cxC X N' scope C s₀ H₀ ex) (.Name x pos) (gName i) := ⟨pgB i h hN hi⟩
theorem jgs_nil : JGs X [] gNil := ⟨pgs_nil⟩
theorem jgs_cons {gs : TGs} (h1 : JG X e g) (h2 : JGs X es gs) (hs : autoParam ((assignEach (e :: es) X.env).map (·.2) = assign e X.env :: (assignEach es X.env).map (·.2)) L2.auto4._auto_1) : JGs X (e :: es) (gCons g gs) := ⟨pgs_cons h1.run h2.run hs⟩
theorem jg_tup {ts : List Expr} {k : Nat} {gs : TGs} {n : Nat} (hK : X.K = K) (hc : X.calm = true) (h : JGs X ts gs) (hn : autoParam ((assignEach ts X.env).length = n) L2.auto4._auto_1) (hst : autoParam ((assignEach ts X.env).findIdx? (·.1) = none) L2.auto4._auto_1) : JG X (.Tuple ts k pos) (gTup K n gs) := ⟨pg_tupK hK hc h.run hn hst⟩
theorem jg_sub {ts : TSet} (ho : JE X a ta) (hi : JE X b tb) (hs : PSet X ts) (h : autoParam (notSlice b = true) L2.auto4._auto_1) : JG X (.Subscript a b pos) (gSub ta tb ts) := ⟨pg_sub ho.run hi.run hs (by
  intro v
  cases b <;> first | rfl | cases h)⟩
theorem j_comp (S : SubOk N sc N' scope sub) (hc : X.calm = true) (hN : X.N = N) (hsc : X.env.scope = sc) (hi : JI X tg iter wi)
    (hg : ∀ (C : Addr) (s₀ : Shared) (H₀ : Hp) (ex : List Addr), JG (cxC X N' scope C s₀ H₀ ex) tg g)
    (ht : ∀ (C : Addr) (s₀ : Shared) (H₀ : Hp) (ex : List Addr), JIfs (cxC X N' scope C s₀ H₀ ex) ifs tt)
    (he : ∀ (C : Addr) (s₀ : Shared) (H₀ : Hp) (ex : List Addr), JE (cxC X N' scope C s₀ H₀ ex) elt te) (h : autoParam (notSet iter = true) L2.auto4._auto_1) :
    JE X (.ListComp elt [⟨tg, iter, ifs, 0⟩] scope pos) (tComp sub wi g tt te) := ⟨compE S hc hN hsc hi.run (fun C s₀ H₀ ex => (hg C s₀ H₀ ex).run) (fun C s₀ H₀ ex => (ht C s₀ H₀ ex).run) (fun C s₀ H₀ ex => (he C s₀ H₀ ex).run) h⟩
variable {st : Stmt} {sts : List Stmt} {u v : TS}
theorem js_set {i : Nat} (hN : X.N.Nodup) (hi : X.N[i]? = some x) (hx : Loc X.env.scope x) (he : JE X e te) (hf : X.fn x = true) (h : autoParam (notComp e = true) L2.auto4._auto_1) : JS X (.Assign [.Name x pos'] e pos) (tAsg te (gName i)) := ⟨psSet hN hi hx he.run hf h⟩
theorem js_asgS {ts : TSet} (he : JE X e te) (hg : JG X (.Subscript a b pos') g) (h : autoParam (notComp e = true) L2.auto4._auto_1) : JS X (.Assign [.Subscript a b pos'] e pos) (tAsg te g) := ⟨ps_asg he.run hg.run (by show swapsWith e (some (.Subscript a b pos')) pos.line X.env = pure false; exact sw_no h) (by cases e <;> rfl) rfl⟩
theorem js_ret (he : JE X e te) : JS X (.Return (some e) pos) (tRet te) := ⟨ps_ret he.run⟩
theorem js_expr (he : JE X e te) (h : autoParam (notComp e = true) L2.auto4._auto_1) : JS X (.Expr e pos) (tDrop te) := ⟨psExpr he.run h⟩
theorem js_if {sa sb : List Stmt} (hc : JT X c tt) (ha : JB X sa u) (hb : JB X sb v) : JS X (.If c sa sb pos) (tIfS tt u v) := ⟨ps_if hc.run ha.run hb.run⟩
theorem js_for {body : List Stmt} (hp : PassesOwn (model X.prog X.w) X.A X.env X.xe) (hc : X.calm = true) (hi : JI X tg iter wi) (hg : JG X tg g) (hb : JB X body u) (h : autoParam (notSet iter = true) L2.auto4._auto_1) : JS X (.For tg iter body [] pos) (tFor wi g u) := ⟨psFor hp hc hi.run hg.run hb.run h⟩
theorem js_while {body : List Stmt} (hp : PassesOwn (model X.prog X.w) X.A X.env X.xe) (hc : JT X c tt) (hb : JB X body u) : JS X (.While c body [] pos) (tWhile tt u) := ⟨ps_while hp hc.run hb.run⟩
theorem jb_nil : JB X [] tNext := ⟨pss_nil⟩
theorem jb_one (h : JS X st u) : JB X [st] u := ⟨pss_one h.run⟩
theorem jb_cons (h : JS X st u) (h2 : JB X sts v) : JB X (st :: sts) (tSeq u v) := ⟨pss_cons h.run h2.run⟩
end
section
variable {P : Program} {w : World} {K : PySem.W.Frag} {mg : Str → Option Value} {base : Heap}
theorem hasJ {x : Str} {st : Stmt} {N ps : List Str} {k : Nat} {sp : Sp} (D : Def K mg x st) (S : FnScope N ps (defScope st))
    (hb : ∀ (kV doc pm : Value) (an : Option Addr) (cdv ct : Value) (us : List Value), us.length = ps.length → bindArgs (PySem.W.fnOf x x (defArgs st) (defBody st) (defScope st) .none kV doc pm an cdv ct) ⟨us, []⟩ = pure (ps.zip us))
    (len : ∀ vs H Q E, sp vs H Q E → vs.length = ps.length)
    (hbody : ∀ (f : Addr) (cdv : Value) (A : Around) (outer : List Env) (s : Shared) (H : Hp) (vs : List V) (Q : VK) (E : XK), Room k (A.deeper (envOfC x (defScope st) s.heap.objs.size f cdv)) → sp vs H Q E →
      ∃ t, JB (cxOf CX0 P w K mg base N x (defScope st) f cdv A outer s H E).nox (defBody st) t ∧ t { nx := fun _ H' => Q .non H', rt := Q } (start N vs) H) : Has P w K mg base (k + 1) x ps sp :=
  has_of D S hb len fun f cdv A outer s H vs Q E hr h => let ⟨t, j, q⟩ := hbody f cdv A outer s H vs Q E hr h; ⟨t, j.run, q⟩
theorem okJ {x : Str} {st : Stmt} {N ps : List Str} {k : Nat} {sp : Sp} {f : Addr} {fd : FuncData} (F : Fun K x x st f fd) (S : FnScope N ps (defScope st)) (len : ∀ vs H Q E, sp vs H Q E → vs.length = ps.length)
    (hbody : ∀ (f : Addr) (cdv : Value) (A : Around) (outer : List Env) (s : Shared) (H : Hp) (vs : List V) (Q : VK) (E : XK), Room k (A.deeper (envOfC x (defScope st) s.heap.objs.size f cdv)) → sp vs H Q E →
      ∃ t, JB (cxOf CX0 P w K mg base N x (defScope st) f cdv A outer s H E).nox (defBody st) t ∧ t { nx := fun _ H' => Q .non H', rt := Q } (start N vs) H) : FnOk P w K mg base CX0 (k + 1) f fd ps sp :=
  F.ok S len fun cdv A outer s H vs Q E hr h => let ⟨t, j, q⟩ := hbody f cdv A outer s H vs Q E hr h; ⟨t, j.run, q⟩
end
theorem const_mk {K : PySem.W.Frag} {mg : Str → Option Value} {h : Heap} (X : K.In h) (G : h.Ns mainGlobals mg) {x : Str} {v : Value} {f : Tok → Value} (a : PySem.W.nsIn K mainGlobals x = some (some v)) (e : ∃ t, v = f t) : ∃ t, mg x = some (f t) := by
  obtain ⟨t, rfl⟩ := e
  exact ⟨t, PySem.W.mg_of X G a⟩
theorem walkJ {l : PySem.W.OpenLaw} {q : Program} {loose : List Str} {XP : (Str → Option Value) → Heap → Prop} {YP : World → Heap → Prop} {d : DefRec} {K : Params → PySem.W.Frag} {st : Stmt} {k : Nat} {sp : PySem.W.Frag → Sp} {x : Str}
    (hn : l.most = some 63) (hdf : d.params.defaults = []) (hdn : d.name = "law") (hk : Room k callerA) (hY : ∀ (w : World) (h : Heap), YP w h → (K w.params).In h)
    (hb : ∀ (kV doc pm : Value) (an : Option Addr) (cdv ct : Value) (us : List Value), us.length = [x].length → bindArgs (PySem.W.fnOf "law" "law" (defArgs st) (defBody st) (defScope st) .none kV doc pm an cdv ct) ⟨us, []⟩ = pure ([x].zip us))
    (F : ∀ (w : World) (mg : Str → Option Value) (h : Heap), (K w.params).In h → h.Ns mainGlobals mg → Def (K w.params) mg "law" st ∧ ∀ (base : Heap) (f : Addr) (fd : FuncData), Fun (K w.params) "law" "law" st f fd → FnOk l.prog w (K w.params) mg base CX0 k f fd [x] (sp (K w.params)))
    (hsp : ∀ (K : PySem.W.Frag) (H : Hp) (a : Addr) (ns : List Int), ns.length ≤ 63 → SqL K H a (ns.map V.int) → sp K [.ref a] H (fun v _ => v = .bl true) fun _ _ _ => False) (him : autoParam (importsNone q = true) L2.auto6._auto_1) :
    PySem.W.WalkO q loose XP YP l.row.toRowW d [] (fun f vs => PySem.call f vs) :=
  L2.walk_of (n := 63) (k := k) (x := x) (CX := fun _ => CX0) (sp := fun w => sp (K w.params)) hn (by decide) hdf hk hY (fun w mg fa h X G e => by
    obtain ⟨⟨f, fd, Fn, hm⟩, ok⟩ := F w mg h X G
    rw [hdn, hm] at e
    have ef : f = fa := by injection (Option.some.inj e)
    subst ef
    refine ⟨fd, fun s u => ?_, fun base _ _ => ok base f fd Fn⟩
    obtain ⟨oc, od, kV, doc, pm, an, cdv, ct, osl, rfl, lk, hcd⟩ := Fn.ex
    exact .of_eq (hb kV doc pm an cdv ct [u] rfl)) (fun w H a ns hl _ hS => hsp _ H a ns hl hS) (fun _ _ _ _ _ z => z) him
end L2

namespace L2
open PySem PySem.Spec PyProof.Rows
noncomputable def Itp (xs : Nat → List V) (n : Nat) : It := ⟨fun i _ => i < n, fun i H v H' => ∃ T, H T = none ∧ v = .ref T ∧ H' = upd H T (.tup (xs i)), fun i _ => i = n⟩
theorem turn_T {P : Program} {w : World} {K : PySem.W.Frag} {elts : List Expr} {k : Nat} {pos : Pos} {it : Addr} {fp wr : List Addr} {n : Nat} {xs : Nat → List V} {Pt : Nat → Array Value → Prop} {St : Nat → Heap → Prop} {Mid : Nat → Addr → Heap → Prop}
    (W : ∀ A : Around, A.handled = none → WalksT P w A it fp wr n Pt St Mid) (hxs : ∀ i, (xs i).length ≤ sizeLine) (hPt : ∀ i vals, Pt i vals → Vals (xs i) vals.toList) (hmem : it ∈ fp)
    (hobj : ∀ i h, St i h → ∀ b ∈ fp, ∃ o, h.get? b = some o ∧ ∀ v, o.data ≠ .cell v)
    (hself : ∀ (A : Around) (i : Nat) (s : Shared) (Q : Value → Shared → Prop) (E : Value → Shared → Prop), St i s.heap → Q (.ref it) s → wpAny (model P w) A (pyIter (.ref it)) Q E s) :
    Turn P w K (.Tuple elts k pos) (Itp xs n) fp it St where
  mem := hmem
  obj := hobj
  keep := fun i h h' st kk => (W {} rfl).frame i h h' st kk
  item := by
    intro X hP hw hK hc i pins s σ H E I hf st hg
    subst hP hw hK
    have W' := W X.A (I.ok.hd hc)
    refine W'.item i s _ _ hg st fun T vals h' tk hPv hT isT mid kk => ?_
    refine ⟨.ref T, rfl, W'.go elts k pos i T _ _ _ mid fun h'' st'' kk2 => ?_⟩
    have hTn : H T = none := I.hok.fresh hT
    have hTw : T ∉ wr := W'.apart i T h' mid
    have kall : ∀ b o, b ∉ wr → s.heap.get? b = some o → h''.get? b = some o := fun b o hb e => kk2 b o hb (kk b o hb e)
    have nT : ∀ b o, s.heap.get? b = some o → b ≠ T := fun b o e => Nat.ne_of_lt (Nat.lt_of_lt_of_le (Heap.lt_size e) hT)
    have nTH : ∀ b u, H b = some u → b ≠ T := fun b u e z => by rw [z, hTn] at e; cases e
    have nW : ∀ b u, H b = some u → b ∉ wr := fun b u e hb => by rw [(hf b (W'.sub b hb)).1] at e; cases e
    have isT' : h''.IsTuple T vals := by
      obtain ⟨o, ho, r⟩ := isT
      exact ⟨o, kk2 T o hTw ho, r⟩
    have hlT : ∃ o, h''.get? T = some o := let ⟨o, ho, _⟩ := isT'; ⟨o, ho⟩
    have I' : Inv X pins σ (upd H T (.tup (xs i))) { s with heap := h'', toks := tk } := by
      refine I.step (g' := s.gens) (d' := s.drawn) (ch := wr) (fun b hb => ?_) (fun b o _ _ hc e _ => kall b o hc e) (fun b o _ _ hc e _ => ⟨o.slots, kall b o hc e⟩) (fun b o _ e hn => by rw [upd_ne (nT b o e)]; exact hn)
        (fun b o hc e => ⟨o, kall b o hc e⟩) (fun b ys e => by rw [upd_ne (nTH b _ e)]; exact e) (fun b o u e => by rw [upd_ne (nTH b _ e)]; exact e) (fun b ps e => ⟨#[], by rw [upd_ne (nTH b _ e), e]; simp⟩) (fun m hm => ?_) (fun b u e => ?_) I.bare
      · obtain ⟨f0, f1, f2, f3, f4, f5⟩ := hf b (W'.sub b hb)
        exact ⟨f3, f1, f4, f5⟩
      · obtain ⟨o, es, ep, ho, r⟩ := hm
        exact ⟨o, es, ep, kall _ o (fun hb => (hf _ (W'.sub _ hb)).2.1 rfl) ho, r⟩
      · by_cases hb : b = T
        · subst hb
          rw [upd_same] at e; cases e
          obtain ⟨o, ho, hcl, nn, hd⟩ := isT'
          exact ⟨hxs i, vals.toList, hPt i vals hPv, o, ho, hcl, nn, by simpa using hd⟩
        · rw [upd_ne hb] at e
          refine (I.hok b u e).stay (fun c v hc' q => kall c v ?_ q) (fun c q => by rw [upd_ne (nTH c _ q)]; exact q) fun c ys q => by rw [upd_ne (nTH c _ q)]; exact q
          rcases hc' with z | z
          · rw [z]; exact nW b u e
          · exact nW c _ z
    refine ⟨.ref T, upd H T (.tup (xs i)), I', rfl, ⟨T, hTn, rfl, rfl⟩, st'', fun b hb => ?_⟩
    obtain ⟨o, e, _⟩ := hobj i _ st b hb
    rw [upd_ne (nT b o e)]
    exact (hf b hb).1
  done := by
    intro X hP hw hK hc i pins s σ H E I hf st hg
    subst hP hw hK
    have W' := W X.A (I.ok.hd hc)
    have hg : i = n := hg
    subst hg
    refine W'.done s _ _ st fun h' tk kk => ⟨rfl, ?_⟩
    have nW : ∀ b u, H b = some u → b ∉ wr := fun b u e hb => by rw [(hf b (W'.sub b hb)).1] at e; cases e
    refine I.step (g' := s.gens) (d' := s.drawn) (ch := wr) (fun b hb => ?_) (fun b o _ _ hc e _ => kk b o hc e) (fun b o _ _ hc e _ => ⟨o.slots, kk b o hc e⟩) (fun b o _ e hn => hn)
        (fun b o hc e => ⟨o, kk b o hc e⟩) (fun b ys e => e) (fun b o u e => e) (fun b ps e => ⟨#[], by rw [e]; simp⟩) (fun m hm => ?_) (fun b u e => ?_) I.bare
    · obtain ⟨f0, f1, f2, f3, f4, f5⟩ := hf b (W'.sub b hb)
      exact ⟨f3, f1, f4, f5⟩
    · obtain ⟨o, es, ep, ho, r⟩ := hm
      exact ⟨o, es, ep, kk _ o (fun hb => (hf _ (W'.sub _ hb)).2.1 rfl) ho, r⟩
    · refine (I.hok b u e).stay (fun c v hc' q => kk c v ?_ q) (fun c q => q) fun c ys q => q
      rcases hc' with z | z
      · rw [z]; exact nW b u e
      · exact nW c _ z
  self := hself
noncomputable def enumS (x : Str) (i : Nat) : List V := [.int i, .str ⟨#[x.cps.getD i 0]⟩]
end L2

namespace L2
open PySem PySem.Spec PyProof.Rows
section
variable {prog : Program} {w : World} {A : Around} {E : Value → Shared → Prop} {s : Shared}
theorem draw_listU {it l : Addr} {items : Array Value} (hne : l ≠ it) : ∀ (n i : Nat) (s : Shared) (Q : List Value → Shared → Prop), s.heap.IsListIter it l i → s.heap.IsList l items → i + n ≤ items.size →
    (∀ h', h'.IsListIter it l (i + n) → Heap.SameBut it s.heap h' → Q ((items.toList.drop i).take n) { s with heap := h' }) → wpAny (model prog w) A (draw (.ref it) n) Q E s
  | 0, i, s, Q, hit, _, _, hQ => by
    show wpAny _ _ (pure []) Q E s
    exact wpAny_pure (by simpa using hQ s.heap hit (Heap.SameBut.refl ..))
  | n + 1, i, s, Q, hit, ht, hle, hQ => by
    have hlt : i < items.size := by omega
    show wpAny _ _ (pyNext (.ref it) >>= _) Q E s
    refine wpAny_bind (wpAny_pyNext_list_item hit ht (x := items[i]) (by simp [hlt]) fun h₁ hit₁ hs₁ => ?_)
    refine wpAny_bind (wpAny_holding (draw_listU hne n (i + 1) _ _ hit₁ (ht.extBut hs₁.extBut hne) (by omega) fun h₂ hit₂ hs₂ => wpAny_pure ?_))
    have hd : items.toList.drop i = items[i] :: items.toList.drop (i + 1) := by simp [List.drop_eq_getElem_cons, hlt]
    have := hQ h₂ (by rw [show i + (n + 1) = i + 1 + n by omega]; exact hit₂) (hs₁.trans hs₂)
    rw [hd, List.take_succ_cons] at this
    exact this
theorem unpackItems_listU {l : Addr} {items : Array Value} {Q : List Value → Shared → Prop} (hh : A.handled = none) (ht : s.heap.IsList l items)
    (hQ : ∀ h', Heap.ExtBut s.heap.objs.size s.heap h' → Q items.toList { s with heap := h' }) : wpAny (model prog w) A (unpackItems (.ref l) items.size none) Q E s := by
  have hlt : l ≠ s.heap.objs.size := by obtain ⟨o, ho, _⟩ := ht; exact Nat.ne_of_lt (Heap.lt_size ho)
  unfold unpackItems
  refine wpAny_bind ?_
  · unfold notIterableAtAll
    refine wpAny_bind (wpAny_specialOf ht.typeIs slot_list_iter.lookup ?_)
    refine wpAny_pure ?_
    simp only [Bool.false_eq_true, if_false]
    refine wpAny_bind (wpAny_holding (wpAny_pyIter_list ht ?_))
    refine wpAny_bind (wpAny_holding (draw_listU hlt items.size 0 _ _ ⟨_, Heap.get?_push_size _ rfl, rfl, rfl⟩ (let ⟨o, ho, r⟩ := ht; ⟨o, Heap.get?_push_of_some _ ho, r⟩) (by omega) fun h₁ hit₁ hs₁ => ?_))
    have hall : List.take items.size (List.drop 0 items.toList) = items.toList := by
      rw [List.drop_zero]; exact List.take_of_length_le (by simp)
    rw [hall]
    rw [if_neg (by simp)]
    have ht₁ : h₁.IsList l items := by
      have : (s.heap.push { cls := .type "list_iterator", data := .fields #[.ref l, .int 0 0] }).IsList l items := let ⟨o, ho, r⟩ := ht; ⟨o, Heap.get?_push_of_some _ ho, r⟩
      exact this.extBut hs₁.extBut hlt
    refine wpAny_bind (wpAny_holding (wpAny_pyNext_list_end hh hit₁ ht₁ (by simp) fun h₂ he₂ => ?_))
    simp only [Option.isSome_none, Bool.false_eq_true, if_false]
    refine wpAny_pure (hQ h₂ fun b o hb e => he₂ b o hb (hs₁.extBut b o hb (Heap.get?_push_of_some _ e)))
theorem assign_Tuple_listU {env : Env} {elts : List Expr} {x1} {pos : Pos} {l : Addr} {items : Array Value} {Q : Unit → Shared → Prop} (hh : A.handled = none) (ht : s.heap.IsList l items)
    (hn : (assignEach elts env).length = items.size) (hstar : (assignEach elts env).findIdx? (·.1) = none)
    (h : ∀ h', Heap.ExtBut s.heap.objs.size s.heap h' → wpAny (model prog w) A (assignInOrder ((assignEach elts env).map (·.2)) items.toList) Q E { s with heap := h' }) :
    wpAny (model prog w) A (assign (.Tuple elts x1 pos) env (.ref l)) Q E s := by
  rw [assign_Tuple]
  refine wpAny_bind (wpAny_standAt ?_)
  unfold unpack
  rw [hn, hstar]
  exact wpAny_bind (wpAny_holding (unpackItems_listU hh ht h))
end
noncomputable def gSeqT (K : PySem.W.Frag) (n : Nat) (t : TGs) : TG := fun v σ H Q => ∃ a xs, v = .ref a ∧ (SqT K H a xs ∨ SqL K H a xs) ∧ xs.length = n ∧ t xs σ H Q
theorem jg_seqT {X : Cx} {K : PySem.W.Frag} {ts : List Expr} {k : Nat} {gs : TGs} {n : Nat} {pos : Pos} (hK : X.K = K) (hc : X.calm = true) (h : JGs X ts gs) (hn : autoParam ((assignEach ts X.env).length = n) L2.auto4._auto_1) (hst : autoParam ((assignEach ts X.env).findIdx? (·.1) = none) L2.auto4._auto_1) : JG X (.Tuple ts k pos) (gSeqT K n gs) := ⟨by
  subst hK
  intro pins s σ H v u Q I r hw
  obtain ⟨a, xs, e1, hq, hl, hw⟩ := hw
  subst e1
  cases r
  rcases hq with hq | hq
  · exact (pg_tup hc h.run hn hst) pins s σ H (.ref a) (.ref a) Q I (show RelV (.ref a) (Value.ref a) from rfl) ⟨a, xs, rfl, hq, hl, hw⟩
  · obtain ⟨its, rv, ht, hz⟩ := I.list hq
    refine assign_Tuple_listU (I.ok.hd hc) ht.isList (by simp [hn, ← hl, rv.length]) hst fun h' hx => ?_
    have I1 : Inv X pins σ H { s with heap := h' } := I.kept (t' := s.toks) fun b o e => hx b o (Nat.ne_of_lt (Heap.lt_size e)) e
    exact h.run pins _ σ H xs _ Q I1 (by simpa using rv) hw⟩
theorem js_asgT {X : Cx} {ts : List Expr} {k : Nat} {e : Expr} {te : TE} {g : TG} {pos pos' : Pos} (he : JE X e te) (hg : JG X (.Tuple ts k pos') g) (h : autoParam (notComp e = true) L2.auto4._auto_1) (h2 : autoParam ((match e with | .Tuple .. => false | _ => true) = true) L2.auto4._auto_1) : JS X (.Assign [.Tuple ts k pos'] e pos) (tAsg te g) :=
  ⟨ps_asg he.run hg.run (by show swapsWith e (some (.Tuple ts k pos')) pos.line X.env = pure false; exact sw_no h) (by cases e <;> first | rfl | cases h2) rfl⟩
noncomputable def rNeA (K : PySem.W.Frag) : R2 := fun x y H Q => rNe x y H Q ∨ ∃ (a b : Addr) (ns ms : List Int), x = .ref a ∧ y = .ref b ∧ SqL K H a (ns.map V.int) ∧ SqL K H b (ms.map V.int) ∧ Q (.bl (!decide (ns = ms))) H
theorem op_neK {X : Cx} {K : PySem.W.Frag} (hK : X.K = K) (hu : X.A.units + 64 < cLine) : OpR X (compareOp .NotEq) (rNeA K) := by
  subst hK
  intro pins s σ H x y v u Q I rx ry h
  rcases h with h | ⟨a, b, ns, ms, rfl, rfl, ha, hb, q⟩
  · exact op_ne pins s σ H x y v u Q I rx ry h
  · cases rx
    cases ry
    obtain ⟨its, r1, p1, z1⟩ := I.list ha
    obtain ⟨jts, r2, p2, z2⟩ := I.list hb
    exact PySem.W.ne_intsK p1.isList (intsAre_of r1) p2.isList (intsAre_of r2) hu ⟨.bl _, H, I, rfl, q⟩
section
variable {H : Hp} {Q : VK} {K : PySem.W.Frag} {σ : St}
theorem r_gtup {n : Nat} {gs : TGs} {p : Addr} {xs : List V} {R : St → Hp → Prop} (s : SqT K H p xs) (hl : xs.length = n) (h : gs xs σ H R) : gTup K n gs (.ref p) σ H R := ⟨p, xs, rfl, s, hl, h⟩
theorem r_gseqL {n : Nat} {gs : TGs} {p : Addr} {xs : List V} {R : St → Hp → Prop} (s : SqL K H p xs) (hl : xs.length = n) (h : gs xs σ H R) : gSeqT K n gs (.ref p) σ H R := ⟨p, xs, rfl, .inr s, hl, h⟩
theorem r_gcons {t : TG} {u : TGs} {v : V} {vs : List V} {R : St → Hp → Prop} (h : t v σ H fun σ' H' => u vs σ' H' R) : gCons t u (v :: vs) σ H R := ⟨v, vs, rfl, h⟩
theorem r_gnil {R : St → Hp → Prop} (h : R σ H) : gNil [] σ H R := ⟨rfl, h⟩
theorem r_append {p : Addr} {xs : List V} {y : V} (hp : H p = some (.lst xs)) (c : xs.length < sizeLine) (h : Q .non (upd H p (.lst (xs ++ [y])))) : rAppend (.ref p) [y] H Q := ⟨p, xs, y, rfl, rfl, hp, c, h⟩
theorem r_u {f : Int → V} {i : Int} (h : Q (f i) H) : rU f (.int i) H Q := ⟨i, rfl, h⟩
theorem r_mulL {a : Addr} {xs : List V} {k : Int} (ha : H a = some (.lst xs)) (h0 : -(2 ^ 63) ≤ k) (h1 : k < 2 ^ 63) (hz : xs.length * k.toNat ≤ sizeLine) (h : ∀ p, H p = none → Q (.ref p) (upd H p (.lst (List.replicate k.toNat xs).flatten))) : rMulA (.ref a) (.int k) H Q :=
  .inr (.inr ⟨a, k, xs, rfl, rfl, ha, h0, h1, hz, h⟩)
end
end L2

namespace L2
open PySem PySem.Spec PyProof.Rows
section
variable {X : Cx} {tg iter elt : Expr} {ifs : List Expr} {scope : Scope} {pos : Pos} {N' : List Str} {sub : List (Option Nat)} {wi : TI} {g : TG} {tt : TT} {te : TE}
theorem comp_use {N : List Str} {sc : Scope} {use : Option (Value → Sem Unit)} {R : Value → Shared → Prop} {p0 : Pos} (S : SubOk N sc N' scope sub) (hc : X.calm = true) (hN : X.N = N) (hsc : X.env.scope = sc) (hi : PI X tg iter wi)
    (hg : ∀ (C : Addr) (s₀ : Shared) (H₀ : Hp) (ex : List Addr), PG (cxC X N' scope C s₀ H₀ ex) tg g)
    (ht : ∀ (C : Addr) (s₀ : Shared) (H₀ : Hp) (ex : List Addr), PIfs (cxC X N' scope C s₀ H₀ ex) ifs tt)
    (he : ∀ (C : Addr) (s₀ : Shared) (H₀ : Hp) (ex : List Addr), PE (cxC X N' scope C s₀ H₀ ex) elt te)
    (hs : ∀ x, foldedSetIterable iter X.env x = pure x) (pins : List (Addr × Obj)) (s : Shared) (σ : St) (H : Hp) (Q : VK) (I : Inv X pins σ H s) (h : tComp sub wi g tt te σ H Q)
    (hend : ∀ (D C : Addr) (s5 : Shared) (H5 : Hp) (m : Str → Option Value), Inv X pins σ H5 s5 → FpOk X pins H5 C → s5.heap.Ns C m → Q (.ref D) H5 → compPost (model X.prog X.w) X.A X.xe use R (.ref D) C (.ok .next) s5) :
    wpAny (model X.prog X.w) X.A (comprehension (.ListComp elt [⟨tg, iter, ifs, 0⟩] scope pos) scope X.env p0 (newList []) false (eval iter X.env) use) R X.xe s := by
  have hcl : ∀ x ∈ scope.names, x.2 = NameKind.free → ∃ c, X.env.cells.lookup x.1 = some c := fun x hx hk => I.ok.has x.1 (by have := S.free x hx hk; rw [← hsc] at this; exact this)
  refine wpAny_comprehension_free (use := use) rfl hs (closureFor_cl hcl) S.kind S.loc ?_
  refine thn (hi pins s σ H _ I h) fun v s1 h1 => thn h1 fun itv s2 h2 => ?_
  obtain ⟨it, fp, tn, J, H2, e, I2, T, st2, f2, W, ⟨m0, w0⟩, turn⟩ := h2
  subst e
  refine wpAny_newObj_type (wpAny_newFunctionEnv_cl fun h₁ hns₁ hk31 hcl₁ => ?_)
  dsimp only at hns₁ hk31 hcl₁ ⊢
  generalize hs3 : ({ s2 with heap := s2.heap.push { cls := .type "list", dict := none, data := .seq ([] : List Value).toArray } } : Shared) = s3
  have e3 : s2.heap.push { cls := .type "list", dict := none, data := .seq ([] : List Value).toArray } = s3.heap := by rw [← hs3]
  rw [e3] at hns₁ hk31 hcl₁ ⊢
  have hD3 : s3.heap.get? s2.heap.objs.size = some { cls := .type "list", dict := none, data := .seq ([] : List Value).toArray } := by rw [← e3]; exact Heap.get?_push_size _ rfl
  have I3 : Inv X pins σ H2 s3 := by
    rw [← hs3]
    exact I2.kept (t' := s2.toks) fun b o e => Heap.get?_push_of_some _ e
  have k23 : ∀ b o, s2.heap.get? b = some o → s3.heap.get? b = some o := fun b o e => by rw [← e3]; exact Heap.get?_push_of_some _ e
  have hsz : s3.heap.objs.size = s2.heap.objs.size + 1 := by rw [← e3, Heap.size_push]
  have hDn : H2 s2.heap.objs.size = none := I2.hok.fresh (Nat.le_refl _)
  have fD : FpOk X pins H2 s2.heap.objs.size := I2.fpOk (Nat.le_refl _) hDn
  have hfo : ∀ b ∈ fp, b < s2.heap.objs.size := fun b hb => let ⟨o, e, _⟩ := T.obj _ _ st2 b hb; Heap.lt_size e
  have hDfp : s2.heap.objs.size ∉ fp := fun z => absurd (hfo _ z) (Nat.lt_irrefl _)
  have I4 := inv_block (tk := s3.toks + ([] : List (Str × Value)).length) S hN hsc I3 f2 (fun b hb => by rw [hsz]; exact Nat.lt_succ_of_lt (hfo b hb)) (D := s2.heap.objs.size) (by rw [hsz]; exact Nat.lt_succ_self _) fD hns₁ hk31 hcl₁
  -- facts of the block
  have stat : ∀ {H' : Hp} {ob : Obj}, (∀ b ∈ fp, H' b = none) → ∀ b ∈ fp, FpOk (cxC X N' scope s3.heap.objs.size s3 H2 (s2.heap.objs.size :: fp)) [(s2.heap.objs.size, ob)] H' b := fun {H' ob} hn b hb => by
    obtain ⟨q1, q2⟩ := I4.ok.exf b (List.mem_cons_of_mem _ hb)
    refine ⟨hn b hb, q1, I4.ok.exfs b (List.mem_cons_of_mem _ hb), .inl (List.mem_cons_of_mem _ hb), q2, fun p hp z => ?_⟩
    have hp' : p = (s2.heap.objs.size, ob) := by simpa [cxC] using hp
    subst hp'
    have z' : s2.heap.objs.size = b := z
    exact hDfp (by rw [z']; exact hb)
  generalize hXC : cxC X N' scope s3.heap.objs.size s3 H2 (s2.heap.objs.size :: fp) = XC at I4 stat
  have eP : XC.prog = X.prog := by rw [← hXC]; rfl
  have eW : XC.w = X.w := by rw [← hXC]; rfl
  have eK : XC.K = X.K := by rw [← hXC]; rfl
  have eA : XC.A = X.A := by rw [← hXC]; rfl
  have eE : XC.env = compEnvC scope (clC X scope s3.heap.objs.size) s3.heap.objs.size X.env := by rw [← hXC]; rfl
  have eC : XC.calm = true := by rw [← hXC]; exact hc
  have eX : XC.xe = fun _ _ => False := by rw [← hXC]; rfl
  have eH : XC.H₀ = H2 := by rw [← hXC]; rfl
  have eS : XC.s₀ = s3 := by rw [← hXC]; rfl
  have eF : XC.fs = frs X.stack := by rw [← hXC]; rfl
  have eEx : XC.ex = s2.heap.objs.size :: fp := by rw [← hXC]; rfl
  have ePn : XC.pn = [] := by rw [← hXC]; rfl
  have hgC : PG XC tg g := by rw [← hXC]; exact hg _ _ _ _
  have htC : PIfs XC ifs tt := by rw [← hXC]; exact ht _ _ _ _
  have heC : PE XC elt te := by rw [← hXC]; exact he _ _ _ _
  have pinD : ∀ {σ' : St} {H' : Hp} {s' : Shared} {ob : Obj}, Inv XC [] σ' H' s' → H' s2.heap.objs.size = none → s'.heap.get? s2.heap.objs.size = some ob → (∀ v, ob.data ≠ .cell v) → Inv XC [(s2.heap.objs.size, ob)] σ' H' s' := fun {σ' H' s' ob} J hn hg hd =>
    J.pins_of fun p hp => by
      have hp' : p = (s2.heap.objs.size, ob) := by simpa using hp
      subst hp'
      refine ⟨hg, hn, (J.ok.exf _ (by rw [eEx]; exact List.mem_cons_self)).1, J.ok.exfs _ (by rw [eEx]; exact List.mem_cons_self), hd⟩
  have loop : codeAny (model X.prog X.w) X.A (.compLoop (.ListComp elt [⟨tg, iter, ifs, 0⟩] scope pos) 0 (.ref it) (.ref s2.heap.objs.size) (compEnvC scope (clC X scope s3.heap.objs.size) s3.heap.objs.size X.env))
      (compPost (model X.prog X.w) X.A X.xe use R (.ref s2.heap.objs.size) s3.heap.objs.size) { s3 with heap := h₁, toks := s3.toks + ([] : List (Str × Value)).length } := by
    refine comp_loop (fun n s' => ∃ (i : Nat) (ys : List V) (its : List Value) (nn : Nat) (H' : Hp), Inv XC [] (subSt sub σ) H' s' ∧ tn i s'.heap ∧ (∀ b ∈ fp, H' b = none) ∧ H' s2.heap.objs.size = none ∧
      s'.heap.get? s2.heap.objs.size = some { cls := .type "list", data := .seq its.toArray nn } ∧ Vals ys its ∧ W i n ys H') ?_ m0
      ⟨0, [], [], _, H2, I4, T.keep _ _ _ st2 fun b _ o e => hk31 b o (k23 b o e), fun b hb => (f2 b hb).1, hDn, hk31 _ _ hD3, .nil, w0⟩
    rintro n s4 ⟨i, ys, its, nn, H4, J4, st4, fr4, dn4, dg4, rv4, w4⟩
    have P4 := pinD J4 dn4 dg4 (fun v z => by cases z)
    rcases turn i n ys H4 w4 with ⟨stop, hyl, qn⟩ | ⟨go, hyl, N, hN, step⟩
    · have hdone := T.done XC eP eW eK eC i _ s4 _ H4 (fun _ _ => False) P4 (stat fr4) st4 stop
      rw [eA] at hdone
      refine wpAny_mono hdone (fun r s5 ⟨hr, I5⟩ => ?_) fun _ _ z => z
      subst hr
      -- the end
      obtain ⟨m, hn, _⟩ := id I5.loc
      have hCe : XC.env.locals = s3.heap.objs.size := by rw [eE]; rfl
      rw [hCe] at hn
      have hDg := (I5.pin (s2.heap.objs.size, _) (by rw [ePn]; exact List.mem_cons_self)).1
      have hDne : s2.heap.objs.size ≠ s3.heap.objs.size := by rw [hsz]; exact Nat.ne_of_lt (Nat.lt_succ_self _)
      have hHC : H4 s3.heap.objs.size = none := by have := I5.free; rw [hCe] at this; exact this
      have k56 : ∀ b o, b ≠ s3.heap.objs.size → s5.heap.get? b = some o → s5.heap.get? b = some o := fun b o hb e => e
      have un := I5.base
      rw [eF, eEx, eH, eS] at un
      have nC : ∀ b o, s3.heap.get? b = some o → b ≠ s3.heap.objs.size := fun b o e => Nat.ne_of_lt (Heap.lt_size e)
      have hok6 : HOk X.prog X.w (upd H4 s2.heap.objs.size (.lst ys)) s5.heap := by
        have h5 := I5.hok
        rw [eP, eW] at h5
        have trk : ∀ b u, H4 b = some u → b ≠ s3.heap.objs.size := fun b u e z => by rw [z, hHC] at e; cases e
        intro b u e
        by_cases hb : b = s2.heap.objs.size
        · subst hb
          rw [upd_same] at e; cases e
          exact ⟨hyl, its, nn, rv4, k56 _ _ hDne hDg⟩
        · rw [upd_ne hb] at e
          have nD : ∀ c u, H4 c = some u → c ≠ s2.heap.objs.size := fun c u e z => by rw [z, dn4] at e; cases e
          refine (h5 b u e).stay (fun c v hc' q => k56 c v ?_ q) (fun c q => by rw [upd_ne (nD c _ q)]; exact q) fun c xs q => by rw [upd_ne (nD c _ q)]; exact q
          rcases hc' with z | z
          · rw [z]; exact trk b u e
          · exact trk c _ z
      have nD2 : ∀ c u, H4 c = some u → c ≠ s2.heap.objs.size := fun c u e z => by rw [z, dn4] at e; cases e
      have un6 : Un (frs X.stack) (s2.heap.objs.size :: fp) H2 (upd H4 s2.heap.objs.size (.lst ys)) s3.heap s5.heap :=
        ⟨fun b o e nn' hb hx => k56 b o (nC b o e) (un.keep b o e nn' hb hx), fun b o e nn' hb hx => let ⟨sl, q⟩ := un.slot b o e nn' hb hx; ⟨sl, k56 b _ (nC b o e) q⟩,
          fun b o e nn' hx => by rw [upd_ne (fun z => hx (by rw [z]; exact List.mem_cons_self))]; exact un.free b o e nn' hx,
          fun b o e hx => let ⟨o', q⟩ := un.there b o e hx; ⟨o', k56 b o' (nC b o e) q⟩,
          fun b xs e => by have q := un.tups b xs e; rw [upd_ne (nD2 b _ q)]; exact q,
          fun b o u e => by have q := un.frzs b o u e; rw [upd_ne (nD2 b _ q)]; exact q,
          fun b ps e => let ⟨more, q⟩ := un.tbls b ps e; ⟨more, by rw [upd_ne (nD2 b _ q)]; exact q⟩⟩
      have I6 : Inv X pins σ (upd H4 s2.heap.objs.size (.lst ys)) s5 := by
        refine I3.call' (s' := s5) (ch := s2.heap.objs.size :: fp) ?_ un6 hok6 I5.bare fun b hb => ?_
        · show s5.os = s3.os
          have := I5.os
          rw [eS] at this
          exact this
        · have q : FpOk X pins H2 b := by
            rcases List.mem_cons.mp hb with rfl | z
            · exact fD
            · exact f2 b z
          obtain ⟨f0, f1, f2', f3, f4, f5⟩ := q
          exact ⟨f3, f1, f4, f5⟩
      have dC : upd H4 s2.heap.objs.size (.lst ys) s3.heap.objs.size = none := by rw [upd_ne (Ne.symm hDne)]; exact hHC
      exact hend _ _ s5 _ m I6 (I3.fpOk (Nat.le_refl _) dC) hn (qn _ dn4)
    · have hitem := T.item XC eP eW eK eC i _ s4 _ H4 (fun _ _ => False) P4 (stat fr4) st4 go
      rw [eA] at hitem
      refine wpAny_mono hitem (fun r s5 ⟨u, hr, h5⟩ => ?_) fun _ _ z => z
      subst hr
      dsimp only
      refine wpAny_mono h5 (fun _ s6 ⟨x, H6, I6, r6, y6, st6, fr6⟩ => ?_) fun _ _ z => z
      have P6 := I6.pinned (stat fr6) (T.obj _ _ st6)
      rw [← eE, ← eP, ← eW, ← eA]
      refine wpAny_mono (hgC _ s6 _ H6 x u _ P6 r6 (step x H6 y6)) (fun _ s7 ⟨σ7, H7, I7, kp7, q7⟩ => ?_) fun _ _ z => by rw [eX] at z; exact z
      refine wpAny_mono (htC _ s7 σ7 H7 _ I7 q7) (fun ok s8 ⟨H8, I8, q8⟩ => ?_) fun _ _ z => by rw [eX] at z; exact z
      -- back to the turn's start
      have fin : ∀ {H9 : Hp} {s9 : Shared}, Inv XC ([(s2.heap.objs.size, ({ cls := .type "list", data := .seq its.toArray nn } : Obj))] ++ pinsAt fp s6.heap) σ7 H9 s9 → Inv XC [] (subSt sub σ) H9 s9 ∧ tn (i + 1) s9.heap ∧ (∀ b ∈ fp, H9 b = none) ∧ H9 s2.heap.objs.size = none ∧
          s9.heap.get? s2.heap.objs.size = some { cls := .type "list", data := .seq its.toArray nn } := fun {H9 s9} J => by
        have pD := J.pin (s2.heap.objs.size, ({ cls := .type "list", data := .seq its.toArray nn } : Obj)) (by rw [ePn]; simp)
        have pF : ∀ b ∈ fp, ∀ o, s6.heap.get? b = some o → s9.heap.get? b = some o ∧ H9 b = none := fun b hb o e => by
          have q := J.pin (b, o) (by rw [ePn]; exact List.mem_append_right _ (List.mem_append_right _ (mem_pinsAt hb e)))
          exact ⟨q.1, q.2.1⟩
        refine ⟨?_, T.keep _ _ _ st6 fun b hb o e => (pF b hb o e).1, fun b hb => ?_, pD.2.1, pD.1⟩
        · have J0 : Inv XC [] σ7 H9 s9 := J.pins_of fun p hp => nomatch hp
          exact J0.weak kp7.1.symm fun j v e => kp7.2 j v e
        · obtain ⟨o, e, _⟩ := T.obj _ _ st6 b hb
          exact (pF b hb o e).2
      cases ok with
      | false =>
        rw [if_neg (by simp)]
        rw [if_neg (by simp)] at q8
        obtain ⟨m', hm, w8⟩ := hN _ _ q8
        obtain ⟨a1, a2, a3, a4, a5⟩ := fin I8
        exact ⟨m', hm, i + 1, ys, its, nn, H8, a1, a2, a3, a4, a5, rv4, w8⟩
      | true =>
        rw [if_pos rfl]
        rw [if_pos rfl] at q8
        refine wpAny_mono (heC _ s8 σ7 H8 _ I8 q8) (fun xv s9 ⟨y, H9, I9, r9, n9⟩ => ?_) fun _ _ z => by rw [eX] at z; exact z
        obtain ⟨m', hm, w9⟩ := hN _ _ n9
        obtain ⟨a1, a2, a3, a4, a5⟩ := fin I9
        refine wpAny_list_append_plain (items := its.toArray) ⟨nn, a5⟩ (fun h' ⟨n', hp'⟩ sb => ?_) (by simp; rw [← rv4.length]; omega)
        obtain ⟨q1, q2⟩ := I4.ok.exf s2.heap.objs.size (by rw [eEx]; exact List.mem_cons_self)
        have a1' : Inv XC [] (subSt sub σ) H9 { s9 with heap := h' } := a1.turned (t' := s9.toks) (fun b o hb e => (sb.2 b hb).trans e) a4 q1 (.inl (by rw [eEx]; exact List.mem_cons_self)) q2 (fun p hp => by rw [ePn] at hp; exact nomatch hp)
        refine ⟨m', hm, i + 1, ys ++ [y], its ++ [xv], n', H9, a1', T.keep _ _ _ a2 fun b hb o e => (sb.2 b (fun z => hDfp (by rw [← z]; exact hb))).trans e, a3, a4, ?_, rv4.append (.cons r9 .nil), w9⟩
        rw [hp']
        simp
  subst hs3
  exact codeAny_compStart_list loop (T.self _ 0 _ _ _ (T.keep _ _ _ st2 fun b _ o e => hk31 b o (k23 b o e)) loop)
theorem ps_setComp {N : List Str} {sc : Scope} {i : Nat} {x : Str} {pos' spos : Pos} (hNd : X.N.Nodup) (hxi : X.N[i]? = some x) (hx : Loc X.env.scope x) (hf : X.fn x = true) (S : SubOk N sc N' scope sub) (hc : X.calm = true) (hN : X.N = N) (hsc : X.env.scope = sc) (hi : PI X tg iter wi)
    (hg : ∀ (C : Addr) (s₀ : Shared) (H₀ : Hp) (ex : List Addr), PG (cxC X N' scope C s₀ H₀ ex) tg g)
    (ht : ∀ (C : Addr) (s₀ : Shared) (H₀ : Hp) (ex : List Addr), PIfs (cxC X N' scope C s₀ H₀ ex) ifs tt)
    (he : ∀ (C : Addr) (s₀ : Shared) (H₀ : Hp) (ex : List Addr), PE (cxC X N' scope C s₀ H₀ ex) elt te)
    (hs : ∀ x, foldedSetIterable iter X.env x = pure x) : PS X (.Assign [.Name x pos'] (.ListComp elt [⟨tg, iter, ifs, 0⟩] scope pos) spos) (tAsg (tComp sub wi g tt te) (gName i)) := by
  intro pins s σ H D I h
  have hsw : ∃ b, swapsWith (.ListComp elt [⟨tg, iter, ifs, 0⟩] scope pos) (some (.Name x pos')) spos.line X.env = pure b := ⟨_, rfl⟩
  obtain ⟨b, hsw⟩ := hsw
  cases b with
  | false => exact ps_set hNd hxi hx (pe_comp S hc hN hsc hi hg ht he hs) hsw (.inl hf) pins s σ H D I h
  | true =>
    rw [exec_Assign_Name_used _ _ _ _ hsw]
    refine wpAny_bind (wpAny_standAt (wpAny_bind ?_))
    show wpAny _ X.A (do let _ ← comprehension (.ListComp elt [⟨tg, iter, ifs, 0⟩] scope pos) scope X.env _ (newList []) false (eval iter X.env) (some (assign (.Name x pos') X.env))) _ _ s
    refine wpAny_bind (wpAny_mono (comp_use (use := some (assign (.Name x pos') X.env)) (R := fun _ s' => SP X pins D .next s') S hc hN hsc hi hg ht he hs pins s σ H _ I h ?_) (fun _ s' hq => wpAny_pure (wpAny_pure hq)) fun _ _ e => e)
    intro Da C s5 H5 m I5 fC hn q
    show wpAny _ X.A (assign (.Name x pos') X.env (.ref Da)) _ _ _
    refine wpAny_assign_Name (store_ok2 I5 hNd hxi hx (v := .ref Da) rfl (fun s6 I6 qq0 => ?_) (.inl hf))
    obtain ⟨a, sb, ha⟩ := qq0
    obtain ⟨f0, f1, f2, f3, f4, f5⟩ := fC
    have hCa : C ≠ a := fun z => by
      rcases ha with e | e
      · exact f1 (z.trans e)
      · exact f4 x a e z.symm
    exact ⟨m, hn.sameBut sb hCa, fun h' hs' => ⟨_, H5, I6.turned (t' := s6.toks) (fun b o hb e => hs'.extBut b o hb e) f0 f1 f3 f4 f5, q⟩⟩
end
section
variable {X : Cx} {tg iter elt : Expr} {ifs : List Expr} {scope : Scope} {pos : Pos} {N' : List Str} {sub : List (Option Nat)} {wi : TI} {g : TG} {tt : TT} {te : TE} {N : List Str} {sc : Scope}
theorem js_setC {i : Nat} {x : Str} {pos' spos : Pos} (hNd : X.N.Nodup) (hxi : X.N[i]? = some x) (hx : Loc X.env.scope x) (S : SubOk N sc N' scope sub) (hc : X.calm = true) (hN : X.N = N) (hsc : X.env.scope = sc) (hi : JI X tg iter wi)
    (hg : ∀ (C : Addr) (s₀ : Shared) (H₀ : Hp) (ex : List Addr), JG (cxC X N' scope C s₀ H₀ ex) tg g)
    (ht : ∀ (C : Addr) (s₀ : Shared) (H₀ : Hp) (ex : List Addr), JIfs (cxC X N' scope C s₀ H₀ ex) ifs tt)
    (he : ∀ (C : Addr) (s₀ : Shared) (H₀ : Hp) (ex : List Addr), JE (cxC X N' scope C s₀ H₀ ex) elt te) (hf : X.fn x = true) (h : autoParam (notSet iter = true) L2.auto4._auto_1) :
    JS X (.Assign [.Name x pos'] (.ListComp elt [⟨tg, iter, ifs, 0⟩] scope pos) spos) (tAsg (tComp sub wi g tt te) (gName i)) :=
  ⟨ps_setComp hNd hxi hx hf S hc hN hsc hi.run (fun C s₀ H₀ ex => (hg C s₀ H₀ ex).run) (fun C s₀ H₀ ex => (ht C s₀ H₀ ex).run) (fun C s₀ H₀ ex => (he C s₀ H₀ ex).run) (fs_no h)⟩
end
end L2

namespace L2
open PySem PySem.Spec PyProof.Rows
section
variable {X : Cx} {pins : List (Addr × Obj)} {σ : St} {H : Hp} {s : Shared}
theorem Inv.newtup {wr : List Addr} {T : Addr} {vals : Array Value} {xs : List V} {h'' : Heap} {tk : Nat} (I : Inv X pins σ H s) (hf : ∀ b ∈ wr, FpOk X pins H b) (hT : s.heap.objs.size ≤ T)
    (kall : ∀ b o, b ∉ wr → s.heap.get? b = some o → h''.get? b = some o) (isT' : h''.IsTuple T vals) (hv : Vals xs vals.toList) (hx : xs.length ≤ sizeLine) : Inv X pins σ (upd H T (.tup xs)) { s with heap := h'', toks := tk } := by
  have hTn : H T = none := I.hok.fresh hT
  have nT : ∀ b o, s.heap.get? b = some o → b ≠ T := fun b o e => Nat.ne_of_lt (Nat.lt_of_lt_of_le (Heap.lt_size e) hT)
  have nTH : ∀ b u, H b = some u → b ≠ T := fun b u e z => by rw [z, hTn] at e; cases e
  have nW : ∀ b u, H b = some u → b ∉ wr := fun b u e hb => by rw [(hf b hb).1] at e; cases e
  refine I.step (g' := s.gens) (d' := s.drawn) (ch := wr) (fun b hb => ?_) (fun b o _ _ hc e _ => kall b o hc e) (fun b o _ _ hc e _ => ⟨o.slots, kall b o hc e⟩) (fun b o _ e hn => by rw [upd_ne (nT b o e)]; exact hn)
    (fun b o hc e => ⟨o, kall b o hc e⟩) (fun b ys e => by rw [upd_ne (nTH b _ e)]; exact e) (fun b o u e => by rw [upd_ne (nTH b _ e)]; exact e) (fun b ps e => ⟨#[], by rw [upd_ne (nTH b _ e), e]; simp⟩) (fun m hm => ?_) (fun b u e => ?_) I.bare
  · obtain ⟨f0, f1, f2, f3, f4, f5⟩ := hf b hb
    exact ⟨f3, f1, f4, f5⟩
  · obtain ⟨o, es, ep, ho, r⟩ := hm
    exact ⟨o, es, ep, kall _ o (fun hb => (hf _ hb).2.1 rfl) ho, r⟩
  · by_cases hb : b = T
    · subst hb
      rw [upd_same] at e; cases e
      obtain ⟨o, ho, hcl, nn, hd⟩ := isT'
      exact ⟨hx, vals.toList, hv, o, ho, hcl, nn, by simpa using hd⟩
    · rw [upd_ne hb] at e
      refine (I.hok b u e).stay (fun c v hc' q => kall c v ?_ q) (fun c q => by rw [upd_ne (nTH c _ q)]; exact q) fun c ys q => by rw [upd_ne (nTH c _ q)]; exact q
      rcases hc' with z | z
      · rw [z]; exact nW b u e
      · exact nW c _ z
theorem Inv.only {wr : List Addr} {h' : Heap} {tk : Nat} (I : Inv X pins σ H s) (hf : ∀ b ∈ wr, FpOk X pins H b) (kk : ∀ b o, b ∉ wr → s.heap.get? b = some o → h'.get? b = some o) : Inv X pins σ H { s with heap := h', toks := tk } := by
  have nW : ∀ b u, H b = some u → b ∉ wr := fun b u e hb => by rw [(hf b hb).1] at e; cases e
  refine I.step (g' := s.gens) (d' := s.drawn) (ch := wr) (fun b hb => ?_) (fun b o _ _ hc e _ => kk b o hc e) (fun b o _ _ hc e _ => ⟨o.slots, kk b o hc e⟩) (fun b o _ e hn => hn)
      (fun b o hc e => ⟨o, kk b o hc e⟩) (fun b ys e => e) (fun b o u e => e) (fun b ps e => ⟨#[], by rw [e]; simp⟩) (fun m hm => ?_) (fun b u e => ?_) I.bare
  · obtain ⟨f0, f1, f2, f3, f4, f5⟩ := hf b hb
    exact ⟨f3, f1, f4, f5⟩
  · obtain ⟨o, es, ep, ho, r⟩ := hm
    exact ⟨o, es, ep, kk _ o (fun hb => (hf _ hb).2.1 rfl) ho, r⟩
  · refine (I.hok b u e).stay (fun c v hc' q => kk c v ?_ q) (fun c q => q) fun c ys q => q
    rcases hc' with z | z
    · rw [z]; exact nW b u e
    · exact nW c _ z
end
noncomputable def Itz (K : PySem.W.Frag) (a b : Addr) : It :=
  ⟨fun i H => ∃ xs ys x y, SqL K H a xs ∧ SqL K H b ys ∧ xs[i]? = some x ∧ ys[i]? = some y,
   fun i H v H' => ∃ T x y, H T = none ∧ v = .ref T ∧ (∀ xs, SqL K H a xs → xs[i]? = some x) ∧ (∀ ys, SqL K H b ys → ys[i]? = some y) ∧ H' = upd H T (.tup [x, y]),
   fun i H => ∃ xs ys, SqL K H a xs ∧ SqL K H b ys ∧ (xs.length ≤ i ∨ ys.length ≤ i)⟩
theorem turn_zip {P : Program} {w : World} {K : PySem.W.Frag} {elts : List Expr} {k : Nat} {pos : Pos} {z TI TO i1 i2 a b : Addr} (D : ZipApart z TI TO i1 i2 a b) :
    Turn P w K (.Tuple elts k pos) (Itz K a b) [z, TI, TO, i1, i2] z (fun i h => IsZip h z TI TO .none ∧ IsPair h TI (.ref i1) (.ref i2) ∧ (∃ c d, IsPair h TO c d) ∧ h.IsListIter i1 a i ∧ h.IsListIter i2 b i) where
  mem := by simp
  obj := fun i h st c hc => by
    obtain ⟨hz, hTI, ⟨x, y, hTO⟩, ⟨o1, e1, c1, d1⟩, ⟨o2, e2, c2, d2⟩⟩ := st
    simp only [List.mem_cons, List.mem_nil_iff, or_false] at hc
    rcases hc with rfl | rfl | rfl | rfl | rfl
    · exact ⟨_, hz, fun v z => by cases z⟩
    · exact ⟨_, hTI, fun v z => by cases z⟩
    · exact ⟨_, hTO, fun v z => by cases z⟩
    · exact ⟨_, e1, fun v z => by rw [d1] at z; cases z⟩
    · exact ⟨_, e2, fun v z => by rw [d2] at z; cases z⟩
  keep := fun i h h' st kk => by
    obtain ⟨hz, hTI, ⟨x, y, hTO⟩, h1, h2⟩ := st
    exact ⟨kk z (by simp) _ hz, kk TI (by simp) _ hTI, ⟨x, y, kk TO (by simp) _ hTO⟩, h1.at fun o e => kk i1 (by simp) o e, h2.at fun o e => kk i2 (by simp) o e⟩
  item := by
    intro X hP hw hK hc i pins s σ H E I hf st hg
    subst hP hw hK
    obtain ⟨hz, hTI, ⟨c, d, hTO⟩, h1, h2⟩ := st
    obtain ⟨xs, ys, x, y, hq, hq2, hx, hy⟩ := hg
    obtain ⟨its, rv, p, _⟩ := I.list hq
    obtain ⟨jts, rv2, p2, _⟩ := I.list hq2
    obtain ⟨u, hu, ru⟩ := rv.get hx
    obtain ⟨u2, hu2, ru2⟩ := rv2.get hy
    refine wpAny_pyNext_zip_item D hz hTI hTO h1 h2 p.isList p2.isList (x := u) (y := u2) (by simpa using hu) (by simpa using hu2) fun h' a1 a2 a3 a4 a5 a6 hk => ?_
    refine ⟨_, rfl, wpAny_letOwnedTupleGo_zip a1 fun h'' a1' sb => ?_⟩
    have lt : ∀ {c o}, s.heap.get? c = some o → s.heap.objs.size ≠ c := fun e => Nat.ne_of_gt (Heap.lt_size e)
    have isT : h''.IsTuple s.heap.objs.size #[u, u2] := ⟨_, sb.extBut _ _ (lt hz) a5, rfl, _, rfl⟩
    have kall : ∀ b o, b ∉ [z, TI, TO, i1, i2] → s.heap.get? b = some o → h''.get? b = some o := fun b o hb e => by
      simp only [List.mem_cons, List.mem_nil_iff, or_false, not_or] at hb
      exact sb.extBut _ _ hb.1 (hk b o hb.1 hb.2.2.1 hb.2.2.2.1 hb.2.2.2.2 e)
    have hTn : H s.heap.objs.size = none := I.hok.fresh (Nat.le_refl _)
    refine ⟨.ref s.heap.objs.size, _, I.newtup (tk := s.toks) hf (Nat.le_refl _) kall isT (xs := [x, y]) (.cons ru (.cons ru2 .nil)) (by simp; decide), rfl, ⟨_, x, y, hTn, rfl, fun zs hs => by rw [I.list_inj hs hq]; exact hx, fun zs hs => by rw [I.list_inj hs hq2]; exact hy, rfl⟩, ?_, fun b hb => ?_⟩
    · exact ⟨a1', sb.extBut _ _ D.TIz (hk _ _ D.TIz D.TITO D.TIi1 D.TIi2 hTI), ⟨_, _, sb.extBut _ _ D.TOz a2⟩, a3.extBut sb.extBut D.i1z, a4.extBut sb.extBut D.i2z⟩
    · have : s.heap.objs.size ≠ b := by
        simp only [List.mem_cons, List.mem_nil_iff, or_false] at hb
        rcases hb with rfl | rfl | rfl | rfl | rfl
        · exact lt hz
        · exact lt hTI
        · exact lt hTO
        · obtain ⟨o, e, _⟩ := h1; exact lt e
        · obtain ⟨o, e, _⟩ := h2; exact lt e
      rw [upd_ne (Ne.symm this)]
      exact (hf b hb).1
  done := by
    intro X hP hw hK hc i pins s σ H E I hf st hg
    subst hP hw hK
    obtain ⟨hz, hTI, ⟨c, d, hTO⟩, h1, h2⟩ := st
    obtain ⟨xs, ys, hq, hq2, hx⟩ := hg
    obtain ⟨its, rv, p, _⟩ := I.list hq
    obtain ⟨jts, rv2, p2, _⟩ := I.list hq2
    have l1 := rv.length
    have l2 := rv2.length
    refine wpAny_pyNext_zip_end (I.ok.hd hc) D hz hTI hTO h1 h2 p.isList p2.isList (by simp; omega) fun h' hk => ⟨rfl, I.only (tk := s.toks) hf fun b o hb e => ?_⟩
    simp only [List.mem_cons, List.mem_nil_iff, or_false, not_or] at hb
    exact hk b o hb.1 hb.2.2.1 hb.2.2.2.1 hb.2.2.2.2 e
  self := fun _ _ _ _ _ st h => wpAny_pyIter_zip st.1 h
noncomputable def iZip (K : PySem.W.Frag) (ta : TA) : TI := fun σ H R => ta σ H fun vs H1 => ∃ a b xs ys, vs = [.ref a, .ref b] ∧ SqL K H1 a xs ∧ SqL K H1 b ys ∧ R (Itz K a b) H1
theorem ji_zip {X : Cx} {K : PySem.W.Frag} {a b : Expr} {ta : TA} {elts : List Expr} {k : Nat} {tp p pos : Pos} (hK : X.K = K) (hg : Gl X "zip") (hm : X.mg "zip" = none) (ha : JA X [a, b] ta) (h : autoParam (notStar a = true) L2.auto4._auto_1) (h2 : autoParam (notStar b = true) L2.auto4._auto_1) :
    JI X (.Tuple elts k tp) (.Call (.Name "zip" p) [a, b] [] pos) (iZip K ta) := ⟨by
  subst hK
  intro pins s σ H R I hq
  refine Call_ (ld_blt I hg hm bt_zip (PyProof.Rows.callWith_type1 (thn (ha.run pos pins s σ H _ I hq) fun us s1 qq0 => ?_) (se_cons h) (by rw [se_cons h2]; rfl)))
  obtain ⟨vs, H1, I1, r1, q1⟩ := qq0
  obtain ⟨l1, l2, xs, ys, e, hl1, hl2, q⟩ := q1
  subst e
  obtain ⟨u, u2, rfl, e1, e2⟩ : ∃ u u2, us = [u, u2] ∧ RelV (.ref l1) u ∧ RelV (.ref l2) u2 := by
    cases r1 with
    | cons x r => cases r with
      | cons y r => cases r with
        | nil => exact ⟨_, _, rfl, x, y⟩
  cases e1
  cases e2
  obtain ⟨its, rv, p1, _⟩ := I1.list hl1
  obtain ⟨jts, rv2, p2, _⟩ := I1.list hl2
  have lt1 : l1 < s1.heap.objs.size := by obtain ⟨o, ho, _⟩ := p1.isList; exact Heap.lt_size ho
  have lt2 : l2 < s1.heap.objs.size := by obtain ⟨o, ho, _⟩ := p2.isList; exact Heap.lt_size ho
  refine call_zip_2 p1.isList p2.isList fun h' z1 z2 z3 z4 z5 z6 hk => ?_
  have J1 : Inv X pins σ H1 { s1 with heap := h' } := I1.kept (t' := s1.toks) hk
  have D : ZipApart (s1.heap.objs.size + 4) (s1.heap.objs.size + 2) (s1.heap.objs.size + 3) s1.heap.objs.size (s1.heap.objs.size + 1) l1 l2 := by
    have key : ∀ n a b : Nat, a < n → b < n → ZipApart (n + 4) (n + 2) (n + 3) n (n + 1) a b := fun n a b h1 h2 => by
      constructor <;> (show (_ : Nat) ≠ _) <;> omega
    exact key _ _ _ lt1 lt2
  refine wpAny_pyIter_zip z1 ?_
  refine ⟨s1.heap.objs.size + 4, _, _, _, H1, rfl, J1, turn_zip D, ⟨z1, z2, ⟨_, _, z3⟩, z4, z5⟩, fun b hb => ?_, q⟩
  have hb' : s1.heap.objs.size ≤ b := by
    simp only [List.mem_cons, List.mem_nil_iff, or_false] at hb
    have key : ∀ n c : Nat, (c = n + 4 ∨ c = n + 2 ∨ c = n + 3 ∨ c = n ∨ c = n + 1) → n ≤ c := fun n c h => by omega
    exact key _ _ hb
  exact I1.fpOk hb' (I1.hok.fresh hb')⟩
noncomputable def Ite (K : PySem.W.Frag) (a : Addr) : It :=
  ⟨fun i H => ∃ xs x, SqL K H a xs ∧ xs[i]? = some x,
   fun i H v H' => ∃ T x, H T = none ∧ v = .ref T ∧ (∀ xs, SqL K H a xs → xs[i]? = some x) ∧ H' = upd H T (.tup [.int i, x]),
   fun i H => ∃ xs, SqL K H a xs ∧ xs.length ≤ i⟩
theorem turn_enumL {P : Program} {w : World} {K : PySem.W.Frag} {elts : List Expr} {k : Nat} {pos : Pos} {e it a : Addr} (hne : e ≠ it) :
    Turn P w K (.Tuple elts k pos) (Ite K a) [e, it] e (fun i h => (∃ old, IsEnum h e it i old) ∧ h.IsListIter it a i) where
  mem := by simp
  obj := fun i h st c hc => by
    obtain ⟨⟨old, he⟩, ⟨o1, e1, c1, d1⟩⟩ := st
    simp only [List.mem_cons, List.mem_nil_iff, or_false] at hc
    rcases hc with rfl | rfl
    · exact ⟨_, he, fun v z => by cases z⟩
    · exact ⟨_, e1, fun v z => by rw [d1] at z; cases z⟩
  keep := fun i h h' st kk => by
    obtain ⟨⟨old, he⟩, h1⟩ := st
    exact ⟨⟨old, kk e (by simp) _ he⟩, h1.at fun o q => kk it (by simp) o q⟩
  item := by
    intro X hP hw hK hc i pins s σ H E I hf st hg
    subst hP hw hK
    obtain ⟨⟨old, he⟩, h1⟩ := st
    obtain ⟨xs, x, hq, hx⟩ := hg
    obtain ⟨its, rv, p, _⟩ := I.list hq
    obtain ⟨u, hu, ru⟩ := rv.get hx
    refine wpAny_pyNext_enum_item he h1 p.isList (x := u) (by simpa using hu) hne fun h' a1 a2 a3 a4 hk => ?_
    refine ⟨_, rfl, wpAny_letOwnedTupleGo_enum a1 fun h'' a1' sb => ?_⟩
    have lt : ∀ {c o}, s.heap.get? c = some o → s.heap.objs.size ≠ c := fun e => Nat.ne_of_gt (Heap.lt_size e)
    have lti : s.heap.objs.size ≠ it := by obtain ⟨o, q, _⟩ := h1; exact lt q
    have isT : h''.IsTuple s.heap.objs.size #[.int i s.toks, u] := ⟨_, sb.extBut _ _ (lt he) a3, rfl, _, rfl⟩
    have kall : ∀ b o, b ∉ [e, it] → s.heap.get? b = some o → h''.get? b = some o := fun b o hb q => by
      simp only [List.mem_cons, List.mem_nil_iff, or_false, not_or] at hb
      exact sb.extBut _ _ hb.1 (hk b o hb.1 hb.2 q)
    have hTn : H s.heap.objs.size = none := I.hok.fresh (Nat.le_refl _)
    refine ⟨.ref s.heap.objs.size, _, I.newtup (tk := s.toks + 1) hf (Nat.le_refl _) kall isT (xs := [.int i, x]) (.cons ⟨_, rfl⟩ (.cons ru .nil)) (by simp; decide), rfl, ⟨_, x, hTn, rfl, fun zs hs => by rw [I.list_inj hs hq]; exact hx, rfl⟩, ?_, fun b hb => ?_⟩
    · exact ⟨⟨_, a1'⟩, a2.extBut sb.extBut (Ne.symm hne)⟩
    · have : s.heap.objs.size ≠ b := by
        simp only [List.mem_cons, List.mem_nil_iff, or_false] at hb
        rcases hb with rfl | rfl
        · exact lt he
        · exact lti
      rw [upd_ne (Ne.symm this)]
      exact (hf b hb).1
  done := by
    intro X hP hw hK hc i pins s σ H E I hf st hg
    subst hP hw hK
    obtain ⟨⟨old, he⟩, h1⟩ := st
    obtain ⟨xs, hq, hx⟩ := hg
    obtain ⟨its, rv, p, _⟩ := I.list hq
    have l1 := rv.length
    refine wpAny_pyNext_enum_end (I.ok.hd hc) he h1 p.isList (by simp; omega) fun h' hk => ⟨rfl, I.only (tk := s.toks) hf fun b o hb q => ?_⟩
    simp only [List.mem_cons, List.mem_nil_iff, or_false, not_or] at hb
    exact hk b o hb.2 q
  self := fun _ _ _ _ _ st h => let ⟨⟨_, he⟩, _⟩ := st; wpAny_pyIter_enum he h
theorem enumS_run {X : Cx} {elts : List Expr} {k : Nat} {tp : Pos} {pins : List (Addr × Obj)} {σ : St} {H1 : Hp} {s1 : Shared} {x : Str} {t : Tok} {R : It → Hp → Prop} (hc : X.calm = true) (I1 : Inv X pins σ H1 s1) (q : R (Itp (enumS x) x.cps.size) H1) :
    wpAny (model X.prog X.w) X.A (call (.type "enumerate") [.str x t]) (fun v s1 => wpAny (model X.prog X.w) X.A (pyIter v) (PIE X pins σ (.Tuple elts k tp) R) X.xe s1) X.xe s1 := by
  refine call_enumerate_str fun h' he hit hsz hk => ?_
  have J1 : Inv X pins σ H1 { s1 with heap := h' } := I1.kept (t' := s1.toks) hk
  have ne1 : s1.heap.objs.size + 1 ≠ s1.heap.objs.size := Nat.succ_ne_self _
  have nm : s1.heap.objs.size + 1 ∉ [s1.heap.objs.size] := fun z => ne1 (List.mem_singleton.mp z)
  have hPt : ∀ (i : Nat) (vals : Array Value), (∃ t y, SignAt x i y ∧ vals = #[.int i t, y]) → Vals (enumS x i) vals.toList := by
    rintro i vals ⟨t, y, ⟨c, u, e1, rfl⟩, rfl⟩
    refine .cons ⟨t, rfl⟩ (.cons ⟨u, ?_⟩ .nil)
    rw [show x.cps.getD i 0 = c by simp [Array.getD_eq_getD_getElem?, e1]]
  have fin : ∀ (ty : String) (Dr : ∀ A : Around, A.handled = none → Draws X.prog X.w A s1.heap.objs.size [s1.heap.objs.size] x.cps.size (SignAt x) fun i h => h.IsStrIter s1.heap.objs.size ty x t i), h'.IsStrIter s1.heap.objs.size ty x t 0 →
      wpAny (model X.prog X.w) X.A (pyIter (.ref (s1.heap.objs.size + 1))) (PIE X pins σ (.Tuple elts k tp) R) X.xe { s1 with heap := h' } := by
    intro ty Dr hit'
    have W : ∀ A : Around, A.handled = none → WalksT X.prog X.w A (s1.heap.objs.size + 1) [s1.heap.objs.size + 1, s1.heap.objs.size] [s1.heap.objs.size + 1, s1.heap.objs.size] x.cps.size
        (fun i vals => ∃ t y, SignAt x i y ∧ vals = #[.int i t, y]) (fun i h => (∃ old, IsEnum h (s1.heap.objs.size + 1) s1.heap.objs.size i old) ∧ h.IsStrIter s1.heap.objs.size ty x t i)
        (fun i T h => (∃ y, IsEnumOut h (s1.heap.objs.size + 1) s1.heap.objs.size ((i : Int) + 1) y T) ∧ h.IsStrIter s1.heap.objs.size ty x t (i + 1) ∧ T ≠ s1.heap.objs.size + 1 ∧ T ≠ s1.heap.objs.size) :=
      fun A hA => WalksT.enumerateD (Dr A.in1 hA) (s1.heap.objs.size + 1) ne1 nm (by simp)
    have hself : ∀ (A : Around) (i : Nat) (s : Shared) (Q : Value → Shared → Prop) (E : Value → Shared → Prop), ((∃ old, IsEnum s.heap (s1.heap.objs.size + 1) s1.heap.objs.size i old) ∧ s.heap.IsStrIter s1.heap.objs.size ty x t i) → Q (.ref (s1.heap.objs.size + 1)) s → wpAny (model X.prog X.w) A (pyIter (.ref (s1.heap.objs.size + 1))) Q E s := by
      rintro A i s Q E ⟨⟨old, he⟩, _⟩ hQ
      exact wpAny_pyIter_enum he hQ
    refine hself _ 0 _ _ _ ⟨⟨_, he⟩, hit'⟩ ?_
    refine ⟨s1.heap.objs.size + 1, [s1.heap.objs.size + 1, s1.heap.objs.size], _, _, H1, rfl, J1, turn_T W (fun i => by simp [enumS]; decide) hPt (by simp) ?_ hself, ⟨⟨_, he⟩, hit'⟩, fun b hb => ?_, q⟩
    · rintro i h ⟨⟨old, he⟩, o, ho, hcl, hd⟩ b hb
      rcases List.mem_cons.mp hb with rfl | hb
      · exact ⟨_, he, fun v z => by cases z⟩
      · rw [List.mem_singleton.mp hb]
        exact ⟨o, ho, fun v z => by rw [hd] at z; cases z⟩
    · have hb' : s1.heap.objs.size ≤ b := by
        rcases List.mem_cons.mp hb with rfl | hb
        · exact Nat.le_succ _
        · rw [List.mem_singleton.mp hb]; exact Nat.le_refl _
      exact I1.fpOk hb' (I1.hok.fresh hb')
  cases hx : x.cps.all (· < 128)
  · exact fin "str_iterator" (fun A hA => Draws.strWide hA _ x t) (by simpa [strIterType, hx] using hit)
  · exact fin "str_ascii_iterator" (fun A hA => Draws.strAscii hA _ x t) (by simpa [strIterType, hx] using hit)
end L2

namespace L2
open PySem PySem.Spec PyProof.Rows PySem.SeqAt
mutual
noncomputable def DR (H : Hp) : PyData → V → Prop
  | .none, v => v = .non
  | .bool b, v => v = .bl b
  | .int n, v => v = .int n
  | .str x, v => v = .str x
  | .list ds, v => ∃ a vs, v = .ref a ∧ H a = some (.lst vs) ∧ DRs H ds vs
  | .tuple ds, v => ∃ a vs, v = .ref a ∧ H a = some (.tup vs) ∧ DRs H ds vs
  | .dict _, _ => False
noncomputable def DRs (H : Hp) : List PyData → List V → Prop
  | [], vs => vs = []
  | d :: ds, vs => ∃ v r, vs = v :: r ∧ DR H d v ∧ DRs H ds r
end
theorem DR_int {H : Hp} {n : Int} {v : V} : DR H (.int n) v ↔ v = .int n := by rw [DR]
theorem DR_list {H : Hp} {ds : List PyData} {v : V} : DR H (.list ds) v ↔ ∃ a vs, v = .ref a ∧ H a = some (.lst vs) ∧ DRs H ds vs := by rw [DR]
theorem DRs_nil {H : Hp} {vs : List V} : DRs H [] vs ↔ vs = [] := by rw [DRs]
theorem DRs_cons {H : Hp} {d : PyData} {ds : List PyData} {vs : List V} : DRs H (d :: ds) vs ↔ ∃ v r, vs = v :: r ∧ DR H d v ∧ DRs H ds r := by rw [DRs]
theorem DRs_ints {H : Hp} : ∀ (ns : List Int), DRs H (ns.map PyData.int) (ns.map V.int)
  | [] => DRs_nil.mpr rfl
  | n :: ns => DRs_cons.mpr ⟨_, _, rfl, DR_int.mpr rfl, DRs_ints ns⟩
mutual
theorem DR.reads {P : Program} {w : World} {H : Hp} {h : Heap} (ok : HOk P w H h) : ∀ (d : PyData) (v : V) (u : Value), DR H d v → RelV v u → ∃ as, Reads h u d as
  | .none, _, u, q, r => by rw [DR] at q; subst q; cases r; exact ⟨_, .none⟩
  | .bool b, _, u, q, r => by rw [DR] at q; subst q; cases r; exact ⟨_, .bool _⟩
  | .int n, _, u, q, r => by rw [DR] at q; subst q; obtain ⟨t, rfl⟩ := r; exact ⟨_, .int _ _⟩
  | .str n, _, u, q, r => by rw [DR] at q; subst q; obtain ⟨t, rfl⟩ := r; exact ⟨_, .str _ _⟩
  | .list ds, v, u, q, r => by
    rw [DR] at q
    obtain ⟨a, vs, rfl, e, t⟩ := q
    cases r
    obtain ⟨_, its, n, rv, g⟩ := ok a _ e
    obtain ⟨as, ra⟩ := DRs.reads ok ds vs its t rv
    exact ⟨_, .list g rfl rfl (by simpa using ra)⟩
  | .tuple ds, v, u, q, r => by
    rw [DR] at q
    obtain ⟨a, vs, rfl, e, t⟩ := q
    cases r
    obtain ⟨_, its, rv, g⟩ := ok a _ e
    obtain ⟨as, ra⟩ := DRs.reads ok ds vs its t rv
    obtain ⟨o, ho, hc, n, hd⟩ := g
    exact ⟨_, .tuple ho hc hd (by simpa using ra)⟩
  | .dict _, _, _, q, _ => by rw [DR] at q; exact q.elim
theorem DRs.reads {P : Program} {w : World} {H : Hp} {h : Heap} (ok : HOk P w H h) : ∀ (ds : List PyData) (vs : List V) (us : List Value), DRs H ds vs → Vals vs us → ∃ as, ReadsAll h us ds as
  | [], _, us, q, r => by rw [DRs] at q; subst q; cases r; exact ⟨_, .nil⟩
  | d :: ds, _, us, q, r => by
    rw [DRs] at q
    obtain ⟨v, r', rfl, q1, q2⟩ := q
    cases r with
    | cons a b =>
      obtain ⟨as, h1⟩ := DR.reads ok d v _ q1 a
      obtain ⟨bs, h2⟩ := DRs.reads ok ds r' _ q2 b
      exact ⟨_, .cons h1 h2⟩
end
noncomputable def rEqD : R2 := fun x y H Q => ∃ d e, DR H d x ∧ DR H e y ∧ shaped d = true ∧ shaped e = true ∧ Q (.bl (PyData.eqv d e)) H
noncomputable def rNeD : R2 := fun x y H Q => ∃ d e, DR H d x ∧ DR H e y ∧ shaped d = true ∧ shaped e = true ∧ Q (.bl (!PyData.eqv d e)) H
section
variable {X : Cx}
theorem op_eqD (hu : X.A.units + 64 < cLine) : OpR X (compareOp .Eq) rEqD := by
  intro pins s σ H x y v u Q I rx ry h
  obtain ⟨d, e, h1, h2, h3, h4, q⟩ := h
  obtain ⟨as, r1⟩ := DR.reads I.hok d x v h1 rx
  obtain ⟨bs, r2⟩ := DR.reads I.hok e y u h2 ry
  exact eq_dataH r1 r2 h3 h4 hu ⟨.bl _, H, I, rfl, q⟩
theorem op_neD (hu : X.A.units + 64 < cLine) : OpR X (compareOp .NotEq) rNeD := by
  intro pins s σ H x y v u Q I rx ry h
  obtain ⟨d, e, h1, h2, h3, h4, q⟩ := h
  obtain ⟨as, r1⟩ := DR.reads I.hok d x v h1 rx
  obtain ⟨bs, r2⟩ := DR.reads I.hok e y u h2 ry
  exact ne_dataH r1 r2 h3 h4 hu ⟨.bl _, H, I, rfl, q⟩
noncomputable def rEqB (K : PySem.W.Frag) : R2 := fun x y H Q => rEqA K x y H Q ∨ rEqD x y H Q
noncomputable def rNeB (K : PySem.W.Frag) : R2 := fun x y H Q => rNeA K x y H Q ∨ rNeD x y H Q
theorem op_eqX {K : PySem.W.Frag} (hK : X.K = K) (hu : X.A.units + 64 < cLine) : OpR X (compareOp .Eq) (rEqB K) := (op_eqK hK (Nat.lt_of_le_of_lt (Nat.le_add_right _ _) hu)).or (op_eqD hu)
theorem op_neX {K : PySem.W.Frag} (hK : X.K = K) (hu : X.A.units + 64 < cLine) : OpR X (compareOp .NotEq) (rNeB K) := (op_neK hK hu).or (op_neD hu)
end
section
variable {H : Hp} {Q : VK} {K : PySem.W.Frag} {σ : St}
theorem r_eqBI {i j : Int} (h : Q (.bl (decide (V.int i = V.int j))) H) : rEqB K (.int i) (.int j) H Q := .inl (.inl ⟨rfl, h⟩)
theorem r_neBI {i j : Int} (h : Q (.bl (!decide (V.int i = V.int j))) H) : rNeB K (.int i) (.int j) H Q := .inl (.inl ⟨rfl, h⟩)
theorem r_eqSame {x y : V} {d : PyData} (h1 : DR H d x) (h2 : DR H d y) (hs : shaped d = true) (h : Q (.bl true) H) : rEqB K x y H Q :=
  .inr ⟨d, d, h1, h2, hs, hs, by rw [PySem.SeqAt.eqv_refl d (canLay_of_shaped hs)]; exact h⟩
theorem r_neSame {x y : V} {d : PyData} (h1 : DR H d x) (h2 : DR H d y) (hs : shaped d = true) (h : Q (.bl false) H) : rNeB K x y H Q :=
  .inr ⟨d, d, h1, h2, hs, hs, by rw [PySem.SeqAt.eqv_refl d (canLay_of_shaped hs)]; exact h⟩
theorem r_zip {a : TA} {R : It → Hp → Prop} (h : a σ H fun vs H1 => ∃ a b xs ys, vs = [.ref a, .ref b] ∧ SqL K H1 a xs ∧ SqL K H1 b ys ∧ R (Itz K a b) H1) : iZip K a σ H R := h
theorem for_enumL {a : Addr} {xs : List V} {g : TG} {tb : TS} {D : Ends} (Pv : Nat → St → Hp → Prop) (h0 : Pv 0 σ H) (hq : ∀ i σ H, i ≤ xs.length → Pv i σ H → SqL K H a xs)
    (hs : ∀ i σ H T x, xs[i]? = some x → Pv i σ H → H T = none → g (.ref T) σ (upd H T (.tup [.int i, x])) fun σ2 H2 => tb { D with nx := Pv (i + 1), ct := Pv (i + 1), bk := D.nx } σ2 H2) (hd : ∀ σ H, Pv xs.length σ H → D.nx σ H) :
    ∃ W : Nat → Nat → St → Hp → Prop, (∃ m, W 0 m σ H) ∧ ∀ i m σ H, W i m σ H →
      ((Ite K a).stop i H ∧ D.nx σ H) ∨ ((Ite K a).go i H ∧ ∃ N : St → Hp → Prop, (∀ σ' H', N σ' H' → ∃ m', m' < m ∧ W (i + 1) m' σ' H') ∧ ∀ x H', (Ite K a).yld i H x H' → g x σ H' fun σ2 H2 => tb { D with nx := N, ct := N, bk := D.nx } σ2 H2) := by
  refine ⟨fun i m σ H => m = xs.length - i ∧ i ≤ xs.length ∧ Pv i σ H, ⟨xs.length, by simp, Nat.zero_le _, h0⟩, ?_⟩
  rintro i m σ H ⟨rfl, hi, p⟩
  have q1 := hq i σ H hi p
  by_cases hlt : i < xs.length
  · refine .inr ⟨⟨xs, xs[i], q1, List.getElem?_eq_getElem hlt⟩, Pv (i + 1), fun σ' H' p' => ⟨xs.length - (i + 1), by omega, rfl, hlt, p'⟩, fun x H' y => ?_⟩
    obtain ⟨T, u, hT, e1, e2, e4⟩ := y
    subst e1 e4
    exact hs i σ H T u (e2 xs q1) p hT
  · have e : i = xs.length := by omega
    subst e
    exact .inl ⟨⟨xs, q1, Nat.le_refl _⟩, hd σ H p⟩
end
end L2

namespace L2
open PySem PySem.Spec PyProof.Rows
theorem lri_len0 : typeLookup (.type "list_reverseiterator") "__len__" = pure none := by rw [typeLookup_type, builtinLookup_eq_fast]; kernel_rfl
theorem lri_hint1 : typeLookup (.type "list_reverseiterator") "__length_hint__" = pure (some (.builtin "list_reverseiterator.__length_hint__")) := by rw [typeLookup_type, builtinLookup_eq_fast]; kernel_rfl
section
variable {prog : Program} {w : World} {A : Around} {E : Value → Shared → Prop} {s : Shared}
theorem hint_rev {it l : Addr} {i : Int} {Q : Bool → Shared → Prop} (hit : s.heap.IsRevIter it l i) (h : Q false s) : wpAny (model prog w) A (Builtin.List.listLengthHint (.ref it)) Q E s := by
  unfold Builtin.List.listLengthHint
  refine wpAny_bind (wpAny_specialOf hit.typeIs lri_len0 ?_)
  show wpAny _ _ (specialOf (Value.ref it) (Str.ofString "__length_hint__") >>= _) _ _ _
  refine wpAny_bind (wpAny_specialOf hit.typeIs lri_hint1 ?_)
  generalize hid : ("list_reverseiterator.__length_hint__" : String) = id0
  wp_delta
  rw [show splitId id0 = some ("list_reverseiterator", "__length_hint__") from by subst hid; decide +kernel]
  subst hid
  refine wpAny_bind (wpAny_isInstance (T := "list_reverseiterator") (b := true) hit.typeIs (by rw [isSubtype_type]; kernel_rfl) ?_)
  refine wpAny_ite_split (fun hab => absurd hab (by decide)) (fun _ => ?_)
  refine wpAny_ite_split (fun _ => ?_) (fun hab => absurd (by decide +kernel) hab)
  refine wpAny_ite_split (fun hab => absurd hab (by decide +kernel)) (fun _ => ?_)
  exact wpAny_pure h
theorem list_rev {it l : Addr} {items : Array Value} {Q : Value → Shared → Prop} (hh : A.handled = none) (hit : s.heap.IsRevIter it l ((items.size : Int) - 1)) (hl : s.heap.IsList l items) (hne : l ≠ it) (hn : items.size ≤ sizeLine)
    (hQ : ∀ h' tk acc' c', (∀ b o, b ≠ it → s.heap.get? b = some o → h'.get? b = some o) → h'.get? s.heap.objs.size = some { cls := .type "list", dict := none, data := .seq acc' c', slots := #[] } →
      ItemsOf (fun i v => items[items.size - 1 - i]? = some v) acc' items.size → Q (.ref s.heap.objs.size) { s with heap := h', toks := tk }) :
    wpAny (model prog w) A (call (.type "list") [.ref it]) Q E s := by
  refine callType_codes (Q₁ := fun obj s₁ => obj = .ref s.heap.objs.size ∧ s₁ = { s with heap := s.heap.push { cls := .type "list", data := .seq #[] } }) F.called_list (F.typeCall_list_1 _) F.entry_list_init
    (code_list_new _ ⟨rfl, rfl⟩) fun obj s₁ h₁ => ?_
  obtain ⟨rfl, rfl⟩ := h₁
  have iti : it < s.heap.objs.size := by obtain ⟨o, e, _⟩ := hit; exact Heap.lt_size e
  have itl : l < s.heap.objs.size := by obtain ⟨o, e, _⟩ := hl; exact Heap.lt_size e
  generalize hS0 : s.heap.objs.size = S at iti itl hQ
  have hS : (s.heap.push { cls := .type "list", data := .seq #[] }).get? S = some { cls := .type "list", data := .seq #[] } := by rw [← hS0]; exact Heap.get?_push_size _ rfl
  have kp : ∀ b o, s.heap.get? b = some o → (s.heap.push { cls := .type "list", data := .seq #[] }).get? b = some o := fun b o e => Heap.get?_push_of_some _ e
  generalize s.heap.push { cls := .type "list", data := .seq #[] } = h1 at hS kp
  have hit1 : h1.IsRevIter it l ((items.size : Int) - 1) := hit.at fun o e => kp it o e
  have hl1 : h1.IsList l items := hl.at fun o e => kp l o e
  refine ⟨⟨_, hS, rfl⟩, F.args_list_init_2 _ _, ?_⟩
  have nSi : S ≠ it := Nat.ne_of_gt iti
  have nSl : S ≠ l := Nat.ne_of_gt itl
  have hSf : S ∉ [it, l] := by simp [nSi, nSl]
  have W := (Walks.listRev (prog := prog) (w := w) (A := A.in1.in1) hh it l hne items).toS
  show wpAny _ A.in1.in1 (do let old ← Builtin.List.listItems (.ref S); Builtin.List.listUpdate (.ref S) (fun _ => #[]); letGo old.toList.reverse; Builtin.List.listExtendWith (.ref S) (.ref it) .none) _ _ _
  unfold Builtin.List.listItems
  refine wpAny_bind (wpAny_bind (wpAny_seqItems hS rfl (wpAny_pure ?_)))
  show wpAny _ A.in1.in1 (updateSeq S (fun _ => #[]) >>= fun _ => letGo (#[] : Array Value).toList.reverse >>= fun _ => Builtin.List.listExtendWith (.ref S) (.ref it) .none) _ _ _
  refine wpAny_bind (wpAny_updateSeq hS rfl ?_)
  have hS2 := Heap.get?_update_self (Obj.mapSeq (fun _ => (#[] : Array Value))) hS rfl
  have k2 : ∀ b o, b ≠ S → h1.get? b = some o → (h1.update S (Obj.mapSeq (fun _ => (#[] : Array Value)))).get? b = some o := fun b o hb e => (Heap.get?_update_other _ _ (Ne.symm hb)).trans e
  generalize h1.update S (Obj.mapSeq (fun _ => (#[] : Array Value))) = h2 at hS2 k2
  have hit2 := hit1.at (h' := h2) fun o e => k2 it o (Ne.symm nSi) e
  have hl2 := hl1.at (h' := h2) fun o e => k2 l o (Ne.symm nSl) e
  refine wpAny_bind (wpAny_letGo ?_)
  unfold Builtin.List.listExtendWith
  refine wpAny_bind (wpAny_typeOf (T := "list_reverseiterator") (Heap.IsRevIter.typeIs (s := { s with heap := h2 }) hit2) ?_)
  have e1 : Builtin.List.listSameRef (.ref S) (.ref it) = false := by simp [Builtin.List.listSameRef, nSi]
  have e2 : (Value.type "list_reverseiterator" == Value.type "list") = false := by decide
  have e3 : (Value.type "list_reverseiterator" == Value.type "tuple") = false := by decide
  simp only [e1, e2, e3, Bool.or_false, Bool.false_eq_true, if_false]
  refine wpAny_bind (wpAny_pyIter_revIter (s := { s with heap := h2 }) hit2 ?_)
  refine wpAny_bind (wpAny_holding (hint_rev (s := { s with heap := h2 }) hit2 ?_))
  refine wpAny_ite_split (fun hab => absurd hab (by decide +kernel)) (fun _ => ?_)
  refine wpAny_pure ⟨plainId_quiet F.plain_extend_loop _, ?_⟩
  refine codeAny_extend_loopS W hn S hSf .none items.size 0 _ #[] _ rfl (Nat.zero_le _) ⟨Nat.zero_le _, by simpa using hit2, hl2⟩ hS2 (ItemsOf.nil _) fun s' acc' c' hm hS' hacc => ?_
  rw [Moved.eq_with hm]
  refine ⟨rfl, hQ s'.heap s'.toks acc' c' (fun b o hb e => hm.heap b o (fun hmem => ?_) (k2 b o (fun z => ?_) (kp b o e))) hS' hacc⟩
  · rcases List.mem_cons.mp hmem with e' | hmem
    · exact absurd (Heap.lt_size e) (by rw [e', hS0]; exact Nat.lt_irrefl _)
    · exact hb (List.mem_singleton.mp hmem)
  · exact absurd (Heap.lt_size e) (by rw [z, hS0]; exact Nat.lt_irrefl _)
end
end L2

namespace L2
open PySem PySem.Spec PyProof.Rows
section
variable {X : Cx} {K : PySem.W.Frag} {a b c e : Expr} {ta tb tc te : TE} {pos p p2 p3 : Pos}
theorem j_chain {op op' : CmpOp} {r r' : R2} (ho : OpR X (compareOp op) r) (ho' : OpR X (compareOp op') r') (ha : JE X a ta) (hb : JE X b tb) (hc : JE X c tc) (hm : autoParam (lastMarks [op, op'] [b, c] = false) L2.auto5._auto_1) :
    JE X (.Compare a [op, op'] [b, c] pos) (tChain r r' ta tb tc) := ⟨pe_chain ho ho' ha.run hb.run hc.run hm⟩
theorem arg1 {Q : List Value → Shared → Prop} {E : Value → Shared → Prop} {s : Shared} (hs : notStar e = true) (h : wpAny (model X.prog X.w) X.A (eval e X.env) (fun u s1 => Q [u] s1) E s) : wpAny (model X.prog X.w) X.A (spliced (backTo pos (starEach [e] X.env))) Q E s := by
  rw [se_cons hs]
  show wpAny _ _ (spliced ((false, eval e X.env) :: backTo pos (starEach [] X.env))) _ _ s
  exact Calls.spliced_cons (wpAny_mono h (fun u s1 q => Calls.spliced_nil q) fun _ _ z => z)
noncomputable def tListRev (K : PySem.W.Frag) (ta : TE) : TE := fun σ H Q => ta σ H fun x H1 => ∃ l xs, x = .ref l ∧ SqL K H1 l xs ∧ ∀ q, H1 q = none → Q (.ref q) (upd H1 q (.lst xs.reverse))
theorem j_listRev (hK : X.K = K) (hc : X.calm = true) (hg : Gl X "list") (hm : X.mg "list" = none) (hg2 : Gl X "reversed") (hm2 : X.mg "reversed" = none) (ha : JE X a ta) (h : autoParam (notStar a = true) L2.auto4._auto_1) :
    JE X (.Call (.Name "list" p) [.Call (.Name "reversed" p2) [a] [] p3] [] pos) (tListRev K ta) := ⟨by
  subst hK
  intro pins s σ H Q I hq
  refine wpAny_Call_Name_kw (ld_blt I hg hm bt_list (PyProof.Rows.callWith_type1 (arg1 rfl (wpAny_Call_Name_kw (ld_blt I hg2 hm2 bt_reversed (PyProof.Rows.callWith_type1 (arg1 h (thn (ha.run pins s σ H _ I hq) fun u s1 qq0 => ?_)) (se_cons h) rfl)))) rfl rfl))
  obtain ⟨x, H1, I1, rx, l, xs, ex, hx, q⟩ := qq0
  subst ex
  cases rx
  obtain ⟨its, r, ht, hz⟩ := I1.list hx
  have hlen := r.length
  refine call_reversed_list ht.isList ?_
  have lt : l < s1.heap.objs.size := by obtain ⟨o, ho, _⟩ := ht.isList; exact Heap.lt_size ho
  have e0 : (s1.heap.push (PySem.revObj l ((its.toArray.size : Int) - 1))).get? s1.heap.objs.size = some (PySem.revObj l ((its.toArray.size : Int) - 1)) := Heap.get?_push_size _ rfl
  have k0 : ∀ b o, s1.heap.get? b = some o → (s1.heap.push (PySem.revObj l ((its.toArray.size : Int) - 1))).get? b = some o := fun b o q => Heap.get?_push_of_some _ q
  have s0 : (s1.heap.push (PySem.revObj l ((its.toArray.size : Int) - 1))).objs.size = s1.heap.objs.size + 1 := Heap.size_push ..
  refine list_rev (it := s1.heap.objs.size) (l := l) (I1.ok.hd hc) ⟨_, e0, rfl, rfl⟩ (ht.isList.at fun o q => k0 l o q) (Nat.ne_of_lt lt) (by simp; omega) fun h' tk acc' c' hk hS hacc => ?_
  have eacc : acc'.toList = its.reverse := by
    apply List.ext_getElem?
    intro i
    have a1 : acc'.size = its.length := by have := hacc.1; simpa using this
    by_cases hi : i < its.length
    · have hi' : i < acc'.size := by omega
      have a2 := hacc.2 i acc'[i] (Array.getElem?_eq_getElem hi')
      rw [List.getElem?_reverse hi]
      simp at a2
      rw [a2]
      simp [hi']
    · rw [List.getElem?_eq_none (by simp; omega), List.getElem?_eq_none (by simp; omega)]
  have rr : Vals xs.reverse acc'.toList := by rw [eacc]; exact r.reverse
  have k1 : ∀ b o, s1.heap.get? b = some o → h'.get? b = some o := fun b o z => hk b o (Nat.ne_of_lt (Heap.lt_size z)) (k0 b o z)
  have hle : s1.heap.objs.size ≤ (s1.heap.push (PySem.revObj l ((its.toArray.size : Int) - 1))).objs.size := by rw [s0]; exact Nat.le_succ _
  refine ⟨.ref _, _, I1.laid (t' := tk) (o := .lst xs.reverse) k1 hle ⟨by simp; omega, acc'.toList, c', rr, by simpa using hS⟩, rfl, q _ (I1.hok.fresh hle)⟩⟩
end
end L2

namespace L2
open PySem PySem.Spec PyProof.Rows
noncomputable def TbOk (h : Heap) (T : Addr) : Prop := ∃ oT ts, h.get? T = some oT ∧ oT.data = .fields ts ∧ 3 < ts.size
noncomputable def XObj (C : Addr) (dd : Option Addr) (vs : Array Value) : Obj := { cls := .ref C, dict := dd, data := .fields vs }
noncomputable def frA (l : List Env) : List Addr := l.filterMap (·.frame)
section
variable {M : Model} {A : Around} {E : Value → Shared → Prop}
theorem entry_new {base : Heap} {env : Env} {outer : List Env} {L x C : Addr} {dd : Option Addr} {vs : Array Value} {hd : Value} {had : Bool} {Q : Unit → Shared → Prop} {s : Shared}
    (fr : A.frames = some (env :: outer)) (ff : s.heap.FunFrames base (env :: outer)) (fL : env.frame = some L) (ex : s.heap.get? x = some (XObj C dd vs)) (sz : 1 < vs.size) (nx : x ∉ frA (env :: outer))
    (k : ∀ h' T, h'.get? x = some (XObj C dd (vs.setIfInBounds 1 (.ref T))) → s.heap.objs.size ≤ T → TbOk h' T → (∀ b o, b ≠ x → b ∉ frA (env :: outer) → s.heap.get? b = some o → h'.get? b = some o) →
      (∀ b o, b ≠ x → s.heap.get? b = some o → ∃ sl, h'.get? b = some { o with slots := sl }) → Q () { s with heap := h' }) :
    wpAny M A (do let c ← frameOf env; let pl ← entryPlaceOf L had; let t ← EntryCells.newEntry hd c .none (rawInt L) .none pl; setField (.ref x) 1 t) Q E s := by
  refine wpAny_bind (wpAny_frameOf_fun fr ff fL fun g1 so => ?_)
  refine wpAny_bind (wpAny_entryPlaceOf fun pl isp => ?_)
  unfold EntryCells.newEntry newFields
  refine wpAny_bind (wpAny_newObj_type ?_ (isp.sizeOk5 _ _ _ _ _))
  have x1 : g1.get? x = some (XObj C dd vs) := (so.2.1 x nx).trans ex
  have lts : ([hd, Value.ref L, .none, rawInt L, .none] ++ (if pl.isEmpty then List.replicate 6 Value.none else pl)).toArray.size > 3 := by
    simp only [List.size_toArray, List.length_append, List.length_cons, List.length_nil]; omega
  generalize ([hd, Value.ref L, .none, rawInt L, .none] ++ (if pl.isEmpty then List.replicate 6 Value.none else pl)).toArray = tv at lts
  have x2 : (g1.push { cls := .type "traceback", dict := none, data := .fields tv }).get? x = some (XObj C dd vs) := Heap.get?_push_of_some _ x1
  have nTx : g1.objs.size ≠ x := Nat.ne_of_gt (Heap.lt_size x1)
  have t2 : (g1.push { cls := .type "traceback", dict := none, data := .fields tv }).get? g1.objs.size = some { cls := .type "traceback", dict := none, data := .fields tv } := Heap.get?_push_size _ rfl
  have o2 : ∀ b o, g1.get? b = some o → (g1.push { cls := .type "traceback", dict := none, data := .fields tv }).get? b = some o := fun b o e => Heap.get?_push_of_some _ e
  refine wpAny_setField (vs := vs) x2 rfl sz ?_
  have e3 := Heap.get?_update_self (Obj.mapFields (·.setIfInBounds 1 (Value.ref g1.objs.size))) x2 rfl
  have ot : ∀ b, b ≠ x → ((g1.push { cls := .type "traceback", dict := none, data := .fields tv }).update x (Obj.mapFields (·.setIfInBounds 1 (Value.ref g1.objs.size)))).get? b = (g1.push { cls := .type "traceback", dict := none, data := .fields tv }).get? b := fun b hb => Heap.get?_update_other _ _ (Ne.symm hb)
  refine k _ g1.objs.size e3 (by rw [so.1]; exact Nat.le_refl _) ⟨_, tv, (ot _ nTx).trans t2, rfl, lts⟩ (fun b o hb hf e => ?_) (fun b o hb e => ?_)
  · rw [ot b hb]; exact o2 b o ((so.2.1 b hf).trans e)
  · obtain ⟨sl, q⟩ := so.2.2 b o e
    exact ⟨sl, by rw [ot b hb]; exact o2 b _ q⟩
structure NoteK (fs : List Addr) (x C : Addr) (dd : Option Addr) (hd : Option Addr) (h h' : Heap) (T : Addr) : Prop where
  obj : ∃ vs, h'.get? x = some (XObj C dd vs) ∧ vs[1]? = some (.ref T) ∧ vs[2]? = some .none
  tb : TbOk h' T
  ne : T ≠ x
  new : h.objs.size ≤ T ∨ hd = some T
  keep : ∀ b o, b ≠ x → some b ≠ hd → b ∉ fs → h.get? b = some o → h'.get? b = some o
  slot : ∀ b o, b ≠ x → some b ≠ hd → h.get? b = some o → ∃ sl, h'.get? b = some { o with slots := sl }
  tail : ∀ b o, hd = some b → h.get? b = some o → ∃ o', h'.get? b = some o'
theorem note1 {base : Heap} {env : Env} {outer : List Env} {L x C : Addr} {dd : Option Addr} {vs : Array Value} {Q : Unit → Shared → Prop} {s : Shared}
    (fr : A.frames = some (env :: outer)) (ff : s.heap.FunFrames base (env :: outer)) (fL : env.frame = some L) (ex : s.heap.get? x = some (XObj C dd vs)) (h1 : vs[1]? = some .none ∧ vs[2]? = some .none) (nx : x ∉ frA (env :: outer))
    (k : ∀ h' T, NoteK (frA (env :: outer)) x C dd none s.heap h' T → Q () { s with heap := h' }) : wpAny M A (noteFrame (.ref x) env) Q E s := by
  unfold noteFrame
  simp only [fL]
  refine wpAny_bind (wpAny_field ex rfl h1.1 ?_)
  rw [if_neg (by decide)]
  have sz : 1 < vs.size := (Array.getElem?_eq_some_iff.mp h1.1).1
  refine entry_new fr ff fL ex sz nx fun h' T a1 a2 a3 a4 a5 => k h' T ⟨⟨_, a1, by simp [sz], by rw [Array.getElem?_setIfInBounds_ne (by decide)]; exact h1.2⟩, a3, ?_, .inl a2, fun b o hb _ hf e => a4 b o hb hf e, fun b o hb _ e => a5 b o hb e, fun b o z => by cases z⟩
  exact Nat.ne_of_gt (Nat.lt_of_lt_of_le (Heap.lt_size ex) a2)
theorem note2 {base : Heap} {env : Env} {outer : List Env} {L x C T0 : Addr} {dd : Option Addr} {vs : Array Value} {Q : Unit → Shared → Prop} {s : Shared}
    (fr : A.frames = some (env :: outer)) (ff : s.heap.FunFrames base (env :: outer)) (fL : env.frame = some L) (ex : s.heap.get? x = some (XObj C dd vs)) (h1 : vs[1]? = some (.ref T0) ∧ vs[2]? = some .none) (t0 : TbOk s.heap T0) (ne : T0 ≠ x) (nx : x ∉ frA (env :: outer)) (nT : T0 ∉ frA (env :: outer))
    (k : ∀ h' T, NoteK (frA (env :: outer)) x C dd (some T0) s.heap h' T → Q () { s with heap := h' }) : wpAny M A (noteFrame (.ref x) env) Q E s := by
  obtain ⟨oT, ts, g, d, l3⟩ := id t0
  unfold noteFrame
  simp only [fL]
  refine wpAny_bind (wpAny_field ex rfl h1.1 ?_)
  rw [if_pos (show (Value.ref T0 != Value.none) = true from by simp)]
  refine wpAny_bind (wpAny_field g d (Array.getElem?_eq_getElem l3) ?_)
  by_cases q : (ts[3] == rawInt L) = true
  · rw [if_pos q]
    exact wpAny_pure (k _ T0 ⟨⟨vs, ex, h1⟩, t0, ne, .inr rfl, fun b o _ _ _ e => e, fun b o _ _ e => ⟨o.slots, e⟩, fun b o _ e => ⟨o, e⟩⟩)
  · rw [if_neg q]
    refine wpAny_bind (wpAny_setField g d l3 ?_)
    have tT := Heap.get?_update_self (Obj.mapFields (·.setIfInBounds 3 Value.none)) g (Obj.isFreed_of_fields (Obj.data_mapFields d _))
    have ot : ∀ b, b ≠ T0 → (s.heap.update T0 (Obj.mapFields (·.setIfInBounds 3 Value.none))).get? b = s.heap.get? b := fun b hb => Heap.get?_update_other _ _ (Ne.symm hb)
    have sz : 1 < vs.size := (Array.getElem?_eq_some_iff.mp h1.1).1
    have ff2 : (s.heap.update T0 (Obj.mapFields (·.setIfInBounds 3 Value.none))).FunFrames base (env :: outer) := ff.of_keeps fun b o hb hn => by
      refine ⟨o, (ot b (fun z => ?_)).trans hb, rfl⟩
      rw [z, g] at hb; cases hb; exact hn _ d
    refine entry_new (s := { s with heap := s.heap.update T0 (Obj.mapFields (·.setIfInBounds 3 Value.none)) }) fr ff2 fL ((ot x (Ne.symm ne)).trans ex) sz nx fun h' T a1 a2 a3 a4 a5 => k h' T ⟨⟨_, a1, by simp [sz], by rw [Array.getElem?_setIfInBounds_ne (by decide)]; exact h1.2⟩, a3, ?_, .inl (by rw [Heap.size_update] at a2; exact a2), fun b o hb h0 hf e => a4 b o hb hf ((ot b (fun z => h0 (by rw [z]))).trans e), fun b o hb h0 e => a5 b o hb ((ot b (fun z => h0 (by rw [z]))).trans e), fun b o hb e => ?_⟩
    · exact Nat.ne_of_gt (Nat.lt_of_lt_of_le (Heap.lt_size ex) (by rw [Heap.size_update] at a2; exact a2))
    · cases hb
      obtain ⟨sl, z⟩ := a5 T0 _ ne tT
      exact ⟨_, z⟩
theorem land1 {x C T0 : Addr} {dd : Option Addr} {vs : Array Value} {Q : Unit → Shared → Prop} {s : Shared} (ex : s.heap.get? x = some (XObj C dd vs)) (h1 : vs[1]? = some (.ref T0) ∧ vs[2]? = some .none) (t0 : TbOk s.heap T0) (ne : T0 ≠ x)
    (k : ∀ h', NoteK [] x C dd (some T0) s.heap h' T0 → Q () { s with heap := h' }) : wpAny M A (setFlight (.ref x) none) Q E s := by
  obtain ⟨oT, ts, g, d, l3⟩ := id t0
  unfold setFlight
  refine wpAny_bind (wpAny_field ex rfl h1.1 ?_)
  rw [if_pos (show (Value.ref T0 != Value.none) = true from by simp)]
  refine wpAny_setField g d l3 (k _ ?_)
  have d2 := Obj.data_mapFields d (·.setIfInBounds 3 ((none : Option Addr).elim Value.none fun f => rawInt f))
  have tT := Heap.get?_update_self (Obj.mapFields (·.setIfInBounds 3 ((none : Option Addr).elim Value.none fun f => rawInt f))) g (Obj.isFreed_of_fields d2)
  have ot : ∀ b, b ≠ T0 → (s.heap.update T0 (Obj.mapFields (·.setIfInBounds 3 ((none : Option Addr).elim Value.none fun f => rawInt f)))).get? b = s.heap.get? b := fun b hb => Heap.get?_update_other _ _ (Ne.symm hb)
  exact ⟨⟨vs, (ot x (Ne.symm ne)).trans ex, h1⟩, ⟨_, _, tT, d2, by simpa using l3⟩, ne, .inr rfl, fun b o _ h0 _ e => (ot b (fun z => h0 (by rw [z]))).trans e, fun b o _ h0 e => ⟨o.slots, (ot b (fun z => h0 (by rw [z]))).trans e⟩, fun b o hb e => by cases hb; exact ⟨_, tT⟩⟩
end
end L2

namespace L2
open PySem PySem.Spec PyProof.Rows
noncomputable def VEm : List Value := [.type "ValueError", .type "Exception", .type "BaseException", .type "object"]
noncomputable def xIn (K : PySem.W.Frag) (D : Addr) : Bool := match K.lookup D with
  | some ⟨.type "type", _, .cls cd, sl⟩ => (match cd.mro, sl.toList with
    | .ref E :: bm, [_, _, _, _, some (.builtin n), _] => E == D && n == "ValueError.__new__" && cd.hasDel == false && cd.hasDict && PySem.W.tailIn K VEm bm
    | _, _ => false)
  | _ => false
theorem xIn_of {K : PySem.W.Frag} {D : Addr} (q : xIn K D = true) : ∃ nm qn N bs bm sn sub ab col dd k0 k1 k2 k3 k5, K.lookup D = some (excClassObj nm qn D N bs bm true sn sub ab col dd k0 k1 k2 k3 k5 "ValueError.__new__") ∧ ∀ h, K.In h → OwnTail h VEm bm := by
  unfold xIn at q
  split at q
  · rename_i dd cd sl ho
    split at q
    · rename_i D' bm k0 k1 k2 k3 n k5 hm hs
      simp only [Bool.and_eq_true, beq_iff_eq] at q
      obtain ⟨⟨⟨⟨e1, e2⟩, e3⟩, e4⟩, e5⟩ := q
      subst e1 e2
      obtain ⟨nm, bs, mro, ns, qn, hd, sn, sub, ab, col, del⟩ := cd
      dsimp only at hm e3 e4
      subst hm e3 e4
      have hsl : sl = #[k0, k1, k2, k3, some (.builtin "ValueError.__new__"), k5] := by
        obtain ⟨l⟩ := sl
        dsimp only at hs
        rw [hs]
      subst hsl
      exact ⟨nm, qn, ns, bs, bm, sn, sub, ab, col, dd, k0, k1, k2, k3, k5, ho, fun h X => PySem.W.tail_of_in X e5⟩
    · cases q
  · cases q
section
variable {prog : Program} {w : World} {A : Around} {K : PySem.W.Frag} {D f : Addr} {E : Value → Shared → Prop}
theorem type_call_x {h : Heap} {g : Array GenState} {d : Drawn} {t : Nat} {os : OsState} {us : List Value} {Q : Fin → Shared → Prop} (X : K.In h) (hx : xIn K D = true)
    (hi : PySem.W.findIn K (.ref D) "__init__" = some (some (.ref f))) (hf : PySem.W.typeIn K (.ref f) = some (.type "function")) (hl : us.length ≤ sizeLine)
    (k : wpAny (model prog w) A (call (.ref f) (.ref (h.objs.size + 1) :: us)) (fun r s' => r = .none ∧ Q (.done (.ret (.ref (h.objs.size + 1)))) s') E
      ⟨(h.push { cls := .type "tuple", data := .seq us.toArray }).push (XObj D none #[.ref h.objs.size, .none, .none, .none, .bool false, .none]), g, d, t, os⟩) :
    wpAny (model prog w) A (Builtin.«type.__call__» ⟨.ref D :: us, []⟩) Q E ⟨h, g, d, t, os⟩ := by
  obtain ⟨nm, qn, N, bs, bm, sn, sub, ab, col, dd, k0, k1, k2, k3, k5, lk0, tl⟩ := xIn_of hx
  have T := tl h X
  have hD := X _ _ lk0
  have L3 := PySem.W.looks_findIn (M := model prog w) X hi
  have L4 := PySem.W.bind_fn (M := model prog w) X (.ref (h.objs.size + 1)) hf
  repeat (first | with_reducible refine wpAny_loadPart_at hD ?_ | with_reducible refine wpAny_madeBy_exc hD ?_ | wp_step)
  refine codeAny_call_builtin_code (Code.quiet_builtin _ F.excBase_ValueError.quiet) (wpAny_check_new_subT F.excBase_ValueError T hD (codeAny_exc_new_subT F.excBase_ValueError T hD ?_ hl))
  show wpAny _ _ _ _ _ _
  have keep : ∀ b o, h.get? b = some o → ((h.push { cls := .type "tuple", data := .seq us.toArray }).push (XObj D none #[.ref h.objs.size, .none, .none, .none, .bool false, .none])).get? b = some o := fun b o q => Heap.get?_push_of_some _ (Heap.get?_push_of_some _ q)
  have gx : ((h.push { cls := .type "tuple", data := .seq us.toArray }).push (XObj D none #[.ref h.objs.size, .none, .none, .none, .bool false, .none])).get? (h.objs.size + 1) = some (XObj D none #[.ref h.objs.size, .none, .none, .none, .bool false, .none]) := by
    have := Heap.get?_push_size (h.push { cls := .type "tuple", data := .seq us.toArray }) (o := XObj D none #[.ref h.objs.size, .none, .none, .none, .bool false, .none]) rfl
    rwa [Heap.size_push] at this
  have hD1 := keep _ _ hD
  have M3 := L3.keeps keep
  have M4 := L4.keeps keep
  have cD : (Value.ref D :: bm).contains (.ref D) = true := by simp
  unfold XObj at gx M3 M4 hD1 k
  unfold isInstance
  repeat (first | with_reducible refine wpAny_loadPart_at gx ?_ | (with_reducible refine wpAny_isSubtype_exc hD1 ?_; rw [cD]) | wp_step)
  show wpAny _ _ (typeLookup (.ref D) _) _ _ _
  refine M3.at ?_
  refine wpAny_holding (wpAny_bind (M4.at ?_))
  dsimp only
  refine wpAny_bind (wpAny_mono k (fun r s' hr => ?_) fun _ _ z => z)
  obtain ⟨rfl, z⟩ := hr
  wp_walk
  exact z
theorem call_x {s : Shared} {us : List Value} {Q : Value → Shared → Prop} (X : K.In s.heap) (hx : xIn K D = true)
    (hi : PySem.W.findIn K (.ref D) "__init__" = some (some (.ref f))) (hf : PySem.W.typeIn K (.ref f) = some (.type "function")) (hl : us.length ≤ sizeLine)
    (k : wpAny (model prog w) (A.under (.builtin "type.__call__" ⟨.ref D :: us, []⟩)) (call (.ref f) (.ref (s.heap.objs.size + 1) :: us)) (fun r s' => r = .none ∧ Q (.ref (s.heap.objs.size + 1)) s') E
      { s with heap := (s.heap.push { cls := .type "tuple", data := .seq us.toArray }).push (XObj D none #[.ref s.heap.objs.size, .none, .none, .none, .bool false, .none]) }) :
    wpAny (model prog w) A (call (.ref D) us) Q E s := by
  obtain ⟨h, g, d, t, os⟩ := s
  obtain ⟨nm, qn, N, bs, bm, sn, sub, ab, col, dd, k0, k1, k2, k3, k5, lk0, tl⟩ := xIn_of hx
  have hD := X _ _ lk0
  have f1 := tc_lookup
  have f2 := tc_bind (.ref D)
  have hT : (⟨h, g, d, t, os⟩ : Shared).TypeIs (.ref D) "type" := ⟨_, hD, rfl⟩
  refine wpAny_call (codeAny_of_tree ?_)
  show wpAny _ _ (callAny (.ref D) _) _ _ _
  repeat (any_goals (first | assumption | with_reducible refine wpAny_loadPart_at hD ?_ | wp_step))
  refine ⟨rfl, codeAny_call_builtin_at (Code.quiet_builtin _ (by decide +kernel)) entry_typeCall (wpAny_check_type_call_sub hD (type_call_x X hx hi hf hl ?_))⟩
  exact k
end
end L2

namespace L2
open PySem PySem.Spec PyProof.Rows
noncomputable def excO (x C dx : Addr) : HO := .ext fun h => ∃ vs, h.get? x = some (XObj C (some dx) vs) ∧ vs[2]? = some .none
noncomputable def excRaw (x C : Addr) : HO := .ext fun h => ∃ t, h.get? x = some (XObj C none #[.ref t, .none, .none, .none, .bool false, .none])
theorem excO_ok {P : Program} {w : World} {H : Hp} {h : Heap} {x C dx : Addr} {vs : Array Value} (e : h.get? x = some (XObj C (some dx) vs)) (h2 : vs[2]? = some .none) : ObjOk P w H h x (excO x C dx) :=
  ⟨⟨vs, e, h2⟩, ⟨_, e⟩, fun h1 h2 ⟨vs, e, z⟩ k => ⟨vs, k _ e, z⟩⟩
theorem excO_of {P : Program} {w : World} {H : Hp} {h : Heap} {x C dx : Addr} (ok : HOk P w H h) (e : H x = some (excO x C dx)) : ∃ vs, h.get? x = some (XObj C (some dx) vs) ∧ vs[2]? = some .none := (ok _ _ e).1
structure Head (X : Cx) (pins : List (Addr × Obj)) (H : Hp) (x C dx T : Addr) (h : Heap) : Prop where
  obj : ∃ vs, h.get? x = some (XObj C (some dx) vs) ∧ vs[1]? = some (.ref T) ∧ vs[2]? = some .none
  tb : TbOk h T
  fp : FpOk X pins H T
  tr : H x = some (excO x C dx)
theorem Head.ne {X : Cx} {pins : List (Addr × Obj)} {H : Hp} {x C dx T : Addr} {h : Heap} (a : Head X pins H x C dx T h) : T ≠ x := fun z => by
  have := a.fp.1
  rw [z, a.tr] at this; cases this
noncomputable def Fly (X : Cx) (pins : List (Addr × Obj)) (H : Hp) (x C dx : Addr) (h : Heap) : Prop :=
  H x = some (excO x C dx) ∧ ((∃ vs, h.get? x = some (XObj C (some dx) vs) ∧ vs[1]? = some .none ∧ vs[2]? = some .none) ∨ ∃ T, Head X pins H x C dx T h)
section
variable {X : Cx} {pins : List (Addr × Obj)} {σ : St} {H : Hp} {s : Shared} {x C dx : Addr} {h' : Heap} {T : Addr} {hd : Option Addr}
theorem Inv.noted {fs : List Addr} (I : Inv X pins σ H s) (hx : H x = some (excO x C dx)) (hh : ∀ b, hd = some b → FpOk X pins H b) (hf : ∀ b ∈ fs, b ∈ X.env.locals :: X.fs) (N : NoteK fs x C (some dx) hd s.heap h' T) : Inv X pins σ H { s with heap := h' } := by
  obtain ⟨m, ⟨oL, esL, epL, hoL, rL⟩, _⟩ := id I.loc
  have fsF : ∀ b ∈ fs, H b = none := fun b hb => by
    rcases List.mem_cons.mp (hf b hb) with e | hb
    · rw [e]; exact I.free
    · obtain ⟨_, o, ho, _⟩ := I.ok.funs.mem hb
      exact I.base.free b o ho (I.ok.frf b hb) fun z => I.ok.exfs b z hb
  have nx : ∀ b, H b = none → b ≠ x := fun b n z => by rw [z, hx] at n; cases n
  have hdF : ∀ b, hd = some b → H b = none := fun b e => (hh b e).1
  have mem : ∀ b, b ∉ hd.toList → some b ≠ hd := fun b nb z => nb (by rw [← z]; simp)
  refine I.step (g' := s.gens) (d' := s.drawn) (t' := s.toks) (ch := hd.toList) (fun b hb => ?_) (fun b o hL hb hc e n => ?_) (fun b o hL hb hc e n => ?_) (fun _ _ _ _ n => n) (fun b o hc e => ?_) (fun _ _ e => e) (fun _ _ _ e => e) (fun b ps e => ⟨#[], by rw [e]; simp⟩) (fun m hm => ?_) (fun b u e => ?_) I.bare
  · have e : hd = some b := by cases hd <;> simp_all
    obtain ⟨_, a2, _, a4, a5, a6⟩ := hh b e
    exact ⟨a4, a2, a5, a6⟩
  · refine N.keep b o (nx b n) (mem b hc) (fun z => ?_) e
    rcases List.mem_cons.mp (hf b z) with q | q
    · exact hL q
    · exact hb q
  · exact N.slot b o (nx b n) (mem b hc) e
  · by_cases q : b = x
    · obtain ⟨vs, z, _⟩ := N.obj
      exact ⟨_, by rw [q]; exact z⟩
    · obtain ⟨sl, z⟩ := N.slot b o q (mem b hc) e
      exact ⟨_, z⟩
  · obtain ⟨o, es, ep, ho, r⟩ := hm
    obtain ⟨sl, z⟩ := N.slot _ o (nx _ I.free) (fun q => (hh _ q.symm).2.1 rfl) ho
    exact ⟨_, es, ep, z, r⟩
  · by_cases q : b = x
    · subst q
      rw [hx] at e; cases e
      obtain ⟨vs, z, _, z2⟩ := N.obj
      exact excO_ok z z2
    · refine (I.hok b u e).stay (fun c v hc z => ?_) (fun _ q => q) fun _ _ q => q
      have tc : ∃ u, H c = some u := by
        rcases hc with rfl | hc
        · exact ⟨_, e⟩
        · exact ⟨_, hc⟩
      obtain ⟨uc, tc⟩ := tc
      refine N.keep c v (fun zz => ?_) (fun zz => ?_) (fun zz => ?_) z
      · rcases hc with rfl | hc
        · exact q zz
        · rw [zz, hx] at hc; cases hc
      · rw [hdF c zz.symm] at tc; cases tc
      · rw [fsF c zz] at tc; cases tc
theorem fly_note {A : Around} {E : Value → Shared → Prop} {Q : Unit → Shared → Prop} (I : Inv X pins σ H s) (hst : X.stack = X.env :: X.outer) (hfr : X.env.frame = some X.env.locals) (hA : A.frames = some X.stack) (F : Fly X pins H x C dx s.heap)
    (k : ∀ h' T, Inv X pins σ H { s with heap := h' } → Head X pins H x C dx T h' → Q () { s with heap := h' }) : wpAny (model X.prog X.w) A (noteFrame (.ref x) X.env) Q E s := by
  have ff : s.heap.FunFrames X.base (X.env :: X.outer) := hst ▸ I.stack
  have sub : ∀ b ∈ frA (X.env :: X.outer), b ∈ X.env.locals :: X.fs := fun b hb => I.stkSub b (by rw [hst]; exact hb)
  have nf : ∀ b u, H b = some u → b ∉ frA (X.env :: X.outer) := fun b u e z => by
    rw [I.stkFree b (by rw [hst]; exact z)] at e; cases e
  obtain ⟨hx, ⟨vs, e, h1⟩ | ⟨T0, hT⟩⟩ := F
  · refine note1 (hst ▸ hA) ff hfr e h1 (nf x _ hx) fun h' T N => ?_
    have J := I.noted hx (fun b z => by cases z) sub N
    refine k h' T J ⟨N.obj, N.tb, ?_, hx⟩
    have zT : s.heap.objs.size ≤ T := by rcases N.new with z | z; exact z; cases z
    exact I.fpOk zT (I.hok.fresh zT)
  · obtain ⟨vs, e, h1⟩ := hT.obj
    refine note2 (hst ▸ hA) ff hfr e h1 hT.tb hT.ne (nf x _ hx) (fun z => ?_) fun h' T N => ?_
    · rcases List.mem_cons.mp (sub T0 z) with q | q
      · exact hT.fp.2.1 q
      · exact hT.fp.2.2.1 q
    · have J := I.noted hx (fun b z => by cases z; exact hT.fp) sub N
      refine k h' T J ⟨N.obj, N.tb, ?_, hx⟩
      rcases N.new with z | z
      · exact I.fpOk z (I.hok.fresh z)
      · cases z; exact hT.fp
theorem fly_land {A : Around} {E : Value → Shared → Prop} {Q : Unit → Shared → Prop} (I : Inv X pins σ H s) (F : Head X pins H x C dx T s.heap)
    (k : ∀ h', Inv X pins σ H { s with heap := h' } → Head X pins H x C dx T h' → Q () { s with heap := h' }) : wpAny (model X.prog X.w) A (setFlight (.ref x) none) Q E s := by
  obtain ⟨vs, e, h1⟩ := F.obj
  refine land1 e h1 F.tb F.ne fun h' N => ?_
  exact k h' (I.noted F.tr (fun b z => by cases z; exact F.fp) (fun b z => absurd z (by simp)) N) ⟨N.obj, N.tb, F.fp, F.tr⟩
noncomputable def CX1 (P : Program) (w : World) : CXT := fun outer H s E e s' => ∃ x C dx T H', e = .ref x ∧ s'.os = s.os ∧ AllBare s'.gens ∧ Un (frs outer) [] H H' s.heap s'.heap ∧ HOk P w H' s'.heap ∧ H' x = some (excO x C dx) ∧ H' T = none ∧ s.heap.objs.size ≤ T ∧
  (∃ vs, s'.heap.get? x = some (XObj C (some dx) vs) ∧ vs[1]? = some (.ref T) ∧ vs[2]? = some .none) ∧ TbOk s'.heap T ∧ E (.ref C) (some x) H'
noncomputable def XE (X : Cx) (pins : List (Addr × Obj)) (R : St → XK) (e : Value) (s' : Shared) : Prop := ∃ x C dx σ H', e = .ref x ∧ Inv X pins σ H' s' ∧ Fly X pins H' x C dx s'.heap ∧ R σ (.ref C) (some x) H'
theorem xe_call {R : St → XK} {e : Value} {s' : Shared} (I : Inv X pins σ H s) (c : CX1 X.prog X.w X.stack H s (R σ) e s') : XE X pins R e s' := by
  obtain ⟨x, C, dx, T, H', rfl, os, bare, un, hok, tx, tT, zT, ob, tb, r⟩ := c
  obtain ⟨hh, g, d, t, os'⟩ := s'
  obtain rfl : os' = s.os := os
  have J := I.call (h' := hh) (g' := g) (d' := d) (t' := t) (ch := []) un hok bare (fun b z => absurd z (by simp))
  exact ⟨x, C, dx, σ, H', rfl, J, ⟨tx, .inr ⟨T, ob, tb, I.fpOk zT tT, tx⟩⟩, r⟩
noncomputable def PassX (X : Cx) (R : St → XK) : Prop := ∀ (pins : List (Addr × Obj)) (e : Value) (s' : Shared), XE X pins R e s' → X.xe e s'
end
theorem pass_def {P : Program} {w : World} {K : PySem.W.Frag} {mg : Str → Option Value} {base : Heap} {N : List Str} {qual : Str} {scope : Scope} {f : Addr} {cd : Value} {A : Around} {outer : List Env} {s : Shared} {H : Hp} {E : XK} :
    PassX (cxOf (CX1 P w) P w K mg base N qual scope f cd A outer s H E) (fun _ => E) := by
  rintro pins e s' ⟨x, C, dx, σ, H', he, I, F, r⟩
  subst he
  show wpAny _ _ (leaving _ _) _ _ _
  unfold leaving
  refine wpAny_bind (fly_note (X := cxOf (CX1 P w) P w K mg base N qual scope f cd A outer s H E) I rfl rfl I.ok.frames F fun h1 T J1 F1 => ?_)
  refine fly_land (X := cxOf (CX1 P w) P w K mg base N qual scope f cd A outer s H E) J1 F1 fun h2 J2 F2 => ?_
  refine ⟨x, C, dx, T, H', rfl, J2.os, J2.bare, J2.base, J2.hok, F2.tr, F2.fp.1, ?_, F2.obj, F2.tb, r⟩
  rcases F2.fp.2.2.2.1 with z | z
  · exact absurd (show T ∈ ([] : List Addr) from z) (by simp)
  · exact z
end L2

namespace L2
open PySem PySem.Spec PyProof.Rows
noncomputable def excD (d : Addr) (fs : List (Str × V)) : HO := .ext fun h => ∃ mA, h.Ns1 d mA ∧ ∀ f, RelO (fs.lookup f) (mA f)
theorem excD_ok {P : Program} {w : World} {H : Hp} {h : Heap} {d : Addr} {fs : List (Str × V)} {mA : Str → Option Value} (n : h.Ns1 d mA) (r : ∀ f, RelO (fs.lookup f) (mA f)) : ObjOk P w H h d (excD d fs) := by
  refine ⟨⟨mA, n, r⟩, let ⟨o, _, _, e, _⟩ := n; ⟨o, e⟩, fun h1 h2 ⟨m, n, r⟩ k => ⟨m, ?_, r⟩⟩
  obtain ⟨o, es, ep, e, q⟩ := n
  exact ⟨o, es, ep, k _ e, q⟩
theorem excD_of {P : Program} {w : World} {H : Hp} {h : Heap} {d : Addr} {fs : List (Str × V)} (ok : HOk P w H h) (e : H d = some (excD d fs)) : ∃ mA, h.Ns1 d mA ∧ ∀ f, RelO (fs.lookup f) (mA f) := (ok _ _ e).1
noncomputable def excNew (x C d : Addr) : HO := .ext fun h => ∃ t, h.get? x = some (XObj C (some d) #[.ref t, .none, .none, .none, .bool false, .none])
theorem excNew_ok {P : Program} {w : World} {H : Hp} {h : Heap} {x C d t : Addr} (e : h.get? x = some (XObj C (some d) #[.ref t, .none, .none, .none, .bool false, .none])) : ObjOk P w H h x (excNew x C d) :=
  ⟨⟨t, e⟩, ⟨_, e⟩, fun h1 h2 ⟨t, e⟩ k => ⟨t, k _ e⟩⟩
theorem excNew_of {P : Program} {w : World} {H : Hp} {h : Heap} {x C d : Addr} (ok : HOk P w H h) (e : H x = some (excNew x C d)) : ∃ t, h.get? x = some (XObj C (some d) #[.ref t, .none, .none, .none, .bool false, .none]) := (ok _ _ e).1
noncomputable def refsThen : List Value → Bool
  | [.type a, .type b, .type c, .type d] => a == "ValueError" && b == "Exception" && c == "BaseException" && d == "object"
  | .ref _ :: r => refsThen r
  | _ => false
theorem refsThen_ve {l : List Value} (e : refsThen l = true) : (∃ a r, l = .ref a :: r ∧ refsThen r = true) ∨ l = VEm := by
  unfold refsThen at e
  split at e
  · simp only [Bool.and_eq_true, beq_iff_eq] at e
    obtain ⟨⟨⟨rfl, rfl⟩, rfl⟩, rfl⟩ := e
    exact .inr rfl
  · exact .inl ⟨_, _, rfl, e⟩
  · cases e
theorem refuse_refs (self : Value) : ∀ (l : List Value), refsThen l = true → refuseLoop self "__setattr__" l = pure ()
  | [], e => by cases e
  | v :: r, e => by
    rcases refsThen_ve e with ⟨a, r', q, e'⟩ | q
    · cases q
      rw [refuseLoop_ref]
      exact refuse_refs self r e'
    · rw [q]
      exact F.store_ValueError.passes self
theorem refs_has : ∀ (l : List Value), refsThen l = true → l.contains (.type "object") = true ∧ l.contains (.type "BaseException") = true
  | [], e => by cases e
  | v :: r, e => by
    rcases refsThen_ve e with ⟨a, r', q, e'⟩ | q
    · cases q
      obtain ⟨h1, h2⟩ := refs_has r e'
      exact ⟨by rw [List.contains_cons, h1, Bool.or_true], by rw [List.contains_cons, h2, Bool.or_true]⟩
    · rw [q]
      decide
noncomputable def xcIn (K : PySem.W.Frag) (C : Addr) : Bool := xIn K C && (PySem.W.clsIn K C).any (fun cd => refsThen cd.mro && cd.hasDict) && PySem.W.findIn K (.ref C) "__setattr__" == some (some (.builtin "object.__setattr__")) &&
  PySem.W.findIn K (.ref C) "__getattribute__" == some (some (.builtin "BaseException.__getattribute__")) && PySem.W.findIn K (.ref C) "__getattr__" == some none
structure XCls (K : PySem.W.Frag) (C : Addr) : Prop where
  xi : xIn K C = true
  ov : ∃ cd, PySem.W.clsIn K C = some cd ∧ refsThen cd.mro = true ∧ cd.hasDict = true
  sa : PySem.W.findIn K (.ref C) "__setattr__" = some (some (.builtin "object.__setattr__"))
  ga : PySem.W.findIn K (.ref C) "__getattribute__" = some (some (.builtin "BaseException.__getattribute__"))
  gh : PySem.W.findIn K (.ref C) "__getattr__" = some none
theorem xcIn_of {K : PySem.W.Frag} {C : Addr} (h : xcIn K C = true) : XCls K C := by
  unfold xcIn at h
  simp only [Bool.and_eq_true, beq_iff_eq] at h
  obtain ⟨⟨⟨⟨h1, h2⟩, h3⟩, h4⟩, h5⟩ := h
  obtain ⟨cd, a, b⟩ := PySem.W.any_some h2
  simp only [Bool.and_eq_true] at b
  exact ⟨h1, ⟨cd, a, b.1, b.2⟩, h3, h4, h5⟩
theorem refs_ne {l : List Value} (e : refsThen l = true) : l.isEmpty = false := by
  cases l with
  | nil => cases e
  | cons _ _ => rfl
section
variable {prog : Program} {w : World} {A : Around} {s : Shared} {K : PySem.W.Frag} {x C : Addr} {R : Result → Shared → Prop}
theorem XCls.mro {c : Value} {b : Bool} (k : XCls K C) (h : ∀ cd, PySem.W.clsIn K C = some cd → refsThen cd.mro = true → cd.mro.contains c = b) : PySem.W.mroIn K C c = some b := by
  obtain ⟨cd, a, o, _⟩ := k.ov
  unfold PySem.W.mroIn
  rw [a, Option.bind_some, if_neg (by rw [refs_ne o]; decide), h cd a o]
theorem XCls.isObj (k : XCls K C) : PySem.W.mroIn K C (.type "object") = some true := k.mro fun cd _ o => (refs_has _ o).1
theorem XCls.isExc (k : XCls K C) : PySem.W.mroIn K C (.type "BaseException") = some true := k.mro fun cd _ o => (refs_has _ o).2
theorem osa_x {ox : Obj} {od : Option Obj} {name : Str} {tk : Tok} {v : Value} (X : K.In s.heap) (I : PySem.W.InstAt s.heap x ox C od) (c : XCls K C) (ht : NoAttr K C name)
    (h : wpAny (model prog w) A.in1 (Builtin.ObjectAttr.storeInOwnDict (.ref x) (.ref C) (.str name tk) name v false)
      (fun fin s' => match fin with | .done f => R (.ok f) s' | .again c' => c'.quiet = true ∧ codeAny (model prog w) A c' R s') (fun e s' => R (.error e) s') s) :
    codeAny (model prog w) A (.call (.builtin "object.__setattr__") ⟨[.ref x, .str name tk, v], []⟩) R s := by
  obtain ⟨cd, hc, ho, _⟩ := c.ov
  have sub : PySem.W.Looks (model prog w) s.heap (isInstance (.ref x) (.type "object")) true := I.type.andThen (PySem.W.looks_mroIn X c.isObj)
  refine codeAny_call_builtin F.store_object.slot.plain F.store_object.entry (@PySem.W.check_slot (model prog w) _ _ s "object.__setattr__" "object" "__setattr__" (.ref x) [.str name tk, v] [] _ F.store_object.kind F.store_object.split sub (F.store_object.args (.ref x) (.str name tk) v) ?_)
  have hm : PySem.W.Looks (model prog w) s.heap (mroOf (.ref C)) cd.mro := (PySem.W.looks_clsIn X hc).andThen .now
  have L3 : PySem.W.Looks (model prog w) s.heap (Builtin.ObjectAttr.storeTaker? none) none := .now
  rw [PySem.W.osa_eq, refuse_eq]
  refine wpAny_bind (wpAny_bind (I.type.here (wpAny_bind (hm.here ?_))))
  rw [refuse_refs _ _ ho]
  refine wpAny_pure (wpAny_bind (I.type.here (wpAny_bind ((PySem.W.looks_findIn X ht).here (wpAny_bind (L3.here ?_))))))
  exact h
end
theorem upd_swap {H : Hp} {d x : Addr} {a b c : HO} (n : d ≠ x) : upd (upd (upd H d a) x b) d c = upd (upd H x b) d c := by
  funext y
  unfold upd
  by_cases h : y = d
  · simp [h]
  · simp [h]
section
variable {X : Cx} {pins : List (Addr × Obj)} {σ : St} {H : Hp} {s : Shared} {x C d : Addr} {fs : List (Str × V)} {f : Str} {v y : V} {u : Value} {A : Around} {E : Value → Shared → Prop}
theorem setx0 {Q : Unit → Shared → Prop} (I : Inv X pins σ H s) (e : H x = some (excRaw x C)) (c : XCls X.K C) (n : NoAttr X.K C f) (ry : RelV y u)
    (h : ∀ s' d, H d = none → d ≠ x → Inv X pins σ (upd (upd H x (excNew x C d)) d (excD d [(f, y)])) s' → Q () s') : wpAny (model X.prog X.w) A (setAttr (.ref x) f u) Q E s := by
  obtain ⟨⟨t, hx⟩, -, -⟩ : ObjOk X.prog X.w H s.heap x (excRaw x C) := I.hok x _ e
  obtain ⟨cd, hc, ho, hd⟩ := c.ov
  have J : PySem.W.InstAt s.heap x (XObj C none #[.ref t, .none, .none, .none, .bool false, .none]) C none := ⟨hx, rfl, rfl, True.intro⟩
  refine PySem.W.set_plain I.kIn J c.sa (osa_x (s := { s with toks := s.toks + 1 }) I.kIn J c n ?_)
  refine wpAny_bind (wpAny_pure (wpAny_bind (wpAny_bind (wpAny_loadPart hx (wpAny_bind ((PySem.W.looks_clsIn (M := model X.prog X.w) I.kIn hc).here (s := { s with toks := s.toks + 1 }) ?_))))))
  rw [hd]
  have hp : s.heap.objs.size ≠ x := Nat.ne_of_gt (Heap.lt_size hx)
  have hx1 : (s.heap.push { cls := .type "dict", data := .dict #[] }).get? x = some (XObj C none #[.ref t, .none, .none, .none, .bool false, .none]) := Heap.get?_push_of_some _ hx
  have d1 : (s.heap.push { cls := .type "dict", data := .dict #[] }).get? s.heap.objs.size = some { cls := .type "dict", data := .dict #[] } := Heap.get?_push_size _ rfl
  have n1 : ∀ {hh : Heap}, hh.get? s.heap.objs.size = some { cls := .type "dict", data := .dict #[] } → hh.Ns1 s.heap.objs.size (fun _ => none) := fun q => Heap.Ns1.of_empty ⟨_, #[], _, q, rfl, fun e he => absurd he (by simp), fun _ => rfl⟩
  have I1 : Inv X pins σ (upd H s.heap.objs.size (excD s.heap.objs.size [])) { s with heap := s.heap.push { cls := .type "dict", data := .dict #[] }, toks := s.toks + 1 } :=
    I.laid (t' := s.toks + 1) (fun b o q => Heap.get?_push_of_some _ q) (Nat.le_refl _) (excD_ok (n1 d1) fun g => True.intro)
  refine wpAny_bind (wpAny_alloc' ?_)
  refine wpAny_bind (wpAny_update' hx1 ?_)
  have hx2 := Heap.get?_update_self (fun o : Obj => ({ o with dict := some s.heap.objs.size } : Obj)) hx1 rfl
  have ot : ∀ b, b ≠ x → ((s.heap.push { cls := .type "dict", data := .dict #[] }).update x fun o => { o with dict := some s.heap.objs.size }).get? b = (s.heap.push { cls := .type "dict", data := .dict #[] }).get? b := fun b hb => Heap.get?_update_other _ _ (Ne.symm hb)
  have e1 : upd H s.heap.objs.size (excD s.heap.objs.size []) x = some (excRaw x C) := (upd_ne (Ne.symm hp)).trans e
  have I2 : Inv X pins σ (upd (upd H s.heap.objs.size (excD s.heap.objs.size [])) x (excNew x C s.heap.objs.size)) { s with heap := (s.heap.push { cls := .type "dict", data := .dict #[] }).update x fun o => { o with dict := some s.heap.objs.size }, toks := s.toks + 1 } :=
    I1.write (t' := s.toks + 1) (x := x) (e := x) (by rw [e1]; exact True.intro) (.inl rfl) (fun b o hb q => (ot b hb).trans q) ⟨_, hx2⟩ (excNew_ok hx2)
  refine wpAny_pure (wpAny_bind (wpAny_pure (wpAny_bind ?_)))
  refine wpAny_nsSet1 (n1 ((ot _ hp).trans d1)) fun h' hn' hs => ?_
  obtain ⟨oD, esD, epD, hoD, hdD, hcD⟩ := hn'.count (PySem.Within.cons f u PySem.Within.nil)
  refine wpAny_bind (wpAny_lookBehind hoD (by rw [hdD]; exact pastItsLine_dict (Nat.le_trans hcD (by rw [List.length_cons, List.length_nil, sizeLine_eq]; omega))) ?_)
  refine wpAny_pure (h _ s.heap.objs.size (I.hok.fresh (Nat.le_refl _)) hp ?_)
  rw [← upd_swap (a := excD s.heap.objs.size []) hp]
  refine I2.write (x := s.heap.objs.size) (e := s.heap.objs.size) (by rw [upd_ne hp, upd_same]; exact True.intro) (.inl rfl) (fun b o hb q => (hs.2 b hb).trans q) ⟨_, hoD⟩ (excD_ok hn' fun g => ?_)
  by_cases q : g = f
  · have qb : (g == f) = true := beq_iff_eq.mpr q
    simp only [List.lookup, qb, if_pos q]
    exact ry
  · have qb : (g == f) = false := beq_eq_false_iff_ne.mpr q
    simp only [List.lookup, qb, if_neg q]
    exact True.intro
end
end L2

namespace L2
open PySem PySem.Spec PyProof.Rows
section
variable {X : Cx} {pins : List (Addr × Obj)} {σ : St} {H : Hp} {s : Shared} {x C d : Addr} {fs : List (Str × V)} {f : Str} {v y : V} {u : Value} {A : Around} {E : Value → Shared → Prop}
theorem excN_ne {h : Heap} {P : Program} {w : World} (ok : HOk P w H h) (e : H x = some (excNew x C d)) (e2 : H d = some (excD d fs)) : d ≠ x := fun z => by
  subst z
  obtain ⟨t, a⟩ := excNew_of ok e
  obtain ⟨mA, ⟨o, es, ep, b, q, _⟩, _⟩ := excD_of ok e2
  rw [a] at b; cases b; cases q
theorem setx1 {Q : Unit → Shared → Prop} (I : Inv X pins σ H s) (e : H x = some (excNew x C d)) (e2 : H d = some (excD d fs)) (hl : fs.length < 1000) (c : XCls X.K C) (n : NoAttr X.K C f) (ry : RelV y u)
    (h : ∀ s', Inv X pins σ (upd H d (excD d (putF f y fs))) s' → Q () s') : wpAny (model X.prog X.w) A (setAttr (.ref x) f u) Q E s := by
  have ne := excN_ne I.hok e e2
  obtain ⟨vs, hx⟩ := excNew_of I.hok e
  obtain ⟨mA, nA, rA⟩ := excD_of I.hok e2
  obtain ⟨cd, hc, ho, hd⟩ := c.ov
  have J : PySem.W.InstAt s.heap x (XObj C (some d) #[.ref vs, .none, .none, .none, .bool false, .none]) C (some (Classical.choose nA)) := ⟨hx, rfl, rfl, let ⟨_, _, q, _⟩ := Classical.choose_spec nA; q⟩
  refine PySem.W.set_plain I.kIn J c.sa (osa_x (s := { s with toks := s.toks + 1 }) I.kIn J c n ?_)
  refine wpAny_bind (wpAny_pure (wpAny_bind (wpAny_bind (wpAny_loadPart hx (wpAny_bind ((PySem.W.looks_clsIn (M := model X.prog X.w) I.kIn hc).here (s := { s with toks := s.toks + 1 }) ?_))))))
  rw [hd]
  refine wpAny_pure (a := some d) (wpAny_bind (wpAny_pure (wpAny_bind ?_)))
  refine wpAny_nsSet1 (s := { s with toks := s.toks + 1 }) nA fun h' hn' hs => ?_
  have wi : PySem.Within mA (fs.map (·.1)) := fun z hz => by
    have r := rA z
    cases q : fs.lookup z with
    | none => rw [q] at r; exact absurd (RelO.none_of r) hz
    | some a => exact List.mem_map.mpr ⟨(z, a), PySem.mem_of_lookup q, rfl⟩
  obtain ⟨oD, esD, epD, hoD, hdD, hcD⟩ := hn'.count (PySem.Within.cons f u wi)
  refine wpAny_bind (wpAny_lookBehind hoD (by rw [hdD]; exact pastItsLine_dict (Nat.le_trans hcD (by rw [List.length_cons, List.length_map, sizeLine_eq]; omega))) ?_)
  refine wpAny_pure (h _ ?_)
  refine I.write (x := d) (e := d) (by rw [e2]; exact True.intro) (.inl rfl) (fun b o hb q => (hs.2 b hb).trans q) ⟨_, hoD⟩ (excD_ok hn' fun g => ?_)
  rw [lookup_putF]
  by_cases q : g = f
  · rw [if_pos q, if_pos q]; exact ry
  · rw [if_neg q, if_neg q]; exact rA g
end
end L2

namespace L2
open PySem PySem.Spec PyProof.Rows
noncomputable def xclIn (K : PySem.W.Frag) (C : Addr) : Bool := xcIn K C && PySem.W.findIn K (.ref C) "__class__" == some (some (.builtin "object.__class__")) && PySem.W.specialIn K (.builtin "object.__class__") "__get__" == some (some (.builtin "getset_descriptor.__get__")) && PySem.W.takesIn K (.builtin "object.__class__") == some true
structure XCl (K : PySem.W.Frag) (C : Addr) : Prop where
  cls : XCls K C
  ca : PySem.W.findIn K (.ref C) "__class__" = some (some (.builtin "object.__class__"))
  cg : PySem.W.specialIn K (.builtin "object.__class__") "__get__" = some (some (.builtin "getset_descriptor.__get__"))
  ct : PySem.W.takesIn K (.builtin "object.__class__") = some true
theorem xclIn_of {K : PySem.W.Frag} {C : Addr} (h : xclIn K C = true) : XCl K C := by
  unfold xclIn at h
  simp only [Bool.and_eq_true, beq_iff_eq] at h
  exact ⟨xcIn_of h.1.1.1, h.1.1.2, h.1.2, h.2⟩
section
variable {prog : Program} {w : World} {A : Around} {E : Value → Shared → Prop} {s : Shared} {K : PySem.W.Frag} {x C : Addr} {ox od : Obj}
theorem exc_class {Q : Option Value → Shared → Prop} (c : XCl K C) (KI : K.In s.heap) (J : PySem.W.InstAt s.heap x ox C (some od)) (h : Q (some (.ref C)) { s with toks := s.toks + 1 }) : wpAny (model prog w) A (getAttr? (.ref x) "__class__") Q E s := by
  obtain ⟨cd, hc, ho, hd⟩ := c.cls.ov
  have hf : PySem.W.findObj K C (some od) "__class__" = some (.bind (.builtin "getset_descriptor.__get__") (.builtin "object.__class__")) := PySem.W.findObj_data (by rw [hc]; rfl) c.ca c.cg c.ct
  obtain ⟨hh, g, dr, t, os⟩ := s
  have L0 := J.type (M := model prog w)
  have L1 := PySem.W.looks_findIn (M := model prog w) KI c.cls.ga
  have L2 := PySem.W.looks_findIn (M := model prog w) KI c.cls.gh
  have L3 := PySem.W.looks_find (M := model prog w) KI J hf
  have sub : PySem.W.Looks (model prog w) hh (isInstance (.ref x) (.type "BaseException")) true := L0.andThen (PySem.W.looks_mroIn KI c.cls.isExc)
  have hb0 : (onTheHeap (Value.ref C) && Value.builtin "BaseException.__getattribute__" == Value.builtin "object.__getattribute__") = false := by
    rw [show (Value.builtin "BaseException.__getattribute__" == Value.builtin "object.__getattribute__") = false from by decide +kernel, Bool.and_false]
  unfold getAttr? getAttrBy? getAttrBy
  refine wpAny_bind (wpAny_mkText (wpAny_bind (wpAny_attempt (wpAny_holding (wpAny_bind (L0.at (wpAny_bind (L1.at ?_))))))))
  dsimp only
  rw [hb0, if_neg Bool.false_ne_true]
  unfold getAttrByItsOwn hookBefore
  refine wpAny_bind ?_
  rw [if_pos (show onTheHeap (Value.ref C) = true from rfl)]
  refine L2.at ?_
  refine wpAny_bind (wpAny_attempt (wpAny_holding ?_))
  unfold callGetattribute
  rw [if_neg (show ¬ ((false && onTheHeap (Value.builtin "BaseException.__getattribute__")) = true) from by decide)]
  unfold boundAndCalled
  refine wpAny_bind (wpAny_of_eq (F.attrBase_ValueError.ga.bind (.ref x)) ?_)
  refine wpAny_call (codeAny_call_builtin F.attrBase_ValueError.ga.plain F.entry_bexc_ga (@PySem.W.check_slot (model prog w) _ _ ⟨hh, g, dr, t + 1, os⟩ "BaseException.__getattribute__" "BaseException" "__getattribute__" (.ref x) [.str "__class__" t] [] _ (by decide +kernel) (by decide +kernel) sub (F.args_bexc_ga (.ref x) (.str "__class__" t)) ?_))
  refine wpAny_bind (wpAny_pure (wpAny_bind (wpAny_pure (wpAny_bind (L0.at (wpAny_bind (L3.at ?_)))))))
  show wpAny _ _ (holding [.builtin "object.__class__"] (call (.builtin "getset_descriptor.__get__") [.builtin "object.__class__", .ref x, .ref C]) >>= ret) _ _ _
  refine wpAny_bind (wpAny_holding (wpAny_call (PySem.W.class_get (s := ⟨hh, g, dr, t + 1, os⟩) KI J c.cls.isObj ?_)))
  refine wpAny_pure ?_
  show wpAny _ _ (handedOut (.ref C)) _ _ _
  rw [PySem.W.handedOut_of rfl]
  exact wpAny_pure (wpAny_pure h)
theorem kitx_exc (c : XCl K C) : PySem.W.KitX K (.ref x) (.ref C) (fun h => PySem.W.InstAt h x ox C (some od)) where
  ty := fun _ _ _ I => I.type
  it := fun _ _ X _ => by
    obtain ⟨cd, hc, _⟩ := c.cls.ov
    unfold PySem.W.clsIn at hc
    split at hc
    · rename_i a1 a2 a3 a4 ho
      intro A1 Q1 E1 s1 k q
      unfold isType loadHead
      exact wpAny_bind (wpAny_loadPart (k _ _ (X _ _ ho)) (wpAny_pure q))
    · cases hc
  ne := fun h tp dd its n sl X htp => by
    obtain ⟨cd, hc, _⟩ := c.cls.ov
    refine Bool.eq_false_iff.mpr fun q => ?_
    obtain rfl : C = tp := Value.ref.inj (beq_iff_eq.mp q)
    unfold PySem.W.clsIn at hc
    split at hc
    · rename_i a1 a2 a3 a4 ho
      cases (X _ _ ho).symm.trans htp
    · cases hc
  ca := fun X I k => exc_class c X I k
end
noncomputable def IsX (H : Hp) (x C : Addr) (fs : List (Str × V)) : Prop := ∃ d, H x = some (excO x C d) ∧ H d = some (excD d fs)
noncomputable def clV : V → Option Value
  | .ty T => some (.type T)
  | .ref C => some (.ref C)
  | _ => none
theorem clV_of {v : V} {u c : Value} (e : clV v = some c) (r : RelV v u) : u = c := by
  cases v <;> first | cases e; exact r | cases e
noncomputable def clVs : List V → Option (List Value)
  | [] => some []
  | v :: r => match clV v, clVs r with
    | some c, some l => some (c :: l)
    | _, _ => none
theorem clVs_of : ∀ {vs : List V} {us cs : List Value}, clVs vs = some cs → Vals vs us → us = cs
  | [], us, cs, e, r => by cases r; cases e; rfl
  | v :: vs, us, cs, e, r => by
    cases r with
    | cons r1 r2 =>
      unfold clVs at e
      split at e
      · rename_i c l h1 h2
        cases e
        rw [clV_of h1 r1, clVs_of h2 r2]
      · cases e
noncomputable def rIsiX (K : PySem.W.Frag) : List V → Hp → VK → Prop := fun xs H Q => ∃ x t b, (TyOf K H x t ∨ ∃ a C fs, x = .ref a ∧ IsX H a C fs ∧ XCl K C ∧ t = .ref C) ∧
  ((∃ v c, xs = [x, v] ∧ clV v = some c ∧ PySem.W.kitOne K t c = some b) ∨ (∃ p vs cs, xs = [x, .ref p] ∧ H p = some (.tup vs) ∧ clVs vs = some cs ∧ PySem.W.kitAny K t cs = some b)) ∧ Q (.bl b) H
section
variable {X : Cx} {pins : List (Addr × Obj)} {σ : St} {H : Hp} {s : Shared} {A : Around} {E : Value → Shared → Prop} {Q : Value → Shared → Prop} {c : Value} {b : Bool}
theorem kit_of {x : V} {u t : Value} (I : Inv X pins σ H s) (rx : RelV x u) (ty : TyOf X.K H x t ∨ ∃ a C fs, x = .ref a ∧ IsX H a C fs ∧ XCl X.K C ∧ t = .ref C) :
    ∃ φ : Heap → Prop, PySem.W.KitX X.K u t φ ∧ φ s.heap ∧ u ≠ .builtin "__main__.__loader__#opaque" := by
  rcases ty with ty | ⟨a, C, fs, rfl, ⟨d, e1, e2⟩, c, rfl⟩
  · cases ty with
    | non => cases (show u = Value.none from rx); exact ⟨_, PySem.W.kitx_none, True.intro, (fun z => nomatch z)⟩
    | bl y => cases (show u = Value.bool y from rx); exact ⟨_, PySem.W.kitx_bool, True.intro, (fun z => nomatch z)⟩
    | int i => obtain ⟨t, q⟩ := (show ∃ t, u = Value.int i t from rx); cases q; exact ⟨_, PySem.W.kitx_int, True.intro, (fun z => nomatch z)⟩
    | str y => obtain ⟨t, q⟩ := (show ∃ t, u = Value.str y t from rx); cases q; exact ⟨_, PySem.W.kitx_str, True.intro, (fun z => nomatch z)⟩
    | flt y => obtain ⟨t, q⟩ := (show ∃ t, u = Value.float y t from rx); cases q; exact ⟨_, PySem.W.kitx_float, True.intro, (fun z => nomatch z)⟩
    | @lst a xs ea =>
      cases (show u = Value.ref a from rx)
      obtain ⟨_, _, n, _, h1⟩ := (show ObjOk X.prog X.w H s.heap a (.lst xs) from I.hok a _ ea)
      exact ⟨_, PySem.W.kitx_list, ⟨_, h1, rfl⟩, (fun z => nomatch z)⟩
    | @frz a ob xs ea =>
      cases (show u = Value.ref a from rx)
      obtain ⟨_, _, _, n, _, h1⟩ := (show ObjOk X.prog X.w H s.heap a (.frz ob (.lst xs)) from I.hok a _ ea)
      exact ⟨_, PySem.W.kitx_list, ⟨_, h1, rfl⟩, (fun z => nomatch z)⟩
    | @tup a xs ea =>
      cases (show u = Value.ref a from rx)
      obtain ⟨_, _, _, p⟩ := (show ObjOk X.prog X.w H s.heap a (.tup xs) from I.hok a _ ea)
      obtain ⟨o, h1, h2, _⟩ := p
      exact ⟨_, PySem.W.kitx_tuple, ⟨o, h1, h2⟩, (fun z => nomatch z)⟩
    | @dK a kvs ea =>
      cases (show u = Value.ref a from rx)
      obtain ⟨_, _, vs, _, p⟩ := (show ObjOk X.prog X.w H s.heap a (.dK kvs) from I.hok a _ ea)
      obtain ⟨o, es, ep, h1, h2, _⟩ := p
      exact ⟨_, PySem.W.kitx_dict, ⟨o, h1, h2.1⟩, (fun z => nomatch z)⟩
    | @dT a kvs ea =>
      cases (show u = Value.ref a from rx)
      obtain ⟨_, _, xs, _, o, es, ep, h1, h2, _⟩ := (show ObjOk X.prog X.w H s.heap a (.dT kvs) from I.hok a _ ea)
      exact ⟨_, PySem.W.kitx_dict, ⟨o, h1, h2.1⟩, (fun z => nomatch z)⟩
    | @ins a C dx fs ea cl ha hn htk hm =>
      cases (show u = Value.ref a from rx)
      obtain ⟨mA, O, _⟩ := ins_get I.hok ea
      obtain ⟨od, J, _⟩ := O.look
      exact ⟨_, PySem.W.kitx_own (cl.get _) cl.hd ha hn htk hm, J, (fun z => nomatch z)⟩
  · cases (show u = Value.ref a from rx)
    obtain ⟨vs, hx, _⟩ := excO_of I.hok e1
    obtain ⟨mA, nA, rA⟩ := excD_of I.hok e2
    obtain ⟨od, hod, lk⟩ := lookIn_ns nA
    exact ⟨_, kitx_exc (ox := XObj C (some d) vs) (od := od) c, ⟨hx, rfl, rfl, hod⟩, (fun z => nomatch z)⟩
theorem call_isiX {K : PySem.W.Frag} (hK : X.K = K) : CallR X (.builtin "isinstance") (rIsiX K) := by
  subst hK
  intro pins s σ H xs us Q I r h
  obtain ⟨x, t, b, ty, w, q⟩ := h
  rcases w with ⟨v, c, rfl, ec, e⟩ | ⟨p, vs, cs, rfl, ep, ec, e⟩
  · obtain ⟨u, u2, rfl, ru, rv⟩ := vals2 r
    obtain rfl := clV_of ec rv
    obtain ⟨φ, Z, hφ, hne⟩ := kit_of I ru ty
    exact PySem.W.kia_one Z I.kIn hφ e hne fun tk => ⟨.bl b, H, I.tok _, rfl, q⟩
  · obtain ⟨u, u2, rfl, ru, rv⟩ := vals2 r
    cases (show u2 = Value.ref p from rv)
    obtain ⟨φ, Z, hφ, hne⟩ := kit_of I ru ty
    obtain ⟨_, its, rt, o, h1, h2, n, h3⟩ := (show ObjOk X.prog X.w H s.heap p (.tup vs) from I.hok p _ ep)
    obtain rfl := clVs_of ec rt
    obtain ⟨oc, odd, oda, osl⟩ := o
    dsimp only at h2 h3
    subst h2 h3
    exact PySem.W.kia_tup Z I.kIn hφ h1 e hne fun tk => ⟨.bl b, H, I.tok _, rfl, q⟩
end
end L2

namespace L2
open PySem PySem.Spec PyProof.Rows
noncomputable def HasX (P : Program) (w : World) (K : PySem.W.Frag) (mg : Str → Option Value) (base : Heap) (k : Nat) (x : Str) (ps : List Str) (sp : Sp) : Prop :=
  ∃ f fd, mg x = some (.ref f) ∧ PySem.W.keepIn K (.ref f) = true ∧ Binds K fd ps [] ∧ FnOk P w K mg base (CX1 P w) k f fd ps sp
noncomputable def tCallX (sp : Sp) (R : St → XK) (t : TA) : TE := fun σ H Q => t σ H fun vs H1 => sp vs H1 Q (R σ)
theorem passN {X : Cx} (h : ∀ (e : Value) (s : Shared), X.xe e s = False) : PassX X (fun _ _ _ _ => False) := fun _ _ _ ⟨_, _, _, _, _, _, _, _, z⟩ => z.elim
section
variable {X : Cx} {k : Nat} {f C : Addr} {fd : FuncData} {ps : List Str} {sp : Sp} {R : St → XK} {x : Str} {p pos : Pos} {e : Expr} {es : List Expr} {t : TA} {pins : List (Addr × Obj)} {σ : St} {H : Hp} {s : Shared} {Q : VK} {us : List Value} {vs : List V}
theorem run_fnX (F : FnOk X.prog X.w X.K X.mg X.base (CX1 X.prog X.w) k f fd ps sp) (hr : Room k X.A) (hb : Binds X.K fd ps []) (hx : PassX X R) (I : Inv X pins σ H s) (r : Vals vs us) (h : sp vs H Q (R σ)) :
    wpAny (model X.prog X.w) X.A (call (.ref f) us) (EP X pins σ Q) X.xe s := by
  have hl : (us ++ []).length = ps.length := by rw [List.append_nil, ← r.length]; exact F.len _ _ _ _ h
  have bd := hb s us I.kIn hl
  rw [List.append_nil] at bd
  refine wpAny_call (codeAny_mono (F.run X.A X.stack s H ⟨us, []⟩ us vs Q (R σ) hr I.env0 bd r h) fun rr s' hq => ?_)
  cases rr with
  | error e => exact hx pins e s' (xe_call I hq)
  | ok fl =>
    cases fl with
    | ret u => exact I.after hq
    | next => exact False.elim hq
    | brk => exact False.elim hq
    | cont => exact False.elim hq
theorem pe_callX (F : HasX X.prog X.w X.K X.mg X.base k x ps sp) (hr : Room k X.A) (hg : Gl X x) (hx : PassX X R) (ha : PA X (e :: es) t) (hdb : (x == ("__debug__" : Str)) = false)
    (he : starEach (e :: es) X.env = (false, eval e X.env) :: starEach es X.env) (hpl : (backTo pos (starEach es X.env)).any (·.1) = false) : PE X (.Call (.Name x p) (e :: es) [] pos) (tCallX sp R t) := by
  obtain ⟨f, fd, a, b, c, d⟩ := F
  intro pins s σ H Q I h
  refine wpAny_Call_Name_kw (ld_glob I hg a ?_ hdb)
  refine PySem.W.callWith_K (h₀ := X.base) I.ok.mod.kin b (thn (ha pos pins s σ H _ I h) fun us s1 ⟨vs, H1, I1, r, q⟩ => ⟨I1.kIn, ?_⟩) he hpl
  exact run_fnX d hr c hx I1 r q
noncomputable def sFldX (K : PySem.W.Frag) (ta tv : TE) (f : Str) : TS := fun D σ H => tv σ H fun y H1 => ta σ H1 fun x H2 => ∃ a C, x = .ref a ∧ XCls K C ∧ NoAttr K C f ∧
  ((H2 a = some (excRaw a C) ∧ ∀ d, H2 d = none → d ≠ a → D.nx σ (upd (upd H2 a (excNew a C d)) d (excD d [(f, y)]))) ∨
   (∃ d fs, H2 a = some (excNew a C d) ∧ H2 d = some (excD d fs) ∧ fs.length < 1000 ∧ D.nx σ (upd H2 d (excD d (putF f y fs)))))
theorem ps_fldX {o value : Expr} {ta tv : TE} {fn : Str} {pos' : Pos} (ha : PE X o ta) (hv : PE X value tv) (hs : swapsWith value (some (.Attribute o fn pos')) pos.line X.env = pure false) : PS X (.Assign [.Attribute o fn pos'] value pos) (sFldX X.K ta tv fn) := by
  intro pins s σ H D I h
  refine plainObj_wpAny_Assign_Attribute (thn (hv pins s σ H _ I h) fun u s1 ⟨y, H1, I1, ry, q⟩ => thn (ha pins s1 σ H1 _ I1 q) fun ov s2 qq0 => ?_) hs
  obtain ⟨x, H2, I2, rx, a, C, ex, c, n, q2⟩ := qq0
  subst ex
  obtain rfl : ov = Value.ref a := rx
  rcases q2 with ⟨e, q2⟩ | ⟨d, fs, e, e2, hl, q2⟩
  · exact setx0 I2 e c n ry fun s3 d z1 z2 I3 => ⟨σ, _, I3, q2 d z1 z2⟩
  · exact setx1 I2 e e2 hl c n ry fun s3 I3 => ⟨σ, _, I3, q2⟩
noncomputable def spInit (C : Addr) (fl : List Str) : Sp := fun vs H Q E => ∃ x ws, vs = .ref x :: ws ∧ ws.length = fl.length ∧ H x = some (excRaw x C) ∧ ∀ d, H d = none → d ≠ x → Q .non (upd (upd H x (excNew x C d)) d (excD d (fl.zip ws)))
structure XMk (P : Program) (w : World) (K : PySem.W.Frag) (mg : Str → Option Value) (base : Heap) (k : Nat) (x : Str) (C : Addr) (fl : List Str) : Prop where
  at_ : mg x = some (.ref C)
  cl : XCl K C
  kp : PySem.W.keepIn K (.ref C) = true
  na : ∀ f ∈ fl, NoAttr K C f
  run : ∃ f fd ps, PySem.W.findIn K (.ref C) "__init__" = some (some (.ref f)) ∧ PySem.W.typeIn K (.ref f) = some (.type "function") ∧ Binds K fd ps [] ∧ FnOk P w K mg base CX0 k f fd ps (spInit C fl)
noncomputable def tRaise (C : Addr) (fl : List Str) (R : St → XK) (t : TA) : TS := fun _ σ H => t σ H fun vs H1 => vs.length = fl.length ∧ vs.length ≤ sizeLine ∧ ∀ x H2, Same H1 H2 → IsX H2 x C (fl.zip vs) → R σ (.ref C) (some x) H2
theorem made_x {Q : Value → Shared → Prop} {E : Value → Shared → Prop} {fl : List Str} (M : XMk X.prog X.w X.K X.mg X.base k x C fl) (hr : Room (k + 1) X.A) (I : Inv X pins σ H s) (r : Vals vs us) (hl : vs.length = fl.length) (hz : vs.length ≤ sizeLine)
    (q : ∀ a d s', H a = none → H d = none → d ≠ a → Inv X pins σ (upd (upd (upd H a (excRaw a C)) a (excNew a C d)) d (excD d (fl.zip vs))) s' → Q (.ref a) s') : wpAny (model X.prog X.w) X.A (call (.ref C) us) Q E s := by
  obtain ⟨f, fd, ps, hi, hf, hb, F⟩ := M.run
  refine call_x I.kIn M.cl.cls.xi hi hf (by rw [← r.length]; exact hz) ?_
  have I1 : Inv X pins σ H { s with heap := s.heap.push { cls := .type "tuple", data := .seq us.toArray } } := I.kept (t' := s.toks) fun b o e => Heap.get?_push_of_some _ e
  have sz1 : (s.heap.push { cls := .type "tuple", data := .seq us.toArray }).objs.size = s.heap.objs.size + 1 := Heap.size_push _ _
  have hfr : H (s.heap.objs.size + 1) = none := I.hok.fresh (Nat.le_succ _)
  have gx : ((s.heap.push { cls := .type "tuple", data := .seq us.toArray }).push (XObj C none #[.ref s.heap.objs.size, .none, .none, .none, .bool false, .none])).get? (s.heap.objs.size + 1) = some (XObj C none #[.ref s.heap.objs.size, .none, .none, .none, .bool false, .none]) := by
    rw [← sz1]; exact Heap.get?_push_size _ rfl
  have I2 : Inv X pins σ (upd H (s.heap.objs.size + 1) (excRaw (s.heap.objs.size + 1) C)) { s with heap := (s.heap.push { cls := .type "tuple", data := .seq us.toArray }).push (XObj C none #[.ref s.heap.objs.size, .none, .none, .none, .bool false, .none]) } :=
    I1.laid (t' := s.toks) (fun b o e => Heap.get?_push_of_some _ e) (by show (s.heap.push _).objs.size ≤ _; rw [sz1]; exact Nat.le_refl _) ⟨⟨_, gx⟩, ⟨_, gx⟩, fun h1 h2 ⟨t, z⟩ kk => ⟨t, kk _ z⟩⟩
  have r2 : Vals (V.ref (s.heap.objs.size + 1) :: vs) (Value.ref (s.heap.objs.size + 1) :: us) := .cons rfl r
  have sp0 : spInit C fl (V.ref (s.heap.objs.size + 1) :: vs) (upd H (s.heap.objs.size + 1) (excRaw (s.heap.objs.size + 1) C)) (fun v H2 => v = .non ∧ ∃ d, H d = none ∧ d ≠ s.heap.objs.size + 1 ∧ H2 = upd (upd (upd H (s.heap.objs.size + 1) (excRaw (s.heap.objs.size + 1) C)) (s.heap.objs.size + 1) (excNew (s.heap.objs.size + 1) C d)) d (excD d (fl.zip vs))) E0 :=
    ⟨_, _, rfl, hl, upd_same, fun d hd ne => ⟨rfl, d, by rw [upd_ne ne] at hd; exact hd, ne, rfl⟩⟩
  have hl2 : ((Value.ref (s.heap.objs.size + 1) :: us) ++ []).length = ps.length := by rw [List.append_nil, ← r2.length]; exact F.len _ _ _ _ sp0
  have bd := hb _ (Value.ref (s.heap.objs.size + 1) :: us) I2.kIn hl2
  rw [List.append_nil] at bd
  refine wpAny_call (codeAny_mono (F.run _ X.stack _ _ ⟨Value.ref (s.heap.objs.size + 1) :: us, []⟩ (Value.ref (s.heap.objs.size + 1) :: us) _ _ E0 (hr.make C us []) (I2.env0.make C us []) bd r2 sp0) fun rr s' hq => ?_)
  cases rr with
  | error e => exact False.elim hq
  | ok fl =>
    cases fl with
    | ret u =>
      obtain ⟨v, H', I3, rv, ev, d, hd, ne, eH⟩ := I2.after hq
      subst ev
      rw [eH] at I3
      exact ⟨rv, q _ d s' hfr hd ne I3⟩
    | next => exact False.elim hq
    | brk => exact False.elim hq
    | cont => exact False.elim hq
theorem thrown {env : Env} {C : Addr} {Q : Flow → Shared → Prop} {m : Sem Value} (hc : X.calm = true) (c : XCl X.K C) (hx : PassX X R)
    (h : wpAny (model X.prog X.w) X.A m (fun v s1 => ∃ x d H1, v = .ref x ∧ Inv X pins σ H1 s1 ∧ H1 x = some (excNew x C d) ∧ R σ (.ref C) (some x) (upd H1 x (excO x C d))) X.xe s) :
    wpAny (model X.prog X.w) X.A (raiseStmt env (some m) none) Q X.xe s := by
  obtain ⟨nm, qn, N, bs, bm, sn, sub, ab, col, dd, k0, k1, k2, k3, k5, lk0, tl⟩ := xIn_of c.cls.xi
  unfold raiseStmt
  refine wpAny_bind (thn h fun v s1 qq0 => ?_)
  obtain ⟨x, d, H1, ev, I1, e1, r1⟩ := qq0
  subst ev
  have KI := I1.kIn
  obtain ⟨t, he⟩ := excNew_of I1.hok e1
  have hh : X.A.handled = none := I1.ok.hd hc
  have hcB : (Value.ref C :: bm).contains (.type "BaseException") = true := by
    rw [List.contains_cons, (tl _ KI).hasType (show VEm.contains (.type "BaseException") = true from by decide)]; rfl
  have fin : X.xe (.ref x) s1 := by
    have I2 : Inv X pins σ (upd H1 x (excO x C d)) s1 := I1.write (t' := s1.toks) (x := x) (e := x) (h' := s1.heap) (by rw [e1]; exact True.intro) (.inl rfl) (fun b o _ z => z) ⟨_, he⟩ (excO_ok he rfl)
    exact hx pins _ s1 ⟨x, C, d, σ, _, rfl, I2, ⟨upd_same, .inl ⟨_, he, rfl, rfl⟩⟩, r1⟩
  have hD := KI _ _ lk0
  obtain ⟨hp, g, dr, tk, os⟩ := s1
  unfold XObj at he
  repeat (first | with_reducible refine wpAny_loadPart_at he ?_ | with_reducible refine wpAny_loadPart_at hD ?_ | (with_reducible refine wpAny_isSubtype_exc hD ?_; rw [hcB]) | wp_step)
  exact wpAny_raiseNew_none hh fin
end
end L2

namespace L2
open PySem PySem.Spec PyProof.Rows
section
variable {X : Cx} {k : Nat} {C : Addr} {R : St → XK} {x : Str} {p cpos pos : Pos} {e : Expr} {es : List Expr} {t : TA} {fl : List Str}
theorem raised_heap {H : Hp} {a d : Addr} {vs : List V} (ha : H a = none) (hd : H d = none) (ne : d ≠ a) : Same H (upd (upd (upd (upd H a (excRaw a C)) a (excNew a C d)) d (excD d (fl.zip vs))) a (excO a C d)) ∧
    IsX (upd (upd (upd (upd H a (excRaw a C)) a (excNew a C d)) d (excD d (fl.zip vs))) a (excO a C d)) a C (fl.zip vs) := by
  refine ⟨fun b o h => ?_, d, upd_same, by rw [upd_ne ne, upd_same]⟩
  have na : b ≠ a := fun z => by rw [z, ha] at h; cases h
  have nd : b ≠ d := fun z => by rw [z, hd] at h; cases h
  rw [upd_ne na, upd_ne nd, upd_ne na, upd_ne na]
  exact h
theorem ps_raise (M : XMk X.prog X.w X.K X.mg X.base k x C fl) (hr : Room (k + 1) X.A) (hc : X.calm = true) (hg : Gl X x) (hx : PassX X R) (ha : PA X (e :: es) t) (hdb : (x == ("__debug__" : Str)) = false)
    (he : starEach (e :: es) X.env = (false, eval e X.env) :: starEach es X.env) (hpl : (backTo cpos (starEach es X.env)).any (·.1) = false) : PS X (.Raise (some (.Call (.Name x p) (e :: es) [] cpos)) none pos) (tRaise C fl R t) := by
  intro pins s σ H D I h
  rw [arm_exec_Raise]
  refine wpAny_bind (wpAny_standAt (thrown (pins := pins) (σ := σ) (C := C) hc M.cl hx (wpAny_bind (thn (Q := fun v s1 => ∃ x d H1, v = .ref x ∧ Inv X pins σ H1 s1 ∧ H1 x = some (excNew x C d) ∧ R σ (.ref C) (some x) (upd H1 x (excO x C d))) ?_ fun v s3 h3 => wpAny_bind (wpAny_standAt (wpAny_pure h3))))))
  refine wpAny_Call_Name_kw (ld_glob I hg M.at_ ?_ hdb)
  refine PySem.W.callWith_K (h₀ := X.base) I.ok.mod.kin M.kp (thn (ha cpos pins s σ H _ I h) fun us s1 ⟨vs, H1, I1, r, hl, hz, q⟩ => ⟨I1.kIn, ?_⟩) he hpl
  refine made_x M hr I1 r hl hz fun a d s2 z1 z2 ne I2 => ⟨a, d, _, rfl, I2, ?_, ?_⟩
  · rw [upd_ne (Ne.symm ne), upd_same]
  · obtain ⟨w1, w2⟩ := raised_heap (C := C) (fl := fl) (vs := vs) z1 z2 ne
    exact q a _ w1 w2
theorem PS.nox {st : Stmt} {t : TS} (h : PS X.nox st t) : PS X st t := fun pins s σ H D I hw =>
  wpAny_mono (h pins s σ H D (I.wish _) hw) (fun _ _ q => q.unwish) fun _ _ z => False.elim z
end
section
variable {X : Cx} {pins : List (Addr × Obj)} {σ σ' : St} {H : Hp} {s : Shared} {h' : Heap}
end
end L2

namespace L2
open PySem PySem.Spec PyProof.Rows
section
variable {X : Cx} {pins pins' : List (Addr × Obj)} {σ : St} {H : Hp} {s : Shared} {x C d T : Addr} {R : St → XK} {D : Ends}
noncomputable abbrev TH := Ends → St → Addr → Addr → Hp → Prop
noncomputable def PH (X : Cx) (hs : List ExceptHandler) (th : TH) : Prop := ∀ (pins : List (Addr × Obj)) (s : Shared) (σ : St) (H : Hp) (D : Ends) (x C d T : Addr), Inv X pins σ H s → Head X pins H x C d T s.heap → th D σ x C H →
  wpAny (model X.prog X.w) X.A (handleBy (.ref x) X.env hs) (SP X pins D) X.xe s
variable {nm n : Str} {P : Addr} {i : Nat} {p pos : Pos} {b0 : Stmt} {suite : List Stmt} {ts : TS} {th : TH} {hs : List ExceptHandler}
end
end L2

namespace L2
open PySem PySem.Spec PyProof.Rows
noncomputable def clsA (mg : Str → Option Value) (x : Str) : Addr := match mg x with
  | some (.ref a) => a
  | _ => 0
theorem clsA_of {mg : Str → Option Value} {x : Str} {C : Addr} (h : mg x = some (.ref C)) : clsA mg x = C := by unfold clsA; rw [h]
structure CTxt (K : PySem.W.Frag) (mg : Str → Option Value) (x : Str) : Prop where
  at_ : mg x = some (.ref (clsA mg x))
  cl : XCl K (clsA mg x)
theorem ct_mk {K : PySem.W.Frag} {mg : Str → Option Value} {h : Heap} (X : K.In h) (G : h.Ns mainGlobals mg) {x : Str} {C : Addr} (a : PySem.W.nsIn K mainGlobals x = some (some (.ref C))) (b : xclIn K C = true) : CTxt K mg x := by
  have m := PySem.W.mg_of X G a
  have e := clsA_of m
  exact ⟨by rw [e]; exact m, by rw [e]; exact xclIn_of b⟩
structure XTxt (K : PySem.W.Frag) (mg : Str → Option Value) (x : Str) (fl : List Str) (qual : Str) (st : Stmt) : Prop where
  c : CTxt K mg x
  kp : PySem.W.keepIn K (.ref (clsA mg x)) = true
  na : ∀ f ∈ fl, NoAttr K (clsA mg x) f
  ini : ∃ f fd, PySem.W.findIn K (.ref (clsA mg x)) "__init__" = some (some (.ref f)) ∧ PySem.W.typeIn K (.ref f) = some (.type "function") ∧ Fun K "__init__" qual st f fd
noncomputable def noneOf (K : PySem.W.Frag) (C : Addr) (fl : List Str) : Bool := fl.all fun n => PySem.W.findIn K (.ref C) n == some none
theorem xt_mk {K : PySem.W.Frag} {mg : Str → Option Value} {h : Heap} (X : K.In h) (G : h.Ns mainGlobals mg) {x qual : Str} {C f : Addr} {fl : List Str} {st : Stmt} {oc : Value} {od an : Option Addr} {osl : Array (Option Value)} {kV doc pm cdv ct : Value}
    (a : PySem.W.nsIn K mainGlobals x = some (some (.ref C))) (b : xclIn K C = true) (kp : PySem.W.keepIn K (.ref C) = true) (na : noneOf K C fl = true)
    (i : PySem.W.findIn K (.ref C) "__init__" = some (some (.ref f))) (t : PySem.W.typeIn K (.ref f) = some (.type "function"))
    (l : K.lookup f = some ⟨oc, od, .func (PySem.W.fnOf "__init__" qual (defArgs st) (defBody st) (defScope st) .none kV doc pm an cdv ct), osl⟩) (c : PySem.W.codeIn K cdv qual = true) (k : PySem.W.keepIn K (.ref f) = true) : XTxt K mg x fl qual st := by
  have m := PySem.W.mg_of X G a
  have e := clsA_of m
  refine ⟨ct_mk X G a b, by rw [e]; exact kp, fun n hn => ?_, f, _, by rw [e]; exact i, t, fun_mk l c k⟩
  rw [e]
  have := List.all_eq_true.mp na n hn
  exact beq_iff_eq.mp this
structure Sub (K : PySem.W.Frag) (mg : Str → Option Value) (x y : Str) (b : Bool) : Prop where
  mro : PySem.W.mroIn K (clsA mg x) (.ref (clsA mg y)) = some b
  one : PySem.W.kitOne K (.ref (clsA mg x)) (.ref (clsA mg y)) = some b
structure JH (X : Cx) (hs : List ExceptHandler) (th : TH) : Prop where
  run : PH X hs th
section
variable {X : Cx} {K : PySem.W.Frag} {k : Nat} {x n fn : Str} {ps : List Str} {sp : Sp} {R : St → XK} {p pos cpos pos' : Pos} {e o value : Expr} {es : List Expr} {t : TA} {ta tv : TE} {st : Stmt} {u ts : TS} {th : TH} {hs : List ExceptHandler} {i : Nat}
theorem j_callX (F : HasX X.prog X.w X.K X.mg X.base k x ps sp) (hr : Room k X.A) (hg : Gl X x) (hx : PassX X R) (ha : JA X (e :: es) t) (hdb : (x == ("__debug__" : Str)) = false) (h : autoParam ((e :: es).all notStar = true) L2.auto4._auto_1) :
    JE X (.Call (.Name x p) (e :: es) [] pos) (tCallX sp R t) := by
  have h1 : notStar e = true := by simp only [List.all_cons, Bool.and_eq_true] at h; exact h.1
  have h2 : es.all notStar = true := by simp only [List.all_cons, Bool.and_eq_true] at h; exact h.2
  exact ⟨pe_callX F hr hg hx ha.run hdb (se_cons h1) (se_any h2)⟩
theorem js_nox (h : JS X.nox st u) : JS X st u := ⟨h.run.nox⟩
theorem js_fldX (hK : X.K = K) (ha : JE X o ta) (hv : JE X value tv) (h : autoParam (notComp value = true) L2.auto4._auto_1) : JS X (.Assign [.Attribute o fn pos'] value pos) (sFldX K ta tv fn) := by
  subst hK
  exact ⟨ps_fldX ha.run hv.run (sw_no h)⟩
theorem js_raise {fl : List Str} (M : XMk X.prog X.w X.K X.mg X.base k x (clsA X.mg x) fl) (hr : Room (k + 1) X.A) (hc : X.calm = true) (hg : Gl X x) (hx : PassX X R) (ha : JA X (e :: es) t) (hdb : (x == ("__debug__" : Str)) = false) (h : autoParam ((e :: es).all notStar = true) L2.auto4._auto_1) :
    JS X (.Raise (some (.Call (.Name x p) (e :: es) [] cpos)) none pos) (tRaise (clsA X.mg x) fl R t) := by
  have h1 : notStar e = true := by simp only [List.all_cons, Bool.and_eq_true] at h; exact h.1
  have h2 : es.all notStar = true := by simp only [List.all_cons, Bool.and_eq_true] at h; exact h.2
  exact ⟨ps_raise M hr hc hg hx ha.run hdb (se_cons h1) (se_any h2)⟩
end
section
variable {P : Program} {w : World} {K : PySem.W.Frag} {mg : Str → Option Value} {base : Heap}
theorem hasJX {x : Str} {st : Stmt} {N ps : List Str} {k : Nat} {sp : Sp} (D : Def K mg x st) (S : FnScope N ps (defScope st))
    (hb : ∀ (kV doc pm : Value) (an : Option Addr) (cdv ct : Value) (us : List Value), us.length = ps.length → bindArgs (PySem.W.fnOf x x (defArgs st) (defBody st) (defScope st) .none kV doc pm an cdv ct) ⟨us, []⟩ = pure (ps.zip us))
    (len : ∀ vs H Q E, sp vs H Q E → vs.length = ps.length)
    (hbody : ∀ (f : Addr) (cdv : Value) (A : Around) (outer : List Env) (s : Shared) (H : Hp) (vs : List V) (Q : VK) (E : XK), Room k (A.deeper (envOfC x (defScope st) s.heap.objs.size f cdv)) → sp vs H Q E →
      ∃ t, JB (cxOf (CX1 P w) P w K mg base N x (defScope st) f cdv A outer s H E) (defBody st) t ∧ t { nx := fun _ H' => Q .non H', rt := Q } (start N vs) H) : HasX P w K mg base (k + 1) x ps sp := by
  obtain ⟨f, fd, F, hm⟩ := D
  refine ⟨f, fd, hm, F.kp, F.binds hb, ?_⟩
  obtain ⟨oc, od, kV, doc, pm, an, cdv, ct, osl, rfl, lk, hcd⟩ := F.ex
  exact fn_of lk hcd S len fun A outer s H vs Q E hr h => let ⟨t, j, q⟩ := hbody f cdv A outer s H vs Q E hr h; ⟨t, j.run, q⟩
theorem mkX {x qual : Str} {st : Stmt} {N ps : List Str} {fl : List Str} {k : Nat} (D : XTxt K mg x fl qual st) (S : FnScope N ps (defScope st))
    (hb : ∀ (kV doc pm : Value) (an : Option Addr) (cdv ct : Value) (us : List Value), us.length = ps.length → bindArgs (PySem.W.fnOf "__init__" qual (defArgs st) (defBody st) (defScope st) .none kV doc pm an cdv ct) ⟨us, []⟩ = pure (ps.zip us))
    (hl : ps.length = fl.length + 1)
    (hbody : ∀ (f : Addr) (cdv : Value) (A : Around) (outer : List Env) (s : Shared) (H : Hp) (vs : List V) (Q : VK) (E : XK), Room k (A.deeper (envOfC qual (defScope st) s.heap.objs.size f cdv)) → spInit (clsA mg x) fl vs H Q E →
      ∃ t, JB (cxOf CX0 P w K mg base N qual (defScope st) f cdv A outer s H E).nox (defBody st) t ∧ t { nx := fun _ H' => Q .non H', rt := Q } (start N vs) H) : XMk P w K mg base (k + 1) x (clsA mg x) fl := by
  obtain ⟨f, fd, a, b, F⟩ := D.ini
  refine ⟨D.c.at_, D.c.cl, D.kp, D.na, f, fd, ps, a, b, F.binds hb, F.ok S (fun vs H Q E h => ?_) fun cdv A outer s H vs Q E hr h => let ⟨t, j, q⟩ := hbody f cdv A outer s H vs Q E hr h; ⟨t, j.run, q⟩⟩
  obtain ⟨y, ws, rfl, hw, _⟩ := h
  rw [List.length_cons, hw, hl]
end
end L2

namespace L2
open PySem PySem.Spec PyProof.Rows
noncomputable def initOf : Stmt → Stmt
  | .ClassDef _ _ _ (s :: _) _ _ _ _ _ _ _ => s
  | s => s
section
variable {σ : St} {H : Hp} {D : Ends} {Q : VK} {sp : Sp} {R : St → XK} {a : TA} {K : PySem.W.Frag} {C P : Addr} {fl : List Str} {th : TH} {ts : TS} {i : Nat} {ta : TE} {f : Str}
theorem r_callX (h : a σ H fun vs H1 => sp vs H1 Q (R σ)) : tCallX sp R a σ H Q := h
theorem r_raise (h : a σ H fun vs H1 => vs.length = fl.length ∧ vs.length ≤ sizeLine ∧ ∀ x H2, Same H1 H2 → IsX H2 x C (fl.zip vs) → R σ (.ref C) (some x) H2) : tRaise C fl R a D σ H := h
theorem r_isiVT {x : V} {t : Value} {p : Addr} {vs : List V} {cs : List Value} {b : Bool} (ty : TyOf K H x t) (hp : H p = some (.tup vs)) (e : clVs vs = some cs) (o : PySem.W.kitAny K t cs = some b) (h : Q (.bl b) H) : rIsiX K [x, .ref p] H Q :=
  ⟨x, t, b, .inl ty, .inr ⟨p, vs, cs, rfl, hp, e, o⟩, h⟩
theorem rd1 {f1 p0 p1 : Str} {vs : List V} {E : XK} (c : XCls K C) (n : NoAttr K C f1) (h : spInit C [f1] vs H Q E) : sFldX K (tVar 0) (tVar 1) f1 { nx := fun _ H' => Q .non H', rt := Q } (start [p0, p1] vs) H := by
  obtain ⟨x, ws, rfl, hw, hx, q⟩ := h
  match ws, hw with
  | [v], _ => exact ⟨v, rfl, .ref x, rfl, x, C, rfl, c, n, .inl ⟨hx, fun d hd ne => q d hd ne⟩⟩
theorem rd2 {f1 f2 p0 p1 p2 : Str} {vs : List V} {E : XK} (c : XCls K C) (n : NoAttr K C f1) (n2 : NoAttr K C f2) (ne : f1 ≠ f2) (h : spInit C [f1, f2] vs H Q E) :
    tSeq (sFldX K (tVar 0) (tVar 1) f1) (sFldX K (tVar 0) (tVar 2) f2) { nx := fun _ H' => Q .non H', rt := Q } (start [p0, p1, p2] vs) H := by
  obtain ⟨x, ws, rfl, hw, hx, q⟩ := h
  match ws, hw with
  | [v, u], _ =>
    refine ⟨v, rfl, .ref x, rfl, x, C, rfl, c, n, .inl ⟨hx, fun d hd nd => ?_⟩⟩
    refine ⟨u, rfl, .ref x, rfl, x, C, rfl, c, n2, .inr ⟨d, [(f1, v)], ?_, upd_same, by show 1 < 1000; decide, ?_⟩⟩
    · rw [upd_ne (Ne.symm nd), upd_same]
    · rw [upd_upd]
      have e : putF f2 u [(f1, v)] = [(f1, v), (f2, u)] := by
        show (if f1 = f2 then _ else _) = _
        rw [if_neg ne]
        rfl
      rw [e]
      exact q d hd nd
end
end L2

namespace L2
open PySem PySem.Spec PyProof.Rows
noncomputable def Itr3 (lo c : Int) (n : Nat) : It := ⟨fun i _ => i < n, fun i H x H' => H' = H ∧ x = .int (lo + i * c), fun i _ => n ≤ i⟩
theorem turn_rng3 {P : Program} {w : World} {K : PySem.W.Frag} {tg : Expr} (it : Addr) (lo c : Int) (n : Nat) : Turn P w K tg (Itr3 lo c n) [it] it (fun i h => IsRangeIter h it (lo + (i : Nat) * c) ((n : Int) - (i : Nat)) c) where
  mem := by simp
  obj := fun i h st b hb => by
    obtain rfl : b = it := by simpa using hb
    exact ⟨_, st, fun v z => by
      have z2 : Data.fields _ = Data.cell v := z
      cases z2⟩
  keep := fun i h h' st k => k it (by simp) _ st
  item := by
    intro X hP hw hK hc i pins s σ H E I hf st hg
    subst hP hw hK
    obtain ⟨f0, f1, f2, f3, f4, f5⟩ := hf it (by simp)
    have W := Walks.range (prog := X.prog) (w := X.w) (I.ok.hd hc) it lo c n
    refine W.item i s _ _ hg st fun v h' tk hv st' kk => ?_
    obtain ⟨t, rfl⟩ := hv
    have I1 : Inv X pins σ H { s with heap := h', toks := tk } := I.turned (fun b o hb e => kk b o (by simpa using hb) e) f0 f1 f3 f4 f5
    exact ⟨_, rfl, go_of (s := { s with heap := h', toks := tk }) (n := "range_iterator") st' rfl rfl (by decide) ⟨.int (lo + i * c), H, I1, ⟨t, rfl⟩, ⟨rfl, rfl⟩, st', fun b hb => (hf b hb).1⟩⟩
  done := by
    intro X hP hw hK hc i pins s σ H E I hf st hg
    subst hP hw hK
    obtain ⟨f0, f1, f2, f3, f4, f5⟩ := hf it (by simp)
    exact wpAny_pyNext_range_end (I.ok.hd hc) st (by have : n ≤ i := hg; omega) fun h' eb => ⟨rfl, I.turned (t' := s.toks) (fun b o hb e => eb b o hb e) f0 f1 f3 f4 f5⟩
  self := fun _ _ _ _ _ st h => wpAny_pyIter_rangeiter st h
noncomputable def iRng3 (ta : TA) : TI := fun σ H R => ta σ H fun vs H1 => ∃ (i j c : Int) (n : Nat), vs = [.int i, .int j, .int c] ∧ c ≠ 0 ∧ Builtin.divisionGoesByPylong (j - i) c = false ∧ Builtin.Range.small i j c = true ∧ Builtin.Range.rangeSize i j c = (n : Int) ∧ R (Itr3 i c n) H1
section
variable {X : Cx} {tg : Expr}
theorem pi_range3 {a b c : Expr} {ta : TA} {p pos : Pos} (hg : Gl X "range") (hm : X.mg "range" = none) (ha : PA X [a, b, c] ta) (hs : starEach [a, b, c] X.env = (false, eval a X.env) :: starEach [b, c] X.env) (hs2 : (backTo pos (starEach [b, c] X.env)).any (·.1) = false) :
    PI X tg (.Call (.Name "range" p) [a, b, c] [] pos) (iRng3 ta) := by
  intro pins s σ H R I h
  refine Call_ (ld_blt I hg hm boot_range (PyProof.Rows.callWith_type1 (thn (ha pos pins s σ H _ I h) fun us s1 ⟨vs, H1, I1, r1, q1⟩ => ?_) hs hs2))
  obtain ⟨i, j, c, n, rfl, hc, hd, hsm, hn, q⟩ := q1
  cases r1 with
  | cons r rr =>
    cases rr with
    | cons r' rr =>
      cases rr with
      | cons r'' rr =>
        cases rr
        obtain ⟨t, rfl⟩ := r
        obtain ⟨t', rfl⟩ := r'
        obtain ⟨t'', rfl⟩ := r''
        refine call_range_3 hc ?_ (.inl hd)
        refine wpAny_pyIter_range (IsRange.new ..) hsm ?_
        have I2 : Inv X pins σ H1 { s1 with heap := s1.heap.push { cls := .type "range", data := .fields #[.int i t, .int j t', .int c t''] } } := I1.kept (t' := s1.toks) fun b o e => Heap.get?_push_of_some _ e
        refine ⟨(s1.heap.push { cls := .type "range", data := .fields #[.int i t, .int j t', .int c t''] }).objs.size, [(s1.heap.push { cls := .type "range", data := .fields #[.int i t, .int j t', .int c t''] }).objs.size], _, _, H1, rfl,
          I2.kept (t' := s1.toks) fun b o e => Heap.get?_push_of_some _ e, turn_rng3 _ i c n, ?_, fun b hb => ?_, q⟩
        · have e1 : i + ((0 : Nat) : Int) * c = i := by simp
          have e2 : (n : Int) - ((0 : Nat) : Int) = Builtin.Range.rangeSize i j c := by rw [hn]; simp
          show IsRangeIter _ _ (i + ((0 : Nat) : Int) * c) ((n : Int) - ((0 : Nat) : Int)) c
          rw [e1, e2]
          exact Heap.get?_push_size _ rfl
        · obtain rfl : b = (s1.heap.push { cls := .type "range", data := .fields #[.int i t, .int j t', .int c t''] }).objs.size := by simpa using hb
          exact I2.fpOk (Nat.le_refl _) (I2.hok.fresh (Nat.le_refl _))
theorem ji_range3 {a b c : Expr} {ta : TA} {p pos : Pos} (hg : Gl X "range") (hm : X.mg "range" = none) (ha : JA X [a, b, c] ta) (h : autoParam (notStar a = true) L2.auto4._auto_1) (h2 : autoParam ([b, c].all notStar = true) L2.auto4._auto_1) : JI X tg (.Call (.Name "range" p) [a, b, c] [] pos) (iRng3 ta) :=
  ⟨pi_range3 hg hm ha.run (se_cons h) (se_any h2)⟩
end
section
variable {σ : St} {H : Hp} {Q : VK}
theorem r_rng3 {a : TA} {R : It → Hp → Prop} (h : a σ H fun vs H1 => ∃ (i j c : Int) (n : Nat), vs = [.int i, .int j, .int c] ∧ c ≠ 0 ∧ Builtin.divisionGoesByPylong (j - i) c = false ∧ Builtin.Range.small i j c = true ∧ Builtin.Range.rangeSize i j c = (n : Int) ∧ R (Itr3 i c n) H1) : iRng3 a σ H R := h
theorem for_rng3 {lo c : Int} {n : Nat} {g : TG} {tb : TS} {D : Ends} (Pv : Nat → St → Hp → Prop) (h0 : Pv 0 σ H)
    (hs : ∀ i σ H, i < n → Pv i σ H → g (.int (lo + i * c)) σ H fun σ2 H2 => tb { D with nx := Pv (i + 1), ct := Pv (i + 1), bk := D.nx } σ2 H2) (hd : ∀ σ H, Pv n σ H → D.nx σ H) :
    ∃ W : Nat → Nat → St → Hp → Prop, (∃ m, W 0 m σ H) ∧ ∀ i m σ H, W i m σ H →
      ((Itr3 lo c n).stop i H ∧ D.nx σ H) ∨ ((Itr3 lo c n).go i H ∧ ∃ N : St → Hp → Prop, (∀ σ' H', N σ' H' → ∃ m', m' < m ∧ W (i + 1) m' σ' H') ∧ ∀ x H', (Itr3 lo c n).yld i H x H' → g x σ H' fun σ2 H2 => tb { D with nx := N, ct := N, bk := D.nx } σ2 H2) := by
  refine ⟨fun i m σ H => m = n - i ∧ i ≤ n ∧ Pv i σ H, ⟨n, by simp, Nat.zero_le _, h0⟩, ?_⟩
  rintro i m σ H ⟨rfl, hi, p⟩
  by_cases hlt : i < n
  · refine .inr ⟨hlt, Pv (i + 1), fun σ' H' p' => ⟨n - (i + 1), by omega, rfl, hlt, p'⟩, fun x H' y => ?_⟩
    obtain ⟨rfl, rfl⟩ := y
    exact hs i σ _ hlt p
  · obtain rfl : i = n := by omega
    exact .inl ⟨Nat.le_refl _, hd σ H p⟩
end
section
variable {X : Cx} {e : Expr} {te : TE} {lo hi : Option Expr} {st : Expr} {tl th ts : TO} {pos p2 : Pos}
theorem j_dnewK : JE X (.Dict [] [] pos) tDNewK := ⟨pe_dnewK⟩
end
section
variable {σ : St} {H : Hp} {Q : VK} {te : TE}
theorem r_dnew (h : ∀ p, H p = none → Q (.ref p) (upd H p (.dK []))) : tDNewK σ H Q := h
end
noncomputable def rEqI (K : PySem.W.Frag) (neg : Bool) : R2 := fun x y H Q => ∃ a b xs, x = .ref a ∧ y = .ref b ∧ SqL K H a xs ∧ SqL K H b xs ∧ (∀ v ∈ xs, flatV v = true ∨ ∃ r, v = .ref r) ∧ Q (.bl (!neg)) H
theorem eqV_refl {v : V} (f : flatV v = true) : eqV v v = true := by
  cases v <;> first | (cases f; done) | rfl | (simp [eqV])
section
variable {X : Cx}
theorem op_eqI (hu : X.A.units < cLine) : OpR X (compareOp .Eq) (rEqI X.K false) := by
  intro pins s σ H x y v u Q I rx ry h
  obtain ⟨a, b, xs, rfl, rfl, ha, hb, fx, q⟩ := h
  cases rx
  cases ry
  obtain ⟨its, r1, p1, z1⟩ := I.list ha
  obtain ⟨jts, r2, p2, z2⟩ := I.list hb
  have l1 : its.toArray.size = xs.length := by simpa using r1.length.symm
  have l2 : jts.toArray.size = xs.length := by simpa using r2.length.symm
  refine SeqAt.eq_listAt (e := fun _ => true) p1.isList p2.isList (by rw [l1, l2]) hu (fun j h1 h2 => ?_) ?_
  · have hj : j < xs.length := by omega
    obtain ⟨u1, e1, q1⟩ := r1.get (List.getElem?_eq_getElem hj)
    obtain ⟨u2, e2, q2⟩ := r2.get (List.getElem?_eq_getElem hj)
    have f1 : its.toArray[j] = u1 := by
      obtain ⟨_, z⟩ := List.getElem?_eq_some_iff.mp e1
      simpa using z
    have f2 : jts.toArray[j] = u2 := by
      obtain ⟨_, z⟩ := List.getElem?_eq_some_iff.mp e2
      simpa using z
    rw [f1, f2]
    rcases fx _ (List.getElem_mem hj) with f | ⟨r, f⟩
    · rw [← eqV_refl f]
      exact eqAt_V q1 q2 f f
    · rw [f] at q1 q2
      cases (show u1 = Value.ref r from q1)
      cases (show u2 = Value.ref r from q2)
      exact SeqAt.EqAt.same _
  · have e : (List.range its.toArray.size).all (fun _ => true) = true := by simp
    rw [e]
    exact ⟨.bl true, H, I, rfl, q⟩
noncomputable def rEqC (K : PySem.W.Frag) : R2 := fun x y H Q => rEqB K x y H Q ∨ rEqI K false x y H Q
theorem op_eqC {K : PySem.W.Frag} (hK : X.K = K) (hu : X.A.units + 64 < cLine) : OpR X (compareOp .Eq) (rEqC K) := by
  subst hK
  exact (op_eqX rfl hu).or (op_eqI (Nat.lt_of_le_of_lt (Nat.le_add_right _ _) hu))
end
section
variable {H : Hp} {Q : VK} {K : PySem.W.Frag}
theorem r_eqCI {i j : Int} (h : Q (.bl (decide (V.int i = V.int j))) H) : rEqC K (.int i) (.int j) H Q := .inl (r_eqBI h)
end
end L2

namespace L2
open PySem PySem.Spec PyProof.Rows
open AutoSeq1 (wpAny_loadPart')
theorem dd_sub : isSubtype (.type "dict") (.type "dict") = pure true := by rw [isSubtype_type]; kernel_rfl
theorem dict_self {prog : Program} {w : World} {A : Around} {E : Value → Shared → Prop} {s : Shared} {Q : Value → Shared → Prop} {a : Addr} {o : Obj} {e : DictEntry} {ep : Nat} {k : Key} (ho : s.heap.get? a = some o) (hc : o.cls = .type "dict") (hd : o.data = .dict #[e] ep)
    (hkey : (mixKind prog w).is k e.key = true) (hh : e.hash = (mixKind prog w).hash k) (hsm : (a == sysModules) = false) (hu : A.units < cLine) (h : Q (.bool true) s) : wpAny (model prog w) A (compareOp .Eq (.ref a) (.ref a)) Q E s := by
  show wpAny _ _ (richCompare .Eq (.ref a) (.ref a)) _ _ _
  refine wpAny_richCompare_same_room ⟨o, ho, hc⟩ ⟨o, ho, hc⟩ F.slot_dict_eq (wpAny_call (codeAny_call_builtin F.slot_dict_eq.plain F.entry_dict_eq (F.slot_dict_eq.check _ _ _ _ _ _ _ _ ⟨o, ho, hc⟩ (F.args_dict_eq_2 _ _) ?_))) hu
  have ko : KeysOf (mixKind prog w) #[e] := fun x hx => by
    simp at hx
    subst hx
    exact ⟨k, hkey, hh⟩
  have f2 := dd_sub
  obtain ⟨hp, g, d, tk, os⟩ := s
  have hT : (⟨hp, g, d, tk, os⟩ : Shared).TypeIs (.ref a) "dict" := ⟨_, ho, hc⟩
  unfold Builtin.«dict.__eq__»
  wp_walk using wpAny_loadPart' ho
  have en : ∀ (Q : Array DictEntry → Shared → Prop) (E : Value → Shared → Prop), Q #[e] ⟨hp, g, d, tk, os⟩ → wpAny (model prog w) A.in1 (dictEntries a) Q E ⟨hp, g, d, tk, os⟩ := fun Q E q => by
    unfold dictEntries
    refine wpAny_bind (wpAny_loadPart ho ?_)
    simp only [hd]
    exact wpAny_pure q
  have eo : ∀ (Q : Nat → Shared → Prop) (E : Value → Shared → Prop), Q ep ⟨hp, g, d, tk, os⟩ → wpAny (model prog w) A.in1 (dictEpoch a) Q E ⟨hp, g, d, tk, os⟩ := fun Q E q => by
    unfold dictEpoch
    refine wpAny_bind (wpAny_loadPart ho ?_)
    simp only [hd]
    exact wpAny_pure q
  simp only [hd]
  refine wpAny_pure ?_
  refine wpAny_bind (en _ _ ?_)
  rw [if_neg (by simp)]
  refine wpAny_bind (eo _ _ ?_)
  refine wpAny_bind ?_
  rw [Std.Legacy.Range.forIn_eq_forIn_range']
  simp only [Std.Legacy.Range.size, Nat.sub_zero, Nat.add_sub_cancel, Nat.div_one]
  show wpAny _ _ (forIn [0] _ _) _ _ _
  rw [List.forIn_cons]
  refine wpAny_bind (wpAny_bind (en _ _ ?_))
  show wpAny _ _ (holding [e.key, e.val] _ >>= _) _ _ _
  refine wpAny_bind (wpAny_holding ?_)
  refine wpAny_bind (show wpAny (model prog w) A.in1 (dictFind a e.key e.hash) _ _ _ from ?_)
  rw [hh]
  refine wpAny_dictFind_of hkey ho hd ko ?_
  have fi : (#[e] : Array DictEntry).findIdx? (fun e => (mixKind prog w).is k e.key) = some 0 := by simp [hkey]
  rw [fi]
  refine wpAny_bind (en _ _ ?_)
  show wpAny _ _ (holding [e.val] (eqBool e.val e.val)) _ _ _
  refine wpAny_holding (SeqAt.EqAt.same e.val prog w _ _ ?_)
  rw [if_neg (by simp)]
  refine wpAny_bind (eo _ _ ?_)
  rw [if_neg (by simp)]
  refine wpAny_pure ?_
  show wpAny _ _ (forIn [] _ _) _ _ _
  rw [List.forIn_nil]
  refine wpAny_pure (wpAny_pure ?_)
  exact wpAny_pure ⟨(fun z => nomatch z), h⟩
section
variable {X : Cx}
noncomputable def rEqTI (K : PySem.W.Frag) : R2 := fun x y H Q => ∃ a b xs, x = .ref a ∧ y = .ref b ∧ SqT K H a xs ∧ SqT K H b xs ∧ (∀ v ∈ xs, flatV v = true ∨ ∃ r, v = .ref r) ∧ Q (.bl true) H
theorem op_eqTI (hu : X.A.units < cLine) : OpR X (compareOp .Eq) (rEqTI X.K) := by
  intro pins s σ H x y v u Q I rx ry h
  obtain ⟨a, b, xs, rfl, rfl, ha, hb, fx, q⟩ := h
  cases rx
  cases ry
  obtain ⟨its, r1, p1, z1⟩ := I.tuple ha
  obtain ⟨jts, r2, p2, z2⟩ := I.tuple hb
  have l1 : its.toArray.size = xs.length := by simpa using r1.length.symm
  have l2 : jts.toArray.size = xs.length := by simpa using r2.length.symm
  refine SeqAt.eq_tupleAt (e := fun _ => true) p1 p2 hu (fun j h1 h2 => ?_) ?_
  · have hj : j < xs.length := by omega
    obtain ⟨u1, e1, q1⟩ := r1.get (List.getElem?_eq_getElem hj)
    obtain ⟨u2, e2, q2⟩ := r2.get (List.getElem?_eq_getElem hj)
    have f1 : its.toArray[j] = u1 := by
      obtain ⟨_, z⟩ := List.getElem?_eq_some_iff.mp e1
      simpa using z
    have f2 : jts.toArray[j] = u2 := by
      obtain ⟨_, z⟩ := List.getElem?_eq_some_iff.mp e2
      simpa using z
    rw [f1, f2]
    rcases fx _ (List.getElem_mem hj) with f | ⟨r, f⟩
    · rw [← eqV_refl f]
      exact eqAt_V q1 q2 f f
    · rw [f] at q1 q2
      cases (show u1 = Value.ref r from q1)
      cases (show u2 = Value.ref r from q2)
      exact SeqAt.EqAt.same _
  · have e : ((List.range (min its.toArray.size jts.toArray.size)).all (fun _ => true) && its.toArray.size == jts.toArray.size) = true := by rw [l1, l2]; simp
    rw [e]
    exact ⟨.bl true, H, I, rfl, q⟩
noncomputable def rEqDI : R2 := fun x y H Q => ∃ a k v, x = .ref a ∧ y = .ref a ∧ H a = some (.dK [(k, v)]) ∧ Q (.bl true) H
theorem op_eqDI (hu : X.A.units < cLine) : OpR X (compareOp .Eq) rEqDI := by
  intro pins s σ H x y v u Q I rx ry h
  obtain ⟨a, k, z, rfl, rfl, ha, q⟩ := h
  cases rx
  cases ry
  obtain ⟨_, hsm, vs, kv, o, es, ep, h1, h2, h3, h4, h5, h6⟩ := (show ObjOk X.prog X.w H s.heap a (.dK [(k, z)]) from I.hok a _ ha)
  cases kv with
  | cons a1 a2 =>
    cases a2
    obtain ⟨l⟩ := es
    dsimp only at h5
    cases h5 with
    | @cons en _ _ _ p1 p2 p3 =>
      cases p3
      obtain ⟨k', b1, b2⟩ := h4 en (by simp)
      exact dict_self (e := en) h1 h2.1 h3 b1 b2 hsm hu ⟨.bl true, H, I, rfl, q⟩
noncomputable def rEqE (K : PySem.W.Frag) : R2 := fun x y H Q => rEqC K x y H Q ∨ rEqTI K x y H Q ∨ rEqDI x y H Q
theorem op_eqE {K : PySem.W.Frag} (hK : X.K = K) (hu : X.A.units + 64 < cLine) : OpR X (compareOp .Eq) (rEqE K) := by
  subst hK
  exact (op_eqC rfl hu).or ((op_eqTI (Nat.lt_of_le_of_lt (Nat.le_add_right _ _) hu)).or (op_eqDI (Nat.lt_of_le_of_lt (Nat.le_add_right _ _) hu)))
end
section
variable {H : Hp} {Q : VK} {K : PySem.W.Frag}
theorem r_chain {σ : St} {r r' : R2} {ta tb tc : TE} (h : ta σ H fun x H1 => tb σ H1 fun y H2 => r x y H2 fun z H3 => ∃ k, z = .bl k ∧ if k = true then tc σ H3 fun w H4 => r' y w H4 Q else Q (.bl false) H3) : tChain r r' ta tb tc σ H Q := h
theorem r_eqEI {i j : Int} (h : Q (.bl (decide (V.int i = V.int j))) H) : rEqE K (.int i) (.int j) H Q := .inl (r_eqCI h)
end
end L2

namespace L2
open PySem PySem.Spec PyProof.Rows PySem.SeqAt
theorem layAll {n : Nat} : ∀ {ds : List PyData}, (∀ d ∈ ds, d.canLay0 = true ∧ d.depth ≤ n) → PyData.canLayAll0 ds = true ∧ PyData.depthAll ds ≤ n
  | [], _ => ⟨rfl, by simp [PyData.depthAll]⟩
  | d :: ds, h => by
    obtain ⟨a, b⟩ := layAll fun e he => h e (List.mem_cons_of_mem _ he)
    obtain ⟨c, e⟩ := h d (by simp)
    rw [PyData.canLayAll0, PyData.depthAll, a, c]
    exact ⟨rfl, by omega⟩
theorem lay_list {n : Nat} {ds : List PyData} (h : ∀ d ∈ ds, d.canLay0 = true ∧ d.depth ≤ n) : (PyData.list ds).canLay0 = true ∧ (PyData.list ds).depth ≤ n + 1 := by
  obtain ⟨a, b⟩ := layAll h
  rw [PyData.canLay0, PyData.depth]
  exact ⟨a, by omega⟩
theorem lay_int (s : Int) : (PyData.int s).canLay0 = true ∧ (PyData.int s).depth ≤ 0 := by simp [PyData.canLay0, PyData.depth]
theorem lay_shaped {d : PyData} {n : Nat} (h : d.canLay0 = true ∧ d.depth ≤ n) (hn : n ≤ 64) : shaped d = true := by
  unfold shaped
  rw [h.1, decide_eq_true (by omega)]; rfl
theorem r_new {xs : List V} {H : Hp} {R : Addr → Prop} (c : Nat.ble xs.length 64 = true) (h : ∀ p, H p = none → R p) : xs.length ≤ sizeLine ∧ ∀ p, H p = none → R p :=
  ⟨Nat.le_trans (Nat.le_of_ble_eq_true c) (by decide), h⟩
theorem iteNT {A B : Prop} (h : A) : if (!false) = true then A else B := (if_pos (show (!false) = true from rfl)).mpr h
theorem iteNF {A B : Prop} (h : B) : if (!true) = true then A else B := by rw [if_neg (by simp)]; exact h
theorem r_cut {t u : TS} {D : Ends} {σ : St} {H : Hp} (M : St → Hp → Prop) (h1 : ∀ σ H, M σ H → u D σ H) (h2 : ∀ N, (∀ σ H, M σ H → N σ H) → t { D with nx := N } σ H) : tSeq t u D σ H := h2 _ h1
end L2

namespace L2
open PySem PySem.Spec PyProof.Rows PySem.SeqAt
open AutoSeq1 (wpAny_loadPart')
section
variable {X : Cx}
end
theorem dict_selfN {prog : Program} {w : World} {A : Around} {E : Value → Shared → Prop} {s : Shared} {Q : Value → Shared → Prop} {a : Addr} {o : Obj} {e : DictEntry} {ep : Nat} {k : Key} (ho : s.heap.get? a = some o) (hc : o.cls = .type "dict") (hd : o.data = .dict #[e] ep)
    (hkey : (mixKind prog w).is k e.key = true) (hh : e.hash = (mixKind prog w).hash k) (hsm : (a == sysModules) = false) (hu : A.units < cLine) (h : Q (.bool false) s) : wpAny (model prog w) A (compareOp .NotEq (.ref a) (.ref a)) Q E s := by
  show wpAny _ _ (richCompare .NotEq (.ref a) (.ref a)) _ _ _
  refine wpAny_richCompare_same_room ⟨o, ho, hc⟩ ⟨o, ho, hc⟩ F.slot_dict_ne (wpAny_call (codeAny_call_builtin F.slot_dict_ne.plain F.entry_dict_ne (F.slot_dict_ne.check _ _ _ _ _ _ _ _ ⟨o, ho, hc⟩ (F.args_dict_ne_2 _ _) ?_))) hu
  have ko : KeysOf (mixKind prog w) #[e] := fun x hx => by
    simp at hx
    subst hx
    exact ⟨k, hkey, hh⟩
  have f2 := dd_sub
  obtain ⟨hp, g, d, tk, os⟩ := s
  have hT : (⟨hp, g, d, tk, os⟩ : Shared).TypeIs (.ref a) "dict" := ⟨_, ho, hc⟩
  unfold Builtin.«dict.__ne__»
  wp_walk using wpAny_loadPart' ho
  have en : ∀ (Q : Array DictEntry → Shared → Prop) (E : Value → Shared → Prop), Q #[e] ⟨hp, g, d, tk, os⟩ → wpAny (model prog w) A.in1 (dictEntries a) Q E ⟨hp, g, d, tk, os⟩ := fun Q E q => by
    unfold dictEntries
    refine wpAny_bind (wpAny_loadPart ho ?_)
    simp only [hd]
    exact wpAny_pure q
  have eo : ∀ (Q : Nat → Shared → Prop) (E : Value → Shared → Prop), Q ep ⟨hp, g, d, tk, os⟩ → wpAny (model prog w) A.in1 (dictEpoch a) Q E ⟨hp, g, d, tk, os⟩ := fun Q E q => by
    unfold dictEpoch
    refine wpAny_bind (wpAny_loadPart ho ?_)
    simp only [hd]
    exact wpAny_pure q
  simp only [hd]
  refine wpAny_pure ?_
  refine wpAny_bind (en _ _ ?_)
  rw [if_neg (by simp)]
  refine wpAny_bind (eo _ _ ?_)
  refine wpAny_bind ?_
  rw [Std.Legacy.Range.forIn_eq_forIn_range']
  simp only [Std.Legacy.Range.size, Nat.sub_zero, Nat.add_sub_cancel, Nat.div_one]
  show wpAny _ _ (forIn [0] _ _) _ _ _
  rw [List.forIn_cons]
  refine wpAny_bind (wpAny_bind (en _ _ ?_))
  show wpAny _ _ (holding [e.key, e.val] _ >>= _) _ _ _
  refine wpAny_bind (wpAny_holding ?_)
  refine wpAny_bind (show wpAny (model prog w) A.in1 (dictFind a e.key e.hash) _ _ _ from ?_)
  rw [hh]
  refine wpAny_dictFind_of hkey ho hd ko ?_
  have fi : (#[e] : Array DictEntry).findIdx? (fun e => (mixKind prog w).is k e.key) = some 0 := by simp [hkey]
  rw [fi]
  refine wpAny_bind (en _ _ ?_)
  show wpAny _ _ (holding [e.val] (eqBool e.val e.val)) _ _ _
  refine wpAny_holding (SeqAt.EqAt.same e.val prog w _ _ ?_)
  rw [if_neg (by simp)]
  refine wpAny_bind (eo _ _ ?_)
  rw [if_neg (by simp)]
  refine wpAny_pure ?_
  show wpAny _ _ (forIn [] _ _) _ _ _
  rw [List.forIn_nil]
  refine wpAny_pure (wpAny_pure ?_)
  exact wpAny_pure ⟨(fun z => nomatch z), h⟩
theorem dict_selfN0 {prog : Program} {w : World} {A : Around} {E : Value → Shared → Prop} {s : Shared} {Q : Value → Shared → Prop} {a : Addr} {o : Obj} {ep : Nat} (ho : s.heap.get? a = some o) (hc : o.cls = .type "dict") (hd : o.data = .dict #[] ep)
    (hsm : (a == sysModules) = false) (hu : A.units < cLine) (h : Q (.bool false) s) : wpAny (model prog w) A (compareOp .NotEq (.ref a) (.ref a)) Q E s := by
  show wpAny _ _ (richCompare .NotEq (.ref a) (.ref a)) _ _ _
  refine wpAny_richCompare_same_room ⟨o, ho, hc⟩ ⟨o, ho, hc⟩ F.slot_dict_ne (wpAny_call (codeAny_call_builtin F.slot_dict_ne.plain F.entry_dict_ne (F.slot_dict_ne.check _ _ _ _ _ _ _ _ ⟨o, ho, hc⟩ (F.args_dict_ne_2 _ _) ?_))) hu
  have f2 := dd_sub
  obtain ⟨hp, g, d, tk, os⟩ := s
  have hT : (⟨hp, g, d, tk, os⟩ : Shared).TypeIs (.ref a) "dict" := ⟨_, ho, hc⟩
  unfold Builtin.«dict.__ne__»
  wp_walk using wpAny_loadPart' ho
  have en : ∀ (Q : Array DictEntry → Shared → Prop) (E : Value → Shared → Prop), Q #[] ⟨hp, g, d, tk, os⟩ → wpAny (model prog w) A.in1 (dictEntries a) Q E ⟨hp, g, d, tk, os⟩ := fun Q E q => by
    unfold dictEntries
    refine wpAny_bind (wpAny_loadPart ho ?_)
    simp only [hd]
    exact wpAny_pure q
  have eo : ∀ (Q : Nat → Shared → Prop) (E : Value → Shared → Prop), Q ep ⟨hp, g, d, tk, os⟩ → wpAny (model prog w) A.in1 (dictEpoch a) Q E ⟨hp, g, d, tk, os⟩ := fun Q E q => by
    unfold dictEpoch
    refine wpAny_bind (wpAny_loadPart ho ?_)
    simp only [hd]
    exact wpAny_pure q
  simp only [hd]
  refine wpAny_pure ?_
  refine wpAny_bind (en _ _ ?_)
  rw [if_neg (by simp)]
  refine wpAny_bind (eo _ _ ?_)
  refine wpAny_bind ?_
  rw [Std.Legacy.Range.forIn_eq_forIn_range']
  simp only [Std.Legacy.Range.size, Nat.sub_zero, Nat.add_sub_cancel, Nat.div_one]
  show wpAny _ _ (forIn [] _ _) _ _ _
  rw [List.forIn_nil]
  refine wpAny_pure (wpAny_pure ?_)
  exact wpAny_pure ⟨(fun z => nomatch z), h⟩
noncomputable def rNeDI : R2 := fun x y H Q => ∃ a kvs, x = .ref a ∧ y = .ref a ∧ H a = some (.dK kvs) ∧ kvs.length ≤ 1 ∧ Q (.bl false) H
section
variable {X : Cx}
theorem op_neDI (hu : X.A.units < cLine) : OpR X (compareOp .NotEq) rNeDI := by
  intro pins s σ H x y v u Q I rx ry h
  obtain ⟨a, kvs, rfl, rfl, ha, hl, q⟩ := h
  cases rx
  cases ry
  obtain ⟨_, hsm, vs, kv, o, es, ep, h1, h2, h3, h4, h5, h6⟩ := (show ObjOk X.prog X.w H s.heap a (.dK kvs) from I.hok a _ ha)
  match kvs, hl with
  | [], _ =>
    cases kv
    obtain ⟨l⟩ := es
    dsimp only at h5
    cases h5
    exact dict_selfN0 h1 h2.1 h3 hsm hu ⟨.bl false, H, I, rfl, q⟩
  | [(k, z)], _ =>
    cases kv with
    | cons a1 a2 =>
      cases a2
      obtain ⟨l⟩ := es
      dsimp only at h5
      cases h5 with
      | @cons en _ _ _ p1 p2 p3 =>
        cases p3
        obtain ⟨k', b1, b2⟩ := h4 en (by simp)
        exact dict_selfN (e := en) h1 h2.1 h3 b1 b2 hsm hu ⟨.bl false, H, I, rfl, q⟩
noncomputable def rNeE (K : PySem.W.Frag) : R2 := fun x y H Q => rNeB K x y H Q ∨ rNeDI x y H Q
theorem op_neE {K : PySem.W.Frag} (hK : X.K = K) (hu : X.A.units + 64 < cLine) : OpR X (compareOp .NotEq) (rNeE K) := (op_neX hK hu).or (op_neDI (Nat.lt_of_le_of_lt (Nat.le_add_right _ _) hu))
end
section
variable {H : Hp} {Q : VK} {K : PySem.W.Frag} {σ : St} {D : Ends}
theorem r_neEI {i j : Int} (h : Q (.bl (!decide (V.int i = V.int j))) H) : rNeE K (.int i) (.int j) H Q := .inl (r_neBI h)
end
end L2

namespace L2
open PySem PySem.Spec PyProof.Rows
noncomputable def rMaxA : List V → Hp → VK → Prop := fun xs H Q => (∃ i j, xs = [.int i, .int j] ∧ Q (.int (if j > i then j else i)) H) ∨ ∃ (p : Addr) (ns : List Int), xs = [.ref p] ∧ H p = some (.lst (ns.map V.int)) ∧ ns ≠ [] ∧ ∀ M, M ∈ ns → (∀ a ∈ ns, a ≤ M) → Q (.int M) H
noncomputable def rSorted : List V → Hp → VK → Prop := fun xs H Q => ∃ (p : Addr) (ns : List Int), xs = [.ref p] ∧ H p = some (.lst (ns.map V.int)) ∧ ns.length < 64 ∧ ∀ (q : Addr) (ms : List Int), H q = none → ms.Perm ns → ms.Pairwise (· ≤ ·) → Q (.ref q) (upd H q (.lst (ms.map V.int)))
section
variable {X : Cx}
theorem ints_vals : ∀ {us : List Value} {ns : List Int}, IntsAre us ns → Vals (ns.map V.int) us := by
  intro us
  induction us with
  | nil => intro ns h; cases h; exact .nil
  | cons u us ih =>
    intro ns h
    cases h with
    | cons a b => exact .cons ⟨_, rfl⟩ (ih (by assumption))
theorem call_maxA (hc : X.calm = true) : CallR X (.builtin "max") rMaxA := by
  intro pins s σ H xs us Q I r h
  rcases h with h | ⟨p, ns, rfl, hp, hne, q⟩
  · exact call_max2 hc pins s σ H xs us Q I r h
  · obtain ⟨u, rfl, ru⟩ := vals1 r
    cases ru
    obtain ⟨hz, its, n, rv, g⟩ := I.hok p _ hp
    have hi : IntsAre its ns := intsAre_of rv
    have hl := rv.length
    obtain ⟨ys, ey⟩ := hi.allInts.items
    have hn := hi.numsOf
    have hsz : 0 < ys.size := by
      have e1 := congrArg Array.size ey
      have : 0 < ns.length := List.length_pos_iff.mpr hne
      rw [List.length_map] at hl
      simp [intItems] at e1
      omega
    have hL : s.heap.IsList p (intItems ys) := ⟨_, g, rfl, n, by rw [← ey]⟩
    have en : ys.toList.map (·.1) = ns := by rw [← nums_intItems, ← ey, ← hn]
    refine max_intList (I.ok.hd hc) hL hsz fun v h' tk hv hk => ?_
    obtain ⟨t, rfl⟩ := intItems_at hv
    obtain ⟨h1, h2⟩ := argBest_gt (numAt ys) (ys.size - 1)
    refine ⟨.int _, H, I.kept hk, ⟨t, rfl⟩, q _ ?_ fun a ha => ?_⟩
    · rw [← en, numAt_eq]; exact getD_mem (by rw [List.length_map, Array.length_toList]; omega)
    · rw [← en] at ha
      obtain ⟨j, hj, rfl⟩ := mem_getD ha
      rw [List.length_map, Array.length_toList] at hj
      rw [← numAt_eq]; exact h2 j (by omega)
theorem call_sorted1 : CallR X (.builtin "sorted") rSorted := by
  intro pins s σ H xs us Q I r h
  obtain ⟨p, ns, rfl, hp, h64, q⟩ := h
  obtain ⟨u, rfl, ru⟩ := vals1 r
  cases ru
  obtain ⟨hz, its, n, rv, g⟩ := I.hok p _ hp
  have hi : IntsAre its ns := intsAre_of rv
  have hl := rv.length
  rw [List.length_map] at hl
  refine sorted_ints (vs := its) ⟨_, g, rfl, n, rfl⟩ hi (by omega) fun out ms ho hperm hs => ?_
  obtain ⟨e, he⟩ := sortedAll_at s.heap its out
  have hm : ms.length = ns.length := hperm.length_eq
  rw [List.length_map] at hz
  refine ⟨.ref (s.heap.objs.size + 1), _, I.laid (t' := s.toks) (o := .lst (ms.map V.int)) (fun b ob q => sortedAll_old q) (Nat.le_succ _) ⟨by rw [List.length_map]; omega, out.toList, e, ints_vals ho, by simpa using he⟩, rfl, q _ ms (I.hok.fresh (Nat.le_succ _)) hperm hs⟩
theorem js_aug {i : Nat} {x : Str} {e : Expr} {te : TE} {op : Operator} {r : R2} {pos pos' : Pos} (hN : X.N.Nodup) (hi : X.N[i]? = some x) (hx : Loc X.env.scope x) (he : JE X e te) (ho : OpR X (inplaceOp op) r) (hf : X.fn x = true) :
    JS X (.AugAssign (.Name x pos') op e pos) (tAug i te r) := ⟨ps_aug hN hi hx he.run ho (.inl hf)⟩
end
theorem small_down {i : Int} (h0 : -1 ≤ i) (h1 : i < 2 ^ 60) : Builtin.Range.small i (-1) (-1) = true := by
  unfold Builtin.Range.small Builtin.Range.rangeSize
  simp only [Builtin.Range.rangeFitsLong, Bool.and_eq_true, Bool.or_eq_true, decide_eq_true_eq, beq_iff_eq, show ¬ ((-1 : Int) > 0) by decide, if_false, show (-(-1 : Int)) = 1 by decide, Int.ediv_one]
  split <;> omega
theorem size_down {n : Nat} : Builtin.Range.rangeSize ((n : Int) - 1) (-1) (-1) = (n : Int) := by
  unfold Builtin.Range.rangeSize
  simp only [show ¬ ((-1 : Int) > 0) by decide, if_false, show (-(-1 : Int)) = 1 by decide, Int.ediv_one]
  split <;> omega
section
variable {σ : St} {H : Hp} {Q : VK} {D : Ends}
theorem r_aug {i : Nat} {te : TE} {r : R2} {v : V} (e : σ[i]? = some (some v)) (h : te σ H fun y H1 => r v y H1 fun z H2 => D.nx (σ.set i (some z)) H2) : tAug i te r D σ H := ⟨v, e, h⟩
theorem r_maxII {i j : Int} (h : Q (.int (if j > i then j else i)) H) : rMaxA [.int i, .int j] H Q := .inl ⟨i, j, rfl, h⟩
theorem r_sorted {p : Addr} {ns : List Int} (hp : H p = some (.lst (ns.map V.int))) (hn : ns.length < 64) (h : ∀ (q : Addr) (ms : List Int), H q = none → ms.Perm ns → ms.Pairwise (· ≤ ·) → Q (.ref q) (upd H q (.lst (ms.map V.int)))) : rSorted [.ref p] H Q := ⟨p, ns, rfl, hp, hn, h⟩
end
end L2

namespace L2
open PySem PySem.Spec PyProof.Rows
noncomputable def rInD (K : PySem.W.Frag) : R2 := fun x y H Q => rInA K x y H Q ∨ ∃ a o, y = .ref a ∧ DGet H a x o ∧ Q (.bl o.isSome) H
noncomputable def rSetA : TSet := fun o i v H R => rSetL o i v H R ∨ ∃ a H4, o = .ref a ∧ DPut H a i v H4 ∧ R H4
noncomputable def rIndex : V → List V → Hp → VK → Prop := fun x vs H Q => ∃ (l : Addr) (ns : List Int) (k : Int), x = .ref l ∧ vs = [.int k] ∧ H l = some (.lst (ns.map V.int)) ∧ ns.length ≤ 1000 ∧ (∀ x ∈ ns, 0 ≤ x ∧ x < 1000) ∧ k ∈ ns ∧ Q (.int (ns.idxOf k : Nat)) H
noncomputable def rPopA : V → List V → Hp → VK → Prop := fun x vs H Q => ∃ (l : Addr) (xs : List V) (i : Nat) (y : V), x = .ref l ∧ vs = [.int i] ∧ H l = some (.lst xs) ∧ xs[i]? = some y ∧ i < 2 ^ 62 ∧ Q y (upd H l (.lst (xs.eraseIdx i)))
theorem weight_ints : ∀ {ns : List Int}, (∀ x ∈ ns, 0 ≤ x ∧ x < 1000) → PyData.weightAll (ns.map PyData.int) ≤ 12 * ns.length ∧ PyData.canLayAll0 (ns.map PyData.int) = true ∧ PyData.depthAll (ns.map PyData.int) = 0
  | [], _ => ⟨by simp [PyData.weightAll], rfl, by simp [PyData.depthAll]⟩
  | n :: ns, h => by
    obtain ⟨a, b, c⟩ := weight_ints fun x hx => h x (List.mem_cons_of_mem _ hx)
    have hn := h n (by simp)
    have hw : PyData.weight (.int n) ≤ 11 := by
      rw [PyData.weight]
      split
      · omega
      · rename_i h0
        have h1 : n.natAbs ≠ 0 := fun z => h0 (by simp; omega)
        have : n.natAbs.log2 < 10 := (Nat.log2_lt h1).mpr (by omega)
        omega
    rw [List.map_cons, PyData.weightAll, PyData.canLayAll0, PyData.depthAll, b, c]
    refine ⟨by simp; omega, by simp [PyData.canLay0], by simp [PyData.depth]⟩
theorem layable_ints {ns : List Int} (hl : ns.length ≤ 1000) (h : ∀ x ∈ ns, 0 ≤ x ∧ x < 1000) : PyData.layable0 (.list (ns.map PyData.int)) = true := by
  obtain ⟨a, b, c⟩ := weight_ints h
  unfold PyData.layable0
  rw [PyData.canLay0, b, PyData.depth, c, PyData.weight, decide_eq_true (show 0 + 1 ≤ 64 by omega), decide_eq_true (show PyData.weightAll (ns.map PyData.int) ≤ 2 ^ 20 by omega)]
  rfl
noncomputable def tListRng (n0 : List V → Hp → (Int → Int → Nat → Prop) → Prop) (ta : TA) : TE := fun σ H Q => ta σ H fun vs H1 => n0 vs H1 fun lo c n => ∀ q, H1 q = none → Q (.ref q) (upd H1 q (.lst ((List.range n).map fun i : Nat => V.int (lo + (i : Int) * c))))
noncomputable def rng1 : List V → Hp → (Int → Int → Nat → Prop) → Prop := fun vs _ R => ∃ n : Nat, vs = [.int n] ∧ n ≤ 1000000 ∧ R 0 1 n
noncomputable def rng3 : List V → Hp → (Int → Int → Nat → Prop) → Prop := fun vs _ R => ∃ (i j c : Int) (n : Nat), vs = [.int i, .int j, .int c] ∧ c ≠ 0 ∧ Builtin.divisionGoesByPylong (j - i) c = false ∧ Builtin.Range.small i j c = true ∧ Builtin.Range.rangeSize i j c = (n : Int) ∧ n ≤ 1000000 ∧ R i c n
theorem items_rng {lo c : Int} {n : Nat} {acc : Array Value} (h : ItemsOf (fun i v => ∃ t, v = .int (lo + i * c) t) acc n) : Vals ((List.range n).map fun i : Nat => V.int (lo + (i : Int) * c)) acc.toList := by
  obtain ⟨h1, h2⟩ := h
  have key : ∀ (k : Nat) (a : List Value) (b : Nat), a.length = k → (∀ (j : Nat) (v : Value), a[j]? = some v → ∃ t, v = .int (lo + ((b + j : Nat) : Int) * c) t) → Vals ((List.range' b k).map fun i : Nat => V.int (lo + (i : Int) * c)) a := by
    intro k
    induction k with
    | zero => intro a b hl _; cases a with
      | nil => exact .nil
      | cons _ _ => simp at hl
    | succ k ih =>
      intro a b hl hh
      cases a with
      | nil => simp at hl
      | cons v a =>
        obtain ⟨t, e⟩ := hh 0 v (by simp)
        rw [List.range'_succ, List.map_cons]
        refine .cons ⟨t, by simpa using e⟩ (ih a (b + 1) (by simpa using hl) fun j v' e => ?_)
        obtain ⟨t, e⟩ := hh (j + 1) v' (by simpa using e)
        exact ⟨t, by rw [e]; congr 3; omega⟩
  rw [List.range_eq_range']
  refine key n acc.toList 0 (by simpa using h1) fun j v e => ?_
  obtain ⟨t, e⟩ := h2 j v (by simpa using e)
  exact ⟨t, by rw [e]; congr 3; simp⟩
section
variable {X : Cx}
theorem mt_index : MtR X "list.index" rIndex := by
  intro pins s σ H x xs v us Q I rx r h
  obtain ⟨l, ns, k, rfl, rfl, hl, hn, hb, hk, q⟩ := h
  obtain ⟨u, rfl, t, rfl⟩ := vals1 r
  cases rx
  obtain ⟨hz, its, n, rv, g⟩ := I.hok l _ hl
  exact index_list_ints (vs := its) ⟨_, g, rfl, n, rfl⟩ (intsAre_of rv) (layable_ints hn hb) hk ⟨.int _, H, I.tok _, ⟨_, rfl⟩, q⟩
theorem listRng_core {pins : List (Addr × Obj)} {σ : St} {H1 : Hp} {s1 : Shared} {Q : VK} {E : Value → Shared → Prop} {lo hi c : Int} {t u v : Tok} {tk n : Nat} (hc : X.calm = true) (I1 : Inv X pins σ H1 s1) (hs : Builtin.Range.small lo hi c = true) (hn : Builtin.Range.rangeSize lo hi c = (n : Int)) (hl : n ≤ 1000000)
    (q : ∀ q, H1 q = none → Q (.ref q) (upd H1 q (.lst ((List.range n).map fun i : Nat => V.int (lo + (i : Int) * c))))) :
    wpAny (model X.prog X.w) X.A (call (.type "list") [.ref s1.heap.objs.size]) (EP X pins σ Q) E { s1 with heap := s1.heap.push { cls := .type "range", data := .fields #[.int lo t, .int hi u, .int c v] }, toks := tk } := by
  have I2 : Inv X pins σ H1 { s1 with heap := s1.heap.push { cls := .type "range", data := .fields #[.int lo t, .int hi u, .int c v] }, toks := tk } := I1.kept fun b o e => Heap.get?_push_of_some _ e
  refine call_list_range (n := n) (I1.ok.hd hc) (IsRange.new ..) hs hn (by omega) fun h' tk' acc' c' hk hS hacc => ?_
  have hsl : n ≤ sizeLine := Nat.le_trans hl (by decide)
  exact ⟨.ref _, _, I2.laid (t' := tk') (o := .lst ((List.range n).map fun i : Nat => V.int (lo + (i : Int) * c))) hk (Nat.le_refl _) ⟨by simpa using hsl, acc'.toList, c', items_rng hacc, by simpa using hS⟩, rfl, q _ I2.fresh⟩
theorem j_listRng1 {a : Expr} {ta : TA} {p p2 p3 pos : Pos} (hc : X.calm = true) (hg : Gl X "list") (hm : X.mg "list" = none) (hg2 : Gl X "range") (hm2 : X.mg "range" = none) (ha : JA X [a] ta) (h : autoParam (notStar a = true) L2.auto4._auto_1) :
    JE X (.Call (.Name "list" p) [.Call (.Name "range" p2) [a] [] p3] [] pos) (tListRng rng1 ta) := ⟨by
  intro pins s σ H Q I hq
  refine wpAny_Call_Name_kw (ld_blt I hg hm bt_list (PyProof.Rows.callWith_type1 (arg1 rfl (wpAny_Call_Name_kw (ld_blt I hg2 hm2 boot_range (PyProof.Rows.callWith_type1 (thn (ha.run p3 pins s σ H _ I hq) fun us s1 qq0 => ?_) (se_cons h) rfl)))) rfl rfl))
  obtain ⟨vs, H1, I1, r1, q1⟩ := qq0
  obtain ⟨n, rfl, hn, q⟩ := q1
  obtain ⟨u, rfl, t, rfl⟩ := vals1 r1
  exact call_range_1 (listRng_core hc I1 (small_one (by omega) (by omega) (by omega) (by omega)) (by rw [rangeSize_one]; split <;> omega) hn q)⟩
theorem j_listRng3 {a b c : Expr} {ta : TA} {p p2 p3 pos : Pos} (hc : X.calm = true) (hg : Gl X "list") (hm : X.mg "list" = none) (hg2 : Gl X "range") (hm2 : X.mg "range" = none) (ha : JA X [a, b, c] ta) (h : autoParam (notStar a = true) L2.auto4._auto_1) (h2 : autoParam ([b, c].all notStar = true) L2.auto4._auto_1) :
    JE X (.Call (.Name "list" p) [.Call (.Name "range" p2) [a, b, c] [] p3] [] pos) (tListRng rng3 ta) := ⟨by
  intro pins s σ H Q I hq
  refine wpAny_Call_Name_kw (ld_blt I hg hm bt_list (PyProof.Rows.callWith_type1 (arg1 rfl (wpAny_Call_Name_kw (ld_blt I hg2 hm2 boot_range (PyProof.Rows.callWith_type1 (thn (ha.run p3 pins s σ H _ I hq) fun us s1 qq0 => ?_) (se_cons h) (se_any h2))))) rfl rfl))
  obtain ⟨vs, H1, I1, r1, q1⟩ := qq0
  obtain ⟨i, j, c, n, rfl, hc0, hd, hsm, hn, hl, q⟩ := q1
  cases r1 with
  | cons r rr =>
    cases rr with
    | cons r' rr =>
      cases rr with
      | cons r'' rr =>
        cases rr
        obtain ⟨t, rfl⟩ := r
        obtain ⟨t', rfl⟩ := r'
        obtain ⟨t'', rfl⟩ := r''
        exact call_range_3 hc0 (listRng_core hc I1 hsm hn hl q) (.inl hd)⟩
end
section
variable {X : Cx}
theorem op_inD {K : PySem.W.Frag} (hK : X.K = K) (hu : X.A.units + 64 < cLine) : OpR X (compareOp .In) (rInD K) := (op_inK hK).or (by
  intro pins s σ H x y v u Q I rx ry h
  obtain ⟨a, o, rfl, g, q⟩ := h
  obtain rfl : u = Value.ref a := ry
  exact d_in (by omega) I g rx fun s3 I3 => ⟨.bl o.isSome, H, I3, rfl, q⟩)
theorem set_any (hu : X.A.units + 64 < cLine) : PSet X rSetA := by
  intro pins s σ H o i v ov iv u Q I ro ri rv h
  rcases h with h | ⟨a, H4, rfl, g, q⟩
  · exact set_list pins s σ H o i v ov iv u Q I ro ri rv h
  · obtain rfl : ov = Value.ref a := ro
    exact d_setItem (by omega) I g ri rv fun s4 I4 => ⟨H4, I4, q⟩
theorem mt_popI : MtM X "list.pop" rPopA := by
  intro pins s σ H x vs v us Q I rx rv h
  obtain ⟨l, xs, i, y, rfl, rfl, hH, hy, hi, q⟩ := h
  refine mt_popAt pins s σ H _ _ v us Q I rx rv ⟨l, xs, i, i, y, rfl, rfl, hH, by omega, by omega, ?_, hy, q⟩
  have hl := (List.getElem?_eq_some_iff.mp hy).1
  unfold seqIndex?
  simp
  omega
end
section
variable {σ : St} {H : Hp} {Q : VK} {K : PySem.W.Frag}
theorem r_lrng {n0 : List V → Hp → (Int → Int → Nat → Prop) → Prop} {ta : TA} (h : ta σ H fun vs H1 => n0 vs H1 fun lo c n => ∀ q, H1 q = none → Q (.ref q) (upd H1 q (.lst ((List.range n).map fun i : Nat => V.int (lo + (i : Int) * c))))) : tListRng n0 ta σ H Q := h
theorem r_rng1L {n : Nat} {R : Int → Int → Nat → Prop} (hn : n ≤ 1000000) (h : R 0 1 n) : rng1 [.int n] H R := ⟨n, rfl, hn, h⟩
theorem r_index {l : Addr} {ns : List Int} {k : Int} (hl : H l = some (.lst (ns.map V.int))) (hn : ns.length ≤ 1000) (hb : ∀ x ∈ ns, 0 ≤ x ∧ x < 1000) (hk : k ∈ ns) (h : Q (.int (ns.idxOf k : Nat)) H) : rIndex (.ref l) [.int k] H Q := ⟨l, ns, k, rfl, rfl, hl, hn, hb, hk, h⟩
theorem r_popI {l : Addr} {xs : List V} {i : Nat} {y : V} (hl : H l = some (.lst xs)) (hy : xs[i]? = some y) (hi : i < 2 ^ 62) (h : Q y (upd H l (.lst (xs.eraseIdx i)))) : rPopA (.ref l) [.int i] H Q := ⟨l, xs, i, y, rfl, rfl, hl, hy, hi, h⟩
theorem r_setAL {p : Addr} {xs : List V} {i : Int} {n : Nat} {v : V} {R : Hp → Prop} (hp : H p = some (.lst xs)) (e : ixN xs.length i = some n) (h : R (upd H p (.lst (xs.set n v)))) : rSetA (.ref p) (.int i) v H R := .inl (r_setL hp e h)
end
end L2

namespace L2
open PySem PySem.Spec PyProof.Rows
noncomputable def CDivW (i j : Int) : Prop := 0 < j ∧ j < 1606938044258990275541962092341162602522202993782792835301376
section
variable {X : Cx}
theorem op_fdivW : OpR X (binaryOp .FloorDiv) (rI CDivW fun i j => .int (i / j)) := opI fun i j _ _ _ _ _ hc q => by
  have h1 : (0 : Int) < j := hc.1
  have h2 := hc.2
  refine floordiv_int (by omega) (by rw [Int.fdiv_eq_ediv_of_nonneg i (by omega)]; exact q) (.inl (PyProof.noPylong_of_log2 ?_))
  have h3 : j.natAbs.log2 < 200 := (Nat.log2_lt (by omega)).mpr (by omega)
  omega
end
end L2

namespace L2
open PySem PySem.Spec PyProof.Rows
open PySem.Sem (wp)
open PySem.AutoSeq1 (wpAny_loadPart')
theorem meets_enumerate_newT (l : Addr) (items : Array Value) (n : Nat) (dct : Option Addr) (sl : Array (Option Value)) :
    Meets (Builtin.«enumerate.__new__» ⟨[.type "enumerate", .ref l], []⟩) (fun _ R s => s.heap.get? l = some { cls := .type "tuple", dict := dct, data := .seq items n, slots := sl } ∧
      R (.ok (.ret (.ref (s.heap.push { cls := .type "tuple_iterator", data := .fields #[.ref l, .int 0 0] }).objs.size)))
        { s with heap := (s.heap.push { cls := .type "tuple_iterator", data := .fields #[.ref l, .int 0 0] }).push { cls := .type "enumerate", data := .fields #[.none, .bool false, .ref s.heap.objs.size, rawInt 0, .none, .none] } }) :=
  .of_wp fun prog w A R s h => by
    obtain ⟨hp, g, d, tk, os⟩ := s; obtain ⟨hl, h⟩ := h
    have hsub := sub_enumerate
    have hL : Heap.IsTuple (Shared.heap ⟨hp, g, d, tk, os⟩) l items := ⟨_, hl, rfl, n, rfl⟩
    wp_walk using wpAny_loadPart' hl
    refine wpAny_stack_any fun st => wpAny_pure ?_
    split
    · rename_i c _ _ _ _ _
      cases (c == Value.type "enumerate")
      · wp_walk using wpAny_loadPart' hl, wpAny_pyIter_tuple hL
        exact ⟨_, rfl, h⟩
      · wp_walk using wpAny_loadPart' hl, wpAny_pyIter_tuple hL
        exact ⟨_, rfl, h⟩
    · wp_walk using wpAny_loadPart' hl, wpAny_pyIter_tuple hL
      exact ⟨_, rfl, h⟩
section
variable {prog : Program} {w : World} {A : Around} {E : Value → Shared → Prop} {s : Shared}
theorem call_enumerate_tuple {l : Addr} {items : Array Value} {Q : Value → Shared → Prop} (hL : s.heap.IsTuple l items)
    (h : ∀ h', IsEnum h' (s.heap.objs.size + 1) s.heap.objs.size 0 .none → h'.IsTupleIter s.heap.objs.size l 0 → h'.objs.size = s.heap.objs.size + 2 →
      (∀ b o, s.heap.get? b = some o → h'.get? b = some o) → Q (.ref (s.heap.objs.size + 1)) { s with heap := h' }) :
    wpAny (model prog w) A (call (.type "enumerate") [.ref l]) Q E s := by
  obtain ⟨⟨c, dct, dt, sl⟩, hl, hc, n, hd⟩ := hL
  replace hc : c = .type "tuple" := hc
  replace hd : dt = .seq items n := hd
  subst hc hd
  refine callType_new F.called_enumerate (by decide) (F.typeCall_enumerate_1 _) (F.newCall_enumerate_1 _) (fun obj => F.args_object_init_2 obj _) F.entry_enumerate_new
    (meets_enumerate_newT l items n dct sl) ⟨hl, ?_⟩
  have hz : (s.heap.push { cls := .type "tuple_iterator", data := .fields #[.ref l, .int 0 0] }).objs.size = s.heap.objs.size + 1 := Heap.size_push ..
  show _ ∧ _
  rw [hz]
  have he : IsEnum ((s.heap.push { cls := .type "tuple_iterator", data := .fields #[.ref l, .int 0 0] }).push
      { cls := .type "enumerate", data := .fields #[.none, .bool false, .ref s.heap.objs.size, rawInt 0, .none, .none] }) (s.heap.objs.size + 1) s.heap.objs.size 0 .none := by
    have := Heap.get?_push_size (s.heap.push { cls := .type "tuple_iterator", data := .fields #[.ref l, .int 0 0] })
      (o := { cls := .type "enumerate", data := .fields #[.none, .bool false, .ref s.heap.objs.size, rawInt 0, .none, .none] }) rfl
    rw [hz] at this; exact this
  refine ⟨⟨_, he, rfl⟩, h _ he ⟨_, Heap.get?_push_of_some _ (Heap.get?_push_size _ rfl), rfl, rfl⟩ (by rw [Heap.size_push, hz]) fun b o x => Heap.get?_push_of_some _ (Heap.get?_push_of_some _ x)⟩
theorem nextOf_tuple_item {it t : Addr} {i : Nat} {items} {x : Value} {Q : Value → Shared → Prop} (hit : s.heap.IsTupleIter it t i)
    (ht : s.heap.IsTuple t items) (hx : items[i]? = some x)
    (hQ : ∀ h', h'.IsTupleIter it t (i + 1) → Heap.SameBut it s.heap h' → Q x { s with heap := h' }) :
    wpAny (model prog w) A (Builtin.SmallTypes.nextOf (.ref it)) Q E s := by
  obtain ⟨o, ho, hc, hd⟩ := id hit
  obtain ⟨ol, hol, _, nl, hdl⟩ := ht
  unfold Builtin.SmallTypes.nextOf
  refine wpAny_bind (wpAny_callSpecial?_slot (name := Str.ofString "__next__") hit.typeIs F.slot_tuple_iterator_next
    (wpAny_call_entry F.slot_tuple_iterator_next hit.typeIs F.entry_tuple_iterator_next ?_ (F.args_tuple_iterator_next_1 _)))
  show wpAny _ _ (field (.ref it) 0 >>= _) _ _ s
  refine wpAny_bind (wpAny_field ho hd (x := .ref t) rfl ?_)
  show wpAny _ _ (if (Value.ref t == Value.none) = true then _ else _) _ _ s
  rw [if_neg (show ¬ ((Value.ref t == Value.none) = true) from Bool.false_ne_true)]
  show wpAny _ _ (field (.ref it) 1 >>= _) _ _ s
  refine wpAny_bind (wpAny_field ho hd (x := .int i 0) rfl ?_)
  show wpAny _ _ (seqItems? (.ref t) >>= _) _ _ s
  refine wpAny_bind (wpAny_seqItems hol hdl ?_)
  simp only [Int.toNat_natCast, hx]
  refine wpAny_bind (wpAny_setField ho hd (by simp) (wpAny_pure ⟨x, rfl, wpAny_pure (hQ _ ?_ (Heap.SameBut.update ..))⟩))
  exact ⟨_, Heap.get?_update_self _ ho (Obj.isFreed_of_fields (Obj.data_mapFields hd _)), (Obj.cls_mapFields ..).trans hc, by
    rw [Obj.data_mapFields hd]; simp [rawInt]⟩
theorem nextOf_tuple_end {it t : Addr} {i : Nat} {items} {Q : Value → Shared → Prop} (hh : A.handled = none)
    (hit : s.heap.IsTupleIter it t i) (ht : s.heap.IsTuple t items) (hx : items[i]? = none)
    (hE : ∀ h' e, Heap.ExtBut it s.heap h' → (∃ o, h'.get? e = some o ∧ o.cls = .type "StopIteration") → E (.ref e) { s with heap := h' }) :
    wpAny (model prog w) A (Builtin.SmallTypes.nextOf (.ref it)) Q E s := by
  obtain ⟨o, ho, hc, hd⟩ := id hit
  obtain ⟨ol, hol, _, nl, hdl⟩ := ht
  unfold Builtin.SmallTypes.nextOf
  refine wpAny_bind (wpAny_callSpecial?_slot (name := Str.ofString "__next__") hit.typeIs F.slot_tuple_iterator_next
    (wpAny_call_entry F.slot_tuple_iterator_next hit.typeIs F.entry_tuple_iterator_next ?_ (F.args_tuple_iterator_next_1 _)))
  show wpAny _ _ (field (.ref it) 0 >>= _) _ _ s
  refine wpAny_bind (wpAny_field ho hd (x := .ref t) rfl ?_)
  show wpAny _ _ (if (Value.ref t == Value.none) = true then _ else _) _ _ s
  rw [if_neg (show ¬ ((Value.ref t == Value.none) = true) from Bool.false_ne_true)]
  show wpAny _ _ (field (.ref it) 1 >>= _) _ _ s
  refine wpAny_bind (wpAny_field ho hd (x := .int i 0) rfl ?_)
  show wpAny _ _ (seqItems? (.ref t) >>= _) _ _ s
  refine wpAny_bind (wpAny_seqItems hol hdl ?_)
  simp only [Int.toNat_natCast, hx]
  refine wpAny_bind (wpAny_rule (wpAny_bind (wpAny_setField ho hd (by simp) ?_)))
  show wpAny _ _ (newExc (.type "StopIteration") [] >>= _) _ _ _
  refine wpAny_bind ?_
  simp only [newExc, newTuple]
  refine wpAny_bind (wpAny_newObj_type ?_ (by size_fits))
  refine wpAny_bind (m := firstArgMember _ _) (wpAny_of_eq (a := Value.none) (by first | rfl | (simp only [firstArgMember]; rfl)) ?_)
  refine wpAny_newObj_type ?_ (by size_fits)
  simp only [raiseNew]
  refine wpAny_bind (wpAny_handled ?_)
  first | rw [show A.in1.handled = none from hh] | rw [hh]
  refine wpAny_bind (wpAny_pure (wpAny_throw ?_))
  exact hE _ _ (((Heap.SameBut.update ..).extBut.push _).push _) ⟨_, Heap.get?_push_size _ rfl, rfl⟩
end
theorem draws_tuple {prog : Program} {w : World} {A : Around} (hh : A.handled = none) (it l : Addr) (hne : l ≠ it) (items : Array Value) :
    Draws prog w A it [it, l] items.size (fun i v => items[i]? = some v) (fun i h => h.IsTupleIter it l i ∧ h.IsTuple l items) where
  live := fun _ _ st => let ⟨o, ho, _⟩ := st.1; ⟨o, ho⟩
  frame := fun _ _ _ st hk => by
    obtain ⟨⟨o, ho, r⟩, ⟨o2, ho2, r2⟩⟩ := st
    exact ⟨⟨o, hk it (by simp) o ho, r⟩, ⟨o2, hk l (by simp) o2 ho2, r2⟩⟩
  item := fun i s Q E hi st hQ => by
    refine nextOf_tuple_item st.1 st.2 (x := items[i]) (by simp [hi]) fun h' hit' hs' => ?_
    exact hQ _ h' s.toks (by simp [hi]) ⟨hit', st.2.extBut hs'.extBut hne⟩ hs'
  done := fun s Q E st hE => nextOf_tuple_end hh st.1 st.2 (by simp) hE
noncomputable def IteT (K : PySem.W.Frag) (a : Addr) : It :=
  ⟨fun i H => ∃ xs x, SqT K H a xs ∧ xs[i]? = some x,
   fun i H v H' => ∃ T x, H T = none ∧ v = .ref T ∧ (∀ xs, SqT K H a xs → xs[i]? = some x) ∧ H' = upd H T (.tup [.int i, x]),
   fun i H => ∃ xs, SqT K H a xs ∧ xs.length ≤ i⟩
end L2

namespace L2
open PySem PySem.Spec PyProof.Rows
theorem turn_enumT {P : Program} {w : World} {K : PySem.W.Frag} {elts : List Expr} {k : Nat} {pos : Pos} {e it a : Addr} (hne : e ≠ it) (hea : e ≠ a) (hai : a ≠ it) :
    Turn P w K (.Tuple elts k pos) (IteT K a) [e, it] e (fun i h => (∃ old, IsEnum h e it i old) ∧ h.IsTupleIter it a i) where
  mem := by simp
  obj := fun i h st c hc => by
    obtain ⟨⟨old, he⟩, ⟨o1, e1, c1, d1⟩⟩ := st
    simp only [List.mem_cons, List.mem_nil_iff, or_false] at hc
    rcases hc with rfl | rfl
    · exact ⟨_, he, fun v z => by cases z⟩
    · exact ⟨_, e1, fun v z => by rw [d1] at z; cases z⟩
  keep := fun i h h' st kk => by
    obtain ⟨⟨old, he⟩, ⟨o1, e1, r1⟩⟩ := st
    exact ⟨⟨old, kk e (by simp) _ he⟩, ⟨o1, kk it (by simp) _ e1, r1⟩⟩
  item := by
    intro X hP hw hK hc i pins s σ H E I hf st hg
    subst hP hw hK
    obtain ⟨⟨old, he⟩, h1⟩ := st
    obtain ⟨xs, x, hq, hx⟩ := hg
    obtain ⟨its, rv, p, _⟩ := I.tuple hq
    obtain ⟨u, hu, ru⟩ := rv.get hx
    have p' : s.heap.IsTuple a its.toArray := p
    refine wpAny_pyNext_enum_itemD (draws_tuple (A := X.A.in1) (I.ok.hd hc) it a hai its.toArray) he ⟨h1, p'⟩ (by have := (List.getElem?_eq_some_iff.mp hu).1; simpa using this) hne (by simp [hne, hea]) fun x' h' tk hx' a1 a2 a3 a4 hk => ?_
    have ex : x' = u := by
      have h2 : its[i]? = some x' := by simpa using hx'
      rw [hu] at h2
      exact (Option.some.inj h2).symm
    subst ex
    refine ⟨_, rfl, wpAny_letOwnedTupleGo_enum a1 fun h'' a1' sb => ?_⟩
    have lt : ∀ {c o}, s.heap.get? c = some o → s.heap.objs.size ≠ c := fun e => Nat.ne_of_gt (Heap.lt_size e)
    have lti : s.heap.objs.size ≠ it := by obtain ⟨o, q, _⟩ := h1; exact lt q
    have isT : h''.IsTuple s.heap.objs.size #[.int i tk, x'] := ⟨_, sb.extBut _ _ (lt he) a3, rfl, _, rfl⟩
    have kall : ∀ b o, b ∉ [e, it] → s.heap.get? b = some o → h''.get? b = some o := fun b o hb q => by
      simp only [List.mem_cons, List.mem_nil_iff, or_false, not_or] at hb
      exact sb.extBut _ _ hb.1 (hk b o hb.1 hb.2 q)
    have hTn : H s.heap.objs.size = none := I.hok.fresh (Nat.le_refl _)
    refine ⟨.ref s.heap.objs.size, _, I.newtup (tk := tk + 1) hf (Nat.le_refl _) kall isT (xs := [.int i, x]) (.cons ⟨_, rfl⟩ (.cons ru .nil)) (by simp; decide), rfl, ⟨_, x, hTn, rfl, fun zs hs => by rw [I.tuple_inj hs hq]; exact hx, rfl⟩, ?_, fun b hb => ?_⟩
    · exact ⟨⟨_, a1'⟩, a2.1.extBut sb.extBut (Ne.symm hne)⟩
    · have : s.heap.objs.size ≠ b := by
        simp only [List.mem_cons, List.mem_nil_iff, or_false] at hb
        rcases hb with rfl | rfl
        · exact lt he
        · exact lti
      rw [upd_ne (Ne.symm this)]
      exact (hf b hb).1
  done := by
    intro X hP hw hK hc i pins s σ H E I hf st hg
    subst hP hw hK
    obtain ⟨⟨old, he⟩, h1⟩ := st
    obtain ⟨xs, hq, hx⟩ := hg
    obtain ⟨its, rv, p, _⟩ := I.tuple hq
    have l1 := rv.length
    have p' : s.heap.IsTuple a its.toArray := p
    have pn : (its.toArray)[i]? = none := by simp; omega
    have ht : s.TypeIs (.ref e) "enumerate" := ⟨_, he, rfl⟩
    unfold pyNext
    refine wpAny_bind (wpAny_attempt (wpAny_callSpecial?_slot (name := Str.ofString "__next__") ht F.slot_enumerate_next
      (wpAny_call_entry F.slot_enumerate_next ht F.entry_enumerate_next ?_ (F.args_enumerate_next_1 _))))
    show wpAny _ _ (field (.ref e) 2 >>= _) _ _ _
    refine wpAny_bind (wpAny_field he rfl (x := .ref it) rfl ?_)
    refine wpAny_bind (nextOf_tuple_end (A := X.A.in1) (I.ok.hd hc) h1 p' pn fun h' x he' hx' => ?_)
    obtain ⟨o, ho, hc'⟩ := hx'
    refine wpAny_bind (wpAny_isInstance (T := "StopIteration") (b := true) ⟨o, ho, hc'⟩ isSubtype_stop ?_)
    refine wpAny_pure ⟨rfl, I.only (tk := s.toks) hf fun b o hb q => ?_⟩
    simp only [List.mem_cons, List.mem_nil_iff, or_false, not_or] at hb
    exact he' b o hb.2 q
  self := fun _ _ _ _ _ st h => let ⟨⟨_, he⟩, _⟩ := st; wpAny_pyIter_enum he h
noncomputable def iEnum3 (K : PySem.W.Frag) (ta : TA) : TI := fun σ H R => ta σ H fun vs H1 => (∃ x : Str, vs = [.str x] ∧ R (Itp (enumS x) x.cps.size) H1) ∨ (∃ a xs, vs = [.ref a] ∧ SqL K H1 a xs ∧ R (Ite K a) H1) ∨ ∃ a xs, vs = [.ref a] ∧ SqT K H1 a xs ∧ R (IteT K a) H1
theorem ji_enum3 {X : Cx} {K : PySem.W.Frag} {a : Expr} {ta : TA} {elts : List Expr} {k : Nat} {tp p pos : Pos} (hK : X.K = K) (hc : X.calm = true) (hg : Gl X "enumerate") (hm : X.mg "enumerate" = none) (ha : JA X [a] ta) (h : autoParam (notStar a = true) L2.auto4._auto_1) :
    JI X (.Tuple elts k tp) (.Call (.Name "enumerate" p) [a] [] pos) (iEnum3 K ta) := ⟨by
  subst hK
  intro pins s σ H R I hq
  refine Call_ (ld_blt I hg hm bt_enumerate (PyProof.Rows.callWith_type1 (thn (ha.run pos pins s σ H _ I hq) fun us s1 qq0 => ?_) (se_cons h) rfl))
  obtain ⟨vs, H1, I1, r1, q1⟩ := qq0
  rcases q1 with ⟨x, e, q⟩ | ⟨l, xs, e, hl, q⟩ | ⟨l, xs, e, hl, q⟩
  · subst e
    obtain ⟨u, rfl, t, rfl⟩ := vals1 r1
    exact enumS_run hc I1 q
  · subst e
    obtain ⟨u, rfl, ru⟩ := vals1 r1
    cases ru
    obtain ⟨its, rv, p1, _⟩ := I1.list hl
    refine call_enumerate_list p1.isList fun h' z1 z2 z3 hk => ?_
    have J1 : Inv X pins σ H1 { s1 with heap := h' } := I1.kept (t' := s1.toks) hk
    refine wpAny_pyIter_enum z1 ?_
    refine ⟨s1.heap.objs.size + 1, _, _, _, H1, rfl, J1, turn_enumL (Nat.succ_ne_self _), ⟨⟨_, z1⟩, z2⟩, fun b hb => ?_, q⟩
    have hb' : s1.heap.objs.size ≤ b := by
      simp only [List.mem_cons, List.mem_nil_iff, or_false] at hb
      have key : ∀ n c : Nat, (c = n + 1 ∨ c = n) → n ≤ c := fun n c h => by omega
      exact key _ _ hb
    exact I1.fpOk hb' (I1.hok.fresh hb')
  · subst e
    obtain ⟨u, rfl, ru⟩ := vals1 r1
    cases ru
    obtain ⟨its, rv, p1, _⟩ := I1.tuple hl
    have p' : s1.heap.IsTuple l its.toArray := p1
    have lt1 : l < s1.heap.objs.size := by obtain ⟨o, ho, _⟩ := p'; exact Heap.lt_size ho
    refine call_enumerate_tuple p' fun h' z1 z2 z3 hk => ?_
    have J1 : Inv X pins σ H1 { s1 with heap := h' } := I1.kept (t' := s1.toks) hk
    refine wpAny_pyIter_enum z1 ?_
    have key2 : ∀ n l : Nat, l < n → n + 1 ≠ l ∧ l ≠ n := fun n l h => ⟨by omega, by omega⟩
    refine ⟨s1.heap.objs.size + 1, _, _, _, H1, rfl, J1, turn_enumT (Nat.succ_ne_self _) (key2 _ _ lt1).1 (key2 _ _ lt1).2, ⟨⟨_, z1⟩, z2⟩, fun b hb => ?_, q⟩
    have hb' : s1.heap.objs.size ≤ b := by
      simp only [List.mem_cons, List.mem_nil_iff, or_false] at hb
      have key : ∀ n c : Nat, (c = n + 1 ∨ c = n) → n ≤ c := fun n c h => by omega
      exact key _ _ hb
    exact I1.fpOk hb' (I1.hok.fresh hb')⟩
section
variable {K : PySem.W.Frag} {σ : St} {H : Hp}
theorem r_enum3 {a : TA} {R : It → Hp → Prop} (h : a σ H fun vs H1 => (∃ x : Str, vs = [.str x] ∧ R (Itp (enumS x) x.cps.size) H1) ∨ (∃ a xs, vs = [.ref a] ∧ SqL K H1 a xs ∧ R (Ite K a) H1) ∨ ∃ a xs, vs = [.ref a] ∧ SqT K H1 a xs ∧ R (IteT K a) H1) : iEnum3 K a σ H R := h
theorem for_enumT {a : Addr} {xs : List V} {g : TG} {tb : TS} {D : Ends} (Pv : Nat → St → Hp → Prop) (h0 : Pv 0 σ H) (hq : ∀ i σ H, i ≤ xs.length → Pv i σ H → SqT K H a xs)
    (hs : ∀ i σ H T x, xs[i]? = some x → Pv i σ H → H T = none → g (.ref T) σ (upd H T (.tup [.int i, x])) fun σ2 H2 => tb { D with nx := Pv (i + 1), ct := Pv (i + 1), bk := D.nx } σ2 H2) (hd : ∀ σ H, Pv xs.length σ H → D.nx σ H) :
    ∃ W : Nat → Nat → St → Hp → Prop, (∃ m, W 0 m σ H) ∧ ∀ i m σ H, W i m σ H →
      ((IteT K a).stop i H ∧ D.nx σ H) ∨ ((IteT K a).go i H ∧ ∃ N : St → Hp → Prop, (∀ σ' H', N σ' H' → ∃ m', m' < m ∧ W (i + 1) m' σ' H') ∧ ∀ x H', (IteT K a).yld i H x H' → g x σ H' fun σ2 H2 => tb { D with nx := N, ct := N, bk := D.nx } σ2 H2) := by
  refine ⟨fun i m σ H => m = xs.length - i ∧ i ≤ xs.length ∧ Pv i σ H, ⟨xs.length, by simp, Nat.zero_le _, h0⟩, ?_⟩
  rintro i m σ H ⟨rfl, hi, p⟩
  have q1 := hq i σ H hi p
  by_cases hlt : i < xs.length
  · refine .inr ⟨⟨xs, xs[i], q1, List.getElem?_eq_getElem hlt⟩, Pv (i + 1), fun σ' H' p' => ⟨xs.length - (i + 1), by omega, rfl, hlt, p'⟩, fun x H' y => ?_⟩
    obtain ⟨T, u, hT, e1, e2, e4⟩ := y
    subst e1 e4
    exact hs i σ H T u (e2 xs q1) p hT
  · have e : i = xs.length := by omega
    subst e
    exact .inl ⟨⟨xs, q1, Nat.le_refl _⟩, hd σ H p⟩
end
noncomputable def pick3V (xs : List V) (lo hi : Option Int) (c : Int) : List V :=
  (sliceRange (sliceBounds lo hi (some c) xs.length).1 (sliceBounds lo hi (some c) xs.length).2.1 (sliceBounds lo hi (some c) xs.length).2.2).filterMap (xs[·]?)
theorem Vals.places {xs : List V} {us : List Value} (h : Vals xs us) : ∀ ps : List Nat, Vals (ps.filterMap (xs[·]?)) (ps.filterMap (us[·]?))
  | [] => .nil
  | p :: ps => by
    have ih := Vals.places h ps
    have hl := h.length
    rw [List.filterMap_cons, List.filterMap_cons]
    cases e : xs[p]? with
    | none =>
      have : us[p]? = none := by rw [List.getElem?_eq_none_iff] at e ⊢; omega
      rw [this]
      exact ih
    | some x =>
      obtain ⟨u, hu, r⟩ := h.get e
      rw [hu]
      exact .cons r ih
noncomputable def tSl3L (K : PySem.W.Frag) (te : TE) (tl th ts : TO) : TE := fun σ H Q => te σ H fun x H1 => tl σ H1 fun l H2 => th σ H2 fun u H3 => ts σ H3 fun c H4 => ∃ a xs c', x = .ref a ∧ c = some c' ∧ c' ≠ 0 ∧ SqL K H4 a xs ∧ (pick3V xs l u c').length ≤ sizeLine ∧ ∀ q, H4 q = none → Q (.ref q) (upd H4 q (.lst (pick3V xs l u c')))
section
variable {X : Cx} {e : Expr} {te : TE} {lo hi : Option Expr} {st : Expr} {tl th ts : TO} {pos p2 : Pos}
theorem j_slice3L {K : PySem.W.Frag} (hK : X.K = K) (he : JE X e te) (hl : JO X lo tl) (hu : JO X hi th) (hs : JO X (some st) ts) : JE X (.Subscript e (.Slice lo hi (some st) p2) pos) (tSl3L K te tl th ts) := ⟨by
  subst hK
  intro pins s σ H Q I h
  refine Subscript_ (thn (he.run pins s σ H _ I h) fun v s1 qq0 => ?_)
  obtain ⟨x, H1, I1, r1, q1⟩ := qq0
  refine wpAny_Slice (thn (hl.run pins s1 σ H1 _ I1 q1) fun vl s2 ⟨l, H2, I2, pl, q2⟩ => thn (hu.run pins s2 σ H2 _ I2 q2) fun vu s3 ⟨u, H3, I3, pu, q3⟩ => thn (hs.run pins s3 σ H3 _ I3 q3) fun vc s4 qq0 => ?_)
  obtain ⟨c, H4, I4, pc, q4⟩ := qq0
  obtain ⟨a, xs, c', rfl, rfl, hc0, hq, hz, q⟩ := q4
  cases r1
  have I5 : Inv X pins σ H4 { s4 with heap := s4.heap.push { cls := .type "slice", data := .fields #[vl, vu, vc] } } := I4.kept (t' := s4.toks) fun b ob q => Heap.get?_push_of_some _ q
  obtain ⟨its, rv, p, hz2⟩ := I5.list hq
  have hlen : its.toArray.size = xs.length := by rw [List.size_toArray]; exact rv.length.symm
  show wpAny (model X.prog X.w) X.A (subscriptTail e (.Slice lo hi (some st) p2) (.ref a) (.ref s4.heap.objs.size)) (EP X pins σ Q) X.xe _
  refine tail_any (T := "list") (ops := [.ref a, .ref s4.heap.objs.size]) p.isList.typeIs list_getitem_lookup ?_ (by with_unfolding_all rfl)
  refine wpAny_getItem_list_slice p.isList (Heap.IsSliceOf.new ..) pl pu pc (fun z => hc0 (Option.some.inj z)) ?_ (by rw [hlen]; exact hz2)
  refine ⟨.ref _, _, I5.laid (t' := s4.toks) (o := .lst (pick3V xs l u c')) (fun b ob q => Heap.get?_push_of_some _ q) (Nat.le_refl _) ?_, rfl, q _ (I5.hok.fresh (Nat.le_refl _))⟩
  have e1 : slicePick its.toArray l u (some c') = ((sliceRange (sliceBounds l u (some c') xs.length).1 (sliceBounds l u (some c') xs.length).2.1 (sliceBounds l u (some c') xs.length).2.2).filterMap (its[·]?)).toArray := by
    unfold slicePick
    rw [hlen]
    simp
  rw [e1]
  exact ⟨hz, _, 0, rv.places _, Heap.get?_push_size _ rfl⟩⟩
end
theorem r_sl3L {K : PySem.W.Frag} {σ : St} {H : Hp} {Q : VK} {te : TE} {tl th ts : TO} (h : te σ H fun x H1 => tl σ H1 fun l H2 => th σ H2 fun u H3 => ts σ H3 fun c H4 => ∃ a xs c', x = .ref a ∧ c = some c' ∧ c' ≠ 0 ∧ SqL K H4 a xs ∧ (pick3V xs l u c').length ≤ sizeLine ∧ ∀ q, H4 q = none → Q (.ref q) (upd H4 q (.lst (pick3V xs l u c')))) : tSl3L K te tl th ts σ H Q := h
theorem pick_rev (xs : List V) : pick3V xs none none (-1) = xs.reverse := by
  have e : ∀ n : Nat, sliceRange (sliceBounds none none (some (-1)) n).1 (sliceBounds none none (some (-1)) n).2.1 (sliceBounds none none (some (-1)) n).2.2 = (List.range n).map fun k => n - 1 - k := fun n => by
    show sliceRange ((n : Int) - 1) (-1) (-1) = _
    unfold sliceRange
    rw [if_neg (by decide)]
    have ec : (if (n : Int) - 1 > -1 then ((n : Int) - 1 - -1 - -1 - 1) / (- -1) else 0).toNat = n := by
      by_cases h : (n : Int) - 1 > -1
      · rw [if_pos h]
        have : ((n : Int) - 1 - -1 - -1 - 1) / (- -1) = n := by
          rw [show (- -1 : Int) = 1 from rfl, Int.ediv_one]; omega
        rw [this]; simp
      · rw [if_neg h]
        show 0 = n
        omega
    show List.map _ (List.range (if (n : Int) - 1 > -1 then ((n : Int) - 1 - -1 - -1 - 1) / (- -1) else 0).toNat) = _
    rw [ec]
    refine List.map_congr_left fun k hk => ?_
    have := List.mem_range.mp hk
    omega
  unfold pick3V
  rw [e, List.filterMap_map]
  have e2 : ((List.range xs.length).filterMap ((fun x => xs[x]?) ∘ fun k => xs.length - 1 - k)) = (List.range xs.length).filterMap (fun k => xs.reverse[k]?) := by
    have gen : ∀ (l : List Nat) (f g : Nat → Option V), (∀ k ∈ l, f k = g k) → l.filterMap f = l.filterMap g := fun l f g h => by
      induction l with
      | nil => rfl
      | cons a l ih => rw [List.filterMap_cons, List.filterMap_cons, h a (by simp), ih fun k hk => h k (by simp [hk])]
    refine gen _ _ _ fun k hk => ?_
    have := List.mem_range.mp hk
    show xs[xs.length - 1 - k]? = xs.reverse[k]?
    rw [List.getElem?_reverse (by omega)]
  rw [e2]
  have key : ∀ ys : List V, (List.range ys.length).filterMap (fun k => ys[k]?) = ys := fun ys => by
    induction ys with
    | nil => rfl
    | cons y ys ih =>
      rw [List.length_cons, List.range_succ_eq_map, List.filterMap_cons, List.filterMap_map]
      exact congrArg (y :: ·) ih
  have k2 := key xs.reverse
  rw [List.length_reverse] at k2
  exact k2
end L2

namespace L2
open PySem PySem.Spec PyProof.Rows
end L2

namespace L2
open PySem PySem.Spec PyProof.Rows
open PySem.Sem (wp)
open PySem.AutoSeq1 (wpAny_loadPart')
section
variable {prog : Program} {w : World} {A : Around} {E : Value → Shared → Prop} {s : Shared}
end
end L2

namespace L2
open PySem PySem.Spec PyProof.Rows
section
variable {prog : Program} {w : World} {A : Around} {E : Value → Shared → Prop} {s : Shared}
end
end L2

namespace L2
open PySem PySem.Spec PyProof.Rows
section
variable {K : PySem.W.Frag} {σ : St} {H : Hp}
end
end L2

namespace L2
open PySem PySem.Spec PyProof.Rows
structure Sml (d : PyData) : Prop where
  sh : d.showable = true
  dp : d.depth ≤ 58
  lv : d.leavesShort 60 = true
  bk : d.bulk ≤ 10000
end L2

namespace L2
open PySem PySem.Spec PyProof.Rows
open PySem.Sem (wp)
section
variable {X : Cx} {pos : Pos} {σ : St} {H : Hp} {Q : VK} {K : PySem.W.Frag}
end
end L2

namespace L2
open PySem PySem.Spec PyProof.Rows
end L2

namespace L2
open PySem PySem.Spec PyProof.Rows
structure RoomU (k : Nat) (A : Around) : Prop where
  dp : A.depth + 3 * k + 5 < recursionLimit
  un : A.units + 16 * k + 200 < cLine
  gd : A.guards = some []
structure FnU (P : Program) (w : World) (K : PySem.W.Frag) (mg : Str → Option Value) (base : Heap) (k : Nat) (f : Addr) (fd : FuncData) (ps : List Str) (sp : Sp) : Prop where
  len : ∀ vs H Q E, sp vs H Q E → vs.length = ps.length
  run : ∀ (A : Around) (outer : List Env) (s : Shared) (H : Hp) (args : Args) (us : List Value) (vs : List V) (Q : VK) (E : XK), RoomU k A → Env0 P w K mg base A outer s H → BindsTo s fd args (ps.zip us) → Vals vs us → sp vs H Q E →
    codeAny (model P w) A (.call (.ref f) args) (CR CX0 outer P w H s Q E) s
end L2

namespace L2
open PySem PySem.Spec PyProof.Rows
section
variable {prog : Program} {w : World} {A : Around} {E : Value → Shared → Prop} {s : Shared} {K : PySem.W.Frag} {x C : Addr} {ox : Obj} {od : Option Obj}
end
section
variable {prog : Program} {w : World} {A : Around} {K : PySem.W.Frag} {D : Addr} {E : Value → Shared → Prop}
end
structure X0 (K : PySem.W.Frag) (mg : Str → Option Value) (x : Str) : Prop where
  c : CTxt K mg x
  ini : PySem.W.findIn K (.ref (clsA mg x)) "__init__" = some (some (.builtin "ValueError.__init__"))
  kp : PySem.W.keepIn K (.ref (clsA mg x)) = true
section
variable {X : Cx} {x : Str} {p pos : Pos} {e : Expr} {es : List Expr} {t : TA}
end
end L2

namespace L2
open PySem PySem.Spec PyProof.Rows
open PySem.Sem (wp)
structure ZApart (z TI TO i1 i2 : Addr) (fp1 fp2 : List Addr) : Prop where
  TIz : TI ≠ z
  TOz : TO ≠ z
  i1z : i1 ≠ z
  i2z : i2 ≠ z
  TITO : TI ≠ TO
  TIi1 : TI ≠ i1
  TIi2 : TI ≠ i2
  TOi1 : TO ≠ i1
  TOi2 : TO ≠ i2
  i12 : i1 ≠ i2
  f1 : ∀ b ∈ fp1, b ≠ z ∧ b ≠ TO ∧ b ≠ i2
  f2 : ∀ b ∈ fp2, b ≠ z ∧ b ≠ TO ∧ b ≠ i1
section
variable {prog : Program} {w : World} {A : Around} {E : Value → Shared → Prop} {s : Shared} {z TI TO i1 i2 : Addr} {fp1 fp2 : List Addr} {n1 n2 k1 k2 : Nat} {P1 P2 : Nat → Value → Prop} {St1 St2 : Nat → Heap → Prop} {a b : Value}
end
end L2

namespace L2
open PySem PySem.Spec PyProof.Rows
open PySem.Sem (wp)
section
variable {σ : St} {H : Hp} {K : PySem.W.Frag}
end
end L2

namespace L2
open PySem PySem.Spec PyProof.Rows
open PySem.Sem (wp)
open AutoSeq1 (wpAny_loadPart')
section
variable {X : Cx}
end
section
variable {H : Hp} {Q : VK} {K : PySem.W.Frag}
end
end L2

namespace L2
open PySem PySem.W PySem.Spec PyProof.Rows
section
variable {g : Nat → Int} {N : Nat}
end
end L2

namespace L2
open PySem PySem.W PySem.Spec PyProof.Rows
section
variable {prog : Program} {w : World} {A : Around} {E : Value → Shared → Prop} {s : Shared}
end
end L2

namespace L2
open PySem PySem.W PySem.Spec PyProof.Rows
section
variable {prog : Program} {w : World} {A : Around} {E : Value → Shared → Prop} {s : Shared}
end
section
variable {X : Cx}
end
section
variable {H : Hp} {Q : VK}
end
end L2

namespace L2
open PySem PySem.Spec PyProof.Rows
open PySem.Sem (wp)
section
variable {prog : Program} {w : World} {A : Around} {E : Value → Shared → Prop} {s : Shared} {z TI TO i1 i2 : Addr} {fp1 fp2 : List Addr} {n1 n2 k1 k2 : Nat} {P1 P2 : Nat → Value → Prop} {St1 St2 : Nat → Heap → Prop} {a b f0 f1 : Value}
end
end L2

namespace L2
open PySem PySem.Spec PyProof.Rows
open PySem.Sem (wp)
open PySem.AutoSeq1 (wpAny_loadPart')
section
variable {prog : Program} {w : World} {A : Around} {E : Value → Shared → Prop} {s : Shared} {z TI TO i1 i2 e : Addr} {fp1 fp2 : List Addr} {n1 n2 k1 k2 : Nat} {P1 P2 : Nat → Value → Prop} {St1 St2 : Nat → Heap → Prop} {a b f0 f1 : Value}
end
structure EApart (e z TI TO i1 i2 a b : Addr) : Prop where
  Z : ZApart z TI TO i1 i2 [i1, a] [i2, b]
  ez : e ≠ z
  eTI : e ≠ TI
  eTO : e ≠ TO
  ei1 : e ≠ i1
  ei2 : e ≠ i2
  a1 : a ≠ i1
  b2 : b ≠ i2
end L2

namespace L2
open PySem PySem.Spec PyProof.Rows
open PySem.Sem (wp)
open PySem.AutoSeq1 (wpAny_loadPart')
section
variable {σ : St} {H : Hp} {K : PySem.W.Frag}
end
end L2

namespace L2
open PySem PySem.Spec PyProof.Rows
open PySem.Sem (wp)
section
variable {prog : Program} {w : World} {A : Around} {E : Value → Shared → Prop} {s : Shared}
end
structure TurnU (P : Program) (w : World) (K : PySem.W.Frag) (tg : Expr) (J : It) (fp : List Addr) (it : Addr) (tn : Nat → Heap → Prop) (xh : Addr) : Prop where
  mem : it ∈ fp
  obj : ∀ i h, tn i h → ∀ b ∈ fp, ∃ o, h.get? b = some o ∧ ∀ v, o.data ≠ .cell v
  keep : ∀ i h h', tn i h → (∀ b ∈ fp, ∀ o, h.get? b = some o → h'.get? b = some o) → tn i h'
  item : ∀ (X : Cx), X.prog = P → X.w = w → X.K = K → X.A.handled = some (.ref xh) → ∀ (i : Nat) (pins : List (Addr × Obj)) (s : Shared) (σ : St) (H : Hp) (E : Value → Shared → Prop), Inv X pins σ H s → (∀ b ∈ fp, FpOk X pins H b) → tn i s.heap → J.go i H →
    wpAny (model P w) X.A (pyNext (.ref it)) (fun r s1 => ∃ u, r = some u ∧
      wpAny (model P w) X.A (letOwnedTupleGo tg (.ref it) u) (fun _ s2 => ∃ x H', Inv X pins σ H' s2 ∧ RelV x u ∧ J.yld i H x H' ∧ tn (i + 1) s2.heap ∧ ∀ b ∈ fp, H' b = none) E s1) E s
  done : ∀ (X : Cx), X.prog = P → X.w = w → X.K = K → X.A.handled = some (.ref xh) → ∀ (i : Nat) (pins : List (Addr × Obj)) (s : Shared) (σ : St) (H : Hp) (E : Value → Shared → Prop), Inv X pins σ H s → (∀ b ∈ fp, FpOk X pins H b) → tn i s.heap → J.stop i H →
    wpAny (model P w) X.A (pyNext (.ref it)) (fun r s1 => r = none ∧ Inv X pins σ H s1) E s
  self : ∀ (A : Around) (i : Nat) (s : Shared) (Q : Value → Shared → Prop) (E : Value → Shared → Prop), tn i s.heap → Q (.ref it) s → wpAny (model P w) A (pyIter (.ref it)) Q E s
section
variable {X : Cx} {tg iter elt : Expr} {ifs : List Expr} {scope : Scope} {pos : Pos} {N' : List Str} {sub : List (Option Nat)} {wi : TI} {g : TG} {tt : TT} {te : TE}
end
structure FnV (P : Program) (w : World) (K : PySem.W.Frag) (mg : Str → Option Value) (base : Heap) (k : Nat) (f : Addr) (fd : FuncData) (ps : List Str) (sp : Addr → Sp) : Prop where
  len : ∀ xh vs H Q E, sp xh vs H Q E → vs.length = ps.length
  run : ∀ (A : Around) (outer : List Env) (s : Shared) (H : Hp) (args : Args) (us : List Value) (vs : List V) (Q : VK) (E : XK) (xh : Addr), A.handled = some (.ref xh) → RoomU k A → Env0 P w K mg base A outer s H → BindsTo s fd args (ps.zip us) → Vals vs us → sp xh vs H Q E →
    codeAny (model P w) A (.call (.ref f) args) (CR CX0 outer P w H s Q E) s
end L2

namespace L2
open PySem PySem.Spec PyProof.Rows
section
variable {X : Cx} {nm n : Str} {P : Addr} {i : Nat} {p pos : Pos} {b0 : Stmt} {suite : List Stmt} {ts : Addr → TS} {th : TH} {hs : List ExceptHandler}
variable {K : PySem.W.Frag} {x : Str}
end
end L2

namespace L2
open PySem PySem.Spec PyProof.Rows
section
variable {K : PySem.W.Frag} {σ : St} {H : Hp}
end
noncomputable def rNeTI (K : PySem.W.Frag) : R2 := fun x y H Q => ∃ a b xs, x = .ref a ∧ y = .ref b ∧ SqT K H a xs ∧ SqT K H b xs ∧ (∀ v ∈ xs, flatV v = true ∨ ∃ r, v = .ref r) ∧ Q (.bl false) H
section
variable {X : Cx}
theorem op_neTI (hu : X.A.units < cLine) : OpR X (compareOp .NotEq) (rNeTI X.K) := by
  intro pins s σ H x y v u Q I rx ry h
  obtain ⟨a, b, xs, rfl, rfl, ha, hb, fx, q⟩ := h
  cases rx
  cases ry
  obtain ⟨its, r1, p1, z1⟩ := I.tuple ha
  obtain ⟨jts, r2, p2, z2⟩ := I.tuple hb
  have l1 : its.toArray.size = xs.length := by simpa using r1.length.symm
  have l2 : jts.toArray.size = xs.length := by simpa using r2.length.symm
  refine SeqAt.RcNeAt.tuples (e := fun _ => true) p1 p2 hu (fun j h1 h2 => ?_) X.prog X.w _ _ ?_
  · have hj : j < xs.length := by omega
    obtain ⟨u1, e1, q1⟩ := r1.get (List.getElem?_eq_getElem hj)
    obtain ⟨u2, e2, q2⟩ := r2.get (List.getElem?_eq_getElem hj)
    have f1 : its.toArray[j] = u1 := by
      obtain ⟨_, z⟩ := List.getElem?_eq_some_iff.mp e1
      simpa using z
    have f2 : jts.toArray[j] = u2 := by
      obtain ⟨_, z⟩ := List.getElem?_eq_some_iff.mp e2
      simpa using z
    rw [f1, f2]
    rcases fx _ (List.getElem_mem hj) with f | ⟨r, f⟩
    · rw [← eqV_refl f]
      exact eqAt_V q1 q2 f f
    · rw [f] at q1 q2
      cases (show u1 = Value.ref r from q1)
      cases (show u2 = Value.ref r from q2)
      exact SeqAt.EqAt.same _
  · have e : (!((List.range (min its.toArray.size jts.toArray.size)).all (fun _ => true) && its.toArray.size == jts.toArray.size)) = false := by rw [l1, l2]; simp
    rw [e]
    exact ⟨.bl false, H, I, rfl, q⟩
noncomputable def rNeF (K : PySem.W.Frag) : R2 := fun x y H Q => rNeE K x y H Q ∨ rNeTI K x y H Q
theorem op_neF {K : PySem.W.Frag} (hK : X.K = K) (hu : X.A.units + 64 < cLine) : OpR X (compareOp .NotEq) (rNeF K) := by
  subst hK
  exact (op_neE rfl hu).or (op_neTI (Nat.lt_of_le_of_lt (Nat.le_add_right _ _) hu))
noncomputable def rAddT (K : PySem.W.Frag) : R2 := fun x y H Q => rAddA x y H Q ∨ rCatT K x y H Q
theorem op_addT {K : PySem.W.Frag} (hK : X.K = K) : OpR X (binaryOp .Add) (rAddT K) := by
  subst hK
  exact op_addA.or op_catT
end
section
variable {K : PySem.W.Frag} {H : Hp} {Q : VK}
theorem r_neFI {i j : Int} (h : Q (.bl (!decide (V.int i = V.int j))) H) : rNeF K (.int i) (.int j) H Q := .inl (r_neEI h)
theorem r_addTI {i j : Int} (h : Q (.int (i + j)) H) : rAddT K (.int i) (.int j) H Q := .inl (r_addI h)
end
theorem small_four {j : Int} (h0 : 0 ≤ j) (h1 : j < 2 ^ 60) : Builtin.Range.small 0 j 4 = true := by
  unfold Builtin.Range.small Builtin.Range.rangeSize
  simp only [Builtin.Range.rangeFitsLong, Bool.and_eq_true, Bool.or_eq_true, decide_eq_true_eq, beq_iff_eq, show (4 : Int) > 0 by decide, if_true]
  split <;> omega
theorem size_four {j : Nat} : Builtin.Range.rangeSize 0 j 4 = ((j + 3) / 4 : Nat) := by
  unfold Builtin.Range.rangeSize
  simp only [show (4 : Int) > 0 by decide, if_true]
  split <;> omega
end L2

namespace L2
open PySem PySem.Spec PyProof.Rows
structure OTxt (K : PySem.W.Frag) (mg : Str → Option Value) (x : Str) : Prop where
  at_ : mg x = some (.ref (clsA mg x))
  cl : Cls K (clsA mg x)
  makes : PySem.W.makesIn K (clsA mg x) = true
  kp : PySem.W.keepIn K (.ref (clsA mg x)) = true
structure MTxt (K : PySem.W.Frag) (mg : Str → Option Value) (x m qual : Str) (st : Stmt) : Prop where
  ex : ∃ f fd, Meth K (clsA mg x) m f ∧ Fun K m qual st f fd
section
variable {P : Program} {w : World} {K : PySem.W.Frag} {mg : Str → Option Value} {base : Heap}
end
section
variable {X : Cx} {K : PySem.W.Frag} {k : Nat} {f C : Addr} {ps : List Str} {sp : Sp} {R : St → XK} {x m fn : Str} {p pos apos pos' : Pos} {e o value : Expr} {es : List Expr} {ta tv : TE} {t : TA} {pins : List (Addr × Obj)} {σ : St} {H : Hp} {s : Shared} {Q : VK} {us : List Value} {vs : List V}
end
section
variable {σ : St} {H : Hp} {D : Ends} {Q : VK} {sp : Sp} {R : St → XK} {a : TA} {K : PySem.W.Frag} {C : Addr} {ta tv : TE} {f m : Str}
end
end L2

namespace L2
open PySem PySem.Spec PyProof.Rows
section
variable {X : Cx} {mg : Str → Option Value} {o : Expr} {ta : TE} {t : TA} {x m : Str} {ps : List Str} {sp : Sp} {k : Nat} {R : St → XK} {e : Expr} {es : List Expr} {pos apos : Pos}
end
end L2

namespace L2
open PySem PySem.Spec PyProof.Rows
section
variable {σ : St} {H : Hp} {Q : VK}
noncomputable def NewO (o : HO) (n : Nat) (H : Hp) (Q : VK) : Prop := n ≤ sizeLine ∧ ∀ p, H p = none → Q (.ref p) (upd H p o)
theorem r_lstG {a : TA} (h : a σ H fun xs H1 => NewO (.lst xs) xs.length H1 Q) : tLst a σ H Q := h
theorem r_tupG {a : TA} (h : a σ H fun xs H1 => NewO (.tup xs) xs.length H1 Q) : tTup a σ H Q := h
theorem r_newO {o : HO} {n : Nat} (c : Nat.ble n 64 = true) (h : ∀ p H', H p = none → Same H H' → H' p = some o → Q (.ref p) H') : NewO o n H Q :=
  ⟨Nat.le_trans (Nat.le_of_ble_eq_true c) (by decide), fun p np => h p _ np ((Same.refl H).upd np) upd_same⟩
end
end L2

namespace L2
open PySem PySem.Spec PyProof.Rows
section
variable {X : Cx}
end
end L2

namespace L2
open PySem PySem.Spec PyProof.Rows
section
variable {sub : List (Option Nat)} {g : TG} {tt : TT} {te : TE} {σ : St} {Q : VK} {H : Hp} {K : PySem.W.Frag} {a : Addr} {xs : List V} {lo : Int} {n : Nat} {z : Str}
theorem comp_rngG (Pv : Nat → List V → Hp → Prop) (hn : n ≤ sizeLine) (h0 : Pv 0 [] H) (hl : ∀ i ys H, Pv i ys H → ys.length ≤ i)
    (hs : ∀ i ys H, i < n → Pv i ys H → g (.int (lo + i)) (subSt sub σ) H fun σ2 H2 => KeepSt (subSt sub σ) σ2 ∧ tt σ2 H2 fun b H3 => if b = true then te σ2 H3 fun y H4 => Pv (i + 1) (ys ++ [y]) H4 else Pv (i + 1) ys H3)
    (hd : ∀ ys H D H', Pv n ys H → H D = none → Same H H' → H' D = some (.lst ys) → Q (.ref D) H') : CompR sub g tt te σ Q (Itr lo n) H :=
  comp_rng Pv hn h0 hl hs fun ys H p D nD => hd ys H D _ p nD ((Same.refl H).upd nD) upd_same
theorem comp_listG (Pv : Nat → List V → Hp → Prop) (hn : xs.length ≤ sizeLine) (h0 : Pv 0 [] H) (hl : ∀ i ys H, Pv i ys H → ys.length ≤ i) (hq : ∀ i ys H, Pv i ys H → SqL K H a xs)
    (hs : ∀ i ys H x, xs[i]? = some x → Pv i ys H → g x (subSt sub σ) H fun σ2 H2 => KeepSt (subSt sub σ) σ2 ∧ tt σ2 H2 fun b H3 => if b = true then te σ2 H3 fun y H4 => Pv (i + 1) (ys ++ [y]) H4 else Pv (i + 1) ys H3)
    (hd : ∀ ys H D H', Pv xs.length ys H → H D = none → Same H H' → H' D = some (.lst ys) → Q (.ref D) H') : CompR sub g tt te σ Q (Itl K a) H :=
  comp_list Pv hn h0 hl hq hs fun ys H p D nD => hd ys H D _ p nD ((Same.refl H).upd nD) upd_same
theorem mapNext {f : Nat → V} {i : Nat} {y : V} (h : y = f i) : (List.range i).map f ++ [y] = (List.range (i + 1)).map f := by rw [h, List.range_succ, List.map_append]; rfl
theorem comp_rngM (f : Nat → V) (hn : n ≤ sizeLine)
    (hs : ∀ i, i < n → g (.int (lo + i)) (subSt sub σ) H fun σ2 H2 => KeepSt (subSt sub σ) σ2 ∧ tt σ2 H2 fun b H3 => if b = true then te σ2 H3 fun y H4 => H4 = H ∧ (List.range i).map f ++ [y] = (List.range (i + 1)).map f else H3 = H ∧ (List.range i).map f = (List.range (i + 1)).map f)
    (hd : ∀ D H', H D = none → Same H H' → H' D = some (.lst ((List.range n).map f)) → Q (.ref D) H') : CompR sub g tt te σ Q (Itr lo n) H := by
  refine comp_rngG (fun i ys H' => H' = H ∧ ys = (List.range i).map f) hn ⟨rfl, rfl⟩ ?_ ?_ ?_
  · rintro i ys H' ⟨_, rfl⟩
    simp
  · rintro i ys H' hi ⟨rfl, rfl⟩
    exact hs i hi
  · rintro ys H1 D H' ⟨rfl, rfl⟩ nD s e
    exact hd D H' nD s e
theorem comp_listM (f : Nat → V) (hn : xs.length ≤ sizeLine) (hq : SqL K H a xs)
    (hs : ∀ i x, xs[i]? = some x → g x (subSt sub σ) H fun σ2 H2 => KeepSt (subSt sub σ) σ2 ∧ tt σ2 H2 fun b H3 => if b = true then te σ2 H3 fun y H4 => H4 = H ∧ (List.range i).map f ++ [y] = (List.range (i + 1)).map f else H3 = H ∧ (List.range i).map f = (List.range (i + 1)).map f)
    (hd : ∀ D H', H D = none → Same H H' → H' D = some (.lst ((List.range xs.length).map f)) → Q (.ref D) H') : CompR sub g tt te σ Q (Itl K a) H := by
  refine comp_listG (xs := xs) (fun i ys H' => H' = H ∧ ys = (List.range i).map f) hn ⟨rfl, rfl⟩ ?_ ?_ ?_ ?_
  · rintro i ys H' ⟨_, rfl⟩
    simp
  · rintro i ys H' ⟨rfl, _⟩
    exact hq
  · rintro i ys H' x hx ⟨rfl, rfl⟩
    exact hs i x hx
  · rintro ys H1 D H' ⟨rfl, rfl⟩ nD s e
    exact hd D H' nD s e
end
end L2

namespace L2
open PySem PySem.Spec PyProof.Rows
noncomputable def Kr (rk : Keyed → Int) (xs : Array Keyed) (i : Nat) : Int := match xs[i]? with
  | some p => rk p
  | none => 0
structure SB (a₀ : Array Keyed) (kd : SortKind) (st : SortSt) : Prop where
  perm : (arrOf st).Perm a₀
  kind : kindOf st = kd
  failed : failedOf st = none
section
variable {M : Model} {A : Around} {E : Value → Shared → Prop} {s : Shared} {kd : SortKind} {rk : Keyed → Int} {a₀ : Array Keyed}
structure Nx (a₀ : Array Keyed) (kd : SortKind) (rk : Keyed → Int) (lo : Nat) (st st' : SortSt) : Prop where
  sb : SB a₀ kd st'
  fr : ∀ k, k < lo → Kr rk (arrOf st') k = Kr rk (arrOf st) k
  pe : pendingOf st' = pendingOf st
end
end L2

namespace L2
open PySem PySem.Spec PyProof.Rows
section
variable {M : Model} {A : Around} {E : Value → Shared → Prop} {s : Shared} {kd : SortKind} {rk : Keyed → Int} {a₀ : Array Keyed}
end
end L2

namespace L2
open PySem PySem.Spec PyProof.Rows
section
variable {M : Model} {A : Around} {E : Value → Shared → Prop} {s : Shared} {kd : SortKind} {rk : Keyed → Int} {a₀ : Array Keyed}
noncomputable abbrev PwL (rk : Keyed → Int) (l : List Keyed) : Prop := l.Pairwise fun p q => rk p ≤ rk q
structure Sm (st st' : SortSt) : Prop where
  arr : arrOf st' = arrOf st
  kind : kindOf st' = kindOf st
  failed : failedOf st' = failedOf st
  pend : pendingOf st' = pendingOf st
structure MI (rk : Keyed → Int) (a b out : Array Keyed) (ia ib : Nat) : Prop where
  ha : ia ≤ a.size
  hb : ib ≤ b.size
  so : PwL rk out.toList
  le : ∀ p ∈ out.toList, ∀ q ∈ a.toList.drop ia ++ b.toList.drop ib, rk p ≤ rk q
  pm : (out.toList ++ (a.toList.drop ia ++ b.toList.drop ib)).Perm (a.toList ++ b.toList)
end
end L2

set_option maxHeartbeats 8000000
namespace L2
open PySem PySem.Spec PyProof.Rows
section
variable {M : Model} {A : Around} {E : Value → Shared → Prop} {s : Shared} {kd : SortKind} {rk : Keyed → Int} {a₀ : Array Keyed}
end
end L2

namespace L2
open PySem PySem.Spec PyProof.Rows
section
variable {M : Model} {A : Around} {E : Value → Shared → Prop} {s : Shared} {kd : SortKind} {rk : Keyed → Int} {a₀ : Array Keyed}
structure MH (rk : Keyed → Int) (a b out : Array Keyed) (na nb : Nat) : Prop where
  ha : na ≤ a.size
  hb : nb ≤ b.size
  so : PwL rk out.toList.reverse
  le : ∀ p ∈ a.toList.take na ++ b.toList.take nb, ∀ q ∈ out.toList, rk p ≤ rk q
  pm : ((a.toList.take na ++ b.toList.take nb) ++ out.toList.reverse).Perm (a.toList ++ b.toList)
end
end L2

namespace L2
open PySem PySem.Spec PyProof.Rows
section
variable {M : Model} {A : Around} {E : Value → Shared → Prop} {s : Shared} {kd : SortKind} {rk : Keyed → Int} {a₀ : Array Keyed}
end
end L2

namespace L2
open PySem PySem.Spec PyProof.Rows
section
variable {M : Model} {A : Around} {E : Value → Shared → Prop} {s : Shared} {kd : SortKind} {rk : Keyed → Int} {a₀ : Array Keyed}
end
end L2

namespace L2
open PySem PySem.W PySem.Spec PyProof.Rows
section
variable {prog : Program} {w : World} {A : Around} {E : Value → Shared → Prop} {s : Shared}
end
section
variable {X : Cx}
end
section
variable {H : Hp} {Q : VK}
end
end L2

namespace L2
open PySem PySem.Spec PyProof.Rows
section
variable {prog : Program} {w : World} {A : Around} {E : Value → Shared → Prop} {s : Shared}
end
end L2

namespace L2
open PySem PySem.Spec PyProof.Rows
section
variable {K : PySem.W.Frag} {σ : St} {H : Hp}
end
end L2

namespace L2
open PySem PySem.W PySem.Spec PyProof.Rows
section
variable {prog : Program} {w : World} {A : Around} {E : Value → Shared → Prop} {s : Shared}
end

section
variable {X : Cx}
end
section
variable {H : Hp} {Q : VK}
end
end L2
namespace L2
open PySem PySem.Spec PyProof.Rows
end L2

namespace L2
open PySem PySem.Spec PyProof.Rows
section
variable {X : Cx}
end
section
variable {H : Hp} {Q : VK} {K : PySem.W.Frag}
end
end L2

namespace L2
open PySem PySem.Spec PyProof.Rows
section
variable {X : Cx} {N' : List Str} {scope : Scope} {C : Addr} {s₀ : Shared} {H₀ : Hp} {ex : List Addr} {x : Str} {pos : Pos}
theorem jg_BC (i : Nat) (h : scope.names.lookup x = some .cell) (hN : N'.Nodup) (hi : autoParam (N'[i]? = some x) L2.auto4._auto_1) : JG (cxC X N' scope C s₀ H₀ ex) (.Name x pos) (gName i) :=
  ⟨pg_name hN hi (.inr (relabel_cell h)) (.inl (decide_eq_true h))⟩
end
theorem subOkR {N : List Str} {sc : Scope} {N' : List Str} {scope : Scope} {sub : List (Option Nat)} {env : Env} (S : SubOk N sc N' scope sub) : SubOk N (relabel sc env) N' scope sub :=
  ⟨S.kind, S.cel, S.loc, fun x hx hk => (S.free x hx hk).elim (fun h => .inl (relabel_cell h)) (fun h => relabel_free h), S.len, S.at_⟩
end L2

namespace L2
open PySem PySem.Spec PyProof.Rows
noncomputable def rMinA : List V → Hp → VK → Prop := fun xs H Q => (∃ i j, xs = [.int i, .int j] ∧ Q (.int (if j < i then j else i)) H) ∨ (∃ i j k, xs = [.int i, .int j, .int k] ∧ ∀ M, (M = i ∨ M = j ∨ M = k) → M ≤ i → M ≤ j → M ≤ k → Q (.int M) H) ∨
  ∃ (p : Addr) (ns : List Int), xs = [.ref p] ∧ H p = some (.lst (ns.map V.int)) ∧ ns ≠ [] ∧ ∀ M, M ∈ ns → (∀ a ∈ ns, M ≤ a) → Q (.int M) H
section
variable {X : Cx}
theorem vals3 {v1 v2 v3 : V} {us : List Value} (r : Vals [v1, v2, v3] us) : ∃ u1 u2 u3, us = [u1, u2, u3] ∧ RelV v1 u1 ∧ RelV v2 u2 ∧ RelV v3 u3 := by
  cases r with
  | cons a r => cases r with
    | cons b r => cases r with
      | cons c r =>
        cases r
        exact ⟨_, _, _, rfl, a, b, c⟩
theorem call_minA (hc : X.calm = true) : CallR X (.builtin "min") rMinA := by
  intro pins s σ H xs us Q I r h
  rcases h with h | ⟨i, j, k, rfl, q⟩ | ⟨p, ns, rfl, hp, hne, q⟩
  · exact call_min2 hc pins s σ H xs us Q I r h
  · obtain ⟨u1, u2, u3, rfl, ⟨t1, rfl⟩, ⟨t2, rfl⟩, ⟨t3, rfl⟩⟩ := vals3 r
    refine min_three_ints (I.ok.hd hc) fun h' tk hk => ?_
    have key : ∀ (M : Int) (t : Tok), (M = i ∨ M = j ∨ M = k) → M ≤ i → M ≤ j → M ≤ k → EP X pins σ Q (.int M t) { s with heap := h', toks := tk } := fun M t h0 h1 h2 h3 => ⟨.int M, H, I.kept hk, ⟨t, rfl⟩, q M h0 h1 h2 h3⟩
    by_cases hba : j < i <;> by_cases hc1 : k < j <;> by_cases hc2 : k < i <;> simp only [hba, hc1, hc2, if_true, if_false] <;> exact key _ _ (by omega) (by omega) (by omega) (by omega)
  · obtain ⟨u, rfl, ru⟩ := vals1 r
    cases ru
    obtain ⟨hz, its, n, rv, g⟩ := I.hok p _ hp
    have hi : IntsAre its ns := intsAre_of rv
    have hl := rv.length
    obtain ⟨ys, ey⟩ := hi.allInts.items
    have hn := hi.numsOf
    have hsz : 0 < ys.size := by
      have e1 := congrArg Array.size ey
      have : 0 < ns.length := List.length_pos_iff.mpr hne
      rw [List.length_map] at hl
      simp [intItems] at e1
      omega
    have hL : s.heap.IsList p (intItems ys) := ⟨_, g, rfl, n, by rw [← ey]⟩
    have en : ys.toList.map (·.1) = ns := by rw [← nums_intItems, ← ey, ← hn]
    refine min_intList (I.ok.hd hc) hL hsz fun v h' tk hv hk => ?_
    obtain ⟨t, rfl⟩ := intItems_at hv
    obtain ⟨h1, h2⟩ := argBest_lt (numAt ys) (ys.size - 1)
    refine ⟨.int _, H, I.kept hk, ⟨t, rfl⟩, q _ ?_ fun a ha => ?_⟩
    · rw [← en, numAt_eq]; exact getD_mem (by rw [List.length_map, Array.length_toList]; omega)
    · rw [← en] at ha
      obtain ⟨j, hj, rfl⟩ := mem_getD ha
      rw [List.length_map, Array.length_toList] at hj
      rw [← numAt_eq]; exact h2 j (by omega)
end
section
variable {H : Hp} {Q : VK}
theorem r_minII {i j : Int} (h : Q (.int (if j < i then j else i)) H) : rMinA [.int i, .int j] H Q := .inl ⟨_, _, rfl, h⟩
theorem r_minL {p : Addr} {ns : List Int} (hp : H p = some (.lst (ns.map V.int))) (hne : ns ≠ []) (h : ∀ M, M ∈ ns → (∀ a ∈ ns, M ≤ a) → Q (.int M) H) : rMinA [.ref p] H Q := .inr (.inr ⟨p, ns, rfl, hp, hne, h⟩)
end
section
variable {sub : List (Option Nat)} {g : TG} {tt : TT} {te : TE} {σ : St} {Q : VK} {H : Hp} {K : PySem.W.Frag} {a b : Addr} {xs ys : List V}
theorem comp_enumL (Pv : Nat → List V → Hp → Prop) (hn : xs.length ≤ sizeLine) (h0 : Pv 0 [] H) (hl : ∀ i zs H, Pv i zs H → zs.length ≤ i) (hq : ∀ i zs H, Pv i zs H → SqL K H a xs)
    (hs : ∀ i zs H T x, xs[i]? = some x → Pv i zs H → H T = none → g (.ref T) (subSt sub σ) (upd H T (.tup [.int i, x])) fun σ2 H2 => KeepSt (subSt sub σ) σ2 ∧ tt σ2 H2 fun b H3 => if b = true then te σ2 H3 fun y H4 => Pv (i + 1) (zs ++ [y]) H4 else Pv (i + 1) zs H3)
    (hd : ∀ zs H D H', Pv xs.length zs H → H D = none → Same H H' → H' D = some (.lst zs) → Q (.ref D) H') : CompR sub g tt te σ Q (Ite K a) H :=
  comp_by (n := xs.length) Pv hn h0 hl (fun i zs H hi p => ⟨xs, xs[i], hq i zs H p, List.getElem?_eq_getElem hi⟩) (fun zs H p => ⟨xs, hq _ zs H p, Nat.le_refl _⟩) (fun i zs H x H' hi p y => by
    obtain ⟨T, u, hT, e1, e2, e4⟩ := y
    subst e1 e4
    exact hs i zs H T u (e2 xs (hq i zs H p)) p hT) fun zs H p D nD => hd zs H D _ p nD ((Same.refl H).upd nD) upd_same
theorem comp_zip (Pv : Nat → List V → Hp → Prop) (hxy : xs.length = ys.length) (hn : xs.length ≤ sizeLine) (h0 : Pv 0 [] H) (hl : ∀ i zs H, Pv i zs H → zs.length ≤ i) (hq : ∀ i zs H, Pv i zs H → SqL K H a xs ∧ SqL K H b ys)
    (hs : ∀ i zs H T x y, xs[i]? = some x → ys[i]? = some y → Pv i zs H → H T = none → g (.ref T) (subSt sub σ) (upd H T (.tup [x, y])) fun σ2 H2 => KeepSt (subSt sub σ) σ2 ∧ tt σ2 H2 fun b H3 => if b = true then te σ2 H3 fun y H4 => Pv (i + 1) (zs ++ [y]) H4 else Pv (i + 1) zs H3)
    (hd : ∀ zs H D H', Pv xs.length zs H → H D = none → Same H H' → H' D = some (.lst zs) → Q (.ref D) H') : CompR sub g tt te σ Q (Itz K a b) H :=
  comp_by (n := xs.length) Pv hn h0 hl (fun i zs H hi p => ⟨xs, ys, xs[i], ys[i], (hq i zs H p).1, (hq i zs H p).2, List.getElem?_eq_getElem hi, List.getElem?_eq_getElem (by omega)⟩) (fun zs H p => ⟨xs, ys, (hq _ zs H p).1, (hq _ zs H p).2, .inl (Nat.le_refl _)⟩) (fun i zs H x H' hi p y => by
    obtain ⟨T, u, v, hT, e1, e2, e3, e4⟩ := y
    subst e1 e4
    exact hs i zs H T u v (e2 xs (hq i zs H p).1) (e3 ys (hq i zs H p).2) p hT) fun zs H p D nD => hd zs H D _ p nD ((Same.refl H).upd nD) upd_same
end
end L2

namespace My
open PySem L2
noncomputable def top (i : Nat) : Stmt := PySem.Challenge.pw_panethread_k25_whole_laid_by_least_sums.main.body.getD i (.Pass ⟨0, 0, 0, 0⟩)
noncomputable abbrev s_is_number : Stmt := top 7
noncomputable abbrev s_is_within : Stmt := top 8
noncomputable abbrev s_need_place : Stmt := top 9
noncomputable abbrev s_is_turning : Stmt := top 11
noncomputable abbrev s_need_turning : Stmt := top 12
noncomputable abbrev s_opposite : Stmt := top 13
noncomputable abbrev s_do_steps : Stmt := top 15
noncomputable abbrev s_steps_of : Stmt := top 16
noncomputable abbrev s_need_alike : Stmt := top 17
noncomputable abbrev s_laid : Stmt := top 18
noncomputable abbrev s_middle : Stmt := top 19
noncomputable abbrev s_law_cell : Stmt := top 21
noncomputable abbrev s_law_mix : Stmt := top 22
noncomputable abbrev s_law_takes : Stmt := top 23
noncomputable abbrev s_law_many : Stmt := top 24
noncomputable abbrev s_law_turning : Stmt := top 25
noncomputable abbrev s_law_whole : Stmt := top 26
noncomputable abbrev s_law_list : Stmt := top 27
noncomputable abbrev s_law_counts : Stmt := top 28
noncomputable abbrev s_law_drawn : Stmt := top 29
noncomputable abbrev s_law_least : Stmt := top 30
noncomputable abbrev s_law_middle : Stmt := top 31
noncomputable abbrev s_law_middles : Stmt := top 32
noncomputable abbrev s_law_right : Stmt := top 33
noncomputable abbrev s_law : Stmt := top 34
noncomputable abbrev i_NoPlace : Stmt := initOf (top 2)
noncomputable abbrev i_NoTurning : Stmt := initOf (top 3)
noncomputable abbrev i_Unlike : Stmt := initOf (top 4)
local macro_rules | `(tactic| walk_at "sts") => `(tactic| (with_reducible repeat (first | refine r_op ?_ | refine iteT ?_ | refine iteF ?_ | refine iteNT ?_ | refine iteNF ?_ | (refine' r_var ?hz0 ?_; (case hz0 => with_unfolding_all rfl)) | refine r_C ?_ | refine r_i0 ?_ | refine r_addI ?_ | refine r_cons ?_ | refine r_nil ?_ | refine r_seq ?_ | refine r_asg ?_ | refine r_name ?_ | refine r_ret ?_ | refine r_next ?_ | refine r_if ?_ | refine r_test ?_ | refine r_bl ?_ | refine r_cb ?_ | refine r_call ?_ | refine r_tb ?_ | refine r_not ?_ | refine r_and ?_ | refine r_or ?_ | refine r_andV ?_ | refine r_notV ?_ | refine r_sub ?_ | refine r_drop ?_ | refine r_un ?_ | refine r_tup ?_ | refine r_lst ?_ | refine r_bm ?_ | refine r_bm0 ?_ | refine r_sl ?_ | refine r_nop ?_ | refine r_part ?_ | refine r_true ?_ | refine r_rng1 ?_ | refine r_rng2 ?_ | refine r_iseq ?_ | refine r_comp ?_ | refine r_for ?_ | refine r_u ?_ | refine r_gcons ?_ | refine r_gnil ?_ | (refine' r_gtup (SqT.of ?hz0) ?hz1 ?_; (case hz0 => first | assumption | exact upd_same); (case hz1 => rfl)) | refine r_callX ?_ | refine r_chain ?_ | refine r_raise ?_ | refine r_rng3 ?_ | refine r_dnew ?_ | refine r_eqCI ?_ | refine r_eqEI ?_ | refine r_ii ?_ | refine r_eqBI ?_ | refine r_neBI ?_ | refine r_zip ?_ | refine r_intE ?_ | (refine' r_i ?hz0 ?_; (case hz0 => with_unfolding_all first | assumption | omega | (dsimp only <;> omega) | exact ⟨by omega, by omega⟩ | exact .inl ⟨by omega, by omega⟩ | exact .inr ⟨by omega, by omega⟩ | exact ⟨by decide, by decide, by decide⟩)) | (refine' r_mulI ?hz0 ?_; (case hz0 => with_unfolding_all first | assumption | omega | (dsimp only <;> omega) | exact ⟨by omega, by omega⟩ | exact .inl ⟨by omega, by omega⟩ | exact .inr ⟨by omega, by omega⟩ | exact ⟨by decide, by decide, by decide⟩)) | (refine' r_ixL (SqL.of ?hz0) ?hz1 ?_; (case hz0 => first | assumption | exact upd_same); (case hz1 => with_unfolding_all rfl)) | (refine' r_ixT (SqT.of ?hz0) ?hz1 ?_; (case hz0 => first | assumption | exact upd_same); (case hz1 => with_unfolding_all rfl)) | (refine' r_setL ?hz0 ?hz1 ?_; (case hz0 => first | assumption | exact upd_same); (case hz1 => with_unfolding_all rfl)) | refine r_maxII ?_ | (refine' r_aug ?hz0 ?_; (case hz0 => with_unfolding_all rfl)) | refine r_lrng ?_ | refine r_enum3 ?_ | refine r_sl3L ?_ | refine r_neFI ?_ | refine r_addTI ?_)))
local macro_rules | `(tactic| walk_at "stn") => `(tactic| (with_reducible repeat (first | refine r_op ?_ | refine iteT ?_ | refine iteF ?_ | refine iteNT ?_ | refine iteNF ?_ | (refine' r_var ?hz0 ?_; (case hz0 => with_unfolding_all rfl)) | refine r_C ?_ | refine r_i0 ?_ | refine r_addI ?_ | refine r_cons ?_ | refine r_nil ?_ | refine r_asg ?_ | refine r_name ?_ | refine r_ret ?_ | refine r_next ?_ | refine r_if ?_ | refine r_test ?_ | refine r_bl ?_ | refine r_cb ?_ | refine r_call ?_ | refine r_tb ?_ | refine r_not ?_ | refine r_and ?_ | refine r_or ?_ | refine r_andV ?_ | refine r_notV ?_ | refine r_sub ?_ | refine r_drop ?_ | refine r_un ?_ | refine r_tup ?_ | refine r_lst ?_ | refine r_bm ?_ | refine r_bm0 ?_ | refine r_sl ?_ | refine r_nop ?_ | refine r_part ?_ | refine r_true ?_ | refine r_rng1 ?_ | refine r_rng2 ?_ | refine r_iseq ?_ | refine r_comp ?_ | refine r_for ?_ | refine r_u ?_ | refine r_gcons ?_ | refine r_gnil ?_ | (refine' r_gtup (SqT.of ?hz0) ?hz1 ?_; (case hz0 => first | assumption | exact upd_same); (case hz1 => rfl)) | refine r_callX ?_ | refine r_chain ?_ | refine r_raise ?_ | refine r_rng3 ?_ | refine r_dnew ?_ | refine r_eqCI ?_ | refine r_eqEI ?_ | refine r_ii ?_ | refine r_eqBI ?_ | refine r_neBI ?_ | refine r_zip ?_ | refine r_intE ?_ | (refine' r_i ?hz0 ?_; (case hz0 => with_unfolding_all first | assumption | omega | (dsimp only <;> omega) | exact ⟨by omega, by omega⟩ | exact .inl ⟨by omega, by omega⟩ | exact .inr ⟨by omega, by omega⟩ | exact ⟨by decide, by decide, by decide⟩)) | (refine' r_mulI ?hz0 ?_; (case hz0 => with_unfolding_all first | assumption | omega | (dsimp only <;> omega) | exact ⟨by omega, by omega⟩ | exact .inl ⟨by omega, by omega⟩ | exact .inr ⟨by omega, by omega⟩ | exact ⟨by decide, by decide, by decide⟩)) | (refine' r_ixL (SqL.of ?hz0) ?hz1 ?_; (case hz0 => first | assumption | exact upd_same); (case hz1 => with_unfolding_all rfl)) | (refine' r_ixT (SqT.of ?hz0) ?hz1 ?_; (case hz0 => first | assumption | exact upd_same); (case hz1 => with_unfolding_all rfl)) | (refine' r_setL ?hz0 ?hz1 ?_; (case hz0 => first | assumption | exact upd_same); (case hz1 => with_unfolding_all rfl)) | refine r_maxII ?_ | (refine' r_aug ?hz0 ?_; (case hz0 => with_unfolding_all rfl)) | refine r_lrng ?_ | refine r_enum3 ?_ | refine r_sl3L ?_ | refine r_neFI ?_ | refine r_addTI ?_)))
noncomputable def nI (cs : List Nat) : List Int := cs.map fun i : Nat => (i : Int)
noncomputable def wks (E : List Nat) (p : Nat) : Bool := decide (E.getD p 0 < E.getD (p + 1) 0)
noncomputable def stepE (E : List Nat) (p : Nat) : List Nat := if wks E p = true then (E.set p (E.getD (p + 1) 0)).set (p + 1) (E.getD p 0) else E
noncomputable def runE (E : List Nat) (ps : List Nat) : List Nat := ps.foldl stepE E
theorem runE_push (E ps : List Nat) (p : Nat) : runE E (ps ++ [p]) = stepE (runE E ps) p := by unfold runE; rw [List.foldl_append]; rfl
theorem stepE_len (E : List Nat) (p : Nat) : (stepE E p).length = E.length := by unfold stepE; split <;> simp
theorem runE_len (E ps : List Nat) : (runE E ps).length = E.length := by
  induction ps generalizing E with
  | nil => rfl
  | cons p ps ih => exact (ih (stepE E p)).trans (stepE_len E p)
theorem swap_form {E : List Nat} {p : Nat} (h : p + 1 < E.length) : E = E.take p ++ E.getD p 0 :: E.getD (p + 1) 0 :: E.drop (p + 2) ∧ (E.set p (E.getD (p + 1) 0)).set (p + 1) (E.getD p 0) = E.take p ++ E.getD (p + 1) 0 :: E.getD p 0 :: E.drop (p + 2) := by
  have e1 : E.getD p 0 = E[p] := by rw [List.getD_eq_getElem?_getD, List.getElem?_eq_getElem (by omega)]; rfl
  have e2 : E.getD (p + 1) 0 = E[p + 1] := by rw [List.getD_eq_getElem?_getD, List.getElem?_eq_getElem h]; rfl
  have f : E = E.take p ++ E.getD p 0 :: E.getD (p + 1) 0 :: E.drop (p + 2) := by
    rw [e1, e2]
    conv => lhs; rw [← List.take_append_drop p E]
    rw [List.drop_eq_getElem_cons (by omega), List.drop_eq_getElem_cons h]
  refine ⟨f, ?_⟩
  generalize E.getD p 0 = a at f ⊢
  generalize E.getD (p + 1) 0 = b at f ⊢
  have lt : (E.take p).length = p := by rw [List.length_take]; omega
  conv => lhs; rw [f]
  rw [List.set_append_right _ _ (by omega), lt, Nat.sub_self, List.set_cons_zero, List.set_append_right _ _ (by omega), lt, show p + 1 - p = 1 by omega]
  rfl
theorem stepE_perm {E : List Nat} {p : Nat} (h : p + 1 < E.length) : (stepE E p).Perm E := by
  unfold stepE
  split
  · obtain ⟨f1, f2⟩ := swap_form h
    rw [f2]
    conv => rhs; rw [f1]
    exact (List.Perm.swap _ _ _).append_left _
  · exact List.Perm.refl _
theorem runE_perm {ps : List Nat} : ∀ {E : List Nat}, (∀ p ∈ ps, p + 1 < E.length) → (runE E ps).Perm E := by
  induction ps with
  | nil => intro E _; exact List.Perm.refl _
  | cons p ps ih =>
    intro E h
    have h1 := stepE_perm (h p (by simp))
    exact (ih (E := stepE E p) fun q hq => by rw [stepE_len]; exact h q (List.mem_cons_of_mem _ hq)).trans h1
noncomputable def wrk (E : List Nat) (ps : List Nat) (i : Nat) : List Nat := (List.range i).filter fun j => wks (runE E (ps.take j)) (ps.getD j 0)
theorem wrk_succ (E ps : List Nat) (i : Nat) : wrk E ps (i + 1) = wrk E ps i ++ (if wks (runE E (ps.take i)) (ps.getD i 0) = true then [i] else []) := by
  unfold wrk
  rw [List.range_succ, List.filter_append]
  congr 1
  by_cases h : wks (runE E (ps.take i)) (ps.getD i 0) = true
  · rw [if_pos h, List.filter_cons_of_pos (p := fun j => wks (runE E (ps.take j)) (ps.getD j 0)) h]; rfl
  · rw [if_neg h, List.filter_cons_of_neg (p := fun j => wks (runE E (ps.take j)) (ps.getD j 0)) h]; rfl
theorem wrk_len (E ps : List Nat) (i : Nat) : (wrk E ps i).length ≤ i := Nat.le_trans (List.length_filter_le _ _) (by simp)
theorem take_push {ps : List Nat} {i : Nat} (h : i < ps.length) : ps.take (i + 1) = ps.take i ++ [ps.getD i 0] := by
  rw [List.take_add_one, List.getD_eq_getElem?_getD, List.getElem?_eq_getElem h]; rfl
noncomputable def pairsU (n : Nat) : List (Nat × Nat) := (List.range n).flatMap fun x => (List.range' (x + 1) (n - (x + 1))).map fun y => (x, y)
noncomputable def cr (t : List Nat) : Nat := (pairsU t.length).countP fun p => decide (t.getD p.2 0 < t.getD p.1 0)
theorem pairsU_mem {n : Nat} {p : Nat × Nat} : p ∈ pairsU n ↔ p.1 < p.2 ∧ p.2 < n := by
  unfold pairsU
  simp only [List.mem_flatMap, List.mem_map, List.mem_range, List.mem_range']
  constructor
  · rintro ⟨x, hx, y, ⟨i, hi, rfl⟩, rfl⟩
    exact ⟨by show x < x + 1 + 1 * i; omega, by show x + 1 + 1 * i < n; omega⟩
  · rintro ⟨h1, h2⟩
    exact ⟨p.1, by omega, p.2, ⟨p.2 - (p.1 + 1), by omega, by omega⟩, rfl⟩
theorem pairsU_nodup (n : Nat) : (pairsU n).Nodup := by
  unfold pairsU List.Nodup
  rw [List.pairwise_flatMap]
  refine ⟨fun x _ => ?_, ?_⟩
  · rw [List.pairwise_map]
    exact (List.nodup_range' (s := x + 1) (n := n - (x + 1))).imp fun h e => h (by injection e)
  · refine List.nodup_range.imp fun {x y} h p hp q hq e => ?_
    obtain ⟨_, _, rfl⟩ := List.mem_map.mp hp
    obtain ⟨_, _, rfl⟩ := List.mem_map.mp hq
    injection e with e1 e2
    exact h e1
theorem count_one {α : Type} {P Q : α → Bool} {a : α} : ∀ {l : List α}, l.Nodup → a ∈ l → (∀ b ∈ l, b ≠ a → P b = Q b) → P a = false → Q a = true → l.countP Q = l.countP P + 1
  | [], _, h, _, _, _ => by cases h
  | b :: l, hn, h, he, hP, hQ => by
    obtain ⟨hb, hn'⟩ := List.nodup_cons.mp hn
    by_cases hab : b = a
    · subst hab
      rw [List.countP_cons_of_pos hQ, List.countP_cons_of_neg (by rw [hP]; simp)]
      congr 1
      exact List.countP_congr fun c hc => by rw [he c (List.mem_cons_of_mem _ hc) (fun z => hb (z ▸ hc))]
    · have ih := count_one hn' ((List.mem_cons.mp h).resolve_left fun z => hab z.symm) (fun c hc => he c (List.mem_cons_of_mem _ hc)) hP hQ
      have e := he b (by simp) hab
      cases hq : Q b with
      | true => rw [List.countP_cons_of_pos hq, List.countP_cons_of_pos (by rw [e, hq]), ih]
      | false => rw [List.countP_cons_of_neg (by rw [hq]; simp), List.countP_cons_of_neg (by rw [e, hq]; simp), ih]
noncomputable def inv (E : List Nat) : List Nat := (List.range E.length).map fun x => E.idxOf x
theorem inv_len (E : List Nat) : (inv E).length = E.length := by simp [inv]
theorem inv_at {E : List Nat} {x : Nat} (h : x < E.length) : (inv E).getD x 0 = E.idxOf x := by
  unfold inv
  rw [List.getD_eq_getElem?_getD, List.getElem?_map, List.getElem?_range h]; rfl
theorem idx_at {E : List Nat} (hn : E.Nodup) {i x : Nat} (h : E[i]? = some x) : E.idxOf x = i := by
  obtain ⟨hi, rfl⟩ := List.getElem?_eq_some_iff.mp h
  exact hn.idxOf_getElem i hi
theorem step_cr {E : List Nat} {n p : Nat} (hE : E.Perm (List.range n)) (hp : p + 1 < n) (hw : wks E p = true) : cr (inv (stepE E p)) = cr (inv E) + 1 := by
  have hl : E.length = n := by rw [hE.length_eq]; simp
  have nd : E.Nodup := hE.nodup_iff.mpr List.nodup_range
  have hlt : ∀ x ∈ E, x < n := fun x hx => List.mem_range.mp (hE.mem_iff.mp hx)
  have hin : ∀ x, x < n → x ∈ E := fun x hx => hE.mem_iff.mpr (List.mem_range.mpr hx)
  obtain ⟨a, ha⟩ : ∃ a, E[p]? = some a := ⟨_, List.getElem?_eq_getElem (by omega)⟩
  obtain ⟨b, hb⟩ : ∃ b, E[p + 1]? = some b := ⟨_, List.getElem?_eq_getElem (by omega)⟩
  have da : E.getD p 0 = a := by rw [List.getD_eq_getElem?_getD, ha]; rfl
  have db : E.getD (p + 1) 0 = b := by rw [List.getD_eq_getElem?_getD, hb]; rfl
  have hab : a < b := by
    unfold wks at hw
    rw [da, db] at hw
    exact of_decide_eq_true hw
  have eF : stepE E p = (E.set p b).set (p + 1) a := by unfold stepE; rw [if_pos hw, da, db]
  have fp := stepE_perm (E := E) (p := p) (by omega)
  have nF : (stepE E p).Nodup := fp.nodup_iff.mpr nd
  have lF : (stepE E p).length = n := by rw [stepE_len]; exact hl
  have gF : ∀ i, (stepE E p)[i]? = if i = p + 1 then some a else if i = p then some b else E[i]? := fun i => by
    rw [eF]
    by_cases h1 : i = p + 1
    · subst h1
      rw [if_pos rfl, List.getElem?_set_self (by simp; omega)]
    · rw [if_neg h1, List.getElem?_set_ne (fun z => h1 z.symm)]
      by_cases h2 : i = p
      · subst h2
        rw [if_pos rfl, List.getElem?_set_self (by omega)]
      · rw [if_neg h2, List.getElem?_set_ne (fun z => h2 z.symm)]
  have ia : E.idxOf a = p := idx_at nd ha
  have ib : E.idxOf b = p + 1 := idx_at nd hb
  have ja : (stepE E p).idxOf a = p + 1 := idx_at nF (by rw [gF, if_pos rfl])
  have jb : (stepE E p).idxOf b = p := idx_at nF (by rw [gF, if_neg (by omega), if_pos rfl])
  have other : ∀ x, x < n → x ≠ a → x ≠ b → (stepE E p).idxOf x = E.idxOf x ∧ E.idxOf x ≠ p ∧ E.idxOf x ≠ p + 1 := fun x hx h1 h2 => by
    obtain ⟨i, hi, e⟩ := List.mem_iff_getElem.mp (hin x hx)
    have ei : E[i]? = some x := by rw [List.getElem?_eq_getElem hi, e]
    have n1 : i ≠ p := fun z => h1 (by subst z; rw [ha] at ei; exact (Option.some.inj ei).symm)
    have n2 : i ≠ p + 1 := fun z => h2 (by subst z; rw [hb] at ei; exact (Option.some.inj ei).symm)
    rw [idx_at nd ei]
    exact ⟨idx_at nF (by rw [gF, if_neg n2, if_neg n1, ei]), n1, n2⟩
  have han : a < n := hlt a (List.mem_of_getElem? ha)
  have hbn : b < n := hlt b (List.mem_of_getElem? hb)
  unfold cr
  rw [inv_len, inv_len, lF, hl]
  refine count_one (a := (a, b)) (pairsU_nodup n) (pairsU_mem.mpr ⟨hab, hbn⟩) ?_ ?_ ?_
  · rintro ⟨x, y⟩ hxy hne
    obtain ⟨h1, h2⟩ := pairsU_mem.mp hxy
    dsimp only at h1 h2 ⊢
    have hx : x < n := by omega
    rw [inv_at (by omega), inv_at (by omega), inv_at (by omega), inv_at (by omega)]
    congr 1
    rw [eq_iff_iff]
    by_cases xa : x = a
    · subst xa
      have yb : y ≠ b := fun z => hne (by rw [z])
      obtain ⟨o1, o2, o3⟩ := other y h2 (by omega) yb
      rw [o1, ia, ja]; omega
    · by_cases xb : x = b
      · subst xb
        obtain ⟨o1, o2, o3⟩ := other y h2 (by omega) (by omega)
        rw [o1, ib, jb]; omega
      · obtain ⟨q1, q2, q3⟩ := other x hx xa xb
        by_cases ya : y = a
        · subst ya
          rw [q1, ia, ja]; omega
        · by_cases yb : y = b
          · subst yb
            rw [q1, ib, jb]; omega
          · obtain ⟨o1, _, _⟩ := other y h2 ya yb
            rw [q1, o1]
  · dsimp only
    rw [inv_at (by omega), inv_at (by omega), ia, ib]
    exact decide_eq_false (by omega)
  · dsimp only
    rw [inv_at (by omega), inv_at (by omega), ja, jb]
    exact decide_eq_true (by omega)
theorem cr_start (n : Nat) : cr (inv (List.range n)) = 0 := by
  unfold cr
  rw [List.countP_eq_zero]
  rintro ⟨x, y⟩ h
  rw [inv_len, List.length_range] at h
  obtain ⟨h1, h2⟩ := pairsU_mem.mp h
  dsimp only at h1 h2 ⊢
  have e : ∀ z, z < n → (List.range n).idxOf z = z := fun z hz => idx_at List.nodup_range (List.getElem?_range hz)
  rw [inv_at (by simpa using h2), inv_at (by simp; omega), e y h2, e x (by omega)]
  simp; omega
theorem cr_wrk {n : Nat} {ps : List Nat} (hp : ∀ p ∈ ps, p + 1 < n) : ∀ i, i ≤ ps.length → cr (inv (runE (List.range n) (ps.take i))) = (wrk (List.range n) ps i).length
  | 0, _ => by rw [List.take_zero]; exact cr_start n
  | i + 1, h => by
    have ih := cr_wrk hp i (by omega)
    have hmem : ps.getD i 0 ∈ ps := by rw [List.getD_eq_getElem?_getD, List.getElem?_eq_getElem (by omega)]; exact List.getElem_mem _
    have hpm : (runE (List.range n) (ps.take i)).Perm (List.range n) := runE_perm fun q hq => by simpa using hp q (List.mem_of_mem_take hq)
    rw [take_push (by omega), runE_push, wrk_succ]
    by_cases hw : wks (runE (List.range n) (ps.take i)) (ps.getD i 0) = true
    · rw [step_cr hpm (hp _ hmem) hw, ih, if_pos hw]; simp
    · rw [if_neg hw, List.append_nil, ← ih]
      unfold stepE
      rw [if_neg hw]
structure Txt (K : PySem.W.Frag) (mg : Str → Option Value) : Prop where
  b_bool : mg "bool" = none
  b_enumerate : mg "enumerate" = none
  b_int : mg "int" = none
  b_isinstance : mg "isinstance" = none
  b_len : mg "len" = none
  b_list : mg "list" = none
  b_max : mg "max" = none
  b_min : mg "min" = none
  b_range : mg "range" = none
  b_reversed : mg "reversed" = none
  b_sorted : mg "sorted" = none
  b_tuple : mg "tuple" = none
  b_zip : mg "zip" = none
  c_MOST_LINES : ∃ t, mg "MOST_LINES" = some (.int 96 t)
  d_is_number : Def K mg "is_number" s_is_number
  d_is_within : Def K mg "is_within" s_is_within
  d_need_place : Def K mg "need_place" s_need_place
  d_is_turning : Def K mg "is_turning" s_is_turning
  d_need_turning : Def K mg "need_turning" s_need_turning
  d_opposite : Def K mg "opposite" s_opposite
  d_do_steps : Def K mg "do_steps" s_do_steps
  d_steps_of : Def K mg "steps_of" s_steps_of
  d_need_alike : Def K mg "need_alike" s_need_alike
  d_laid : Def K mg "laid" s_laid
  d_middle : Def K mg "middle" s_middle
  d_law_cell : Def K mg "_law_cell" s_law_cell
  d_law_mix : Def K mg "_law_mix" s_law_mix
  d_law_takes : Def K mg "_law_takes" s_law_takes
  d_law_many : Def K mg "_law_many" s_law_many
  d_law_turning : Def K mg "_law_turning" s_law_turning
  d_law_whole : Def K mg "_law_whole" s_law_whole
  d_law_list : Def K mg "_law_list" s_law_list
  d_law_counts : Def K mg "_law_counts" s_law_counts
  d_law_drawn : Def K mg "_law_drawn" s_law_drawn
  d_law_least : Def K mg "_law_least" s_law_least
  d_law_middle : Def K mg "_law_middle" s_law_middle
  d_law_middles : Def K mg "_law_middles" s_law_middles
  d_law_right : Def K mg "_law_right" s_law_right
  d_law : Def K mg "law" s_law
  x_NoPlace : XTxt K mg "NoPlace" ["found"] "NoPlace.__init__" i_NoPlace
  x_NoTurning : XTxt K mg "NoTurning" ["found"] "NoTurning.__init__" i_NoTurning
  x_Unlike : XTxt K mg "Unlike" ["one", "other"] "Unlike.__init__" i_Unlike
noncomputable def Kd (K : PySem.W.Frag) (H : Hp) (v : V) : Prop := (∃ n, v = .int n) ∨ (∃ b, v = .bl b) ∨ ∃ T, TyOf K H v (.type T) ∧ PySem.W.kitOne K (.type T) (.type "int") = some false
theorem Kd.same {K : PySem.W.Frag} {H H' : Hp} {v : V} (h : Kd K H v) (s : Same H H') : Kd K H' v := by
  rcases h with h | h | ⟨T, a, c⟩
  · exact .inl h
  · exact .inr (.inl h)
  · exact .inr (.inr ⟨T, a.mono fun b o e _ => s b o e, c⟩)
noncomputable def numV : V → Bool
  | .int _ => true
  | _ => false
noncomputable def inB (v : V) (lo hi : Int) : Bool := match v with
  | .int n => decide (lo ≤ n) && decide (n ≤ hi)
  | _ => false
section
variable {P : Program} {w : World} {K : PySem.W.Frag} {mg : Str → Option Value} {base : Heap}
theorem kz00 : (defScope s_is_number).names.lookup ("isinstance" : Str) = some NameKind.globalImplicit := by decide +kernel
theorem kz01 : (defScope s_is_number).names.lookup ("bool" : Str) = some NameKind.globalImplicit := by decide +kernel
theorem kz02 : (defScope s_is_number).names.lookup ("thing" : Str) = some NameKind.local := by decide +kernel
theorem kz03 : (defScope s_is_number).names.lookup ("int" : Str) = some NameKind.globalImplicit := by decide +kernel
theorem kz04 : (defScope s_is_within).names.lookup ("low" : Str) = some NameKind.local := by decide +kernel
theorem kz05 : (defScope s_is_within).names.lookup ("thing" : Str) = some NameKind.local := by decide +kernel
theorem kz06 : (defScope s_is_within).names.lookup ("high" : Str) = some NameKind.local := by decide +kernel
theorem kz07 : (defScope s_is_within).names.lookup ("is_number" : Str) = some NameKind.globalImplicit := by decide +kernel
theorem kz08 : (defScope s_need_place).names.lookup ("is_within" : Str) = some NameKind.globalImplicit := by decide +kernel
theorem kz09 : (defScope s_need_place).names.lookup ("high" : Str) = some NameKind.local := by decide +kernel
theorem kz0a : (defScope s_need_place).names.lookup ("low" : Str) = some NameKind.local := by decide +kernel
theorem kz0b : (defScope s_need_place).names.lookup ("thing" : Str) = some NameKind.local := by decide +kernel
theorem kz0c : (defScope s_need_place).names.lookup ("NoPlace" : Str) = some NameKind.globalImplicit := by decide +kernel
theorem ki_NoPlace_self : (defScope i_NoPlace).names.lookup ("self" : Str) = some NameKind.local := by decide +kernel
theorem ki_NoPlace_found : (defScope i_NoPlace).names.lookup ("found" : Str) = some NameKind.local := by decide +kernel
theorem ki_NoTurning_self : (defScope i_NoTurning).names.lookup ("self" : Str) = some NameKind.local := by decide +kernel
theorem ki_NoTurning_found : (defScope i_NoTurning).names.lookup ("found" : Str) = some NameKind.local := by decide +kernel
theorem ki_Unlike_self : (defScope i_Unlike).names.lookup ("self" : Str) = some NameKind.local := by decide +kernel
theorem ki_Unlike_one : (defScope i_Unlike).names.lookup ("one" : Str) = some NameKind.local := by decide +kernel
theorem ki_Unlike_other : (defScope i_Unlike).names.lookup ("other" : Str) = some NameKind.local := by decide +kernel
theorem Same.put {H H' : Hp} {p : Addr} {o : HO} (s : Same H H') (hn : H p = none) : Same H (upd H' p o) := fun b u e => by
  rw [upd_ne (fun z => by rw [z, hn] at e; cases e)]
  exact s b u e
theorem Same.back {H H' : Hp} {p : Addr} (s : Same H H') (h : H' p = none) : H p = none := by
  cases e : H p with
  | none => rfl
  | some o => rw [s _ _ e] at h; cases h
theorem notInt {H : Hp} {v : V} {T : String} (h : TyOf K H v (.type T)) (k : PySem.W.kitOne K (.type T) (.type "int") = some false) : numV v = false ∧ ∀ lo hi, inB v lo hi = false := by
  cases v with
  | int z =>
    cases h
    have : PySem.W.kitOne K (.type "int") (.type "int") = some true := rfl
    rw [this] at k; cases k
  | _ => exact ⟨rfl, fun _ _ => rfl⟩
theorem sci_NoPlace : FnScope ["self", "found"] ["self", "found"] (defScope i_NoPlace) := ⟨rfl, rfl, rfl, by decide +kernel, rfl, by decide +kernel, by decide +kernel⟩
theorem mk_NoPlace (T : Txt K mg) : XMk P w K mg base 1 "NoPlace" (clsA mg "NoPlace") ["found"] := mkX T.x_NoPlace sci_NoPlace (fun _ _ _ _ _ _ us hl => L2.usN2 (fun _ _ => rfl) us hl) rfl fun f cdv A outer s H vs Q E hr h => ⟨_, (jb_one (js_fldX (K := K) rfl (j_vL 0 ki_NoPlace_self) (j_vL 1 ki_NoPlace_found))), rd1 T.x_NoPlace.c.cl.cls (T.x_NoPlace.na _ (by simp)) h⟩
theorem sci_NoTurning : FnScope ["self", "found"] ["self", "found"] (defScope i_NoTurning) := ⟨rfl, rfl, rfl, by decide +kernel, rfl, by decide +kernel, by decide +kernel⟩
theorem mk_NoTurning (T : Txt K mg) : XMk P w K mg base 1 "NoTurning" (clsA mg "NoTurning") ["found"] := mkX T.x_NoTurning sci_NoTurning (fun _ _ _ _ _ _ us hl => L2.usN2 (fun _ _ => rfl) us hl) rfl fun f cdv A outer s H vs Q E hr h => ⟨_, (jb_one (js_fldX (K := K) rfl (j_vL 0 ki_NoTurning_self) (j_vL 1 ki_NoTurning_found))), rd1 T.x_NoTurning.c.cl.cls (T.x_NoTurning.na _ (by simp)) h⟩
theorem sci_Unlike : FnScope ["self", "one", "other"] ["self", "one", "other"] (defScope i_Unlike) := ⟨rfl, rfl, rfl, by decide +kernel, rfl, by decide +kernel, by decide +kernel⟩
theorem mk_Unlike (T : Txt K mg) : XMk P w K mg base 1 "Unlike" (clsA mg "Unlike") ["one", "other"] := mkX T.x_Unlike sci_Unlike (fun _ _ _ _ _ _ us hl => L2.usN3 (fun _ _ _ => rfl) us hl) rfl fun f cdv A outer s H vs Q E hr h => ⟨_, (jb_cons (js_fldX (K := K) rfl (j_vL 0 ki_Unlike_self) (j_vL 1 ki_Unlike_one)) (jb_one (js_fldX (K := K) rfl (j_vL 0 ki_Unlike_self) (j_vL 2 ki_Unlike_other)))), rd2 T.x_Unlike.c.cl.cls (T.x_Unlike.na _ (by simp)) (T.x_Unlike.na _ (by simp)) (by decide) h⟩
noncomputable def spNumber (K : PySem.W.Frag) : Sp := fun vs H Q _ => ∃ v : V, vs = [v] ∧ Kd K H v ∧ Q (.bl (numV v)) H
theorem sc_is_number : FnScope ["thing"] ["thing"] (defScope s_is_number) := ⟨rfl, rfl, rfl, by decide +kernel, rfl, by decide +kernel, by decide +kernel⟩
theorem h_is_number (T : Txt K mg) : Has P w K mg base 1 "is_number" ["thing"] (spNumber K) := by
  refine hasJ T.d_is_number sc_is_number (fun _ _ _ _ _ _ us hl => L2.usN1 (fun _ => rfl) us hl) ?_ fun f cdv A outer s H vs Q E hr h => ?_
  · rintro vs H Q E ⟨v, rfl, _⟩; rfl
  obtain ⟨v, rfl, hT, q⟩ := h
  have hu := hr.units0
  have hu64 := hr.units
  refine ⟨_, (jb_one (js_ret (j_and (j_callB (call_isiK (K := K) rfl) (glF kz00) T.b_isinstance bt_isinstance (ja_cons (j_vL 0 kz02) (ja_cons (j_ty (glF kz03) T.b_int bt_int (by decide +kernel) (by decide +kernel)) ja_nil)) (by decide +kernel) (by decide +kernel)) (j_one (j_not (j_callB (call_isiK (K := K) rfl) (glF kz00) T.b_isinstance bt_isinstance (ja_cons (j_vL 0 kz02) (ja_cons (j_ty (glF kz01) T.b_bool bt_bool (by decide +kernel) (by decide +kernel)) ja_nil)) (by decide +kernel) (by decide +kernel))))))), ?_⟩
  walk_at "sts"
  rcases hT with ⟨n, rfl⟩ | ⟨b, rfl⟩ | ⟨T', hty, hk⟩
  · refine r_isi (.int _) rfl ?_
    walk_at "sts"
    refine r_isi (.int _) rfl ?_
    walk_at "sts"
    exact q
  · refine r_isi (.bl _) (b := true) (by rfl) ?_
    walk_at "sts"
    refine r_isi (.bl _) (b := true) (by rfl) ?_
    walk_at "sts"
    exact q
  · refine r_isi hty hk ?_
    walk_at "sts"
    rw [(notInt hty hk).1] at q
    exact q
noncomputable def spWithin (K : PySem.W.Frag) : Sp := fun vs H Q _ => ∃ (v : V) (lo hi : Int), vs = [v, .int lo, .int hi] ∧ Kd K H v ∧ Q (.bl (inB v lo hi)) H
theorem sc_is_within : FnScope ["thing", "low", "high"] ["thing", "low", "high"] (defScope s_is_within) := ⟨rfl, rfl, rfl, by decide +kernel, rfl, by decide +kernel, by decide +kernel⟩
theorem h_is_within (T : Txt K mg) : Has P w K mg base 2 "is_within" ["thing", "low", "high"] (spWithin K) := by
  have h_is_number := h_is_number (P := P) (w := w) (base := base) T
  refine hasJ T.d_is_within sc_is_within (fun _ _ _ _ _ _ us hl => L2.usN3 (fun _ _ _ => rfl) us hl) ?_ fun f cdv A outer s H vs Q E hr h => ?_
  · rintro vs H Q E ⟨v, lo, hi, rfl, _⟩; rfl
  obtain ⟨v, lo, hi, rfl, hT, q⟩ := h
  have hu := hr.units0
  have hu64 := hr.units
  refine ⟨_, (jb_one (js_ret (j_and (j_call h_is_number (hr.mono (by decide)) (glF kz07) (ja_cons (j_vL 0 kz05) ja_nil) (by decide +kernel)) (j_one (j_chain op_le op_le (j_vL 1 kz04) (j_vL 0 kz05) (j_vL 2 kz06)))))), ?_⟩
  walk_at "sts"
  refine ⟨v, rfl, hT, ?_⟩
  walk_at "sts"
  cases v with
  | int n =>
    show if true = true then _ else _
    walk_at "sts"
    show if decide (lo ≤ n) = true then _ else _
    unfold inB at q
    dsimp only at q
    by_cases h : lo ≤ n
    · rw [decide_eq_true h] at q ⊢
      rw [Bool.true_and] at q
      walk_at "sts"
      exact q
    · rw [decide_eq_false h] at q ⊢
      rw [Bool.false_and] at q
      walk_at "sts"
      exact q
  | _ => exact q
noncomputable def spNeedP (K : PySem.W.Frag) (mg : Str → Option Value) : Sp := fun vs H Q E => ∃ (v : V) (lo hi : Int), vs = [v, .int lo, .int hi] ∧ Kd K H v ∧ (inB v lo hi = true → Q .non H) ∧
  (inB v lo hi = false → ∀ e H', Same H H' → IsX H' e (clsA mg "NoPlace") [("found", v)] → E (.ref (clsA mg "NoPlace")) (some e) H')
theorem sc_need_place : FnScope ["thing", "low", "high"] ["thing", "low", "high"] (defScope s_need_place) := ⟨rfl, rfl, rfl, by decide +kernel, rfl, by decide +kernel, by decide +kernel⟩
theorem h_need_place (T : Txt K mg) : HasX P w K mg base 3 "need_place" ["thing", "low", "high"] (spNeedP K mg) := by
  have h_is_within := h_is_within (P := P) (w := w) (base := base) T
  refine hasJX T.d_need_place sc_need_place (fun _ _ _ _ _ _ us hl => L2.usN3 (fun _ _ _ => rfl) us hl) ?_ fun f cdv A outer s H vs Q E hr h => ?_
  · rintro vs H Q E ⟨v, lo, hi, rfl, _⟩; rfl
  obtain ⟨v, lo, hi, rfl, hT, q1, q2⟩ := h
  have hu := hr.units0
  have hu64 := hr.units
  refine ⟨_, (jb_one (js_if (jt_not (jt_val (j_call h_is_within (hr.mono (by decide)) (glF kz08) (ja_cons (j_vL 0 kz0b) (ja_cons (j_vL 1 kz0a) (ja_cons (j_vL 2 kz09) ja_nil))) (by decide +kernel)))) (jb_one (js_raise (mk_NoPlace (P := P) (w := w) (base := base) T) (hr.mono (by decide)) rfl (glF kz0c) pass_def (ja_cons (j_vL 0 kz0b) ja_nil) (by decide +kernel))) jb_nil)), ?_⟩
  walk_at "sts"
  refine ⟨v, lo, hi, rfl, hT, ?_⟩
  walk_at "sts"
  cases hb : inB v lo hi with
  | true =>
    walk_at "sts"
    exact q1 hb
  | false =>
    walk_at "sts"
    exact ⟨rfl, (show 1 ≤ sizeLine by decide), fun x H2 S2 X2 => q2 hb x H2 S2 X2⟩
end

section
variable {P : Program} {w : World} {K : PySem.W.Frag} {mg : Str → Option Value} {base : Heap}

theorem dec_int2 (i j : Int) : decide (V.int i = V.int j) = decide (i = j) := decide_eq_decide.mpr ⟨fun h => V.int.inj h, fun h => by rw [h]⟩
theorem nI_len (t : List Nat) : ((nI t).map V.int).length = t.length := by unfold nI; rw [List.length_map, List.length_map]
theorem nI_at {t : List Nat} {k i : Nat} (h : t[k]? = some i) : ((nI t).map V.int)[k]? = some (.int (i : Int)) := by unfold nI; rw [List.getElem?_map, List.getElem?_map, h]; rfl
theorem nI_of {t : List Nat} {k : Nat} {v : V} (h : ((nI t).map V.int)[k]? = some v) : ∃ i, t[k]? = some i ∧ v = .int (i : Int) := by
  unfold nI at h
  rw [List.getElem?_map, List.getElem?_map] at h
  cases e : t[k]? with
  | none => rw [e] at h; cases h
  | some y => rw [e] at h; exact ⟨y, rfl, (Option.some.inj h).symm⟩
theorem nI_ix {t : List Nat} {k : Nat} {j : Int} (hk : k < t.length) (hj : j = (k : Int)) : atI ((nI t).map V.int) j = some (.int ((t.getD k 0 : Nat) : Int)) := by
  subst hj
  refine atI_nat (nI_at ?_)
  rw [List.getD_eq_getElem?_getD, List.getElem?_eq_getElem hk]; rfl
theorem nI_set (t : List Nat) (k x : Nat) : ((nI t).map V.int).set k (.int (x : Int)) = (nI (t.set k x)).map V.int := by unfold nI; rw [List.map_set, List.map_set]
theorem nI_push (t : List Nat) (x : Nat) : (nI t).map V.int ++ [.int (x : Int)] = (nI (t ++ [x])).map V.int := by unfold nI; rw [List.map_append, List.map_append]; rfl
theorem ix_at {n p : Nat} {j : Int} (hj : j = (p : Int)) (h : p < n) : ixN n j = some p := by
  subst hj
  unfold ixN
  rw [if_pos (by omega), if_pos (by omega)]
  simp
structure Prm (t : List Nat) : Prop where
  le : t.length ≤ 96
  pm : t.Perm (List.range t.length)
theorem Prm.nd {t : List Nat} (h : Prm t) : t.Nodup := h.pm.nodup_iff.mpr List.nodup_range
theorem Prm.lt {t : List Nat} (h : Prm t) {x : Nat} (hx : x ∈ t) : x < t.length := List.mem_range.mp (h.pm.mem_iff.mp hx)
theorem Prm.mem {t : List Nat} (h : Prm t) {x : Nat} (hx : x < t.length) : x ∈ t := h.pm.mem_iff.mpr (List.mem_range.mpr hx)
theorem prm_range {n : Nat} (h : n ≤ 96) : Prm (List.range n) := ⟨by simpa using h, by simp⟩
theorem inv_of {t r : List Nat} (hP : Prm t) (hl : r.length = t.length) (h : ∀ (i x : Nat), t[i]? = some x → r[x]? = some i) : r = inv t := by
  refine List.ext_getElem? fun x => ?_
  by_cases hx : x < t.length
  · obtain ⟨i, hi, e⟩ := List.mem_iff_getElem.mp (hP.mem hx)
    have ei : t[i]? = some x := by rw [List.getElem?_eq_getElem hi, e]
    rw [h i x ei]
    unfold inv
    rw [List.getElem?_map, List.getElem?_range hx]
    show some i = some (t.idxOf x)
    rw [idx_at hP.nd ei]
  · rw [List.getElem?_eq_none (by omega), List.getElem?_eq_none (by rw [inv_len]; omega)]
theorem prm_inv {E : List Nat} (h : Prm E) : Prm (inv E) := by
  have hl := inv_len E
  refine ⟨by rw [hl]; exact h.le, ?_⟩
  rw [hl]
  have nd : (inv E).Nodup := by
    unfold inv
    unfold List.Nodup
    rw [List.pairwise_map]
    refine List.nodup_range.imp_of_mem fun {x y} hx hy ne e => ne ?_
    have key : ∀ z, z ∈ List.range E.length → E.getD (E.idxOf z) 0 = z := fun z hz => by
      have hi : E.idxOf z < E.length := List.idxOf_lt_length_iff.mpr (h.mem (List.mem_range.mp hz))
      rw [List.getD_eq_getElem?_getD, List.getElem?_eq_getElem hi]
      exact List.getElem_idxOf hi
    rw [← key x hx, ← key y hy, e]
  refine (List.perm_ext_iff_of_nodup nd List.nodup_range).mpr fun x => ?_
  rw [List.mem_range]
  constructor
  · intro hx
    unfold inv at hx
    obtain ⟨y, hy, rfl⟩ := List.mem_map.mp hx
    exact List.idxOf_lt_length_iff.mpr (h.mem (List.mem_range.mp hy))
  · intro hx
    unfold inv
    refine List.mem_map.mpr ⟨E[x], List.mem_range.mpr (h.lt (List.getElem_mem hx)), ?_⟩
    exact idx_at h.nd (List.getElem?_eq_getElem hx)
theorem inv_inv {t : List Nat} (h : Prm t) : inv (inv t) = t := by
  refine (inv_of (prm_inv h) (by rw [inv_len]) fun i x e => ?_).symm
  have hi : i < t.length := by have := (List.getElem?_eq_some_iff.mp e).1; rwa [inv_len] at this
  have e2 : (inv t)[i]? = some (t.idxOf i) := by unfold inv; rw [List.getElem?_map, List.getElem?_range hi]; rfl
  rw [e] at e2
  cases e2
  have hx : t.idxOf i < t.length := List.idxOf_lt_length_iff.mpr (h.mem hi)
  rw [List.getElem?_eq_getElem hx]
  exact congrArg some (List.getElem_idxOf hx)
noncomputable def swp (B : List Nat) (p : Nat) : List Nat := (B.set p (B.getD (p + 1) 0)).set (p + 1) (B.getD p 0)
theorem swp_len (B : List Nat) (p : Nat) : (swp B p).length = B.length := by unfold swp; simp
theorem getD_some {B : List Nat} {i : Nat} (h : i < B.length) : B[i]? = some (B.getD i 0) := by rw [List.getD_eq_getElem?_getD, List.getElem?_eq_getElem h]; rfl
theorem swp_at {B : List Nat} {p : Nat} (h : p + 1 < B.length) (i : Nat) : (swp B p).getD i 0 = if i = p + 1 then B.getD p 0 else if i = p then B.getD (p + 1) 0 else B.getD i 0 := by
  unfold swp
  rw [List.getD_eq_getElem?_getD]
  by_cases h1 : i = p + 1
  · subst h1
    rw [if_pos rfl, List.getElem?_set_self (by simp; omega)]; rfl
  · rw [if_neg h1, List.getElem?_set_ne (fun z => h1 z.symm)]
    by_cases h2 : i = p
    · subst h2
      rw [if_pos rfl, List.getElem?_set_self (by omega)]; rfl
    · rw [if_neg h2, List.getElem?_set_ne (fun z => h2 z.symm), ← List.getD_eq_getElem?_getD]
theorem ext_getD {A B : List Nat} (hl : A.length = B.length) (h : ∀ i, i < A.length → A.getD i 0 = B.getD i 0) : A = B := by
  refine List.ext_getElem? fun i => ?_
  by_cases hi : i < A.length
  · rw [getD_some hi, getD_some (by omega), h i hi]
  · rw [List.getElem?_eq_none (by omega), List.getElem?_eq_none (by omega)]
theorem swp_swp {B : List Nat} {p : Nat} (h : p + 1 < B.length) : swp (swp B p) p = B := by
  refine ext_getD (by rw [swp_len, swp_len]) fun i _ => ?_
  rw [swp_at (by rw [swp_len]; exact h), swp_at h, swp_at h, swp_at h]
  by_cases h1 : i = p + 1
  · subst h1; simp
  · by_cases h2 : i = p
    · subst h2; simp
    · simp [h1, h2]
theorem step_swp {B : List Nat} {p : Nat} (h : wks B p = true) : stepE B p = swp B p := by unfold stepE swp; rw [if_pos h]
noncomputable def inn : Nat → List Nat → List Nat → List Nat × List Nat
  | 0, B, u => (B, u)
  | p + 1, B, u => if B.getD (p + 1) 0 < B.getD p 0 then inn p (swp B p) (u ++ [p]) else (B, u)
noncomputable def ous (B : List Nat) : Nat → List Nat × List Nat
  | 0 => (B, [])
  | k + 1 => inn (k + 1) (ous B k).1 (ous B k).2
noncomputable def Wk : List Nat → List Nat → Prop
  | _, [] => True
  | B, p :: us => wks B p = true ∧ Wk (stepE B p) us
theorem wk_at : ∀ {us B : List Nat} {j : Nat}, Wk B us → j < us.length → wks (runE B (us.take j)) (us.getD j 0) = true
  | p :: us, B, 0, h, _ => h.1
  | p :: us, B, j + 1, h, hj => wk_at (us := us) (B := stepE B p) (j := j) h.2 (by simpa using hj)
theorem wk_wrk {B us : List Nat} (h : Wk B us) : wrk B us us.length = List.range us.length := by
  unfold wrk
  rw [List.filter_eq_self]
  intro j hj
  exact wk_at h (List.mem_range.mp hj)
structure Sx (B0 : List Nat) (n : Nat) (B u : List Nat) : Prop where
  len : B.length = n
  pm : B.Perm (List.range n)
  lt : ∀ p ∈ u, p + 1 < n
  back : runE B u.reverse = B0
  wk : Wk B u.reverse
  link : ∀ i, i < n → B.getD i 0 = B0.getD ((runE (List.range n) u).getD i 0) 0
theorem run_g {n : Nat} {u : List Nat} (h : ∀ p ∈ u, p + 1 < n) : (runE (List.range n) u).Perm (List.range n) := runE_perm fun p hp => by simpa using h p hp
theorem inj_at {G : List Nat} {n i j : Nat} (h : G.Perm (List.range n)) (hi : i < n) (hj : j < n) (e : G.getD i 0 = G.getD j 0) : i = j := by
  have nd : G.Nodup := h.nodup_iff.mpr List.nodup_range
  have hl : G.length = n := by rw [h.length_eq]; simp
  have h1 := idx_at nd (getD_some (B := G) (i := i) (by omega))
  have h2 := idx_at nd (getD_some (B := G) (i := j) (by omega))
  rw [e] at h1
  omega
theorem lt_at {G : List Nat} {n i : Nat} (h : G.Perm (List.range n)) (hi : i < n) : G.getD i 0 < n := by
  have hl : G.length = n := by rw [h.length_eq]; simp
  exact List.mem_range.mp (h.mem_iff.mp (List.mem_of_getElem? (getD_some (by omega))))
theorem inn_ok {B0 : List Nat} {n m : Nat} (hm : m < n) : ∀ (p : Nat) (B u : List Nat), p ≤ m → Sx B0 n B u → (∀ i j, i < j → j ≤ m → j ≠ p → B.getD i 0 < B.getD j 0) →
    (runE (List.range n) u).getD p 0 = m → (∀ i, i ≤ m → (runE (List.range n) u).getD i 0 ≤ m) → (∀ i, m < i → i < n → (runE (List.range n) u).getD i 0 = i) →
    Sx B0 n (inn p B u).1 (inn p B u).2 ∧ (∀ i j, i < j → j ≤ m → (inn p B u).1.getD i 0 < (inn p B u).1.getD j 0) ∧ (∀ i, i ≤ m → (runE (List.range n) (inn p B u).2).getD i 0 ≤ m) ∧ (∀ i, m < i → i < n → (runE (List.range n) (inn p B u).2).getD i 0 = i)
  | 0, B, u, _, S, srt, _, gle, gid => ⟨S, fun i j h1 h2 => srt i j h1 h2 (by omega), gle, gid⟩
  | p + 1, B, u, hp, S, srt, gm, gle, gid => by
    have hB := S.len
    have hG := run_g S.lt
    have lG : (runE (List.range n) u).length = n := by rw [hG.length_eq]; simp
    unfold inn
    by_cases hc : B.getD (p + 1) 0 < B.getD p 0
    · rw [if_pos hc]
      have hp1 : p + 1 < B.length := by omega
      have w1 : wks (swp B p) p = true := by
        unfold wks
        rw [swp_at hp1, swp_at hp1, if_neg (by omega), if_pos rfl, if_pos rfl]
        exact decide_eq_true hc
      have w2 : wks (runE (List.range n) u) p = true := by
        unfold wks
        rw [gm]
        refine decide_eq_true ?_
        have h1 := gle p (by omega)
        have h2 : (runE (List.range n) u).getD p 0 ≠ m := fun z => by
          have := inj_at hG (i := p) (j := p + 1) (by omega) (by omega) (by rw [z, gm])
          omega
        omega
      have eG : runE (List.range n) (u ++ [p]) = swp (runE (List.range n) u) p := by rw [runE_push, step_swp w2]
      have bk : stepE (swp B p) p = B := by rw [step_swp w1, swp_swp hp1]
      have S' : Sx B0 n (swp B p) (u ++ [p]) := by
        refine ⟨by rw [swp_len]; exact hB, ?_, ?_, ?_, ?_, ?_⟩
        · have := stepE_perm (E := swp B p) (p := p) (by rw [swp_len]; exact hp1)
          rw [bk] at this
          exact this.symm.trans S.pm
        · intro q hq
          rcases List.mem_append.mp hq with h | h
          · exact S.lt q h
          · rw [List.mem_singleton.mp h]; omega
        · rw [List.reverse_append]
          show runE (stepE (swp B p) p) u.reverse = B0
          rw [bk]; exact S.back
        · rw [List.reverse_append]
          show wks (swp B p) p = true ∧ Wk (stepE (swp B p) p) u.reverse
          rw [bk]; exact ⟨w1, S.wk⟩
        · intro i hi
          rw [eG, swp_at hp1, swp_at (by omega)]
          by_cases h1 : i = p + 1
          · rw [if_pos h1, if_pos h1]; exact S.link p (by omega)
          · rw [if_neg h1, if_neg h1]
            by_cases h2 : i = p
            · rw [if_pos h2, if_pos h2]; exact S.link (p + 1) (by omega)
            · rw [if_neg h2, if_neg h2]; exact S.link i hi
      refine inn_ok hm p (swp B p) (u ++ [p]) (by omega) S' (fun i j h1 h2 h3 => ?_) ?_ (fun i hi => ?_) fun i h1 h2 => ?_
      · rw [swp_at hp1, swp_at hp1]
        by_cases j1 : j = p + 1
        · subst j1
          rw [if_neg (show ¬ i = p + 1 by omega), if_pos rfl]
          by_cases i2 : i = p
          · rw [if_pos i2]; exact hc
          · rw [if_neg i2]; exact srt i p (by omega) (by omega) (by omega)
        · rw [if_neg j1, if_neg h3]
          by_cases i1 : i = p + 1
          · rw [if_pos i1]; exact srt p j (by omega) h2 j1
          · rw [if_neg i1]
            by_cases i2 : i = p
            · rw [if_pos i2]; exact srt (p + 1) j (by omega) h2 j1
            · rw [if_neg i2]; exact srt i j h1 h2 j1
      · rw [eG, swp_at (by omega), if_neg (by omega), if_pos rfl]; exact gm
      · rw [eG, swp_at (by omega)]
        by_cases i1 : i = p + 1
        · rw [if_pos i1]; exact gle p (by omega)
        · rw [if_neg i1]
          by_cases i2 : i = p
          · rw [if_pos i2]; exact gle (p + 1) hp
          · rw [if_neg i2]; exact gle i hi
      · rw [eG, swp_at (by omega), if_neg (by omega), if_neg (by omega)]; exact gid i h1 h2
    · rw [if_neg hc]
      refine ⟨S, fun i j h1 h2 => ?_, gle, gid⟩
      show B.getD i 0 < B.getD j 0
      by_cases hj : j = p + 1
      · subst hj
        have hne : B.getD p 0 ≠ B.getD (p + 1) 0 := fun z => by
          have := inj_at S.pm (i := p) (j := p + 1) (by omega) (by omega) z
          omega
        by_cases hi : i = p
        · subst hi; omega
        · have := srt i p (by omega) (by omega) (by omega)
          omega
      · exact srt i j h1 h2 hj
theorem ous_ok {B0 : List Nat} {n : Nat} (hB : B0.Perm (List.range n)) : ∀ k, k < n → Sx B0 n (ous B0 k).1 (ous B0 k).2 ∧ (∀ i j, i < j → j ≤ k → (ous B0 k).1.getD i 0 < (ous B0 k).1.getD j 0) ∧ (∀ i, i ≤ k → (runE (List.range n) (ous B0 k).2).getD i 0 ≤ k) ∧ (∀ i, k < i → i < n → (runE (List.range n) (ous B0 k).2).getD i 0 = i)
  | 0, h => by
    have hl : B0.length = n := by rw [hB.length_eq]; simp
    have hr : ∀ i, i < n → (List.range n).getD i 0 = i := fun i hi => by rw [List.getD_eq_getElem?_getD, List.getElem?_range hi]; rfl
    refine ⟨⟨hl, hB, (fun p hp => by cases hp), rfl, trivial, fun i hi => ?_⟩, (fun i j h1 h2 => by omega), fun i hi => ?_, fun i _ hi => hr i hi⟩
    · show B0.getD i 0 = B0.getD ((List.range n).getD i 0) 0
      rw [hr i hi]
    · have : i = 0 := by omega
      subst this
      show (List.range n).getD 0 0 ≤ 0
      rw [hr 0 h]
      exact Nat.le_refl _
  | k + 1, h => by
    obtain ⟨S, srt, gle, gid⟩ := ous_ok hB k (by omega)
    show Sx B0 n (inn (k + 1) (ous B0 k).1 (ous B0 k).2).1 (inn (k + 1) (ous B0 k).1 (ous B0 k).2).2 ∧ _
    refine inn_ok h (k + 1) _ _ (Nat.le_refl _) S (fun i j h1 h2 h3 => srt i j h1 (by omega)) (gid (k + 1) (by omega) h) (fun i hi => ?_) fun i h1 h2 => gid i (by omega) h2
    by_cases e : i = k + 1
    · subst e; rw [gid (k + 1) (by omega) h]; exact Nat.le_refl _
    · have := gle i (by omega); omega
theorem sorted_range {B : List Nat} {n : Nat} (hl : B.length = n) (hlt : ∀ i, i < n → B.getD i 0 < n) (h : ∀ i j, i < j → j < n → B.getD i 0 < B.getD j 0) : B = List.range n := by
  have mono : ∀ d i, i + d < n → B.getD i 0 + d ≤ B.getD (i + d) 0 := fun d => by
    induction d with
    | zero => intro i _; exact Nat.le_refl _
    | succ d ih =>
      intro i hi
      have h1 := ih i (by omega)
      have h2 := h (i + d) (i + (d + 1)) (by omega) hi
      omega
  refine ext_getD (by rw [hl]; simp) fun i hi => ?_
  rw [hl] at hi
  rw [show (List.range n).getD i 0 = i by rw [List.getD_eq_getElem?_getD, List.getElem?_range hi]; rfl]
  have h1 := mono i 0 (by omega)
  have h2 := mono (n - 1 - i) i (by omega)
  have h3 := hlt (i + (n - 1 - i)) (by omega)
  rw [Nat.zero_add] at h1
  omega
noncomputable def und (t : List Nat) : List Nat := (ous (inv t) (t.length - 1)).2
structure Und (t u : List Nat) : Prop where
  lt : ∀ p ∈ u, p + 1 < t.length
  back : runE (List.range t.length) u.reverse = inv t
  wk : wrk (List.range t.length) u.reverse u.reverse.length = List.range u.reverse.length
  fw : runE (List.range t.length) u = t
theorem und_ok {t : List Nat} (h : Prm t) : Und t (und t) := by
  have hP := prm_inv h
  have hl := inv_len t
  by_cases h0 : t.length = 0
  · have e : t = [] := List.length_eq_zero_iff.mp h0
    subst e
    exact ⟨(fun p hp => by cases hp), rfl, rfl, rfl⟩
  · have pm : (inv t).Perm (List.range t.length) := by have := hP.pm; rwa [hl] at this
    obtain ⟨S, srt, _, _⟩ := ous_ok pm (t.length - 1) (by omega)
    have e : (ous (inv t) (t.length - 1)).1 = List.range t.length := sorted_range S.len (fun i hi => lt_at S.pm hi) fun i j h1 h2 => srt i j h1 (by omega)
    have bk := S.back
    have wk := S.wk
    have lk := S.link
    rw [e] at bk wk lk
    refine ⟨S.lt, bk, wk_wrk wk, ?_⟩
    have hG := run_g S.lt
    have lG : (runE (List.range t.length) (ous (inv t) (t.length - 1)).2).length = t.length := by rw [hG.length_eq]; simp
    refine (inv_of (t := inv t) hP (by rw [hl]; exact lG) fun i x ex => ?_).trans (inv_inv h)
    have hi : i < t.length := by have := (List.getElem?_eq_some_iff.mp ex).1; omega
    have dx : (inv t).getD i 0 = x := by rw [List.getD_eq_getElem?_getD, ex]; rfl
    have hx : x < t.length := by rw [← dx]; exact lt_at pm hi
    have l1 := lk x hx
    rw [show (List.range t.length).getD x 0 = x by rw [List.getD_eq_getElem?_getD, List.getElem?_range hx]; rfl, ← dx] at l1
    have gx := lt_at hG hx
    have := inj_at pm hi gx (by rw [← dx]; exact l1)
    exact (getD_some (B := runE (List.range t.length) (ous (inv t) (t.length - 1)).2) (by rw [lG]; exact hx)).trans (congrArg some this.symm)
theorem pairs_len {n : Nat} (h : n ≤ 96) : (pairsU n).length ≤ 6000 := by
  have key : ∀ n, n < 97 → ((List.range n).map fun x => n - (x + 1)).sum ≤ 6000 := by decide +kernel
  unfold pairsU
  rw [List.length_flatMap]
  have := key n (by omega)
  simpa using this
theorem cr_le {t : List Nat} (h : t.length ≤ 96) : cr t ≤ 6000 := Nat.le_trans List.countP_le_length (pairs_len h)
theorem und_len {t : List Nat} (h : Prm t) : (und t).reverse.length = cr t := by
  have U := und_ok h
  have hp : ∀ p ∈ (und t).reverse, p + 1 < t.length := fun p hp => U.lt p (List.mem_reverse.mp hp)
  have e := cr_wrk hp (und t).reverse.length (Nat.le_refl _)
  rw [List.take_length, U.back, inv_inv h, U.wk, List.length_range] at e
  exact e.symm
end

noncomputable def cN (p x : Nat) : Nat := if p ≤ x then 1 else 0
noncomputable def N : List Nat → Nat → Nat → Nat
  | [], _, _ => 0
  | _ :: _, _, 0 => 0
  | x :: B, p, q + 1 => cN p x + N B p q
theorem N_zero (B : List Nat) (p : Nat) : N B p 0 = 0 := by cases B <;> rfl
theorem N_app : ∀ (L M : List Nat) (p q : Nat), N (L ++ M) p q = N L p q + N M p (q - L.length)
  | [], M, p, q => by simp [N]
  | x :: L, M, p, 0 => by simp [N, N_zero]
  | x :: L, M, p, q + 1 => by
    rw [List.cons_append]
    show cN p x + N (L ++ M) p q = cN p x + N L p q + N M p (q + 1 - (L.length + 1))
    rw [N_app L M p q, show q + 1 - (L.length + 1) = q - L.length by omega]; omega
theorem N_over : ∀ (L : List Nat) (p q : Nat), L.length ≤ q → N L p q = N L p L.length
  | [], p, q, _ => rfl
  | x :: L, p, 0, h => by simp at h
  | x :: L, p, q + 1, h => by
    show cN p x + N L p q = cN p x + N L p L.length
    rw [N_over L p q (by simpa using h)]
theorem N_succ : ∀ {B : List Nat} {p q : Nat}, q < B.length → N B p (q + 1) = N B p q + cN p (B.getD q 0)
  | x :: B, p, 0, _ => by
    show cN p x + N B p 0 = 0 + cN p x
    rw [N_zero]; omega
  | x :: B, p, q + 1, h => by
    show cN p x + N B p (q + 1) = cN p x + N B p q + cN p ((x :: B).getD (q + 1) 0)
    rw [N_succ (B := B) (q := q) (by simpa using h)]
    simp; omega
theorem N_step {B : List Nat} {i : Nat} (h : i + 1 < B.length) (p q : Nat) : N (stepE B i) p q = if q = i + 1 then min (N B p i + 1) (N B p (i + 2)) else N B p q := by
  obtain ⟨f1, f2⟩ := swap_form h
  have e : stepE B i = B.take i ++ max (B.getD i 0) (B.getD (i + 1) 0) :: min (B.getD i 0) (B.getD (i + 1) 0) :: B.drop (i + 2) := by
    unfold stepE
    split
    · rename_i hw
      have hw' : B.getD i 0 < B.getD (i + 1) 0 := of_decide_eq_true hw
      rw [f2, Nat.max_eq_right (by omega), Nat.min_eq_left (by omega)]
    · rename_i hw
      have hw' : ¬ B.getD i 0 < B.getD (i + 1) 0 := fun z => hw (decide_eq_true z)
      rw [Nat.max_eq_left (by omega), Nat.min_eq_right (by omega)]
      exact f1
  have lL : (B.take i).length = i := by rw [List.length_take]; omega
  generalize B.getD i 0 = a at f1 e
  generalize B.getD (i + 1) 0 = b at f1 e
  generalize B.take i = L at f1 e lL
  generalize B.drop (i + 2) = R at f1 e
  rw [e, f1, N_app, N_app, N_app, N_app, lL]
  have hc : cN p (max a b) + cN p (min a b) = cN p a + cN p b := by unfold cN; split <;> split <;> split <;> split <;> omega
  have hm : cN p (max a b) = min 1 (cN p a + cN p b) := by unfold cN; split <;> split <;> split <;> omega
  by_cases h1 : q = i + 1
  · subst h1
    rw [if_pos rfl, show i + 1 - i = 1 by omega, show i - i = 0 by omega, show i + 2 - i = 2 by omega, N_over L p (i + 1) (by omega), N_over L p i (by omega), N_over L p (i + 2) (by omega), N_zero]
    show N L p L.length + (cN p (max a b) + N (min a b :: R) p 0) = min (N L p L.length + 0 + 1) (N L p L.length + (cN p a + (cN p b + N R p 0)))
    rw [N_zero, N_zero, hm]; omega
  · rw [if_neg h1]
    congr 1
    by_cases h2 : q ≤ i
    · rw [show q - i = 0 by omega, N_zero, N_zero]
    · obtain ⟨k, hk⟩ : ∃ k, q - i = k + 2 := ⟨q - i - 2, by omega⟩
      rw [hk]
      show cN p (max a b) + (cN p (min a b) + N R p k) = cN p a + (cN p b + N R p k)
      omega
theorem N_range (n p : Nat) : ∀ q, q ≤ n → N (List.range n) p q = q - p
  | 0, _ => by rw [N_zero]; omega
  | q + 1, h => by
    rw [N_succ (by simp; omega), N_range n p q (by omega), show (List.range n).getD q 0 = q by rw [List.getD_eq_getElem?_getD, List.getElem?_range (by omega)]; rfl]
    unfold cN
    split <;> omega
theorem N_mono {B : List Nat} {p : Nat} {m : Nat} : ∀ d, m + d ≤ B.length → N B p m ≤ N B p (m + d) ∧ N B p (m + d) ≤ N B p m + d
  | 0, _ => ⟨Nat.le_refl _, Nat.le_refl _⟩
  | d + 1, h => by
    have := N_mono (B := B) (p := p) (m := m) d (by omega)
    have e := N_succ (B := B) (p := p) (q := m + d) (by omega)
    have : cN p (B.getD (m + d) 0) ≤ 1 := by unfold cN; split <;> omega
    rw [show m + (d + 1) = m + d + 1 by omega, e]
    omega
theorem N_near {B : List Nat} {p q m : Nat} (hq : q ≤ B.length) (hm : m ≤ B.length) : N B p q ≤ N B p m + (q - m) := by
  by_cases h : m ≤ q
  · have := (N_mono (B := B) (p := p) (m := m) (q - m) (by omega)).2
    rw [show m + (q - m) = q by omega] at this
    exact this
  · have := (N_mono (B := B) (p := p) (m := q) (m - q) (by omega)).1
    rw [show q + (m - q) = m by omega] at this
    omega
noncomputable def Mp (n : Nat) (A B C : List Nat) : Prop := ∀ p q, p ≤ n → q ≤ n → (∀ m, m ≤ n → N A p q ≤ N B p m + N C m q) ∧ ∃ m, m ≤ n ∧ N A p q = N B p m + N C m q
theorem mp_base {E : List Nat} {n : Nat} (hl : E.length = n) : Mp n E E (List.range n) := fun p q hp hq => by
  refine ⟨fun m hm => ?_, q, hq, ?_⟩
  · rw [N_range n m q hq]
    exact N_near (by omega) (by omega)
  · rw [N_range n q q hq]; omega
theorem mp_run {E : List Nat} {n : Nat} {s : List Nat} (hl : E.length = n) (hs : ∀ p ∈ s, p + 1 < n) : ∀ k, k ≤ s.length → Mp n (runE E (s.take k)) E (runE (List.range n) (s.take k))
  | 0, _ => by rw [List.take_zero]; exact mp_base hl
  | k + 1, hk => by
    have ih := mp_run hl hs k (by omega)
    have hi : s.getD k 0 + 1 < n := hs _ (List.mem_of_getElem? (getD_some (by omega)))
    rw [take_push (by omega), runE_push, runE_push]
    have l1 : (runE E (s.take k)).length = n := by rw [runE_len]; exact hl
    have l2 : (runE (List.range n) (s.take k)).length = n := by rw [runE_len]; simp
    generalize runE E (s.take k) = F at ih l1
    generalize runE (List.range n) (s.take k) = D at ih l2
    generalize s.getD k 0 = i at hi
    intro p q hp hq
    rw [N_step (by omega)]
    have st : ∀ m, N (stepE D i) m q = if q = i + 1 then min (N D m i + 1) (N D m (i + 2)) else N D m q := fun m => N_step (by omega) m q
    by_cases h1 : q = i + 1
    · subst h1
      rw [if_pos rfl]
      obtain ⟨a1, m1, b1, c1⟩ := ih p i hp (by omega)
      obtain ⟨a2, m2, b2, c2⟩ := ih p (i + 2) hp (by omega)
      refine ⟨fun m hm => ?_, ?_⟩
      · rw [st m, if_pos rfl]
        have := a1 m hm
        have := a2 m hm
        omega
      · by_cases hc : N F p i + 1 ≤ N F p (i + 2)
        · refine ⟨m1, b1, ?_⟩
          rw [st m1, if_pos rfl]
          have := a2 m1 b1
          omega
        · refine ⟨m2, b2, ?_⟩
          rw [st m2, if_pos rfl]
          have := a1 m2 b2
          omega
    · rw [if_neg h1]
      obtain ⟨a1, m1, b1, c1⟩ := ih p q hp hq
      refine ⟨fun m hm => ?_, m1, b1, ?_⟩
      · rw [st m, if_neg h1]; exact a1 m hm
      · rw [st m1, if_neg h1]; exact c1
structure Pn (n : Nat) (A : List Nat) : Prop where
  len : A.length = n
  lt : ∀ x ∈ A, x < n
theorem N_skip : ∀ {B : List Nat} {q : Nat} (p : Nat), q ∉ B → N B q p = N B (q + 1) p
  | [], _, _, _ => rfl
  | x :: B, q, 0, _ => rfl
  | x :: B, q, p + 1, h => by
    show cN q x + N B q p = cN (q + 1) x + N B (q + 1) p
    rw [N_skip p (fun z => h (List.mem_cons_of_mem _ z))]
    have : x ≠ q := fun z => h (by rw [z]; simp)
    unfold cN
    split <;> split <;> omega
theorem N_at : ∀ {B : List Nat} {q : Nat} (p : Nat), B.Nodup → q ∈ B → N B q p = N B (q + 1) p + if B.idxOf q < p then 1 else 0
  | x :: B, q, 0, _, _ => by simp [N_zero]
  | x :: B, q, p + 1, nd, h => by
    obtain ⟨hx, nd'⟩ := List.nodup_cons.mp nd
    show cN q x + N B q p = cN (q + 1) x + N B (q + 1) p + _
    by_cases e : x = q
    · subst e
      rw [N_skip p hx, List.idxOf_cons_self, if_pos (by omega)]
      unfold cN
      rw [if_pos (Nat.le_refl _), if_neg (by omega)]; omega
    · have h' : q ∈ B := (List.mem_cons.mp h).resolve_left fun z => e z.symm
      rw [N_at p nd' h', List.idxOf_cons, show (x == q) = false by simpa using e]
      have e2 : cN q x = cN (q + 1) x := by unfold cN; split <;> split <;> omega
      rw [e2]
      simp only [cond_false]
      by_cases hp : List.idxOf q B < p
      · rw [if_pos hp, if_pos (by omega)]; omega
      · rw [if_neg hp, if_neg (by omega)]; omega
theorem N_all : ∀ (B : List Nat) (p : Nat), p ≤ B.length → N B 0 p = p
  | _, 0, _ => by rw [N_zero]
  | x :: B, p + 1, h => by
    show cN 0 x + N B 0 p = p + 1
    have e : cN 0 x = 1 := if_pos (Nat.zero_le _)
    rw [N_all B p (by simpa using h), e, Nat.add_comm]
theorem N_inv {B : List Nat} {n : Nat} (h : Prm B) (hn : B.length = n) {p : Nat} (hp : p ≤ n) : ∀ q, q ≤ n → N (inv B) p q + p = q + N B q p
  | 0, _ => by rw [N_zero, N_all B p (by omega)]
  | q + 1, hq => by
    have ih := N_inv h hn hp q (by omega)
    rw [N_succ (by rw [inv_len]; omega), inv_at (by omega)]
    have e := N_at p h.nd (h.mem (x := q) (by omega))
    unfold cN
    split
    · rw [if_neg (by omega)] at e; omega
    · rw [if_pos (by omega)] at e; omega
noncomputable def lay (x y : List Nat) : List Nat := inv (runE (inv x) (und y).reverse)
structure Two (n : Nat) (x y : List Nat) : Prop where
  px : Prm x
  py : Prm y
  lx : x.length = n
  ly : y.length = n
theorem Two.lt {n : Nat} {x y : List Nat} (h : Two n x y) : ∀ p ∈ (und y).reverse, p + 1 < n := fun p hp => by
  have := (und_ok h.py).lt p (List.mem_reverse.mp hp)
  rw [h.ly] at this
  exact this
theorem prm_runE {E ps : List Nat} (h : Prm E) (hp : ∀ p ∈ ps, p + 1 < E.length) : Prm (runE E ps) := by
  have hl := runE_len E ps
  refine ⟨by rw [hl]; exact h.le, ?_⟩
  rw [hl]
  exact (runE_perm hp).trans h.pm
theorem Two.run {n : Nat} {x y : List Nat} (h : Two n x y) : Prm (runE (inv x) (und y).reverse) ∧ (runE (inv x) (und y).reverse).length = n :=
  ⟨prm_runE (prm_inv h.px) fun p hp => by rw [inv_len, h.lx]; exact h.lt p hp, by rw [runE_len, inv_len, h.lx]⟩
theorem Two.lay {n : Nat} {x y : List Nat} (h : Two n x y) : Prm (lay x y) ∧ (lay x y).length = n ∧ Mp n (inv (lay x y)) (inv x) (inv y) := by
  obtain ⟨hP, hl⟩ := h.run
  unfold My.lay
  refine ⟨prm_inv hP, by rw [inv_len]; exact hl, ?_⟩
  rw [inv_inv hP]
  have := mp_run (E := inv x) (n := n) (s := (und y).reverse) (by rw [inv_len, h.lx]) h.lt (und y).reverse.length (Nat.le_refl _)
  rw [List.take_length] at this
  have e := (und_ok h.py).back
  rw [h.ly] at e
  rw [e] at this
  exact this
section
variable {P : Program} {w : World} {K : PySem.W.Frag} {mg : Str → Option Value} {base : Heap}
theorem kz0d : (defScope s_is_turning).names.lookup ("thing" : Str) = some NameKind.local := by decide +kernel
theorem kz0e : (defScope s_is_turning).names.lookup ("end" : Str) = some NameKind.local := by decide +kernel
theorem kz0f : (defScope s_is_turning).names.lookup ("seen" : Str) = some NameKind.local := by decide +kernel
theorem kz0g : (defScope s_is_turning).names.lookup ("is_within" : Str) = some NameKind.globalImplicit := by decide +kernel
theorem kz0h : (defScope s_is_turning).names.lookup ("len" : Str) = some NameKind.globalImplicit := by decide +kernel
theorem kz0i : (defScope s_is_turning).names.lookup ("MOST_LINES" : Str) = some NameKind.globalImplicit := by decide +kernel
theorem kz0j : (defScope s_is_turning).names.lookup ("isinstance" : Str) = some NameKind.globalImplicit := by decide +kernel
theorem kz0k : (defScope s_is_turning).names.lookup ("tuple" : Str) = some NameKind.globalImplicit := by decide +kernel
theorem kz0l : (defScope s_is_turning).names.lookup ("list" : Str) = some NameKind.globalImplicit := by decide +kernel
theorem kz0m : (defScope s_need_turning).names.lookup ("is_turning" : Str) = some NameKind.globalImplicit := by decide +kernel
theorem kz0n : (defScope s_need_turning).names.lookup ("thing" : Str) = some NameKind.local := by decide +kernel
theorem kz0o : (defScope s_need_turning).names.lookup ("NoTurning" : Str) = some NameKind.globalImplicit := by decide +kernel
theorem kz0p : (defScope s_opposite).names.lookup ("begins" : Str) = some NameKind.local := by decide +kernel
theorem kz0q : (defScope s_opposite).names.lookup ("enumerate" : Str) = some NameKind.globalImplicit := by decide +kernel
theorem kz0r : (defScope s_opposite).names.lookup ("turning" : Str) = some NameKind.local := by decide +kernel
theorem kz0s : (defScope s_opposite).names.lookup ("end" : Str) = some NameKind.local := by decide +kernel
theorem kz0t : (defScope s_opposite).names.lookup ("begin" : Str) = some NameKind.local := by decide +kernel
theorem kz0u : (defScope s_opposite).names.lookup ("len" : Str) = some NameKind.globalImplicit := by decide +kernel
theorem kz0v : (defScope s_opposite).names.lookup ("need_turning" : Str) = some NameKind.globalImplicit := by decide +kernel
noncomputable def Tn (H : Hp) (a : Addr) (t : List Nat) : Prop := H a = some (.lst ((nI t).map V.int)) ∨ H a = some (.tup ((nI t).map V.int))
theorem Tn.same {H H' : Hp} {a : Addr} {t : List Nat} (h : Tn H a t) (s : Same H H') : Tn H' a t := h.imp (s _ _) (s _ _)
noncomputable def tnB (us : List V) : Bool := decide (us.length ≤ 96) && (us.all fun u => inB u 0 ((us.length : Int) - 1)) && decide us.Nodup
theorem tn_long {us : List V} (h : 96 < us.length) : tnB us = false := by unfold tnB; rw [decide_eq_false (by omega)]; rfl
theorem tn_out {us : List V} {u : V} (h : u ∈ us) (hb : inB u 0 ((us.length : Int) - 1) = false) : tnB us = false := by
  unfold tnB
  have : (us.all fun u => inB u 0 ((us.length : Int) - 1)) = false := List.all_eq_false.mpr ⟨u, h, by rw [hb]; simp⟩
  rw [this, Bool.and_false, Bool.false_and]
theorem tn_dup {us : List V} {k : Nat} {u : V} (h : us[k]? = some u) (hm : u ∈ us.take k) : tnB us = false := by
  have : ¬ us.Nodup := fun nd => by
    obtain ⟨i, hi, e⟩ := List.mem_iff_getElem.mp hm
    obtain ⟨hk, e2⟩ := List.getElem?_eq_some_iff.mp h
    rw [List.length_take] at hi
    rw [List.getElem_take] at e
    exact List.pairwise_iff_getElem.mp nd i k (by omega) hk (by omega) (e.trans e2.symm)
  unfold tnB
  rw [decide_eq_false this, Bool.and_false]
theorem tn_ok {us : List V} (h : us.length ≤ 96) (hin : ∀ u ∈ us, inB u 0 ((us.length : Int) - 1) = true) (hnd : us.Nodup) : tnB us = true := by
  unfold tnB
  rw [decide_eq_true h, decide_eq_true hnd, List.all_eq_true.mpr hin]; rfl
theorem nodup_push {us : List V} {v : V} (h : us.Nodup) (hm : v ∉ us) : (us ++ [v]).Nodup := by
  refine List.nodup_append.mpr ⟨h, by simp, fun a ha b hb => ?_⟩
  rw [List.mem_singleton.mp hb]
  exact fun z => hm (z ▸ ha)
theorem inB_int {v : V} {h : Int} (hb : inB v 0 h = true) : ∃ i : Nat, v = .int (i : Int) ∧ (i : Int) ≤ h := by
  cases v with
  | int n =>
    unfold inB at hb
    simp at hb
    exact ⟨n.toNat, by rw [Int.toNat_of_nonneg hb.1], by omega⟩
  | _ => cases hb
noncomputable def TnK (K : PySem.W.Frag) (H : Hp) (v : V) (b : Bool) : Prop := (∃ a us, v = .ref a ∧ (H a = some (.lst us) ∨ H a = some (.tup us)) ∧ us.length ≤ 10000 ∧ (∀ u ∈ us, Kd K H u) ∧ b = tnB us) ∨
  ∃ T, TyOf K H v (.type T) ∧ PySem.W.kitAny K (.type T) [.type "list", .type "tuple"] = some false ∧ b = false
theorem TnK.same {H H' : Hp} {v : V} {b : Bool} (h : TnK K H v b) (s : Same H H') : TnK K H' v b := by
  rcases h with ⟨a, us, e, ha, hl, hk, hb⟩ | ⟨T, a, c, d⟩
  · exact .inl ⟨a, us, e, ha.imp (s _ _) (s _ _), hl, fun u hu => (hk u hu).same s, hb⟩
  · exact .inr ⟨T, a.mono fun b o e _ => s b o e, c, d⟩
theorem tn_good {H : Hp} {a : Addr} {t : List Nat} (h : Tn H a t) (hP : Prm t) : TnK K H (.ref a) true := by
  have hle := hP.le
  refine .inl ⟨a, _, rfl, h, by rw [nI_len]; omega, fun u hu => ?_, ?_⟩
  · obtain ⟨x, _, rfl⟩ := List.mem_map.mp hu
    exact .inl ⟨x, rfl⟩
  · refine (tn_ok (by rw [nI_len]; exact hle) (fun u hu => ?_) ?_).symm
    · obtain ⟨x, hx, rfl⟩ := List.mem_map.mp hu
      unfold nI at hx
      obtain ⟨y, hy, rfl⟩ := List.mem_map.mp hx
      have := hP.lt hy
      rw [nI_len]
      unfold inB
      simp; omega
    · unfold nI List.Nodup
      rw [List.map_map, List.pairwise_map]
      exact hP.nd.imp fun {x y} h z => h (by have e : ((x : Nat) : Int) = ((y : Nat) : Int) := V.int.inj z; omega)
noncomputable def spTurn (K : PySem.W.Frag) : Sp := fun vs H Q _ => ∃ (v : V) (b : Bool), vs = [v] ∧ TnK K H v b ∧ ∀ H', Same H H' → Q (.bl b) H'
theorem sc_is_turning : FnScope ["thing", "seen", "end"] ["thing"] (defScope s_is_turning) := ⟨rfl, rfl, rfl, by decide +kernel, rfl, by decide +kernel, by decide +kernel⟩
theorem h_is_turning (T : Txt K mg) : Has P w K mg base 3 "is_turning" ["thing"] (spTurn K) := by
  have h_is_within := h_is_within (P := P) (w := w) (base := base) T
  refine hasJ T.d_is_turning sc_is_turning (fun _ _ _ _ _ _ us hl => L2.usN1 (fun _ => rfl) us hl) ?_ fun f cdv A outer s H vs Q E hr h => ?_
  · rintro vs H Q E ⟨v, bb, rfl, _⟩; rfl
  obtain ⟨v, bb, rfl, h, q⟩ := h
  have hu := hr.units0
  have hu64 := hr.units
  refine ⟨_, (jb_cons (js_if (jw_pt (jw_or (jt_not (jt_val (j_callB (call_isiX (K := K) rfl) (glF kz0j) T.b_isinstance bt_isinstance (ja_cons (j_vL 0 kz0d) (ja_cons (j_tup (ja_cons (j_ty (glF kz0l) T.b_list bt_list (by decide +kernel) (by decide +kernel)) (ja_cons (j_ty (glF kz0k) T.b_tuple bt_tuple (by decide +kernel) (by decide +kernel)) ja_nil))) ja_nil)) (by decide +kernel) (by decide +kernel)))) (jw_or1 (jt_cmp op_gt (j_callB (call_lenK (K := K) rfl) (glF kz0h) T.b_len bt_len (ja_cons (j_vL 0 kz0d) ja_nil) (by decide +kernel) (by decide +kernel)) (j_gint (glF kz0i) T.c_MOST_LINES (by decide +kernel)) (by first | exact nomark _ | with_unfolding_all rfl))))) (jb_one (js_ret j_bl)) jb_nil) (jb_cons (js_set (i := 1) sc_is_turning.nd rfl (Or.inl kz0f) j_dnewK rfl) (jb_cons (js_for PassesOwn.never rfl (ji_seq (K := K) rfl (j_vL 0 kz0d)) (jg_name (i := 2) sc_is_turning.nd rfl (Or.inl kz0e) rfl) (jb_cons (js_if (jw_pt (jw_or (jt_not (jt_val (j_call h_is_within (hr.mono (by decide)) (glF kz0g) (ja_cons (j_vL 2 kz0e) (ja_cons j_int (ja_cons (j_op op_sub (j_callB (call_lenK (K := K) rfl) (glF kz0h) T.b_len bt_len (ja_cons (j_vL 0 kz0d) ja_nil) (by decide +kernel) (by decide +kernel)) j_int) ja_nil))) (by decide +kernel)))) (jw_or1 (jt_cmp (op_inD (K := K) rfl hu64) (j_vL 2 kz0e) (j_vL 1 kz0f) (by first | exact nomark _ | with_unfolding_all rfl))))) (jb_one (js_ret j_bl)) jb_nil) (jb_one (js_asgS (ts := rSetA) j_bl (jg_sub (j_vL 1 kz0f) (j_vL 2 kz0e) (set_any hu64)))))) (jb_one (js_ret j_bl))))), ?_⟩
  walk_at "sts"
  have hs : 20000 ≤ sizeLine := by decide
  rcases h with ⟨a, us, rfl, ha, hlen, hkd, rfl⟩ | ⟨T', hty, hk, rfl⟩
  · rcases ha with ha | ha
    · skip
      refine r_new rfl fun p np => ?_
      walk_at "sts"
      have ha1 : upd H p (.tup [.ty "list", .ty "tuple"]) a = some (.lst us) := upd_old np ha
      refine r_isiVT (.lst ha1) upd_same rfl (b := true) (by rfl) ?_
      walk_at "sts"
      refine r_lenL (SqL.of ha1) ?_
      walk_at "sts"
      by_cases h96 : 96 < us.length
      · rw [decide_eq_true (show (96 : Int) < (us.length : Int) by omega)]
        rw [tn_long h96] at q
        walk_at "sts"
        exact q _ ((Same.refl H).upd np)
      rw [decide_eq_false (show ¬ (96 : Int) < (us.length : Int) by omega)]
      walk_at "sts"
      intro d nd
      have S1 : Same H (upd (upd H p (.tup [.ty "list", .ty "tuple"])) d (.dK [])) := ((Same.refl H).upd np).upd nd
      have hd0 : upd (upd H p (.tup [.ty "list", .ty "tuple"])) d (.dK []) d = some (.dK []) := upd_same
      have nd' : H d = none := Same.back ((Same.refl H).upd np) nd
      generalize upd (upd H p (.tup [.ty "list", .ty "tuple"])) d (.dK []) = H1 at S1 hd0 ⊢
      walk_at "sts"
      refine .inl ⟨a, rfl, ⟨_, SqL.of (S1 _ _ ha)⟩, ?_⟩
      refine for_list (xs := us) (fun k σ H' => ∃ (kvs : List (Key × V)) (x2 : Option V), σ = [some (.ref a), some (.ref d), x2] ∧ Same H H' ∧ H' d = some (.dK kvs) ∧ kvs.length ≤ k ∧ (∀ n : Nat, valV kvs (Sum.inl (n : Int)) = if V.int (n : Int) ∈ us.take k then some (.bl true) else none) ∧ (∀ u ∈ us.take k, inB u 0 ((us.length : Int) - 1) = true) ∧ (us.take k).Nodup)
        ⟨[], _, rfl, S1, hd0, by simp, fun n => by simp [valV_nil], by simp, by simp⟩ (fun i σ H' _ h => ?_) ?_ ?_
      · obtain ⟨_, _, _, s, _⟩ := h
        exact SqL.of (s _ _ ha)
      · rintro k v σ H' hk ⟨kvs, x2, rfl, s, hd, hkl, hv, hin, hnd⟩
        have hkt : k < us.length := (List.getElem?_eq_some_iff.mp hk).1
        have hmem := List.mem_of_getElem? hk
        walk_at "sts"
        refine r_lenL (SqL.of (s _ _ ha)) ?_
        walk_at "sts"
        refine ⟨_, _, _, rfl, (hkd v hmem).same s, ?_⟩
        walk_at "sts"
        cases hb : inB v 0 ((us.length : Int) - 1) with
        | false =>
          rw [tn_out hmem hb] at q
          walk_at "sts"
          exact q _ s
        | true =>
          obtain ⟨i, rfl, hi⟩ := inB_int hb
          walk_at "sts"
          refine .inr ⟨d, _, rfl, DGet.k (k := Sum.inl (i : Int)) hd, ?_⟩
          rw [hv i]
          by_cases hm : V.int (i : Int) ∈ us.take k
          · rw [if_pos hm, show (some (V.bl true)).isSome = true from rfl]
            rw [tn_dup hk hm] at q
            walk_at "sts"
            exact q _ s
          · rw [if_neg hm, show (none : Option V).isSome = false from rfl]
            walk_at "sts"
            refine .inr ⟨d, _, rfl, DPut.k (k := Sum.inl (i : Int)) hd (by omega), ?_⟩
            have tk : us.take (k + 1) = us.take k ++ [V.int (i : Int)] := by rw [List.take_add_one, hk]; rfl
            refine ⟨_, _, rfl, Same.put s nd', upd_same, Nat.le_trans (length_putK _ _ _) (by omega), fun n => ?_, fun u hu => ?_, ?_⟩
            · rw [valV_put, hv n, tk]
              by_cases hn : n = i
              · subst hn; simp
              · rw [if_neg (fun z => hn (by have := Sum.inl.inj z; omega))]
                have hne : ¬ V.int (n : Int) = V.int (i : Int) := fun z => hn (by have := V.int.inj z; omega)
                simp [hne]
            · rw [tk] at hu
              rcases List.mem_append.mp hu with h | h
              · exact hin u h
              · rw [List.mem_singleton.mp h]; exact hb
            · rw [tk]
              exact nodup_push hnd hm
      · rintro σ H' ⟨kvs, x2, rfl, s, hd, _, _, hin, hnd⟩
        rw [List.take_length] at hin hnd
        rw [tn_ok (by omega) hin hnd] at q
        walk_at "sts"
        exact q _ s
    · skip
      refine r_new rfl fun p np => ?_
      walk_at "sts"
      have ha1 : upd H p (.tup [.ty "list", .ty "tuple"]) a = some (.tup us) := upd_old np ha
      refine r_isiVT (.tup ha1) upd_same rfl (b := true) (by rfl) ?_
      walk_at "sts"
      refine r_lenT (SqT.of ha1) ?_
      walk_at "sts"
      by_cases h96 : 96 < us.length
      · rw [decide_eq_true (show (96 : Int) < (us.length : Int) by omega)]
        rw [tn_long h96] at q
        walk_at "sts"
        exact q _ ((Same.refl H).upd np)
      rw [decide_eq_false (show ¬ (96 : Int) < (us.length : Int) by omega)]
      walk_at "sts"
      intro d nd
      have S1 : Same H (upd (upd H p (.tup [.ty "list", .ty "tuple"])) d (.dK [])) := ((Same.refl H).upd np).upd nd
      have hd0 : upd (upd H p (.tup [.ty "list", .ty "tuple"])) d (.dK []) d = some (.dK []) := upd_same
      have nd' : H d = none := Same.back ((Same.refl H).upd np) nd
      generalize upd (upd H p (.tup [.ty "list", .ty "tuple"])) d (.dK []) = H1 at S1 hd0 ⊢
      walk_at "sts"
      refine .inr (.inl ⟨a, rfl, ⟨_, SqT.of (S1 _ _ ha)⟩, ?_⟩)
      refine for_tup (xs := us) (fun k σ H' => ∃ (kvs : List (Key × V)) (x2 : Option V), σ = [some (.ref a), some (.ref d), x2] ∧ Same H H' ∧ H' d = some (.dK kvs) ∧ kvs.length ≤ k ∧ (∀ n : Nat, valV kvs (Sum.inl (n : Int)) = if V.int (n : Int) ∈ us.take k then some (.bl true) else none) ∧ (∀ u ∈ us.take k, inB u 0 ((us.length : Int) - 1) = true) ∧ (us.take k).Nodup)
        ⟨[], _, rfl, S1, hd0, by simp, fun n => by simp [valV_nil], by simp, by simp⟩ (fun i σ H' _ h => ?_) ?_ ?_
      · obtain ⟨_, _, _, s, _⟩ := h
        exact SqT.of (s _ _ ha)
      · rintro k v σ H' hk ⟨kvs, x2, rfl, s, hd, hkl, hv, hin, hnd⟩
        have hkt : k < us.length := (List.getElem?_eq_some_iff.mp hk).1
        have hmem := List.mem_of_getElem? hk
        walk_at "sts"
        refine r_lenT (SqT.of (s _ _ ha)) ?_
        walk_at "sts"
        refine ⟨_, _, _, rfl, (hkd v hmem).same s, ?_⟩
        walk_at "sts"
        cases hb : inB v 0 ((us.length : Int) - 1) with
        | false =>
          rw [tn_out hmem hb] at q
          walk_at "sts"
          exact q _ s
        | true =>
          obtain ⟨i, rfl, hi⟩ := inB_int hb
          walk_at "sts"
          refine .inr ⟨d, _, rfl, DGet.k (k := Sum.inl (i : Int)) hd, ?_⟩
          rw [hv i]
          by_cases hm : V.int (i : Int) ∈ us.take k
          · rw [if_pos hm, show (some (V.bl true)).isSome = true from rfl]
            rw [tn_dup hk hm] at q
            walk_at "sts"
            exact q _ s
          · rw [if_neg hm, show (none : Option V).isSome = false from rfl]
            walk_at "sts"
            refine .inr ⟨d, _, rfl, DPut.k (k := Sum.inl (i : Int)) hd (by omega), ?_⟩
            have tk : us.take (k + 1) = us.take k ++ [V.int (i : Int)] := by rw [List.take_add_one, hk]; rfl
            refine ⟨_, _, rfl, Same.put s nd', upd_same, Nat.le_trans (length_putK _ _ _) (by omega), fun n => ?_, fun u hu => ?_, ?_⟩
            · rw [valV_put, hv n, tk]
              by_cases hn : n = i
              · subst hn; simp
              · rw [if_neg (fun z => hn (by have := Sum.inl.inj z; omega))]
                have hne : ¬ V.int (n : Int) = V.int (i : Int) := fun z => hn (by have := V.int.inj z; omega)
                simp [hne]
            · rw [tk] at hu
              rcases List.mem_append.mp hu with h | h
              · exact hin u h
              · rw [List.mem_singleton.mp h]; exact hb
            · rw [tk]
              exact nodup_push hnd hm
      · rintro σ H' ⟨kvs, x2, rfl, s, hd, _, _, hin, hnd⟩
        rw [List.take_length] at hin hnd
        rw [tn_ok (by omega) hin hnd] at q
        walk_at "sts"
        exact q _ s
  · refine r_new rfl fun p np => ?_
    walk_at "sts"
    refine r_isiVT (hty.mono fun b o e _ => upd_old np e) upd_same rfl hk ?_
    walk_at "sts"
    exact q _ ((Same.refl H).upd np)
noncomputable def spNeedT (K : PySem.W.Frag) (mg : Str → Option Value) : Sp := fun vs H Q E => ∃ (v : V) (b : Bool), vs = [v] ∧ TnK K H v b ∧ (b = true → ∀ H', Same H H' → Q .non H') ∧
  (b = false → ∀ e H', Same H H' → IsX H' e (clsA mg "NoTurning") [("found", v)] → E (.ref (clsA mg "NoTurning")) (some e) H')
theorem sc_need_turning : FnScope ["thing"] ["thing"] (defScope s_need_turning) := ⟨rfl, rfl, rfl, by decide +kernel, rfl, by decide +kernel, by decide +kernel⟩
theorem h_need_turning (T : Txt K mg) : HasX P w K mg base 4 "need_turning" ["thing"] (spNeedT K mg) := by
  have h_is_turning := h_is_turning (P := P) (w := w) (base := base) T
  refine hasJX T.d_need_turning sc_need_turning (fun _ _ _ _ _ _ us hl => L2.usN1 (fun _ => rfl) us hl) ?_ fun f cdv A outer s H vs Q E hr h => ?_
  · rintro vs H Q E ⟨v, bb, rfl, _⟩; rfl
  obtain ⟨v, bb, rfl, h, q1, q2⟩ := h
  have hu := hr.units0
  have hu64 := hr.units
  refine ⟨_, (jb_one (js_if (jt_not (jt_val (j_call h_is_turning (hr.mono (by decide)) (glF kz0m) (ja_cons (j_vL 0 kz0n) ja_nil) (by decide +kernel)))) (jb_one (js_raise (mk_NoTurning (P := P) (w := w) (base := base) T) (hr.mono (by decide)) rfl (glF kz0o) pass_def (ja_cons (j_vL 0 kz0n) ja_nil) (by decide +kernel))) jb_nil)), ?_⟩
  walk_at "sts"
  refine ⟨v, bb, rfl, h, fun H1 S1 => ?_⟩
  walk_at "sts"
  cases bb with
  | true =>
    walk_at "sts"
    exact q1 rfl _ S1
  | false =>
    walk_at "sts"
    exact ⟨rfl, (show 1 ≤ sizeLine by decide), fun x H2 S2 X2 => q2 rfl x H2 (S1.trans S2) X2⟩
theorem rng_nI (n : Nat) : ((List.range n).map fun i : Nat => V.int (0 + (i : Int) * 1)) = (nI (List.range n)).map V.int := by
  unfold nI
  rw [List.map_map]
  refine List.map_congr_left fun x _ => ?_
  show V.int (0 + (x : Int) * 1) = V.int (x : Int)
  congr 1; omega
noncomputable def spOpp : Sp := fun vs H Q _ => ∃ (a : Addr) (t : List Nat), vs = [.ref a] ∧ Tn H a t ∧ Prm t ∧ ∀ q H', H q = none → Same H H' → H' q = some (.lst ((nI (inv t)).map V.int)) → Q (.ref q) H'
theorem sc_opposite : FnScope ["turning", "begins", "begin", "end"] ["turning"] (defScope s_opposite) := ⟨rfl, rfl, rfl, by decide +kernel, rfl, by decide +kernel, by decide +kernel⟩
theorem h_opposite (T : Txt K mg) : HasX P w K mg base 5 "opposite" ["turning"] spOpp := by
  have h_need_turning := h_need_turning (P := P) (w := w) (base := base) T
  refine hasJX T.d_opposite sc_opposite (fun _ _ _ _ _ _ us hl => L2.usN1 (fun _ => rfl) us hl) ?_ fun f cdv A outer s H vs Q E hr h => ?_
  · rintro vs H Q E ⟨a, t, rfl, _⟩; rfl
  obtain ⟨a, t, rfl, ha, hP, q⟩ := h
  have hu := hr.units0
  have hu64 := hr.units
  refine ⟨_, (jb_cons (js_expr (j_callX h_need_turning (hr.mono (by decide)) (glF kz0v) pass_def (ja_cons (j_vL 0 kz0r) ja_nil) (by decide +kernel))) (jb_cons (js_set (i := 1) sc_opposite.nd rfl (Or.inl kz0p) (j_op op_mulA (j_lst (ja_cons j_int ja_nil)) (j_callB (call_lenK (K := K) rfl) (glF kz0u) T.b_len bt_len (ja_cons (j_vL 0 kz0r) ja_nil) (by decide +kernel) (by decide +kernel))) rfl) (jb_cons (js_nox (js_for PassesOwn.never rfl (ji_enum3 (K := K) rfl rfl (glF kz0q) T.b_enumerate (ja_cons (j_vL 0 kz0r) ja_nil)) (jg_tup (K := K) rfl rfl (jgs_cons (jg_name (i := 2) sc_opposite.nd rfl (Or.inl kz0t) rfl) (jgs_cons (jg_name (i := 3) sc_opposite.nd rfl (Or.inl kz0s) rfl) jgs_nil))) (jb_one (js_asgS (ts := rSetA) (j_vL 2 kz0t) (jg_sub (j_vL 1 kz0p) (j_vL 3 kz0s) (set_any hu64)))))) (jb_one (js_ret (j_vL 1 kz0p)))))), ?_⟩
  walk_at "sts"
  have hs : 20000 ≤ sizeLine := by decide
  have hle := hP.le
  refine ⟨_, true, rfl, tn_good ha hP, fun _ H1 S1 => ?_, (fun h => by cases h)⟩
  walk_at "sts"
  rcases ha with ha | ha
  · skip
    refine r_new rfl fun p np => ?_
    walk_at "sts"
    refine r_lenL (SqL.of (upd_old np (S1 _ _ ha))) ?_
    walk_at "sts"
    rw [nI_len]
    refine r_mulL (k := (t.length : Int)) upd_same (by omega) (by omega) (by simp; omega) fun b nb => ?_
    walk_at "sts"
    have S2 : Same H (upd (upd H1 p (.lst [.int 0])) b (.lst (List.replicate ((t.length : Int)).toNat [V.int 0]).flatten)) := (S1.upd np).upd nb
    have nb0 : H b = none := Same.back (S1.upd np) nb
    have hb0 : upd (upd H1 p (.lst [.int 0])) b (.lst (List.replicate ((t.length : Int)).toNat [V.int 0]).flatten) b = some (.lst ((nI (List.replicate t.length 0)).map V.int)) := by
      rw [upd_same]
      congr 2
      unfold nI
      rw [List.map_replicate, List.map_replicate, show ((t.length : Int)).toNat = t.length by omega]
      generalize t.length = n
      induction n with
      | zero => rfl
      | succ n ih => rw [List.replicate_succ, List.flatten_cons, ih, List.replicate_succ]; rfl
    generalize upd (upd H1 p (.lst [.int 0])) b (.lst (List.replicate ((t.length : Int)).toNat [V.int 0]).flatten) = H2 at S2 hb0 ⊢
    refine .inr (.inl ⟨a, _, rfl, SqL.of (S2 _ _ ha), ?_⟩)
    refine for_enumL (K := K) (xs := (nI t).map V.int) (fun k σ H' => ∃ (r : List Nat) (x2 x3 : Option V), σ = [some (.ref a), some (.ref b), x2, x3] ∧ Same H H' ∧ H' b = some (.lst ((nI r).map V.int)) ∧ r.length = t.length ∧ ∀ (i x : Nat), i < k → t[i]? = some x → r[x]? = some i)
      ⟨List.replicate t.length 0, _, _, rfl, S2, hb0, by simp, fun i x h => by omega⟩ (fun i σ H' _ h => ?_) ?_ ?_
    · obtain ⟨_, _, _, _, s, _⟩ := h
      exact SqL.of (s _ _ ha)
    · rintro k σ H' T v hk ⟨r, x2, x3, rfl, s, hb, hrl, hr⟩ nT
      obtain ⟨i, hi, rfl⟩ := nI_of hk
      have hit := hP.lt (List.mem_of_getElem? hi)
      refine r_gtup (SqT.of upd_same) rfl ?_
      walk_at "sts"
      refine r_setAL (upd_old nT hb) (ix_at (p := i) rfl (by rw [nI_len]; omega)) ?_
      walk_at "sts"
      rw [nI_set]
      refine ⟨r.set i k, _, _, rfl, Same.put (s.upd nT) nb0, upd_same, by simp; omega, fun j x hj e => ?_⟩
      by_cases hjk : j = k
      · subst hjk
        rw [hi] at e
        cases e
        rw [List.getElem?_set_self (by omega)]
      · have hx : x ≠ i := fun z => hjk (by
          subst z
          have h1 := idx_at hP.nd e
          have h2 := idx_at hP.nd hi
          omega)
        rw [List.getElem?_set_ne (fun z => hx z.symm)]
        exact hr j x (by omega) e
    · rintro σ H' ⟨r, x2, x3, rfl, s, hb, hrl, hr⟩
      walk_at "sts"
      rw [nI_len] at hr
      have e := inv_of hP hrl fun i x h => hr i x (List.getElem?_eq_some_iff.mp h).1 h
      rw [e] at hb
      exact q b _ nb0 s hb
  · skip
    refine r_new rfl fun p np => ?_
    walk_at "sts"
    refine r_lenT (SqT.of (upd_old np (S1 _ _ ha))) ?_
    walk_at "sts"
    rw [nI_len]
    refine r_mulL (k := (t.length : Int)) upd_same (by omega) (by omega) (by simp; omega) fun b nb => ?_
    walk_at "sts"
    have S2 : Same H (upd (upd H1 p (.lst [.int 0])) b (.lst (List.replicate ((t.length : Int)).toNat [V.int 0]).flatten)) := (S1.upd np).upd nb
    have nb0 : H b = none := Same.back (S1.upd np) nb
    have hb0 : upd (upd H1 p (.lst [.int 0])) b (.lst (List.replicate ((t.length : Int)).toNat [V.int 0]).flatten) b = some (.lst ((nI (List.replicate t.length 0)).map V.int)) := by
      rw [upd_same]
      congr 2
      unfold nI
      rw [List.map_replicate, List.map_replicate, show ((t.length : Int)).toNat = t.length by omega]
      generalize t.length = n
      induction n with
      | zero => rfl
      | succ n ih => rw [List.replicate_succ, List.flatten_cons, ih, List.replicate_succ]; rfl
    generalize upd (upd H1 p (.lst [.int 0])) b (.lst (List.replicate ((t.length : Int)).toNat [V.int 0]).flatten) = H2 at S2 hb0 ⊢
    refine .inr (.inr ⟨a, _, rfl, SqT.of (S2 _ _ ha), ?_⟩)
    refine for_enumT (K := K) (xs := (nI t).map V.int) (fun k σ H' => ∃ (r : List Nat) (x2 x3 : Option V), σ = [some (.ref a), some (.ref b), x2, x3] ∧ Same H H' ∧ H' b = some (.lst ((nI r).map V.int)) ∧ r.length = t.length ∧ ∀ (i x : Nat), i < k → t[i]? = some x → r[x]? = some i)
      ⟨List.replicate t.length 0, _, _, rfl, S2, hb0, by simp, fun i x h => by omega⟩ (fun i σ H' _ h => ?_) ?_ ?_
    · obtain ⟨_, _, _, _, s, _⟩ := h
      exact SqT.of (s _ _ ha)
    · rintro k σ H' T v hk ⟨r, x2, x3, rfl, s, hb, hrl, hr⟩ nT
      obtain ⟨i, hi, rfl⟩ := nI_of hk
      have hit := hP.lt (List.mem_of_getElem? hi)
      refine r_gtup (SqT.of upd_same) rfl ?_
      walk_at "sts"
      refine r_setAL (upd_old nT hb) (ix_at (p := i) rfl (by rw [nI_len]; omega)) ?_
      walk_at "sts"
      rw [nI_set]
      refine ⟨r.set i k, _, _, rfl, Same.put (s.upd nT) nb0, upd_same, by simp; omega, fun j x hj e => ?_⟩
      by_cases hjk : j = k
      · subst hjk
        rw [hi] at e
        cases e
        rw [List.getElem?_set_self (by omega)]
      · have hx : x ≠ i := fun z => hjk (by
          subst z
          have h1 := idx_at hP.nd e
          have h2 := idx_at hP.nd hi
          omega)
        rw [List.getElem?_set_ne (fun z => hx z.symm)]
        exact hr j x (by omega) e
    · rintro σ H' ⟨r, x2, x3, rfl, s, hb, hrl, hr⟩
      walk_at "sts"
      rw [nI_len] at hr
      have e := inv_of hP hrl fun i x h => hr i x (List.getElem?_eq_some_iff.mp h).1 h
      rw [e] at hb
      exact q b _ nb0 s hb
end

section
variable {P : Program} {w : World} {K : PySem.W.Frag} {mg : Str → Option Value} {base : Heap}
theorem kz0w : (defScope s_do_steps).names.lookup ("working" : Str) = some NameKind.local := by decide +kernel
theorem kz0x : (defScope s_do_steps).names.lookup ("enumerate" : Str) = some NameKind.globalImplicit := by decide +kernel
theorem kz0y : (defScope s_do_steps).names.lookup ("steps" : Str) = some NameKind.local := by decide +kernel
theorem kz0z : (defScope s_do_steps).names.lookup ("step" : Str) = some NameKind.local := by decide +kernel
theorem kz10 : (defScope s_do_steps).names.lookup ("place" : Str) = some NameKind.local := by decide +kernel
theorem kz11 : (defScope s_do_steps).names.lookup ("lesser" : Str) = some NameKind.local := by decide +kernel
theorem kz12 : (defScope s_do_steps).names.lookup ("greater" : Str) = some NameKind.local := by decide +kernel
theorem kz13 : (defScope s_do_steps).names.lookup ("begins" : Str) = some NameKind.local := by decide +kernel
noncomputable def spDo (K : PySem.W.Frag) : Sp := fun vs H Q _ => ∃ (bg st : Addr) (E ps : List Nat), vs = [.ref bg, .ref st] ∧ H bg = some (.lst ((nI E).map V.int)) ∧ H st = some (.lst ((nI ps).map V.int)) ∧ bg ≠ st ∧ (∀ p ∈ ps, p + 1 < E.length) ∧ ps.length ≤ 6000 ∧
  ∀ q H', H q = none → Chg bg H H' → H' bg = some (.lst ((nI (runE E ps)).map V.int)) → H' q = some (.lst ((nI (wrk E ps ps.length)).map V.int)) → Q (.ref q) H'
theorem sc_do_steps : FnScope ["begins", "steps", "working", "place", "step", "lesser", "greater"] ["begins", "steps"] (defScope s_do_steps) := ⟨rfl, rfl, rfl, by decide +kernel, rfl, by decide +kernel, by decide +kernel⟩
theorem h_do_steps (T : Txt K mg) : Has P w K mg base 1 "do_steps" ["begins", "steps"] (spDo K) := by
  refine hasJ T.d_do_steps sc_do_steps (fun _ _ _ _ _ _ us hl => L2.usN2 (fun _ _ => rfl) us hl) ?_ fun f cdv A outer s H vs Q E hr h => ?_
  · rintro vs H Q E ⟨bg, st, E, ps, rfl, _⟩; rfl
  obtain ⟨bg, st, E, ps, rfl, hb, hst, hne, hp, hpl, q⟩ := h
  have hu := hr.units0
  have hu64 := hr.units
  refine ⟨_, (jb_cons (js_set (i := 2) sc_do_steps.nd rfl (Or.inl kz0w) (j_lst ja_nil) rfl) (jb_cons (js_for PassesOwn.never rfl (ji_enum3 (K := K) rfl rfl (glF kz0x) T.b_enumerate (ja_cons (j_vL 1 kz0y) ja_nil)) (jg_tup (K := K) rfl rfl (jgs_cons (jg_name (i := 3) sc_do_steps.nd rfl (Or.inl kz10) rfl) (jgs_cons (jg_name (i := 4) sc_do_steps.nd rfl (Or.inl kz0z) rfl) jgs_nil))) (jb_cons (js_set (i := 5) sc_do_steps.nd rfl (Or.inl kz11) (j_ix (K := K) rfl (j_vL 0 kz13) (j_vL 4 kz0z)) rfl) (jb_cons (js_set (i := 6) sc_do_steps.nd rfl (Or.inl kz12) (j_ix (K := K) rfl (j_vL 0 kz13) (j_op (op_addT (K := K) rfl) (j_vL 4 kz0z) j_int)) rfl) (jb_one (js_if (jt_cmp op_lt (j_vL 5 kz11) (j_vL 6 kz12) (by first | exact nomark _ | with_unfolding_all rfl)) (jb_cons (js_asgS (ts := rSetA) (j_vL 6 kz12) (jg_sub (j_vL 0 kz13) (j_vL 4 kz0z) (set_any hu64))) (jb_cons (js_asgS (ts := rSetA) (j_vL 5 kz11) (jg_sub (j_vL 0 kz13) (j_op (op_addT (K := K) rfl) (j_vL 4 kz0z) j_int) (set_any hu64))) (jb_one (js_expr (j_meth (K := K) rfl PySem.F.plainAttrs_list PySem.F.slot_list_append PySem.F.type_list_append mt_append (j_vL 2 kz0w) (ja_cons (j_vL 3 kz10) ja_nil)))))) jb_nil))))) (jb_one (js_ret (j_vL 2 kz0w))))), ?_⟩
  walk_at "sts"
  have hs : 20000 ≤ sizeLine := by decide
  refine r_new rfl fun wk nwk => ?_
  walk_at "sts"
  have wb : wk ≠ bg := fun z => by rw [z, hb] at nwk; cases nwk
  have ws : wk ≠ st := fun z => by rw [z, hst] at nwk; cases nwk
  refine .inr (.inl ⟨st, _, rfl, SqL.of (upd_old nwk hst), ?_⟩)
  refine for_enumL (K := K) (xs := (nI ps).map V.int) (fun k σ H' => ∃ (x3 x4 x5 x6 : Option V), σ = [some (.ref bg), some (.ref st), some (.ref wk), x3, x4, x5, x6] ∧ Chg bg H H' ∧ H' st = some (.lst ((nI ps).map V.int)) ∧ H' bg = some (.lst ((nI (runE E (ps.take k))).map V.int)) ∧ H' wk = some (.lst ((nI (wrk E ps k)).map V.int)))
    ⟨_, _, _, _, rfl, (Chg.refl bg H).new nwk, upd_old nwk hst, upd_old nwk hb, upd_same⟩ (fun i σ H' _ h => ?_) ?_ ?_
  · obtain ⟨_, _, _, _, _, _, h, _⟩ := h
    exact SqL.of h
  · rintro k σ H' T v hk ⟨x3, x4, x5, x6, rfl, c, hst', hb', hw'⟩ nT
    obtain ⟨p, hpk, rfl⟩ := nI_of hk
    have hkl : k < ps.length := (List.getElem?_eq_some_iff.mp hpk).1
    have hpd : ps.getD k 0 = p := by rw [List.getD_eq_getElem?_getD, hpk]; rfl
    have hpE : p + 1 < (runE E (ps.take k)).length := by rw [runE_len]; exact hp p (List.mem_of_getElem? hpk)
    have tk : ps.take (k + 1) = ps.take k ++ [p] := by rw [take_push hkl, hpd]
    have wsu := wrk_succ E ps k
    rw [hpd] at wsu
    have wl := wrk_len E ps k
    have c1 : Chg bg H (upd H' T (.tup [.int k, .int p])) := c.new nT
    have hT : upd H' T (.tup [.int k, .int p]) T = some (.tup [.int k, .int p]) := upd_same
    have hst1 := upd_old nT (o := .tup [.int k, .int p]) hst'
    have hb1 := upd_old nT (o := .tup [.int k, .int p]) hb'
    have hw1 := upd_old nT (o := .tup [.int k, .int p]) hw'
    generalize upd H' T (.tup [.int k, .int p]) = H1 at c1 hT hst1 hb1 hw1 ⊢
    have eR : runE E (ps.take (k + 1)) = stepE (runE E (ps.take k)) p := by rw [tk, runE_push]
    generalize runE E (ps.take k) = F at hpE hb1 eR wsu
    refine r_gtup (SqT.of hT) rfl ?_
    walk_at "sts"
    refine r_ixL (SqL.of hb1) (nI_ix (k := p) (by omega) rfl) ?_
    walk_at "sts"
    refine r_ixL (SqL.of hb1) (nI_ix (k := p + 1) (by omega) (by omega)) ?_
    walk_at "sts"
    have ew : wks F p = decide (((F.getD p 0 : Nat) : Int) < ((F.getD (p + 1) 0 : Nat) : Int)) := by unfold wks; exact decide_eq_decide.mpr (by omega)
    rw [← ew]
    refine iteB (fun hw => ?_) (fun hw => ?_)
    · rw [if_pos hw] at wsu
      walk_at "sts"
      refine r_setAL hb1 (ix_at (p := p) rfl (by rw [nI_len]; omega)) ?_
      walk_at "sts"
      rw [nI_set]
      refine r_setAL upd_same (ix_at (p := p + 1) (by omega) (by rw [nI_len]; simp; omega)) ?_
      walk_at "sts"
      rw [nI_set, upd_upd]
      have hw2 : upd H1 bg (.lst ((nI ((F.set p (F.getD (p + 1) 0)).set (p + 1) (F.getD p 0))).map V.int)) wk = some (.lst ((nI (wrk E ps k)).map V.int)) := by rw [upd_ne wb]; exact hw1
      refine ⟨.inl ⟨rfl, _, SqL.of hw2⟩, ?_⟩
      walk_at "sts"
      refine r_append hw2 (by rw [nI_len]; omega) ?_
      walk_at "sts"
      rw [nI_push]
      refine ⟨_, _, _, _, rfl, ?_, ?_, ?_, ?_⟩
      · intro b o nb e
        have nw : b ≠ wk := fun z => by rw [z, nwk] at e; cases e
        rw [upd_ne nw, upd_ne nb]
        exact c1 b o nb e
      · rw [upd_ne (Ne.symm ws), upd_ne (Ne.symm hne)]; exact hst1
      · rw [upd_ne (Ne.symm wb), upd_same, eR]
        unfold stepE
        rw [if_pos hw]
      · rw [upd_same, wsu]
    · rw [if_neg (by rw [hw]; simp), List.append_nil] at wsu
      walk_at "sts"
      refine ⟨_, _, _, _, rfl, c1, hst1, ?_, ?_⟩
      · rw [hb1, eR]
        unfold stepE
        rw [if_neg (by rw [hw]; simp)]
      · rw [hw1, wsu]
  · rintro σ H' ⟨x3, x4, x5, x6, rfl, c, hst', hb', hw'⟩
    rw [nI_len] at hb' hw'
    rw [List.take_length] at hb'
    walk_at "sts"
    exact q wk H' nwk c hb' hw'
end

section
variable {P : Program} {w : World} {K : PySem.W.Frag} {mg : Str → Option Value} {base : Heap}
theorem kz14 : (defScope s_steps_of).names.lookup ("list" : Str) = some NameKind.globalImplicit := by decide +kernel
theorem kz15 : (defScope s_steps_of).names.lookup ("reversed" : Str) = some NameKind.globalImplicit := by decide +kernel
theorem kz16 : (defScope s_steps_of).names.lookup ("undone" : Str) = some NameKind.local := by decide +kernel
theorem kz17 : (defScope s_steps_of).names.lookup ("range" : Str) = some NameKind.globalImplicit := by decide +kernel
theorem kz18 : (defScope s_steps_of).names.lookup ("len" : Str) = some NameKind.globalImplicit := by decide +kernel
theorem kz19 : (defScope s_steps_of).names.lookup ("begins" : Str) = some NameKind.local := by decide +kernel
theorem kz1a : (defScope s_steps_of).names.lookup ("place" : Str) = some NameKind.local := by decide +kernel
theorem kz1b : (defScope s_steps_of).names.lookup ("step" : Str) = some NameKind.local := by decide +kernel
theorem kz1c : (defScope s_steps_of).names.lookup ("greater" : Str) = some NameKind.local := by decide +kernel
theorem kz1d : (defScope s_steps_of).names.lookup ("opposite" : Str) = some NameKind.globalImplicit := by decide +kernel
theorem kz1e : (defScope s_steps_of).names.lookup ("turning" : Str) = some NameKind.local := by decide +kernel
noncomputable def MR (r : R2) : Prop := ∀ x y H Q Q', (∀ v H1, Q v H1 → Q' v H1) → r x y H Q → r x y H Q'
noncomputable def ME (te : TE) : Prop := ∀ σ H Q Q', (∀ v H1, Q v H1 → Q' v H1) → te σ H Q → te σ H Q'
noncomputable def MT (te : TT) : Prop := ∀ σ H Q Q', (∀ v H1, Q v H1 → Q' v H1) → te σ H Q → te σ H Q'
theorem mr_I0 (g : Int → Int → V) : MR (rI0 g) := by
  rintro x y H Q Q' h ⟨i, j, e1, e2, q⟩
  exact ⟨i, j, e1, e2, h _ _ q⟩
theorem mr_ix : MR (rIx K) := by
  rintro x y H Q Q' h (⟨p, xs, i, v, a, b, c, d, q⟩ | ⟨p, xs, i, v, a, b, c, d, q⟩ | ⟨z, i, c, a, b, d, e, q⟩)
  · exact .inl ⟨p, xs, i, v, a, b, c, d, h _ _ q⟩
  · exact .inr (.inl ⟨p, xs, i, v, a, b, c, d, h _ _ q⟩)
  · exact .inr (.inr ⟨z, i, c, a, b, d, e, h _ _ q⟩)
theorem mr_addA : MR rAddA := by
  rintro x y H Q Q' h (⟨i, j, a, b, q⟩ | ⟨i, j, a, b, c, q⟩ | ⟨p, q', xs, ys, a, b, c, d, e, q⟩)
  · exact .inl ⟨i, j, a, b, h _ _ q⟩
  · exact .inr (.inl ⟨i, j, a, b, c, h _ _ q⟩)
  · exact .inr (.inr ⟨p, q', xs, ys, a, b, c, d, e, fun r hr => h _ _ (q r hr)⟩)
theorem mr_addT : MR (rAddT K) := by
  rintro x y H Q Q' h (h1 | ⟨a, b, xs, ys, e1, e2, e3, e4, e5, e6, q1, q2⟩)
  · exact .inl (mr_addA _ _ _ _ _ h h1)
  · exact .inr ⟨a, b, xs, ys, e1, e2, e3, e4, e5, e6, fun z => h _ _ (q1 z), fun z p hp => h _ _ (q2 z p hp)⟩
theorem me_var (i : Nat) : ME (tVar i) := by
  rintro σ H Q Q' h ⟨v, e, q⟩
  exact ⟨v, e, h _ _ q⟩
theorem me_c (v : V) : ME (tC v) := fun σ H Q Q' h q => h _ _ q
theorem me_op {r : R2} {ta tb : TE} (hr : MR r) (ha : ME ta) (hb : ME tb) : ME (tOp r ta tb) := fun σ H Q Q' h q => ha σ H _ _ (fun x H1 q1 => hb σ H1 _ _ (fun y H2 q2 => hr _ _ _ _ _ h q2) q1) q
theorem mt_test {te : TE} (h : ME te) : MT (tTest te) := fun σ H Q Q' hq q => h σ H _ _ (fun x H1 ⟨k, e, q1⟩ => ⟨k, e, hq _ _ q1⟩) q
theorem mt_and {t u : TT} (h : MT t) (h2 : MT u) : MT (tAnd t u) := fun σ H Q Q' hq q => h σ H _ _ (fun c H1 q1 => by
  cases c with
  | true => rw [if_pos rfl] at q1 ⊢; exact h2 _ _ _ _ hq q1
  | false => rw [if_neg Bool.false_ne_true] at q1 ⊢; exact hq _ _ q1) q
noncomputable def mu4 (σ : St) (_ : Hp) : Nat := match σ[4]? with
  | some (some (V.int z)) => (z + 1).toNat
  | _ => 0
theorem inn_fst_len : ∀ (p : Nat) (B u : List Nat), (inn p B u).1.length = B.length
  | 0, _, _ => rfl
  | p + 1, B, u => by
    unfold inn
    split
    · rw [inn_fst_len p, swp_len]
    · rfl
theorem inn_snd_len : ∀ (p : Nat) (B u : List Nat), (inn p B u).2.length ≤ u.length + p
  | 0, _, _ => Nat.le_refl _
  | p + 1, B, u => by
    unfold inn
    split
    · have := inn_snd_len p (swp B p) (u ++ [p])
      rw [List.length_append, List.length_singleton] at this
      omega
    · exact Nat.le_add_right _ _
theorem ous_fst_len (B : List Nat) : ∀ k, (ous B k).1.length = B.length
  | 0 => rfl
  | k + 1 => (inn_fst_len _ _ _).trans (ous_fst_len B k)
theorem ous_snd_len (B : List Nat) : ∀ k, k ≤ 96 → (ous B k).2.length ≤ 96 * k
  | 0, _ => Nat.le_refl _
  | k + 1, h => by
    have h1 := inn_snd_len (k + 1) (ous B k).1 (ous B k).2
    have h2 := ous_snd_len B k (by omega)
    show (inn (k + 1) (ous B k).1 (ous B k).2).2.length ≤ _
    omega
noncomputable def spStepsOf : Sp := fun vs H Q _ => ∃ (a : Addr) (t : List Nat), vs = [.ref a] ∧ Tn H a t ∧ Prm t ∧ ∀ q H', H q = none → Same H H' → H' q = some (.lst ((nI (und t).reverse).map V.int)) → Q (.ref q) H'
theorem sc_steps_of : FnScope ["turning", "begins", "undone", "place", "step", "greater"] ["turning"] (defScope s_steps_of) := ⟨rfl, rfl, rfl, by decide +kernel, rfl, by decide +kernel, by decide +kernel⟩
theorem h_steps_of (T : Txt K mg) : HasX P w K mg base 6 "steps_of" ["turning"] spStepsOf := by
  have h_opposite := h_opposite (P := P) (w := w) (base := base) T
  refine hasJX T.d_steps_of sc_steps_of (fun _ _ _ _ _ _ us hl => L2.usN1 (fun _ => rfl) us hl) ?_ fun f cdv A outer s H vs Q E hr h => ?_
  · rintro vs H Q E ⟨a, t, rfl, _⟩; rfl
  obtain ⟨a, t, rfl, hT, hP, q⟩ := h
  have hu := hr.units0
  have hu64 := hr.units
  refine ⟨_, (jb_cons (js_set (i := 1) sc_steps_of.nd rfl (Or.inl kz19) (j_callX h_opposite (hr.mono (by decide)) (glF kz1d) pass_def (ja_cons (j_vL 0 kz1e) ja_nil) (by decide +kernel)) rfl) (jb_cons (js_set (i := 2) sc_steps_of.nd rfl (Or.inl kz16) (j_lst ja_nil) rfl) (jb_cons (js_nox (js_for PassesOwn.never rfl (ji_range2 (glF kz17) T.b_range (ja_cons j_int (ja_cons (j_callB (call_lenK (K := K) rfl) (glF kz18) T.b_len bt_len (ja_cons (j_vL 1 kz19) ja_nil) (by decide +kernel) (by decide +kernel)) ja_nil))) (jg_name (i := 3) sc_steps_of.nd rfl (Or.inl kz1a) rfl) (jb_cons (js_set (i := 4) sc_steps_of.nd rfl (Or.inl kz1b) (j_op op_sub (j_vL 3 kz1a) j_int) rfl) (jb_one (js_while PassesOwn.never (jw_pt (jw_and (jt_cmp op_ge (j_vL 4 kz1b) j_int (by first | exact nomark _ | with_unfolding_all rfl)) (jw_and1 (jt_cmp op_gt (j_ix (K := K) rfl (j_vL 1 kz19) (j_vL 4 kz1b)) (j_ix (K := K) rfl (j_vL 1 kz19) (j_op (op_addT (K := K) rfl) (j_vL 4 kz1b) j_int)) (by first | exact nomark _ | with_unfolding_all rfl))))) (jb_cons (js_set (i := 5) sc_steps_of.nd rfl (Or.inl kz1c) (j_ix (K := K) rfl (j_vL 1 kz19) (j_vL 4 kz1b)) rfl) (jb_cons (js_asgS (ts := rSetA) (j_ix (K := K) rfl (j_vL 1 kz19) (j_op (op_addT (K := K) rfl) (j_vL 4 kz1b) j_int)) (jg_sub (j_vL 1 kz19) (j_vL 4 kz1b) (set_any hu64))) (jb_cons (js_asgS (ts := rSetA) (j_vL 5 kz1c) (jg_sub (j_vL 1 kz19) (j_op (op_addT (K := K) rfl) (j_vL 4 kz1b) j_int) (set_any hu64))) (jb_cons (js_expr (j_meth (K := K) rfl PySem.F.plainAttrs_list PySem.F.slot_list_append PySem.F.type_list_append mt_append (j_vL 2 kz16) (ja_cons (j_vL 4 kz1b) ja_nil))) (jb_one (js_aug (i := 4) sc_steps_of.nd rfl (Or.inl kz1b) j_int iop_sub rfl))))))))))) (jb_one (js_ret (j_listRev (K := K) rfl rfl (glF kz14) T.b_list (glF kz15) T.b_reversed (j_vL 2 kz16))))))), ?_⟩
  walk_at "sts"
  have hs : 20000 ≤ sizeLine := by decide
  have hle := hP.le
  have il := inv_len t
  refine ⟨a, t, rfl, hT, hP, fun b H1 nb S1 hb => ?_⟩
  walk_at "sts"
  refine r_new rfl fun ud nud => ?_
  walk_at "sts"
  have nud0 := Same.back S1 nud
  have bu : b ≠ ud := fun z => by rw [z, nud] at hb; cases hb
  refine r_lenL (SqL.of (upd_old nud hb)) ?_
  walk_at "sts"
  rw [nI_len]
  refine ⟨⟨by omega, by omega, by omega, by omega⟩, ?_⟩
  rw [show (((inv t).length : Int) - 1).toNat = t.length - 1 by omega]
  refine for_range (n := t.length - 1) (fun k σ H' => ∃ (x3 x4 x5 : Option V), σ = [some (.ref a), some (.ref b), some (.ref ud), x3, x4, x5] ∧ Same H H' ∧ H' b = some (.lst ((nI (ous (inv t) k).1).map V.int)) ∧ H' ud = some (.lst ((nI (ous (inv t) k).2).map V.int)))
    ⟨_, _, _, rfl, S1.upd nud, upd_old nud hb, upd_same⟩ ?_ ?_
  · rintro k σ H' hk ⟨x3, x4, x5, rfl, s, hb1, hu1⟩
    walk_at "sts"
    have ol := ous_fst_len (inv t) k
    have ul := ous_snd_len (inv t) k (by omega)
    refine while_by (fun σ H' => ∃ (p : Nat) (B u : List Nat) (x5 : Option V), σ = [some (.ref a), some (.ref b), some (.ref ud), some (.int (1 + (k : Int))), some (.int ((p : Int) - 1)), x5] ∧ Same H H' ∧ H' b = some (.lst ((nI B).map V.int)) ∧ H' ud = some (.lst ((nI u).map V.int)) ∧ p ≤ k + 1 ∧ B.length = t.length ∧ u.length + p ≤ 96 * k + k + 1 ∧ inn p B u = ous (inv t) (k + 1)) mu4
      ⟨k + 1, _, _, x5, by rw [show (((k + 1 : Nat) : Int) - 1) = 1 + (k : Int) - 1 by omega]; rfl, s, hb1, hu1, Nat.le_refl _, by omega, by omega, rfl⟩ ?_ ?_
    · rintro σ H' ⟨p, B, u, x5, rfl, s, hb2, hu2, hp, hB, hul, hin⟩
      walk_at "sts"
      cases p with
      | zero =>
        rw [decide_eq_false (by omega)]
        walk_at "sts"
        exact ⟨_, _, _, rfl, s, by rw [← hin]; exact hb2, by rw [← hin]; exact hu2⟩
      | succ p =>
        rw [show (((p + 1 : Nat) : Int) - 1) = (p : Int) by omega, decide_eq_true (show (0 : Int) ≤ (p : Int) by omega)]
        walk_at "sts"
        refine r_ixL (SqL.of hb2) (nI_ix (k := p) (by omega) rfl) ?_
        walk_at "sts"
        refine r_ixL (SqL.of hb2) (nI_ix (k := p + 1) (by omega) (by omega)) ?_
        walk_at "sts"
        refine iteD (fun hc => ?_) (fun hc => ?_)
        · have hin2 : inn p (swp B p) (u ++ [p]) = ous (inv t) (k + 1) := by
            rw [← hin]
            conv => rhs; unfold inn
            rw [if_pos (by omega)]
          walk_at "sts"
          refine r_ixL (SqL.of hb2) (nI_ix (k := p) (by omega) rfl) ?_
          walk_at "sts"
          refine r_ixL (SqL.of hb2) (nI_ix (k := p + 1) (by omega) (by omega)) ?_
          walk_at "sts"
          refine r_setAL hb2 (ix_at (p := p) rfl (by rw [nI_len]; omega)) ?_
          walk_at "sts"
          rw [nI_set]
          refine r_setAL upd_same (ix_at (p := p + 1) (by omega) (by rw [nI_len]; simp; omega)) ?_
          walk_at "sts"
          rw [nI_set]
          have s3 : Same H (upd (upd H' b (.lst ((nI (B.set p (B.getD (p + 1) 0))).map V.int))) b (.lst ((nI ((B.set p (B.getD (p + 1) 0)).set (p + 1) (B.getD p 0))).map V.int))) := Same.put (Same.put s nb) nb
          have hb3 : upd (upd H' b (.lst ((nI (B.set p (B.getD (p + 1) 0))).map V.int))) b (.lst ((nI ((B.set p (B.getD (p + 1) 0)).set (p + 1) (B.getD p 0))).map V.int)) b = some (.lst ((nI (swp B p)).map V.int)) := upd_same
          have hu3 : upd (upd H' b (.lst ((nI (B.set p (B.getD (p + 1) 0))).map V.int))) b (.lst ((nI ((B.set p (B.getD (p + 1) 0)).set (p + 1) (B.getD p 0))).map V.int)) ud = some (.lst ((nI u).map V.int)) := by rw [upd_ne (Ne.symm bu), upd_ne (Ne.symm bu)]; exact hu2
          generalize upd (upd H' b (.lst ((nI (B.set p (B.getD (p + 1) 0))).map V.int))) b (.lst ((nI ((B.set p (B.getD (p + 1) 0)).set (p + 1) (B.getD p 0))).map V.int)) = H3 at s3 hb3 hu3 ⊢
          refine ⟨.inl ⟨rfl, _, SqL.of hu3⟩, ?_⟩
          walk_at "sts"
          refine r_append hu3 (by rw [nI_len]; omega) ?_
          walk_at "sts"
          rw [nI_push]
          refine ⟨⟨p, swp B p, u ++ [p], _, rfl, Same.put s3 nud0, by rw [upd_ne bu]; exact hb3, upd_same, by omega, by rw [swp_len]; exact hB, by simp; omega, hin2⟩, ?_⟩
          show ((p : Int) - 1 + 1).toNat < ((p : Int) + 1).toNat
          omega
        · have hin2 : (B, u) = ous (inv t) (k + 1) := by
            rw [← hin]
            conv => rhs; unfold inn
            rw [if_neg (by omega)]
          walk_at "sts"
          exact ⟨_, _, _, rfl, s, by rw [← hin2]; exact hb2, by rw [← hin2]; exact hu2⟩
    · exact mt_and (mt_test (me_op (mr_I0 _) (me_var _) (me_c _))) (mt_test (me_op (mr_I0 _) (me_op mr_ix (me_var _) (me_var _)) (me_op mr_ix (me_var _) (me_op mr_addT (me_var _) (me_c _)))))
  · rintro σ H' ⟨x3, x4, x5, rfl, s, hb1, hu1⟩
    walk_at "sts"
    refine ⟨_, rfl, _, _, rfl, SqL.of hu1, fun r nr => ?_⟩
    refine q r _ (Same.back s nr) (s.upd nr) ?_
    rw [upd_same]
    unfold nI und
    rw [List.map_reverse, List.map_reverse]
end

section
variable {P : Program} {w : World} {K : PySem.W.Frag} {mg : Str → Option Value} {base : Heap}
theorem kz1f : (defScope s_need_alike).names.lookup ("len" : Str) = some NameKind.globalImplicit := by decide +kernel
theorem kz1g : (defScope s_need_alike).names.lookup ("one" : Str) = some NameKind.local := by decide +kernel
theorem kz1h : (defScope s_need_alike).names.lookup ("other" : Str) = some NameKind.local := by decide +kernel
theorem kz1i : (defScope s_need_alike).names.lookup ("Unlike" : Str) = some NameKind.globalImplicit := by decide +kernel
theorem kz1j : (defScope s_need_alike).names.lookup ("need_turning" : Str) = some NameKind.globalImplicit := by decide +kernel
theorem kz1k : (defScope s_laid).names.lookup ("opposite" : Str) = some NameKind.globalImplicit := by decide +kernel
theorem kz1l : (defScope s_laid).names.lookup ("begins" : Str) = some NameKind.local := by decide +kernel
theorem kz1m : (defScope s_laid).names.lookup ("do_steps" : Str) = some NameKind.globalImplicit := by decide +kernel
theorem kz1n : (defScope s_laid).names.lookup ("steps_of" : Str) = some NameKind.globalImplicit := by decide +kernel
theorem kz1o : (defScope s_laid).names.lookup ("other" : Str) = some NameKind.local := by decide +kernel
theorem kz1p : (defScope s_laid).names.lookup ("one" : Str) = some NameKind.local := by decide +kernel
theorem kz1q : (defScope s_laid).names.lookup ("need_alike" : Str) = some NameKind.globalImplicit := by decide +kernel
noncomputable def Rf (K : PySem.W.Frag) (mg : Str → Option Value) (H : Hp) (u v : V) (E : XK) : Prop :=
  (TnK K H u false ∧ ∀ e H', Same H H' → IsX H' e (clsA mg "NoTurning") [("found", u)] → E (.ref (clsA mg "NoTurning")) (some e) H') ∨
  (TnK K H u true ∧ TnK K H v false ∧ ∀ e H', Same H H' → IsX H' e (clsA mg "NoTurning") [("found", v)] → E (.ref (clsA mg "NoTurning")) (some e) H') ∨
  ∃ a b x y, u = .ref a ∧ v = .ref b ∧ Tn H a x ∧ Tn H b y ∧ Prm x ∧ Prm y ∧ x.length ≠ y.length ∧ ∀ e H', Same H H' → IsX H' e (clsA mg "Unlike") [("one", .int x.length), ("other", .int y.length)] → E (.ref (clsA mg "Unlike")) (some e) H'
noncomputable def spAlike (K : PySem.W.Frag) (mg : Str → Option Value) : Sp := fun vs H Q E => ∃ u v, vs = [u, v] ∧ (Rf K mg H u v E ∨ ∃ a b x y, u = .ref a ∧ v = .ref b ∧ Tn H a x ∧ Tn H b y ∧ Prm x ∧ Prm y ∧ x.length = y.length ∧ ∀ H', Same H H' → Q .non H')
theorem len_tn {H : Hp} {a : Addr} {t : List Nat} {Q : VK} (h : Tn H a t) (q : Q (.int t.length) H) : rLen K [.ref a] H Q := by
  rcases h with h | h
  · exact r_lenL (SqL.of h) (by rw [nI_len]; exact q)
  · exact r_lenT (SqT.of h) (by rw [nI_len]; exact q)
theorem sc_need_alike : FnScope ["one", "other"] ["one", "other"] (defScope s_need_alike) := ⟨rfl, rfl, rfl, by decide +kernel, rfl, by decide +kernel, by decide +kernel⟩
theorem h_need_alike (T : Txt K mg) : HasX P w K mg base 5 "need_alike" ["one", "other"] (spAlike K mg) := by
  have h_need_turning := h_need_turning (P := P) (w := w) (base := base) T
  refine hasJX T.d_need_alike sc_need_alike (fun _ _ _ _ _ _ us hl => L2.usN2 (fun _ _ => rfl) us hl) ?_ fun f cdv A outer s H vs Q E hr h => ?_
  · rintro vs H Q E ⟨u, v, rfl, _⟩; rfl
  obtain ⟨u, v, rfl, h⟩ := h
  have hu := hr.units0
  have hu64 := hr.units
  refine ⟨_, (jb_cons (js_expr (j_callX h_need_turning (hr.mono (by decide)) (glF kz1j) pass_def (ja_cons (j_vL 0 kz1g) ja_nil) (by decide +kernel))) (jb_cons (js_expr (j_callX h_need_turning (hr.mono (by decide)) (glF kz1j) pass_def (ja_cons (j_vL 1 kz1h) ja_nil) (by decide +kernel))) (jb_one (js_if (jt_cmp (op_neF (K := K) rfl hu64) (j_callB (call_lenK (K := K) rfl) (glF kz1f) T.b_len bt_len (ja_cons (j_vL 0 kz1g) ja_nil) (by decide +kernel) (by decide +kernel)) (j_callB (call_lenK (K := K) rfl) (glF kz1f) T.b_len bt_len (ja_cons (j_vL 1 kz1h) ja_nil) (by decide +kernel) (by decide +kernel)) (by first | exact nomark _ | with_unfolding_all rfl)) (jb_one (js_raise (mk_Unlike (P := P) (w := w) (base := base) T) (hr.mono (by decide)) rfl (glF kz1i) pass_def (ja_cons (j_callB (call_lenK (K := K) rfl) (glF kz1f) T.b_len bt_len (ja_cons (j_vL 0 kz1g) ja_nil) (by decide +kernel) (by decide +kernel)) (ja_cons (j_callB (call_lenK (K := K) rfl) (glF kz1f) T.b_len bt_len (ja_cons (j_vL 1 kz1h) ja_nil) (by decide +kernel) (by decide +kernel)) ja_nil)) (by decide +kernel))) jb_nil)))), ?_⟩
  walk_at "sts"
  rcases h with (⟨h1, q⟩ | ⟨h1, h2, q⟩ | ⟨a, b, x, y, rfl, rfl, ha, hb, px, py, hne, q⟩) | ⟨a, b, x, y, rfl, rfl, ha, hb, px, py, he, q⟩
  · exact ⟨u, false, rfl, h1, (fun z => by cases z), fun _ e H1 S1 X1 => q e H1 S1 X1⟩
  · refine ⟨u, true, rfl, h1, fun _ H1 S1 => ?_, (fun z => by cases z)⟩
    walk_at "sts"
    exact ⟨v, false, rfl, h2.same S1, (fun z => by cases z), fun _ e H2 S2 X2 => q e H2 (S1.trans S2) X2⟩
  · refine ⟨_, true, rfl, tn_good ha px, fun _ H1 S1 => ?_, (fun z => by cases z)⟩
    walk_at "sts"
    refine ⟨_, true, rfl, tn_good (hb.same S1) py, fun _ H2 S2 => ?_, (fun z => by cases z)⟩
    walk_at "sts"
    refine len_tn (ha.same (S1.trans S2)) ?_
    walk_at "sts"
    refine len_tn (hb.same (S1.trans S2)) ?_
    walk_at "sts"
    rw [dec_int2, decide_eq_false (show ¬ (x.length : Int) = (y.length : Int) by omega)]
    walk_at "sts"
    refine len_tn (ha.same (S1.trans S2)) ?_
    walk_at "sts"
    refine len_tn (hb.same (S1.trans S2)) ?_
    walk_at "sts"
    exact ⟨rfl, (show 2 ≤ sizeLine by decide), fun e H3 S3 X3 => q e H3 ((S1.trans S2).trans S3) X3⟩
  · refine ⟨_, true, rfl, tn_good ha px, fun _ H1 S1 => ?_, (fun z => by cases z)⟩
    walk_at "sts"
    refine ⟨_, true, rfl, tn_good (hb.same S1) py, fun _ H2 S2 => ?_, (fun z => by cases z)⟩
    walk_at "sts"
    refine len_tn (ha.same (S1.trans S2)) ?_
    walk_at "sts"
    refine len_tn (hb.same (S1.trans S2)) ?_
    walk_at "sts"
    rw [dec_int2, decide_eq_true (show (x.length : Int) = (y.length : Int) by omega)]
    walk_at "sts"
    exact q _ (S1.trans S2)
noncomputable def spLaid (K : PySem.W.Frag) (mg : Str → Option Value) : Sp := fun vs H Q E => ∃ u v, vs = [u, v] ∧ (Rf K mg H u v E ∨ ∃ a b x y n, u = .ref a ∧ v = .ref b ∧ Tn H a x ∧ Tn H b y ∧ Two n x y ∧ ∀ q H', H q = none → Same H H' → H' q = some (.lst ((nI (lay x y)).map V.int)) → Q (.ref q) H')
theorem sc_laid : FnScope ["one", "other", "begins"] ["one", "other"] (defScope s_laid) := ⟨rfl, rfl, rfl, by decide +kernel, rfl, by decide +kernel, by decide +kernel⟩
theorem h_laid (T : Txt K mg) : HasX P w K mg base 7 "laid" ["one", "other"] (spLaid K mg) := by
  have h_need_alike := h_need_alike (P := P) (w := w) (base := base) T
  have h_opposite := h_opposite (P := P) (w := w) (base := base) T
  have h_do_steps := h_do_steps (P := P) (w := w) (base := base) T
  have h_steps_of := h_steps_of (P := P) (w := w) (base := base) T
  refine hasJX T.d_laid sc_laid (fun _ _ _ _ _ _ us hl => L2.usN2 (fun _ _ => rfl) us hl) ?_ fun f cdv A outer s H vs Q E hr h => ?_
  · rintro vs H Q E ⟨u, v, rfl, _⟩; rfl
  obtain ⟨u, v, rfl, h⟩ := h
  have hu := hr.units0
  have hu64 := hr.units
  refine ⟨_, (jb_cons (js_expr (j_callX h_need_alike (hr.mono (by decide)) (glF kz1q) pass_def (ja_cons (j_vL 0 kz1p) (ja_cons (j_vL 1 kz1o) ja_nil)) (by decide +kernel))) (jb_cons (js_set (i := 2) sc_laid.nd rfl (Or.inl kz1l) (j_callX h_opposite (hr.mono (by decide)) (glF kz1k) pass_def (ja_cons (j_vL 0 kz1p) ja_nil) (by decide +kernel)) rfl) (jb_cons (js_expr (j_call h_do_steps (hr.mono (by decide)) (glF kz1m) (ja_cons (j_vL 2 kz1l) (ja_cons (j_callX h_steps_of (hr.mono (by decide)) (glF kz1n) pass_def (ja_cons (j_vL 1 kz1o) ja_nil) (by decide +kernel)) ja_nil)) (by decide +kernel))) (jb_one (js_ret (j_callX h_opposite (hr.mono (by decide)) (glF kz1k) pass_def (ja_cons (j_vL 2 kz1l) ja_nil) (by decide +kernel))))))), ?_⟩
  walk_at "sts"
  rcases h with h | ⟨a, b, x, y, n, rfl, rfl, ha, hb, h2, q⟩
  · exact ⟨u, v, rfl, .inl h⟩
  · have cl := cr_le h2.py.le
    refine ⟨_, _, rfl, .inr ⟨a, b, x, y, rfl, rfl, ha, hb, h2.px, h2.py, by rw [h2.lx, h2.ly], fun H1 S1 => ?_⟩⟩
    walk_at "sts"
    refine ⟨a, x, rfl, ha.same S1, h2.px, fun bg H2 nb S2 hb2 => ?_⟩
    walk_at "sts"
    refine ⟨b, y, rfl, hb.same (S1.trans S2), h2.py, fun st H3 nst S3 hst => ?_⟩
    walk_at "sts"
    have nb0 := Same.back S1 nb
    have hne : bg ≠ st := fun z => by rw [z] at hb2; rw [hb2] at nst; cases nst
    refine ⟨bg, st, inv x, (und y).reverse, rfl, S3 _ _ hb2, hst, hne, (fun p hp => by rw [inv_len, h2.lx]; exact h2.lt p hp), (by rw [und_len h2.py]; exact cl), fun wk H4 nwk C4 hb4 hw4 => ?_⟩
    walk_at "sts"
    have S4 : Same H H4 := fun c o e => C4 c o (fun z => by rw [z, nb0] at e; cases e) (S3 _ _ (S2 _ _ (S1 _ _ e)))
    refine ⟨bg, _, rfl, .inl hb4, h2.run.1, fun r H5 nr S5 hr => ?_⟩
    exact q r H5 (Same.back S4 nr) (S4.trans S5) hr
end

section
variable {P : Program} {w : World} {K : PySem.W.Frag} {mg : Str → Option Value} {base : Heap}
theorem nd_law_list_0 : (["_law_number"] : List Str).Nodup := by decide +kernel
theorem kz1r : (defScope s_law_cell).names.lookup ("_law_k" : Str) = some NameKind.local := by decide +kernel
theorem kz1s : (defScope s_law_cell).names.lookup ("len" : Str) = some NameKind.globalImplicit := by decide +kernel
theorem kz1t : (defScope s_law_cell).names.lookup ("_law_script" : Str) = some NameKind.local := by decide +kernel
theorem kz1u : (defScope s_law_mix).names.lookup ("_law_number" : Str) = some NameKind.local := by decide +kernel
theorem kz1v : (defScope s_law_mix).names.lookup ("_law_k" : Str) = some NameKind.local := by decide +kernel
theorem kz1w : (defScope s_law_mix).names.lookup ("_law_cell_here" : Str) = some NameKind.local := by decide +kernel
theorem kz1x : (defScope s_law_whole).names.lookup ("isinstance" : Str) = some NameKind.globalImplicit := by decide +kernel
theorem kz1y : (defScope s_law_whole).names.lookup ("bool" : Str) = some NameKind.globalImplicit := by decide +kernel
theorem kz1z : (defScope s_law_whole).names.lookup ("_law_thing" : Str) = some NameKind.local := by decide +kernel
theorem kz20 : (defScope s_law_whole).names.lookup ("int" : Str) = some NameKind.globalImplicit := by decide +kernel
theorem kz21 : (defScope s_law_takes).names.lookup ("_law_found" : Str) = some NameKind.local := by decide +kernel
theorem kz22 : (defScope s_law_takes).names.lookup ("enumerate" : Str) = some NameKind.globalImplicit := by decide +kernel
theorem kz23 : (defScope s_law_takes).names.lookup ("_law_bases" : Str) = some NameKind.local := by decide +kernel
theorem kz24 : (defScope s_law_takes).names.lookup ("_law_base" : Str) = some NameKind.local := by decide +kernel
theorem kz25 : (defScope s_law_takes).names.lookup ("_law_k" : Str) = some NameKind.local := by decide +kernel
theorem kz26 : (defScope s_law_takes).names.lookup ("_law_cell_here" : Str) = some NameKind.local := by decide +kernel
theorem kz27 : (defScope s_law_takes).names.lookup ("_law_mix" : Str) = some NameKind.globalImplicit := by decide +kernel
theorem kz28 : (defScope s_law_takes).names.lookup ("_law_left" : Str) = some NameKind.local := by decide +kernel
theorem kz29 : (defScope s_law_many).names.lookup ("_law_few" : Str) = some NameKind.local := by decide +kernel
theorem kz2a : (defScope s_law_many).names.lookup ("_law_way" : Str) = some NameKind.local := by decide +kernel
theorem kz2b : (defScope s_law_many).names.lookup ("_law_some" : Str) = some NameKind.local := by decide +kernel
theorem kz2c : (defScope s_law_many).names.lookup ("_law_most" : Str) = some NameKind.local := by decide +kernel
theorem kz2d : (defScope s_law_many).names.lookup ("_law_takes" : Str) = some NameKind.globalImplicit := by decide +kernel
theorem kz2e : (defScope s_law_many).names.lookup ("_law_cell_here" : Str) = some NameKind.local := by decide +kernel
theorem kz2f : (defScope s_law_list).names.lookup ("len" : Str) = some NameKind.globalImplicit := by decide +kernel
theorem kz2g : (defScope s_law_list).names.lookup ("_law_found" : Str) = some NameKind.local := by decide +kernel
theorem kz2h : (defScope s_law_list).names.lookup ("_law_due" : Str) = some NameKind.local := by decide +kernel
theorem kz2i : (defScope s_law_list).names.lookup ("isinstance" : Str) = some NameKind.globalImplicit := by decide +kernel
theorem kz2j : (defScope s_law_list).names.lookup ("list" : Str) = some NameKind.globalImplicit := by decide +kernel
theorem sq_same {H H' : Hp} {a : Addr} {xs : List V} (h : SqL K H a xs) (s : Same H H') : SqL K H' a xs := by
  rcases h with (h | ⟨o, h⟩) | h
  · exact .inl (.inl (s _ _ h))
  · exact .inl (.inr ⟨o, s _ _ h⟩)
  · exact .inr h
noncomputable def spCell (K : PySem.W.Frag) : Sp := fun vs H Q _ => ∃ (a : Addr) (ns : List Int) (k : Int), vs = [.ref a, .int k] ∧ SqL K H a (ns.map V.int) ∧ 0 ≤ k ∧ ∀ n, Q (.int n) H
theorem sc_law_cell : FnScope ["_law_script", "_law_k"] ["_law_script", "_law_k"] (defScope s_law_cell) := ⟨rfl, rfl, rfl, by decide +kernel, rfl, by decide +kernel, by decide +kernel⟩
theorem h_law_cell (T : Txt K mg) : Has P w K mg base 1 "_law_cell" ["_law_script", "_law_k"] (spCell K) := by
  refine hasJ T.d_law_cell sc_law_cell (fun _ _ _ _ _ _ us hl => L2.usN2 (fun _ _ => rfl) us hl) ?_ fun f cdv A outer s H vs Q E hr h => ?_
  · rintro vs H Q E ⟨a, ns, k, rfl, _⟩; rfl
  obtain ⟨a, ns, k, rfl, hS, h0, q⟩ := h
  have hu := hr.units0
  have hu64 := hr.units
  refine ⟨_, (jb_cons (js_if (jt_cmp op_lt (j_vL 1 kz1r) (j_callB (call_lenK (K := K) rfl) (glF kz1s) T.b_len bt_len (ja_cons (j_vL 0 kz1t) ja_nil) (by decide +kernel) (by decide +kernel)) (by first | exact nomark _ | with_unfolding_all rfl)) (jb_one (js_ret (j_ix (K := K) rfl (j_vL 0 kz1t) (j_vL 1 kz1r)))) jb_nil) (jb_one (js_ret (j_op (op_addT (K := K) rfl) (j_op op_mulA j_int (j_vL 1 kz1r)) j_int)))), ?_⟩
  walk_at "sts"
  refine ⟨_, _, rfl, .inl ⟨_, hS, rfl⟩, ?_⟩
  walk_at "sts"
  refine iteD (fun hk => ?_) (fun hk => ?_)
  · rw [List.length_map] at hk
    walk_at "sts"
    refine r_ixL hS (atI_int (v := .int (ns.getD k.toNat 0)) h0 ?_) (q _)
    rw [List.getElem?_map, List.getD_eq_getElem?_getD, List.getElem?_eq_getElem (by omega)]; rfl
  · walk_at "sts"
    exact q _
noncomputable def spMix : Sp := fun vs H Q _ => ∃ n k : Int, vs = [.int n, .int k] ∧ ∀ r, 0 ≤ r → r < 2147483587 → Q (.int r) H
theorem sc_law_mix : FnScope ["_law_cell_here", "_law_k", "_law_number"] ["_law_cell_here", "_law_k"] (defScope s_law_mix) := ⟨rfl, rfl, rfl, by decide +kernel, rfl, by decide +kernel, by decide +kernel⟩
theorem h_law_mix (T : Txt K mg) : Has P w K mg base 1 "_law_mix" ["_law_cell_here", "_law_k"] spMix := by
  refine hasJ T.d_law_mix sc_law_mix (fun _ _ _ _ _ _ us hl => L2.usN2 (fun _ _ => rfl) us hl) ?_ fun f cdv A outer s H vs Q E hr h => ?_
  · rintro vs H Q E ⟨n, k, rfl, _⟩; rfl
  obtain ⟨n, k, rfl, q⟩ := h
  have hu := hr.units0
  have hu64 := hr.units
  refine ⟨_, (jb_cons (js_set (i := 2) sc_law_mix.nd rfl (Or.inl kz1u) (j_op op_mod (j_op (op_addT (K := K) rfl) (j_op (op_addT (K := K) rfl) (j_op op_mulA (j_op op_mod (j_vL 0 kz1w) j_int) j_int) (j_op op_mulA j_int (j_vL 1 kz1v))) j_int) j_int) rfl) (jb_cons (js_set (i := 2) sc_law_mix.nd rfl (Or.inl kz1u) (j_op op_mod (j_op (op_addT (K := K) rfl) (j_op (op_addT (K := K) rfl) (j_op op_mulA (j_vL 2 kz1u) (j_vL 2 kz1u)) (j_op op_mulA j_int (j_vL 1 kz1v))) j_int) j_int) rfl) (jb_one (js_ret (j_op op_mod (j_op op_mulA (j_vL 2 kz1u) (j_op (op_addT (K := K) rfl) (j_vL 2 kz1u) j_int)) j_int))))), ?_⟩
  walk_at "sts"
  exact q _ (by omega) (by omega)
noncomputable def spWhole : Sp := fun vs H Q _ => ∃ n : Int, vs = [.int n] ∧ Q (.bl true) H
theorem sc_law_whole : FnScope ["_law_thing"] ["_law_thing"] (defScope s_law_whole) := ⟨rfl, rfl, rfl, by decide +kernel, rfl, by decide +kernel, by decide +kernel⟩
theorem h_law_whole (T : Txt K mg) : Has P w K mg base 1 "_law_whole" ["_law_thing"] spWhole := by
  refine hasJ T.d_law_whole sc_law_whole (fun _ _ _ _ _ _ us hl => L2.usN1 (fun _ => rfl) us hl) ?_ fun f cdv A outer s H vs Q E hr h => ?_
  · rintro vs H Q E ⟨n, rfl, _⟩; rfl
  obtain ⟨n, rfl, q⟩ := h
  have hu := hr.units0
  have hu64 := hr.units
  refine ⟨_, (jb_one (js_ret (j_and (j_callB (call_isiK (K := K) rfl) (glF kz1x) T.b_isinstance bt_isinstance (ja_cons (j_vL 0 kz1z) (ja_cons (j_ty (glF kz20) T.b_int bt_int (by decide +kernel) (by decide +kernel)) ja_nil)) (by decide +kernel) (by decide +kernel)) (j_one (j_not (j_callB (call_isiK (K := K) rfl) (glF kz1x) T.b_isinstance bt_isinstance (ja_cons (j_vL 0 kz1z) (ja_cons (j_ty (glF kz1y) T.b_bool bt_bool (by decide +kernel) (by decide +kernel)) ja_nil)) (by decide +kernel) (by decide +kernel))))))), ?_⟩
  walk_at "sts"
  refine r_isi (.int _) rfl ?_
  walk_at "sts"
  refine r_isi (.int _) rfl ?_
  walk_at "sts"
  exact q
noncomputable def Fits (ms bs : List Int) : Prop := ms.length = bs.length ∧ ∀ (i : Nat) (m b : Int), ms[i]? = some m → bs[i]? = some b → 0 ≤ m ∧ m < b
theorem Fits.push {ms bs : List Int} {k : Nat} {m b : Int} (h : Fits ms (bs.take k)) (hb : bs[k]? = some b) (h0 : 0 ≤ m) (h1 : m < b) : Fits (ms ++ [m]) (bs.take (k + 1)) := by
  have hk : k < bs.length := (List.getElem?_eq_some_iff.mp hb).1
  have hl : ms.length = k := by rw [h.1, List.length_take]; omega
  refine ⟨by simp; omega, fun i m' b' e1 e2 => ?_⟩
  by_cases hi : i < k
  · rw [List.getElem?_append_left (by omega)] at e1
    rw [List.getElem?_take_of_lt (by omega)] at e2
    exact h.2 i m' b' e1 (by rw [List.getElem?_take_of_lt hi]; exact e2)
  · have hi2 : i < k + 1 := by have := (List.getElem?_eq_some_iff.mp e1).1; simp at this; omega
    obtain rfl : i = k := by omega
    rw [List.getElem?_append_right (by omega), hl, Nat.sub_self] at e1
    rw [List.getElem?_take_of_lt (by omega), hb] at e2
    cases e1; cases e2
    exact ⟨h0, h1⟩
noncomputable def spTakes (K : PySem.W.Frag) : Sp := fun vs H Q _ => ∃ (n : Int) (b : Addr) (bs : List Int), vs = [.int n, .ref b] ∧ H b = some (.lst (bs.map V.int)) ∧ bs.length ≤ 100 ∧ (∀ x ∈ bs, 0 < x ∧ x < 1606938044258990275541962092341162602522202993782792835301376) ∧
  ∀ (q : Addr) (ms : List Int) (H' : Hp), H q = none → Same H H' → H' q = some (.lst (ms.map V.int)) → Fits ms bs → Q (.ref q) H'
theorem sc_law_takes : FnScope ["_law_cell_here", "_law_bases", "_law_found", "_law_left", "_law_k", "_law_base"] ["_law_cell_here", "_law_bases"] (defScope s_law_takes) := ⟨rfl, rfl, rfl, by decide +kernel, rfl, by decide +kernel, by decide +kernel⟩
theorem h_law_takes (T : Txt K mg) : Has P w K mg base 2 "_law_takes" ["_law_cell_here", "_law_bases"] (spTakes K) := by
  have h_law_mix := h_law_mix (P := P) (w := w) (base := base) T
  refine hasJ T.d_law_takes sc_law_takes (fun _ _ _ _ _ _ us hl => L2.usN2 (fun _ _ => rfl) us hl) ?_ fun f cdv A outer s H vs Q E hr h => ?_
  · rintro vs H Q E ⟨n, b, bs, rfl, _⟩; rfl
  obtain ⟨n, b, bs, rfl, hb, hlen, hbs, q⟩ := h
  have hu := hr.units0
  have hu64 := hr.units
  refine ⟨_, (jb_cons (js_set (i := 2) sc_law_takes.nd rfl (Or.inl kz21) (j_lst ja_nil) rfl) (jb_cons (js_set (i := 3) sc_law_takes.nd rfl (Or.inl kz28) (j_vL 0 kz26) rfl) (jb_cons (js_for PassesOwn.never rfl (ji_enum3 (K := K) rfl rfl (glF kz22) T.b_enumerate (ja_cons (j_vL 1 kz23) ja_nil)) (jg_tup (K := K) rfl rfl (jgs_cons (jg_name (i := 4) sc_law_takes.nd rfl (Or.inl kz25) rfl) (jgs_cons (jg_name (i := 5) sc_law_takes.nd rfl (Or.inl kz24) rfl) jgs_nil))) (jb_one (js_if (jt_cmp op_lt (j_vL 0 kz26) (j_op op_pow j_int j_int) (by first | exact nomark _ | with_unfolding_all rfl)) (jb_one (js_expr (j_meth (K := K) rfl PySem.F.plainAttrs_list PySem.F.slot_list_append PySem.F.type_list_append mt_append (j_vL 2 kz21) (ja_cons (j_op op_mod (j_call h_law_mix (hr.mono (by decide)) (glF kz27) (ja_cons (j_vL 0 kz26) (ja_cons (j_vL 4 kz25) ja_nil)) (by decide +kernel)) (j_vL 5 kz24)) ja_nil)))) (jb_cons (js_expr (j_meth (K := K) rfl PySem.F.plainAttrs_list PySem.F.slot_list_append PySem.F.type_list_append mt_append (j_vL 2 kz21) (ja_cons (j_op op_mod (j_vL 3 kz28) (j_vL 5 kz24)) ja_nil))) (jb_one (js_set (i := 3) sc_law_takes.nd rfl (Or.inl kz28) (j_op op_fdivW (j_vL 3 kz28) (j_vL 5 kz24)) rfl)))))) (jb_one (js_ret (j_vL 2 kz21)))))), ?_⟩
  walk_at "sts"
  have hs : 1000 ≤ sizeLine := by decide
  refine r_new rfl fun f nf => ?_
  walk_at "sts"
  refine .inr (.inl ⟨b, _, rfl, SqL.of (upd_old nf hb), ?_⟩)
  refine for_enumL (K := K) (xs := bs.map V.int) (fun k σ H' => ∃ (l : Int) (ms : List Int) (x4 x5 : Option V), σ = [some (.int n), some (.ref b), some (.ref f), some (.int l), x4, x5] ∧ Same H H' ∧ H' f = some (.lst (ms.map V.int)) ∧ Fits ms (bs.take k))
    ⟨n, [], _, _, rfl, (Same.refl H).upd nf, upd_same, rfl, fun i m b e => by simp at e⟩ (fun i σ H' _ h => ?_) ?_ ?_
  · obtain ⟨_, _, _, _, _, s, _⟩ := h
    exact SqL.of (s _ _ hb)
  · rintro k σ H' T v hk ⟨l, ms, x4, x5, rfl, s, hf, hF⟩ nT
    rw [List.getElem?_map] at hk
    obtain ⟨bb, hbb, rfl⟩ : ∃ y, bs[k]? = some y ∧ v = V.int y := by
      cases e : bs[k]? with
      | none => rw [e] at hk; cases hk
      | some y => rw [e] at hk; exact ⟨y, rfl, (Option.some.inj hk).symm⟩
    obtain ⟨p0, p1⟩ := hbs bb (List.mem_of_getElem? hbb)
    have hml : ms.length ≤ 100 := by rw [hF.1, List.length_take]; omega
    have hf1 := upd_old nT (o := .tup [.int k, .int bb]) hf
    have s1 := s.upd nT (o := .tup [.int k, .int bb])
    refine r_gtup (SqT.of upd_same) rfl ?_
    walk_at "sts"
    refine iteD (fun hg => ?_) (fun hg => ?_)
    · walk_at "sts"
      refine ⟨.inl ⟨rfl, _, SqL.of hf1⟩, ?_⟩
      walk_at "sts"
      refine ⟨_, _, rfl, fun r r0 r1 => ?_⟩
      walk_at "sts"
      refine r_append hf1 (by simp; omega) ?_
      walk_at "sts"
      refine ⟨_, ms ++ [r % bb], _, _, rfl, Same.put s1 nf, ?_, hF.push hbb (Int.emod_nonneg _ (by omega)) (Int.emod_lt_of_pos _ p0)⟩
      rw [List.map_append]; exact upd_same
    · walk_at "sts"
      refine ⟨.inl ⟨rfl, _, SqL.of hf1⟩, ?_⟩
      walk_at "sts"
      refine r_append hf1 (by simp; omega) ?_
      walk_at "sts"
      refine ⟨_, ms ++ [l % bb], _, _, rfl, Same.put s1 nf, ?_, hF.push hbb (Int.emod_nonneg _ (by omega)) (Int.emod_lt_of_pos _ p0)⟩
      rw [List.map_append]; exact upd_same
  · rintro σ H' ⟨l, ms, x4, x5, rfl, s, hf, hF⟩
    walk_at "sts"
    refine q f ms H' nf s hf ?_
    rw [List.length_map, List.take_length] at hF
    exact hF
theorem fits_map {ms : List Int} {bs : List Int} (h : Fits ms bs) : ∀ (i : Nat) (b : Int), bs[i]? = some b → ∃ m : Nat, ms[i]? = some (m : Int) ∧ (m : Int) < b := fun i b hb => by
  have hi : i < ms.length := by rw [h.1]; exact (List.getElem?_eq_some_iff.mp hb).1
  have := h.2 i _ b (List.getElem?_eq_getElem hi) hb
  exact ⟨ms[i].toNat, by rw [List.getElem?_eq_getElem hi, Int.toNat_of_nonneg this.1], by omega⟩
noncomputable def spMany (K : PySem.W.Frag) : Sp := fun vs H Q _ => ∃ n : Int, vs = [.int n] ∧ ∀ (m : Nat) H', m ≤ 96 → Same H H' → Q (.int m) H'
theorem sc_law_many : FnScope ["_law_cell_here", "_law_way", "_law_few", "_law_some", "_law_most"] ["_law_cell_here"] (defScope s_law_many) := ⟨rfl, rfl, rfl, by decide +kernel, rfl, by decide +kernel, by decide +kernel⟩
theorem h_law_many (T : Txt K mg) : Has P w K mg base 3 "_law_many" ["_law_cell_here"] (spMany K) := by
  have h_law_takes := h_law_takes (P := P) (w := w) (base := base) T
  refine hasJ T.d_law_many sc_law_many (fun _ _ _ _ _ _ us hl => L2.usN1 (fun _ => rfl) us hl) ?_ fun f cdv A outer s H vs Q E hr h => ?_
  · rintro vs H Q E ⟨n, rfl, _⟩; rfl
  obtain ⟨n, rfl, q⟩ := h
  have hu := hr.units0
  have hu64 := hr.units
  refine ⟨_, (jb_cons (js_asgT (j_call h_law_takes (hr.mono (by decide)) (glF kz2d) (ja_cons (j_vL 0 kz2e) (ja_cons (j_lst (ja_cons j_int (ja_cons j_int (ja_cons j_int (ja_cons j_int ja_nil))))) ja_nil)) (by decide +kernel)) (jg_seqT (K := K) rfl rfl (jgs_cons (jg_name (i := 1) sc_law_many.nd rfl (Or.inl kz2a) rfl) (jgs_cons (jg_name (i := 2) sc_law_many.nd rfl (Or.inl kz29) rfl) (jgs_cons (jg_name (i := 3) sc_law_many.nd rfl (Or.inl kz2b) rfl) (jgs_cons (jg_name (i := 4) sc_law_many.nd rfl (Or.inl kz2c) rfl) jgs_nil)))))) (jb_cons (js_if (jt_cmp (op_eqE (K := K) rfl hu64) (j_vL 1 kz2a) j_int (by first | exact nomark _ | with_unfolding_all rfl)) (jb_one (js_ret (j_vL 4 kz2c))) jb_nil) (jb_cons (js_if (jt_cmp op_lt (j_vL 1 kz2a) j_int (by first | exact nomark _ | with_unfolding_all rfl)) (jb_one (js_ret (j_vL 3 kz2b))) jb_nil) (jb_one (js_ret (j_vL 2 kz29)))))), ?_⟩
  walk_at "sts"
  refine r_new rfl fun p np => ?_
  walk_at "sts"
  refine ⟨n, p, [32, 9, 25, 97], rfl, upd_same, by simp, by decide, fun f ms H1 nf S1 hf hF => ?_⟩
  walk_at "sts"
  obtain ⟨a, ha, ha1⟩ := fits_map hF 0 32 rfl
  obtain ⟨b, hb, hb1⟩ := fits_map hF 1 9 rfl
  obtain ⟨c, hc, hc1⟩ := fits_map hF 2 25 rfl
  obtain ⟨d, hd, hd1⟩ := fits_map hF 3 97 rfl
  have hl : ms.length = 4 := hF.1
  have em : ms = [(a : Int), b, c, d] := by
    refine List.ext_getElem? fun i => ?_
    match i with
    | 0 => exact ha
    | 1 => exact hb
    | 2 => exact hc
    | 3 => exact hd
    | i + 4 => rw [List.getElem?_eq_none (by omega), List.getElem?_eq_none (by simp)]
  subst em
  have hf' : H1 f = some (.lst [.int (a : Int), .int (b : Int), .int (c : Int), .int (d : Int)]) := hf
  refine ⟨f, _, rfl, .inr (SqL.of hf'), rfl, ?_⟩
  walk_at "sts"
  have S0 : Same H H1 := ((Same.refl H).upd np).trans S1
  refine iteD (fun h => ?_) (fun h => ?_)
  · walk_at "sts"
    exact q d _ (by omega) S0
  · walk_at "sts"
    refine iteD (fun h => ?_) (fun h => ?_)
    · walk_at "sts"
      exact q c _ (by omega) S0
    · walk_at "sts"
      exact q b _ (by omega) S0
noncomputable def spList (K : PySem.W.Frag) : Sp := fun vs H Q _ => ∃ (a b : Addr) (t : List Nat), vs = [.ref a, .ref b] ∧ H a = some (.lst ((nI t).map V.int)) ∧ H b = some (.lst ((nI t).map V.int)) ∧ t.length ≤ 10000 ∧ ∀ H', Same H H' → Q (.bl true) H'
theorem sc_law_list : FnScope ["_law_found", "_law_due"] ["_law_found", "_law_due"] (defScope s_law_list) := ⟨rfl, rfl, rfl, by decide +kernel, rfl, by decide +kernel, by decide +kernel⟩
theorem h_law_list (T : Txt K mg) : Has P w K mg base 2 "_law_list" ["_law_found", "_law_due"] (spList K) := by
  have h_law_whole := h_law_whole (P := P) (w := w) (base := base) T
  refine hasJ T.d_law_list sc_law_list (fun _ _ _ _ _ _ us hl => L2.usN2 (fun _ _ => rfl) us hl) ?_ fun f cdv A outer s H vs Q E hr h => ?_
  · rintro vs H Q E ⟨a, b, t, rfl, _⟩; rfl
  obtain ⟨a, b, t, rfl, ha, hb, hl, q⟩ := h
  have hu := hr.units0
  have hu64 := hr.units
  refine ⟨_, (jb_cons (js_if (jw_pt (jw_or (jt_not (jt_val (j_callB (call_isiK (K := K) rfl) (glF kz2i) T.b_isinstance bt_isinstance (ja_cons (j_vL 0 kz2g) (ja_cons (j_ty (glF kz2j) T.b_list bt_list (by decide +kernel) (by decide +kernel)) ja_nil)) (by decide +kernel) (by decide +kernel)))) (jw_or1 (jt_cmp (op_neF (K := K) rfl hu64) (j_vL 0 kz2g) (j_vL 1 kz2h) (by first | exact nomark _ | with_unfolding_all rfl))))) (jb_one (js_ret j_bl)) jb_nil) (jb_one (js_ret (j_cmp (op_eqE (K := K) rfl hu64) (j_callB (call_lenK (K := K) rfl) (glF kz2f) T.b_len bt_len (ja_cons (j_comp (sub := [none]) (subOk_of (N := ["_law_found", "_law_due"]) (sc := defScope s_law_list) (N' := ["_law_number"]) (by decide +kernel)) rfl rfl rfl (ji_seq (K := K) rfl (j_vL 0 kz2g)) (fun C s₀ H₀ ex => (jg_B 0 (by decide +kernel) nd_law_list_0)) (fun C s₀ H₀ ex => (jif_one (jt_val (j_call h_law_whole (hr.mono (by decide)) (glB (by decide +kernel)) (ja_cons (j_vBL 0 (by decide +kernel)) ja_nil) (by decide +kernel))))) (fun C s₀ H₀ ex => (j_vBL 0 (by decide +kernel)))) ja_nil) (by decide +kernel) (by decide +kernel)) (j_callB (call_lenK (K := K) rfl) (glF kz2f) T.b_len bt_len (ja_cons (j_vL 1 kz2h) ja_nil) (by decide +kernel) (by decide +kernel)) (by first | exact nomark _ | with_unfolding_all rfl))))), ?_⟩
  walk_at "sts"
  have hs : 20000 ≤ sizeLine := by decide
  refine r_isi (.lst ha) rfl ?_
  walk_at "sts"
  refine .inl (.inl (.inl (.inr ⟨a, b, nI t, nI t, rfl, rfl, SqL.of ha, SqL.of hb, ?_⟩)))
  rw [decide_eq_true rfl]
  walk_at "sts"
  refine .inl ⟨a, rfl, ⟨_, SqL.of ha⟩, ?_⟩
  refine comp_list (xs := (nI t).map V.int) (fun i ys H' => H' = H ∧ ys.length = i) (by rw [nI_len]; omega) ⟨rfl, rfl⟩ ?_ ?_ ?_ ?_
  · rintro i ys H' ⟨_, h⟩
    omega
  · rintro i ys H' ⟨rfl, _⟩
    exact SqL.of ha
  · rintro i ys H' x hx ⟨rfl, hy⟩
    obtain ⟨n, _, rfl⟩ := nI_of hx
    walk_at "sts"
    refine ⟨KeepSt.set rfl, ?_⟩
    walk_at "sts"
    refine ⟨_, rfl, ?_⟩
    walk_at "sts"
    exact ⟨rfl, by simp; omega⟩
  · rintro ys H' ⟨rfl, hy⟩ D hD
    walk_at "sts"
    refine r_lenL (SqL.of upd_same) ?_
    walk_at "sts"
    refine r_lenL (SqL.of (upd_old hD hb)) ?_
    walk_at "sts"
    rw [hy, dec_int2, decide_eq_true rfl]
    exact q _ ((Same.refl H').upd hD)
end

section
variable {P : Program} {w : World} {K : PySem.W.Frag} {mg : Str → Option Value} {base : Heap}
theorem kz2k : (defScope s_law_turning).names.lookup ("_law_found" : Str) = some NameKind.local := by decide +kernel
theorem kz2l : (defScope s_law_turning).names.lookup ("_law_takes" : Str) = some NameKind.globalImplicit := by decide +kernel
theorem kz2m : (defScope s_law_turning).names.lookup ("list" : Str) = some NameKind.globalImplicit := by decide +kernel
theorem kz2n : (defScope s_law_turning).names.lookup ("range" : Str) = some NameKind.globalImplicit := by decide +kernel
theorem kz2o : (defScope s_law_turning).names.lookup ("_law_many_here" : Str) = some NameKind.local := by decide +kernel
theorem kz2p : (defScope s_law_turning).names.lookup ("_law_cell_here" : Str) = some NameKind.local := by decide +kernel
theorem kz2q : (defScope s_law_turning).names.lookup ("_law_number" : Str) = some NameKind.local := by decide +kernel
theorem kz2r : (defScope s_law_turning).names.lookup ("_law_left" : Str) = some NameKind.local := by decide +kernel
theorem small_d0 {i : Int} (h0 : 0 ≤ i) (h1 : i < 2 ^ 60) : Builtin.Range.small i 0 (-1) = true := by
  unfold Builtin.Range.small Builtin.Range.rangeSize
  simp only [Builtin.Range.rangeFitsLong, Bool.and_eq_true, Bool.or_eq_true, decide_eq_true_eq, beq_iff_eq, show ¬ ((-1 : Int) > 0) by decide, if_false, show (-(-1 : Int)) = 1 by decide, Int.ediv_one]
  split <;> omega
theorem size_d0 {n : Nat} : Builtin.Range.rangeSize (n : Int) 0 (-1) = (n : Int) := by
  unfold Builtin.Range.rangeSize
  simp only [show ¬ ((-1 : Int) > 0) by decide, if_false, show (-(-1 : Int)) = 1 by decide, Int.ediv_one]
  split <;> omega
theorem map_erase {α β : Type} (f : α → β) : ∀ (l : List α) (k : Nat), (l.map f).eraseIdx k = (l.eraseIdx k).map f
  | [], _ => rfl
  | _ :: _, 0 => rfl
  | a :: l, k + 1 => congrArg (f a :: ·) (map_erase f l k)
theorem erase_perm : ∀ (l : List Nat) (k : Nat) (h : k < l.length), (l[k] :: l.eraseIdx k).Perm l
  | _ :: _, 0, _ => List.Perm.refl _
  | a :: l, k + 1, h => (List.Perm.swap a _ _).trans (List.Perm.cons a (erase_perm l k (by simpa using h)))
theorem nI_erase (t : List Nat) (k : Nat) : ((nI t).map V.int).eraseIdx k = (nI (t.eraseIdx k)).map V.int := by unfold nI; rw [map_erase, map_erase]
noncomputable def spMake (K : PySem.W.Frag) : Sp := fun vs H Q _ => ∃ (n : Int) (m : Nat), vs = [.int n, .int m] ∧ m ≤ 96 ∧ ∀ (q : Addr) (t : List Nat) (H' : Hp), H q = none → Same H H' → H' q = some (.lst ((nI t).map V.int)) → Prm t → t.length = m → Q (.ref q) H'
theorem sc_law_turning : FnScope ["_law_cell_here", "_law_many_here", "_law_left", "_law_found", "_law_number"] ["_law_cell_here", "_law_many_here"] (defScope s_law_turning) := ⟨rfl, rfl, rfl, by decide +kernel, rfl, by decide +kernel, by decide +kernel⟩
theorem h_law_turning (T : Txt K mg) : Has P w K mg base 3 "_law_turning" ["_law_cell_here", "_law_many_here"] (spMake K) := by
  have h_law_takes := h_law_takes (P := P) (w := w) (base := base) T
  refine hasJ T.d_law_turning sc_law_turning (fun _ _ _ _ _ _ us hl => L2.usN2 (fun _ _ => rfl) us hl) ?_ fun f cdv A outer s H vs Q E hr h => ?_
  · rintro vs H Q E ⟨n, m, rfl, _⟩; rfl
  obtain ⟨n, m, rfl, hm, q⟩ := h
  have hu := hr.units0
  have hu64 := hr.units
  refine ⟨_, (jb_cons (js_set (i := 2) sc_law_turning.nd rfl (Or.inl kz2r) (j_listRng1 rfl (glF kz2m) T.b_list (glF kz2n) T.b_range (ja_cons (j_vL 1 kz2o) ja_nil)) rfl) (jb_cons (js_set (i := 3) sc_law_turning.nd rfl (Or.inl kz2k) (j_lst ja_nil) rfl) (jb_cons (js_for PassesOwn.never rfl (ji_seq (K := K) rfl (j_call h_law_takes (hr.mono (by decide)) (glF kz2l) (ja_cons (j_vL 0 kz2p) (ja_cons (j_listRng3 rfl (glF kz2m) T.b_list (glF kz2n) T.b_range (ja_cons (j_vL 1 kz2o) (ja_cons j_int (ja_cons (j_un un_neg j_int) ja_nil)))) ja_nil)) (by decide +kernel))) (jg_name (i := 4) sc_law_turning.nd rfl (Or.inl kz2q) rfl) (jb_one (js_expr (j_meth (K := K) rfl PySem.F.plainAttrs_list PySem.F.slot_list_append PySem.F.type_list_append mt_append (j_vL 3 kz2k) (ja_cons (j_meth (K := K) rfl PySem.F.plainAttrs_list PySem.F.slot_list_pop PySem.F.type_list_pop mt_popI (j_vL 2 kz2r) (ja_cons (j_vL 4 kz2q) ja_nil)) ja_nil))))) (jb_one (js_ret (j_vL 3 kz2k)))))), ?_⟩
  walk_at "sts"
  have hs : 20000 ≤ sizeLine := by decide
  refine r_rng1L (n := m) (by omega) ?_
  walk_at "sts"
  intro lf nlf
  rw [rng_nI]
  have S1 : Same H (upd H lf (.lst ((nI (List.range m)).map V.int))) := (Same.refl H).upd nlf
  have hlf : upd H lf (.lst ((nI (List.range m)).map V.int)) lf = some (.lst ((nI (List.range m)).map V.int)) := upd_same
  generalize upd H lf (.lst ((nI (List.range m)).map V.int)) = H1 at S1 hlf ⊢
  walk_at "sts"
  refine r_new rfl fun fd nfd => ?_
  walk_at "sts"
  have S2 := S1.upd nfd (o := .lst [])
  have hlf2 := upd_old nfd (o := .lst []) hlf
  have hfd2 : upd H1 fd (.lst []) fd = some (.lst []) := upd_same
  have nfd0 := Same.back S1 nfd
  have ne : lf ≠ fd := fun z => by rw [z, nfd] at hlf; cases hlf
  generalize upd H1 fd (.lst []) = H2 at S2 hlf2 hfd2 ⊢
  refine ⟨(m : Int), 0, -1, m, rfl, by decide, PyProof.noPylong_small (by decide), small_d0 (by omega) (by omega), size_d0, by omega, ?_⟩
  walk_at "sts"
  intro bs nbs
  have ebs : ((List.range m).map fun i : Nat => V.int ((m : Int) + (i : Int) * -1)) = ((List.range m).map fun i : Nat => (m : Int) + (i : Int) * -1).map V.int := by rw [List.map_map]; rfl
  rw [ebs]
  have S3 := S2.upd nbs (o := .lst (((List.range m).map fun i : Nat => (m : Int) + (i : Int) * -1).map V.int))
  have hlf3 := upd_old nbs (o := .lst (((List.range m).map fun i : Nat => (m : Int) + (i : Int) * -1).map V.int)) hlf2
  have hfd3 := upd_old nbs (o := .lst (((List.range m).map fun i : Nat => (m : Int) + (i : Int) * -1).map V.int)) hfd2
  have hbs : upd H2 bs (.lst (((List.range m).map fun i : Nat => (m : Int) + (i : Int) * -1).map V.int)) bs = some (.lst (((List.range m).map fun i : Nat => (m : Int) + (i : Int) * -1).map V.int)) := upd_same
  generalize upd H2 bs (.lst (((List.range m).map fun i : Nat => (m : Int) + (i : Int) * -1).map V.int)) = H3 at S3 hlf3 hfd3 hbs ⊢
  refine ⟨n, bs, (List.range m).map fun i : Nat => (m : Int) + (i : Int) * -1, rfl, hbs, by simp; omega, (fun x hx => by obtain ⟨i, hi, rfl⟩ := List.mem_map.mp hx; have := List.mem_range.mp hi; exact ⟨by omega, by omega⟩), fun tk ms H4 ntk S4 htk hF => ?_⟩
  walk_at "sts"
  have ml : ms.length = m := by rw [hF.1]; simp
  have hlf4 := S4 _ _ hlf3
  have hfd4 := S4 _ _ hfd3
  have tl : tk ≠ lf := fun z => by rw [z, hlf3] at ntk; cases ntk
  have tf : tk ≠ fd := fun z => by rw [z, hfd3] at ntk; cases ntk
  refine .inl ⟨tk, rfl, ⟨_, SqL.of htk⟩, ?_⟩
  refine for_list (xs := ms.map V.int) (fun k σ H' => ∃ (L F : List Nat) (x4 : Option V), σ = [some (.int n), some (.int m), some (.ref lf), some (.ref fd), x4] ∧ Same H H' ∧ H' tk = some (.lst (ms.map V.int)) ∧ H' lf = some (.lst ((nI L).map V.int)) ∧ H' fd = some (.lst ((nI F).map V.int)) ∧ (F ++ L).Perm (List.range m) ∧ L.length + k = m)
    ⟨List.range m, [], _, rfl, S3.trans S4, htk, hlf4, hfd4, List.Perm.refl _, by simp⟩ (fun i σ H' _ h => ?_) ?_ ?_
  · obtain ⟨_, _, _, _, _, h, _⟩ := h
    exact SqL.of h
  · rintro k v σ H' hk ⟨L, F, x4, rfl, s, ht, hl, hf, hp, hlen⟩
    have hkm : k < m := by have := (List.getElem?_eq_some_iff.mp hk).1; rw [List.length_map] at this; omega
    obtain ⟨c, hc, hcb⟩ := fits_map hF k ((m : Int) + (k : Int) * -1) (by rw [List.getElem?_map, List.getElem?_range hkm]; rfl)
    rw [List.getElem?_map, hc] at hk
    cases hk
    have hcl : c < L.length := by omega
    have hFl : F.length = k := by have := hp.length_eq; rw [List.length_append, List.length_range] at this; omega
    walk_at "sts"
    refine ⟨.inl ⟨rfl, _, SqL.of hf⟩, ?_⟩
    walk_at "sts"
    refine ⟨.inl ⟨rfl, _, SqL.of hl⟩, ?_⟩
    walk_at "sts"
    refine r_popI hl (nI_at (getD_some hcl)) (by omega) ?_
    walk_at "sts"
    rw [nI_erase]
    refine r_append (by rw [upd_ne (Ne.symm ne)]; exact hf) (by rw [nI_len]; omega) ?_
    walk_at "sts"
    rw [nI_push]
    refine ⟨_, _, _, rfl, Same.put (Same.put s nlf) nfd0, by rw [upd_ne tf, upd_ne tl]; exact ht, by rw [upd_ne ne]; exact upd_same, upd_same, ?_, by rw [List.length_eraseIdx_of_lt hcl]; omega⟩
    refine List.Perm.trans ?_ hp
    rw [List.append_assoc]
    refine List.Perm.append_left _ ?_
    have e : L.getD c 0 = L[c] := by rw [List.getD_eq_getElem?_getD, List.getElem?_eq_getElem hcl]; rfl
    rw [e]
    exact erase_perm L c hcl
  · rintro σ H' ⟨L, F, x4, rfl, s, ht, hl, hf, hp, hlen⟩
    walk_at "sts"
    rw [List.length_map, ml] at hlen
    have e : L = [] := List.length_eq_zero_iff.mp (by omega)
    subst e
    rw [List.append_nil] at hp
    have hFl : F.length = m := by rw [hp.length_eq]; simp
    exact q fd F H' nfd0 s hf ⟨by omega, by rw [hFl]; exact hp⟩ hFl
end

local macro_rules | `(tactic| walk_at "sts") => `(tactic| (with_reducible repeat (first | refine r_op ?_ | refine iteT ?_ | refine iteF ?_ | refine iteNT ?_ | refine iteNF ?_ | (refine' r_var ?hz0 ?_; (case hz0 => with_unfolding_all rfl)) | refine r_C ?_ | refine r_i0 ?_ | refine r_addI ?_ | refine r_cons ?_ | refine r_nil ?_ | refine r_seq ?_ | refine r_asg ?_ | refine r_name ?_ | refine r_ret ?_ | refine r_next ?_ | refine r_if ?_ | refine r_test ?_ | refine r_bl ?_ | refine r_cb ?_ | refine r_call ?_ | refine r_tb ?_ | refine r_not ?_ | refine r_and ?_ | refine r_or ?_ | refine r_andV ?_ | refine r_notV ?_ | refine r_sub ?_ | refine r_drop ?_ | refine r_un ?_ | refine r_tupG ?_ | refine r_lstG ?_ | refine r_bm ?_ | refine r_bm0 ?_ | refine r_sl ?_ | refine r_nop ?_ | refine r_part ?_ | refine r_true ?_ | refine r_rng1 ?_ | refine r_rng2 ?_ | refine r_iseq ?_ | refine r_comp ?_ | refine r_for ?_ | refine r_u ?_ | refine r_gcons ?_ | refine r_gnil ?_ | (refine' r_gtup (SqT.of ?hz0) ?hz1 ?_; (case hz0 => first | assumption | exact upd_same); (case hz1 => rfl)) | refine r_callX ?_ | refine r_chain ?_ | refine r_raise ?_ | refine r_rng3 ?_ | refine r_dnew ?_ | refine r_eqCI ?_ | refine r_eqEI ?_ | refine r_ii ?_ | refine r_eqBI ?_ | refine r_neBI ?_ | refine r_zip ?_ | refine r_intE ?_ | (refine' r_i ?hz0 ?_; (case hz0 => with_unfolding_all first | assumption | omega | (dsimp only <;> omega) | exact ⟨by omega, by omega⟩ | exact .inl ⟨by omega, by omega⟩ | exact .inr ⟨by omega, by omega⟩ | exact ⟨by decide, by decide, by decide⟩)) | (refine' r_mulI ?hz0 ?_; (case hz0 => with_unfolding_all first | assumption | omega | (dsimp only <;> omega) | exact ⟨by omega, by omega⟩ | exact .inl ⟨by omega, by omega⟩ | exact .inr ⟨by omega, by omega⟩ | exact ⟨by decide, by decide, by decide⟩)) | (refine' r_ixL (SqL.of ?hz0) ?hz1 ?_; (case hz0 => first | assumption | exact upd_same); (case hz1 => with_unfolding_all rfl)) | (refine' r_ixT (SqT.of ?hz0) ?hz1 ?_; (case hz0 => first | assumption | exact upd_same); (case hz1 => with_unfolding_all rfl)) | (refine' r_setL ?hz0 ?hz1 ?_; (case hz0 => first | assumption | exact upd_same); (case hz1 => with_unfolding_all rfl)) | refine r_maxII ?_ | (refine' r_aug ?hz0 ?_; (case hz0 => with_unfolding_all rfl)) | refine r_minII ?_ | refine r_lrng ?_ | refine r_enum3 ?_ | refine r_sl3L ?_ | refine r_neFI ?_)))
local macro_rules | `(tactic| walk_at "stn") => `(tactic| (with_reducible repeat (first | refine r_op ?_ | refine iteT ?_ | refine iteF ?_ | refine iteNT ?_ | refine iteNF ?_ | (refine' r_var ?hz0 ?_; (case hz0 => with_unfolding_all rfl)) | refine r_C ?_ | refine r_i0 ?_ | refine r_addI ?_ | refine r_cons ?_ | refine r_nil ?_ | refine r_asg ?_ | refine r_name ?_ | refine r_ret ?_ | refine r_next ?_ | refine r_if ?_ | refine r_test ?_ | refine r_bl ?_ | refine r_cb ?_ | refine r_call ?_ | refine r_tb ?_ | refine r_not ?_ | refine r_and ?_ | refine r_or ?_ | refine r_andV ?_ | refine r_notV ?_ | refine r_sub ?_ | refine r_drop ?_ | refine r_un ?_ | refine r_tupG ?_ | refine r_lstG ?_ | refine r_bm ?_ | refine r_bm0 ?_ | refine r_sl ?_ | refine r_nop ?_ | refine r_part ?_ | refine r_true ?_ | refine r_rng1 ?_ | refine r_rng2 ?_ | refine r_iseq ?_ | refine r_comp ?_ | refine r_for ?_ | refine r_u ?_ | refine r_gcons ?_ | refine r_gnil ?_ | (refine' r_gtup (SqT.of ?hz0) ?hz1 ?_; (case hz0 => first | assumption | exact upd_same); (case hz1 => rfl)) | refine r_callX ?_ | refine r_chain ?_ | refine r_raise ?_ | refine r_rng3 ?_ | refine r_dnew ?_ | refine r_eqCI ?_ | refine r_eqEI ?_ | refine r_ii ?_ | refine r_eqBI ?_ | refine r_neBI ?_ | refine r_zip ?_ | refine r_intE ?_ | (refine' r_i ?hz0 ?_; (case hz0 => with_unfolding_all first | assumption | omega | (dsimp only <;> omega) | exact ⟨by omega, by omega⟩ | exact .inl ⟨by omega, by omega⟩ | exact .inr ⟨by omega, by omega⟩ | exact ⟨by decide, by decide, by decide⟩)) | (refine' r_mulI ?hz0 ?_; (case hz0 => with_unfolding_all first | assumption | omega | (dsimp only <;> omega) | exact ⟨by omega, by omega⟩ | exact .inl ⟨by omega, by omega⟩ | exact .inr ⟨by omega, by omega⟩ | exact ⟨by decide, by decide, by decide⟩)) | (refine' r_ixL (SqL.of ?hz0) ?hz1 ?_; (case hz0 => first | assumption | exact upd_same); (case hz1 => with_unfolding_all rfl)) | (refine' r_ixT (SqT.of ?hz0) ?hz1 ?_; (case hz0 => first | assumption | exact upd_same); (case hz1 => with_unfolding_all rfl)) | (refine' r_setL ?hz0 ?hz1 ?_; (case hz0 => first | assumption | exact upd_same); (case hz1 => with_unfolding_all rfl)) | refine r_maxII ?_ | (refine' r_aug ?hz0 ?_; (case hz0 => with_unfolding_all rfl)) | refine r_minII ?_ | refine r_lrng ?_ | refine r_enum3 ?_ | refine r_sl3L ?_ | refine r_neFI ?_)))
section
variable {P : Program} {w : World} {K : PySem.W.Frag} {mg : Str → Option Value} {base : Heap}
theorem nd_law_counts_0 : (["_law_place", "_law_many_here", "_law_turning_here", "_law_at"] : List Str).Nodup := by decide +kernel
theorem nd_law_counts_1 : (["_law_place"] : List Str).Nodup := by decide +kernel
theorem kz2s : (defScope s_law_counts).names.lookup ("_law_found" : Str) = some NameKind.local := by decide +kernel
theorem kz2t : (defScope s_law_counts).names.lookup ("range" : Str) = some NameKind.globalImplicit := by decide +kernel
theorem kz2u : (defScope s_law_counts).names.lookup ("len" : Str) = some NameKind.globalImplicit := by decide +kernel
theorem kz2v : (defScope s_law_counts).names.lookup ("_law_turning_here" : Str) = some NameKind.cell := by decide +kernel
theorem kz2w : (defScope s_law_counts).names.lookup ("_law_at" : Str) = some NameKind.cell := by decide +kernel
theorem kz2x : (defScope s_law_counts).names.lookup ("enumerate" : Str) = some NameKind.globalImplicit := by decide +kernel
noncomputable def ctN (t : List Nat) (b e : Nat) : Nat := (t.drop b).countP fun x => decide (x < e)
noncomputable def rowC (t : List Nat) (b : Nat) : List Int := (List.range (t.length + 1)).map fun e => ((ctN t b e : Nat) : Int)
theorem rowC_len (t : List Nat) (b : Nat) : (rowC t b).length = t.length + 1 := by simp [rowC]
theorem rowC_at {t : List Nat} {b e : Nat} (h : e ≤ t.length) : (rowC t b)[e]? = some ((ctN t b e : Nat) : Int) := by
  unfold rowC
  rw [List.getElem?_map, List.getElem?_range (by omega)]; rfl
theorem ctN_end (t : List Nat) (e : Nat) : ctN t t.length e = 0 := by unfold ctN; simp
theorem ctN_step {t : List Nat} {b : Nat} (h : b < t.length) (e : Nat) : ctN t b e = ctN t (b + 1) e + if t.getD b 0 < e then 1 else 0 := by
  unfold ctN
  rw [List.drop_eq_getElem_cons h, List.countP_cons]
  have : t.getD b 0 = t[b] := by rw [List.getD_eq_getElem?_getD, List.getElem?_eq_getElem h]; rfl
  rw [this]
  simp
theorem lt_le_count (t : List Nat) (q : Nat) : t.countP (fun x => decide (x < q)) + t.countP (fun x => decide (q ≤ x)) = t.length := by
  induction t with
  | nil => rfl
  | cons x t ih =>
    rw [List.countP_cons, List.countP_cons, List.length_cons]
    by_cases h : x < q
    · have h2 : ¬ q ≤ x := by omega
      simp [h, h2]; omega
    · have h2 : q ≤ x := by omega
      simp [h, h2]; omega
theorem N_take : ∀ (B : List Nat) (p q : Nat), N B p q = (B.take q).countP fun x => decide (p ≤ x)
  | [], _, _ => by simp [N]
  | _ :: _, _, 0 => by simp [N]
  | b :: B, p, q + 1 => by
    rw [N, List.take_succ_cons, List.countP_cons, N_take B p q]
    unfold cN
    by_cases h : p ≤ b
    · simp [h]; try omega
    · simp [h]
theorem below_all {t : List Nat} (h : Prm t) {q : Nat} (hq : q ≤ t.length) : t.countP (fun x => decide (x < q)) = q := by
  rw [h.pm.countP_eq]
  have key : ∀ n q, q ≤ n → (List.range n).countP (fun x => decide (x < q)) = q := by
    intro n
    induction n with
    | zero => intro q h; obtain rfl : q = 0 := by omega
              rfl
    | succ n ih =>
      intro q hq
      rw [List.range_succ, List.countP_append]
      by_cases e : q = n + 1
      · subst e
        have : (List.range n).countP (fun x => decide (x < n + 1)) = n := by
          rw [List.countP_eq_length.mpr (fun a ha => by have := List.mem_range.mp ha; simp; omega)]; simp
        rw [this]; simp
      · rw [ih q (by omega)]
        have : ¬ n < q := by omega
        simp [this]
  exact key _ _ hq
theorem ctN_N {t : List Nat} (h : Prm t) {p q : Nat} (hp : p ≤ t.length) (hq : q ≤ t.length) : ctN t p q = N (inv t) p q := by
  have h1 := N_inv h rfl hp q hq
  have h2 := N_take t q p
  have h3 := below_all h hq
  have h4 : t.countP (fun x => decide (x < q)) = (t.take p).countP (fun x => decide (x < q)) + ctN t p q := by
    unfold ctN
    rw [← List.countP_append, List.take_append_drop]
  have h5 := lt_le_count (t.take p) q
  rw [List.length_take, Nat.min_eq_left hp] at h5
  omega
noncomputable def CT (H : Hp) (rs : List V) (n : Nat) (f : Nat → List Int) : Prop := rs.length = n ∧ ∀ k, k < n → ∃ a, rs[k]? = some (.ref a) ∧ H a = some (.lst ((f k).map V.int))
theorem CT.same {H H' : Hp} {rs : List V} {n : Nat} {f : Nat → List Int} (h : CT H rs n f) (s : Same H H') : CT H' rs n f := ⟨h.1, fun k hk => by
  obtain ⟨a, e, ha⟩ := h.2 k hk
  exact ⟨a, e, s _ _ ha⟩⟩
theorem CT.push {H : Hp} {rs : List V} {n : Nat} {f : Nat → List Int} {a : Addr} (h : CT H rs n f) (ha : H a = some (.lst ((f n).map V.int))) : CT H (rs ++ [.ref a]) (n + 1) f := ⟨by rw [List.length_append, h.1]; rfl, fun k hk => by
  by_cases e : k = n
  · subst e
    exact ⟨a, by rw [List.getElem?_append_right (by rw [h.1]; exact Nat.le_refl _), h.1, Nat.sub_self]; rfl, ha⟩
  · obtain ⟨b, e1, hb⟩ := h.2 k (by omega)
    exact ⟨b, by rw [List.getElem?_append_left (by rw [h.1]; omega)]; exact e1, hb⟩⟩
theorem CT.cons {H : Hp} {rs : List V} {n : Nat} {f g : Nat → List Int} {a : Addr} (h : CT H rs n f) (ha : H a = some (.lst ((g 0).map V.int))) (e : ∀ k, k < n → g (k + 1) = f k) : CT H (.ref a :: rs) (n + 1) g := ⟨by rw [List.length_cons, h.1], fun k hk => by
  cases k with
  | zero => exact ⟨a, rfl, ha⟩
  | succ k =>
    obtain ⟨b, e1, hb⟩ := h.2 k (by omega)
    exact ⟨b, e1, by rw [e k (by omega)]; exact hb⟩⟩
theorem CT.congr {H : Hp} {rs : List V} {n : Nat} {f g : Nat → List Int} (h : CT H rs n f) (e : ∀ k, k < n → f k = g k) : CT H rs n g := ⟨h.1, fun k hk => by rw [← e k hk]; exact h.2 k hk⟩
noncomputable def spLCt (K : PySem.W.Frag) : Sp := fun vs H Q _ => ∃ (a : Addr) (t : List Nat), vs = [.ref a] ∧ H a = some (.lst ((nI t).map V.int)) ∧ t.length ≤ 96 ∧ ∀ q rs H', H q = none → Same H H' → H' q = some (.lst rs) → CT H' rs (t.length + 1) (rowC t) → Q (.ref q) H'
theorem sc_law_counts : FnScope ["_law_turning_here", "_law_found", "_law_at"] ["_law_turning_here"] (defScope s_law_counts) := ⟨rfl, rfl, rfl, by decide +kernel, rfl, by decide +kernel, by decide +kernel⟩
theorem h_law_counts (T : Txt K mg) : Has P w K mg base 1 "_law_counts" ["_law_turning_here"] (spLCt K) := by
  refine hasJ T.d_law_counts sc_law_counts (fun _ _ _ _ _ _ us hl => L2.usN1 (fun _ => rfl) us hl) ?_ fun f cdv A outer s H vs Q E hr h => ?_
  · rintro vs H Q E ⟨a, t, rfl, _⟩; rfl
  obtain ⟨a, t, rfl, ha, hle, q⟩ := h
  have hu := hr.units0
  have hu64 := hr.units
  refine ⟨_, (jb_cons (js_set (i := 1) sc_law_counts.nd rfl (Or.inl kz2s) (j_lst (ja_cons (j_comp (sub := [none]) (subOk_of (N := ["_law_turning_here", "_law_found", "_law_at"]) (sc := defScope s_law_counts) (N' := ["_law_place"]) (by decide +kernel)) rfl rfl rfl (ji_range1 (glF kz2t) T.b_range (ja_cons (j_op op_addA (j_callB (call_lenK (K := K) rfl) (glF kz2u) T.b_len bt_len (ja_cons (j_vC 0 kz2v) ja_nil) (by decide +kernel) (by decide +kernel)) j_int) ja_nil)) (fun C s₀ H₀ ex => (jg_B 0 (by decide +kernel) nd_law_counts_1)) (fun C s₀ H₀ ex => jif_nil) (fun C s₀ H₀ ex => j_int)) ja_nil)) rfl) (jb_cons (js_for PassesOwn.never rfl (ji_range3 (glF kz2t) T.b_range (ja_cons (j_op op_sub (j_callB (call_lenK (K := K) rfl) (glF kz2u) T.b_len bt_len (ja_cons (j_vC 0 kz2v) ja_nil) (by decide +kernel) (by decide +kernel)) j_int) (ja_cons (j_un un_neg j_int) (ja_cons (j_un un_neg j_int) ja_nil)))) (jg_name (i := 2) sc_law_counts.nd rfl (Or.inr kz2w) rfl) (jb_one (js_set (i := 1) sc_law_counts.nd rfl (Or.inl kz2s) (j_op op_addA (j_lst (ja_cons (j_comp (sub := [none, none, some 0, some 2]) (subOk_of (N := ["_law_turning_here", "_law_found", "_law_at"]) (sc := defScope s_law_counts) (N' := ["_law_place", "_law_many_here", "_law_turning_here", "_law_at"]) (by decide +kernel)) rfl rfl rfl (ji_enum3 (K := K) rfl rfl (glF kz2x) T.b_enumerate (ja_cons (j_ix (K := K) rfl (j_vL 1 kz2s) j_int) ja_nil)) (fun C s₀ H₀ ex => (jg_tup (K := K) (n := 2) rfl rfl (jgs_cons (jg_B 0 (by decide +kernel) nd_law_counts_0) (jgs_cons (jg_B 1 (by decide +kernel) nd_law_counts_0) jgs_nil)))) (fun C s₀ H₀ ex => jif_nil) (fun C s₀ H₀ ex => (j_op op_addA (j_vBL 1 (by decide +kernel)) (j_callTy call_int1 (glB (by decide +kernel)) T.b_int bt_int (ja_cons (j_cmp op_gt (j_vBL 0 (by decide +kernel)) (j_ix (K := K) rfl (j_vBF 2 (by decide +kernel)) (j_vBF 3 (by decide +kernel))) (by first | exact nomark _ | with_unfolding_all rfl)) ja_nil) (by decide +kernel) (by decide +kernel))))) ja_nil)) (j_vL 1 kz2s)) rfl))) (jb_one (js_ret (j_vL 1 kz2s))))), ?_⟩
  walk_at "sts"
  have hs : 20000 ≤ sizeLine := by decide
  refine r_lenL (SqL.of ha) ?_
  walk_at "sts"
  rw [nI_len]
  refine ⟨_, rfl, by omega, by omega, ?_⟩
  rw [show ((t.length : Int) + 1).toNat = t.length + 1 by omega]
  refine comp_rngM (n := t.length + 1) (fun _ => .int 0) (by omega) ?_ ?_
  · intro i hi
    walk_at "sts"
    refine ⟨KeepSt.set rfl, ?_⟩
    walk_at "sts"
    exact ⟨rfl, mapNext rfl⟩
  intro r0 H1 nr0 S1 hr0
  replace hr0 : H1 r0 = some (.lst ((rowC t t.length).map V.int)) := by
    rw [hr0]
    unfold rowC
    rw [List.map_map]
    congr 2
    refine List.map_congr_left fun k _ => ?_
    show V.int 0 = V.int ((ctN t t.length k : Nat) : Int)
    rw [ctN_end]; rfl
  walk_at "sts"
  refine r_newO rfl fun f0 H2 nf0 S2 hf0 => ?_
  walk_at "sts"
  have U2 := S1.trans S2
  refine r_lenL (SqL.of (U2 _ _ ha)) ?_
  walk_at "sts"
  rw [nI_len]
  refine ⟨(t.length : Int) - 1, -1, -1, t.length, rfl, by decide, PyProof.noPylong_small (by decide), small_down (by omega) (by omega), size_down, ?_⟩
  refine for_rng3 (n := t.length) (fun i σ G => Same H G ∧ ∃ f rs x2, H f = none ∧ G f = some (.lst rs) ∧ CT G rs (i + 1) (fun k => rowC t (t.length - i + k)) ∧ σ = [some (.ref a), some (.ref f), x2])
    ⟨U2, f0, _, _, Same.back S1 nf0, hf0, ⟨rfl, fun k hk => ?_⟩, rfl⟩ ?_ ?_
  · obtain rfl : k = 0 := by omega
    exact ⟨r0, rfl, S2 _ _ hr0⟩
  · rintro i σ G hi ⟨sG, f, rs, x2, nf, hf, hC, rfl⟩
    obtain ⟨k, ek⟩ : ∃ k : Nat, k = t.length - 1 - i := ⟨_, rfl⟩
    rw [show (t.length : Int) - 1 + (i : Int) * -1 = (k : Int) by omega]
    obtain ⟨ra, e0, hra⟩ := hC.2 0 (by omega)
    have e00 : t.length - i + 0 = k + 1 := by omega
    replace hra : G ra = some (.lst ((rowC t (k + 1)).map V.int)) := by rw [hra, ← e00]
    have haG := sG _ _ ha
    walk_at "sts"
    refine r_ixL (SqL.of hf) (atI_nat (j := 0) e0) ?_
    walk_at "sts"
    refine .inr (.inl ⟨ra, _, rfl, SqL.of hra, ?_⟩)
    refine comp_enumL (xs := (rowC t (k + 1)).map V.int) (fun e ys G' => Same G G' ∧ ys = ((List.range e).map fun e => ((ctN t k e : Nat) : Int)).map V.int) (by rw [List.length_map, rowC_len]; omega) ⟨Same.refl G, rfl⟩ ?_ ?_ ?_ ?_
    · rintro e ys G' ⟨_, rfl⟩
      simp
    · rintro e ys G' ⟨s, _⟩
      exact SqL.of (s _ _ hra)
    · rintro e ys G' T0 x hx ⟨s, rfl⟩ nT
      have he : e ≤ t.length := by
        have := (List.getElem?_eq_some_iff.mp hx).1
        rw [List.length_map, rowC_len] at this; omega
      rw [List.getElem?_map, rowC_at he] at hx
      obtain rfl : V.int ((ctN t (k + 1) e : Nat) : Int) = x := by injection hx
      have s2 := s.upd nT (o := .tup [.int (e : Int), .int ((ctN t (k + 1) e : Nat) : Int)])
      have g2 := upd_same (H := G') (a := T0) (o := .tup [.int (e : Int), .int ((ctN t (k + 1) e : Nat) : Int)])
      generalize upd G' T0 (.tup [.int (e : Int), .int ((ctN t (k + 1) e : Nat) : Int)]) = G2 at s2 g2 ⊢
      refine r_gtup (SqT.of g2) rfl ?_
      walk_at "sts"
      refine ⟨KeepSt.trans (KeepSt.set rfl) (KeepSt.set rfl), ?_⟩
      walk_at "sts"
      refine r_ixL (SqL.of (s2 _ _ haG)) (nI_ix (k := k) (by omega) rfl) ?_
      walk_at "sts"
      refine .inr ⟨_, rfl, ?_⟩
      walk_at "sts"
      refine ⟨s2, ?_⟩
      have ec := ctN_step (t := t) (b := k) (by omega) e
      rw [List.range_succ, List.map_append, List.map_append]
      congr 1
      show [V.int _] = [V.int _]
      congr 2
      show _ = ((ctN t k e : Nat) : Int)
      rw [ec]
      by_cases hlt : t.getD k 0 < e
      · rw [if_pos hlt, decide_eq_true (show ((t.getD k 0 : Nat) : Int) < (e : Int) by omega)]; simp
      · rw [if_neg hlt, decide_eq_false (show ¬ ((t.getD k 0 : Nat) : Int) < (e : Int) by omega)]; simp
    rintro ys G1 nr G2 ⟨s1, rfl⟩ nnr s2 hnr
    rw [List.length_map, rowC_len] at hnr
    replace hnr : G2 nr = some (.lst ((rowC t k).map V.int)) := hnr
    try walk_at "sts"
    refine r_newO rfl fun nl G3 nnl s3 hnl => ?_
    walk_at "sts"
    have s03 := s1.trans (s2.trans s3)
    refine r_addL hnl (s03 _ _ hf) (by have := hC.1; simp; omega) fun ff nff => ?_
    walk_at "sts"
    have s4 := s03.upd nff (o := .lst ([.ref nr] ++ rs))
    refine ⟨sG.trans s4, ff, _, _, Same.back (sG.trans s03) nff, upd_same, ?_, rfl⟩
    refine (hC.same s4).cons (g := fun j => rowC t (t.length - (i + 1) + j)) ?_ fun j _ => ?_
    · show upd G3 ff _ nr = _
      rw [show t.length - (i + 1) + 0 = k by omega]
      exact upd_old nff (s3 _ _ hnr)
    · show rowC t _ = rowC t _
      congr 1
      omega
  · rintro σ G ⟨sG, f, rs, x2, nf, hf, hC, rfl⟩
    walk_at "sts"
    exact q f rs G nf sG hf (hC.congr fun k _ => by rw [Nat.sub_self, Nat.zero_add])
end

section
variable {P : Program} {w : World} {K : PySem.W.Frag} {mg : Str → Option Value} {base : Heap}
theorem kz2y : (defScope s_middle).names.lookup ("best" : Str) = some NameKind.local := by decide +kernel
theorem kz2z : (defScope s_middle).names.lookup ("range" : Str) = some NameKind.globalImplicit := by decide +kernel
theorem kz30 : (defScope s_middle).names.lookup ("len" : Str) = some NameKind.globalImplicit := by decide +kernel
theorem kz31 : (defScope s_middle).names.lookup ("one" : Str) = some NameKind.local := by decide +kernel
theorem kz32 : (defScope s_middle).names.lookup ("place" : Str) = some NameKind.local := by decide +kernel
theorem kz33 : (defScope s_middle).names.lookup ("total" : Str) = some NameKind.local := by decide +kernel
theorem kz34 : (defScope s_middle).names.lookup ("least" : Str) = some NameKind.local := by decide +kernel
theorem kz35 : (defScope s_middle).names.lookup ("other" : Str) = some NameKind.local := by decide +kernel
theorem kz36 : (defScope s_middle).names.lookup ("end" : Str) = some NameKind.local := by decide +kernel
theorem kz37 : (defScope s_middle).names.lookup ("begins" : Str) = some NameKind.local := by decide +kernel
theorem kz38 : (defScope s_middle).names.lookup ("begin" : Str) = some NameKind.local := by decide +kernel
theorem kz39 : (defScope s_middle).names.lookup ("opposite" : Str) = some NameKind.globalImplicit := by decide +kernel
theorem kz3a : (defScope s_middle).names.lookup ("need_place" : Str) = some NameKind.globalImplicit := by decide +kernel
theorem kz3b : (defScope s_middle).names.lookup ("need_alike" : Str) = some NameKind.globalImplicit := by decide +kernel
noncomputable def smV (x y : List Nat) (p q m : Nat) : Nat := N (inv x) p m + ctN y m q
noncomputable def Mid (x y : List Nat) (n p q m : Nat) : Prop := m ≤ n ∧ (∀ j, j ≤ n → smV x y p q m ≤ smV x y p q j) ∧ ∀ j, j < m → smV x y p q m < smV x y p q j
noncomputable def ttV (x y : List Nat) (p q m : Nat) : Int := ((N (inv x) p m : Nat) : Int) - (((y.take m).countP fun z => decide (z < q) : Nat) : Int)
theorem tt_sm {x y : List Nat} {p q m : Nat} : (smV x y p q m : Int) = ttV x y p q m + ((y.countP fun z => decide (z < q) : Nat) : Int) := by
  unfold smV ttV ctN
  have : y.countP (fun z => decide (z < q)) = (y.take m).countP (fun z => decide (z < q)) + (y.drop m).countP (fun z => decide (z < q)) := by rw [← List.countP_append, List.take_append_drop]
  omega
theorem tt_step {x y : List Nat} {p q m : Nat} (h1 : m < (inv x).length) (h2 : m < y.length) : ttV x y p q (m + 1) = ttV x y p q m + (if p ≤ (inv x).getD m 0 then 1 else 0) - (if y.getD m 0 < q then 1 else 0) := by
  have e : y.take (m + 1) = y.take m ++ [y.getD m 0] := take_push h2
  unfold ttV
  rw [N_succ h1, e, List.countP_append, List.countP_singleton]
  unfold cN
  have e2 : (if decide (y.getD m 0 < q) = true then 1 else 0) = if y.getD m 0 < q then 1 else (0 : Nat) := by simp
  rw [e2]
  split <;> split <;> omega
theorem tt_0 (x y : List Nat) (p q : Nat) : ttV x y p q 0 = 0 := by unfold ttV; rw [N_zero]; simp
theorem ix_tn {H : Hp} {b : Addr} {y : List Nat} {k : Nat} {j : Int} {Q : VK} (h : Tn H b y) (hk : k < y.length) (hj : j = (k : Int)) (q : Q (.int ((y.getD k 0 : Nat) : Int)) H) : rIx K (.ref b) (.int j) H Q := by
  rcases h with h | h
  · exact r_ixL (SqL.of h) (nI_ix hk hj) q
  · exact r_ixT (SqT.of h) (nI_ix hk hj) q
noncomputable def spMid (K : PySem.W.Frag) : Sp := fun vs H Q _ => ∃ (a b : Addr) (x y : List Nat) (n p q : Nat), vs = [.ref a, .ref b, .int p, .int q] ∧ Tn H a x ∧ Tn H b y ∧ Two n x y ∧ p ≤ n ∧ q ≤ n ∧ ∀ m H', Same H H' → Mid x y n p q m → Q (.int (m : Int)) H'
theorem inB_ok {p n : Nat} (h : p ≤ n) : inB (.int (p : Int)) 0 (n : Int) = true := by unfold inB; simp; omega
theorem sc_middle : FnScope ["one", "other", "begin", "end", "begins", "total", "least", "best", "place"] ["one", "other", "begin", "end"] (defScope s_middle) := ⟨rfl, rfl, rfl, by decide +kernel, rfl, by decide +kernel, by decide +kernel⟩
theorem h_middle (T : Txt K mg) : HasX P w K mg base 6 "middle" ["one", "other", "begin", "end"] (spMid K) := by
  have h_need_alike := h_need_alike (P := P) (w := w) (base := base) T
  have h_need_place := h_need_place (P := P) (w := w) (base := base) T
  have h_opposite := h_opposite (P := P) (w := w) (base := base) T
  refine hasJX T.d_middle sc_middle (fun _ _ _ _ _ _ us hl => L2.usN4 (fun _ _ _ _ => rfl) us hl) ?_ fun f cdv A outer s H vs Q E hr h => ?_
  · rintro vs H Q E ⟨a, b, x, y, n, p, q', rfl, _⟩; rfl
  obtain ⟨a, b, x, y, n, p, q', rfl, ha, hb, h2, hp, hq, q⟩ := h
  have hu := hr.units0
  have hu64 := hr.units
  refine ⟨_, (jb_cons (js_expr (j_callX h_need_alike (hr.mono (by decide)) (glF kz3b) pass_def (ja_cons (j_vL 0 kz31) (ja_cons (j_vL 1 kz35) ja_nil)) (by decide +kernel))) (jb_cons (js_expr (j_callX h_need_place (hr.mono (by decide)) (glF kz3a) pass_def (ja_cons (j_vL 2 kz38) (ja_cons j_int (ja_cons (j_callB (call_lenK (K := K) rfl) (glF kz30) T.b_len bt_len (ja_cons (j_vL 0 kz31) ja_nil) (by decide +kernel) (by decide +kernel)) ja_nil))) (by decide +kernel))) (jb_cons (js_expr (j_callX h_need_place (hr.mono (by decide)) (glF kz3a) pass_def (ja_cons (j_vL 3 kz36) (ja_cons j_int (ja_cons (j_callB (call_lenK (K := K) rfl) (glF kz30) T.b_len bt_len (ja_cons (j_vL 0 kz31) ja_nil) (by decide +kernel) (by decide +kernel)) ja_nil))) (by decide +kernel))) (jb_cons (js_set (i := 4) sc_middle.nd rfl (Or.inl kz37) (j_callX h_opposite (hr.mono (by decide)) (glF kz39) pass_def (ja_cons (j_vL 0 kz31) ja_nil) (by decide +kernel)) rfl) (jb_cons (js_set (i := 5) sc_middle.nd rfl (Or.inl kz33) j_int rfl) (jb_cons (js_set (i := 6) sc_middle.nd rfl (Or.inl kz34) j_int rfl) (jb_cons (js_set (i := 7) sc_middle.nd rfl (Or.inl kz2y) j_int rfl) (jb_cons (js_nox (js_for PassesOwn.never rfl (ji_range1 (glF kz2z) T.b_range (ja_cons (j_callB (call_lenK (K := K) rfl) (glF kz30) T.b_len bt_len (ja_cons (j_vL 0 kz31) ja_nil) (by decide +kernel) (by decide +kernel)) ja_nil)) (jg_name (i := 8) sc_middle.nd rfl (Or.inl kz32) rfl) (jb_cons (js_if (jt_cmp op_ge (j_ix (K := K) rfl (j_vL 4 kz37) (j_vL 8 kz32)) (j_vL 2 kz38) (by first | exact nomark _ | with_unfolding_all rfl)) (jb_one (js_aug (i := 5) sc_middle.nd rfl (Or.inl kz33) j_int iop_add rfl)) jb_nil) (jb_cons (js_if (jt_cmp op_lt (j_ix (K := K) rfl (j_vL 1 kz35) (j_vL 8 kz32)) (j_vL 3 kz36) (by first | exact nomark _ | with_unfolding_all rfl)) (jb_one (js_aug (i := 5) sc_middle.nd rfl (Or.inl kz33) j_int iop_sub rfl)) jb_nil) (jb_one (js_if (jt_cmp op_lt (j_vL 5 kz33) (j_vL 6 kz34) (by first | exact nomark _ | with_unfolding_all rfl)) (jb_cons (js_set (i := 6) sc_middle.nd rfl (Or.inl kz34) (j_vL 5 kz33) rfl) (jb_one (js_set (i := 7) sc_middle.nd rfl (Or.inl kz2y) (j_op op_addA (j_vL 8 kz32) j_int) rfl))) jb_nil)))))) (jb_one (js_ret (j_vL 7 kz2y))))))))))), ?_⟩
  walk_at "sts"
  have hs : 20000 ≤ sizeLine := by decide
  have lx := h2.lx
  have ly := h2.ly
  have hn : n ≤ 96 := by rw [← lx]; exact h2.px.le
  refine ⟨_, _, rfl, .inr ⟨a, b, x, y, rfl, rfl, ha, hb, h2.px, h2.py, by rw [h2.lx, h2.ly], fun H1 S1 => ?_⟩⟩
  walk_at "sts"
  refine len_tn (ha.same S1) ?_
  walk_at "sts"
  rw [lx]
  refine ⟨_, _, _, rfl, .inl ⟨_, rfl⟩, fun _ => ?_, (fun z => by rw [inB_ok hp] at z; cases z)⟩
  walk_at "sts"
  refine len_tn (ha.same S1) ?_
  walk_at "sts"
  rw [lx]
  refine ⟨_, _, _, rfl, .inl ⟨_, rfl⟩, fun _ => ?_, (fun z => by rw [inB_ok hq] at z; cases z)⟩
  walk_at "sts"
  refine ⟨a, x, rfl, ha.same S1, h2.px, fun bg H2 nb S2 hbg => ?_⟩
  walk_at "sts"
  have U2 := S1.trans S2
  refine len_tn (ha.same U2) ?_
  walk_at "sts"
  rw [lx]
  refine ⟨_, rfl, by omega, by omega, ?_⟩
  rw [show ((n : Int)).toNat = n by omega]
  have il : (inv x).length = n := by rw [inv_len, lx]
  refine for_range (n := n) (fun k σ G => G = H2 ∧ ∃ (m : Nat) (x8 : Option V), σ = [some (.ref a), some (.ref b), some (.int (p : Int)), some (.int (q' : Int)), some (.ref bg), some (.int (ttV x y p q' k)), some (.int (ttV x y p q' m)), some (.int (m : Int)), x8] ∧ m ≤ k ∧ (∀ j, j ≤ k → ttV x y p q' m ≤ ttV x y p q' j) ∧ ∀ j, j < m → ttV x y p q' m < ttV x y p q' j)
    ⟨rfl, 0, none, by rw [tt_0]; rfl, Nat.le_refl _, (fun j hj => by obtain rfl : j = 0 := by omega
                                                                     exact Int.le_refl _), fun j hj => by omega⟩ ?_ ?_
  · rintro k σ G hk ⟨rfl, m, x8, rfl, hmk, hle, hlt⟩
    rw [Int.zero_add]
    have est := tt_step (x := x) (y := y) (p := p) (q := q') (m := k) (by omega) (by omega)
    walk_at "stn"
    with_reducible refine r_cut (fun σ G' => G' = G ∧ σ = [some (.ref a), some (.ref b), some (.int (p : Int)), some (.int (q' : Int)), some (.ref bg), some (.int (ttV x y p q' k + if p ≤ (inv x).getD k 0 then 1 else 0)), some (.int (ttV x y p q' m)), some (.int (m : Int)), some (.int (k : Int))]) ?_ ?_
    rotate_left
    · intro N hN
      walk_at "sts"
      refine r_ixL (SqL.of hbg) (nI_ix (k := k) (by omega) rfl) ?_
      walk_at "sts"
      refine iteD (fun h => ?_) (fun h => ?_)
      · walk_at "sts"
        refine hN _ _ ⟨rfl, ?_⟩
        rw [if_pos (by omega)]; rfl
      · walk_at "sts"
        refine hN _ _ ⟨rfl, ?_⟩
        rw [if_neg (by omega), Int.add_zero]; rfl
    rintro σ G' ⟨rfl, rfl⟩
    walk_at "stn"
    with_reducible refine r_cut (fun σ G => G = G' ∧ σ = [some (.ref a), some (.ref b), some (.int (p : Int)), some (.int (q' : Int)), some (.ref bg), some (.int (ttV x y p q' (k + 1))), some (.int (ttV x y p q' m)), some (.int (m : Int)), some (.int (k : Int))]) ?_ ?_
    rotate_left
    · intro N hN
      walk_at "sts"
      refine ix_tn (hb.same U2) (k := k) (by omega) rfl ?_
      walk_at "sts"
      refine iteD (fun h => ?_) (fun h => ?_)
      · walk_at "sts"
        refine hN _ _ ⟨rfl, ?_⟩
        rw [est, if_pos (show y.getD k 0 < q' by omega)]; rfl
      · walk_at "sts"
        refine hN _ _ ⟨rfl, ?_⟩
        rw [est, if_neg (show ¬ y.getD k 0 < q' by omega), Int.sub_zero]
    rintro σ G ⟨rfl, rfl⟩
    walk_at "sts"
    refine iteD (fun h => ?_) (fun h => ?_)
    · walk_at "sts"
      refine ⟨rfl, k + 1, _, rfl, Nat.le_refl _, fun j hj => ?_, fun j hj => ?_⟩
      · by_cases e : j = k + 1
        · rw [e]; exact Int.le_refl _
        · have := hle j (by omega)
          omega
      · have := hle j (by omega)
        omega
    · walk_at "sts"
      refine ⟨rfl, m, _, rfl, by omega, fun j hj => ?_, hlt⟩
      by_cases e : j = k + 1
      · rw [e]; omega
      · exact hle j (by omega)
  · rintro σ G ⟨rfl, m, x8, rfl, hmk, hle, hlt⟩
    walk_at "sts"
    refine q m _ U2 ⟨hmk, fun j hj => ?_, fun j hj => ?_⟩
    · have := hle j hj
      have e1 := tt_sm (x := x) (y := y) (p := p) (q := q') (m := m)
      have e2 := tt_sm (x := x) (y := y) (p := p) (q := q') (m := j)
      omega
    · have := hlt j hj
      have e1 := tt_sm (x := x) (y := y) (p := p) (q := q') (m := m)
      have e2 := tt_sm (x := x) (y := y) (p := p) (q := q') (m := j)
      omega
end

section
variable {P : Program} {w : World} {K : PySem.W.Frag} {mg : Str → Option Value} {base : Heap}
theorem nd_law_middle_0 : (["_law_place", "_law_row", "_law_behind", "_law_end"] : List Str).Nodup := by decide +kernel
theorem nd_law_least_1 : (["_law_column", "_law_row"] : List Str).Nodup := by decide +kernel
theorem nd_law_least_2 : (["_law_here", "_law_there"] : List Str).Nodup := by decide +kernel
theorem nd_law_least_3 : (["_law_place", "_law_behind"] : List Str).Nodup := by decide +kernel
theorem nd_law_least_4 : (["_law_row", "_law_place"] : List Str).Nodup := by decide +kernel
theorem kz3c : (defScope s_law_middle).names.lookup ("_law_sums" : Str) = some NameKind.local := by decide +kernel
theorem kz3d : (defScope s_law_middle).names.lookup ("min" : Str) = some NameKind.globalImplicit := by decide +kernel
theorem kz3e : (defScope s_law_middle).names.lookup ("range" : Str) = some NameKind.globalImplicit := by decide +kernel
theorem kz3f : (defScope s_law_middle).names.lookup ("len" : Str) = some NameKind.globalImplicit := by decide +kernel
theorem kz3g : (defScope s_law_middle).names.lookup ("_law_row" : Str) = some NameKind.cell := by decide +kernel
theorem kz3h : (defScope s_law_least).names.lookup ("_law_found" : Str) = some NameKind.local := by decide +kernel
theorem kz3i : (defScope s_law_least).names.lookup ("_law_ahead" : Str) = some NameKind.local := by decide +kernel
theorem kz3j : (defScope s_law_least).names.lookup ("_law_row" : Str) = some NameKind.cell := by decide +kernel
theorem kz3k : (defScope s_law_least).names.lookup ("_law_columns" : Str) = some NameKind.local := by decide +kernel
theorem kz3l : (defScope s_law_least).names.lookup ("range" : Str) = some NameKind.globalImplicit := by decide +kernel
theorem kz3m : (defScope s_law_least).names.lookup ("len" : Str) = some NameKind.globalImplicit := by decide +kernel
theorem kz3n : (defScope s_law_least).names.lookup ("_law_behind" : Str) = some NameKind.cell := by decide +kernel
theorem Mid.unique {x y : List Nat} {n p q m m' : Nat} (h : Mid x y n p q m) (h' : Mid x y n p q m') : m = m' := by
  obtain ⟨h1, h2, h3⟩ := h
  obtain ⟨g1, g2, g3⟩ := h'
  by_cases e : m < m'
  · have := g3 m e
    have := h2 m' g1
    omega
  · by_cases e' : m' < m
    · have := h3 m' e'
      have := g2 m h1
      omega
    · omega
theorem sm_ct {n : Nat} {x y : List Nat} (h : Two n x y) {p q m : Nat} (hp : p ≤ n) (hm : m ≤ n) : smV x y p q m = ctN x p m + ctN y m q := by
  unfold smV
  rw [ctN_N h.px (by rw [h.lx]; exact hp) (by rw [h.lx]; exact hm)]
noncomputable def smL (x y : List Nat) (n p q : Nat) : List Int := (List.range (n + 1)).map fun m => ((smV x y p q m : Nat) : Int)
theorem idx_mid {x y : List Nat} {n p q : Nat} {M : Int} (hM : M ∈ smL x y n p q) (hle : ∀ a ∈ smL x y n p q, M ≤ a) : Mid x y n p q ((smL x y n p q).idxOf M) := by
  have hl : (smL x y n p q).length = n + 1 := by simp [smL]
  have hi := List.idxOf_lt_length_iff.mpr hM
  have hg : (smL x y n p q)[(smL x y n p q).idxOf M]? = some M := by rw [List.getElem?_eq_getElem hi, List.getElem_idxOf hi]
  have at_ : ∀ j, j ≤ n → (smL x y n p q)[j]? = some ((smV x y p q j : Nat) : Int) := fun j hj => by
    unfold smL
    rw [List.getElem?_map, List.getElem?_range (by omega)]; rfl
  generalize hk : (smL x y n p q).idxOf M = k at hi hg
  rw [hl] at hi
  have hv := at_ k (by omega)
  rw [hg] at hv
  have hv : M = ((smV x y p q k : Nat) : Int) := Option.some.inj hv
  refine ⟨by omega, fun j hj => ?_, fun j hj => ?_⟩
  · have := hle _ (List.mem_of_getElem? (at_ j hj))
    omega
  · have h1 := hle _ (List.mem_of_getElem? (at_ j (by omega)))
    have hne : ((smV x y p q j : Nat) : Int) ≠ M := fun e => by
      have hjl : j < (smL x y n p q).length := by omega
      have h2 := List.not_of_lt_findIdx (p := (· == M)) (xs := smL x y n p q) (i := j) (by show j < (smL x y n p q).idxOf M; omega)
      have h3 := at_ j (by omega)
      rw [List.getElem?_eq_getElem hjl] at h3
      rw [Option.some.inj h3, e] at h2
      simp at h2
    omega
noncomputable def spLMid (K : PySem.W.Frag) : Sp := fun vs H Q _ => ∃ (ra bq : Addr) (bs : List V) (x y : List Nat) (n p q : Nat), vs = [.ref ra, .ref bq, .int q] ∧ H ra = some (.lst ((rowC x p).map V.int)) ∧ H bq = some (.lst bs) ∧ CT H bs (n + 1) (rowC y) ∧ Two n x y ∧ p ≤ n ∧ q ≤ n ∧ ∀ m H', Same H H' → Mid x y n p q m → Q (.int (m : Int)) H'
theorem sc_law_middle : FnScope ["_law_row", "_law_behind", "_law_end", "_law_sums"] ["_law_row", "_law_behind", "_law_end"] (defScope s_law_middle) := ⟨rfl, rfl, rfl, by decide +kernel, rfl, by decide +kernel, by decide +kernel⟩
theorem h_law_middle (T : Txt K mg) : Has P w K mg base 1 "_law_middle" ["_law_row", "_law_behind", "_law_end"] (spLMid K) := by
  refine hasJ T.d_law_middle sc_law_middle (fun _ _ _ _ _ _ us hl => L2.usN3 (fun _ _ _ => rfl) us hl) ?_ fun f cdv A outer s H vs Q E hr h => ?_
  · rintro vs H Q E ⟨ra, bq, bs, x, y, n, p, q', rfl, _⟩; rfl
  obtain ⟨ra, bq, bs, x, y, n, p, q', rfl, hra, hbq, hB, h2, hp, hq, q⟩ := h
  have hu := hr.units0
  have hu64 := hr.units
  refine ⟨_, (jb_cons (js_setC (i := 3) sc_law_middle.nd rfl (Or.inl kz3c) (sub := [none, some 0, some 1, some 2]) (subOk_of (N := ["_law_row", "_law_behind", "_law_end", "_law_sums"]) (sc := defScope s_law_middle) (N' := ["_law_place", "_law_row", "_law_behind", "_law_end"]) (by decide +kernel)) rfl rfl rfl (ji_range1 (glF kz3e) T.b_range (ja_cons (j_callB (call_lenK (K := K) rfl) (glF kz3f) T.b_len bt_len (ja_cons (j_vC 0 kz3g) ja_nil) (by decide +kernel) (by decide +kernel)) ja_nil)) (fun C s₀ H₀ ex => (jg_B 0 (by decide +kernel) nd_law_middle_0)) (fun C s₀ H₀ ex => jif_nil) (fun C s₀ H₀ ex => (j_op op_addA (j_ix (K := K) rfl (j_vBF 1 (by decide +kernel)) (j_vBL 0 (by decide +kernel))) (j_ix (K := K) rfl (j_ix (K := K) rfl (j_vBF 2 (by decide +kernel)) (j_vBL 0 (by decide +kernel))) (j_vBF 3 (by decide +kernel))))) rfl) (jb_one (js_ret (j_meth (K := K) rfl PySem.F.plainAttrs_list PySem.F.slot_list_index PySem.F.type_list_index mt_index (j_vL 3 kz3c) (ja_cons (j_callB (call_minA rfl) (glF kz3d) T.b_min bt_min (ja_cons (j_vL 3 kz3c) ja_nil) (by decide +kernel) (by decide +kernel)) ja_nil))))), ?_⟩
  walk_at "sts"
  have hs : 20000 ≤ sizeLine := by decide
  have lx := h2.lx
  have ly := h2.ly
  have hn : n ≤ 96 := by rw [← lx]; exact h2.px.le
  refine r_lenL (SqL.of hra) ?_
  walk_at "sts"
  rw [List.length_map, rowC_len, lx]
  refine ⟨_, rfl, by omega, by omega, ?_⟩
  rw [show (((n + 1 : Nat) : Int)).toNat = n + 1 by omega]
  refine comp_rngM (n := n + 1) (fun m => .int ((smV x y p q' m : Nat) : Int)) (by omega) ?_ ?_
  · intro m hm
    obtain ⟨rb, eb, hrb⟩ := hB.2 m hm
    rw [Int.zero_add]
    walk_at "sts"
    refine ⟨KeepSt.set rfl, ?_⟩
    walk_at "sts"
    refine r_ixL (SqL.of hra) (v := .int ((ctN x p m : Nat) : Int)) (atI_nat (by rw [List.getElem?_map, rowC_at (by omega)]; rfl)) ?_
    walk_at "sts"
    refine r_ixL (SqL.of hbq) (atI_nat eb) ?_
    walk_at "sts"
    refine r_ixL (SqL.of hrb) (v := .int ((ctN y m q' : Nat) : Int)) (atI_nat (by rw [List.getElem?_map, rowC_at (by omega)]; rfl)) ?_
    walk_at "sts"
    refine ⟨rfl, mapNext ?_⟩
    rw [sm_ct h2 hp (by omega), Int.natCast_add]
  intro D H1 nD S1 hD
  have hDz : H1 D = some (.lst ((smL x y n p q').map V.int)) := by
    rw [hD]
    unfold smL
    rw [List.map_map]; rfl
  have hbd : ∀ v ∈ smL x y n p q', 0 ≤ v ∧ v < 1000 := fun v hv => by
    unfold smL at hv
    obtain ⟨m, hm, rfl⟩ := List.mem_map.mp hv
    have hm := List.mem_range.mp hm
    rw [sm_ct h2 hp (by omega)]
    have c1 : ctN x p m ≤ x.length := by unfold ctN; exact Nat.le_trans List.countP_le_length (by rw [List.length_drop]; omega)
    have c2 : ctN y m q' ≤ y.length := by unfold ctN; exact Nat.le_trans List.countP_le_length (by rw [List.length_drop]; omega)
    omega
  walk_at "sts"
  refine ⟨.inl ⟨rfl, _, SqL.of hDz⟩, ?_⟩
  walk_at "sts"
  refine r_minL hDz (by unfold smL; simp) fun M hM hle => ?_
  walk_at "sts"
  refine r_index hDz (by unfold smL; simp; omega) hbd hM ?_
  exact q _ _ S1 (idx_mid hM hle)
theorem lay_min {n : Nat} {x y : List Nat} (h : Two n x y) {p q : Nat} (hp : p ≤ n) (hq : q ≤ n) {M : Int} (hM : ∃ m, m ≤ n ∧ M = ((ctN x p m + ctN y m q : Nat) : Int)) (hle : ∀ m, m ≤ n → M ≤ ((ctN x p m + ctN y m q : Nat) : Int)) : M = ((ctN (lay x y) p q : Nat) : Int) := by
  obtain ⟨hP, hl, hMp⟩ := h.lay
  obtain ⟨h1, m0, hm0, h2⟩ := hMp p q hp hq
  have e : ∀ m, m ≤ n → N (inv x) p m + N (inv y) m q = ctN x p m + ctN y m q := fun m hm => by
    rw [ctN_N h.px (by rw [h.lx]; exact hp) (by rw [h.lx]; exact hm), ctN_N h.py (by rw [h.ly]; exact hm) (by rw [h.ly]; exact hq)]
  rw [ctN_N hP (by rw [hl]; exact hp) (by rw [hl]; exact hq)]
  obtain ⟨m, hm, rfl⟩ := hM
  have a1 := h1 m hm
  rw [e m hm] at a1
  have a2 := hle m0 hm0
  rw [e m0 hm0] at h2
  omega
noncomputable def colC (y : List Nat) (n q : Nat) : List Int := (List.range (n + 1)).map fun r => ((ctN y r q : Nat) : Int)
theorem CT.putN {H : Hp} {rs : List V} {n : Nat} {f : Nat → List Int} {g : Addr} {o : HO} (h : CT H rs n f) (hn : ∀ r, V.ref r ∈ rs → r ≠ g) : CT (upd H g o) rs n f := ⟨h.1, fun k hk => by
  obtain ⟨b, e, hb⟩ := h.2 k hk
  exact ⟨b, e, by rw [upd_ne (hn b (List.mem_of_getElem? e))]; exact hb⟩⟩
noncomputable def spLst (K : PySem.W.Frag) : Sp := fun vs H Q _ => ∃ (aq bq : Addr) (as bs : List V) (x y : List Nat) (n : Nat), vs = [.ref aq, .ref bq] ∧ H aq = some (.lst as) ∧ CT H as (n + 1) (rowC x) ∧ H bq = some (.lst bs) ∧ CT H bs (n + 1) (rowC y) ∧ Two n x y ∧ ∀ q rs H', Same H H' → H' q = some (.lst rs) → CT H' rs (n + 1) (rowC (lay x y)) → Q (.ref q) H'
theorem sc_law_least : FnScope ["_law_ahead", "_law_behind", "_law_columns", "_law_found", "_law_row"] ["_law_ahead", "_law_behind"] (defScope s_law_least) := ⟨rfl, rfl, rfl, by decide +kernel, rfl, by decide +kernel, by decide +kernel⟩
theorem h_law_least (T : Txt K mg) : Has P w K mg base 1 "_law_least" ["_law_ahead", "_law_behind"] (spLst K) := by
  refine hasJ T.d_law_least sc_law_least (fun _ _ _ _ _ _ us hl => L2.usN2 (fun _ _ => rfl) us hl) ?_ fun f cdv A outer s H vs Q E hr h => ?_
  · rintro vs H Q E ⟨aq, bq, as, bs, x, y, n, rfl, _⟩; rfl
  obtain ⟨aq, bq, as, bs, x, y, n, rfl, haq, hA, hbq, hB, h2, q⟩ := h
  have hu := hr.units0
  have hu64 := hr.units
  refine ⟨_, (jb_cons (js_setC (i := 2) sc_law_least.nd rfl (Or.inl kz3k) (sub := [none, some 1]) (subOk_of (N := ["_law_ahead", "_law_behind", "_law_columns", "_law_found", "_law_row"]) (sc := defScope s_law_least) (N' := ["_law_place", "_law_behind"]) (by decide +kernel)) rfl rfl rfl (ji_range1 (glF kz3l) T.b_range (ja_cons (j_callB (call_lenK (K := K) rfl) (glF kz3m) T.b_len bt_len (ja_cons (j_vC 1 kz3n) ja_nil) (by decide +kernel) (by decide +kernel)) ja_nil)) (fun C s₀ H₀ ex => (jg_BC 0 (by decide +kernel) nd_law_least_3)) (fun C s₀ H₀ ex => jif_nil) (fun C s₀ H₀ ex => (j_comp (sub := [none, some 0]) (subOkR (subOk_of (N := ["_law_place", "_law_behind"]) (N' := ["_law_row", "_law_place"]) (by decide +kernel))) rfl rfl rfl (ji_seq (K := K) rfl (j_vBF 1 (by decide +kernel))) (fun C s₀ H₀ ex => (jg_B 0 (by decide +kernel) nd_law_least_4)) (fun C s₀ H₀ ex => jif_nil) (fun C s₀ H₀ ex => (j_ix (K := K) rfl (j_vBL 0 (by decide +kernel)) (j_vBF 1 (by decide +kernel)))))) rfl) (jb_cons (js_set (i := 3) sc_law_least.nd rfl (Or.inl kz3h) (j_lst ja_nil) rfl) (jb_cons (js_for PassesOwn.never rfl (ji_seq (K := K) rfl (j_vL 0 kz3i)) (jg_name (i := 4) sc_law_least.nd rfl (Or.inr kz3j) rfl) (jb_one (js_expr (j_meth (K := K) rfl PySem.F.plainAttrs_list PySem.F.slot_list_append PySem.F.type_list_append mt_append (j_vL 3 kz3h) (ja_cons (j_comp (sub := [none, some 4]) (subOk_of (N := ["_law_ahead", "_law_behind", "_law_columns", "_law_found", "_law_row"]) (sc := defScope s_law_least) (N' := ["_law_column", "_law_row"]) (by decide +kernel)) rfl rfl rfl (ji_seq (K := K) rfl (j_vL 2 kz3k)) (fun C s₀ H₀ ex => (jg_B 0 (by decide +kernel) nd_law_least_1)) (fun C s₀ H₀ ex => jif_nil) (fun C s₀ H₀ ex => (j_callB (call_minA rfl) (glB (by decide +kernel)) T.b_min bt_min (ja_cons (j_comp (sub := [none, none]) (subOkR (subOk_of (N := ["_law_column", "_law_row"]) (N' := ["_law_here", "_law_there"]) (by decide +kernel))) rfl rfl rfl (ji_zip (K := K) rfl (glB (by decide +kernel)) T.b_zip (ja_cons (j_vBF 1 (by decide +kernel)) (ja_cons (j_vBL 0 (by decide +kernel)) ja_nil))) (fun C s₀ H₀ ex => (jg_tup (K := K) (n := 2) rfl rfl (jgs_cons (jg_B 0 (by decide +kernel) nd_law_least_2) (jgs_cons (jg_B 1 (by decide +kernel) nd_law_least_2) jgs_nil)))) (fun C s₀ H₀ ex => jif_nil) (fun C s₀ H₀ ex => (j_op op_addA (j_vBL 0 (by decide +kernel)) (j_vBL 1 (by decide +kernel))))) ja_nil) (by decide +kernel) (by decide +kernel)))) ja_nil))))) (jb_one (js_ret (j_vL 3 kz3h)))))), ?_⟩
  walk_at "sts"
  have hs : 20000 ≤ sizeLine := by decide
  have lx := h2.lx
  have ly := h2.ly
  have ll := h2.lay.2.1
  have hn : n ≤ 96 := by rw [← lx]; exact h2.px.le
  have hal : as.length = n + 1 := hA.1
  have hbl : bs.length = n + 1 := hB.1
  refine r_lenL (SqL.of hbq) ?_
  walk_at "sts"
  rw [hbl]
  refine ⟨_, rfl, by omega, by omega, ?_⟩
  rw [show (((n + 1 : Nat) : Int)).toNat = n + 1 by omega]
  refine comp_rngG (n := n + 1) (fun i ys G => Same H G ∧ CT G ys i (colC y n)) (by omega) ⟨Same.refl H, rfl, fun k hk => by omega⟩ ?_ ?_ ?_
  · rintro i ys G ⟨_, h⟩
    exact Nat.le_of_eq h.1
  · rintro i ys G hi ⟨s, hC⟩
    rw [Int.zero_add]
    walk_at "sts"
    refine ⟨KeepSt.set rfl, ?_⟩
    walk_at "sts"
    refine .inl ⟨bq, rfl, ⟨_, SqL.of (s _ _ hbq)⟩, ?_⟩
    refine comp_listM (xs := bs) (fun r => .int ((ctN y r i : Nat) : Int)) (by omega) (SqL.of (s _ _ hbq)) ?_ ?_
    · intro r v hv
      have hr : r < n + 1 := by have := (List.getElem?_eq_some_iff.mp hv).1; omega
      obtain ⟨rb, eb, hrb⟩ := hB.2 r hr
      rw [eb] at hv; cases hv
      walk_at "sts"
      refine ⟨KeepSt.set rfl, ?_⟩
      walk_at "sts"
      refine r_ixL (SqL.of (s _ _ hrb)) (v := .int ((ctN y r i : Nat) : Int)) (atI_nat (by rw [List.getElem?_map, rowC_at (by omega)]; rfl)) ?_
      walk_at "sts"
      exact ⟨rfl, mapNext rfl⟩
    · intro D G2 nD s2 hD
      rw [hbl] at hD
      refine ⟨s.trans s2, (hC.same s2).push ?_⟩
      rw [hD]
      unfold colC
      rw [List.map_map]; rfl
  rintro cs G cq H1 ⟨s0, hC⟩ ncq s1 hcq
  have S1 := s0.trans s1
  replace hC := hC.same s1
  have hcl : cs.length = n + 1 := hC.1
  try walk_at "sts"
  refine r_newO rfl fun fd H2 nfd S2 hfd => ?_
  walk_at "sts"
  have U2 := S1.trans S2
  have nfd0 := Same.back S1 nfd
  replace hcq := S2 _ _ hcq
  replace hC := hC.same S2
  refine .inl ⟨aq, rfl, ⟨_, SqL.of (U2 _ _ haq)⟩, ?_⟩
  refine for_list (xs := as) (fun k σ G => Same H1 G ∧ (∃ us, G fd = some (.lst us) ∧ CT G us k (rowC (lay x y)) ∧ ∀ r, V.ref r ∈ us → r ≠ fd) ∧ G cq = some (.lst cs) ∧ CT G cs (n + 1) (colC y n) ∧ ∃ x4, σ = [some (.ref aq), some (.ref bq), some (.ref cq), some (.ref fd), x4])
    ⟨S2, ⟨[], hfd, ⟨rfl, fun k hk => by omega⟩, fun r hr => nomatch hr⟩, hcq, hC, _, rfl⟩ (fun k σ G _ h => SqL.of (h.1 _ _ (S1 _ _ haq))) ?_ ?_
  · rintro p v σ G hv ⟨sG, ⟨us, hfd, hU, hN⟩, hcq, hC, x4, rfl⟩
    have hp : p < n + 1 := by have := (List.getElem?_eq_some_iff.mp hv).1; omega
    obtain ⟨ra, ea, hra⟩ := hA.2 p hp
    rw [ea] at hv; cases hv
    have hraG := sG _ _ (S1 _ _ hra)
    have hul : us.length = p := hU.1
    walk_at "sts"
    refine ⟨.inl ⟨rfl, _, SqL.of hfd⟩, ?_⟩
    walk_at "sts"
    refine .inl ⟨cq, rfl, ⟨_, SqL.of hcq⟩, ?_⟩
    refine comp_listG (xs := cs) (fun i ys G' => Same G G' ∧ ys = ((List.range i).map fun e => ((ctN (lay x y) p e : Nat) : Int)).map V.int) (by omega) ⟨Same.refl G, rfl⟩ ?_ ?_ ?_ ?_
    · rintro i ys G' ⟨_, rfl⟩
      simp
    · rintro i ys G' ⟨s, _⟩
      exact SqL.of (s _ _ hcq)
    · rintro i ys G' v hv ⟨s, rfl⟩
      have hi : i < n + 1 := by have := (List.getElem?_eq_some_iff.mp hv).1; omega
      obtain ⟨rc, ec, hrc⟩ := hC.2 i hi
      rw [ec] at hv; cases hv
      walk_at "sts"
      refine ⟨KeepSt.set rfl, ?_⟩
      walk_at "sts"
      refine ⟨ra, rc, _, _, rfl, SqL.of (s _ _ hraG), SqL.of (s _ _ hrc), ?_⟩
      refine comp_zip (xs := (rowC x p).map V.int) (ys := (colC y n i).map V.int) (fun m zs G2 => Same G' G2 ∧ zs = ((List.range m).map fun m => ((ctN x p m + ctN y m i : Nat) : Int)).map V.int) (by rw [List.length_map, List.length_map, rowC_len, lx]; unfold colC; simp) (by rw [List.length_map, rowC_len]; omega) ⟨Same.refl G', rfl⟩ ?_ ?_ ?_ ?_
      · rintro m zs G2 ⟨_, rfl⟩
        simp
      · rintro m zs G2 ⟨s2, _⟩
        exact ⟨SqL.of (s2 _ _ (s _ _ hraG)), SqL.of (s2 _ _ (s _ _ hrc))⟩
      · rintro m zs G2 T0 u v hu hv ⟨s2, rfl⟩ nT
        have hm : m ≤ n := by
          have := (List.getElem?_eq_some_iff.mp hu).1
          rw [List.length_map, rowC_len, lx] at this; omega
        rw [List.getElem?_map, rowC_at (by omega)] at hu
        obtain rfl : V.int ((ctN x p m : Nat) : Int) = u := by injection hu
        unfold colC at hv
        rw [List.getElem?_map, List.getElem?_map, List.getElem?_range (by omega)] at hv
        obtain rfl : V.int ((ctN y m i : Nat) : Int) = v := by injection hv
        have s3 := s2.upd nT (o := .tup [.int ((ctN x p m : Nat) : Int), .int ((ctN y m i : Nat) : Int)])
        have g3 := upd_same (H := G2) (a := T0) (o := .tup [.int ((ctN x p m : Nat) : Int), .int ((ctN y m i : Nat) : Int)])
        generalize upd G2 T0 (.tup [.int ((ctN x p m : Nat) : Int), .int ((ctN y m i : Nat) : Int)]) = G3 at s3 g3 ⊢
        refine r_gtup (SqT.of g3) rfl ?_
        walk_at "sts"
        refine ⟨KeepSt.trans (KeepSt.set rfl) (KeepSt.set rfl), ?_⟩
        walk_at "sts"
        refine ⟨s3, ?_⟩
        rw [List.range_succ, List.map_append, List.map_append]
        show _ = _ ++ [V.int ((ctN x p m + ctN y m i : Nat) : Int)]
        rw [Int.natCast_add]
      rintro zs G2 D G3 ⟨s2, rfl⟩ nD s3 hD
      rw [List.length_map, rowC_len, lx] at hD
      try walk_at "sts"
      refine r_minL hD (by simp) fun M hM hle => ?_
      walk_at "sts"
      refine ⟨s.trans (s2.trans s3), ?_⟩
      have eM : M = ((ctN (lay x y) p i : Nat) : Int) := by
        refine lay_min h2 (by omega) (by omega) ?_ fun m hm => ?_
        · obtain ⟨m, hm, e⟩ := List.mem_map.mp hM
          exact ⟨m, by have := List.mem_range.mp hm; omega, e.symm⟩
        · exact hle _ (List.mem_map.mpr ⟨m, List.mem_range.mpr (by omega), rfl⟩)
      rw [eM, List.range_succ, List.map_append, List.map_append]; rfl
    rintro ys G1 D G2 ⟨s2, rfl⟩ nD s3 hD
    rw [hcl] at hD
    have hD2 : G2 D = some (.lst ((rowC (lay x y) p).map V.int)) := by
      rw [hD]; unfold rowC; rw [ll]
    have s4 := s2.trans s3
    have hfd2 := s4 _ _ hfd
    try walk_at "sts"
    refine r_append hfd2 (by omega) ?_
    walk_at "sts"
    have nDf : D ≠ fd := fun z => by rw [z, s2 _ _ hfd] at nD; cases nD
    have hcf : cq ≠ fd := fun z => by
      rw [z] at hcq
      rw [hcq] at hfd
      have e : cs = us := by injection hfd with hfd; injection hfd
      obtain ⟨c0, ec0, _⟩ := hC.2 0 (by omega)
      rw [e] at ec0
      obtain ⟨a0, ea0, _⟩ := hU.2 0 (by have := (List.getElem?_eq_some_iff.mp ec0).1; omega)
      have : us.length = n + 1 := by rw [← e]; exact hcl
      omega
    have nCf : ∀ r, V.ref r ∈ cs → r ≠ fd := fun r hr z => by
      obtain ⟨k, hk, ek⟩ := List.mem_iff_getElem.mp hr
      obtain ⟨c, ec, hc⟩ := hC.2 k (by omega)
      rw [List.getElem?_eq_getElem hk, ek] at ec
      cases ec
      rw [z, hfd] at hc
      have e : us = (colC y n k).map V.int := by injection hc with hc; injection hc
      have hl : us.length = n + 1 := by rw [e, List.length_map]; unfold colC; simp
      omega
    refine ⟨Same.put (sG.trans s4) nfd, ⟨_, upd_same, ((hU.same s4).push hD2).putN fun r hr => ?_, fun r hr => ?_⟩, by rw [upd_ne hcf]; exact s4 _ _ hcq, (hC.same s4).putN nCf, _, rfl⟩
    · rcases List.mem_append.mp hr with h | h
      · exact hN r h
      · simp only [List.mem_cons, List.mem_nil_iff, or_false] at h
        cases h; exact nDf
    · rcases List.mem_append.mp hr with h | h
      · exact hN r h
      · simp only [List.mem_cons, List.mem_nil_iff, or_false] at h
        cases h; exact nDf
  · rintro σ G ⟨sG, ⟨us, hfd, hU, hN⟩, hcq, hC, x4, rfl⟩
    walk_at "sts"
    rw [hal] at hU
    exact q fd us G (S1.trans sG) hfd hU
end

section
variable {P : Program} {w : World} {K : PySem.W.Frag} {mg : Str → Option Value} {base : Heap}
theorem nd_law_middles_0 : (["_law_cell_here", "_law_many_here"] : List Str).Nodup := by decide +kernel
theorem kz3o : (defScope s_law_drawn).names.lookup ("_law_turning" : Str) = some NameKind.globalImplicit := by decide +kernel
theorem kz3p : (defScope s_law_drawn).names.lookup ("_law_many_here" : Str) = some NameKind.local := by decide +kernel
theorem kz3q : (defScope s_law_drawn).names.lookup ("_law_cell_here" : Str) = some NameKind.local := by decide +kernel
theorem kz3r : (defScope s_law_drawn).names.lookup ("_law_way" : Str) = some NameKind.local := by decide +kernel
theorem kz3s : (defScope s_law_drawn).names.lookup ("list" : Str) = some NameKind.globalImplicit := by decide +kernel
theorem kz3t : (defScope s_law_drawn).names.lookup ("range" : Str) = some NameKind.globalImplicit := by decide +kernel
theorem kz3u : (defScope s_law_drawn).names.lookup ("_law_mix" : Str) = some NameKind.globalImplicit := by decide +kernel
theorem kz3v : (defScope s_law_middles).names.lookup ("_law_places" : Str) = some NameKind.local := by decide +kernel
theorem kz3w : (defScope s_law_middles).names.lookup ("_law_begin" : Str) = some NameKind.local := by decide +kernel
theorem kz3x : (defScope s_law_middles).names.lookup ("_law_end" : Str) = some NameKind.local := by decide +kernel
theorem kz3y : (defScope s_law_middles).names.lookup ("_law_found" : Str) = some NameKind.local := by decide +kernel
theorem kz3z : (defScope s_law_middles).names.lookup ("_law_middle" : Str) = some NameKind.globalImplicit := by decide +kernel
theorem kz40 : (defScope s_law_middles).names.lookup ("_law_behind" : Str) = some NameKind.local := by decide +kernel
theorem kz41 : (defScope s_law_middles).names.lookup ("_law_ahead" : Str) = some NameKind.local := by decide +kernel
theorem kz42 : (defScope s_law_middles).names.lookup ("_law_whole" : Str) = some NameKind.globalImplicit := by decide +kernel
theorem kz43 : (defScope s_law_middles).names.lookup ("middle" : Str) = some NameKind.globalImplicit := by decide +kernel
theorem kz44 : (defScope s_law_middles).names.lookup ("tuple" : Str) = some NameKind.globalImplicit := by decide +kernel
theorem kz45 : (defScope s_law_middles).names.lookup ("_law_other" : Str) = some NameKind.local := by decide +kernel
theorem kz46 : (defScope s_law_middles).names.lookup ("_law_one" : Str) = some NameKind.local := by decide +kernel
theorem kz47 : (defScope s_law_middles).names.lookup ("_law_many_here" : Str) = some NameKind.cell := by decide +kernel
theorem kz48 : (defScope s_law_middles).names.lookup ("_law_cells" : Str) = some NameKind.local := by decide +kernel
theorem kz49 : (defScope s_law_middles).names.lookup ("_law_tables" : Str) = some NameKind.local := by decide +kernel
theorem kz4a : (defScope s_law_middles).names.lookup ("len" : Str) = some NameKind.globalImplicit := by decide +kernel
theorem prm_down {n : Nat} (h : n ≤ 96) : Prm ((List.range n).map fun i => n - 1 - i) := by
  have e : (List.range n).map (fun i => n - 1 - i) = (List.range n).reverse := by
    refine List.ext_getElem? fun i => ?_
    by_cases hi : i < n
    · rw [List.getElem?_map, List.getElem?_range hi, List.getElem?_reverse (by simpa using hi), List.length_range, List.getElem?_range (by omega)]; rfl
    · rw [List.getElem?_eq_none (by simp; omega), List.getElem?_eq_none (by simp; omega)]
  rw [e]
  refine ⟨by simpa using h, ?_⟩
  rw [List.length_reverse, List.length_range]
  exact List.reverse_perm _
noncomputable def spDrn (K : PySem.W.Frag) : Sp := fun vs H Q _ => ∃ (n : Int) (m : Nat), vs = [.int n, .int m] ∧ m ≤ 96 ∧ ∀ (q : Addr) (t : List Nat) (H' : Hp), H q = none → Same H H' → H' q = some (.lst ((nI t).map V.int)) → Prm t → t.length = m → Q (.ref q) H'
theorem sc_law_drawn : FnScope ["_law_cell_here", "_law_many_here", "_law_way"] ["_law_cell_here", "_law_many_here"] (defScope s_law_drawn) := ⟨rfl, rfl, rfl, by decide +kernel, rfl, by decide +kernel, by decide +kernel⟩
theorem h_law_drawn (T : Txt K mg) : Has P w K mg base 4 "_law_drawn" ["_law_cell_here", "_law_many_here"] (spDrn K) := by
  have h_law_mix := h_law_mix (P := P) (w := w) (base := base) T
  have h_law_turning := h_law_turning (P := P) (w := w) (base := base) T
  refine hasJ T.d_law_drawn sc_law_drawn (fun _ _ _ _ _ _ us hl => L2.usN2 (fun _ _ => rfl) us hl) ?_ fun f cdv A outer s H vs Q E hr h => ?_
  · rintro vs H Q E ⟨n, m, rfl, _⟩; rfl
  obtain ⟨n, m, rfl, hm, q⟩ := h
  have hu := hr.units0
  have hu64 := hr.units
  refine ⟨_, (jb_cons (js_set (i := 2) sc_law_drawn.nd rfl (Or.inl kz3r) (j_op op_mod (j_call h_law_mix (hr.mono (by decide)) (glF kz3u) (ja_cons (j_vL 0 kz3q) (ja_cons j_int ja_nil)) (by decide +kernel)) j_int) rfl) (jb_cons (js_if (jt_cmp (op_eqE (K := K) rfl hu64) (j_vL 2 kz3r) j_int (by first | exact nomark _ | with_unfolding_all rfl)) (jb_one (js_ret (j_listRng1 rfl (glF kz3s) T.b_list (glF kz3t) T.b_range (ja_cons (j_vL 1 kz3p) ja_nil)))) jb_nil) (jb_cons (js_if (jt_cmp (op_eqE (K := K) rfl hu64) (j_vL 2 kz3r) j_int (by first | exact nomark _ | with_unfolding_all rfl)) (jb_one (js_ret (j_listRng3 rfl (glF kz3s) T.b_list (glF kz3t) T.b_range (ja_cons (j_op op_sub (j_vL 1 kz3p) j_int) (ja_cons (j_un un_neg j_int) (ja_cons (j_un un_neg j_int) ja_nil)))))) jb_nil) (jb_one (js_ret (j_call h_law_turning (hr.mono (by decide)) (glF kz3o) (ja_cons (j_vL 0 kz3q) (ja_cons (j_vL 1 kz3p) ja_nil)) (by decide +kernel))))))), ?_⟩
  walk_at "sts"
  refine ⟨n, 80, rfl, fun r _ _ => ?_⟩
  walk_at "sts"
  refine iteD (fun h => ?_) (fun h => ?_)
  · walk_at "sts"
    refine r_rng1L (n := m) (by omega) ?_
    walk_at "sts"
    intro rg nrg
    rw [rng_nI]
    exact q rg _ _ nrg ((Same.refl H).upd nrg) upd_same (prm_range hm) (by simp)
  walk_at "sts"
  refine iteD (fun h => ?_) (fun h => ?_)
  · walk_at "sts"
    refine ⟨(m : Int) - 1, -1, -1, m, rfl, by decide, PyProof.noPylong_small (by decide), small_down (by omega) (by omega), size_down, by omega, ?_⟩
    intro rg nrg
    have e : (List.range m).map (fun i : Nat => V.int ((m : Int) - 1 + (i : Int) * -1)) = (nI ((List.range m).map fun i => m - 1 - i)).map V.int := by
      unfold nI
      rw [List.map_map, List.map_map]
      refine List.map_congr_left fun i hi => ?_
      have := List.mem_range.mp hi
      show V.int _ = V.int (((m - 1 - i : Nat)) : Int)
      congr 1
      omega
    rw [e]
    exact q rg _ _ nrg ((Same.refl H).upd nrg) upd_same (prm_down hm) (by simp)
  walk_at "sts"
  exact ⟨n, m, rfl, hm, q⟩
noncomputable def Pls (H : Hp) (p : Addr) (n : Nat) : Prop := ∃ ps : List Nat, H p = some (.lst ((nI ps).map V.int)) ∧ (∀ k ∈ ps, k ≤ n) ∧ ps.length ≤ 70
theorem Two.sw {n : Nat} {x y : List Nat} (h : Two n x y) : Two n y x := ⟨h.py, h.px, h.ly, h.lx⟩
noncomputable def spMds (K : PySem.W.Frag) : Sp := fun vs H Q _ => ∃ (a b tq cq aq bq : Addr) (as bs : List V) (cs : List Int) (x y : List Nat) (n : Nat), vs = [.ref a, .ref b, .ref tq, .ref cq] ∧ H a = some (.lst ((nI x).map V.int)) ∧ H b = some (.lst ((nI y).map V.int)) ∧ Two n x y ∧
  H tq = some (.lst [.ref aq, .ref bq]) ∧ H aq = some (.lst as) ∧ CT H as (n + 1) (rowC x) ∧ H bq = some (.lst bs) ∧ CT H bs (n + 1) (rowC y) ∧ H cq = some (.lst (cs.map V.int)) ∧ cs.length ≤ 60 ∧ ∀ H', Same H H' → Q (.bl true) H'
theorem nI_app (s t : List Nat) : nI (s ++ t) = nI s ++ nI t := by unfold nI; rw [List.map_append]
theorem cut_nI {ps : List Nat} {lo hi : Option Int} : ∃ qs : List Nat, cutV ((nI ps).map V.int) lo hi = (nI qs).map V.int ∧ (∀ k ∈ qs, k ∈ ps) ∧ qs.length ≤ ps.length := by
  unfold cutV nI
  refine ⟨(ps.drop (HT.sIx ((ps.map fun i : Nat => (i : Int)).map V.int).length 0 lo)).take (HT.sIx ((ps.map fun i : Nat => (i : Int)).map V.int).length ((ps.map fun i : Nat => (i : Int)).map V.int).length hi - HT.sIx ((ps.map fun i : Nat => (i : Int)).map V.int).length 0 lo), ?_, fun k hk => List.mem_of_mem_drop (List.mem_of_mem_take hk), ?_⟩
  · simp only [List.map_take, List.map_drop]
  · rw [List.length_take, List.length_drop]; omega
theorem sc_law_middles : FnScope ["_law_one", "_law_other", "_law_tables", "_law_cells", "_law_many_here", "_law_ahead", "_law_behind", "_law_places", "_law_begin", "_law_end", "_law_found"] ["_law_one", "_law_other", "_law_tables", "_law_cells"] (defScope s_law_middles) := ⟨rfl, rfl, rfl, by decide +kernel, rfl, by decide +kernel, by decide +kernel⟩
theorem h_law_middles (T : Txt K mg) : Has P w K mg base 7 "_law_middles" ["_law_one", "_law_other", "_law_tables", "_law_cells"] (spMds K) := by
  have h_middle := h_middle (P := P) (w := w) (base := base) T
  have h_law_whole := h_law_whole (P := P) (w := w) (base := base) T
  have h_law_middle := h_law_middle (P := P) (w := w) (base := base) T
  refine hasJ T.d_law_middles sc_law_middles (fun _ _ _ _ _ _ us hl => L2.usN4 (fun _ _ _ _ => rfl) us hl) ?_ fun f cdv A outer s H vs Q E hr h => ?_
  · rintro vs H Q E ⟨a, b, tq, cq, aq, bq, as, bs, cs, x, y, n, rfl, _⟩; rfl
  obtain ⟨a, b, tq, cq, aq, bq, as, bs, cs, x, y, n, rfl, ha, hb, h2, htq, haq, hA, hbq, hB, hcq, hcl, q⟩ := h
  have hu := hr.units0
  have hu64 := hr.units
  refine ⟨_, (jb_cons (js_set (i := 4) sc_law_middles.nd rfl (Or.inr kz47) (j_callB (call_lenK (K := K) rfl) (glF kz4a) T.b_len bt_len (ja_cons (j_vL 0 kz46) ja_nil) (by decide +kernel) (by decide +kernel)) rfl) (jb_cons (js_asgT (j_vL 2 kz49) (jg_seqT (K := K) rfl rfl (jgs_cons (jg_name (i := 5) sc_law_middles.nd rfl (Or.inl kz41) rfl) (jgs_cons (jg_name (i := 6) sc_law_middles.nd rfl (Or.inl kz40) rfl) jgs_nil)))) (jb_cons (js_set (i := 7) sc_law_middles.nd rfl (Or.inl kz3v) (j_op op_addA (j_lst (ja_cons j_int (ja_cons (j_vC 4 kz47) ja_nil))) (j_comp (sub := [none, some 4]) (subOk_of (N := ["_law_one", "_law_other", "_law_tables", "_law_cells", "_law_many_here", "_law_ahead", "_law_behind", "_law_places", "_law_begin", "_law_end", "_law_found"]) (sc := defScope s_law_middles) (N' := ["_law_cell_here", "_law_many_here"]) (by decide +kernel)) rfl rfl rfl (ji_seq (K := K) rfl (j_vL 3 kz48)) (fun C s₀ H₀ ex => (jg_B 0 (by decide +kernel) nd_law_middles_0)) (fun C s₀ H₀ ex => jif_nil) (fun C s₀ H₀ ex => (j_op op_mod (j_vBL 0 (by decide +kernel)) (j_op op_addA (j_vBF 1 (by decide +kernel)) j_int))))) rfl) (jb_cons (js_if (jt_cmp op_gt (j_vC 4 kz47) j_int (by first | exact nomark _ | with_unfolding_all rfl)) (jb_one (js_set (i := 7) sc_law_middles.nd rfl (Or.inl kz3v) (j_slice (sl_seqK (K := K) rfl) (j_vL 7 kz3v) (jo_some j_int) (jo_some j_int)) rfl)) jb_nil) (jb_cons (js_for PassesOwn.never rfl (ji_seq (K := K) rfl (j_vL 7 kz3v)) (jg_name (i := 8) sc_law_middles.nd rfl (Or.inl kz3w) rfl) (jb_one (js_for PassesOwn.never rfl (ji_seq (K := K) rfl (j_slice3L (K := K) rfl (j_vL 7 kz3v) jo_none jo_none (jo_some (j_un un_neg j_int)))) (jg_name (i := 9) sc_law_middles.nd rfl (Or.inl kz3x) rfl) (jb_cons (js_set (i := 10) sc_law_middles.nd rfl (Or.inl kz3y) (j_callX h_middle (hr.mono (by decide)) (glF kz43) (passN fun _ _ => rfl) (ja_cons (j_ix (K := K) rfl (j_lst (ja_cons (j_vL 0 kz46) (ja_cons (j_callTy (call_tupleK (K := K) rfl rfl) (glF kz44) T.b_tuple bt_tuple (ja_cons (j_vL 0 kz46) ja_nil) (by decide +kernel) (by decide +kernel)) ja_nil))) (j_op op_mod (j_vL 8 kz3w) j_int)) (ja_cons (j_ix (K := K) rfl (j_lst (ja_cons (j_vL 1 kz45) (ja_cons (j_callTy (call_tupleK (K := K) rfl rfl) (glF kz44) T.b_tuple bt_tuple (ja_cons (j_vL 1 kz45) ja_nil) (by decide +kernel) (by decide +kernel)) ja_nil))) (j_op op_mod (j_vL 9 kz3x) j_int)) (ja_cons (j_vL 8 kz3w) (ja_cons (j_vL 9 kz3x) ja_nil)))) (by decide +kernel)) rfl) (jb_one (js_if (jw_pt (jw_or (jt_not (jt_val (j_call h_law_whole (hr.mono (by decide)) (glF kz42) (ja_cons (j_vL 10 kz3y) ja_nil) (by decide +kernel)))) (jw_or1 (jt_cmp (op_neF (K := K) rfl hu64) (j_vL 10 kz3y) (j_call h_law_middle (hr.mono (by decide)) (glF kz3z) (ja_cons (j_ix (K := K) rfl (j_vL 5 kz41) (j_vL 8 kz3w)) (ja_cons (j_vL 6 kz40) (ja_cons (j_vL 9 kz3x) ja_nil))) (by decide +kernel)) (by first | exact nomark _ | with_unfolding_all rfl))))) (jb_one (js_ret j_bl)) jb_nil)))))) (jb_one (js_ret j_bl))))))), ?_⟩
  walk_at "sts"
  have hs : 20000 ≤ sizeLine := by decide
  have lx := h2.lx
  have ly := h2.ly
  have hn : n ≤ 96 := by rw [← lx]; exact h2.px.le
  refine r_lenL (SqL.of ha) ?_
  walk_at "sts"
  rw [nI_len, lx]
  walk_at "sts"
  refine r_gseqL (xs := [.ref aq, .ref bq]) (SqL.of htq) rfl ?_
  walk_at "sts"
  refine r_newO rfl fun p0 H1 n0 S1 hp0 => ?_
  walk_at "sts"
  replace hp0 : H1 p0 = some (.lst ((nI [0, n]).map V.int)) := hp0
  refine .inl ⟨cq, rfl, ⟨_, SqL.of (S1 _ _ hcq)⟩, ?_⟩
  refine comp_listG (xs := cs.map V.int) (fun i ys G => G = H1 ∧ ∃ ps : List Nat, ys = (nI ps).map V.int ∧ ps.length = i ∧ ∀ k ∈ ps, k ≤ n) (by rw [List.length_map]; omega) ⟨rfl, [], rfl, rfl, fun k hk => nomatch hk⟩ ?_ ?_ ?_ ?_
  · rintro i ys G ⟨_, ps, rfl, h, _⟩
    rw [nI_len]; omega
  · rintro i ys G ⟨rfl, _⟩
    exact SqL.of (S1 _ _ hcq)
  · rintro i ys G v hv ⟨rfl, ps, rfl, hl, hps⟩
    obtain ⟨c, _, rfl⟩ := List.mem_map.mp (List.mem_of_getElem? hv)
    walk_at "sts"
    refine ⟨KeepSt.set rfl, ?_⟩
    walk_at "sts"
    obtain ⟨k, ek, hk⟩ : ∃ k : Nat, c % ((n : Int) + 1) = (k : Int) ∧ k ≤ n := ⟨(c % ((n : Int) + 1)).toNat, by have := Int.emod_nonneg c (show (n : Int) + 1 ≠ 0 by omega); omega, by have := Int.emod_lt_of_pos c (show 0 < (n : Int) + 1 by omega); omega⟩
    rw [ek]
    refine ⟨rfl, ps ++ [k], nI_push _ _, by simp; omega, fun j hj => ?_⟩
    rcases List.mem_append.mp hj with h | h
    · exact hps j h
    · rw [List.mem_singleton.mp h]; exact hk
  rintro ys G D H2 ⟨rfl, ps, rfl, hpl, hps⟩ nD S2 hD
  rw [List.length_map] at hpl
  try walk_at "stn"
  refine r_addL (S2 _ _ hp0) hD (by rw [nI_len, nI_len]; simp; omega) fun p3 n3 => ?_
  rw [show (nI [0, n]).map V.int ++ (nI ps).map V.int = (nI ([0, n] ++ ps)).map V.int by rw [nI_app, List.map_append]]
  have S3 := (S1.trans S2).upd n3 (o := .lst ((nI ([0, n] ++ ps)).map V.int))
  have hp3 := upd_same (H := H2) (a := p3) (o := .lst ((nI ([0, n] ++ ps)).map V.int))
  generalize upd H2 p3 (.lst ((nI ([0, n] ++ ps)).map V.int)) = H3 at S3 hp3 ⊢
  walk_at "stn"
  with_reducible refine r_cut (fun σ G => Same H G ∧ ∃ pq, Pls G pq n ∧ σ = [some (.ref a), some (.ref b), some (.ref tq), some (.ref cq), some (.int (n : Int)), some (.ref aq), some (.ref bq), some (.ref pq), none, none, none]) ?_ ?_
  rotate_left
  · intro N hN
    have hP3 : ∀ k ∈ [0, n] ++ ps, k ≤ n := fun k hk => by
      rcases List.mem_append.mp hk with h | h
      · simp at h; omega
      · exact hps k h
    walk_at "sts"
    refine iteD (fun h => ?_) (fun h => ?_)
    · walk_at "sts"
      refine r_slL (SqL.of hp3) fun sl nsl => ?_
      walk_at "sts"
      obtain ⟨qs, eq, hq, hql⟩ := cut_nI (ps := [0, n] ++ ps) (lo := some 1) (hi := some 3)
      rw [eq]
      exact hN _ _ ⟨S3.upd nsl, sl, ⟨qs, upd_same, fun k hk => hP3 k (hq k hk), by simp at hql; omega⟩, rfl⟩
    · walk_at "sts"
      exact hN _ _ ⟨S3, p3, ⟨_, hp3, hP3, by simp; omega⟩, rfl⟩
  clear S1 S2 S3 hp0 hD hp3 hps hpl
  rintro σ H4 ⟨S4, pq, ⟨qs, hpq, hqs, hql⟩, rfl⟩
  walk_at "stn"
  with_reducible refine r_seq ?_
  walk_at "stn"
  refine .inl ⟨pq, rfl, ⟨_, SqL.of hpq⟩, ?_⟩
  refine for_list (xs := (nI qs).map V.int) (fun i σ G => Same H4 G ∧ ∃ x8 x9 x10, σ = [some (.ref a), some (.ref b), some (.ref tq), some (.ref cq), some (.int (n : Int)), some (.ref aq), some (.ref bq), some (.ref pq), x8, x9, x10]) ⟨Same.refl H4, _, _, _, rfl⟩ (fun i σ G _ h => SqL.of (h.1 _ _ hpq)) ?_ ?_
  · rintro i v σ G hv ⟨sG, x8, x9, x10, rfl⟩
    obtain ⟨p, hp, rfl⟩ := nI_of hv
    have hpn := hqs p (List.mem_of_getElem? hp)
    walk_at "sts"
    refine ⟨pq, (nI qs).map V.int, -1, rfl, rfl, by decide, SqL.of (sG _ _ hpq), by rw [pick_rev, List.length_reverse, nI_len]; omega, fun ra nra => ?_⟩
    rw [pick_rev]
    have s1 := sG.upd nra (o := .lst ((nI qs).map V.int).reverse)
    have hra := upd_same (H := G) (a := ra) (o := .lst ((nI qs).map V.int).reverse)
    generalize upd G ra (.lst ((nI qs).map V.int).reverse) = G1 at s1 hra ⊢
    walk_at "sts"
    refine .inl ⟨ra, rfl, ⟨_, SqL.of hra⟩, ?_⟩
    refine for_list (xs := ((nI qs).map V.int).reverse) (fun j σ G' => Same G1 G' ∧ ∃ x9 x10, σ = [some (.ref a), some (.ref b), some (.ref tq), some (.ref cq), some (.int (n : Int)), some (.ref aq), some (.ref bq), some (.ref pq), some (.int (p : Int)), x9, x10]) ⟨Same.refl G1, _, _, rfl⟩ (fun j σ G' _ h => SqL.of (h.1 _ _ hra)) ?_ ?_
    · rintro j v σ G2 hv ⟨s2, y9, y10, rfl⟩
      obtain ⟨q0, hq0, rfl⟩ : ∃ q0 : Nat, q0 ∈ qs ∧ v = .int (q0 : Int) := by
        have hm := List.mem_reverse.mp (List.mem_of_getElem? hv)
        obtain ⟨z, hz, rfl⟩ := List.mem_map.mp hm
        unfold nI at hz
        obtain ⟨k, hk, rfl⟩ := List.mem_map.mp hz
        exact ⟨k, hk, rfl⟩
      have hqn := hqs q0 hq0
      have U := S4.trans (s1.trans s2)
      walk_at "sts"
      refine .inl ⟨a, _, rfl, .inl ⟨SqL.of (U _ _ ha), fun t1 nt1 => ?_⟩⟩
      have s3 := (Same.refl G2).upd nt1 (o := .tup ((nI x).map V.int))
      have ht1 := upd_same (H := G2) (a := t1) (o := .tup ((nI x).map V.int))
      generalize upd G2 t1 (.tup ((nI x).map V.int)) = G3 at s3 ht1 ⊢
      walk_at "sts"
      refine r_newO rfl fun l1 G4 nl1 s4 hl1 => ?_
      walk_at "sts"
      obtain ⟨v1, e1, hv1⟩ : ∃ v1, atI [V.ref a, V.ref t1] ((p : Int) % 2) = some (.ref v1) ∧ Tn G4 v1 x := by
        obtain h | h : (p : Int) % 2 = 0 ∨ (p : Int) % 2 = 1 := by omega
        · rw [h]; exact ⟨a, rfl, .inl (s4 _ _ (s3 _ _ (U _ _ ha)))⟩
        · rw [h]; exact ⟨t1, rfl, .inr (s4 _ _ ht1)⟩
      refine r_ixL (SqL.of hl1) e1 ?_
      walk_at "sts"
      have U4 := U.trans (s3.trans s4)
      refine .inl ⟨b, _, rfl, .inl ⟨SqL.of (U4 _ _ hb), fun t2 nt2 => ?_⟩⟩
      have s5 := (Same.refl G4).upd nt2 (o := .tup ((nI y).map V.int))
      have ht2 := upd_same (H := G4) (a := t2) (o := .tup ((nI y).map V.int))
      generalize upd G4 t2 (.tup ((nI y).map V.int)) = G5 at s5 ht2 ⊢
      walk_at "sts"
      refine r_newO rfl fun l2 G6 nl2 s6 hl2 => ?_
      walk_at "sts"
      obtain ⟨v2, e2, hv2⟩ : ∃ v2, atI [V.ref b, V.ref t2] ((q0 : Int) % 2) = some (.ref v2) ∧ Tn G6 v2 y := by
        obtain h | h : (q0 : Int) % 2 = 0 ∨ (q0 : Int) % 2 = 1 := by omega
        · rw [h]; exact ⟨b, rfl, .inl (s6 _ _ (s5 _ _ (U4 _ _ hb)))⟩
        · rw [h]; exact ⟨t2, rfl, .inr (s6 _ _ ht2)⟩
      refine r_ixL (SqL.of hl2) e2 ?_
      walk_at "sts"
      have s46 := s5.trans s6
      refine ⟨v1, v2, x, y, n, p, q0, rfl, hv1.same s46, hv2, h2, hpn, hqn, fun m G7 s7 hm => ?_⟩
      walk_at "sts"
      refine ⟨_, rfl, ?_⟩
      walk_at "sts"
      have U7 := U4.trans (s46.trans s7)
      obtain ⟨rp, ep, hrp⟩ := hA.2 p (by omega)
      refine r_ixL (SqL.of (U7 _ _ haq)) (atI_nat ep) ?_
      walk_at "sts"
      refine ⟨rp, bq, bs, x, y, n, p, q0, rfl, U7 _ _ hrp, U7 _ _ hbq, hB.same U7, h2, hpn, hqn, fun m' G8 s8 hm' => ?_⟩
      walk_at "sts"
      rw [Mid.unique hm' hm, decide_eq_true rfl]
      walk_at "sts"
      exact ⟨s2.trans (s3.trans (s4.trans (s46.trans (s7.trans s8)))), _, _, rfl⟩
    · rintro σ G2 ⟨s2, y9, y10, rfl⟩
      exact ⟨s1.trans s2, _, _, _, rfl⟩
  · rintro σ G ⟨sG, x8, x9, x10, rfl⟩
    walk_at "sts"
    exact q _ (S4.trans sG)
end

section
variable {P : Program} {w : World} {K : PySem.W.Frag} {mg : Str → Option Value} {base : Heap}
theorem nd_law_right_0 : (["_law_goal"] : List Str).Nodup := by decide +kernel
theorem kz4b : (defScope s_law_right).names.lookup ("_law_other" : Str) = some NameKind.local := by decide +kernel
theorem kz4c : (defScope s_law_right).names.lookup ("_law_one" : Str) = some NameKind.local := by decide +kernel
theorem kz4d : (defScope s_law_right).names.lookup ("_law_kept" : Str) = some NameKind.local := by decide +kernel
theorem kz4e : (defScope s_law_right).names.lookup ("_law_middles" : Str) = some NameKind.globalImplicit := by decide +kernel
theorem kz4f : (defScope s_law_right).names.lookup ("_law_cells" : Str) = some NameKind.local := by decide +kernel
theorem kz4g : (defScope s_law_right).names.lookup ("_law_tables" : Str) = some NameKind.local := by decide +kernel
theorem kz4h : (defScope s_law_right).names.lookup ("_law_list" : Str) = some NameKind.globalImplicit := by decide +kernel
theorem kz4i : (defScope s_law_right).names.lookup ("_law_due" : Str) = some NameKind.local := by decide +kernel
theorem kz4j : (defScope s_law_right).names.lookup ("laid" : Str) = some NameKind.globalImplicit := by decide +kernel
theorem kz4k : (defScope s_law_right).names.lookup ("tuple" : Str) = some NameKind.globalImplicit := by decide +kernel
theorem kz4l : (defScope s_law_right).names.lookup ("_law_found" : Str) = some NameKind.local := by decide +kernel
theorem kz4m : (defScope s_law_right).names.lookup ("list" : Str) = some NameKind.globalImplicit := by decide +kernel
theorem kz4n : (defScope s_law_right).names.lookup ("_law_counts" : Str) = some NameKind.globalImplicit := by decide +kernel
theorem kz4o : (defScope s_law_right).names.lookup ("_law_least" : Str) = some NameKind.globalImplicit := by decide +kernel
theorem kz4p : (defScope s_law_right).names.lookup ("sorted" : Str) = some NameKind.globalImplicit := by decide +kernel
theorem kz4q : (defScope s_law_right).names.lookup ("range" : Str) = some NameKind.globalImplicit := by decide +kernel
theorem kz4r : (defScope s_law_right).names.lookup ("len" : Str) = some NameKind.globalImplicit := by decide +kernel
theorem kz4s : (defScope s_law_right).names.lookup ("isinstance" : Str) = some NameKind.globalImplicit := by decide +kernel
theorem DRs_get {H : Hp} : ∀ (ds : List PyData) (vs : List V), ds.length = vs.length → (∀ (k : Nat) (d : PyData) (v : V), ds[k]? = some d → vs[k]? = some v → DR H d v) → DRs H ds vs
  | [], [], _, _ => DRs_nil.mpr rfl
  | [], _ :: _, h, _ => by simp at h
  | _ :: _, [], h, _ => by simp at h
  | d :: ds, v :: vs, h, g => DRs_cons.mpr ⟨v, vs, rfl, g 0 d v rfl rfl, DRs_get ds vs (by simpa using h) fun k d' v' e1 e2 => g (k + 1) d' v' e1 e2⟩
noncomputable def tabD (n : Nat) (f : Nat → List Int) : PyData := .list ((List.range n).map fun k => .list ((f k).map PyData.int))
theorem CT.dr {H : Hp} {rs : List V} {n : Nat} {f : Nat → List Int} {q : Addr} (h : CT H rs n f) (hq : H q = some (.lst rs)) : DR H (tabD n f) (.ref q) := by
  refine DR_list.mpr ⟨q, rs, rfl, hq, DRs_get _ _ (by rw [List.length_map, List.length_range, h.1]) fun k d v e1 e2 => ?_⟩
  have hk : k < n := by
    have := (List.getElem?_eq_some_iff.mp e1).1
    rw [List.length_map, List.length_range] at this; exact this
  rw [List.getElem?_map, List.getElem?_range hk] at e1
  obtain ⟨a, e, ha⟩ := h.2 k hk
  rw [e] at e2
  cases e1; cases e2
  exact DR_list.mpr ⟨a, _, rfl, ha, DRs_ints _⟩
theorem tabD_shaped (n : Nat) (f : Nat → List Int) : PySem.SeqAt.shaped (tabD n f) = true := by
  refine lay_shaped (n := 2) (lay_list (n := 1) fun d hd => ?_) (by omega)
  obtain ⟨k, _, rfl⟩ := List.mem_map.mp hd
  refine lay_list (n := 0) fun e he => ?_
  obtain ⟨i, _, rfl⟩ := List.mem_map.mp he
  exact lay_int i
theorem r_sort2 {H : Hp} {Q : VK} {p : Addr} {ns : List Int} (hp : H p = some (.lst (ns.map V.int))) (hn : ns.length < 64) (h : ∀ (q : Addr) (ms : List Int) (H' : Hp), H q = none → Same H H' → H' q = some (.lst (ms.map V.int)) → ms.Perm ns → ms.Pairwise (· ≤ ·) → Q (.ref q) H') : rSorted [.ref p] H Q := r_sorted hp hn fun q ms nq a b => h q ms _ nq ((Same.refl H).upd nq) upd_same a b
theorem perm_sorted {t : List Nat} (h : Prm t) {ms : List Int} (hp : ms.Perm (nI t)) (hs : ms.Pairwise (· ≤ ·)) : ms = nI (List.range t.length) := by
  refine List.Perm.eq_of_pairwise (fun a b _ _ h1 h2 => Int.le_antisymm h1 h2) hs ?_ (hp.trans (h.pm.map _))
  unfold nI
  rw [List.pairwise_map]
  exact List.pairwise_lt_range.imp fun h => by omega
noncomputable def spRt (K : PySem.W.Frag) : Sp := fun vs H Q _ => ∃ (a b cq : Addr) (x y : List Nat) (n : Nat) (cs : List Int), vs = [.ref a, .ref b, .ref cq] ∧ H a = some (.lst ((nI x).map V.int)) ∧ H b = some (.lst ((nI y).map V.int)) ∧ Two n x y ∧ n ≤ 48 ∧ H cq = some (.lst (cs.map V.int)) ∧ 0 < cs.length ∧ cs.length ≤ 60 ∧ ∀ H', Same H H' → Q (.bl true) H'
theorem sc_law_right : FnScope ["_law_one", "_law_other", "_law_cells", "_law_tables", "_law_kept", "_law_found", "_law_due"] ["_law_one", "_law_other", "_law_cells"] (defScope s_law_right) := ⟨rfl, rfl, rfl, by decide +kernel, rfl, by decide +kernel, by decide +kernel⟩
theorem h_law_right (T : Txt K mg) : Has P w K mg base 8 "_law_right" ["_law_one", "_law_other", "_law_cells"] (spRt K) := by
  have h_law_counts := h_law_counts (P := P) (w := w) (base := base) T
  have h_law_middles := h_law_middles (P := P) (w := w) (base := base) T
  have h_laid := h_laid (P := P) (w := w) (base := base) T
  have h_law_whole := h_law_whole (P := P) (w := w) (base := base) T
  have h_law_least := h_law_least (P := P) (w := w) (base := base) T
  have h_law_list := h_law_list (P := P) (w := w) (base := base) T
  refine hasJ T.d_law_right sc_law_right (fun _ _ _ _ _ _ us hl => L2.usN3 (fun _ _ _ => rfl) us hl) ?_ fun f cdv A outer s H vs Q E hr h => ?_
  · rintro vs H Q E ⟨a, b, cq, x, y, n, cs, rfl, _⟩; rfl
  obtain ⟨a, b, cq, x, y, n, cs, rfl, ha, hb, h2, hn48, hcq, hc0, hcl, q⟩ := h
  have hu := hr.units0
  have hu64 := hr.units
  refine ⟨_, (jb_cons (js_set (i := 3) sc_law_right.nd rfl (Or.inl kz4g) (j_lst (ja_cons (j_call h_law_counts (hr.mono (by decide)) (glF kz4n) (ja_cons (j_vL 0 kz4c) ja_nil) (by decide +kernel)) (ja_cons (j_call h_law_counts (hr.mono (by decide)) (glF kz4n) (ja_cons (j_vL 1 kz4b) ja_nil) (by decide +kernel)) ja_nil))) rfl) (jb_cons (js_set (i := 4) sc_law_right.nd rfl (Or.inl kz4d) (j_lst (ja_cons (j_callTy (call_listK (K := K) rfl rfl) (glF kz4m) T.b_list bt_list (ja_cons (j_vL 0 kz4c) ja_nil) (by decide +kernel) (by decide +kernel)) (ja_cons (j_callTy (call_listK (K := K) rfl rfl) (glF kz4m) T.b_list bt_list (ja_cons (j_vL 1 kz4b) ja_nil) (by decide +kernel) (by decide +kernel)) ja_nil))) rfl) (jb_cons (js_if (jw_pt (jw_and (jt_cmp (op_eqE (K := K) rfl hu64) (j_op op_mod (j_ix (K := K) rfl (j_vL 2 kz4f) j_int) j_int) j_int (by first | exact nomark _ | with_unfolding_all rfl)) (jw_and1 (jt_not (jt_val (j_call h_law_middles (hr.mono (by decide)) (glF kz4e) (ja_cons (j_vL 0 kz4c) (ja_cons (j_vL 1 kz4b) (ja_cons (j_vL 3 kz4g) (ja_cons (j_vL 2 kz4f) ja_nil)))) (by decide +kernel))))))) (jb_one (js_ret j_bl)) jb_nil) (jb_cons (js_set (i := 5) sc_law_right.nd rfl (Or.inl kz4l) (j_callX h_laid (hr.mono (by decide)) (glF kz4j) (passN fun _ _ => rfl) (ja_cons (j_vL 0 kz4c) (ja_cons (j_vL 1 kz4b) ja_nil)) (by decide +kernel)) rfl) (jb_cons (js_if (jw_pt (jw_or (jt_not (jt_val (j_callB (call_isiK (K := K) rfl) (glF kz4s) T.b_isinstance bt_isinstance (ja_cons (j_vL 5 kz4l) (ja_cons (j_ty (glF kz4m) T.b_list bt_list (by decide +kernel) (by decide +kernel)) ja_nil)) (by decide +kernel) (by decide +kernel)))) (jw_or1 (jt_cmp (op_neF (K := K) rfl hu64) (j_callB (call_lenK (K := K) rfl) (glF kz4r) T.b_len bt_len (ja_cons (j_comp (sub := [none]) (subOk_of (N := ["_law_one", "_law_other", "_law_cells", "_law_tables", "_law_kept", "_law_found", "_law_due"]) (sc := defScope s_law_right) (N' := ["_law_goal"]) (by decide +kernel)) rfl rfl rfl (ji_seq (K := K) rfl (j_vL 5 kz4l)) (fun C s₀ H₀ ex => (jg_B 0 (by decide +kernel) nd_law_right_0)) (fun C s₀ H₀ ex => (jif_one (jt_val (j_call h_law_whole (hr.mono (by decide)) (glB (by decide +kernel)) (ja_cons (j_vBL 0 (by decide +kernel)) ja_nil) (by decide +kernel))))) (fun C s₀ H₀ ex => (j_vBL 0 (by decide +kernel)))) ja_nil) (by decide +kernel) (by decide +kernel)) (j_callB (call_lenK (K := K) rfl) (glF kz4r) T.b_len bt_len (ja_cons (j_vL 0 kz4c) ja_nil) (by decide +kernel) (by decide +kernel)) (by first | exact nomark _ | with_unfolding_all rfl))))) (jb_one (js_ret j_bl)) jb_nil) (jb_cons (js_if (jw_pt (jw_or (jt_cmp (op_neF (K := K) rfl hu64) (j_callB call_sorted1 (glF kz4p) T.b_sorted bt_sorted (ja_cons (j_vL 5 kz4l) ja_nil) (by decide +kernel) (by decide +kernel)) (j_listRng1 rfl (glF kz4m) T.b_list (glF kz4q) T.b_range (ja_cons (j_callB (call_lenK (K := K) rfl) (glF kz4r) T.b_len bt_len (ja_cons (j_vL 0 kz4c) ja_nil) (by decide +kernel) (by decide +kernel)) ja_nil)) (by first | exact nomark _ | with_unfolding_all rfl)) (jw_or1 (jt_cmp (op_neF (K := K) rfl hu64) (j_call h_law_counts (hr.mono (by decide)) (glF kz4n) (ja_cons (j_vL 5 kz4l) ja_nil) (by decide +kernel)) (j_call h_law_least (hr.mono (by decide)) (glF kz4o) (ja_cons (j_ix (K := K) rfl (j_vL 3 kz4g) j_int) (ja_cons (j_ix (K := K) rfl (j_vL 3 kz4g) j_int) ja_nil)) (by decide +kernel)) (by first | exact nomark _ | with_unfolding_all rfl))))) (jb_one (js_ret j_bl)) jb_nil) (jb_cons (js_set (i := 6) sc_law_right.nd rfl (Or.inl kz4i) (j_callTy (call_listK (K := K) rfl rfl) (glF kz4m) T.b_list bt_list (ja_cons (j_vL 5 kz4l) ja_nil) (by decide +kernel) (by decide +kernel)) rfl) (jb_cons (js_expr (j_meth0 (K := K) rfl PySem.F.plainAttrs_list PySem.F.slot_list_clear PySem.F.type_list_clear mt_clear (j_vL 5 kz4l))) (jb_cons (js_if (jw_pt (jw_or (jt_not (jt_val (j_call h_law_list (hr.mono (by decide)) (glF kz4h) (ja_cons (j_callX h_laid (hr.mono (by decide)) (glF kz4j) (passN fun _ _ => rfl) (ja_cons (j_callTy (call_tupleK (K := K) rfl rfl) (glF kz4k) T.b_tuple bt_tuple (ja_cons (j_vL 0 kz4c) ja_nil) (by decide +kernel) (by decide +kernel)) (ja_cons (j_vL 1 kz4b) ja_nil)) (by decide +kernel)) (ja_cons (j_vL 6 kz4i) ja_nil)) (by decide +kernel)))) (jw_or1 (jt_not (jt_val (j_call h_law_list (hr.mono (by decide)) (glF kz4h) (ja_cons (j_callX h_laid (hr.mono (by decide)) (glF kz4j) (passN fun _ _ => rfl) (ja_cons (j_vL 0 kz4c) (ja_cons (j_callTy (call_tupleK (K := K) rfl rfl) (glF kz4k) T.b_tuple bt_tuple (ja_cons (j_vL 1 kz4b) ja_nil) (by decide +kernel) (by decide +kernel)) ja_nil)) (by decide +kernel)) (ja_cons (j_vL 6 kz4i) ja_nil)) (by decide +kernel))))))) (jb_one (js_ret j_bl)) jb_nil) (jb_one (js_ret (j_and (j_call h_law_middles (hr.mono (by decide)) (glF kz4e) (ja_cons (j_vL 0 kz4c) (ja_cons (j_vL 1 kz4b) (ja_cons (j_vL 3 kz4g) (ja_cons (j_vL 2 kz4f) ja_nil)))) (by decide +kernel)) (j_one (j_cmp (op_eqE (K := K) rfl hu64) (j_lst (ja_cons (j_vL 0 kz4c) (ja_cons (j_vL 1 kz4b) ja_nil))) (j_vL 4 kz4d) (by first | exact nomark _ | with_unfolding_all rfl))))))))))))))), ?_⟩
  walk_at "sts"
  have hs : 20000 ≤ sizeLine := by decide
  have lx := h2.lx
  have ly := h2.ly
  obtain ⟨hPl, ll, _⟩ := h2.lay
  refine ⟨a, x, rfl, ha, by omega, fun aq as H1 naq S1 haq hA => ?_⟩
  walk_at "sts"
  refine ⟨b, y, rfl, S1 _ _ hb, by omega, fun bq bs H2 nbq S2 hbq hB => ?_⟩
  walk_at "sts"
  refine r_newO rfl fun tq H3 ntq S3 htq => ?_
  walk_at "sts"
  have U3 := S1.trans (S2.trans S3)
  rw [lx] at hA
  rw [ly] at hB
  refine .inl ⟨a, _, rfl, .inl (SqL.of (U3 _ _ ha)), fun l1 nl1 => ?_⟩
  have S4 := (Same.refl H3).upd nl1 (o := .lst ((nI x).map V.int))
  have hl1 := upd_same (H := H3) (a := l1) (o := .lst ((nI x).map V.int))
  generalize upd H3 l1 (.lst ((nI x).map V.int)) = H4 at S4 hl1 ⊢
  walk_at "sts"
  refine .inl ⟨b, _, rfl, .inl (SqL.of (S4 _ _ (U3 _ _ hb))), fun l2 nl2 => ?_⟩
  have S5 := (Same.refl H4).upd nl2 (o := .lst ((nI y).map V.int))
  have hl2 := upd_same (H := H4) (a := l2) (o := .lst ((nI y).map V.int))
  generalize upd H4 l2 (.lst ((nI y).map V.int)) = H5 at S5 hl2 ⊢
  walk_at "stn"
  refine r_newO rfl fun kq H6 nkq S6 hkq => ?_
  have S36 := S4.trans (S5.trans S6)
  have U6 := U3.trans S36
  have ha6 := U6 _ _ ha
  have hb6 := U6 _ _ hb
  have hc6 := U6 _ _ hcq
  have ht6 := S36 _ _ htq
  have haq6 := S36 _ _ (S3 _ _ (S2 _ _ haq))
  have hbq6 := S36 _ _ (S3 _ _ hbq)
  have hA6 := hA.same (S2.trans (S3.trans S36))
  have hB6 := hB.same (S3.trans S36)
  have hl16 := S6 _ _ (S5 _ _ hl1)
  have hl26 := S6 _ _ hl2
  clear S1 S2 S3 S4 S5 S6 S36 U3 hA hB haq hbq htq hl1 hl2 naq nbq ntq nl1 nl2 nkq
  walk_at "stn"
  with_reducible refine r_cut (fun σ G => Same H6 G ∧ σ = [some (.ref a), some (.ref b), some (.ref cq), some (.ref tq), some (.ref kq), none, none]) ?_ ?_
  rotate_left
  · intro N hN
    obtain ⟨c0, hc0'⟩ : ∃ c0, cs[0]? = some c0 := ⟨_, List.getElem?_eq_getElem hc0⟩
    walk_at "sts"
    refine r_ixL (SqL.of hc6) (v := .int c0) (atI_nat (j := 0) (by rw [List.getElem?_map, hc0']; rfl)) ?_
    walk_at "sts"
    refine iteD (fun h => ?_) (fun h => ?_)
    · walk_at "sts"
      refine ⟨a, b, tq, cq, aq, bq, as, bs, cs, x, y, n, rfl, ha6, hb6, h2, ht6, haq6, hA6, hbq6, hB6, hc6, hcl, fun G sG => ?_⟩
      walk_at "sts"
      exact hN _ _ ⟨sG, rfl⟩
    · walk_at "sts"
      exact hN _ _ ⟨Same.refl H6, rfl⟩
  rintro σ H7 ⟨S7, rfl⟩
  walk_at "sts"
  refine ⟨_, _, rfl, .inr ⟨a, b, x, y, n, rfl, rfl, .inl (S7 _ _ ha6), .inl (S7 _ _ hb6), h2, fun fd H8 nfd S8 hfd => ?_⟩⟩
  walk_at "sts"
  have U8 := S7.trans S8
  refine r_isi (.lst hfd) rfl ?_
  walk_at "sts"
  refine .inl ⟨fd, rfl, ⟨_, SqL.of hfd⟩, ?_⟩
  refine comp_listG (xs := (nI (lay x y)).map V.int) (fun i ys G => G = H8 ∧ ys.length = i) (by rw [nI_len]; omega) ⟨rfl, rfl⟩ ?_ ?_ ?_ ?_
  · rintro i ys G ⟨_, h⟩
    omega
  · rintro i ys G ⟨rfl, _⟩
    exact SqL.of hfd
  · rintro i ys G v hv ⟨rfl, hy⟩
    obtain ⟨k, _, rfl⟩ := nI_of hv
    walk_at "sts"
    refine ⟨KeepSt.set rfl, ?_⟩
    walk_at "sts"
    refine ⟨_, rfl, ?_⟩
    walk_at "sts"
    exact ⟨rfl, by simp; omega⟩
  rintro ys G D H9 ⟨rfl, hyl⟩ nD S9 hD
  rw [nI_len, ll] at hyl
  try walk_at "sts"
  refine r_lenL (SqL.of hD) ?_
  walk_at "sts"
  refine r_lenL (SqL.of (S9 _ _ (U8 _ _ ha6))) ?_
  walk_at "sts"
  rw [nI_len, lx, hyl, decide_eq_true rfl]
  walk_at "sts"
  have hfd9 := S9 _ _ hfd
  refine r_sort2 hfd9 (by unfold nI; rw [List.length_map]; omega) fun so ms HA _ SA hso pe so' => ?_
  obtain rfl := perm_sorted hPl pe so'
  have U9 := U8.trans S9
  have UA := U9.trans SA
  walk_at "sts"
  refine r_lenL (SqL.of (UA _ _ ha6)) ?_
  walk_at "sts"
  rw [nI_len, lx]
  refine r_rng1L (n := n) (by omega) ?_
  walk_at "sts"
  intro rg nrg
  rw [rng_nI]
  have SB := (Same.refl HA).upd nrg (o := .lst ((nI (List.range n)).map V.int))
  have hrg := upd_same (H := HA) (a := rg) (o := .lst ((nI (List.range n)).map V.int))
  generalize upd HA rg (.lst ((nI (List.range n)).map V.int)) = HB at SB hrg ⊢
  walk_at "sts"
  refine .inl (.inl (.inl (.inr ⟨so, rg, nI (List.range n), nI (List.range n), rfl, rfl, SqL.of (by rw [← ll]; exact SB _ _ hso), SqL.of hrg, ?_⟩)))
  rw [decide_eq_true rfl]
  have UB := UA.trans SB
  walk_at "sts"
  refine ⟨fd, lay x y, rfl, SB _ _ (SA _ _ hfd9), by omega, fun c1 r1 HC _ SC hc1 hC1 => ?_⟩
  walk_at "sts"
  have UC := UB.trans SC
  refine r_ixL (SqL.of (UC _ _ ht6)) rfl ?_
  walk_at "sts"
  refine r_ixL (SqL.of (UC _ _ ht6)) rfl ?_
  walk_at "sts"
  refine ⟨aq, bq, as, bs, x, y, n, rfl, UC _ _ haq6, hA6.same UC, UC _ _ hbq6, hB6.same UC, h2, fun c2 r2 HD SD hc2 hC2 => ?_⟩
  walk_at "sts"
  rw [ll] at hC1
  refine .inl (.inl (r_neSame ((hC1.same SD).dr (SD _ _ hc1)) (hC2.dr hc2) (tabD_shaped _ _) ?_))
  have UD := UC.trans SD
  have hfdD := SD _ _ (SC _ _ (SB _ _ (SA _ _ hfd9)))
  walk_at "sts"
  refine .inl ⟨fd, _, rfl, .inl (SqL.of hfdD), fun du ndu => ?_⟩
  have SE := (Same.refl HD).upd ndu (o := .lst ((nI (lay x y)).map V.int))
  have hdu := upd_same (H := HD) (a := du) (o := .lst ((nI (lay x y)).map V.int))
  have ndf : du ≠ fd := fun z => by rw [z, hfdD] at ndu; cases ndu
  generalize upd HD du (.lst ((nI (lay x y)).map V.int)) = HE at SE hdu ⊢
  have UE := UD.trans SE
  walk_at "sts"
  refine ⟨.inl ⟨rfl, _, SqL.of (SE _ _ hfdD)⟩, ?_⟩
  walk_at "sts"
  refine ⟨fd, _, rfl, rfl, SE _ _ hfdD, ?_⟩
  have nfd6 := Same.back S7 nfd
  have UF := Same.put (o := .lst []) UE nfd6
  have hduF : upd HE fd (.lst []) du = some (.lst ((nI (lay x y)).map V.int)) := by rw [upd_ne ndf]; exact hdu
  generalize upd HE fd (.lst []) = HF at UF hduF ⊢
  clear UE UD UC UB UA U9 U8 SE SD SC SB SA S9 S8 S7 hC1 hC2 hc1 hc2 hrg hso pe so' hD hfd hfd9 hfdD hdu
  walk_at "sts"
  refine .inl ⟨a, _, rfl, .inl ⟨SqL.of (UF _ _ ha6), fun t1 nt1 => ?_⟩⟩
  have SG := (Same.refl HF).upd nt1 (o := .tup ((nI x).map V.int))
  have ht1 := upd_same (H := HF) (a := t1) (o := .tup ((nI x).map V.int))
  generalize upd HF t1 (.tup ((nI x).map V.int)) = HG at SG ht1 ⊢
  have UG := UF.trans SG
  walk_at "sts"
  refine ⟨_, _, rfl, .inr ⟨t1, b, x, y, n, rfl, rfl, .inr ht1, .inl (UG _ _ hb6), h2, fun f1 HI _ SI hf1 => ?_⟩⟩
  walk_at "sts"
  refine ⟨f1, du, lay x y, rfl, hf1, SI _ _ (SG _ _ hduF), by omega, fun HJ SJ => ?_⟩
  walk_at "sts"
  have UJ := UG.trans (SI.trans SJ)
  refine .inl ⟨b, _, rfl, .inl ⟨SqL.of (UJ _ _ hb6), fun t2 nt2 => ?_⟩⟩
  have SK := (Same.refl HJ).upd nt2 (o := .tup ((nI y).map V.int))
  have ht2 := upd_same (H := HJ) (a := t2) (o := .tup ((nI y).map V.int))
  generalize upd HJ t2 (.tup ((nI y).map V.int)) = HK at SK ht2 ⊢
  have UK := UJ.trans SK
  walk_at "sts"
  refine ⟨_, _, rfl, .inr ⟨a, t2, x, y, n, rfl, rfl, .inl (UK _ _ ha6), .inr ht2, h2, fun f2 HL _ SL hf2 => ?_⟩⟩
  walk_at "sts"
  refine ⟨f2, du, lay x y, rfl, hf2, SL _ _ (SK _ _ (SJ _ _ (SI _ _ (SG _ _ hduF)))), by omega, fun HM SM => ?_⟩
  walk_at "sts"
  have UM := UK.trans (SL.trans SM)
  refine ⟨a, b, tq, cq, aq, bq, as, bs, cs, x, y, n, rfl, UM _ _ ha6, UM _ _ hb6, h2, UM _ _ ht6, UM _ _ haq6, hA6.same UM, UM _ _ hbq6, hB6.same UM, UM _ _ hc6, hcl, fun HN SN => ?_⟩
  walk_at "sts"
  have UN := UM.trans SN
  refine r_newO rfl fun pr HO' _ SO hpr => ?_
  walk_at "sts"
  have UO := UN.trans SO
  have d1 : ∀ {u v : Addr} {r : Addr}, HO' r = some (.lst [.ref u, .ref v]) → HO' u = some (.lst ((nI x).map V.int)) → HO' v = some (.lst ((nI y).map V.int)) → DR HO' (.list [.list ((nI x).map PyData.int), .list ((nI y).map PyData.int)]) (.ref r) := fun {u v r} h1 h2 h3 =>
    DR_list.mpr ⟨r, _, rfl, h1, DRs_cons.mpr ⟨_, _, rfl, DR_list.mpr ⟨u, _, rfl, h2, DRs_ints _⟩, DRs_cons.mpr ⟨_, _, rfl, DR_list.mpr ⟨v, _, rfl, h3, DRs_ints _⟩, DRs_nil.mpr rfl⟩⟩⟩
  refine .inl (.inl (r_eqSame (d1 hpr (UO _ _ ha6) (UO _ _ hb6)) (d1 (UO _ _ hkq) (UO _ _ hl16) (UO _ _ hl26)) (lay_shaped (n := 2) (lay_list (n := 1) fun d hd => ?_) (by omega)) ?_))
  · simp only [List.mem_cons, List.mem_nil_iff, or_false] at hd
    rcases hd with rfl | rfl
    · exact lay_list (n := 0) fun e he => by
        obtain ⟨i, _, rfl⟩ := List.mem_map.mp he
        exact lay_int i
    · exact lay_list (n := 0) fun e he => by
        obtain ⟨i, _, rfl⟩ := List.mem_map.mp he
        exact lay_int i
  exact q _ (U6.trans UO)
end

section
variable {P : Program} {w : World} {K : PySem.W.Frag} {mg : Str → Option Value} {base : Heap}
theorem kz4t : (defScope s_law).names.lookup ("range" : Str) = some NameKind.globalImplicit := by decide +kernel
theorem kz4u : (defScope s_law).names.lookup ("max" : Str) = some NameKind.globalImplicit := by decide +kernel
theorem kz4v : (defScope s_law).names.lookup ("min" : Str) = some NameKind.globalImplicit := by decide +kernel
theorem kz4w : (defScope s_law).names.lookup ("len" : Str) = some NameKind.globalImplicit := by decide +kernel
theorem kz4x : (defScope s_law).names.lookup ("_law_script" : Str) = some NameKind.local := by decide +kernel
theorem kz4y : (defScope s_law).names.lookup ("_law_k" : Str) = some NameKind.local := by decide +kernel
theorem kz4z : (defScope s_law).names.lookup ("_law_some" : Str) = some NameKind.local := by decide +kernel
theorem kz50 : (defScope s_law).names.lookup ("_law_pair" : Str) = some NameKind.local := by decide +kernel
theorem kz51 : (defScope s_law).names.lookup ("_law_right" : Str) = some NameKind.globalImplicit := by decide +kernel
theorem kz52 : (defScope s_law).names.lookup ("_law_cells" : Str) = some NameKind.local := by decide +kernel
theorem kz53 : (defScope s_law).names.lookup ("_law_many_here" : Str) = some NameKind.local := by decide +kernel
theorem kz54 : (defScope s_law).names.lookup ("_law_one" : Str) = some NameKind.local := by decide +kernel
theorem kz55 : (defScope s_law).names.lookup ("_law_other" : Str) = some NameKind.local := by decide +kernel
theorem kz56 : (defScope s_law).names.lookup ("_law_mix" : Str) = some NameKind.globalImplicit := by decide +kernel
theorem kz57 : (defScope s_law).names.lookup ("_law_cell_here" : Str) = some NameKind.local := by decide +kernel
theorem kz58 : (defScope s_law).names.lookup ("_law_cell" : Str) = some NameKind.globalImplicit := by decide +kernel
theorem kz59 : (defScope s_law).names.lookup ("_law_drawn" : Str) = some NameKind.globalImplicit := by decide +kernel
theorem kz5a : (defScope s_law).names.lookup ("int" : Str) = some NameKind.globalImplicit := by decide +kernel
theorem kz5b : (defScope s_law).names.lookup ("_law_many" : Str) = some NameKind.globalImplicit := by decide +kernel
theorem mm32 (n : Nat) : ∃ j : Nat, (if (if (n : Int) < 32 then (n : Int) else 32) > 8 then (if (n : Int) < 32 then (n : Int) else 32) else 8) = (j : Int) ∧ j ≤ 32 := by
  by_cases h : (n : Int) < 32
  · rw [if_pos h]
    by_cases h2 : (n : Int) > 8
    · rw [if_pos h2]; exact ⟨n, rfl, by omega⟩
    · rw [if_neg h2]; exact ⟨8, rfl, by omega⟩
  · rw [if_neg h, if_pos (by decide)]; exact ⟨32, rfl, by omega⟩
noncomputable def spLaw (K : PySem.W.Frag) : Sp := fun vs H Q _ => ∃ (a : Addr) (ns : List Int), vs = [.ref a] ∧ SqL K H a (ns.map V.int) ∧ ns.length ≤ 63 ∧ ∀ H', Q (.bl true) H'
theorem sc_law : FnScope ["_law_script", "_law_k", "_law_many_here", "_law_one", "_law_other", "_law_cell_here", "_law_cells", "_law_some", "_law_pair"] ["_law_script"] (defScope s_law) := ⟨rfl, rfl, rfl, by decide +kernel, rfl, by decide +kernel, by decide +kernel⟩
theorem ok_law (T : Txt K mg) {f0 : Addr} {fd0 : FuncData} (F0 : Fun K "law" "law" s_law f0 fd0) : FnOk P w K mg base CX0 9 f0 fd0 ["_law_script"] (spLaw K) := by
  have h_law_many := h_law_many (P := P) (w := w) (base := base) T
  have h_law_drawn := h_law_drawn (P := P) (w := w) (base := base) T
  have h_law_cell := h_law_cell (P := P) (w := w) (base := base) T
  have h_law_mix := h_law_mix (P := P) (w := w) (base := base) T
  have h_law_right := h_law_right (P := P) (w := w) (base := base) T
  refine okJ F0 sc_law ?_ fun f cdv A outer s H vs Q E hr h => ?_
  · rintro vs H Q E ⟨a, ns, rfl, _⟩; rfl
  obtain ⟨a, ns, rfl, hS, hlen, q⟩ := h
  have hu := hr.units0
  have hu64 := hr.units
  refine ⟨_, (jb_cons (js_for PassesOwn.never rfl (ji_range3 (glF kz4t) T.b_range (ja_cons j_int (ja_cons (j_callB (call_maxA rfl) (glF kz4u) T.b_max bt_max (ja_cons j_int (ja_cons (j_callB (call_minA rfl) (glF kz4v) T.b_min bt_min (ja_cons j_int (ja_cons (j_callB (call_lenK (K := K) rfl) (glF kz4w) T.b_len bt_len (ja_cons (j_vL 0 kz4x) ja_nil) (by decide +kernel) (by decide +kernel)) ja_nil)) (by decide +kernel) (by decide +kernel)) ja_nil)) (by decide +kernel) (by decide +kernel)) (ja_cons j_int ja_nil)))) (jg_name (i := 1) sc_law.nd rfl (Or.inl kz4y) rfl) (jb_cons (js_set (i := 2) sc_law.nd rfl (Or.inl kz53) (j_call h_law_many (hr.mono (by decide)) (glF kz5b) (ja_cons (j_call h_law_cell (hr.mono (by decide)) (glF kz58) (ja_cons (j_vL 0 kz4x) (ja_cons (j_vL 1 kz4y) ja_nil)) (by decide +kernel)) ja_nil) (by decide +kernel)) rfl) (jb_cons (js_set (i := 2) sc_law.nd rfl (Or.inl kz53) (j_op op_mod (j_vL 2 kz53) (j_ix (K := K) rfl (j_lst (ja_cons j_int (ja_cons j_int ja_nil))) (j_callTy call_int1 (glF kz5a) T.b_int bt_int (ja_cons (j_cmp (op_eqE (K := K) rfl hu64) (j_vL 1 kz4y) j_int (by first | exact nomark _ | with_unfolding_all rfl)) ja_nil) (by decide +kernel) (by decide +kernel)))) rfl) (jb_cons (js_set (i := 3) sc_law.nd rfl (Or.inl kz54) (j_call h_law_drawn (hr.mono (by decide)) (glF kz59) (ja_cons (j_call h_law_cell (hr.mono (by decide)) (glF kz58) (ja_cons (j_vL 0 kz4x) (ja_cons (j_op op_addA (j_vL 1 kz4y) j_int) ja_nil)) (by decide +kernel)) (ja_cons (j_vL 2 kz53) ja_nil)) (by decide +kernel)) rfl) (jb_cons (js_set (i := 4) sc_law.nd rfl (Or.inl kz55) (j_call h_law_drawn (hr.mono (by decide)) (glF kz59) (ja_cons (j_call h_law_cell (hr.mono (by decide)) (glF kz58) (ja_cons (j_vL 0 kz4x) (ja_cons (j_op op_addA (j_vL 1 kz4y) j_int) ja_nil)) (by decide +kernel)) (ja_cons (j_vL 2 kz53) ja_nil)) (by decide +kernel)) rfl) (jb_cons (js_set (i := 5) sc_law.nd rfl (Or.inl kz57) (j_call h_law_cell (hr.mono (by decide)) (glF kz58) (ja_cons (j_vL 0 kz4x) (ja_cons (j_op op_addA (j_vL 1 kz4y) j_int) ja_nil)) (by decide +kernel)) rfl) (jb_cons (js_set (i := 6) sc_law.nd rfl (Or.inl kz52) (j_lst (ja_cons (j_call h_law_mix (hr.mono (by decide)) (glF kz56) (ja_cons (j_vL 5 kz57) (ja_cons j_int ja_nil)) (by decide +kernel)) (ja_cons (j_call h_law_mix (hr.mono (by decide)) (glF kz56) (ja_cons (j_vL 5 kz57) (ja_cons j_int ja_nil)) (by decide +kernel)) (ja_cons (j_call h_law_mix (hr.mono (by decide)) (glF kz56) (ja_cons (j_vL 5 kz57) (ja_cons j_int ja_nil)) (by decide +kernel)) ja_nil)))) rfl) (jb_cons (js_if (jt_not (jt_val (j_call h_law_right (hr.mono (by decide)) (glF kz51) (ja_cons (j_vL 3 kz54) (ja_cons (j_vL 4 kz55) (ja_cons (j_vL 6 kz52) ja_nil))) (by decide +kernel)))) (jb_one (js_ret j_bl)) jb_nil) (jb_cons (js_set (i := 7) sc_law.nd rfl (Or.inl kz4z) (j_lst (ja_cons (j_tup (ja_cons (j_vL 4 kz55) (ja_cons (j_vL 3 kz54) ja_nil))) (ja_cons (j_tup (ja_cons (j_vL 3 kz54) (ja_cons (j_vL 3 kz54) ja_nil))) ja_nil))) rfl) (jb_cons (js_if (jt_cmp op_gt (j_vL 2 kz53) j_int (by first | exact nomark _ | with_unfolding_all rfl)) (jb_one (js_set (i := 7) sc_law.nd rfl (Or.inl kz4z) (j_lst ja_nil) rfl)) jb_nil) (jb_one (js_for PassesOwn.never rfl (ji_seq (K := K) rfl (j_vL 7 kz4z)) (jg_name (i := 8) sc_law.nd rfl (Or.inl kz50) rfl) (jb_one (js_if (jt_not (jt_val (j_call h_law_right (hr.mono (by decide)) (glF kz51) (ja_cons (j_ix (K := K) rfl (j_vL 8 kz50) j_int) (ja_cons (j_ix (K := K) rfl (j_vL 8 kz50) j_int) (ja_cons (j_vL 6 kz52) ja_nil))) (by decide +kernel)))) (jb_one (js_ret j_bl)) jb_nil)))))))))))))) (jb_one (js_ret j_bl))), ?_⟩
  walk_at "sts"
  have hs : 20000 ≤ sizeLine := by decide
  refine r_lenL hS ?_
  walk_at "sts"
  rw [List.length_map]
  obtain ⟨j, ej, hj⟩ := mm32 ns.length
  rw [ej]
  refine ⟨0, (j : Int), 4, (j + 3) / 4, rfl, by decide, PyProof.noPylong_small (by decide), small_four (by omega) (by omega), size_four, ?_⟩
  refine for_rng3 (fun i σ H' => ∃ (x1 x2 x3 x4 x5 x6 x7 x8 : Option V), σ = [some (.ref a), x1, x2, x3, x4, x5, x6, x7, x8] ∧ Same H H') ⟨_, _, _, _, _, _, _, _, rfl, Same.refl _⟩ ?_ ?_
  · rintro i σ H1 hi ⟨x1, x2, x3, x4, x5, x6, x7, x8, rfl, s⟩
    rw [show (0 + (i : Int) * 4) = ((4 * i : Nat) : Int) by omega]
    generalize ek : ((4 * i : Nat) : Int) = k
    have hk : 0 ≤ k := by omega
    clear ek
    walk_at "sts"
    refine ⟨a, ns, k, rfl, sq_same hS s, hk, fun c0 => ?_⟩
    walk_at "sts"
    refine ⟨c0, rfl, fun m0 H2 hm0 S2 => ?_⟩
    walk_at "sts"
    refine r_newO rfl fun p0 H3 _ S3 hp0 => ?_
    walk_at "sts"
    refine .inr ⟨_, rfl, ?_⟩
    obtain ⟨c, ec, hc⟩ : ∃ c : Int, atI [V.int 25, V.int 49] (if decide (V.int k = V.int 0) = true then 1 else 0) = some (.int c) ∧ 0 < c ∧ c ≤ 49 := by
      split
      · exact ⟨49, rfl, by omega, by omega⟩
      · exact ⟨25, rfl, by omega, by omega⟩
    refine r_ixL (SqL.of hp0) ec ?_
    walk_at "sts"
    obtain ⟨m, em, hm⟩ : ∃ m : Nat, (m0 : Int) % c = (m : Int) ∧ m ≤ 48 := ⟨((m0 : Int) % c).toNat, by have := Int.emod_nonneg (m0 : Int) (show c ≠ 0 by omega); omega, by have := Int.emod_lt_of_pos (m0 : Int) hc.1; omega⟩
    rw [em]
    have s3 := s.trans (S2.trans S3)
    refine ⟨a, ns, k + 1, rfl, sq_same hS s3, by omega, fun c1 => ?_⟩
    walk_at "sts"
    refine ⟨c1, m, rfl, by omega, fun o1 x H4 _ S4 ho1 hPx hlx => ?_⟩
    walk_at "sts"
    have s4 := s3.trans S4
    refine ⟨a, ns, k + 2, rfl, sq_same hS s4, by omega, fun c2 => ?_⟩
    walk_at "sts"
    refine ⟨c2, m, rfl, by omega, fun o2 y H5 _ S5 ho2 hPy hly => ?_⟩
    walk_at "sts"
    have s5 := s4.trans S5
    refine ⟨a, ns, k + 3, rfl, sq_same hS s5, by omega, fun c3 => ?_⟩
    walk_at "sts"
    refine ⟨c3, 1, rfl, fun r1 _ _ => ?_⟩
    walk_at "sts"
    refine ⟨c3, 2, rfl, fun r2 _ _ => ?_⟩
    walk_at "sts"
    refine ⟨c3, 3, rfl, fun r3 _ _ => ?_⟩
    walk_at "sts"
    refine r_newO rfl fun cq H6 _ S6 hcq => ?_
    walk_at "sts"
    replace hcq : H6 cq = some (.lst (([r1, r2, r3] : List Int).map V.int)) := hcq
    have h2 : Two m x y := ⟨hPx, hPy, hlx, hly⟩
    have ho1' := S6 _ _ (S5 _ _ ho1)
    have ho2' := S6 _ _ ho2
    have s6 := s5.trans S6
    refine ⟨o1, o2, cq, x, y, m, [r1, r2, r3], rfl, ho1', ho2', h2, hm, hcq, by simp, by simp, fun H7 S7 => ?_⟩
    walk_at "sts"
    refine r_newO rfl fun t1 H8 _ S8 ht1 => ?_
    walk_at "sts"
    refine r_newO rfl fun t2 H9 _ S9 ht2 => ?_
    walk_at "sts"
    have S79 := S7.trans (S8.trans S9)
    walk_at "stn"
    refine r_newO rfl fun sq HA _ SA hsq => ?_
    have S7A := S79.trans SA
    have ht1A := SA _ _ (S9 _ _ ht1)
    have ht2A := SA _ _ ht2
    walk_at "stn"
    with_reducible refine r_cut (fun σ G => Same HA G ∧ ∃ sq us, σ = [some (.ref a), some (.int k), some (.int (m : Int)), some (.ref o1), some (.ref o2), some (.int c3), some (.ref cq), some (.ref sq), x8] ∧ G sq = some (.lst us) ∧ ∀ v ∈ us, v = .ref t1 ∨ v = .ref t2) ?_ ?_
    rotate_left
    · intro N hN
      walk_at "sts"
      refine iteD (fun h => ?_) (fun h => ?_)
      · walk_at "sts"
        refine r_newO rfl fun e0 HB _ SB he0 => ?_
        walk_at "sts"
        exact hN _ _ ⟨SB, e0, [], rfl, he0, fun v hv => nomatch hv⟩
      · walk_at "sts"
        refine hN _ _ ⟨Same.refl HA, sq, _, rfl, hsq, fun v hv => ?_⟩
        simp only [List.mem_cons, List.mem_nil_iff, or_false] at hv
        exact hv
    rintro σ HB ⟨SB, sq', us, rfl, hsq', hus⟩
    walk_at "sts"
    refine .inl ⟨sq', rfl, ⟨_, SqL.of hsq'⟩, ?_⟩
    refine for_list (xs := us) (fun i σ G => Same HB G ∧ ∃ x8, σ = [some (.ref a), some (.int k), some (.int (m : Int)), some (.ref o1), some (.ref o2), some (.int c3), some (.ref cq), some (.ref sq'), x8]) ⟨Same.refl HB, _, rfl⟩ (fun i σ G _ h => SqL.of (h.1 _ _ hsq')) ?_ ?_
    · rintro i v σ G hv ⟨sG, y8, rfl⟩
      have sA := SB.trans sG
      have U := S7A.trans sA
      rcases hus v (List.mem_of_getElem? hv) with rfl | rfl
      · have h1 := sA _ _ ht1A
        walk_at "sts"
        refine ⟨o2, o1, cq, y, x, m, [r1, r2, r3], rfl, U _ _ ho2', U _ _ ho1', h2.sw, hm, U _ _ hcq, by simp, by simp, fun G2 s2 => ?_⟩
        walk_at "sts"
        exact ⟨sG.trans s2, _, rfl⟩
      · have h1 := sA _ _ ht2A
        walk_at "sts"
        refine ⟨o1, o1, cq, x, x, m, [r1, r2, r3], rfl, U _ _ ho1', U _ _ ho1', ⟨hPx, hPx, hlx, hlx⟩, hm, U _ _ hcq, by simp, by simp, fun G2 s2 => ?_⟩
        walk_at "sts"
        exact ⟨sG.trans s2, _, rfl⟩
    · rintro σ G ⟨sG, y8, rfl⟩
      exact ⟨_, _, _, _, _, _, _, _, rfl, s6.trans (S7A.trans (SB.trans sG))⟩
  · rintro σ H1 ⟨x1, x2, x3, x4, x5, x6, x7, x8, rfl, s⟩
    walk_at "sts"
    exact q _
end

end My
noncomputable def PySem.W.Fast.tw18129060935889048736 : Nat := 0
noncomputable def PySem.W.Fast.tw2124568762905946331 : Nat := 0
noncomputable def PySem.W.Fast.tw12446562975187831698 : Nat := 0
noncomputable def PySem.W.Fast.tw14030427959929496806 : Nat := 0
noncomputable def PySem.W.Fast.tw15662213034471749149 : Nat := 0
noncomputable def PySem.W.Fast.tw3872498071519297213 : Nat := 0
noncomputable def PySem.W.Fast.tw4408471702865315480 : Nat := 0
noncomputable def PySem.W.Fast.tw12430347275059707073 : Nat := 0
noncomputable def PySem.W.Fast.tw17389039533583615536 : Nat := 0
noncomputable def PySem.W.Fast.tw11026589695473906643 : Nat := 0
noncomputable def PySem.W.Fast.tw581737245825143538 : Nat := 0
noncomputable def PySem.W.Fast.tw1494555985637757429 : Nat := 0
noncomputable def PySem.W.Fast.tw16343960656562947375 : Nat := 0
noncomputable def PySem.W.Fast.tw12656295949263476802 : Nat := 0
noncomputable def PySem.W.Fast.tw7224501175207324365 : Nat := 0
noncomputable def PySem.W.Fast.tw7191528032672509303 : Nat := 0
noncomputable def PySem.W.Fast.tw14452034128663664416 : Nat := 0
noncomputable def PySem.W.Fast.tw13478857000033114886 : Nat := 0
noncomputable def PySem.W.Fast.tw14835588293410380173 : Nat := 0
noncomputable def PySem.W.Fast.tw8331781013018134997 : Nat := 0
noncomputable def PySem.W.Fast.tw11505553102155665534 : Nat := 0
noncomputable def PySem.W.Fast.tw10233843611610779940 : Nat := 0
noncomputable def PySem.W.Fast.tw6603995086586142907 : Nat := 0
noncomputable def PySem.W.Fast.tw9132995438564328713 : Nat := 0
noncomputable def PySem.W.Fast.tw18007119726470377101 : Nat := 0
noncomputable def PySem.W.Fast.tw17381974729527494360 : Nat := 0
noncomputable def PySem.W.Fast.tw6233981701821400943 : Nat := 0
noncomputable def PySem.W.Fast.tw3293160015487035135 : Nat := 0
noncomputable def PySem.W.Fast.tw7264897794689603271 : Nat := 0
noncomputable def PySem.W.Fast.tw12611536475980489151 : Nat := 0
noncomputable def PySem.W.Fast.tw8213085229584182351 : Nat := 0
noncomputable def PySem.W.Fast.tw17839068515090318105 : Nat := 0
noncomputable def PySem.W.Fast.tw4821981160306889123 : Nat := 0
noncomputable def PySem.W.Fast.tw16058954690555851381 : Nat := 0
noncomputable def PySem.W.Fast.tw18309563097855305262 : Nat := 0
noncomputable def PySem.W.Fast.tw9592009258859133030 : Nat := 0
noncomputable def PySem.W.Fast.tw12936217000068354296 : Nat := 0
noncomputable def PySem.W.Fast.tw7137822801253514067 : Nat := 0
noncomputable def PySem.W.Fast.tw607472011415742002 : Nat := 0
noncomputable def PySem.W.Fast.tw11159670774749471878 : Nat := 0
noncomputable def PySem.W.Fast.tw16616775537667819084 : Nat := 0
noncomputable def PySem.W.Fast.tw14095921520443240990 : Nat := 0
noncomputable def PySem.W.Fast.tw15538999140408027873 : Nat := 0
noncomputable def PySem.W.Fast.tw2052889169883626407 : Nat := 0
noncomputable def PySem.W.Fast.tw7429775012346131102 : Nat := 0
noncomputable def PySem.W.Fast.tw4251489930459388592 : Nat := 0
noncomputable def PySem.W.Fast.tw13985603276261392817 : Nat := 0
noncomputable def PySem.W.Fast.tw13280942795600836918 : Nat := 0
noncomputable def PySem.W.Fast.tw7395811311066541719 : Nat := 0
noncomputable def PySem.W.Fast.tw4387328576265299336 : Nat := 0
noncomputable def PySem.W.Fast.tw14430331726194766174 : Nat := 0
noncomputable def PySem.W.Fast.tw9112833072502323103 : Nat := 0
noncomputable def PySem.W.Fast.tw1770658123204477850 : Nat := 0
noncomputable def PySem.W.Fast.tw17968170501844361838 : Nat := 0
noncomputable def PySem.W.Fast.tw7646472264074588221 : Nat := 0
noncomputable def PySem.W.Fast.tw15739038109204354696 : Nat := 0
noncomputable def PySem.W.Fast.tw4125757005467717828 : Nat := 0
noncomputable def PySem.W.Fast.tw6767102312457422802 : Nat := 0
noncomputable def PySem.W.Fast.tw13448400764028520060 : Nat := 0
noncomputable def PySem.W.Fast.tw6086161051424330622 : Nat := 0
noncomputable def PySem.W.Fast.tw15555094786818951247 : Nat := 0
noncomputable def PySem.W.Fast.tw10364240805127310662 : Nat := 0
noncomputable def PySem.W.Fast.tw2700372721906156774 : Nat := 0
noncomputable def PySem.W.Fast.tw13794947422485677493 : Nat := 0
noncomputable def PySem.W.Fast.tw16116103371516057179 : Nat := 0
noncomputable def PySem.W.Fast.tw16938911025449292012 : Nat := 0
noncomputable def PySem.W.Fast.tw15371195757702284523 : Nat := 0
noncomputable def PySem.W.Fast.tw4575904347860209528 : Nat := 0
noncomputable def PySem.W.Fast.tw12139468792250450316 : Nat := 0
noncomputable def PySem.W.Fast.tw8863881631237367590 : Nat := 0
noncomputable def PySem.W.Fast.tw14693499894774577966 : Nat := 0
noncomputable def PySem.W.Fast.tw11986960746161556652 : Nat := 0
noncomputable def PySem.W.Fast.tw5094963238690603729 : Nat := 0
noncomputable def PySem.W.Fast.tw17944765661527251639 : Nat := 0
noncomputable def PySem.W.Fast.tw5574850915457180402 : Nat := 0
noncomputable def PySem.W.Fast.tw6705995671018549970 : Nat := 0
noncomputable def PySem.W.Fast.tw5496699804994538035 : Nat := 0
noncomputable def PySem.W.Fast.tw10457065703791647081 : Nat := 0
noncomputable def PySem.W.Fast.tw16609375165443218795 : Nat := 0
noncomputable def PySem.W.Fast.tw8632272178229773748 : Nat := 0
noncomputable def PySem.W.Fast.tw1151265596134089619 : Nat := 0
noncomputable def PySem.W.Fast.tw16198281903745312891 : Nat := 0
noncomputable def PySem.W.Fast.tw10967435682641384715 : Nat := 0
noncomputable def PySem.W.Fast.tw12126319213475773784 : Nat := 0
noncomputable def PySem.W.Fast.tw3992638523351792599 : Nat := 0
noncomputable def PySem.W.Fast.tw15245890032796683147 : Nat := 0
noncomputable def PySem.W.Fast.tw6376960381137706857 : Nat := 0
noncomputable def PySem.W.Fast.tw3241425108925905732 : Nat := 0
noncomputable def PySem.W.Fast.tw1035260143247206741 : Nat := 0
noncomputable def PySem.W.Fast.tw18382650322136482463 : Nat := 0
noncomputable def PySem.W.Fast.tw11479446435504783997 : Nat := 0
noncomputable def PySem.W.Fast.tw14891320011719222182 : Nat := 0
noncomputable def PySem.W.Fast.tw9759463526420219391 : Nat := 0
noncomputable def PySem.W.Fast.tw7804505888832614867 : Nat := 0
noncomputable def PySem.W.Fast.tw7032410413284528431 : Nat := 0
noncomputable def PySem.W.Fast.tw435694243031214645 : Nat := 0
noncomputable def PySem.W.Fast.tw6847061803164176285 : Nat := 0
noncomputable def PySem.W.Fast.tw14800874413349337490 : Nat := 0
noncomputable def PySem.W.Fast.tw14945428433072270898 : Nat := 0
noncomputable def PySem.W.Fast.tw3480217577956807747 : Nat := 0
noncomputable def PySem.W.Fast.tw6072328063651913880 : Nat := 0
noncomputable def PySem.W.Fast.tw2965476454221444822 : Nat := 0
noncomputable def PySem.W.Fast.tw10917557557383353678 : Nat := 0
noncomputable def PySem.W.Fast.tw3381996097853893151 : Nat := 0
noncomputable def PySem.W.Fast.tw15015044171872452973 : Nat := 0
noncomputable def PySem.W.Fast.tw5348874467855766108 : Nat := 0
noncomputable def PySem.W.Fast.tw14246351696805611103 : Nat := 0
noncomputable def PySem.W.Fast.tw16124632914173514597 : Nat := 0
noncomputable def PySem.W.Fast.tw14353522317558060827 : Nat := 0
noncomputable def PySem.W.Fast.tw15904219594132260679 : Nat := 0
noncomputable def PySem.W.Fast.tw12826764458896724584 : Nat := 0
noncomputable def PySem.W.Fast.tw14247357539600374657 : Nat := 0
noncomputable def PySem.W.Fast.tw18041907844044178477 : Nat := 0
noncomputable def PySem.W.Fast.tw12759447967708710219 : Nat := 0
noncomputable def PySem.W.Fast.tw9876525871794404969 : Nat := 0
noncomputable def PySem.W.Fast.tw2175324615790287039 : Nat := 0
noncomputable def PySem.W.Fast.tw7306531964693108318 : Nat := 0
noncomputable def PySem.W.Fast.tw5311869025245005561 : Nat := 0
noncomputable def PySem.W.Fast.tw18034562676526691527 : Nat := 0
noncomputable def PySem.W.Fast.tw11884451377733354553 : Nat := 0
noncomputable def PySem.W.Fast.tw3520898459931662325 : Nat := 0
noncomputable def PySem.W.Fast.tw900224043383786672 : Nat := 0
noncomputable def PySem.W.Fast.tw3553113017581812452 : Nat := 0
noncomputable def PySem.W.Fast.tw95376539867466128 : Nat := 0
noncomputable def PySem.W.Fast.tw8257290401879720925 : Nat := 0
noncomputable def PySem.W.Fast.tw11005311579954793225 : Nat := 0
noncomputable def PySem.W.Fast.tw5597908800974937384 : Nat := 0
noncomputable def PySem.W.Fast.tw14995251706259606538 : Nat := 0
noncomputable def PySem.W.Fast.tw9942692868462762496 : Nat := 0
noncomputable def PySem.W.Fast.tw16158626455063888856 : Nat := 0
noncomputable def PySem.W.Fast.tw13425297308146528093 : Nat := 0
noncomputable def PySem.W.Fast.tw9564071042706017844 : Nat := 0
noncomputable def PySem.W.Fast.tw1990680750974954140 : Nat := 0
noncomputable def PySem.W.Fast.tw4262023093297296354 : Nat := 0
noncomputable def PySem.W.Fast.tw9283743262475128526 : Nat := 0
noncomputable def PySem.W.Fast.tw12546745246723999121 : Nat := 0
noncomputable def PySem.W.Fast.tw700459496741248754 : Nat := 0
noncomputable def PySem.W.Fast.tw5382994142342064805 : Nat := 0
noncomputable def PySem.W.Fast.tw3402092726624652904 : Nat := 0
noncomputable def PySem.W.Fast.tw10060620594844683699 : Nat := 0
noncomputable def PySem.W.Fast.tw218306007004316181 : Nat := 0
noncomputable def PySem.W.Fast.tw10142981909034843530 : Nat := 0
noncomputable def PySem.W.Fast.tw2110995452563659159 : Nat := 0
noncomputable def PySem.W.Fast.tw1993953876679622098 : Nat := 0
noncomputable def PySem.W.Fast.tw15392157749910320548 : Nat := 0
noncomputable def PySem.W.Fast.tw9786551056163677607 : Nat := 0
noncomputable def PySem.W.Fast.tw13046761047754346698 : Nat := 0
noncomputable def PySem.W.Fast.tw11364716885099765923 : Nat := 0
noncomputable def PySem.W.Fast.tw7112688403645980704 : Nat := 0
noncomputable def PySem.W.Fast.tw14263584466856750773 : Nat := 0
noncomputable def PySem.W.Fast.tw17999600728431432045 : Nat := 0
noncomputable def PySem.W.Fast.tw12134570653919672964 : Nat := 0
noncomputable def PySem.W.Fast.tw6662160508823632075 : Nat := 0
noncomputable def PySem.W.Fast.tw7577108171069888844 : Nat := 0
noncomputable def PySem.W.Fast.tw11870022896486106754 : Nat := 0
noncomputable def PySem.W.Fast.tw6629442530067665749 : Nat := 0
noncomputable def PySem.W.Fast.tw16441490001598595477 : Nat := 0
noncomputable def PySem.W.Fast.tw7383759886150218328 : Nat := 0
noncomputable def PySem.W.Fast.tw2556609633590641318 : Nat := 0
noncomputable def PySem.W.Fast.tw3955210425186581041 : Nat := 0
noncomputable def PySem.W.Fast.tw728021223233233275 : Nat := 0
noncomputable def PySem.W.Fast.tw16400864996588395244 : Nat := 0
noncomputable def PySem.W.Fast.tw17875199093263846269 : Nat := 0
noncomputable def PySem.W.Fast.tw14241790803524230164 : Nat := 0
noncomputable def PySem.W.Fast.tw5045113090179980598 : Nat := 0
noncomputable def PySem.W.Fast.tw9568506734544133403 : Nat := 0
noncomputable def PySem.W.Fast.tw1911637244904264709 : Nat := 0
noncomputable def PySem.W.Fast.tw1069373296022105730 : Nat := 0
noncomputable def PySem.W.Fast.tw8169711723748331406 : Nat := 0
noncomputable def PySem.W.Fast.tw1408264481665427207 : Nat := 0
noncomputable def PySem.W.Fast.tw14064482968850549288 : Nat := 0
noncomputable def PySem.W.Fast.tw819792950048883805 : Nat := 0
noncomputable def PySem.W.Fast.tw12873809374227933932 : Nat := 0
noncomputable def PySem.W.Fast.tw3770860646949944815 : Nat := 0
noncomputable def PySem.W.Fast.tw12196085583978820316 : Nat := 0
noncomputable def PySem.W.Fast.tw16490754595056699000 : Nat := 0
noncomputable def PySem.W.Fast.tw13190021677295187839 : Nat := 0
noncomputable def PySem.W.Fast.tw11762130728498630054 : Nat := 0
noncomputable def PySem.W.Fast.tw11240835515790023542 : Nat := 0
noncomputable def PySem.W.Fast.tw17573442006479685991 : Nat := 0
noncomputable def PySem.W.Fast.tw1461027559590509328 : Nat := 0
noncomputable def PySem.W.Fast.tw16096241121387624392 : Nat := 0
noncomputable def PySem.W.Fast.tw15089246063520571251 : Nat := 0
noncomputable def PySem.W.Fast.tw17775466125838729094 : Nat := 0
noncomputable def PySem.W.Fast.tw1552158252946348497 : Nat := 0
noncomputable def PySem.W.Fast.tw12331899624016902758 : Nat := 0
noncomputable def PySem.W.Fast.tw8468024835858036911 : Nat := 0
noncomputable def PySem.W.Fast.tw15302613808236272002 : Nat := 0
noncomputable def PySem.W.Fast.tw16267119115728967748 : Nat := 0
noncomputable def PySem.W.Fast.tw15508536630443188766 : Nat := 0
noncomputable def PySem.W.Fast.tw13922989883689657828 : Nat := 0
noncomputable def PySem.W.Fast.tw12454416953918175572 : Nat := 0
noncomputable def PySem.W.Fast.tw9260327007449452843 : Nat := 0
noncomputable def PySem.W.Fast.tw3861037408952509571 : Nat := 0
noncomputable def PySem.W.Fast.tw8935561606287326901 : Nat := 0
noncomputable def PySem.W.Fast.tw14560331170559626620 : Nat := 0
noncomputable def PySem.W.Fast.tw2597974097187415707 : Nat := 0
noncomputable def PySem.W.Fast.tw4919979625930554718 : Nat := 0
noncomputable def PySem.W.Fast.tw10918585348346129217 : Nat := 0
noncomputable def PySem.W.Fast.tw8595069470601043095 : Nat := 0
noncomputable def PySem.W.Fast.tw10848169780474366241 : Nat := 0
noncomputable def PySem.W.Fast.tw16790841683575552272 : Nat := 0
noncomputable def PySem.W.Fast.tw1795959872189742045 : Nat := 0
noncomputable def PySem.W.Fast.tw40548083522814113 : Nat := 0
noncomputable def PySem.W.Fast.tw4386579297206544498 : Nat := 0
noncomputable def PySem.W.Fast.tw12167434464272316952 : Nat := 0
noncomputable def PySem.W.Fast.tw15060808295155557369 : Nat := 0
noncomputable def PySem.W.Fast.tw14715785576236089010 : Nat := 0
noncomputable def PySem.W.Fast.tw16746047991040793499 : Nat := 0
noncomputable def PySem.W.Fast.tw15756828228240415830 : Nat := 0
noncomputable def PySem.W.Fast.tw17899506043867824324 : Nat := 0
noncomputable def PySem.W.Fast.tw14832296805849997161 : Nat := 0
noncomputable def PySem.W.Fast.tw7222811607365450959 : Nat := 0
noncomputable def PySem.W.Fast.tw11366817642806145629 : Nat := 0
noncomputable def PySem.W.Fast.tw3746688089096038495 : Nat := 0
noncomputable def PySem.W.Fast.tw992775052531542859 : Nat := 0
noncomputable def PySem.W.Fast.tw6564903935770467446 : Nat := 0
noncomputable def PySem.W.Fast.tw8593564185293408607 : Nat := 0
noncomputable def PySem.W.Fast.tw17100799154387889956 : Nat := 0
noncomputable def PySem.W.Fast.tw10429558799386770342 : Nat := 0
noncomputable def PySem.W.Fast.tw7623912669313195825 : Nat := 0
noncomputable def PySem.W.Fast.tw18077403113929730532 : Nat := 0
noncomputable def PySem.W.Fast.tw772128285848260240 : Nat := 0
noncomputable def PySem.W.Fast.tw16173713952348746215 : Nat := 0
noncomputable def PySem.W.Fast.tw9502537283514573381 : Nat := 0
noncomputable def PySem.W.Fast.tw14626461172653766630 : Nat := 0
noncomputable def PySem.W.Fast.tw11152304705886149199 : Nat := 0
noncomputable def PySem.W.Fast.tw15598448450072186627 : Nat := 0
noncomputable def PySem.W.Fast.tw8590671504482817048 : Nat := 0
noncomputable def PySem.W.Fast.tw2953868111209825626 : Nat := 0
noncomputable def PySem.W.Fast.tw8716045658630801032 : Nat := 0
noncomputable def PySem.W.Fast.tw4426454294093006301 : Nat := 0
noncomputable def PySem.W.Fast.tw262953932341542064 : Nat := 0
open PySem PySem.W PyProof.Rows
set_option maxRecDepth 100000 in
set_option maxHeartbeats 0 in
theorem PySem.Challenge.cw_panethread_k25_whole_laid_by_least_sums_holds : PySem.Challenge.rw_panethread_k25_whole_laid_by_least_sums.Holds := by
  w_on; o_law; k_head; (case hw => w_witness2)
  k_fill
  refine L2.walkJ (l := PySem.Challenge.rw_panethread_k25_whole_laid_by_least_sums) (st := My.s_law) (k := 9) (x := "_law_script") (sp := My.spLaw) rfl rfl rfl ⟨rfl, by decide, by decide, rfl⟩ (fun w h Y => PySem.W.kIn_of Y) (fun _ _ _ _ _ _ us hl => L2.usN1 (fun _ => rfl) us hl) ?F (fun K H a ns hl hS => ⟨a, ns, rfl, hS, hl, fun _ => rfl⟩)
  case F =>
    intro w mg h KX G
    have b_bool : mg "bool" = none := by
      refine' PySem.W.mg_none_of KX G ?a
      (case a => k_is)
    have b_enumerate : mg "enumerate" = none := by
      refine' PySem.W.mg_none_of KX G ?a
      (case a => k_is)
    have b_int : mg "int" = none := by
      refine' PySem.W.mg_none_of KX G ?a
      (case a => k_is)
    have b_isinstance : mg "isinstance" = none := by
      refine' PySem.W.mg_none_of KX G ?a
      (case a => k_is)
    have b_len : mg "len" = none := by
      refine' PySem.W.mg_none_of KX G ?a
      (case a => k_is)
    have b_list : mg "list" = none := by
      refine' PySem.W.mg_none_of KX G ?a
      (case a => k_is)
    have b_max : mg "max" = none := by
      refine' PySem.W.mg_none_of KX G ?a
      (case a => k_is)
    have b_min : mg "min" = none := by
      refine' PySem.W.mg_none_of KX G ?a
      (case a => k_is)
    have b_range : mg "range" = none := by
      refine' PySem.W.mg_none_of KX G ?a
      (case a => k_is)
    have b_reversed : mg "reversed" = none := by
      refine' PySem.W.mg_none_of KX G ?a
      (case a => k_is)
    have b_sorted : mg "sorted" = none := by
      refine' PySem.W.mg_none_of KX G ?a
      (case a => k_is)
    have b_tuple : mg "tuple" = none := by
      refine' PySem.W.mg_none_of KX G ?a
      (case a => k_is)
    have b_zip : mg "zip" = none := by
      refine' PySem.W.mg_none_of KX G ?a
      (case a => k_is)
    have c_MOST_LINES : ∃ t, mg "MOST_LINES" = some (.int 96 t) := by
      refine' L2.const_mk KX G ?a ?h
      (case a => k_is); (case h => exact ⟨_, by with_unfolding_all rfl⟩)
    have d_is_number : L2.Def (L2.KOf KX) mg "is_number" My.s_is_number := by
      dsimp only [L2.KOf]
      refine' L2.def_mk KX G ?a ?l ?c ?k
      (case a => k_is); (case l => k_is); (case c => k_is); (case k => k_is)
    have d_is_within : L2.Def (L2.KOf KX) mg "is_within" My.s_is_within := by
      dsimp only [L2.KOf]
      refine' L2.def_mk KX G ?a ?l ?c ?k
      (case a => k_is); (case l => k_is); (case c => k_is); (case k => k_is)
    have d_need_place : L2.Def (L2.KOf KX) mg "need_place" My.s_need_place := by
      dsimp only [L2.KOf]
      refine' L2.def_mk KX G ?a ?l ?c ?k
      (case a => k_is); (case l => k_is); (case c => k_is); (case k => k_is)
    have d_is_turning : L2.Def (L2.KOf KX) mg "is_turning" My.s_is_turning := by
      dsimp only [L2.KOf]
      refine' L2.def_mk KX G ?a ?l ?c ?k
      (case a => k_is); (case l => k_is); (case c => k_is); (case k => k_is)
    have d_need_turning : L2.Def (L2.KOf KX) mg "need_turning" My.s_need_turning := by
      dsimp only [L2.KOf]
      refine' L2.def_mk KX G ?a ?l ?c ?k
      (case a => k_is); (case l => k_is); (case c => k_is); (case k => k_is)
    have d_opposite : L2.Def (L2.KOf KX) mg "opposite" My.s_opposite := by
      dsimp only [L2.KOf]
      refine' L2.def_mk KX G ?a ?l ?c ?k
      (case a => k_is); (case l => k_is); (case c => k_is); (case k => k_is)
    have d_do_steps : L2.Def (L2.KOf KX) mg "do_steps" My.s_do_steps := by
      dsimp only [L2.KOf]
      refine' L2.def_mk KX G ?a ?l ?c ?k
      (case a => k_is); (case l => k_is); (case c => k_is); (case k => k_is)
    have d_steps_of : L2.Def (L2.KOf KX) mg "steps_of" My.s_steps_of := by
      dsimp only [L2.KOf]
      refine' L2.def_mk KX G ?a ?l ?c ?k
      (case a => k_is); (case l => k_is); (case c => k_is); (case k => k_is)
    have d_need_alike : L2.Def (L2.KOf KX) mg "need_alike" My.s_need_alike := by
      dsimp only [L2.KOf]
      refine' L2.def_mk KX G ?a ?l ?c ?k
      (case a => k_is); (case l => k_is); (case c => k_is); (case k => k_is)
    have d_laid : L2.Def (L2.KOf KX) mg "laid" My.s_laid := by
      dsimp only [L2.KOf]
      refine' L2.def_mk KX G ?a ?l ?c ?k
      (case a => k_is); (case l => k_is); (case c => k_is); (case k => k_is)
    have d_middle : L2.Def (L2.KOf KX) mg "middle" My.s_middle := by
      dsimp only [L2.KOf]
      refine' L2.def_mk KX G ?a ?l ?c ?k
      (case a => k_is); (case l => k_is); (case c => k_is); (case k => k_is)
    have d_law_cell : L2.Def (L2.KOf KX) mg "_law_cell" My.s_law_cell := by
      dsimp only [L2.KOf]
      refine' L2.def_mk KX G ?a ?l ?c ?k
      (case a => k_is); (case l => k_is); (case c => k_is); (case k => k_is)
    have d_law_mix : L2.Def (L2.KOf KX) mg "_law_mix" My.s_law_mix := by
      dsimp only [L2.KOf]
      refine' L2.def_mk KX G ?a ?l ?c ?k
      (case a => k_is); (case l => k_is); (case c => k_is); (case k => k_is)
    have d_law_takes : L2.Def (L2.KOf KX) mg "_law_takes" My.s_law_takes := by
      dsimp only [L2.KOf]
      refine' L2.def_mk KX G ?a ?l ?c ?k
      (case a => k_is); (case l => k_is); (case c => k_is); (case k => k_is)
    have d_law_many : L2.Def (L2.KOf KX) mg "_law_many" My.s_law_many := by
      dsimp only [L2.KOf]
      refine' L2.def_mk KX G ?a ?l ?c ?k
      (case a => k_is); (case l => k_is); (case c => k_is); (case k => k_is)
    have d_law_turning : L2.Def (L2.KOf KX) mg "_law_turning" My.s_law_turning := by
      dsimp only [L2.KOf]
      refine' L2.def_mk KX G ?a ?l ?c ?k
      (case a => k_is); (case l => k_is); (case c => k_is); (case k => k_is)
    have d_law_whole : L2.Def (L2.KOf KX) mg "_law_whole" My.s_law_whole := by
      dsimp only [L2.KOf]
      refine' L2.def_mk KX G ?a ?l ?c ?k
      (case a => k_is); (case l => k_is); (case c => k_is); (case k => k_is)
    have d_law_list : L2.Def (L2.KOf KX) mg "_law_list" My.s_law_list := by
      dsimp only [L2.KOf]
      refine' L2.def_mk KX G ?a ?l ?c ?k
      (case a => k_is); (case l => k_is); (case c => k_is); (case k => k_is)
    have d_law_counts : L2.Def (L2.KOf KX) mg "_law_counts" My.s_law_counts := by
      dsimp only [L2.KOf]
      refine' L2.def_mk KX G ?a ?l ?c ?k
      (case a => k_is); (case l => k_is); (case c => k_is); (case k => k_is)
    have d_law_drawn : L2.Def (L2.KOf KX) mg "_law_drawn" My.s_law_drawn := by
      dsimp only [L2.KOf]
      refine' L2.def_mk KX G ?a ?l ?c ?k
      (case a => k_is); (case l => k_is); (case c => k_is); (case k => k_is)
    have d_law_least : L2.Def (L2.KOf KX) mg "_law_least" My.s_law_least := by
      dsimp only [L2.KOf]
      refine' L2.def_mk KX G ?a ?l ?c ?k
      (case a => k_is); (case l => k_is); (case c => k_is); (case k => k_is)
    have d_law_middle : L2.Def (L2.KOf KX) mg "_law_middle" My.s_law_middle := by
      dsimp only [L2.KOf]
      refine' L2.def_mk KX G ?a ?l ?c ?k
      (case a => k_is); (case l => k_is); (case c => k_is); (case k => k_is)
    have d_law_middles : L2.Def (L2.KOf KX) mg "_law_middles" My.s_law_middles := by
      dsimp only [L2.KOf]
      refine' L2.def_mk KX G ?a ?l ?c ?k
      (case a => k_is); (case l => k_is); (case c => k_is); (case k => k_is)
    have d_law_right : L2.Def (L2.KOf KX) mg "_law_right" My.s_law_right := by
      dsimp only [L2.KOf]
      refine' L2.def_mk KX G ?a ?l ?c ?k
      (case a => k_is); (case l => k_is); (case c => k_is); (case k => k_is)
    have d_law : L2.Def (L2.KOf KX) mg "law" My.s_law := by
      dsimp only [L2.KOf]
      refine' L2.def_mk KX G ?a ?l ?c ?k
      (case a => k_is); (case l => k_is); (case c => k_is); (case k => k_is)
    have x_NoPlace : L2.XTxt (L2.KOf KX) mg "NoPlace" ["found"] "NoPlace.__init__" My.i_NoPlace := by
      dsimp only [L2.KOf]
      refine' L2.xt_mk KX G ?a ?b ?kp ?na ?i ?t ?l ?c ?k
      (case a => k_is); (case b => kernel_rfl); (case kp => k_is); (case na => kernel_rfl); (case i => k_is); (case t => k_is); (case l => k_is); (case c => k_is); (case k => k_is)
    have x_NoTurning : L2.XTxt (L2.KOf KX) mg "NoTurning" ["found"] "NoTurning.__init__" My.i_NoTurning := by
      dsimp only [L2.KOf]
      refine' L2.xt_mk KX G ?a ?b ?kp ?na ?i ?t ?l ?c ?k
      (case a => k_is); (case b => kernel_rfl); (case kp => k_is); (case na => kernel_rfl); (case i => k_is); (case t => k_is); (case l => k_is); (case c => k_is); (case k => k_is)
    have x_Unlike : L2.XTxt (L2.KOf KX) mg "Unlike" ["one", "other"] "Unlike.__init__" My.i_Unlike := by
      dsimp only [L2.KOf]
      refine' L2.xt_mk KX G ?a ?b ?kp ?na ?i ?t ?l ?c ?k
      (case a => k_is); (case b => kernel_rfl); (case kp => k_is); (case na => kernel_rfl); (case i => k_is); (case t => k_is); (case l => k_is); (case c => k_is); (case k => k_is)
    exact ⟨d_law, fun base f fd F => My.ok_law ⟨b_bool, b_enumerate, b_int, b_isinstance, b_len, b_list, b_max, b_min, b_range, b_reversed, b_sorted, b_tuple, b_zip, c_MOST_LINES, d_is_number, d_is_within, d_need_place, d_is_turning, d_need_turning, d_opposite, d_do_steps, d_steps_of, d_need_alike, d_laid, d_middle, d_law_cell, d_law_mix, d_law_takes, d_law_many, d_law_turning, d_law_whole, d_law_list, d_law_counts, d_law_drawn, d_law_least, d_law_middle, d_law_middles, d_law_right, d_law, x_NoPlace, x_NoTurning, x_Unlike⟩ F⟩
