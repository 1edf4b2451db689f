import PyProof.Rows.All
import Wide.All
import OpenK.AllK
import Wide.FinOn
import Lean
import PyProof.EqAt
import PyProof.EqKinds
import PyProof.TupleCall
import PyProof.ReprRoads
import KE.KSortTup
import PySem.Challenge.RW_panethread_k35_whole_threads_of_all_stre
-- CHANGE: your row's module here, as the last of these rows
set_option compiler.extract_closed false
set_option Elab.async false
set_option linter.all false
set_option maxRecDepth 100000
namespace L2
@[elab_as_elim] theorem usN1 {p : List PySem.Value → Prop} (h : ∀ a0 : PySem.Value, p [a0]) (us : List PySem.Value) (hl : us.length = 1) : p us := by
  rcases us with _ | ⟨a0, us0⟩
  · cases hl
  rcases us0 with _ | ⟨b, us⟩
  · exact h a0
  · cases hl
@[elab_as_elim] theorem usN2 {p : List PySem.Value → Prop} (h : ∀ a0 a1 : PySem.Value, p [a0, a1]) (us : List PySem.Value) (hl : us.length = 2) : p us := by
  rcases us with _ | ⟨a0, us0⟩
  · cases hl
  rcases us0 with _ | ⟨a1, us1⟩
  · cases hl
  rcases us1 with _ | ⟨b, us⟩
  · exact h a0 a1
  · cases hl
@[elab_as_elim] theorem usN3 {p : List PySem.Value → Prop} (h : ∀ a0 a1 a2 : PySem.Value, p [a0, a1, a2]) (us : List PySem.Value) (hl : us.length = 3) : p us := by
  rcases us with _ | ⟨a0, us0⟩
  · cases hl
  rcases us0 with _ | ⟨a1, us1⟩
  · cases hl
  rcases us1 with _ | ⟨a2, us2⟩
  · cases hl
  rcases us2 with _ | ⟨b, us⟩
  · exact h a0 a1 a2
  · cases hl
@[elab_as_elim] theorem usN4 {p : List PySem.Value → Prop} (h : ∀ a0 a1 a2 a3 : PySem.Value, p [a0, a1, a2, a3]) (us : List PySem.Value) (hl : us.length = 4) : p us := by
  rcases us with _ | ⟨a0, us0⟩
  · cases hl
  rcases us0 with _ | ⟨a1, us1⟩
  · cases hl
  rcases us1 with _ | ⟨a2, us2⟩
  · cases hl
  rcases us2 with _ | ⟨a3, us3⟩
  · cases hl
  rcases us3 with _ | ⟨b, us⟩
  · exact h a0 a1 a2 a3
  · cases hl
@[elab_as_elim] theorem usN5 {p : List PySem.Value → Prop} (h : ∀ a0 a1 a2 a3 a4 : PySem.Value, p [a0, a1, a2, a3, a4]) (us : List PySem.Value) (hl : us.length = 5) : p us := by
  rcases us with _ | ⟨a0, us0⟩
  · cases hl
  rcases us0 with _ | ⟨a1, us1⟩
  · cases hl
  rcases us1 with _ | ⟨a2, us2⟩
  · cases hl
  rcases us2 with _ | ⟨a3, us3⟩
  · cases hl
  rcases us3 with _ | ⟨a4, us4⟩
  · cases hl
  rcases us4 with _ | ⟨b, us⟩
  · exact h a0 a1 a2 a3 a4
  · cases hl
theorem auto1 (h : True := by first | exact .inl rfl | exact .inr rfl | assumption) : True := h
theorem auto2 (h : True := by decide) : True := h
theorem auto3 (h : True := by intro _; rfl) : True := h
theorem auto4 (h : True := by rfl) : True := h
theorem auto5 (h : True := by decide +kernel) : True := h
open PySem PySem.Spec PyProof.Rows

noncomputable abbrev Key := Sum Int Str
noncomputable def keyIs : Key → Value → Bool
  | .inl k, v => Value.isInt k v
  | .inr x, v => Value.isStrOf x v
noncomputable def keyH (w : World) : Key → Int
  | .inl k => hashInt k
  | .inr x => hashStr w x
theorem keyIs_shape : ∀ {k : Key} {v : Value}, keyIs k v = true → (∃ i t, k = Sum.inl i ∧ v = Value.int i t) ∨ (∃ x t, k = Sum.inr x ∧ v = Value.str x t)
  | .inl i, v, h => by
    obtain ⟨t, e⟩ := Value.isInt_shape (k := i) (v := v) h
    exact .inl ⟨i, t, rfl, e⟩
  | .inr x, v, h => by
    obtain ⟨t, e⟩ := Value.isStrOf_shape (x := x) (v := v) h
    exact .inr ⟨x, t, rfl, e⟩
theorem key_ll (a b : Int) : decide ((Sum.inl a : Key) = Sum.inl b) = (a == b) := by
  by_cases e : a = b
  · subst e; simp
  · have h : ¬ (Sum.inl a : Key) = Sum.inl b := fun q => e (Sum.inl.inj q)
    rw [decide_eq_false h]
    exact (beq_eq_false_iff_ne.mpr e).symm
theorem key_rr (a b : Str) : decide ((Sum.inr a : Key) = Sum.inr b) = decide (a = b) := by
  by_cases e : a = b
  · subst e; simp
  · have h : ¬ (Sum.inr a : Key) = Sum.inr b := fun q => e (Sum.inr.inj q)
    rw [decide_eq_false h, decide_eq_false e]
theorem key_lr (a : Int) (b : Str) : decide ((Sum.inl a : Key) = Sum.inr b) = false := decide_eq_false (fun q => nomatch q)
theorem key_rl (a : Str) (b : Int) : decide ((Sum.inr a : Key) = Sum.inl b) = false := decide_eq_false (fun q => nomatch q)

noncomputable def mixKind (prog : Program) (w : World) : PySem.KeyKind prog w Key where
  is := keyIs
  hash := keyH w
  inj := fun v a b ha hb => by
    rcases keyIs_shape ha with ⟨i, t, rfl, rfl⟩ | ⟨x, t, rfl, rfl⟩
    · rcases keyIs_shape hb with ⟨j, u, rfl, e⟩ | ⟨y, u, rfl, e⟩
      · injection e with e1 _; rw [e1]
      · exact nomatch e
    · rcases keyIs_shape hb with ⟨j, u, rfl, e⟩ | ⟨y, u, rfl, e⟩
      · exact nomatch e
      · injection e with e1 _; rw [e1]
  byValue := fun k v h => by
    rcases keyIs_shape h with ⟨i, t, rfl, rfl⟩ | ⟨x, t, rfl, rfl⟩ <;> rfl
  pyHash := fun hv h => by
    rcases keyIs_shape hv with ⟨i, t, rfl, rfl⟩ | ⟨x, t, rfl, rfl⟩
    · exact wpAny_pyHash_int h
    · exact wpAny_pyHash_str h
  eqBool := fun hu hv h => by
    rcases keyIs_shape hu with ⟨i, t, rfl, rfl⟩ | ⟨x, t, rfl, rfl⟩
    · rcases keyIs_shape hv with ⟨j, u, rfl, rfl⟩ | ⟨y, u, rfl, rfl⟩
      · rw [key_ll] at h; exact wpAny_eqBool_int h
      · rw [key_lr] at h; exact SeqAt.EqAt.int_str i t y u _ _ _ _ h
    · rcases keyIs_shape hv with ⟨j, u, rfl, rfl⟩ | ⟨y, u, rfl, rfl⟩
      · rw [key_rl] at h; exact SeqAt.EqAt.str_int x t j u _ _ _ _ h
      · rw [key_rr] at h; exact wpAny_eqBool_str h
  «strs» := fun k x t v h => by
    rcases keyIs_shape h with ⟨i, u, rfl, e⟩ | ⟨y, u, rfl, e⟩
    · exact nomatch e
    · injection e with e1 _
      subst e1
      cases v <;> rfl

end L2

namespace L2
open PySem PySem.Spec PyProof.Rows

inductive V where
  | non | bl (b : Bool) | int (i : Int) | str (x : Str) | byt (b : Array UInt8) | flt (b : UInt64) | ref (a : Addr) | ty (n : String)
  deriving DecidableEq

noncomputable def RelV : V → Value → Prop
  | .non, u => u = Value.none
  | .bl b, u => u = Value.bool b
  | .int i, u => ∃ t, u = Value.int i t
  | .str x, u => ∃ t, u = Value.str x t
  | .byt b, u => ∃ t, u = Value.bytes b t
  | .flt b, u => ∃ t, u = Value.float b t
  | .ref a, u => u = Value.ref a
  | .ty n, u => u = Value.type n

noncomputable abbrev Vals : List V → List Value → Prop := Paired RelV
theorem Vals.length {xs : List V} {us : List Value} (r : Vals xs us) : xs.length = us.length := Paired.length r
theorem Vals.get : ∀ {xs : List V} {us : List Value} {i : Nat} {x : V}, Vals xs us → xs[i]? = some x → ∃ u, us[i]? = some u ∧ RelV x u
  | _, _, _, _, .nil, e => by simp at e
  | _, _, 0, _, .cons r _, e => by simp at e; subst e; exact ⟨_, rfl, r⟩
  | _, _, i + 1, x, .cons _ t, e => by
    obtain ⟨u, h1, h2⟩ := Vals.get (i := i) (x := x) t (by simpa using e)
    exact ⟨u, by simpa using h1, h2⟩
theorem Vals.set {x : V} {u : Value} (r : RelV x u) : ∀ {xs : List V} {us : List Value} (i : Nat), Vals xs us → Vals (xs.set i x) (us.set i u)
  | _, _, _, .nil => .nil
  | _, _, 0, .cons _ t => .cons r t
  | _, _, i + 1, .cons q t => .cons q (Vals.set r i t)
theorem Vals.append : ∀ {xs ys : List V} {us ws : List Value}, Vals xs us → Vals ys ws → Vals (xs ++ ys) (us ++ ws)
  | _, _, _, _, .nil, s => s
  | _, _, _, _, .cons r t, s => .cons r (Vals.append t s)
theorem Vals.take : ∀ {xs : List V} {us : List Value} (n : Nat), Vals xs us → Vals (xs.take n) (us.take n)
  | _, _, 0, _ => .nil
  | _, _, _ + 1, .nil => .nil
  | _, _, n + 1, .cons r t => .cons r (Vals.take n t)
theorem Vals.drop : ∀ {xs : List V} {us : List Value} (n : Nat), Vals xs us → Vals (xs.drop n) (us.drop n)
  | _, _, 0, r => r
  | _, _, _ + 1, .nil => .nil
  | _, _, n + 1, .cons _ t => Vals.drop n t
noncomputable def RelO : Option V → Option Value → Prop
  | some v, some u => RelV v u
  | none, none => True
  | _, _ => False
noncomputable def KV {κ : Type} : List (κ × V) → List (κ × Value) → Prop := Paired fun (p : κ × V) (q : κ × Value) => p.1 = q.1 ∧ RelV p.2 q.2

noncomputable def kV : Key → V
  | .inl i => .int i
  | .inr x => .str x

inductive HO where
  /-- a list -/
  | lst (xs : List V)
  /-- a tuple (never changes) -/
  | tup (xs : List V)
  /-- a dict whose keys are ints and texts; one whose keys are tuples of ints and texts (the empty one is both) -/
  | dK (kvs : List (Key × V)) | dT (kvs : List (List Key × V))
  /-- a set of ints: its members, its size -/
  | set (S : Int → Bool) (n : Nat)
  /-- an instance of the class at C, its dict at dx, its attributes -/
  | ins (C dx : Addr) (fs : List (Str × V))
  /-- the dict of the instance at x -/
  | own (x : Addr)
  /-- the dict of an exception -/
  | xd (fs : List (Str × V))
  /-- a bound method, f of x -/
  | met (f x : Addr)
  /-- a range object lo, lo + 1, .. below hi -/
  | rng (lo hi : Int)
  /-- a thing that is known to the object (the script; a dict while a loop walks it): read, never written while it is so -/
  | frz (o : Obj) (u : HO)
  /-- a code object's table -/
  | tbl (ps : Array Value)
  /-- any other thing, by what is true of its one object (a def of one's own: SetO a S n := HO.ext fun h => ..) -/
  | ext (φ : Heap → Prop)

noncomputable abbrev Hp := Addr → Option HO
noncomputable def upd (H : Hp) (a : Addr) (o : HO) : Hp := fun b => if b = a then some o else H b
theorem upd_same {H : Hp} {a : Addr} {o : HO} : upd H a o a = some o := by unfold upd; rw [if_pos rfl]
theorem upd_ne {H : Hp} {a b : Addr} {o : HO} (h : b ≠ a) : upd H a o b = H b := by unfold upd; rw [if_neg h]
theorem ne_of_none {H : Hp} {a b : Addr} {o : HO} (h : H a = some o) (h' : H b = none) : a ≠ b := by
  intro e; subst e; rw [h] at h'; cases h'

section
variable (P : Program) (w : World)
noncomputable def ObjOk (H : Hp) (h : Heap) (a : Addr) : HO → Prop
  | .lst xs => xs.length ≤ sizeLine ∧ ∃ (its : List Value) (n : Nat), Vals xs its ∧ h.get? a = some { cls := .type "list", data := .seq its.toArray n }
  | .tup xs => xs.length ≤ sizeLine ∧ ∃ its : List Value, Vals xs its ∧ IsTup h a its.toArray
  | .dK kvs => kvs.length ≤ sizeLine ∧ (a == sysModules) = false ∧ ∃ vs, KV kvs vs ∧ h.DictOf (mixKind P w) a vs
  | .dT kvs => kvs.length ≤ sizeLine ∧ (a == sysModules) = false ∧ ∃ xs : List (List Key × Addr × Value),
      Paired (fun (p : List Key × V) (q : List Key × Addr × Value) => p.1 = q.1 ∧ H q.2.1 = some (.tup (p.1.map kV)) ∧ RelV p.2 q.2.2) kvs xs ∧
      ∃ o es ep, h.get? a = some o ∧ o.ExactDict ∧ o.data = .dict es ep ∧ es.toList = xs.map (entryOfKey (tupleKind (mixKind P w))) ∧ (xs.map (·.1)).Nodup
  | .set S n => h.SetOf (intKind P w) a S n
  | .ins C dx fs => H dx = some (.own a) ∧ fs.length ≤ 1000 ∧ dx ≠ a ∧ h.get? a = some (PySem.W.instObj C dx) ∧
      ∃ mA, h.Ns1 dx mA ∧ (∀ f, RelO (fs.lookup f) (mA f)) ∧ PySem.Within mA (fs.map (·.1))
  | .own _ => ∃ o, h.get? a = some o
  | .xd fs => ∃ mA, h.Ns1 a mA ∧ ∀ f, RelO (fs.lookup f) (mA f)
  | .rng lo hi => ∃ t u v, h.get? a = some { cls := .type "range", data := .fields #[.int lo t, .int hi u, .int 1 v] }
  | .frz o u => h.get? a = some o ∧ ObjOk H h a u
  | .tbl ps => h.get? a = some { cls := .none, data := .fields ps }
  | .met f x => h.get? a = some (PySem.W.methodObj (.ref f) (.ref x))
  | .ext φ => φ h ∧ (∃ o, h.get? a = some o) ∧ ∀ h1 h2 : Heap, φ h1 → (∀ o, h1.get? a = some o → h2.get? a = some o) → φ h2
noncomputable def HOk (H : Hp) (h : Heap) : Prop := ∀ a o, H a = some o → ObjOk P w H h a o
end

section
variable {P : Program} {w : World} {H H' : Hp} {h h' : Heap} {a : Addr} {o : HO}
theorem ObjOk.lt (x : ObjOk P w H h a o) : a < h.objs.size := by
  cases o with
  | lst xs => obtain ⟨_, _, _, _, e⟩ := x; exact Heap.lt_size e
  | tup xs => obtain ⟨_, _, _, p⟩ := x; exact p.lt
  | dK kvs => obtain ⟨_, _, _, _, o, _, _, e, _⟩ := x; exact Heap.lt_size e
  | dT kvs => obtain ⟨_, _, _, _, o, _, _, e, _⟩ := x; exact Heap.lt_size e
  | set S n => obtain ⟨o, _, _, _, e, _⟩ := x; exact Heap.lt_size e
  | ins C dx fs => obtain ⟨_, _, _, e, _⟩ := x; exact Heap.lt_size e
  | own y => obtain ⟨_, e⟩ := x; exact Heap.lt_size e
  | xd fs => obtain ⟨_, ⟨_, _, _, e, _⟩, _⟩ := x; exact Heap.lt_size e
  | rng lo hi => obtain ⟨_, _, _, e⟩ := x; exact Heap.lt_size e
  | frz ob u => obtain ⟨e, _⟩ := x; exact Heap.lt_size e
  | tbl ps => exact Heap.lt_size (show h.get? a = some _ from x)
  | met f y => exact Heap.lt_size (show h.get? a = some _ from x)
  | ext φ => obtain ⟨_, ⟨_, e⟩, _⟩ := x; exact Heap.lt_size e
theorem Paired.mapP {α β : Type} {F G : α → β → Prop} : ∀ {l₁ : List α} {l₂ : List β}, Paired F l₁ l₂ → (∀ a b, F a b → G a b) → Paired G l₁ l₂
  | _, _, .nil, _ => .nil
  | _, _, .cons r t, f => .cons (f _ _ r) (Paired.mapP t f)
theorem ObjOk.stay (x : ObjOk P w H h a o) (k : ∀ b u, (b = a ∨ H b = some (.own a)) → h.get? b = some u → h'.get? b = some u)
    (ho : ∀ b, H b = some (.own a) → H' b = some (.own a)) (ht : ∀ b xs, H b = some (.tup xs) → H' b = some (.tup xs)) : ObjOk P w H' h' a o := by
  induction o with
  | lst xs => obtain ⟨z, its, n, r, e⟩ := x; exact ⟨z, its, n, r, k _ _ (.inl rfl) e⟩
  | tup xs => obtain ⟨z, its, r, ob, e, c⟩ := x; exact ⟨z, its, r, ob, k _ _ (.inl rfl) e, c⟩
  | dK kvs => obtain ⟨z, y, vs, r, ob, es, ep, e, c⟩ := x; exact ⟨z, y, vs, r, ob, es, ep, k _ _ (.inl rfl) e, c⟩
  | dT kvs =>
    obtain ⟨z, y, xs, r, ob, es, ep, e, c⟩ := x
    exact ⟨z, y, xs, Paired.mapP r fun p q z => ⟨z.1, ht _ _ z.2.1, z.2.2⟩, ob, es, ep, k _ _ (.inl rfl) e, c⟩
  | set S n => obtain ⟨ob, es, ep, t, e, c⟩ := x; exact ⟨ob, es, ep, t, k _ _ (.inl rfl) e, c⟩
  | ins C dx fs =>
    obtain ⟨d, z, ne, e, mA, ⟨od, es, ep, e2, c⟩, r⟩ := x
    exact ⟨ho _ d, z, ne, k _ _ (.inl rfl) e, mA, ⟨od, es, ep, k _ _ (.inr d) e2, c⟩, r⟩
  | own y => obtain ⟨ob, e⟩ := x; exact ⟨ob, k _ _ (.inl rfl) e⟩
  | xd fs => obtain ⟨mA, ⟨od, es, ep, e, c⟩, r⟩ := x; exact ⟨mA, ⟨od, es, ep, k _ _ (.inl rfl) e, c⟩, r⟩
  | rng lo hi => obtain ⟨t, u, v, e⟩ := x; exact ⟨t, u, v, k _ _ (.inl rfl) e⟩
  | frz ob u ih => obtain ⟨e, q⟩ := x; exact ⟨k _ _ (.inl rfl) e, ih q⟩
  | tbl ps =>
    have e : h.get? a = some { cls := .none, data := .fields ps } := x
    show h'.get? a = some { cls := .none, data := .fields ps }
    exact k a _ (.inl rfl) e
  | met f y =>
    have e : h.get? a = some (PySem.W.methodObj (.ref f) (.ref y)) := x
    show h'.get? a = some (PySem.W.methodObj (.ref f) (.ref y))
    exact k a _ (.inl rfl) e
  | ext φ => obtain ⟨p, ⟨o, e⟩, st⟩ := x; exact ⟨st _ _ p fun o q => k _ _ (.inl rfl) q, ⟨o, k _ _ (.inl rfl) e⟩, st⟩
theorem HOk.lt (x : HOk P w H h) (e : H a = some o) : a < h.objs.size := (x a o e).lt
theorem HOk.fresh (x : HOk P w H h) (e : h.objs.size ≤ a) : H a = none := by
  cases q : H a with
  | none => rfl
  | some u => exact absurd (Nat.lt_of_lt_of_le (x.lt q) e) (Nat.lt_irrefl _)
theorem HOk.kept (x : HOk P w H h) (k : ∀ b u, h.get? b = some u → h'.get? b = some u) : HOk P w H h' := fun a o e =>
  (x a o e).stay (fun b u _ q => k b u q) (fun _ q => q) fun _ _ q => q
theorem HOk.laid (x : HOk P w H h) (k : ∀ b u, h.get? b = some u → h'.get? b = some u) (hp : h.objs.size ≤ a) (new : ObjOk P w (upd H a o) h' a o) : HOk P w (upd H a o) h' := fun b u e => by
  have hn := x.fresh hp
  by_cases hb : b = a
  · subst hb; rw [upd_same] at e; cases e; exact new
  · rw [upd_ne hb] at e
    exact (x b u e).stay (fun c v _ q => k c v q) (fun c q => by rw [upd_ne (ne_of_none q hn)]; exact q) fun c xs q => by rw [upd_ne (ne_of_none q hn)]; exact q
end

noncomputable def Rd (H : Hp) (a : Addr) (u : HO) : Prop := H a = some u ∨ ∃ o, H a = some (.frz o u)
theorem Rd.ok {P : Program} {w : World} {H : Hp} {h : Heap} {a : Addr} {u : HO} (r : Rd H a u) (x : HOk P w H h) : ObjOk P w H h a u := by
  rcases r with r | ⟨o, r⟩
  · exact x a u r
  · obtain ⟨_, q⟩ := x a _ r
    exact q
noncomputable def Mut : Option HO → Prop
  | some (.lst _) => True
  | some (.dK _) => True
  | some (.dT _) => True
  | some (.set _ _) => True
  | some (.ins _ _ _) => True
  | some (.ext _) => True
  | _ => False
section
variable {P : Program} {w : World} {H : Hp} {h h' : Heap} {x e : Addr} {o' : HO}
theorem HOk.write (ok : HOk P w H h) (mu : Mut (H x)) (he : e = x ∨ H e = some (.own x)) (k : ∀ b u, b ≠ e → h.get? b = some u → h'.get? b = some u) (heo : ∃ u, h'.get? e = some u)
    (new : ObjOk P w (upd H x o') h' x o') : HOk P w (upd H x o') h' := fun b u q => by
  have nown : ∀ c y, H c = some (.own y) → c ≠ x := fun c y r z => by subst z; rw [r] at mu; exact mu
  have ntup : ∀ c xs, H c = some (.tup xs) → c ≠ x := fun c xs r z => by subst z; rw [r] at mu; exact mu
  by_cases hb : b = x
  · subst hb; rw [upd_same] at q; cases q; exact new
  · rw [upd_ne hb] at q
    by_cases hbe : b = e
    · have q' : H b = some (.own x) := by
        rcases he with z | z
        · exact absurd (hbe.trans z) hb
        · rw [hbe]; exact z
      rw [q] at q'; cases q'
      obtain ⟨v, hv⟩ := heo
      exact ⟨v, by rw [hbe]; exact hv⟩
    · refine (ok b u q).stay (fun c v hc r => k c v ?_ r) (fun c r => by rw [upd_ne (nown c b r)]; exact r) fun c xs r => by rw [upd_ne (ntup c xs r)]; exact r
      rcases hc with rfl | hc
      · exact hbe
      · rintro rfl
        rcases he with z | z
        · exact nown c b hc z
        · rw [hc] at z; cases z; exact hb rfl
end

structure Un (fs ex : List Addr) (H H' : Hp) (h h' : Heap) : Prop where
  keep : ∀ b o, h.get? b = some o → H b = none → b ∉ fs → b ∉ ex → h'.get? b = some o
  slot : ∀ b o, h.get? b = some o → H b = none → b ∈ fs → b ∉ ex → ∃ sl, h'.get? b = some { o with slots := sl }
  free : ∀ b o, h.get? b = some o → H b = none → b ∉ ex → H' b = none
  there : ∀ b o, h.get? b = some o → b ∉ ex → ∃ o', h'.get? b = some o'
  tups : ∀ b xs, H b = some (.tup xs) → H' b = some (.tup xs)
  frzs : ∀ b o u, H b = some (.frz o u) → H' b = some (.frz o u)
  tbls : ∀ b ps, H b = some (.tbl ps) → ∃ more, H' b = some (.tbl (ps ++ more))
section
variable {fs fs' ex ex' : List Addr} {H H1 H2 : Hp} {h h1 h2 h' : Heap} {a x e : Addr} {o : HO}
theorem Un.any (u : Un fs ex H H1 h h1) {b : Addr} {ob : Obj} (q : h.get? b = some ob) (n : H b = none) (hx : b ∉ ex) : ∃ sl, h1.get? b = some { ob with slots := sl } := by
  by_cases hb : b ∈ fs
  · exact u.slot b ob q n hb hx
  · exact ⟨ob.slots, u.keep b ob q n hb hx⟩
theorem Un.kept (k : ∀ b u, h.get? b = some u → h'.get? b = some u) : Un fs ex H H h h' :=
  ⟨fun b ob q _ _ _ => k b ob q, fun b ob q _ _ _ => ⟨ob.slots, k b ob q⟩, fun _ _ _ n _ => n, fun b ob q _ => ⟨ob, k b ob q⟩, fun _ _ q => q, fun _ _ _ q => q, fun _ ps q => ⟨#[], by rw [q]; simp⟩⟩
theorem Un.refl : Un fs ex H H h h := Un.kept fun _ _ q => q
theorem Un.laid (k : ∀ b u, h.get? b = some u → h'.get? b = some u) (hp : h.objs.size ≤ a) (hn : H a = none) : Un fs ex H (upd H a o) h h' where
  keep := fun b u q _ _ _ => k b u q
  slot := fun b u q _ _ _ => ⟨u.slots, k b u q⟩
  free := fun b u q n _ => by rw [upd_ne (Nat.ne_of_lt (Nat.lt_of_lt_of_le (Heap.lt_size q) hp))]; exact n
  there := fun b u q _ => ⟨u, k b u q⟩
  tups := fun b xs q => by rw [upd_ne (ne_of_none q hn)]; exact q
  frzs := fun b u xs q => by rw [upd_ne (ne_of_none q hn)]; exact q
  tbls := fun b ps q => ⟨#[], by rw [upd_ne (ne_of_none q hn), q]; simp⟩
theorem Un.write (mu : Mut (H x)) (he : e = x ∨ H e = some (.own x)) (k : ∀ b u, b ≠ e → h.get? b = some u → h'.get? b = some u) (heo : ∃ u, h'.get? e = some u) : Un fs ex H (upd H x o) h h' := by
  have hx : ∀ b, H b = none → b ≠ x := fun b n z => by subst z; rw [n] at mu; exact mu
  have hb : ∀ b, H b = none → b ≠ e := fun b n z => by
    subst z
    rcases he with r | r
    · exact hx b n r
    · rw [n] at r; cases r
  have hm : ∀ b u, H b = some u → ¬ Mut (some u) → b ≠ x := fun b u q nm z => by subst z; rw [q] at mu; exact nm mu
  refine ⟨fun b u q n _ _ => k b u (hb b n) q, fun b u q n _ _ => ⟨u.slots, k b u (hb b n) q⟩, fun b u q n _ => by rw [upd_ne (hx b n)]; exact n, fun b u q _ => ?_,
    fun b xs q => by rw [upd_ne (hm b _ q fun z => z)]; exact q, fun b u xs q => by rw [upd_ne (hm b _ q fun z => z)]; exact q, fun b ps q => ⟨#[], by rw [upd_ne (hm b _ q fun z => z), q]; simp⟩⟩
  by_cases hbe : b = e
  · subst hbe; exact heo
  · exact ⟨u, k b u hbe q⟩
end

noncomputable def trk (h : Heap) (H : Hp) : List Addr := (List.range h.objs.size).filter fun a => (H a).isSome
noncomputable def hidT (h : Heap) (H : Hp) : Heap := PySem.W.hideAll h (trk h H)
theorem hidT_size (h : Heap) (H : Hp) : (hidT h H).objs.size = h.objs.size := PySem.W.hideAll_size _ _
theorem hidT_get {h : Heap} {H : Hp} {b : Addr} {o : Obj} (e : h.get? b = some o) (n : H b = none) : (hidT h H).get? b = some o :=
  PySem.W.hideAll_get _ e fun hm => by
    have q : (H b).isSome = true := (List.mem_filter.mp hm).2
    rw [n] at q; simp at q
theorem of_hidT {h : Heap} {H : Hp} {b : Addr} {o : Obj} (e : (hidT h H).get? b = some o) : h.get? b = some o ∧ H b = none := by
  have e' : h.get? b = some o := PySem.W.of_hideAll (trk h H) e
  refine ⟨e', ?_⟩
  cases q : H b with
  | none => rfl
  | some x =>
    have hm : b ∈ trk h H := List.mem_filter.mpr ⟨List.mem_range.mpr (Heap.lt_size e'), by simp [q]⟩
    have z : (hidT h H).get? b = none := PySem.W.hideAll_none (trk h H) hm
    rw [z] at e; cases e

end L2

namespace L2
open PySem PySem.Spec PyProof.Rows

structure Mod (K : PySem.W.Frag) (mg : Str → Option Value) (base : Heap) : Prop where
  kin : K.In base
  glob : base.Ns mainGlobals mg
  blt : ∃ mb, base.Ns builtinsNs mb ∧ ∀ x : Str, x ≠ "__name__" → mb x = bootBuiltins x
  nolimit : base.NoLimit
  sysm : ∃ mm, base.Ns sysModules mm

structure Cx where
  prog : Program
  w : World
  K : PySem.W.Frag
  mg : Str → Option Value
  base : Heap
  A : Around
  N : List Str
  s₀ : Shared
  H₀ : Hp
  env : Env
  outer : List Env
  stack : List Env
  ex : List Addr
  fn : Str → Bool
  calm : Bool
  pn : List (Addr × Obj)
  xe : Value → Shared → Prop
noncomputable def frs (l : List Env) : List Addr := l.filterMap (·.frame)
noncomputable abbrev Cx.fs (X : Cx) : List Addr := frs X.outer

noncomputable def Vis (sc : Scope) (x : Str) : Prop := sc.names.lookup x = some .local ∨ sc.names.lookup x = some .cell ∨ sc.names.lookup x = some .free
noncomputable def Loc (sc : Scope) (x : Str) : Prop := sc.names.lookup x = some .local ∨ sc.names.lookup x = some .cell
noncomputable def Look (env : Env) (h : Heap) (m : Str → Option Value) (x : Str) (u : Value) : Prop :=
  (env.kindOf x = some .local ∧ m x = some u) ∨ ((env.kindOf x = some .cell ∨ env.kindOf x = some .free) ∧ ∃ c, env.cells.lookup x = some c ∧ h.IsCell c (some u))

structure Cx.Ok (X : Cx) : Prop where
  mod : Mod X.K X.mg X.base
  kind : X.env.scope.kind = .function
  glob : X.env.globals = mainGlobals
  blt : X.env.builtins = builtinsNs
  above : X.s₀.heap.objs.size ≤ X.env.locals
  inj : ∀ x y c, X.env.cells.lookup x = some c → X.env.cells.lookup y = some c → x = y
  has : ∀ x, (X.env.kindOf x = some .cell ∨ X.env.kindOf x = some .free) → ∃ c, X.env.cells.lookup x = some c
  cab : ∀ x c, X.fn x = true → X.env.cells.lookup x = some c → X.s₀.heap.objs.size ≤ c
  hd : X.calm = true → X.A.handled = none
  frames : X.A.frames = some X.stack
  stk : X.stack = X.outer ∨ (X.stack = X.env :: X.outer ∧ X.env.frame = some X.env.locals)
  exf : ∀ b ∈ X.ex, b ≠ X.env.locals ∧ ∀ x c, X.env.cells.lookup x = some c → c ≠ b
  bs : ∀ b o, X.base.get? b = some o → X.s₀.heap.get? b = some o ∧ X.H₀ b = none
  bsz : X.base.objs.size ≤ X.s₀.heap.objs.size
  noex : ∀ b o, X.base.get? b = some o → b ∉ X.ex
  exfs : ∀ b ∈ X.ex, b ∉ X.fs
  funs : X.s₀.heap.FunFrames X.base X.outer
  frf : ∀ b ∈ X.fs, X.H₀ b = none

structure Inv (X : Cx) (pins : List (Addr × Obj)) (σ : List (Option V)) (H : Hp) (s : Shared) : Prop where
  ok : X.Ok
  os : s.os = X.s₀.os
  bare : AllBare s.gens
  base : Un X.fs X.ex X.H₀ H X.s₀.heap s.heap
  loc : ∃ m, s.heap.Ns X.env.locals m ∧ ∀ (i : Nat) (x : Str) (v : V), X.N[i]? = some x → σ[i]? = some (some v) → Vis X.env.scope x → ∃ u, RelV v u ∧ Look X.env s.heap m x u
  cell : ∀ x c, X.env.cells.lookup x = some c → ∃ v, s.heap.IsCell c v
  free : H X.env.locals = none
  freeC : ∀ x c, X.env.cells.lookup x = some c → H c = none
  pin : ∀ p ∈ X.pn ++ pins, s.heap.get? p.1 = some p.2 ∧ H p.1 = none ∧ p.1 ≠ X.env.locals ∧ p.1 ∉ X.fs ∧ ∀ v, p.2.data ≠ .cell v
  hok : HOk X.prog X.w H s.heap
  len : σ.length = X.N.length

section
variable {X : Cx} {pins : List (Addr × Obj)} {σ : List (Option V)} {H H' : Hp} {s : Shared} {h' : Heap}

theorem Cx.Ok.nofr (ok : X.Ok) {b : Addr} {o : Obj} (e : X.base.get? b = some o) : b ∉ X.fs := fun hb => by
  have := (ok.funs.mem hb).1
  rw [e] at this; cases this
theorem Inv.bs (I : Inv X pins σ H s) : ∀ b o, X.base.get? b = some o → s.heap.get? b = some o ∧ H b = none := fun b o e =>
  ⟨I.base.keep b o (I.ok.bs b o e).1 (I.ok.bs b o e).2 (I.ok.nofr e) (I.ok.noex b o e), I.base.free b o (I.ok.bs b o e).1 (I.ok.bs b o e).2 (I.ok.noex b o e)⟩
theorem Inv.bk (I : Inv X pins σ H s) : ∀ b o, X.base.get? b = some o → s.heap.get? b = some o := fun b o e => (I.bs b o e).1
theorem Inv.mod (I : Inv X pins σ H s) : Mod X.K X.mg X.base := I.ok.mod
theorem Inv.kIn (I : Inv X pins σ H s) : X.K.In s.heap := I.ok.mod.kin.keeps I.bk
theorem Inv.lt (I : Inv X pins σ H s) : X.env.locals < s.heap.objs.size := let ⟨_, hn, _⟩ := I.loc; hn.lt
theorem Inv.sz (I : Inv X pins σ H s) : X.s₀.heap.objs.size ≤ s.heap.objs.size := Nat.le_trans I.ok.above (Nat.le_of_lt I.lt)
theorem Inv.nofs (I : Inv X pins σ H s) {a : Addr} (h : s.heap.objs.size ≤ a) : a ∉ X.fs := fun hb => by
  obtain ⟨_, o, ho, _⟩ := I.ok.funs.mem hb
  exact absurd (Nat.lt_of_lt_of_le (Heap.lt_size ho) (Nat.le_trans I.sz h)) (Nat.lt_irrefl _)
theorem Inv.cne (I : Inv X pins σ H s) : ∀ x c, X.env.cells.lookup x = some c → c ≠ X.env.locals := fun x c e z => by
  obtain ⟨v, o, ho, hd⟩ := I.cell x c e
  obtain ⟨m, ⟨o', es, ep, ho', hd', _⟩, _⟩ := I.loc
  rw [z, ho'] at ho; cases ho; rw [hd'] at hd; cases hd
theorem Inv.funs (I : Inv X pins σ H s) : s.heap.FunFrames X.base X.outer := by
  have all : ∀ (l : List Env), (∀ b ∈ frs l, b ∈ X.fs) → X.s₀.heap.FunFrames X.base l → s.heap.FunFrames X.base l := by
    intro l
    induction l with
    | nil => intro _ _; trivial
    | cons env r ih =>
      intro hs hl
      obtain ⟨hk, ⟨L, o, hf, hn, ho, hd⟩, hr⟩ := hl
      have hL : L ∈ X.fs := hs L (by unfold frs; rw [List.filterMap_cons, hf]; exact List.mem_cons_self)
      obtain ⟨sl, e⟩ := I.base.slot L o ho (I.ok.frf L hL) hL fun z => I.ok.exfs L z hL
      exact ⟨hk, ⟨L, _, hf, hn, e, hd⟩, ih (fun b hb => hs b (by unfold frs; rw [List.filterMap_cons, hf]; exact List.mem_cons_of_mem _ hb)) hr⟩
  exact all X.outer (fun _ hb => hb) I.ok.funs

theorem Inv.stack (I : Inv X pins σ H s) : s.heap.FunFrames X.base X.stack := by
  rcases I.ok.stk with e | ⟨e, hf⟩
  · rw [e]; exact I.funs
  · rw [e]
    obtain ⟨m, hn, _⟩ := I.loc
    refine .cons (by rw [I.ok.kind]; decide) hf hn ?_ I.funs
    exact Heap.get?_none_of_le (Nat.le_trans I.ok.bsz I.ok.above)
theorem Inv.stkSub (I : Inv X pins σ H s) : ∀ b ∈ frs X.stack, b ∈ X.env.locals :: X.fs := fun b hb => by
  rcases I.ok.stk with e | ⟨e, hf⟩
  · rw [e] at hb; exact List.mem_cons_of_mem _ hb
  · rw [e] at hb
    unfold frs at hb
    rw [List.filterMap_cons, hf] at hb
    exact hb
theorem Inv.stkFree (I : Inv X pins σ H s) : ∀ b ∈ frs X.stack, H b = none := fun b hb => by
  rcases List.mem_cons.mp (I.stkSub b hb) with e | hb
  · rw [e]; exact I.free
  · obtain ⟨_, o, ho, _⟩ := I.ok.funs.mem hb
    exact I.base.free b o ho (I.ok.frf b hb) fun z => I.ok.exfs b z hb

theorem Inv.step {g' : Array GenState} {t' : Nat} {d' : Drawn} {ch : List Addr} (I : Inv X pins σ H s)
    (hch : ∀ b ∈ ch, (b ∈ X.ex ∨ X.s₀.heap.objs.size ≤ b) ∧ b ≠ X.env.locals ∧ (∀ x c, X.env.cells.lookup x = some c → c ≠ b) ∧ ∀ p ∈ X.pn ++ pins, p.1 ≠ b)
    (keep : ∀ b o, b ≠ X.env.locals → b ∉ X.fs → b ∉ ch → s.heap.get? b = some o → H b = none → h'.get? b = some o)
    (slot : ∀ b o, b ≠ X.env.locals → b ∈ X.fs → b ∉ ch → s.heap.get? b = some o → H b = none → ∃ sl, h'.get? b = some { o with slots := sl }) (free : ∀ b o, b ∉ ch → s.heap.get? b = some o → H b = none → H' b = none)
    (there : ∀ b o, b ∉ ch → s.heap.get? b = some o → ∃ o', h'.get? b = some o')
    (tups : ∀ b xs, H b = some (.tup xs) → H' b = some (.tup xs)) (frzs : ∀ b o u, H b = some (.frz o u) → H' b = some (.frz o u)) (tbls : ∀ b ps, H b = some (.tbl ps) → ∃ more, H' b = some (.tbl (ps ++ more)))
    (ns : ∀ m, s.heap.Ns X.env.locals m → h'.Ns X.env.locals m) (hok : HOk X.prog X.w H' h') (hg : AllBare g') :
    Inv X pins σ H' { s with heap := h', gens := g', drawn := d', toks := t' } := by
  have neL : ∀ b o, X.s₀.heap.get? b = some o → b ≠ X.env.locals := fun b o e => Nat.ne_of_lt (Nat.lt_of_lt_of_le (Heap.lt_size e) I.ok.above)
  have neC : ∀ b o, X.s₀.heap.get? b = some o → b ∉ X.ex → b ∉ ch := fun b o e hx hb => by
    rcases (hch b hb).1 with z | z
    · exact hx z
    · exact absurd (Nat.lt_of_lt_of_le (Heap.lt_size e) z) (Nat.lt_irrefl _)
  have cellK : ∀ x c, X.env.cells.lookup x = some c → ∀ v, s.heap.IsCell c v → h'.IsCell c v := fun x c e v ⟨o, ho, hd⟩ => by
    have nch : c ∉ ch := fun z => (hch c z).2.2.1 x c e rfl
    by_cases hc : c ∈ X.fs
    · obtain ⟨sl, q⟩ := slot c o (I.cne x c e) hc nch ho (I.freeC x c e)
      exact ⟨_, q, hd⟩
    · exact ⟨o, keep c o (I.cne x c e) hc nch ho (I.freeC x c e), hd⟩
  refine ⟨I.ok, I.os, hg, ⟨fun b o e n hb hx => ?_, fun b o e n hb hx => ?_, fun b o e n hx => ?_, fun b o e hx => ?_, fun b xs e => tups b xs (I.base.tups b xs e), fun b o xs e => frzs b o xs (I.base.frzs b o xs e), fun b ps e => ?_⟩, ?_, fun x c e => ?_, ?_, fun x c e => ?_, fun p hp => ?_, hok, I.len⟩
  · exact keep b o (neL b o e) hb (neC b o e hx) (I.base.keep b o e n hb hx) (I.base.free b o e n hx)
  · obtain ⟨sl, e1⟩ := I.base.slot b o e n hb hx
    obtain ⟨sl', e2⟩ := slot b _ (neL b o e) hb (neC b o e hx) e1 (I.base.free b o e n hx)
    exact ⟨sl', e2⟩
  · obtain ⟨o', e1⟩ := I.base.there b o e hx
    exact free b o' (neC b o e hx) e1 (I.base.free b o e n hx)
  · obtain ⟨o', e1⟩ := I.base.there b o e hx
    exact there b o' (neC b o e hx) e1
  · obtain ⟨m1, e1⟩ := I.base.tbls b ps e
    obtain ⟨m2, e2⟩ := tbls b _ e1
    exact ⟨m1 ++ m2, by rw [e2, Array.append_assoc]⟩
  · obtain ⟨m, hn, hl⟩ := I.loc
    refine ⟨m, ns m hn, fun i x v e1 e2 e3 => ?_⟩
    obtain ⟨u, r, l⟩ := hl i x v e1 e2 e3
    refine ⟨u, r, ?_⟩
    rcases l with l | ⟨k, c, e, z⟩
    · exact .inl l
    · exact .inr ⟨k, c, e, cellK x c e _ z⟩
  · obtain ⟨v, z⟩ := I.cell x c e
    exact ⟨v, cellK x c e v z⟩
  · obtain ⟨m, ⟨o, _, _, ho, _⟩, _⟩ := I.loc
    exact free _ o (fun z => (hch _ z).2.1 rfl) ho I.free
  · obtain ⟨v, o, ho, hd⟩ := I.cell x c e
    exact free c o (fun z => (hch c z).2.2.1 x c e rfl) ho (I.freeC x c e)
  · obtain ⟨e, n, ne, nf, d⟩ := I.pin p hp
    have nch : p.1 ∉ ch := fun z => (hch p.1 z).2.2.2 p hp rfl
    exact ⟨keep p.1 p.2 ne nf nch e n, free p.1 p.2 nch e n, ne, nf, d⟩
theorem Inv.un {t' : Nat} (I : Inv X pins σ H s) (u : Un X.fs [] H H' s.heap h') (hok : HOk X.prog X.w H' h') : Inv X pins σ H' { s with heap := h', toks := t' } := by
  obtain ⟨m, ⟨o, es, ep, ho, r⟩, _⟩ := id I.loc
  obtain ⟨sl, hL⟩ := u.any ho I.free (by simp)
  exact I.step (g' := s.gens) (d' := s.drawn) (ch := []) (fun _ z => nomatch z) (fun b o _ hb _ e n => u.keep b o e n hb (by simp)) (fun b o _ hb _ e n => u.slot b o e n hb (by simp)) (fun b o _ e n => u.free b o e n (by simp)) (fun b o _ e => u.there b o e (by simp)) u.tups u.frzs u.tbls (fun m' hm => by
    obtain ⟨o', es', ep', ho', r'⟩ := hm
    rw [ho] at ho'; cases ho'
    exact ⟨_, es', ep', hL, r'⟩) hok I.bare
theorem Inv.call {g' : Array GenState} {t' : Nat} {d' : Drawn} {ch : List Addr} (I : Inv X pins σ H s) (u : Un (frs X.stack) ch H H' s.heap h') (hok : HOk X.prog X.w H' h') (hg : AllBare g')
    (hch : ∀ b ∈ ch, (b ∈ X.ex ∨ X.s₀.heap.objs.size ≤ b) ∧ b ≠ X.env.locals ∧ (∀ x c, X.env.cells.lookup x = some c → c ≠ b) ∧ ∀ p ∈ X.pn ++ pins, p.1 ≠ b) :
    Inv X pins σ H' { s with heap := h', gens := g', drawn := d', toks := t' } := by
  obtain ⟨m, ⟨o, es, ep, ho, r⟩, _⟩ := id I.loc
  obtain ⟨sl, hL⟩ := u.any ho I.free fun z => (hch _ z).2.1 rfl
  exact I.step (ch := ch) hch (fun b o hL hb hc e n => u.keep b o e n (fun z => (List.mem_cons.mp (I.stkSub b z)).elim hL hb) hc) (fun b o _ _ hc e n => u.any e n hc) (fun b o hc e n => u.free b o e n hc) (fun b o hc e => u.there b o e hc) u.tups u.frzs u.tbls (fun m' hm => by
    obtain ⟨o', es', ep', ho', r'⟩ := hm
    rw [ho] at ho'; cases ho'
    exact ⟨_, es', ep', hL, r'⟩) hok hg
theorem Inv.turned {t' : Nat} {it : Addr} (I : Inv X pins σ H s) (k : ∀ b o, b ≠ it → s.heap.get? b = some o → h'.get? b = some o) (hn : H it = none) (hL : it ≠ X.env.locals)
    (h1 : it ∈ X.ex ∨ X.s₀.heap.objs.size ≤ it) (h2 : ∀ x c, X.env.cells.lookup x = some c → c ≠ it) (h3 : ∀ p ∈ X.pn ++ pins, p.1 ≠ it) : Inv X pins σ H { s with heap := h', toks := t' } := by
  have nit : ∀ b u, H b = some u → b ≠ it := fun b u e z => by rw [z, hn] at e; cases e
  refine I.step (g' := s.gens) (d' := s.drawn) (ch := [it]) (fun b hb => ?_) (fun b o _ _ hc e _ => k b o (fun z => hc (by simp [z])) e) (fun b o _ _ hc e _ => ⟨o.slots, k b o (fun z => hc (by simp [z])) e⟩) (fun _ _ _ _ n => n)
    (fun b o hc e => ⟨o, k b o (fun z => hc (by simp [z])) e⟩) (fun _ _ e => e) (fun _ _ _ e => e) (fun b ps e => ⟨#[], by rw [e]; simp⟩) (fun m hm => ?_) (fun b u e => ?_) I.bare
  · have e : b = it := by simpa using hb
    subst e
    exact ⟨h1, hL, h2, h3⟩
  · obtain ⟨o, es, ep, ho, r⟩ := hm
    exact ⟨o, es, ep, k _ o (Ne.symm hL) ho, r⟩
  · refine (I.hok b u e).stay (fun c v hc q => k c v ?_ q) (fun _ q => q) fun _ _ q => q
    rcases hc with z | z
    · rw [z]; exact nit b u e
    · exact nit c _ z
theorem Inv.tok (I : Inv X pins σ H s) (t : Nat) : Inv X pins σ H { s with toks := t } := I.un (h' := s.heap) (t' := t) Un.refl I.hok
theorem Inv.kept {t' : Nat} (I : Inv X pins σ H s) (k : ∀ b u, s.heap.get? b = some u → h'.get? b = some u) : Inv X pins σ H { s with heap := h', toks := t' } := I.un (Un.kept k) (I.hok.kept k)
theorem Inv.laid {a : Addr} {o : HO} {t' : Nat} (I : Inv X pins σ H s) (k : ∀ b u, s.heap.get? b = some u → h'.get? b = some u) (hp : s.heap.objs.size ≤ a) (new : ObjOk X.prog X.w (upd H a o) h' a o) :
    Inv X pins σ (upd H a o) { s with heap := h', toks := t' } := I.un (Un.laid k hp (I.hok.fresh hp)) (I.hok.laid k hp new)
theorem Inv.write {x e : Addr} {o : HO} {t' : Nat} (I : Inv X pins σ H s) (mu : Mut (H x)) (he : e = x ∨ H e = some (.own x)) (k : ∀ b u, b ≠ e → s.heap.get? b = some u → h'.get? b = some u) (heo : ∃ u, h'.get? e = some u)
    (new : ObjOk X.prog X.w (upd H x o) h' x o) : Inv X pins σ (upd H x o) { s with heap := h', toks := t' } := I.un (Un.write mu he k heo) (I.hok.write mu he k heo new)
theorem Inv.weak {σ' : List (Option V)} (I : Inv X pins σ H s) (hl : σ'.length = σ.length) (w : ∀ (i : Nat) v, σ'[i]? = some (some v) → σ[i]? = some (some v)) : Inv X pins σ' H s :=
  ⟨I.ok, I.os, I.bare, I.base, let ⟨m, hn, hl'⟩ := I.loc; ⟨m, hn, fun i x v e1 e2 e3 => hl' i x v e1 (w i v e2) e3⟩, I.cell, I.free, I.freeC, I.pin, I.hok, hl.trans I.len⟩
theorem Inv.pins_of {pins' : List (Addr × Obj)} (I : Inv X pins σ H s) (h : ∀ p ∈ pins', s.heap.get? p.1 = some p.2 ∧ H p.1 = none ∧ p.1 ≠ X.env.locals ∧ p.1 ∉ X.fs ∧ ∀ v, p.2.data ≠ .cell v) : Inv X pins' σ H s :=
  ⟨I.ok, I.os, I.bare, I.base, I.loc, I.cell, I.free, I.freeC, fun p hp => (List.mem_append.mp hp).elim (fun z => I.pin p (List.mem_append_left _ z)) (h p), I.hok, I.len⟩

theorem nodup_ix {N : List Str} (hN : N.Nodup) {i j : Nat} {x : Str} (a : N[i]? = some x) (b : N[j]? = some x) : i = j := by
  obtain ⟨h1, e1⟩ := List.getElem?_eq_some_iff.mp a
  obtain ⟨h2, e2⟩ := List.getElem?_eq_some_iff.mp b
  exact (List.getElem_inj hN).mp (e1.trans e2.symm)

theorem store_ok2 {M : Model} {A : Around} {E : Value → Shared → Prop} {i : Nat} {x : Str} {v : V} {u : Value} {Q : Unit → Shared → Prop} (I : Inv X pins σ H s) (hN : X.N.Nodup) (hi : X.N[i]? = some x) (hx : Loc X.env.scope x) (r : RelV v u)
    (h : ∀ s', Inv X pins (σ.set i (some v)) H s' → (∃ a, Heap.SameBut a s.heap s'.heap ∧ (a = X.env.locals ∨ X.env.cells.lookup x = some a)) → Q () s') (hf : autoParam (X.fn x = true ∨ X.env.scope.names.lookup x = some .local) L2.auto1._auto_1) : wpAny M A (storeName X.env x u) Q E s := by
  obtain ⟨m, hn, hl⟩ := id I.loc
  have hcls : (X.env.scope.kind == .class || (X.env.scope.kind == .module && X.env.locals != X.env.globals)) = false := by rw [I.ok.kind]; rfl
  have hiσ : i < σ.length := by rw [I.len]; exact (List.getElem?_eq_some_iff.mp hi).1
  have cne := I.cne
  have tracked : ∀ {a : Addr} {h' : Heap}, (∃ o, s.heap.get? a = some o ∧ H a = none) → Heap.SameBut a s.heap h' → HOk X.prog X.w H h' := fun {a h'} ha hs b ob e => by
    obtain ⟨_, _, hfree⟩ := ha
    refine (I.hok b ob e).stay (fun c w' hc q => (hs.2 c ?_).trans q) (fun _ q => q) fun _ _ q => q
    rintro rfl
    rcases hc with rfl | hc
    · rw [hfree] at e; cases e
    · rw [hfree] at hc; cases hc
  rcases hx with hk | hk
  · refine wpAny_storeName_local hk hn (fun h' hn' hs => ?_) hcls
    obtain ⟨oL, _, _, hoL, _⟩ := id hn
    refine h _ ⟨I.ok, I.os, I.bare, ⟨fun b o e n hb hx => ?_, fun b o e n hb hx => ?_, I.base.free, fun b o e hx => ?_, I.base.tups, I.base.frzs, I.base.tbls⟩, ⟨_, hn', fun j y v' e1 e2 e3 => ?_⟩, fun y c e => ?_, I.free, I.freeC, fun p hp => ?_, tracked ⟨oL, hoL, I.free⟩ hs, by simpa using I.len⟩ ⟨_, hs, .inl rfl⟩
    · exact (hs.2 b (Nat.ne_of_lt (Nat.lt_of_lt_of_le (Heap.lt_size e) I.ok.above))).trans (I.base.keep b o e n hb hx)
    · obtain ⟨sl, e1⟩ := I.base.slot b o e n hb hx
      exact ⟨sl, (hs.2 b (Nat.ne_of_lt (Nat.lt_of_lt_of_le (Heap.lt_size e) I.ok.above))).trans e1⟩
    · obtain ⟨o', e1⟩ := I.base.there b o e hx
      exact ⟨o', (hs.2 b (Nat.ne_of_lt (Nat.lt_of_lt_of_le (Heap.lt_size e) I.ok.above))).trans e1⟩
    · by_cases hj : j = i
      · subst hj
        rw [hi] at e1; cases e1
        rw [List.getElem?_set_self hiσ] at e2
        cases e2
        exact ⟨u, r, .inl ⟨hk, by simp⟩⟩
      · rw [List.getElem?_set_ne (Ne.symm hj)] at e2
        obtain ⟨u', r', q⟩ := hl j y v' e1 e2 e3
        refine ⟨u', r', ?_⟩
        rcases q with ⟨k, e⟩ | ⟨k, c, e, z⟩
        · refine .inl ⟨k, ?_⟩
          have : y ≠ x := fun e => hj (nodup_ix hN e1 (e ▸ hi))
          simp [this, e]
        · exact .inr ⟨k, c, e, z.sameBut hs (cne y c e)⟩
    · obtain ⟨w', z⟩ := I.cell y c e
      exact ⟨w', z.sameBut hs (cne y c e)⟩
    · obtain ⟨e, n, ne, nf, d⟩ := I.pin p hp
      exact ⟨(hs.2 p.1 ne).trans e, n, ne, nf, d⟩
  · have hfn : X.fn x = true := by
      rcases hf with z | z
      · exact z
      · rw [z] at hk; cases hk
    obtain ⟨c, hc⟩ := I.ok.has x (.inl hk)
    obtain ⟨w', z⟩ := I.cell x c hc
    refine wpAny_storeName_cell I.ok.kind hk hc z (fun h' hc' hs => ?_)
    obtain ⟨oc, hoc, hocd⟩ := id z
    refine h { s with heap := h' } ⟨I.ok, I.os, I.bare, ⟨fun b o e n hb hx => ?_, fun b o e n hb hx => ?_, I.base.free, fun b o e hx => ?_, I.base.tups, I.base.frzs, I.base.tbls⟩, ⟨m, hn.sameBut hs (Ne.symm (cne x c hc)), fun j y v' e1 e2 e3 => ?_⟩, fun y c' e => ?_, I.free, I.freeC, fun p hp => ?_, tracked ⟨oc, hoc, I.freeC x c hc⟩ hs, by simpa using I.len⟩ ⟨c, hs, .inr hc⟩
    · exact (hs.2 b (Nat.ne_of_lt (Nat.lt_of_lt_of_le (Heap.lt_size e) (I.ok.cab x c hfn hc)))).trans (I.base.keep b o e n hb hx)
    · obtain ⟨sl, e1⟩ := I.base.slot b o e n hb hx
      exact ⟨sl, (hs.2 b (Nat.ne_of_lt (Nat.lt_of_lt_of_le (Heap.lt_size e) (I.ok.cab x c hfn hc)))).trans e1⟩
    · obtain ⟨o', e1⟩ := I.base.there b o e hx
      exact ⟨o', (hs.2 b (Nat.ne_of_lt (Nat.lt_of_lt_of_le (Heap.lt_size e) (I.ok.cab x c hfn hc)))).trans e1⟩
    · by_cases hj : j = i
      · subst hj
        rw [hi] at e1; cases e1
        rw [List.getElem?_set_self hiσ] at e2
        cases e2
        exact ⟨u, r, .inr ⟨.inl hk, c, hc, hc'⟩⟩
      · rw [List.getElem?_set_ne (Ne.symm hj)] at e2
        obtain ⟨u', r', q⟩ := hl j y v' e1 e2 e3
        refine ⟨u', r', ?_⟩
        rcases q with q | ⟨k, c', e, z'⟩
        · exact .inl q
        · refine .inr ⟨k, c', e, z'.sameBut hs ?_⟩
          rintro rfl
          exact hj (nodup_ix hN e1 (I.ok.inj _ _ _ e hc ▸ hi))
    · by_cases hcc : c' = c
      · subst hcc; exact ⟨_, hc'⟩
      · obtain ⟨w2, z2⟩ := I.cell y c' e
        exact ⟨w2, z2.sameBut hs hcc⟩
    · obtain ⟨e, n, ne, nf, d⟩ := I.pin p hp
      refine ⟨(hs.2 p.1 ?_).trans e, n, ne, nf, d⟩
      intro q
      rw [q, hoc] at e
      have q' : oc = p.2 := Option.some.inj e
      exact d w' (by rw [← q']; exact hocd)
theorem store_ok {M : Model} {A : Around} {E : Value → Shared → Prop} {i : Nat} {x : Str} {v : V} {u : Value} {Q : Unit → Shared → Prop} (I : Inv X pins σ H s) (hN : X.N.Nodup) (hi : X.N[i]? = some x) (hx : Loc X.env.scope x) (r : RelV v u)
    (h : ∀ s', Inv X pins (σ.set i (some v)) H s' → Q () s') (hf : autoParam (X.fn x = true ∨ X.env.scope.names.lookup x = some .local) L2.auto1._auto_1) : wpAny M A (storeName X.env x u) Q E s :=
  store_ok2 I hN hi hx r (fun s' I' _ => h s' I') hf
theorem Inv.call' {s' : Shared} {ch : List Addr} (I : Inv X pins σ H s) (ho : s'.os = s.os) (u : Un (frs X.stack) ch H H' s.heap s'.heap) (hok : HOk X.prog X.w H' s'.heap) (hg : AllBare s'.gens)
    (hch : ∀ b ∈ ch, (b ∈ X.ex ∨ X.s₀.heap.objs.size ≤ b) ∧ b ≠ X.env.locals ∧ (∀ x c, X.env.cells.lookup x = some c → c ≠ b) ∧ ∀ p ∈ X.pn ++ pins, p.1 ≠ b) : Inv X pins σ H' s' := by
  obtain ⟨h', g', d', t', o'⟩ := s'
  have e : o' = s.os := ho
  subst e
  exact I.call (g' := g') (t' := t') (d' := d') u hok hg hch
end

noncomputable abbrev XK := Value → Option Addr → Hp → Prop
noncomputable abbrev St := List (Option V)
noncomputable abbrev VK := V → Hp → Prop
noncomputable abbrev TE := St → Hp → VK → Prop
noncomputable abbrev TT := St → Hp → (Bool → Hp → Prop) → Prop
noncomputable abbrev TA := St → Hp → (List V → Hp → Prop) → Prop
structure Ends where
  nx : St → Hp → Prop
  rt : VK
  bk : St → Hp → Prop := fun _ _ => False
  ct : St → Hp → Prop := fun _ _ => False
noncomputable abbrev TS := Ends → St → Hp → Prop

noncomputable def EP (X : Cx) (pins : List (Addr × Obj)) (σ : St) (Q : VK) (u : Value) (s' : Shared) : Prop := ∃ v H', Inv X pins σ H' s' ∧ RelV v u ∧ Q v H'
noncomputable def TP (X : Cx) (pins : List (Addr × Obj)) (σ : St) (Q : Bool → Hp → Prop) (b : Bool) (s' : Shared) : Prop := ∃ H', Inv X pins σ H' s' ∧ Q b H'
noncomputable def AP (X : Cx) (pins : List (Addr × Obj)) (σ : St) (Q : List V → Hp → Prop) (us : List Value) (s' : Shared) : Prop := ∃ vs H', Inv X pins σ H' s' ∧ Vals vs us ∧ Q vs H'
noncomputable def SP (X : Cx) (pins : List (Addr × Obj)) (D : Ends) (f : Flow) (s' : Shared) : Prop :=
  match f with
  | .next => ∃ σ' H', Inv X pins σ' H' s' ∧ D.nx σ' H'
  | .brk => ∃ σ' H', Inv X pins σ' H' s' ∧ D.bk σ' H'
  | .cont => ∃ σ' H', Inv X pins σ' H' s' ∧ D.ct σ' H'
  | .ret u => ∃ v σ' H', Inv X pins σ' H' s' ∧ RelV v u ∧ D.rt v H'

noncomputable def PE (X : Cx) (e : Expr) (t : TE) : Prop :=
  ∀ (pins : List (Addr × Obj)) (s : Shared) (σ : St) (H : Hp) (Q : VK), Inv X pins σ H s → t σ H Q → wpAny (model X.prog X.w) X.A (eval e X.env) (EP X pins σ Q) X.xe s
noncomputable def PT (X : Cx) (e : Expr) (t : TT) : Prop :=
  ∀ (pins : List (Addr × Obj)) (s : Shared) (σ : St) (H : Hp) (Q : Bool → Hp → Prop), Inv X pins σ H s → t σ H Q → wpAny (model X.prog X.w) X.A (isTrue e X.env (eval e X.env)) (TP X pins σ Q) X.xe s
noncomputable def PW (X : Cx) (e : Expr) (t : TT) : Prop :=
  ∀ (whole : Sem Value) (pins : List (Addr × Obj)) (s : Shared) (σ : St) (H : Hp) (Q : Bool → Hp → Prop), Inv X pins σ H s → t σ H Q → wpAny (model X.prog X.w) X.A (isTrue e X.env whole) (TP X pins σ Q) X.xe s
theorem PW.pt {X : Cx} {e : Expr} {t : TT} (h : PW X e t) : PT X e t := h _
noncomputable def PA (X : Cx) (es : List Expr) (t : TA) : Prop :=
  ∀ (pos : Pos) (pins : List (Addr × Obj)) (s : Shared) (σ : St) (H : Hp) (Q : List V → Hp → Prop), Inv X pins σ H s → t σ H Q → wpAny (model X.prog X.w) X.A (spliced (backTo pos (starEach es X.env))) (AP X pins σ Q) X.xe s
noncomputable def PS (X : Cx) (st : Stmt) (t : TS) : Prop :=
  ∀ (pins : List (Addr × Obj)) (s : Shared) (σ : St) (H : Hp) (D : Ends), Inv X pins σ H s → t D σ H → wpAny (model X.prog X.w) X.A (exec st X.env) (SP X pins D) X.xe s
noncomputable def PSs (X : Cx) (st : List Stmt) (t : TS) : Prop :=
  ∀ (pins : List (Addr × Obj)) (s : Shared) (σ : St) (H : Hp) (D : Ends), Inv X pins σ H s → t D σ H → wpAny (model X.prog X.w) X.A (execs st X.env) (SP X pins D) X.xe s
theorem thn {α : Type} {t : Sem α} {Q Q' : α → Shared → Prop} {M : Model} {A : Around} {E : Value → Shared → Prop} {s : Shared} (h : wpAny M A t Q E s) (hQ : ∀ a s, Q a s → Q' a s) : wpAny M A t Q' E s := wpAny_mono h hQ fun _ _ x => x
end L2

namespace L2
open PySem PySem.Spec PyProof.Rows
section
variable {X : Cx}

noncomputable def tVar (i : Nat) : TE := fun σ H Q => ∃ v, σ[i]? = some (some v) ∧ Q v H
noncomputable def tC (v : V) : TE := fun _ H Q => Q v H
theorem pe_var {i : Nat} {x : Str} {pos : Pos} (hN : X.N[i]? = some x) (hv : Vis X.env.scope x) (hd : autoParam ((x == ("__debug__" : Str)) = false) L2.auto2._auto_1) (hcd : autoParam ((x == ("__classdict__" : Str)) = false) L2.auto2._auto_1) : PE X (.Name x pos) (tVar i) := by
  intro pins s σ H Q I h
  obtain ⟨v, e, h⟩ := h
  obtain ⟨m, hn, hl⟩ := I.loc
  obtain ⟨u, r, l⟩ := hl i x v hN e hv
  have fin : EP X pins σ Q u s := ⟨v, H, I, r, h⟩
  rcases l with ⟨hk, hm⟩ | ⟨hk, c, hc, hcell⟩
  · exact wpAny_Name (wpAny_loadName_local I.ok.kind hk hn hm fin) hd
  · rcases hk with hk | hk
    · exact wpAny_Name (wpAny_loadName_cell I.ok.kind hk hc hcell fin) hd
    · exact wpAny_Name (wpAny_loadName_free I.ok.kind hk hc hcell fin hcd) hd
theorem pe_int {i j pos} : PE X (.Constant (.int i) j pos) (tC (.int i)) := fun _ _ _ H _ I h => wpAny_Constant_int ⟨.int i, H, I.tok _, ⟨_, rfl⟩, h⟩
theorem pe_bl {b j pos} : PE X (.Constant (.bool b) j pos) (tC (.bl b)) := fun _ _ _ H _ I h => Constant_bool ⟨.bl b, H, I, rfl, h⟩
theorem pe_str {x j pos} : PE X (.Constant (.str x) j pos) (tC (.str x)) := fun _ _ _ H _ I h => Calls.Constant_str ⟨.str x, H, I.tok _, ⟨_, rfl⟩, h⟩

noncomputable def Gl (X : Cx) (x : Str) : Prop := X.env.kindOf x = some .globalImplicit
theorem ld_glob {E : Value → Shared → Prop} {pins : List (Addr × Obj)} {s : Shared} {σ : St} {H : Hp} {x : Str} {u : Value} {pos : Pos} {Q : Value → Shared → Prop} (I : Inv X pins σ H s) (hg : Gl X x) (hm : X.mg x = some u) (h : Q u s)
    (hd : autoParam ((x == ("__debug__" : Str)) = false) L2.auto2._auto_1) : wpAny (model X.prog X.w) X.A (eval (.Name x pos) X.env) Q E s :=
  Calls.Name_function_global I.ok.kind hg (Calls.loadGlobal_global (by rw [I.ok.glob]; exact I.mod.glob.keeps I.bk) hm h) hd
theorem ld_blt {E : Value → Shared → Prop} {pins : List (Addr × Obj)} {s : Shared} {σ : St} {H : Hp} {x : Str} {u : Value} {pos : Pos} {Q : Value → Shared → Prop} (I : Inv X pins σ H s) (hg : Gl X x) (hm : X.mg x = none) (hv : bootBuiltins x = some u) (h : Q u s)
    (hn : autoParam (x ≠ "__name__") L2.auto2._auto_1) (hd : autoParam ((x == ("__debug__" : Str)) = false) L2.auto2._auto_1) : wpAny (model X.prog X.w) X.A (eval (.Name x pos) X.env) Q E s := by
  obtain ⟨mb, h1, h2⟩ := I.mod.blt
  exact Calls.Name_function_global I.ok.kind hg (Calls.loadGlobal_builtin (by rw [I.ok.glob]; exact I.mod.glob.keeps I.bk) hm (by rw [I.ok.blt]; exact h1.keeps I.bk) ((h2 x hn).trans hv) h) hd
theorem pe_glob {x : Str} {v : V} {u : Value} {pos : Pos} (hg : Gl X x) (hm : X.mg x = some u) (r : RelV v u) (hd : autoParam ((x == ("__debug__" : Str)) = false) L2.auto2._auto_1) : PE X (.Name x pos) (tC v) :=
  fun _ _ _ H _ I h => ld_glob I hg hm ⟨v, H, I, r, h⟩ hd
theorem pe_bltn {x : Str} {v : V} {u : Value} {pos : Pos} (hg : Gl X x) (hm : X.mg x = none) (hv : bootBuiltins x = some u) (r : RelV v u) (hn : autoParam (x ≠ "__name__") L2.auto2._auto_1) (hd : autoParam ((x == ("__debug__" : Str)) = false) L2.auto2._auto_1) : PE X (.Name x pos) (tC v) :=
  fun _ _ _ H _ I h => ld_blt I hg hm hv ⟨v, H, I, r, h⟩ hn hd

variable {a b : Expr} {ta tb : TE} {pos : Pos}
noncomputable def tB (t : TE) : TT := fun σ H Q => t σ H fun x H1 => ∃ c, x = .bl c ∧ Q c H1
theorem pt_val {e : Expr} {t : TE} (h : PE X e t) (he : autoParam (∀ whole, isTrue e X.env whole = (do let v ← whole; standAt e.pos; holding [v] (truthy v))) L2.auto3._auto_1) : PT X e (tB t) := by
  intro pins s σ H Q I hw
  refine isTrue_plain (thn (h pins s σ H _ I hw) fun v s1 qq0 => ?_) (he _)
  obtain ⟨x, H1, I1, r1, q1⟩ := qq0
  obtain ⟨d, rfl, q⟩ := q1
  cases r1
  exact wpAny_truthy_bool ⟨H1, I1, q⟩

variable {tA tB' : TT} {rest : List Expr}
noncomputable def tAnd (t u : TT) : TT := fun σ H Q => t σ H fun c H1 => if c = true then u σ H1 Q else Q false H1
noncomputable def tOr (t u : TT) : TT := fun σ H Q => t σ H fun c H1 => if c = true then Q true H1 else u σ H1 Q
noncomputable def tNot (t : TT) : TT := fun σ H Q => t σ H fun c H1 => Q (!c) H1
theorem pw_and1 (ha : PT X a tA) : PW X (.BoolOp .And [a] pos) tA := by
  intro wh pins s σ H Q I h
  refine isTrue_and (thn (ha pins s σ H Q I h) fun c s1 e => ?_)
  cases c with
  | true => exact isTrue_and_nil e
  | false => exact e
theorem pw_or1 (ha : PT X a tA) : PW X (.BoolOp .Or [a] pos) tA := by
  intro wh pins s σ H Q I h
  refine isTrue_or (thn (ha pins s σ H Q I h) fun c s1 e => ?_)
  cases c with
  | false => exact isTrue_or_nil e
  | true => exact e
theorem pw_and (ha : PT X a tA) (hb : PW X (.BoolOp .And (b :: rest) pos) tB') : PW X (.BoolOp .And (a :: b :: rest) pos) (tAnd tA tB') := by
  intro wh pins s σ H Q I h
  refine isTrue_and (thn (ha pins s σ H _ I h) fun c s1 qq0 => ?_)
  obtain ⟨H1, I1, q1⟩ := qq0
  cases c with
  | true => exact hb wh pins s1 σ H1 Q I1 q1
  | false => exact ⟨H1, I1, q1⟩
theorem pw_or (ha : PT X a tA) (hb : PW X (.BoolOp .Or (b :: rest) pos) tB') : PW X (.BoolOp .Or (a :: b :: rest) pos) (tOr tA tB') := by
  intro wh pins s σ H Q I h
  refine isTrue_or (thn (ha pins s σ H _ I h) fun c s1 qq0 => ?_)
  obtain ⟨H1, I1, q1⟩ := qq0
  cases c with
  | true => exact ⟨H1, I1, q1⟩
  | false => exact hb wh pins s1 σ H1 Q I1 q1
theorem pt_not (ha : PT X a tA) : PT X (.UnaryOp .Not a pos) (tNot tA) := by
  intro pins s σ H Q I h
  exact isTrue_not (ha pins s σ H (fun c H1 => Q (!c) H1) I h)
noncomputable def tAndV (ta tb : TE) : TE := fun σ H Q => ta σ H fun x H1 => ∃ c, x = .bl c ∧ if c = true then tb σ H1 Q else Q (.bl false) H1
theorem pe_one {op} {t : TE} (h : PE X a t) : PE X (.BoolOp op [a] pos) t := fun pins s σ H Q I hw => BoolOp_one (h pins s σ H Q I hw)
theorem pe_and (ha : PE X a ta) (hb : PE X (.BoolOp .And (b :: rest) pos) tb) : PE X (.BoolOp .And (a :: b :: rest) pos) (tAndV ta tb) := by
  intro pins s σ H Q I h
  refine BoolOp_and (thn (ha pins s σ H _ I h) fun v s1 qq0 => ?_)
  obtain ⟨x, H1, I1, r1, q1⟩ := qq0
  obtain ⟨c, rfl, q1⟩ := q1
  cases r1
  refine wpAny_truthy_bool ?_
  cases c with
  | true => exact hb pins s1 σ H1 Q I1 q1
  | false => exact ⟨.bl false, H1, I1, rfl, q1⟩
end
end L2

namespace L2
open PySem PySem.Spec PyProof.Rows

noncomputable def SqL (K : PySem.W.Frag) (H : Hp) (a : Addr) (xs : List V) : Prop :=
  Rd H a (.lst xs) ∨
    ∃ (o : Obj) (its : Array Value) (n : Nat), K.lookup a = some o ∧ o.cls = .type "list" ∧ o.dict = none ∧ o.data = .seq its n ∧ its.size ≤ sizeLine ∧ Vals xs its.toList
noncomputable def SqT (K : PySem.W.Frag) (H : Hp) (a : Addr) (xs : List V) : Prop :=
  Rd H a (.tup xs) ∨
    ∃ (o : Obj) (its : Array Value) (n : Nat), K.lookup a = some o ∧ o.cls = .type "tuple" ∧ o.data = .seq its n ∧ its.size ≤ sizeLine ∧ Vals xs its.toList
noncomputable def absV : Value → Option V
  | .none => some .non
  | .bool b => some (.bl b)
  | .int i _ => some (.int i)
  | .str x _ => some (.str x)
  | .bytes b _ => some (.byt b)
  | .float b _ => some (.flt b)
  | .ref a => some (.ref a)
  | .type n => some (.ty n)
  | _ => none
theorem RelV.abs {x : V} {u : Value} (r : RelV x u) : absV u = some x := by
  cases x with
  | non => cases r; rfl
  | bl _ => cases r; rfl
  | int _ => obtain ⟨t, rfl⟩ := r; rfl
  | str _ => obtain ⟨t, rfl⟩ := r; rfl
  | byt _ => obtain ⟨t, rfl⟩ := r; rfl
  | flt _ => obtain ⟨t, rfl⟩ := r; rfl
  | ref _ => cases r; rfl
  | ty _ => cases r; rfl
theorem RelV.inj {x y : V} {u : Value} (r : RelV x u) (q : RelV y u) : x = y := Option.some.inj (r.abs.symm.trans q.abs)
theorem Vals.inj : ∀ {xs ys : List V} {us : List Value}, Vals xs us → Vals ys us → xs = ys
  | _, _, _, .nil, .nil => rfl
  | _, _, _, .cons r t, .cons r' t' => by rw [r.inj r', Vals.inj t t']
section
variable {X : Cx} {pins : List (Addr × Obj)} {σ : St} {H : Hp} {s : Shared} {a : Addr} {xs ys : List V}
theorem SqL.of {K : PySem.W.Frag} (h : H a = some (.lst xs)) : SqL K H a xs := .inl (.inl h)
theorem SqT.of {K : PySem.W.Frag} (h : H a = some (.tup xs)) : SqT K H a xs := .inl (.inl h)
theorem Inv.list (I : Inv X pins σ H s) (h : SqL X.K H a xs) : ∃ its : List Value, Vals xs its ∧ PlainL s.heap a its.toArray ∧ xs.length ≤ sizeLine := by
  rcases h with h | ⟨o, its, n, hk, hc, hd, hs, hz, r⟩
  · obtain ⟨z, its, n, r, e⟩ := h.ok I.hok
    exact ⟨its, r, ⟨_, n, e, rfl, rfl, rfl⟩, z⟩
  · refine ⟨its.toList, r, ⟨o, n, I.kIn a o hk, hc, hd, by simpa using hs⟩, ?_⟩
    have e := r.length
    simp only [Array.length_toList] at e
    omega
theorem Inv.tuple (I : Inv X pins σ H s) (h : SqT X.K H a xs) : ∃ its : List Value, Vals xs its ∧ IsTup s.heap a its.toArray ∧ xs.length ≤ sizeLine := by
  rcases h with h | ⟨o, its, n, hk, hc, hs, hz, r⟩
  · obtain ⟨z, its, r, p⟩ := h.ok I.hok
    exact ⟨its, r, p, z⟩
  · refine ⟨its.toList, r, ⟨o, I.kIn a o hk, hc, n, by simpa using hs⟩, ?_⟩
    have e := r.length
    simp only [Array.length_toList] at e
    omega
theorem Inv.list_inj (I : Inv X pins σ H s) (h : SqL X.K H a xs) (h' : SqL X.K H a ys) : xs = ys := by
  obtain ⟨its, r, ⟨o, n, e, _, _, d⟩, _⟩ := I.list h
  obtain ⟨its', r', ⟨o', n', e', _, _, d'⟩, _⟩ := I.list h'
  rw [e] at e'; cases e'
  rw [d] at d'
  injection d' with d1 _
  have : its = its' := by simpa using congrArg Array.toList d1
  subst this
  exact r.inj r'
theorem Inv.tuple_inj (I : Inv X pins σ H s) (h : SqT X.K H a xs) (h' : SqT X.K H a ys) : xs = ys := by
  obtain ⟨its, r, ⟨o, e, _, n, d⟩, _⟩ := I.tuple h
  obtain ⟨its', r', ⟨o', e', _, n', d'⟩, _⟩ := I.tuple h'
  rw [e] at e'; cases e'
  rw [d] at d'
  injection d' with d1 _
  have : its = its' := by simpa using congrArg Array.toList d1
  subst this
  exact r.inj r'
end

noncomputable abbrev Cx.wish (X : Cx) (E : Value → Shared → Prop) : Cx := { X with xe := E }
noncomputable abbrev Cx.nox (X : Cx) : Cx := X.wish fun _ _ => False
theorem Cx.Ok.wish {X : Cx} (ok : X.Ok) (E : Value → Shared → Prop) : (X.wish E).Ok :=
  ⟨ok.mod, ok.kind, ok.glob, ok.blt, ok.above, ok.inj, ok.has, ok.cab, ok.hd, ok.frames, ok.stk, ok.exf, ok.bs, ok.bsz, ok.noex, ok.exfs, ok.funs, ok.frf⟩
theorem Cx.Ok.unwish {X : Cx} {E : Value → Shared → Prop} (ok : (X.wish E).Ok) : X.Ok :=
  ⟨ok.mod, ok.kind, ok.glob, ok.blt, ok.above, ok.inj, ok.has, ok.cab, ok.hd, ok.frames, ok.stk, ok.exf, ok.bs, ok.bsz, ok.noex, ok.exfs, ok.funs, ok.frf⟩
section
variable {X : Cx} {pins : List (Addr × Obj)} {σ : St} {H : Hp} {s : Shared} {E : Value → Shared → Prop}
theorem Inv.wish (I : Inv X pins σ H s) (E : Value → Shared → Prop) : Inv (X.wish E) pins σ H s := ⟨I.ok.wish E, I.os, I.bare, I.base, I.loc, I.cell, I.free, I.freeC, I.pin, I.hok, I.len⟩
theorem Inv.unwish (I : Inv (X.wish E) pins σ H s) : Inv X pins σ H s := ⟨I.ok.unwish, I.os, I.bare, I.base, I.loc, I.cell, I.free, I.freeC, I.pin, I.hok, I.len⟩
theorem SP.unwish {D : Ends} {f : Flow} {s' : Shared} (h : SP (X.wish E) pins D f s') : SP X pins D f s' := by
  cases f with
  | next => obtain ⟨σ', H', I, q⟩ := h; exact ⟨σ', H', I.unwish, q⟩
  | brk => obtain ⟨σ', H', I, q⟩ := h; exact ⟨σ', H', I.unwish, q⟩
  | cont => obtain ⟨σ', H', I, q⟩ := h; exact ⟨σ', H', I.unwish, q⟩
  | ret u => obtain ⟨v, σ', H', I, r, q⟩ := h; exact ⟨v, σ', H', I.unwish, r, q⟩
theorem PSs.nox {st : List Stmt} {t : TS} (h : PSs X.nox st t) : PSs X st t := fun pins s σ H D I hw =>
  wpAny_mono (h pins s σ H D (I.wish _) hw) (fun _ _ q => q.unwish) fun _ _ z => False.elim z
end

section
variable {X : Cx} {st : Stmt} {rest : List Stmt} {t u : TS} {e : Expr} {te : TE} {pos : Pos}
noncomputable def tNext : TS := fun D σ H => D.nx σ H
noncomputable def tSeq (t u : TS) : TS := fun D σ H => t { D with nx := u D } σ H
theorem pss_nil : PSs X [] tNext := fun _ _ σ H _ I h => wpAny_execs_nil ⟨σ, H, I, h⟩
theorem pss_cons (h1 : PS X st t) (h2 : PSs X rest u) : PSs X (st :: rest) (tSeq t u) := by
  intro pins s σ H D I h
  refine wpAny_execs_cons (thn (h1 pins s σ H { D with nx := u D } I h) fun f s1 q => ?_)
  cases f with
  | next =>
    obtain ⟨σ', H', I', q⟩ := q
    exact h2 pins s1 σ' H' D I' q
  | ret v => exact q
  | brk => exact q
  | cont => exact q
theorem pss_one (h1 : PS X st t) : PSs X [st] t := by
  intro pins s σ H D I h
  refine wpAny_execs_cons (thn (h1 pins s σ H D I h) fun f s1 q => ?_)
  cases f with
  | next => exact wpAny_execs_nil q
  | ret v => exact q
  | brk => exact q
  | cont => exact q
theorem Inv.quiet {pins : List (Addr × Obj)} {σ : St} {H : Hp} {s : Shared} (I : Inv X pins σ H s) : interactive X.env = false := by simp [interactive, I.ok.kind]
noncomputable def tDrop (te : TE) : TS := fun D σ H => te σ H fun _ H1 => D.nx σ H1
theorem ps_expr (he : PE X e te) (hs : autoParam (swapsWith e none pos.line X.env = pure false) L2.auto4._auto_1) : PS X (.Expr e pos) (tDrop te) := by
  intro pins s σ H D I h
  exact wpAny_Expr_any (thn (he pins s σ H _ I h) fun v s1 ⟨x, H1, I1, r1, q1⟩ => ⟨σ, H1, I1, q1⟩) I.quiet hs
noncomputable def tRet (te : TE) : TS := fun D σ H => te σ H D.rt
theorem ps_ret (he : PE X e te) : PS X (.Return (some e) pos) (tRet te) := by
  intro pins s σ H D I h
  exact wpAny_Return_some (thn (he pins s σ H _ I h) fun v s1 ⟨x, H1, I1, r1, q1⟩ => ⟨x, σ, H1, I1, r1, q1⟩)
noncomputable def tIfS (c : TT) (t u : TS) : TS := fun D σ H => c σ H fun b H1 => if b = true then t D σ H1 else u D σ H1
theorem ps_if {c : Expr} {a b : List Stmt} {tc : TT} (hc : PT X c tc) (ha : PSs X a t) (hb : PSs X b u) : PS X (.If c a b pos) (tIfS tc t u) := by
  intro pins s σ H D I h
  refine wpAny_If (thn (hc pins s σ H _ I h) fun d s1 qq0 => ?_)
  obtain ⟨H1, I1, q1⟩ := qq0
  cases d with
  | true => exact ha pins s1 σ H1 D I1 q1
  | false => exact hb pins s1 σ H1 D I1 q1
end

noncomputable abbrev TG := V → St → Hp → (St → Hp → Prop) → Prop
noncomputable abbrev TGs := List V → St → Hp → (St → Hp → Prop) → Prop
noncomputable def PG (X : Cx) (target : Expr) (t : TG) : Prop :=
  ∀ (pins : List (Addr × Obj)) (s : Shared) (σ : St) (H : Hp) (v : V) (u : Value) (Q : St → Hp → Prop), Inv X pins σ H s → RelV v u → t v σ H Q →
    wpAny (model X.prog X.w) X.A (assign target X.env u) (fun _ s' => ∃ σ' H', Inv X pins σ' H' s' ∧ Q σ' H') X.xe s
noncomputable def PGs (X : Cx) (ts : List Expr) (t : TGs) : Prop :=
  ∀ (pins : List (Addr × Obj)) (s : Shared) (σ : St) (H : Hp) (vs : List V) (us : List Value) (Q : St → Hp → Prop), Inv X pins σ H s → Vals vs us → t vs σ H Q →
    wpAny (model X.prog X.w) X.A (assignInOrder ((assignEach ts X.env).map (·.2)) us) (fun _ s' => ∃ σ' H', Inv X pins σ' H' s' ∧ Q σ' H') X.xe s
noncomputable abbrev TSet := V → V → V → Hp → (Hp → Prop) → Prop
noncomputable def PSet (X : Cx) (t : TSet) : Prop :=
  ∀ (pins : List (Addr × Obj)) (s : Shared) (σ : St) (H : Hp) (o i v : V) (ov iv u : Value) (Q : Hp → Prop), Inv X pins σ H s → RelV o ov → RelV i iv → RelV v u → t o i v H Q →
    wpAny (model X.prog X.w) X.A (setItem ov iv u) (fun _ s' => ∃ H', Inv X pins σ H' s' ∧ Q H') X.xe s
section
variable {X : Cx} {pos : Pos}
noncomputable def gName (i : Nat) : TG := fun v σ H Q => Q (σ.set i (some v)) H
theorem pg_name {i : Nat} {x : Str} (hN : X.N.Nodup) (hi : X.N[i]? = some x) (hx : Loc X.env.scope x) (hf : autoParam (X.fn x = true ∨ X.env.scope.names.lookup x = some .local) L2.auto1._auto_1) : PG X (.Name x pos) (gName i) := by
  intro pins s σ H v u Q I r h
  exact wpAny_assign_Name (store_ok I hN hi hx r (fun s' I' => ⟨_, H, I', h⟩) hf)
noncomputable def gNil : TGs := fun vs σ H Q => vs = [] ∧ Q σ H
noncomputable def gCons (t : TG) (u : TGs) : TGs := fun vs σ H Q => ∃ v r, vs = v :: r ∧ t v σ H fun σ' H' => u r σ' H' Q
theorem pgs_nil : PGs X [] gNil := by
  intro pins s σ H vs us Q I r h
  obtain ⟨e, h⟩ := h
  subst e
  cases r
  exact assignInOrder_nil ⟨σ, H, I, h⟩
theorem pgs_cons {e : Expr} {es : List Expr} {t : TG} {u : TGs} (h1 : PG X e t) (h2 : PGs X es u)
    (hs : autoParam ((assignEach (e :: es) X.env).map (·.2) = assign e X.env :: (assignEach es X.env).map (·.2)) L2.auto4._auto_1) : PGs X (e :: es) (gCons t u) := by
  intro pins s σ H vs us Q I r h
  obtain ⟨v, vr, e1, h⟩ := h
  subst e1
  cases r with
  | cons r rr =>
    rw [hs]
    refine assignInOrder_cons (thn (h1 pins s σ H _ _ _ I r h) fun _ s1 qq0 => ?_)
    obtain ⟨σ1, H1, I1, q1⟩ := qq0
    exact h2 pins s1 σ1 H1 _ _ Q I1 rr q1
noncomputable def gTup (K : PySem.W.Frag) (n : Nat) (t : TGs) : TG := fun v σ H Q => ∃ a xs, v = .ref a ∧ SqT K H a xs ∧ xs.length = n ∧ t xs σ H Q
theorem pg_tup {es : List Expr} {k : Nat} {t : TGs} {n : Nat} (hc : X.calm = true) (h : PGs X es t)
    (hn : autoParam ((assignEach es X.env).length = n) L2.auto4._auto_1) (hst : autoParam ((assignEach es X.env).findIdx? (·.1) = none) L2.auto4._auto_1) : PG X (.Tuple es k pos) (gTup X.K n t) := by
  intro pins s σ H v u Q I r hw
  obtain ⟨a, xs, e1, hq, hl, hw⟩ := hw
  subst e1
  cases r
  obtain ⟨its, rv, ht, hz⟩ := I.tuple hq
  refine assign_Tuple_tuple (I.ok.hd hc) ht (by simp [hn, ← hl, rv.length]) hst fun h' hx => ?_
  have I1 : Inv X pins σ H { s with heap := h' } := I.kept (t' := s.toks) fun b o e => hx b o (Nat.ne_of_lt (Heap.lt_size e)) e
  exact h pins _ σ H xs _ Q I1 (by simpa using rv) hw
noncomputable def gSub (to ti : TE) (t : TSet) : TG := fun v σ H Q => to σ H fun o H1 => ti σ H1 fun i H2 => t o i v H2 fun H3 => Q σ H3
theorem pg_sub {o i : Expr} {to ti : TE} {t : TSet} (ho : PE X o to) (hi : PE X i ti) (hs : PSet X t)
    (ha : ∀ v, assign (.Subscript o i pos) X.env v = (do
      let ov ← holding [v] (eval o X.env)
      let iv ← holding [v, ov] (eval i X.env)
      standAt pos
      holding [v, ov, iv] (setItem ov iv v)
      release [v, ov, iv] []) := by intro _; rfl) : PG X (.Subscript o i pos) (gSub to ti t) := by
  intro pins s σ H v u Q I r h
  rw [ha]
  refine wpAny_bind (wpAny_holding (thn (ho pins s σ H _ I h) fun ov s1 qq0 => ?_))
  obtain ⟨x, H1, I1, r1, q1⟩ := qq0
  refine wpAny_bind (wpAny_holding (thn (hi pins s1 σ H1 _ I1 q1) fun iv s2 qq0 => ?_))
  obtain ⟨y, H2, I2, r2, q2⟩ := qq0
  refine wpAny_bind (wpAny_standAt (wpAny_bind (wpAny_holding (thn (hs pins s2 σ H2 x y v ov iv u _ I2 r1 r2 r q2) fun _ s3 qq0 => ?_))))
  obtain ⟨H3, I3, q3⟩ := qq0
  exact wpAny_release ⟨σ, H3, I3, q3⟩
noncomputable def tAsg (te : TE) (g : TG) : TS := fun D σ H => te σ H fun x H1 => g x σ H1 D.nx
theorem ps_asg {tg e : Expr} {te : TE} {g : TG} (he : PE X e te) (hg : PG X tg g) (hs : autoParam (swapsWithSole [tg] e pos.line X.env = pure false) L2.auto4._auto_1) (hw : autoParam (swappedStores [tg] e X.env = pure none) L2.auto4._auto_1)
    (h1 : autoParam ((assignEach [tg] X.env).map (·.2) = [assign tg X.env]) L2.auto4._auto_1) : PS X (.Assign [tg] e pos) (tAsg te g) := by
  intro pins s σ H D I h
  refine wpAny_Assign_stores (thn (he pins s σ H _ I h) fun v s1 qq0 => ?_) hs hw
  obtain ⟨x, H1, I1, r1, q1⟩ := qq0
  rw [h1]
  exact thn (hg pins s1 σ H1 x v _ I1 r1 q1) fun _ s2 q => q
theorem ps_set {i : Nat} {x : Str} {e : Expr} {te : TE} {pos' : Pos} (hN : X.N.Nodup) (hi : X.N[i]? = some x) (hx : Loc X.env.scope x) (he : PE X e te) (hs : autoParam (swapsWith e (some (.Name x pos')) pos.line X.env = pure false) L2.auto4._auto_1) (hf : autoParam (X.fn x = true ∨ X.env.scope.names.lookup x = some .local) L2.auto1._auto_1) :
    PS X (.Assign [.Name x pos'] e pos) (tAsg te (gName i)) := by
  intro pins s σ H D I h
  refine wpAny_Assign_Name (thn (he pins s σ H _ I h) fun v s1 qq0 => ?_) hs
  obtain ⟨y, H1, I1, r1, q1⟩ := qq0
  exact store_ok I1 hN hi hx r1 (fun s2 I2 => ⟨_, H1, I2, q1⟩) hf
end

section
variable {X : Cx} {pos : Pos}
end

structure It where
  go : Nat → Hp → Prop
  yld : Nat → Hp → V → Hp → Prop
  stop : Nat → Hp → Prop
noncomputable def FpOk (X : Cx) (pins : List (Addr × Obj)) (H : Hp) (b : Addr) : Prop :=
  H b = none ∧ b ≠ X.env.locals ∧ b ∉ X.fs ∧ (b ∈ X.ex ∨ X.s₀.heap.objs.size ≤ b) ∧ (∀ x c, X.env.cells.lookup x = some c → c ≠ b) ∧ ∀ p ∈ X.pn ++ pins, p.1 ≠ b
theorem Inv.fpOk {X : Cx} {pins : List (Addr × Obj)} {σ : St} {H H' : Hp} {s : Shared} {b : Addr} (I : Inv X pins σ H s) (hb : s.heap.objs.size ≤ b) (hn : H' b = none) : FpOk X pins H' b := by
  refine ⟨hn, Nat.ne_of_gt (Nat.lt_of_lt_of_le I.lt hb), I.nofs hb, .inr (Nat.le_trans I.sz hb), fun x c e z => ?_, fun p hp z => ?_⟩
  · obtain ⟨v, q⟩ := I.cell x c e
    exact absurd (Nat.lt_of_lt_of_le q.lt (by rw [z]; exact hb)) (Nat.lt_irrefl _)
  · exact absurd (Nat.lt_of_lt_of_le (Heap.lt_size (I.pin p hp).1) (by rw [z]; exact hb)) (Nat.lt_irrefl _)
structure Turn (P : Program) (w : World) (K : PySem.W.Frag) (tg : Expr) (J : It) (fp : List Addr) (it : Addr) (tn : Nat → Heap → Prop) : Prop where
  mem : it ∈ fp
  obj : ∀ i h, tn i h → ∀ b ∈ fp, ∃ o, h.get? b = some o ∧ ∀ v, o.data ≠ .cell v
  keep : ∀ i h h', tn i h → (∀ b ∈ fp, ∀ o, h.get? b = some o → h'.get? b = some o) → tn i h'
  item : ∀ (X : Cx), X.prog = P → X.w = w → X.K = K → X.calm = true → ∀ (i : Nat) (pins : List (Addr × Obj)) (s : Shared) (σ : St) (H : Hp) (E : Value → Shared → Prop), Inv X pins σ H s → (∀ b ∈ fp, FpOk X pins H b) → tn i s.heap → J.go i H →
    wpAny (model P w) X.A (pyNext (.ref it)) (fun r s1 => ∃ u, r = some u ∧
      wpAny (model P w) X.A (letOwnedTupleGo tg (.ref it) u) (fun _ s2 => ∃ x H', Inv X pins σ H' s2 ∧ RelV x u ∧ J.yld i H x H' ∧ tn (i + 1) s2.heap ∧ ∀ b ∈ fp, H' b = none) E s1) E s
  done : ∀ (X : Cx), X.prog = P → X.w = w → X.K = K → X.calm = true → ∀ (i : Nat) (pins : List (Addr × Obj)) (s : Shared) (σ : St) (H : Hp) (E : Value → Shared → Prop), Inv X pins σ H s → (∀ b ∈ fp, FpOk X pins H b) → tn i s.heap → J.stop i H →
    wpAny (model P w) X.A (pyNext (.ref it)) (fun r s1 => r = none ∧ Inv X pins σ H s1) E s
  self : ∀ (A : Around) (i : Nat) (s : Shared) (Q : Value → Shared → Prop) (E : Value → Shared → Prop), tn i s.heap → Q (.ref it) s → wpAny (model P w) A (pyIter (.ref it)) Q E s
noncomputable abbrev TI := St → Hp → (It → Hp → Prop) → Prop
noncomputable def PIE (X : Cx) (pins : List (Addr × Obj)) (σ : St) (tg : Expr) (R : It → Hp → Prop) (itv : Value) (s2 : Shared) : Prop :=
  ∃ (it : Addr) (fp : List Addr) (tn : Nat → Heap → Prop) (J : It) (H' : Hp), itv = .ref it ∧ Inv X pins σ H' s2 ∧ Turn X.prog X.w X.K tg J fp it tn ∧ tn 0 s2.heap ∧ (∀ b ∈ fp, FpOk X pins H' b) ∧ R J H'
noncomputable def PI (X : Cx) (tg iter : Expr) (wi : TI) : Prop :=
  ∀ (pins : List (Addr × Obj)) (s : Shared) (σ : St) (H : Hp) (R : It → Hp → Prop), Inv X pins σ H s → wi σ H R →
    wpAny (model X.prog X.w) X.A (eval iter X.env) (fun v s1 => wpAny (model X.prog X.w) X.A (pyIter v) (PIE X pins σ tg R) X.xe s1) X.xe s

theorem go_of {M : Model} {A : Around} {E : Value → Shared → Prop} {s : Shared} {tg : Expr} {it : Addr} {u : Value} {o : Obj} {n : String} {vs : Array Value} {Q : Unit → Shared → Prop} (ho : s.heap.get? it = some o) (hc : o.cls = .type n) (hd : o.data = .fields vs)
    (hn : ["enumerate", "zip", "dict_itemiterator", "dict_reverseitemiterator", "odict_iterator", "itertools.zip_longest", "itertools.pairwise"].contains n = false) (hQ : Q () s) : wpAny M A (letOwnedTupleGo tg (.ref it) u) Q E s := by
  unfold letOwnedTupleGo
  cases tg <;> first
    | exact wpAny_pure hQ
    | (cases u <;> first
        | exact wpAny_pure hQ
        | (refine wpAny_bind (wpAny_load ho ?_)
           rw [hc, hd]
           show wpAny M A (if (["enumerate", "zip", "dict_itemiterator", "dict_reverseitemiterator", "odict_iterator", "itertools.zip_longest", "itertools.pairwise"].contains n && vs[0]? == some (rawInt _)) = true then _ else _) Q E s
           rw [if_neg (by intro h; rw [hn, Bool.false_and] at h; cases h)]
           exact wpAny_pure hQ))

noncomputable def Itl (K : PySem.W.Frag) (a : Addr) : It :=
  ⟨fun i H => ∃ xs x, SqL K H a xs ∧ xs[i]? = some x, fun i H x H' => H' = H ∧ ∀ xs, SqL K H a xs → xs[i]? = some x, fun i H => ∃ xs, SqL K H a xs ∧ xs.length ≤ i⟩
noncomputable def Itt (K : PySem.W.Frag) (a : Addr) : It :=
  ⟨fun i H => ∃ xs x, SqT K H a xs ∧ xs[i]? = some x, fun i H x H' => H' = H ∧ ∀ xs, SqT K H a xs → xs[i]? = some x, fun i H => ∃ xs, SqT K H a xs ∧ xs.length ≤ i⟩
noncomputable def Itr (lo : Int) (n : Nat) : It := ⟨fun i _ => i < n, fun i H x H' => H' = H ∧ x = .int (lo + i), fun i _ => n ≤ i⟩
theorem turn_list {P : Program} {w : World} {K : PySem.W.Frag} {tg : Expr} (a it : Addr) : Turn P w K tg (Itl K a) [it] it (fun i h => h.IsListIter it a i) where
  mem := by simp
  obj := fun i h st b hb => by
    have e : b = it := by simpa using hb
    subst e
    obtain ⟨o, e, c, d⟩ := st
    exact ⟨o, e, fun v z => by rw [d] at z; cases z⟩
  keep := fun i h h' st k => st.at fun o e => k it (by simp) o e
  item := by
    intro X hP hw hK hc i pins s σ H E I hf st hg
    subst hP hw hK
    obtain ⟨xs, x, hq, hx⟩ := hg
    obtain ⟨its, rv, p, hz⟩ := I.list hq
    obtain ⟨u, hu, ru⟩ := rv.get hx
    obtain ⟨f0, f1, f2, f3, f4, f5⟩ := hf it (by simp)
    refine wpAny_pyNext_list_item st p.isList (x := u) (by simpa using hu) fun h' st' sb => ?_
    have I1 : Inv X pins σ H { s with heap := h' } := I.turned (t' := s.toks) (fun b o hb e => (sb.2 b hb).trans e) f0 f1 f3 f4 f5
    obtain ⟨o, e, c, d⟩ := id st'
    exact ⟨u, rfl, go_of (s := { s with heap := h' }) e c d (by decide) ⟨x, H, I1, ru, ⟨rfl, fun ys hy => by rw [I.list_inj hy hq]; exact hx⟩, st', fun b hb => (hf b hb).1⟩⟩
  done := by
    intro X hP hw hK hc i pins s σ H E I hf st hg
    subst hP hw hK
    obtain ⟨xs, hq, hx⟩ := hg
    obtain ⟨its, rv, p, hz⟩ := I.list hq
    obtain ⟨f0, f1, f2, f3, f4, f5⟩ := hf it (by simp)
    have hl := rv.length
    exact wpAny_pyNext_list_end (I.ok.hd hc) st p.isList (by simp; omega) fun h' eb => ⟨rfl, I.turned (t' := s.toks) (fun b o hb e => eb b o hb e) f0 f1 f3 f4 f5⟩
  self := fun _ _ _ _ _ st h => wpAny_pyIter_listiter st h
theorem turn_tuple {P : Program} {w : World} {K : PySem.W.Frag} {tg : Expr} (a it : Addr) : Turn P w K tg (Itt K a) [it] it (fun i h => h.IsTupleIter it a i) where
  mem := by simp
  obj := fun i h st b hb => by
    have e : b = it := by simpa using hb
    subst e
    obtain ⟨o, e, c, d⟩ := st
    exact ⟨o, e, fun v z => by rw [d] at z; cases z⟩
  keep := fun i h h' st k => st.at fun o e => k it (by simp) o e
  item := by
    intro X hP hw hK hc i pins s σ H E I hf st hg
    subst hP hw hK
    obtain ⟨xs, x, hq, hx⟩ := hg
    obtain ⟨its, rv, p, hz⟩ := I.tuple hq
    obtain ⟨u, hu, ru⟩ := rv.get hx
    obtain ⟨f0, f1, f2, f3, f4, f5⟩ := hf it (by simp)
    refine wpAny_pyNext_tuple_item st (show s.heap.IsTuple a its.toArray from p) (x := u) (by simpa using hu) fun h' st' sb => ?_
    have I1 : Inv X pins σ H { s with heap := h' } := I.turned (t' := s.toks) (fun b o hb e => (sb.2 b hb).trans e) f0 f1 f3 f4 f5
    obtain ⟨o, e, c, d⟩ := id st'
    exact ⟨u, rfl, go_of (s := { s with heap := h' }) e c d (by decide) ⟨x, H, I1, ru, ⟨rfl, fun ys hy => by rw [I.tuple_inj hy hq]; exact hx⟩, st', fun b hb => (hf b hb).1⟩⟩
  done := by
    intro X hP hw hK hc i pins s σ H E I hf st hg
    subst hP hw hK
    obtain ⟨xs, hq, hx⟩ := hg
    obtain ⟨its, rv, p, hz⟩ := I.tuple hq
    obtain ⟨f0, f1, f2, f3, f4, f5⟩ := hf it (by simp)
    have hl := rv.length
    exact wpAny_pyNext_tuple_end (I.ok.hd hc) st (show s.heap.IsTuple a its.toArray from p) (by simp; omega) fun h' eb => ⟨rfl, I.turned (t' := s.toks) (fun b o hb e => eb b o hb e) f0 f1 f3 f4 f5⟩
  self := fun _ _ _ _ _ st h => wpAny_pyIter_tupleiter st h
theorem turn_range {P : Program} {w : World} {K : PySem.W.Frag} {tg : Expr} (it : Addr) (lo : Int) (n : Nat) : Turn P w K tg (Itr lo n) [it] it (fun i h => IsRangeIter h it (lo + (i : Nat) * 1) ((n : Int) - (i : Nat)) 1) where
  mem := by simp
  obj := fun i h st b hb => by
    have e : b = it := by simpa using hb
    subst e
    exact ⟨_, st, fun v z => by
      have z' : Data.fields _ = Data.cell v := z
      cases z'⟩
  keep := fun i h h' st k => k it (by simp) _ st
  item := by
    intro X hP hw hK hc i pins s σ H E I hf st hg
    subst hP hw hK
    obtain ⟨f0, f1, f2, f3, f4, f5⟩ := hf it (by simp)
    have W := Walks.range (prog := X.prog) (w := X.w) (I.ok.hd hc) it lo 1 n
    refine W.item i s _ _ hg st fun v h' tk hv st' kk => ?_
    obtain ⟨t, rfl⟩ := hv
    have I1 : Inv X pins σ H { s with heap := h', toks := tk } := I.turned (fun b o hb e => kk b o (by simpa using hb) e) f0 f1 f3 f4 f5
    refine ⟨_, rfl, go_of (s := { s with heap := h', toks := tk }) (n := "range_iterator") st' rfl rfl (by decide) ⟨.int (lo + i), H, I1, ⟨t, ?_⟩, ⟨rfl, rfl⟩, st', fun b hb => (hf b hb).1⟩⟩
    rw [Int.mul_one]
  done := by
    intro X hP hw hK hc i pins s σ H E I hf st hg
    subst hP hw hK
    obtain ⟨f0, f1, f2, f3, f4, f5⟩ := hf it (by simp)
    exact wpAny_pyNext_range_end (I.ok.hd hc) st (by have : n ≤ i := hg; omega) fun h' eb => ⟨rfl, I.turned (t' := s.toks) (fun b o hb e => eb b o hb e) f0 f1 f3 f4 f5⟩
  self := fun _ _ _ _ _ st h => wpAny_pyIter_rangeiter st h
end L2

namespace L2
open PySem PySem.Spec PyProof.Rows
section
variable {X : Cx} {tg : Expr}
theorem range_it {pins : List (Addr × Obj)} {σ : St} {H : Hp} {s : Shared} {R : It → Hp → Prop} {E : Value → Shared → Prop} {lo hi : Int} {t u v : Tok} {tk : Nat} (I : Inv X pins σ H s) (h1 : -(2 ^ 62) ≤ lo) (h2 : lo < 2 ^ 62) (h3 : -(2 ^ 62) ≤ hi) (h4 : hi < 2 ^ 62)
    (q : R (Itr lo (hi - lo).toNat) H) : wpAny (model X.prog X.w) X.A (pyIter (.ref s.heap.objs.size)) (PIE X pins σ tg R) E { s with heap := s.heap.push { cls := .type "range", data := .fields #[.int lo t, .int hi u, .int 1 v] }, toks := tk } := by
  refine wpAny_pyIter_range (IsRange.new ..) (small_one h1 h2 h3 h4) ?_
  have I1 : Inv X pins σ H { s with heap := s.heap.push { cls := .type "range", data := .fields #[.int lo t, .int hi u, .int 1 v] }, toks := tk } := I.kept fun b o e => Heap.get?_push_of_some _ e
  refine ⟨(s.heap.push { cls := .type "range", data := .fields #[.int lo t, .int hi u, .int 1 v] }).objs.size, [(s.heap.push { cls := .type "range", data := .fields #[.int lo t, .int hi u, .int 1 v] }).objs.size], _, _, H, rfl,
    I1.kept (t' := tk) fun b o e => Heap.get?_push_of_some _ e, turn_range _ lo (hi - lo).toNat, ?_, fun b hb => ?_, q⟩
  · have e1 : lo + ((0 : Nat) : Int) * 1 = lo := by simp
    have e2 : (((hi - lo).toNat : Nat) : Int) - ((0 : Nat) : Int) = Builtin.Range.rangeSize lo hi 1 := by rw [rangeSize_one]; split <;> omega
    show IsRangeIter _ _ (lo + ((0 : Nat) : Int) * 1) ((((hi - lo).toNat : Nat) : Int) - ((0 : Nat) : Int)) 1
    rw [e1, e2]
    exact Heap.get?_push_size _ rfl
  · have e : b = (s.heap.push { cls := .type "range", data := .fields #[.int lo t, .int hi u, .int 1 v] }).objs.size := by simpa using hb
    subst e
    exact I1.fpOk (Nat.le_refl _) (I1.hok.fresh (Nat.le_refl _))
noncomputable def iRng1 (ta : TA) : TI := fun σ H R => ta σ H fun vs H1 => ∃ j : Int, vs = [.int j] ∧ -(2 ^ 62) ≤ j ∧ j < 2 ^ 62 ∧ R (Itr 0 j.toNat) H1
theorem pi_range1 {a : Expr} {ta : TA} {p pos : Pos} (hg : Gl X "range") (hm : X.mg "range" = none) (ha : PA X [a] ta) (hs : autoParam (starEach [a] X.env = [(false, eval a X.env)]) L2.auto4._auto_1) : PI X tg (.Call (.Name "range" p) [a] [] pos) (iRng1 ta) := by
  intro pins s σ H R I h
  refine Call_ (ld_blt I hg hm boot_range (PyProof.Rows.callWith_type1 (thn (ha pos pins s σ H _ I h) fun us s1 ⟨vs, H1, I1, r1, q1⟩ => ?_) hs rfl))
  obtain ⟨j, e, q1, q2, q⟩ := q1
  subst e
  cases r1 with
  | cons r rr =>
    cases rr
    obtain ⟨t, rfl⟩ := r
    exact call_range_1 (range_it I1 (by omega) (by omega) q1 q2 (by simpa using q))
noncomputable def tFor (wi : TI) (g : TG) (tb : TS) : TS := fun D σ H => wi σ H fun J H1 => ∃ W : Nat → Nat → St → Hp → Prop, (∃ m, W 0 m σ H1) ∧ ∀ i m σ H, W i m σ H →
  (J.stop i H ∧ D.nx σ H) ∨ (J.go i H ∧ ∃ N : St → Hp → Prop, (∀ σ' H', N σ' H' → ∃ m', m' < m ∧ W (i + 1) m' σ' H') ∧ ∀ x H', J.yld i H x H' → g x σ H' fun σ2 H2 => tb { D with nx := N, ct := N, bk := D.nx } σ2 H2)
noncomputable def pinsAt (fp : List Addr) (h : Heap) : List (Addr × Obj) := fp.filterMap fun b => (h.get? b).map fun o => (b, o)
theorem mem_pinsAt {fp : List Addr} {h : Heap} {b : Addr} {o : Obj} (hb : b ∈ fp) (e : h.get? b = some o) : (b, o) ∈ pinsAt fp h := List.mem_filterMap.mpr ⟨b, hb, by rw [e]; rfl⟩
theorem of_pinsAt {fp : List Addr} {h : Heap} {p : Addr × Obj} (hp : p ∈ pinsAt fp h) : p.1 ∈ fp ∧ h.get? p.1 = some p.2 := by
  obtain ⟨b, hb, e⟩ := List.mem_filterMap.mp hp
  cases q : h.get? b with
  | none => rw [q] at e; cases e
  | some o =>
    rw [q] at e
    have e' : (b, o) = p := Option.some.inj e
    subst e'
    exact ⟨hb, q⟩
theorem Inv.pinned {pins : List (Addr × Obj)} {σ : St} {H : Hp} {s : Shared} {fp : List Addr} (I : Inv X pins σ H s) (hf : ∀ b ∈ fp, FpOk X pins H b) (ho : ∀ b ∈ fp, ∃ o, s.heap.get? b = some o ∧ ∀ v, o.data ≠ .cell v) : Inv X (pins ++ pinsAt fp s.heap) σ H s :=
  I.pins_of fun p hp => (List.mem_append.mp hp).elim (fun z => I.pin p (List.mem_append_right _ z)) fun z => by
    obtain ⟨hb, e⟩ := of_pinsAt z
    obtain ⟨f0, f1, f2, _⟩ := hf p.1 hb
    obtain ⟨o, e', d⟩ := ho p.1 hb
    rw [e] at e'; cases e'
    exact ⟨e, f0, f1, f2, d⟩
theorem Inv.unpinned {pins pl : List (Addr × Obj)} {σ : St} {H : Hp} {s : Shared} (I : Inv X (pins ++ pl) σ H s) : Inv X pins σ H s := I.pins_of fun p hp => I.pin p (List.mem_append_right _ (List.mem_append_left _ hp))
theorem ps_for {iter : Expr} {body : List Stmt} {wi : TI} {g : TG} {tb : TS} {pos : Pos} (hp : PassesOwn (model X.prog X.w) X.A X.env X.xe) (hc : X.calm = true) (hi : PI X tg iter wi) (hg : PG X tg g) (hb : PSs X body tb)
    (hs : autoParam (∀ x, foldedSetIterable iter X.env x = pure x) L2.auto3._auto_1) : PS X (.For tg iter body [] pos) (tFor wi g tb) := by
  intro pins s σ H D I h
  refine wpAny_For (thn (hi pins s σ H _ I h) fun v s1 h1 => thn h1 fun itv s2 h2 => ?_) hs
  obtain ⟨it, fp, tn, J, H2, e, I2, T, st2, f2, W, ⟨m0, w0⟩, turn⟩ := h2
  subst e
  -- what stays true of the iterator's objects through the loop
  have stat : ∀ {H' : Hp}, (∀ b ∈ fp, H' b = none) → ∀ b ∈ fp, FpOk X pins H' b := fun hn b hb => ⟨hn b hb, (f2 b hb).2⟩
  refine codeAny_forLoop_any (fun n s' => ∃ i σ' H', Inv X pins σ' H' s' ∧ tn i s'.heap ∧ (∀ b ∈ fp, H' b = none) ∧ W i n σ' H') ?_ m0 ⟨0, σ, H2, I2, st2, fun b hb => (f2 b hb).1, w0⟩
  rintro n s3 ⟨i, σ3, H3, I3, st3, fr3, w3⟩
  rcases turn i n σ3 H3 w3 with ⟨stop, qn⟩ | ⟨go, N, hN, step⟩
  · refine wpAny_passesOwn hp (thn (T.done X rfl rfl rfl hc i pins s3 σ3 H3 X.xe I3 (stat fr3) st3 stop) fun r s4 qq0 => ?_)
    obtain ⟨hr, I4⟩ := qq0
    subst hr
    exact wpAny_execs_nil ⟨σ3, H3, I4, qn⟩
  · refine wpAny_passesOwn hp (thn (T.item X rfl rfl rfl hc i pins s3 σ3 H3 X.xe I3 (stat fr3) st3 go) fun r s4 qq0 => ?_)
    obtain ⟨u, hr, h4⟩ := qq0
    subst hr
    refine wpAny_passesOwn hp (thn h4 fun _ s5 qq0 => ?_)
    obtain ⟨x, H5, I5, r5, y5, st5, fr5⟩ := qq0
    have I5' := I5.pinned (stat fr5) (T.obj _ _ st5)
    refine wpAny_passesOwn hp (thn (hg _ s5 σ3 H5 x u _ I5' r5 (step x H5 y5)) fun _ s6 qq0 => ?_)
    obtain ⟨σ6, H6, I6, q6⟩ := qq0
    refine wpAny_passesOwn hp (thn (hb _ s6 σ6 H6 _ I6 q6) fun f s7 q7 => ?_)
    have again : ∀ {σ7 : St} {H7 : Hp}, Inv X (pins ++ pinsAt fp s5.heap) σ7 H7 s7 → N σ7 H7 → ∃ m, m < n ∧ ∃ i σ' H', Inv X pins σ' H' s7 ∧ tn i s7.heap ∧ (∀ b ∈ fp, H' b = none) ∧ W i m σ' H' := fun {σ7 H7} I7 n7 => by
      obtain ⟨m', hm, w7⟩ := hN σ7 H7 n7
      refine ⟨m', hm, i + 1, σ7, H7, I7.unpinned, T.keep _ _ _ st5 fun b hb o e => (I7.pin (b, o) (List.mem_append_right _ (List.mem_append_right _ (mem_pinsAt hb e)))).1, fun b hb => ?_, w7⟩
      obtain ⟨o, e, d⟩ := T.obj _ _ st5 b hb
      exact (I7.pin (b, o) (List.mem_append_right _ (List.mem_append_right _ (mem_pinsAt hb e)))).2.1
    cases f with
    | next => obtain ⟨σ7, H7, I7, n7⟩ := q7; exact again I7 n7
    | cont => obtain ⟨σ7, H7, I7, n7⟩ := q7; exact again I7 n7
    | brk => obtain ⟨σ7, H7, I7, q7⟩ := q7; exact ⟨σ7, H7, I7.unpinned, q7⟩
    | ret v => obtain ⟨x7, σ7, H7, I7, r7, q7⟩ := q7; exact ⟨x7, σ7, H7, I7.unpinned, r7, q7⟩
end

theorem for_list {K : PySem.W.Frag} {a : Addr} {xs : List V} {g : TG} {tb : TS} {D : Ends} {σ : St} {H : Hp} (Pv : Nat → St → Hp → Prop) (h0 : Pv 0 σ H) (hl : ∀ i σ H, i ≤ xs.length → Pv i σ H → SqL K H a xs)
    (hs : ∀ i x σ H, xs[i]? = some x → Pv i σ H → g x σ H fun σ2 H2 => tb { D with nx := Pv (i + 1), ct := Pv (i + 1), bk := D.nx } σ2 H2) (hd : ∀ σ H, Pv xs.length σ H → D.nx σ H) :
    ∃ W : Nat → Nat → St → Hp → Prop, (∃ m, W 0 m σ H) ∧ ∀ i m σ H, W i m σ H →
      ((Itl K a).stop i H ∧ D.nx σ H) ∨ ((Itl K a).go i H ∧ ∃ N : St → Hp → Prop, (∀ σ' H', N σ' H' → ∃ m', m' < m ∧ W (i + 1) m' σ' H') ∧ ∀ x H', (Itl K a).yld i H x H' → g x σ H' fun σ2 H2 => tb { D with nx := N, ct := N, bk := D.nx } σ2 H2) := by
  refine ⟨fun i m σ H => m = xs.length - i ∧ i ≤ xs.length ∧ Pv i σ H, ⟨xs.length, by simp, Nat.zero_le _, h0⟩, ?_⟩
  rintro i m σ H ⟨rfl, hi, p⟩
  have q := hl i σ H hi p
  by_cases hlt : i < xs.length
  · refine .inr ⟨⟨xs, xs[i], q, by simp [hlt]⟩, Pv (i + 1), fun σ' H' p' => ⟨xs.length - (i + 1), by omega, rfl, hlt, p'⟩, fun x H' y => ?_⟩
    obtain ⟨e, y⟩ := y
    subst e
    exact hs i x σ _ (y xs q) p
  · have e : i = xs.length := by omega
    subst e
    exact .inl ⟨⟨xs, q, Nat.le_refl _⟩, hd σ H p⟩
theorem for_range {lo : Int} {n : Nat} {g : TG} {tb : TS} {D : Ends} {σ : St} {H : Hp} (Pv : Nat → St → Hp → Prop) (h0 : Pv 0 σ H)
    (hs : ∀ i σ H, i < n → Pv i σ H → g (.int (lo + i)) σ H fun σ2 H2 => tb { D with nx := Pv (i + 1), ct := Pv (i + 1), bk := D.nx } σ2 H2) (hd : ∀ σ H, Pv n σ H → D.nx σ H) :
    ∃ W : Nat → Nat → St → Hp → Prop, (∃ m, W 0 m σ H) ∧ ∀ i m σ H, W i m σ H →
      ((Itr lo n).stop i H ∧ D.nx σ H) ∨ ((Itr lo n).go i H ∧ ∃ N : St → Hp → Prop, (∀ σ' H', N σ' H' → ∃ m', m' < m ∧ W (i + 1) m' σ' H') ∧ ∀ x H', (Itr lo n).yld i H x H' → g x σ H' fun σ2 H2 => tb { D with nx := N, ct := N, bk := D.nx } σ2 H2) := by
  refine ⟨fun i m σ H => m = n - i ∧ i ≤ n ∧ Pv i σ H, ⟨n, by simp, Nat.zero_le _, h0⟩, ?_⟩
  rintro i m σ H ⟨rfl, hi, p⟩
  by_cases hlt : i < n
  · refine .inr ⟨hlt, Pv (i + 1), fun σ' H' p' => ⟨n - (i + 1), by omega, rfl, hlt, p'⟩, fun x H' y => ?_⟩
    obtain ⟨e, y⟩ := y
    subst e y
    exact hs i σ _ hlt p
  · have e : i = n := by omega
    subst e
    exact .inl ⟨Nat.le_refl _, hd σ H p⟩
end L2

namespace L2
open PySem PySem.Spec PyProof.Rows

noncomputable abbrev R2 := V → V → Hp → VK → Prop
noncomputable def OpR (X : Cx) (f : Value → Value → Sem Value) (r : R2) : Prop :=
  ∀ (pins : List (Addr × Obj)) (s : Shared) (σ : St) (H : Hp) (x y : V) (v u : Value) (Q : VK), Inv X pins σ H s → RelV x v → RelV y u → r x y H Q →
    wpAny (model X.prog X.w) X.A (f v u) (EP X pins σ Q) X.xe s
noncomputable def UnR (X : Cx) (f : Value → Sem Value) (r : V → Hp → VK → Prop) : Prop :=
  ∀ (pins : List (Addr × Obj)) (s : Shared) (σ : St) (H : Hp) (x : V) (v : Value) (Q : VK), Inv X pins σ H s → RelV x v → r x H Q →
    wpAny (model X.prog X.w) X.A (f v) (EP X pins σ Q) X.xe s
noncomputable def CallR (X : Cx) (f : Value) (r : List V → Hp → VK → Prop) : Prop :=
  ∀ (pins : List (Addr × Obj)) (s : Shared) (σ : St) (H : Hp) (xs : List V) (us : List Value) (Q : VK), Inv X pins σ H s → Vals xs us → r xs H Q →
    wpAny (model X.prog X.w) X.A (call f us) (EP X pins σ Q) X.xe s
noncomputable def tOp (r : R2) (ta tb : TE) : TE := fun σ H Q => ta σ H fun x H1 => tb σ H1 fun y H2 => r x y H2 Q
noncomputable def tUn (r : V → Hp → VK → Prop) (ta : TE) : TE := fun σ H Q => ta σ H fun x H1 => r x H1 Q
noncomputable def rI (C : Int → Int → Prop) (g : Int → Int → V) : R2 := fun x y H Q => ∃ i j, x = .int i ∧ y = .int j ∧ C i j ∧ Q (g i j) H
noncomputable def rI0 (g : Int → Int → V) : R2 := fun x y H Q => ∃ i j, x = .int i ∧ y = .int j ∧ Q (g i j) H
noncomputable def rU (g : Int → V) : V → Hp → VK → Prop := fun x H Q => ∃ i, x = .int i ∧ Q (g i) H

section
variable {X : Cx} {a b c : Expr} {ta tb tc : TE} {pos : Pos}

theorem binT (ha : PE X a ta) (hb : PE X b tb) {pins : List (Addr × Obj)} {s : Shared} {σ : St} {H : Hp} {R : V → V → Hp → Prop} (I : Inv X pins σ H s)
    (h : ta σ H fun x H1 => tb σ H1 fun y H2 => R x y H2) {Q : Value → Shared → Prop} {f : Value → Value → Sem Value}
    (hf : ∀ v u s2 x y H2, Inv X pins σ H2 s2 → RelV x v → RelV y u → R x y H2 → wpAny (model X.prog X.w) X.A (f v u) Q X.xe s2) :
    wpAny (model X.prog X.w) X.A (eval a X.env) (fun v s₁ => wpAny (model X.prog X.w) X.A (eval b X.env) (fun u s₂ => wpAny (model X.prog X.w) X.A (f v u) Q X.xe s₂) X.xe s₁) X.xe s := by
  refine thn (ha pins s σ H _ I h) fun v s1 qq0 => ?_
  obtain ⟨x, H1, I1, r1, q1⟩ := qq0
  refine thn (hb pins s1 σ H1 _ I1 q1) fun u s2 qq0 => ?_
  obtain ⟨y, H2, I2, r2, q2⟩ := qq0
  exact hf v u s2 x y H2 I2 r1 r2 q2

theorem pe_op {op : Operator} {r : R2} (ho : OpR X (binaryOp op) r) (ha : PE X a ta) (hb : PE X b tb) : PE X (.BinOp a op b pos) (tOp r ta tb) := by
  intro pins s σ H Q I h
  exact wpAny_BinOp (binT ha hb I h fun v u s2 x y H2 I2 rx ry q => ho pins s2 σ H2 x y v u Q I2 rx ry q)
theorem pe_un {op : UnaryOp} {r : V → Hp → VK → Prop} (ho : UnR X (unaryOp op) r) (ha : PE X a ta) : PE X (.UnaryOp op a pos) (tUn r ta) := by
  intro pins s σ H Q I h
  exact UnaryOp_ (thn (ha pins s σ H _ I h) fun v s1 ⟨x, H1, I1, r1, q1⟩ => ho pins s1 σ H1 x v Q I1 r1 q1)
theorem opI {f : Value → Value → Sem Value} {C : Int → Int → Prop} {g : Int → Int → Int}
    (rule : ∀ (i j : Int) (t u : Tok) (s : Shared) (Q : Value → Shared → Prop) (E : Value → Shared → Prop), C i j → Q (.int (g i j) s.toks) { s with toks := s.toks + 1 } → wpAny (model X.prog X.w) X.A (f (.int i t) (.int j u)) Q E s) :
    OpR X f (rI C fun i j => .int (g i j)) := by
  intro pins s σ H x y v u Q I rx ry h
  obtain ⟨i, j, rfl, rfl, hc, q⟩ := h
  obtain ⟨t, rfl⟩ := rx
  obtain ⟨t', rfl⟩ := ry
  exact rule i j t t' s _ _ hc ⟨.int (g i j), H, I.tok _, ⟨_, rfl⟩, q⟩
theorem opI0 {f : Value → Value → Sem Value} {g : Int → Int → Int}
    (rule : ∀ (i j : Int) (t u : Tok) (s : Shared) (Q : Value → Shared → Prop) (E : Value → Shared → Prop), Q (.int (g i j) s.toks) { s with toks := s.toks + 1 } → wpAny (model X.prog X.w) X.A (f (.int i t) (.int j u)) Q E s) :
    OpR X f (rI0 fun i j => .int (g i j)) := by
  intro pins s σ H x y v u Q I rx ry h
  obtain ⟨i, j, rfl, rfl, q⟩ := h
  obtain ⟨t, rfl⟩ := rx
  obtain ⟨t', rfl⟩ := ry
  exact rule i j t t' s _ _ ⟨.int (g i j), H, I.tok _, ⟨_, rfl⟩, q⟩
theorem opB0 {f : Value → Value → Sem Value} {g : Int → Int → Bool}
    (rule : ∀ (i j : Int) (t u : Tok) (s : Shared) (Q : Value → Shared → Prop) (E : Value → Shared → Prop), Q (.bool (g i j)) s → wpAny (model X.prog X.w) X.A (f (.int i t) (.int j u)) Q E s) :
    OpR X f (rI0 fun i j => .bl (g i j)) := by
  intro pins s σ H x y v u Q I rx ry h
  obtain ⟨i, j, rfl, rfl, q⟩ := h
  obtain ⟨t, rfl⟩ := rx
  obtain ⟨t', rfl⟩ := ry
  exact rule i j t t' s _ _ ⟨.bl (g i j), H, I, rfl, q⟩

noncomputable def CPow (i j : Int) : Prop := 0 ≤ j ∧ j ≤ 1000000 ∧ i.natAbs < 2 ^ 64
noncomputable def CMul (i j : Int) : Prop := (-(2 ^ 64) < i ∧ i < 2 ^ 64) ∨ (-(2 ^ 64) < j ∧ j < 2 ^ 64)
theorem CMul.ok {i j : Int} (h : CMul i j) : IntMulOk i j := by
  rcases h with ⟨h1, h2⟩ | ⟨h1, h2⟩
  · exact .of_left (intBits_le_64 h1 h2)
  · exact .of_right (intBits_le_64 h1 h2)
theorem op_add : OpR X (binaryOp .Add) (rI0 fun i j => .int (i + j)) := opI0 fun _ _ _ _ _ _ _ q => add_int q
theorem op_sub : OpR X (binaryOp .Sub) (rI0 fun i j => .int (i - j)) := opI0 fun _ _ _ _ _ _ _ q => sub_int q
theorem op_mul : OpR X (binaryOp .Mult) (rI CMul fun i j => .int (i * j)) := opI fun _ _ _ _ _ _ _ hc q => mul_int q hc.ok
theorem op_mod : OpR X (binaryOp .Mod) (rI (fun _ j => 0 < j) fun i j => .int (i % j)) := opI fun i j _ _ _ _ _ hc q => by
  have h1 : (0 : Int) < j := hc
  exact mod_int' (by omega) (by rw [Int.fmod_eq_emod_of_nonneg i (by omega)]; exact q)
theorem op_pow : OpR X (binaryOp .Pow) (rI CPow fun i j => .int (i ^ j.toNat)) := opI fun _ _ _ _ _ _ _ hc q => pow_int_small hc.1 hc.2.1 hc.2.2 q
theorem unI {f : Value → Sem Value} {g : Int → Int}
    (rule : ∀ (i : Int) (t : Tok) (s : Shared) (Q : Value → Shared → Prop) (E : Value → Shared → Prop), Q (.int (g i) s.toks) { s with toks := s.toks + 1 } → wpAny (model X.prog X.w) X.A (f (.int i t)) Q E s) :
    UnR X f (rU fun i => .int (g i)) := by
  intro pins s σ H x v Q I rx h
  obtain ⟨i, rfl, q⟩ := h
  obtain ⟨t, rfl⟩ := rx
  exact rule i t s _ _ ⟨.int (g i), H, I.tok _, ⟨_, rfl⟩, q⟩
theorem un_neg : UnR X (unaryOp .USub) (rU fun i => .int (-i)) := unI fun _ _ _ _ _ q => neg_int q
end

noncomputable def scal : V → V → Bool
  | .non, .non => true | .non, .int _ => true | .int _, .non => true | .non, .bl _ => true | .bl _, .non => true | .non, .str _ => true | .str _, .non => true
  | .int _, .int _ => true | .bl _, .bl _ => true | .str _, .str _ => true | .byt _, .byt _ => true
  | .int _, .str _ => true | .str _, .int _ => true | .bl _, .str _ => true | .str _, .bl _ => true
  | _, _ => false
noncomputable def rEq : R2 := fun x y H Q => scal x y = true ∧ Q (.bl (decide (x = y))) H
noncomputable def rNe : R2 := fun x y H Q => scal x y = true ∧ Q (.bl (!decide (x = y))) H

theorem dec_int {i j : Int} : decide (V.int i = V.int j) = (i == j) := by
  rw [Bool.eq_iff_iff]
  simp
theorem dec_bl {i j : Bool} : decide (V.bl i = V.bl j) = (i == j) := by
  rw [Bool.eq_iff_iff]
  simp
theorem dec_str {i j : Str} : decide (V.str i = V.str j) = (i == j) := by
  rw [Bool.eq_iff_iff]
  simp
theorem dec_byt {i j : Array UInt8} : decide (V.byt i = V.byt j) = (i.toList == j.toList) := by
  rw [Bool.eq_iff_iff]
  cases i
  cases j
  simp

section
variable {X : Cx} {a b c : Expr} {ta tb tc : TE} {pos : Pos}
theorem fin_bl {pins : List (Addr × Obj)} {σ : St} {H : Hp} {s : Shared} {Q : VK} {k k' : Bool} (I : Inv X pins σ H s) (q : Q (.bl k) H) (e : k = k') : EP X pins σ Q (.bool k') s := by
  subst e
  exact ⟨.bl k, H, I, rfl, q⟩
theorem op_eq : OpR X (compareOp .Eq) rEq := by
  intro pins s σ H x y v u Q I rx ry h
  obtain ⟨hs, q⟩ := h
  cases x with
  | non =>
    cases rx
    cases y with
    | non => cases ry; exact PySem.EqNone.eq_none_none (fin_bl I q (by simp))
    | bl j => cases ry; exact PySem.EqNone.eq_none_bool (fin_bl I q (by simp))
    | int j => obtain ⟨t', rfl⟩ := ry; exact PySem.EqNone.eq_none_int (fin_bl I q (by simp))
    | str j => obtain ⟨t', rfl⟩ := ry; exact PySem.EqNone.eq_none_str (fin_bl I q (by simp))
    | _ => exact absurd (show false = true from hs) Bool.false_ne_true
  | bl i =>
    cases rx
    cases y with
    | non => cases ry; exact PySem.EqNone.eq_bool_none (fin_bl I q (by simp))
    | bl j => cases ry; exact eq_bool (fin_bl I q dec_bl)
    | str j => obtain ⟨t', rfl⟩ := ry; exact PySem.EqMixed.eq_bool_str (fin_bl I q (by simp))
    | _ => exact absurd (show false = true from hs) Bool.false_ne_true
  | int i =>
    obtain ⟨t, rfl⟩ := rx
    cases y with
    | non => cases ry; exact PySem.EqNone.eq_int_none (fin_bl I q (by simp))
    | int j => obtain ⟨t', rfl⟩ := ry; exact eq_int (fin_bl I q dec_int)
    | str j => obtain ⟨t', rfl⟩ := ry; exact PySem.EqMixed.eq_int_str (fin_bl I q (by simp))
    | _ => exact absurd (show false = true from hs) Bool.false_ne_true
  | str i =>
    obtain ⟨t, rfl⟩ := rx
    cases y with
    | non => cases ry; exact PySem.EqNone.eq_str_none (fin_bl I q (by simp))
    | bl j => cases ry; exact PySem.EqMixed.eq_str_bool (fin_bl I q (by simp))
    | int j => obtain ⟨t', rfl⟩ := ry; exact PySem.EqMixed.eq_str_int (fin_bl I q (by simp))
    | str j => obtain ⟨t', rfl⟩ := ry; exact eq_str (fin_bl I q dec_str)
    | _ => exact absurd (show false = true from hs) Bool.false_ne_true
  | byt i =>
    obtain ⟨t, rfl⟩ := rx
    cases y with
    | byt j => obtain ⟨t', rfl⟩ := ry; exact PySem.W.eq_bytes (fin_bl I q dec_byt)
    | _ => exact absurd (show false = true from hs) Bool.false_ne_true
  | _ => cases y <;> exact absurd (show false = true from hs) Bool.false_ne_true
theorem op_ne : OpR X (compareOp .NotEq) rNe := by
  intro pins s σ H x y v u Q I rx ry h
  obtain ⟨hs, q⟩ := h
  cases x with
  | non =>
    cases rx
    cases y with
    | non => cases ry; exact PySem.EqNone.ne_none_none (fin_bl I q (by simp))
    | bl j => cases ry; exact PySem.EqNone.ne_none_bool (fin_bl I q (by simp))
    | int j => obtain ⟨t', rfl⟩ := ry; exact PySem.EqNone.ne_none_int (fin_bl I q (by simp))
    | str j => obtain ⟨t', rfl⟩ := ry; exact PySem.EqNone.ne_none_str (fin_bl I q (by simp))
    | _ => exact absurd (show false = true from hs) Bool.false_ne_true
  | bl i =>
    cases rx
    cases y with
    | non => cases ry; exact PySem.EqNone.ne_bool_none (fin_bl I q (by simp))
    | bl j => cases ry; exact ne_bool (fin_bl I q (congrArg not dec_bl))
    | str j => obtain ⟨t', rfl⟩ := ry; exact PySem.EqMixed.ne_bool_str (fin_bl I q (by simp))
    | _ => exact absurd (show false = true from hs) Bool.false_ne_true
  | int i =>
    obtain ⟨t, rfl⟩ := rx
    cases y with
    | non => cases ry; exact PySem.EqNone.ne_int_none (fin_bl I q (by simp))
    | int j => obtain ⟨t', rfl⟩ := ry; exact ne_int (fin_bl I q (congrArg not dec_int))
    | str j => obtain ⟨t', rfl⟩ := ry; exact PySem.EqMixed.ne_int_str (fin_bl I q (by simp))
    | _ => exact absurd (show false = true from hs) Bool.false_ne_true
  | str i =>
    obtain ⟨t, rfl⟩ := rx
    cases y with
    | non => cases ry; exact PySem.EqNone.ne_str_none (fin_bl I q (by simp))
    | bl j => cases ry; exact PySem.EqMixed.ne_str_bool (fin_bl I q (by simp))
    | int j => obtain ⟨t', rfl⟩ := ry; exact PySem.EqMixed.ne_str_int (fin_bl I q (by simp))
    | str j => obtain ⟨t', rfl⟩ := ry; exact ne_str (fin_bl I q (congrArg not dec_str))
    | _ => exact absurd (show false = true from hs) Bool.false_ne_true
  | byt i =>
    obtain ⟨t, rfl⟩ := rx
    cases y with
    | byt j => obtain ⟨t', rfl⟩ := ry; exact PySem.W.ne_bytes (fin_bl I q (congrArg not dec_byt))
    | _ => exact absurd (show false = true from hs) Bool.false_ne_true
  | _ => cases y <;> exact absurd (show false = true from hs) Bool.false_ne_true

theorem op_lt : OpR X (compareOp .Lt) (rI0 fun i j => .bl (decide (i < j))) := opB0 fun _ _ _ _ _ _ _ q => lt_int q
theorem op_gt : OpR X (compareOp .Gt) (rI0 fun i j => .bl (decide (j < i))) := opB0 fun _ _ _ _ _ _ _ q => gt_int q
theorem op_ge : OpR X (compareOp .GtE) (rI0 fun i j => .bl (decide (j ≤ i))) := opB0 fun _ _ _ _ _ _ _ q => ge_int q
theorem op_in_str : OpR X (compareOp .In) (fun x y H Q => ∃ i j, x = .str i ∧ y = .str j ∧ Q (.bl (!(Builtin.Str.occurrences j i 0 j.length 1).isEmpty)) H) := by
  intro pins s σ H x y v u Q I rx ry h
  obtain ⟨i, j, rfl, rfl, q⟩ := h
  obtain ⟨t, rfl⟩ := rx
  obtain ⟨t', rfl⟩ := ry
  exact in_str (fin_bl I q rfl)

theorem OpR.or {f : Value → Value → Sem Value} {r r' : R2} (h : OpR X f r) (h' : OpR X f r') : OpR X f (fun x y H Q => r x y H Q ∨ r' x y H Q) := by
  intro pins s σ H x y v u Q I rx ry q
  rcases q with q | q
  · exact h pins s σ H x y v u Q I rx ry q
  · exact h' pins s σ H x y v u Q I rx ry q

theorem nomark (b : Expr) {op : CmpOp} (h : autoParam (op ≠ .In) L2.auto2._auto_1) (h2 : autoParam (op ≠ .NotIn) L2.auto2._auto_1) : behindInMarks op b = false := by
  have e1 : (op == CmpOp.In) = false := by cases op <;> first | rfl | exact absurd rfl h
  have e2 : (op == CmpOp.NotIn) = false := by cases op <;> first | rfl | exact absurd rfl h2
  cases b <;> simp [behindInMarks, e1, e2]
theorem pe_cmpR {op : CmpOp} {r : R2} (ho : OpR X (compareOp op) r) (ha : PE X a ta) (hb : PE X b tb) (hm : behindInMarks op b = false) : PE X (.Compare a [op] [b] pos) (tOp r ta tb) := by
  intro pins s σ H Q I h
  exact wpAny_Compare1 (binT ha hb I h fun v u s2 x y H2 I2 rx ry q => ho pins s2 σ H2 x y v u Q I2 rx ry q) hm
noncomputable def tTest (t : TE) : TT := fun σ H Q => t σ H fun x H' => ∃ k, x = .bl k ∧ Q k H'
theorem pt_cmpR {op : CmpOp} {r : R2} (ho : OpR X (compareOp op) r) (ha : PE X a ta) (hb : PE X b tb) (hm : behindInMarks op b = false) : PT X (.Compare a [op] [b] pos) (tTest (tOp r ta tb)) := by
  intro pins s σ H Q I h
  refine wpAny_isTrue_Compare1 (thn (ha pins s σ H _ I h) fun v s1 ⟨x, H1, I1, r1, q1⟩ => thn (hb pins s1 σ H1 _ I1 q1) fun u s2 ⟨y, H2, I2, r2, q2⟩ =>
    thn (ho pins s2 σ H2 x y v u _ I2 r1 r2 q2) fun c s3 ⟨z, H3, I3, r3, k, e, q3⟩ => ?_) hm
  subst e
  cases r3
  exact wpAny_truthy_bool ⟨H3, I3, q3⟩
theorem line63 : (sizeLine : Nat) < 2 ^ 63 := by rw [sizeLine_eq]; decide
theorem op_add_str : OpR X (binaryOp .Add) (fun x y H Q => ∃ i j, x = .str i ∧ y = .str j ∧ i.length + j.length ≤ sizeLine ∧ Q (.str (i ++ j)) H) := by
  intro pins s σ H x y v u Q I rx ry h
  obtain ⟨i, j, rfl, rfl, hz, q⟩ := h
  obtain ⟨t, rfl⟩ := rx
  obtain ⟨t', rfl⟩ := ry
  exact add_str (fun t' tk => ⟨.str (i ++ j), H, I.tok _, ⟨_, rfl⟩, q⟩) hz
theorem vals1 {x : V} {us : List Value} (r : Vals [x] us) : ∃ u, us = [u] ∧ RelV x u := by
  cases r with
  | cons r1 r2 => cases r2; exact ⟨_, rfl, r1⟩
theorem vals2 {x y : V} {us : List Value} (r : Vals [x, y] us) : ∃ u w', us = [u, w'] ∧ RelV x u ∧ RelV y w' := by
  cases r with
  | cons r1 r2 =>
    cases r2 with
    | cons r3 r4 => cases r4; exact ⟨_, _, rfl, r1, r3⟩
theorem call_max2 (hc : X.calm = true) : CallR X (.builtin "max") (fun xs H Q => ∃ i j, xs = [.int i, .int j] ∧ Q (.int (if j > i then j else i)) H) := by
  intro pins s σ H xs us Q I r h
  obtain ⟨i, j, rfl, q⟩ := h
  obtain ⟨u, w', rfl, ⟨t, rfl⟩, ⟨t', rfl⟩⟩ := vals2 r
  refine max_two_ints (I.ok.hd hc) fun h' tk k => ⟨_, H, I.kept k, ?_, q⟩
  by_cases hj : j > i
  · rw [if_pos hj, if_pos hj]; exact ⟨_, rfl⟩
  · rw [if_neg hj, if_neg hj]; exact ⟨_, rfl⟩
noncomputable def LenV (K : PySem.W.Frag) (x : V) (H : Hp) (n : Nat) : Prop :=
  match x with
  | .str y => y.length ≤ sizeLine ∧ n = y.length
  | .byt y => y.size ≤ sizeLine ∧ n = y.size
  | .ref p => (∃ xs, SqL K H p xs ∧ n = xs.length) ∨ ∃ xs, SqT K H p xs ∧ n = xs.length
  | _ => False
theorem call_len : CallR X (.builtin "len") (fun xs H Q => ∃ x n, xs = [x] ∧ LenV X.K x H n ∧ Q (.int n) H) := by
  intro pins s σ H xs us Q I r h
  obtain ⟨x, n, rfl, e, q⟩ := h
  obtain ⟨u, rfl, rx⟩ := vals1 r
  have hl := line63
  have hs : sizeLine = 16777216 := sizeLine_eq
  cases x with
  | str y =>
    obtain ⟨t, rfl⟩ := rx
    obtain ⟨hy, e'⟩ : y.length ≤ sizeLine ∧ n = y.length := e
    subst e'
    exact len_str (by omega) ⟨.int _, H, I.tok _, ⟨_, rfl⟩, q⟩
  | byt y =>
    obtain ⟨t, rfl⟩ := rx
    obtain ⟨hy, e'⟩ : y.size ≤ sizeLine ∧ n = y.size := e
    subst e'
    exact PySem.W.len_bytes (by omega) ⟨.int _, H, I.tok _, ⟨_, rfl⟩, q⟩
  | ref p =>
    cases rx
    have e' : (∃ xs, SqL X.K H p xs ∧ n = xs.length) ∨ ∃ xs, SqT X.K H p xs ∧ n = xs.length := e
    rcases e' with ⟨xs, hx, e'⟩ | ⟨xs, hx, e'⟩
    · subst e'
      obtain ⟨its, r', pl, hz⟩ := I.list hx
      have hlen := r'.length
      exact Calls.call_len_list pl.isList (by simp only [List.size_toArray]; omega) ⟨.int xs.length, H, I.tok _, ⟨_, by simp only [List.size_toArray]; rw [hlen]⟩, q⟩
    · subst e'
      obtain ⟨its, r', pl, hz⟩ := I.tuple hx
      have hlen := r'.length
      exact len_tuple pl (by simp only [List.size_toArray]; omega) ⟨.int xs.length, H, I.tok _, ⟨_, by simp only [List.size_toArray]; rw [hlen]⟩, q⟩
  | _ => exact (show False from e).elim
end
end L2

namespace L2
open PySem PySem.Spec PyProof.Rows

structure ObjM (h : Heap) (x dx C : Addr) (mA : Str → Option Value) : Prop where
  obj : h.get? x = some (PySem.W.instObj C dx)
  ns : h.Ns1 dx mA
  ne : dx ≠ x

theorem lookIn_ns {h : Heap} {dx : Addr} {mA : Str → Option Value} (n : h.Ns1 dx mA) : ∃ od, h.get? dx = some od ∧ ∀ name, PySem.W.lookIn name od = some (mA name) := by
  obtain ⟨o, es, ep, ho, hd, hk, _, hm⟩ := n
  refine ⟨o, ho, fun name => ?_⟩
  have e := hm name
  unfold nsFind findBy at e
  rw [← Array.find?_toList] at e
  unfold PySem.W.lookIn
  rw [hd]
  dsimp only
  split
  · rename_i y q
    rw [q] at e
    exact congrArg some e
  · rename_i q
    rw [q] at e
    have a : es.toList.any (·.refKey) = false := by
      rw [List.any_eq_false]
      intro y hy
      obtain ⟨z, t, hkey⟩ := hk y (Array.mem_toList_iff.mp hy)
      simp [DictEntry.refKey, hkey]
    have a' : ¬ es.toList.any (·.refKey) = true := by rw [a]; exact Bool.false_ne_true
    rw [if_neg a']
    exact congrArg some e

theorem ObjM.look {h : Heap} {x dx C : Addr} {mA : Str → Option Value} (I : ObjM h x dx C mA) : ∃ od, PySem.W.InstAt h x (PySem.W.instObj C dx) C (some od) ∧ ∀ name, PySem.W.lookIn name od = some (mA name) :=
  let ⟨od, ho, hl⟩ := lookIn_ns I.ns
  ⟨od, ⟨I.obj, rfl, rfl, ho⟩, hl⟩

section
variable {prog : Program} {w : World} {A : Around} {E : Value → Shared → Prop} {s : Shared} {K : PySem.W.Frag} {x dx C f : Addr} {mA : Str → Option Value} {name : Str} {v : Value}

theorem get_map {expr : Bool} {Q : Value → Shared → Prop} (X : K.In s.heap) (I : ObjM s.heap x dx C mA) (hg : PySem.W.plainGet K C name = true) (hh : PySem.W.hasDictIn K C = true)
    (ha : PySem.W.findIn K (.ref C) name = some none) (hv : mA name = some v) (hv' : PySem.W.handedIn v = true) (h : Q v { s with toks := s.toks + 1 }) :
    wpAny (model prog w) A (getAttr (.ref x) name expr) Q E s := by
  obtain ⟨od, J, hl⟩ := I.look
  exact PySem.W.get_value X J (PySem.W.plainGet_of hg).1 (PySem.W.findObj_own hh ha rfl (by rw [hl, hv])) hv' h

theorem get_meth {pl : Sem Bool} {Q : Value × List Value → Shared → Prop} (X : K.In s.heap) (I : ObjM s.heap x dx C mA) (hg : PySem.W.plainGet K C name = true)
    (hf : PySem.W.findIn K (.ref C) name = some (some (.ref f))) (ht : PySem.W.isFn K (.ref f) = true) (hv : mA name = none) (h : Q (.ref f, [.ref x]) s) :
    wpAny (model prog w) A (getMethod (.ref x) name pl) Q E s := by
  obtain ⟨od, J, hl⟩ := I.look
  exact PySem.W.method_fn X J (PySem.W.plainGet_of hg).1 (PySem.W.plainGet_of hg).2 hf (beq_iff_eq.mp ht) (by show (PySem.W.lookIn name od).map (·.isSome) = some false; rw [hl, hv]; rfl) h

theorem set_map {ns : List Str} {Q : Unit → Shared → Prop} (X : K.In s.heap) (I : ObjM s.heap x dx C mA)
    (hs : PySem.W.findIn K (.ref C) "__setattr__" = some (some (.builtin "object.__setattr__"))) (hp : PySem.W.plainOver K C = true) (ht : PySem.W.takerIn K C name = some none) (hh : PySem.W.hasDictIn K C = true)
    (hw : PySem.Within mA ns) (hsz : ns.length ≤ sizeLine)
    (h : ∀ h', ObjM h' x dx C (fun y => if y = name then some v else mA y) → Heap.SameBut dx s.heap h' → Q () { s with heap := h', toks := s.toks + 2 }) :
    wpAny (model prog w) A (setAttr (.ref x) name v) Q E s := by
  obtain ⟨od, J, hl⟩ := I.look
  refine PySem.W.set_plain X J hs (PySem.W.osa_open (s := { s with toks := s.toks + 1 }) (r := none) X J hp ht fun b => ?_)
  obtain ⟨cd, hc, hd'⟩ := PySem.W.any_some hh
  have hx : s.heap.get? x = some ⟨.ref C, some dx, .plain, #[]⟩ := I.obj
  refine wpAny_bind (wpAny_pure (wpAny_bind (wpAny_bind (wpAny_loadPart hx (wpAny_bind (PySem.W.Looks.here (s := { s with toks := s.toks + 1 }) (PySem.W.looks_clsIn X hc) ?_))))))
  rw [hd']
  refine wpAny_pure (a := some dx) (wpAny_bind (wpAny_pure (wpAny_bind ?_)))
  refine wpAny_nsSet1 (s := { s with toks := s.toks + 1 }) I.ns fun h' hn2 hs2 => ?_
  obtain ⟨oD, esD, epD, hoD, hdD, hcD⟩ := hn2.count (PySem.Within.cons name v hw)
  refine wpAny_bind (wpAny_lookBehind hoD (by rw [hdD]; exact pastItsLine_dict (Nat.le_trans hcD (by rw [List.length_cons]; omega))) ?_)
  exact wpAny_pure (h _ ⟨(hs2.2 _ (Ne.symm I.ne)).trans I.obj, hn2, I.ne⟩ hs2)

theorem make_map {R : Result → Shared → Prop} {vs : List Value} {kw : List (Str × Value)} (X : K.In s.heap) (hm : PySem.W.makesIn K C = true)
    (hi : PySem.W.findIn K (.ref C) "__init__" = some (some (.ref f))) (hf : PySem.W.typeIn K (.ref f) = some (.type "function"))
    (h : codeAny (model prog w) (A.under (.builtin "type.__call__" ⟨.ref C :: vs, kw⟩)) (.call (.ref f) ⟨.ref (s.heap.objs.size + 1) :: vs, kw⟩) (PySem.W.InitBack (s.heap.objs.size + 1) R)
      { s with heap := (s.heap.push PySem.W.emptyDict).push (PySem.W.instObj C s.heap.objs.size) }) :
    codeAny (model prog w) A (.call (.ref C) ⟨vs, kw⟩) R s := by
  obtain ⟨hh, g, d, t, os⟩ := s
  exact PySem.W.make_core (PySem.W.makes_of X hm) (PySem.W.looks_findIn X hi) (fun self => PySem.W.bind_fn X self hf) (.inl rfl) h
end

noncomputable def putF (f : Str) (v : V) : List (Str × V) → List (Str × V)
  | [] => [(f, v)]
  | (g, x) :: r => if g = f then (g, v) :: r else (g, x) :: putF f v r
theorem lookup_putF (f g : Str) (v : V) : ∀ fs : List (Str × V), (putF f v fs).lookup g = if g = f then some v else fs.lookup g
  | [] => by
    show List.lookup g [(f, v)] = _
    by_cases h : g = f
    · have hb : (g == f) = true := beq_iff_eq.mpr h
      simp only [List.lookup, hb, if_pos h]
    · have hb : (g == f) = false := beq_eq_false_iff_ne.mpr h
      simp only [List.lookup, hb, if_neg h]
  | (k, x) :: r => by
    have ih := lookup_putF f g v r
    rw [show putF f v ((k, x) :: r) = (if k = f then (k, v) :: r else (k, x) :: putF f v r) from rfl]
    by_cases hk : k = f
    · rw [if_pos hk]
      by_cases h : g = k
      · have hb : (g == k) = true := beq_iff_eq.mpr h
        simp only [List.lookup, hb, if_pos (h.trans hk)]
      · have hb : (g == k) = false := beq_eq_false_iff_ne.mpr h
        simp only [List.lookup, hb, if_neg (fun e : g = f => h (e.trans hk.symm))]
    · rw [if_neg hk]
      by_cases h : g = k
      · have hb : (g == k) = true := beq_iff_eq.mpr h
        simp only [List.lookup, hb, if_neg (fun e : g = f => hk (h.symm.trans e))]
      · have hb : (g == k) = false := beq_eq_false_iff_ne.mpr h
        simp only [List.lookup, hb]
        exact ih
theorem keys_putF (f : Str) (v : V) : ∀ fs : List (Str × V), f ∈ (putF f v fs).map (·.1) ∧ ∀ g, g ∈ fs.map (·.1) → g ∈ (putF f v fs).map (·.1)
  | [] => ⟨by simp [putF], fun g h => by simp at h⟩
  | (k, x) :: r => by
    obtain ⟨i1, i2⟩ := keys_putF f v r
    rw [show putF f v ((k, x) :: r) = (if k = f then (k, v) :: r else (k, x) :: putF f v r) from rfl]
    by_cases hk : k = f
    · rw [if_pos hk]
      subst hk
      exact ⟨by simp, fun g h => by simpa using h⟩
    · rw [if_neg hk]
      refine ⟨?_, fun g h => ?_⟩
      · rw [List.map_cons]
        exact List.mem_cons_of_mem _ i1
      · rw [List.map_cons] at h ⊢
        rcases List.mem_cons.mp h with e | e
        · exact List.mem_cons.mpr (.inl e)
        · exact List.mem_cons_of_mem _ (i2 g e)
theorem length_putF (f : Str) (v : V) : ∀ fs : List (Str × V), (putF f v fs).length ≤ fs.length + 1
  | [] => by simp [putF]
  | (k, x) :: r => by
    have ih := length_putF f v r
    rw [show putF f v ((k, x) :: r) = (if k = f then (k, v) :: r else (k, x) :: putF f v r) from rfl]
    by_cases hk : k = f
    · rw [if_pos hk, List.length_cons, List.length_cons]; omega
    · rw [if_neg hk, List.length_cons, List.length_cons]; omega

theorem RelO.some_of {v : V} {o : Option Value} (r : RelO (some v) o) : ∃ u, o = some u ∧ RelV v u := by
  cases o with
  | none => exact (show False from r).elim
  | some u => exact ⟨u, rfl, r⟩
theorem RelO.none_of {o : Option Value} (r : RelO none o) : o = none := by
  cases o with
  | none => rfl
  | some u => exact (show False from r).elim
theorem handed_of {v : V} {u : Value} (r : RelV v u) : PySem.W.handedIn u = true := by
  cases v with
  | non => cases (show u = Value.none from r); rfl
  | bl b => cases (show u = Value.bool b from r); rfl
  | int i => obtain ⟨t, e⟩ := (show ∃ t, u = Value.int i t from r); cases e; rfl
  | str x => obtain ⟨t, e⟩ := (show ∃ t, u = Value.str x t from r); cases e; rfl
  | byt b => obtain ⟨t, e⟩ := (show ∃ t, u = Value.bytes b t from r); cases e; rfl
  | flt b => obtain ⟨t, e⟩ := (show ∃ t, u = Value.float b t from r); cases e; rfl
  | ref a => cases (show u = Value.ref a from r); rfl
  | ty n => cases (show u = Value.type n from r); rfl

section
variable {P : Program} {w : World} {H H' : Hp} {h h' : Heap} {a C dx : Addr} {fs fs' : List (Str × V)}
theorem ins_get (hok : HOk P w H h) (e : H a = some (.ins C dx fs)) : ∃ mA, ObjM h a dx C mA ∧ (∀ f, RelO (fs.lookup f) (mA f)) ∧ PySem.Within mA (fs.map (·.1)) ∧ fs.length ≤ 1000 ∧ H dx = some (.own a) := by
  obtain ⟨d, z, ne, ob, mA, n, r, q⟩ := (show ObjOk P w H h a (.ins C dx fs) from hok a _ e)
  exact ⟨mA, ⟨ob, n, ne⟩, r, q, z, d⟩
end

structure Cls (K : PySem.W.Frag) (C : Addr) : Prop where
  pg : PySem.W.plainGet K C Str.empty = true
  hd : PySem.W.hasDictIn K C = true
  po : PySem.W.plainOver K C = true
  sa : PySem.W.findIn K (.ref C) "__setattr__" = some (some (.builtin "object.__setattr__"))
theorem Cls.get {K : PySem.W.Frag} {C : Addr} (c : Cls K C) (f : Str) : PySem.W.plainGet K C f = true := c.pg
noncomputable def NoAttr (K : PySem.W.Frag) (C : Addr) (f : Str) : Prop := PySem.W.findIn K (.ref C) f = some none
theorem NoAttr.taker {K : PySem.W.Frag} {C : Addr} {f : Str} (n : NoAttr K C f) : PySem.W.takerIn K C f = some none := by
  unfold PySem.W.takerIn
  rw [show PySem.W.findIn K (.ref C) f = some none from n]
  rfl
structure Con (K : PySem.W.Frag) (C : Addr) (f : Str) (v : V) (u : Value) : Prop where
  at_ : PySem.W.findIn K (.ref C) f = some (some u)
  rel : RelV v u
  get : PySem.W.specialIn K u "__get__" = some none
  cp : PySem.W.copiedNames.contains f = false
structure Meth (K : PySem.W.Frag) (C : Addr) (m : Str) (f : Addr) : Prop where
  at_ : PySem.W.findIn K (.ref C) m = some (some (.ref f))
  fn : PySem.W.isFn K (.ref f) = true
  kp : PySem.W.keepIn K (.ref f) = true

section
variable {X : Cx} {pins : List (Addr × Obj)} {σ : St} {H : Hp} {s : Shared} {a C dx : Addr} {fs : List (Str × V)} {f : Str} {v : V} {A : Around} {E : Value → Shared → Prop}

theorem getattr_ok {b : Bool} {Q : Value → Shared → Prop} (I : Inv X pins σ H s) (e : H a = some (.ins C dx fs)) (c : Cls X.K C) (n : NoAttr X.K C f) (l : fs.lookup f = some v)
    (h : ∀ u s', Inv X pins σ H s' → RelV v u → Q u s') : wpAny (model X.prog X.w) A (getAttr (.ref a) f b) Q E s := by
  obtain ⟨mA, O, r, _, _, _⟩ := ins_get I.hok e
  obtain ⟨u, hu, ru⟩ := RelO.some_of (v := v) (o := mA f) (by rw [← l]; exact r f)
  exact get_map I.kIn O (c.get f) c.hd n hu (handed_of ru) (h u _ (I.tok _) ru)

theorem getmeth_ok {m : Str} {g : Addr} {pl : Sem Bool} {Q : Value × List Value → Shared → Prop} (I : Inv X pins σ H s) (e : H a = some (.ins C dx fs)) (c : Cls X.K C) (k : Meth X.K C m g) (l : fs.lookup m = none)
    (h : Q (.ref g, [.ref a]) s) : wpAny (model X.prog X.w) A (getMethod (.ref a) m pl) Q E s := by
  obtain ⟨mA, O, r, _, _, _⟩ := ins_get I.hok e
  have hn : mA m = none := RelO.none_of (by rw [← l]; exact r m)
  exact get_meth I.kIn O (c.get m) k.at_ k.fn hn h

theorem setattr_ok {y : V} {u : Value} {Q : Unit → Shared → Prop} (I : Inv X pins σ H s) (e : H a = some (.ins C dx fs)) (c : Cls X.K C) (n : NoAttr X.K C f) (hl : fs.length < 1000) (ry : RelV y u)
    (h : ∀ s', Inv X pins σ (upd H a (.ins C dx (putF f y fs))) s' → Q () s') : wpAny (model X.prog X.w) A (setAttr (.ref a) f u) Q E s := by
  obtain ⟨mA, O, r, wi, _, ho⟩ := ins_get I.hok e
  have hz : (fs.map (·.1)).length ≤ sizeLine := by rw [List.length_map, sizeLine_eq]; omega
  refine set_map I.kIn O c.sa c.po n.taker c.hd wi hz fun h' O' sb => h _ ?_
  have hd : ∃ o, h'.get? dx = some o := let ⟨o, _, _, e', _⟩ := O'.ns; ⟨o, e'⟩
  refine I.write (x := a) (e := dx) (by rw [e]; exact True.intro) (.inr ho) (fun b q hb z => (sb.2 b hb).trans z) hd ?_
  refine ⟨by rw [upd_ne O.ne]; exact ho, ?_, O.ne, O'.obj, _, O'.ns, fun g => ?_, fun g hg => ?_⟩
  · have := length_putF f y fs; omega
  · show RelO ((putF f y fs).lookup g) (if g = f then some u else mA g)
    rw [lookup_putF]
    by_cases q : g = f
    · rw [if_pos q, if_pos q]; exact ry
    · rw [if_neg q, if_neg q]; exact r g
  · by_cases q : g = f
    · rw [q]; exact (keys_putF f y fs).1
    · refine (keys_putF f y fs).2 g (wi g fun z => hg ?_)
      show (if g = f then some u else mA g) = none
      rw [if_neg q]; exact z

theorem Inv.made (I : Inv X pins σ H s) : Inv X pins σ (upd (upd H s.heap.objs.size (.own (s.heap.objs.size + 1))) (s.heap.objs.size + 1) (.ins C s.heap.objs.size []))
    { s with heap := (s.heap.push PySem.W.emptyDict).push (PySem.W.instObj C s.heap.objs.size) } := by
  have e1 : (s.heap.push PySem.W.emptyDict).get? s.heap.objs.size = some PySem.W.emptyDict := Heap.get?_push_size s.heap rfl
  have e2 : ((s.heap.push PySem.W.emptyDict).push (PySem.W.instObj C s.heap.objs.size)).get? (s.heap.objs.size + 1) = some (PySem.W.instObj C s.heap.objs.size) := by
    have := Heap.get?_push_size (s.heap.push PySem.W.emptyDict) (o := PySem.W.instObj C s.heap.objs.size) rfl
    rwa [Heap.size_push] at this
  have e3 : (s.heap.push PySem.W.emptyDict).Ns s.heap.objs.size (fun _ => none) := ⟨PySem.W.emptyDict, #[], _, e1, rfl, (fun e he => absurd he (by simp)), fun _ => rfl⟩
  have I1 := I.laid (a := s.heap.objs.size) (o := .own (s.heap.objs.size + 1)) (h' := s.heap.push PySem.W.emptyDict) (t' := s.toks) (fun b u q => Heap.get?_push_of_some _ q) (Nat.le_refl _) ⟨_, e1⟩
  refine I1.laid (a := s.heap.objs.size + 1) (o := .ins C s.heap.objs.size []) (t' := s.toks) (fun b u q => Heap.get?_push_of_some _ q) (Nat.le_of_eq (Heap.size_push _ _)) ?_
  have ne : s.heap.objs.size ≠ s.heap.objs.size + 1 := Nat.ne_of_lt (Nat.lt_succ_self _)
  refine ⟨by rw [upd_ne ne, upd_same], Nat.zero_le _, ne, e2, fun _ => none, (Heap.Ns1.of_empty e3).at fun o q => Heap.get?_push_of_some _ q, fun _ => True.intro, fun y hy => absurd rfl hy⟩

theorem attr_of {prog : Program} {w : World} {env : Env} {e : Expr} {f : Str} {pos : Pos} {s : Shared} {Q : Value → Shared → Prop} (hb : attributeBase e f env (eval e env) = eval e env)
    (h : wpAny (model prog w) A (eval e env) (fun o s₁ => wpAny (model prog w) A (getAttr o f true) Q E s₁) E s) : wpAny (model prog w) A (eval (.Attribute e f pos) env) Q E s :=
  Attribute_any_ h (by rw [arm_eval_Attribute, hb])
end

noncomputable def tFld (K : PySem.W.Frag) (ta : TE) (f : Str) : TE := fun σ H Q => ta σ H fun x H1 => ∃ a C dx fs v, x = .ref a ∧ H1 a = some (.ins C dx fs) ∧ Cls K C ∧ NoAttr K C f ∧ fs.lookup f = some v ∧ Q v H1
noncomputable def sFld (K : PySem.W.Frag) (ta tv : TE) (f : Str) : TS := fun D σ H => tv σ H fun y H1 => ta σ H1 fun x H2 => ∃ a C dx fs, x = .ref a ∧ H2 a = some (.ins C dx fs) ∧ Cls K C ∧ NoAttr K C f ∧ fs.length < 1000 ∧
  D.nx σ (upd H2 a (.ins C dx (putF f y fs)))
section
variable {X : Cx} {o e value : Expr} {f : Str} {pos pos' tpos : Pos} {ta tv : TE}
theorem pe_fld (he : PE X e ta) (hb : attributeBase e f X.env (eval e X.env) = eval e X.env) : PE X (.Attribute e f pos) (tFld X.K ta f) := by
  intro pins s σ H Q I h
  refine attr_of hb (thn (he pins s σ H _ I h) fun u s1 qq0 => ?_)
  obtain ⟨x, H1, I1, rx, a, C, dx, fs, v, ex, ea, c, n, l, q⟩ := qq0
  subst ex
  obtain rfl : u = Value.ref a := rx
  exact getattr_ok I1 ea c n l fun u' s2 I2 ru => ⟨v, H1, I2, ru, q⟩
theorem ps_fld (ha : PE X o ta) (hv : PE X value tv) (hs : swapsWith value (some (.Attribute o f pos')) pos.line X.env = pure false) : PS X (.Assign [.Attribute o f pos'] value pos) (sFld X.K ta tv f) := by
  intro pins s σ H D I h
  refine plainObj_wpAny_Assign_Attribute (thn (hv pins s σ H _ I h) fun u s1 ⟨y, H1, I1, ry, q⟩ => thn (ha pins s1 σ H1 _ I1 q) fun ov s2 qq0 => ?_) hs
  obtain ⟨x, H2, I2, rx, a, C, dx, fs, ex, ea, c, n, l, q2⟩ := qq0
  subst ex
  obtain rfl : ov = Value.ref a := rx
  exact setattr_ok I2 ea c n l ry fun s3 I3 => ⟨σ, _, I3, q2⟩
end

section
variable {X : Cx} {pins : List (Addr × Obj)} {σ : St} {H : Hp} {s : Shared} {A : Around} {E : Value → Shared → Prop} {Q : Value → Shared → Prop} {c : Value} {b : Bool}
inductive TyOf (K : PySem.W.Frag) (H : Hp) : V → Value → Prop where
  | non : TyOf K H .non (.type "NoneType")
  | bl (x : Bool) : TyOf K H (.bl x) (.type "bool")
  | int (i : Int) : TyOf K H (.int i) (.type "int")
  | str (x : Str) : TyOf K H (.str x) (.type "str")
  | flt (x : UInt64) : TyOf K H (.flt x) (.type "float")
  | lst {a : Addr} {xs : List V} (e : H a = some (.lst xs)) : TyOf K H (.ref a) (.type "list")
  | frz {a : Addr} {o : Obj} {xs : List V} (e : H a = some (.frz o (.lst xs))) : TyOf K H (.ref a) (.type "list")
  | tup {a : Addr} {xs : List V} (e : H a = some (.tup xs)) : TyOf K H (.ref a) (.type "tuple")
  | dK {a : Addr} {kvs : List (Key × V)} (e : H a = some (.dK kvs)) : TyOf K H (.ref a) (.type "dict")
  | dT {a : Addr} {kvs : List (List Key × V)} (e : H a = some (.dT kvs)) : TyOf K H (.ref a) (.type "dict")
  | ins {a C dx : Addr} {fs : List (Str × V)} (e : H a = some (.ins C dx fs)) (cl : Cls K C) (ha : PySem.W.findIn K (.ref C) "__class__" = some (some (.builtin "object.__class__")))
      (hn : PySem.W.specialIn K (.builtin "object.__class__") "__get__" = some (some (.builtin "getset_descriptor.__get__"))) (htk : PySem.W.takesIn K (.builtin "object.__class__") = some true)
      (hm : PySem.W.mroIn K C (.type "object") = some true) : TyOf K H (.ref a) (.ref C)
theorem isinst_ok {x : V} {u t : Value} (I : Inv X pins σ H s) (rx : RelV x u) (ty : TyOf X.K H x t) (e : PySem.W.kitOne X.K t c = some b) (h : ∀ tk, Q (.bool b) { s with toks := tk }) :
    wpAny (model X.prog X.w) A (call (.builtin "isinstance") [u, c]) Q E s := by
  cases ty with
  | non => cases (show u = Value.none from rx); exact PySem.W.kia_one PySem.W.kitx_none I.kIn True.intro e (fun z => nomatch z) h
  | bl y => cases (show u = Value.bool y from rx); exact PySem.W.kia_one PySem.W.kitx_bool I.kIn True.intro e (fun z => nomatch z) h
  | int i => obtain ⟨t, q⟩ := (show ∃ t, u = Value.int i t from rx); cases q; exact PySem.W.kia_one PySem.W.kitx_int I.kIn True.intro e (fun z => nomatch z) h
  | str y => obtain ⟨t, q⟩ := (show ∃ t, u = Value.str y t from rx); cases q; exact PySem.W.kia_one PySem.W.kitx_str I.kIn True.intro e (fun z => nomatch z) h
  | flt y => obtain ⟨t, q⟩ := (show ∃ t, u = Value.float y t from rx); cases q; exact PySem.W.kia_one PySem.W.kitx_float I.kIn True.intro e (fun z => nomatch z) h
  | @lst a xs ea =>
    cases (show u = Value.ref a from rx)
    obtain ⟨_, _, n, _, h1⟩ := (show ObjOk X.prog X.w H s.heap a (.lst xs) from I.hok a _ ea)
    exact PySem.W.kia_one PySem.W.kitx_list I.kIn ⟨_, h1, rfl⟩ e (fun z => nomatch z) h
  | @frz a ob xs ea =>
    cases (show u = Value.ref a from rx)
    obtain ⟨_, _, _, n, _, h1⟩ := (show ObjOk X.prog X.w H s.heap a (.frz ob (.lst xs)) from I.hok a _ ea)
    exact PySem.W.kia_one PySem.W.kitx_list I.kIn ⟨_, h1, rfl⟩ e (fun z => nomatch z) h
  | @tup a xs ea =>
    cases (show u = Value.ref a from rx)
    obtain ⟨_, _, _, p⟩ := (show ObjOk X.prog X.w H s.heap a (.tup xs) from I.hok a _ ea)
    obtain ⟨o, h1, h2, _⟩ := p
    exact PySem.W.kia_one PySem.W.kitx_tuple I.kIn ⟨o, h1, h2⟩ e (fun z => nomatch z) h
  | @dK a kvs ea =>
    cases (show u = Value.ref a from rx)
    obtain ⟨_, _, vs, _, p⟩ := (show ObjOk X.prog X.w H s.heap a (.dK kvs) from I.hok a _ ea)
    obtain ⟨o, es, ep, h1, h2, _⟩ := p
    exact PySem.W.kia_one PySem.W.kitx_dict I.kIn ⟨o, h1, h2.1⟩ e (fun z => nomatch z) h
  | @dT a kvs ea =>
    cases (show u = Value.ref a from rx)
    obtain ⟨_, _, xs, _, o, es, ep, h1, h2, _⟩ := (show ObjOk X.prog X.w H s.heap a (.dT kvs) from I.hok a _ ea)
    exact PySem.W.kia_one PySem.W.kitx_dict I.kIn ⟨o, h1, h2.1⟩ e (fun z => nomatch z) h
  | @ins a C dx fs ea cl ha hn htk hm =>
    cases (show u = Value.ref a from rx)
    obtain ⟨mA, O, _⟩ := ins_get I.hok ea
    obtain ⟨od, J, _⟩ := O.look
    exact PySem.W.kia_one (PySem.W.kitx_own (cl.get _) cl.hd ha hn htk hm) I.kIn J e (fun z => nomatch z) h
end
end L2

namespace L2
open PySem PySem.Spec PyProof.Rows

structure Room (k : Nat) (A : Around) : Prop where
  hd : A.handled = none
  dp : A.depth + 3 * k + 5 < recursionLimit
  un : A.units + 16 * k + 200 < cLine
  gd : A.guards = some []
theorem Room.mono {j k : Nat} {A : Around} (r : Room k A) (h : j ≤ k) : Room j A := ⟨r.hd, by have := r.dp; omega, by have := r.un; omega, r.gd⟩
theorem Room.deeper {k : Nat} {A : Around} (r : Room (k + 1) A) (env : Env) : Room k (A.deeper env) :=
  ⟨r.hd, by have := r.dp; show A.depth + 1 + 3 * k + 5 < _; omega, by have := r.un; show A.units + 3 + 16 * k + 200 < _; omega, r.gd⟩
theorem make_depth {A : Around} {C : Addr} {us : List Value} {kw : List (Str × Value)} : (A.under (.builtin "type.__call__" ⟨.ref C :: us, kw⟩)).depth = A.depth + 1 := by
  first | rfl | simp [Around.under, Code.weight, Code.isCreation, Code.isGuard, Code.isCaller, Code.frames, Code.isFrame, guardIds]
theorem make_units {A : Around} {C : Addr} {us : List Value} {kw : List (Str × Value)} : (A.under (.builtin "type.__call__" ⟨.ref C :: us, kw⟩)).units = A.units + 1 := by
  first | rfl | simp [Around.under, Code.cUnits, Code.frames, Code.isFrame]
theorem make_guards {A : Around} {C : Addr} {us : List Value} {kw : List (Str × Value)} : (A.under (.builtin "type.__call__" ⟨.ref C :: us, kw⟩)).guards = pushGuards [] A.guards := by
  first | rfl | simp [Around.under, Code.guards, Code.isGuard, guardIds]
theorem Room.make {k : Nat} {A : Around} (r : Room (k + 1) A) (C : Addr) (us : List Value) (kw : List (Str × Value)) : Room k (A.under (.builtin "type.__call__" ⟨.ref C :: us, kw⟩)) :=
  ⟨r.hd, by have := r.dp; rw [make_depth]; omega, by have := r.un; rw [make_units]; omega, (make_guards.trans (by rw [r.gd]; rfl))⟩
theorem Room.depth {k : Nat} {A : Around} (r : Room k A) : A.depth < recursionLimit := by have := r.dp; omega
theorem Room.units {k : Nat} {A : Around} (r : Room k A) : A.units + 64 < cLine := by have := r.un; omega
theorem Room.units0 {k : Nat} {A : Around} (r : Room k A) : A.units < cLine := by have := r.un; omega

noncomputable def tNil : TA := fun _ H Q => Q [] H
noncomputable def tCons (ta : TE) (tr : TA) : TA := fun σ H Q => ta σ H fun x H1 => tr σ H1 fun xs H2 => Q (x :: xs) H2
section
variable {X : Cx} {e : Expr} {es : List Expr} {te : TE} {t : TA} {pos : Pos}
theorem pa_nil : PA X [] tNil := fun _ _ _ _ H Q I h => Calls.spliced_nil ⟨[], H, I, .nil, h⟩
theorem pa_cons (ha : PE X e te) (hr : PA X es t) (hs : autoParam (starEach (e :: es) X.env = (false, eval e X.env) :: starEach es X.env) L2.auto4._auto_1) : PA X (e :: es) (tCons te t) := by
  intro pos pins s σ H Q I h
  rw [hs]
  show wpAny _ _ (spliced ((false, eval e X.env) :: backTo pos (starEach es X.env))) _ _ s
  refine Calls.spliced_cons (thn (ha pins s σ H _ I h) fun u s1 qq0 => ?_)
  obtain ⟨x, H1, I1, r1, q1⟩ := qq0
  exact thn (hr pos pins s1 σ H1 _ I1 q1) fun us s2 ⟨xs, H2, I2, r2, q2⟩ => ⟨x :: xs, H2, I2, .cons r1 r2, q2⟩

noncomputable def tTup (t : TA) : TE := fun σ H Q => t σ H fun xs H1 => xs.length ≤ sizeLine ∧ ∀ p, H1 p = none → Q (.ref p) (upd H1 p (.tup xs))
noncomputable def tLst (t : TA) : TE := fun σ H Q => t σ H fun xs H1 => xs.length ≤ sizeLine ∧ ∀ p, H1 p = none → Q (.ref p) (upd H1 p (.lst xs))
theorem pe_tup {x1} (h : PA X es t) : PE X (.Tuple es x1 pos) (tTup t) := by
  intro pins s σ H Q I hq
  refine wpAny_Tuple_spliced (thn (h pos pins s σ H _ I hq) fun us s1 ⟨xs, H1, I1, r, z, q⟩ => ⟨by rw [← r.length]; exact z, ?_⟩)
  have hf : H1 s1.heap.objs.size = none := I1.hok.fresh (Nat.le_refl _)
  refine ⟨.ref s1.heap.objs.size, upd H1 s1.heap.objs.size (.tup xs), I1.laid (t' := s1.toks) (fun b u e => Heap.get?_push_of_some _ e) (Nat.le_refl _) ?_, rfl, q _ hf⟩
  exact ⟨z, us, r, ⟨_, Heap.get?_push_size _ rfl, rfl, _, rfl⟩⟩
theorem pe_lst (h : PA X es t) : PE X (.List es pos) (tLst t) := by
  intro pins s σ H Q I hq
  refine wpAny_List_spliced (thn (h pos pins s σ H _ I hq) fun us s1 ⟨xs, H1, I1, r, z, q⟩ => ⟨by rw [← r.length]; exact z, ?_⟩)
  have hf : H1 s1.heap.objs.size = none := I1.hok.fresh (Nat.le_refl _)
  refine ⟨.ref s1.heap.objs.size, upd H1 s1.heap.objs.size (.lst xs), I1.laid (t' := s1.toks) (fun b u e => Heap.get?_push_of_some _ e) (Nat.le_refl _) ?_, rfl, q _ hf⟩
  exact ⟨z, us, 0, r, Heap.get?_push_size _ rfl⟩
end

noncomputable abbrev Sp := List V → Hp → VK → XK → Prop
noncomputable abbrev CXT := List Env → Hp → Shared → XK → Value → Shared → Prop

structure Env0 (P : Program) (w : World) (K : PySem.W.Frag) (mg : Str → Option Value) (base : Heap) (A : Around) (outer : List Env) (s : Shared) (H : Hp) : Prop where
  frames : A.frames = some outer
  mod : Mod K mg base
  bs : ∀ b o, base.get? b = some o → s.heap.get? b = some o ∧ H b = none
  bsz : base.objs.size ≤ s.heap.objs.size
  funs : s.heap.FunFrames base outer
  frf : ∀ b ∈ frs outer, H b = none
  hok : HOk P w H s.heap
  bare : AllBare s.gens
noncomputable def CE (outer : List Env) (P : Program) (w : World) (H : Hp) (s : Shared) (Q : VK) (u : Value) (s' : Shared) : Prop :=
  ∃ v H', s'.os = s.os ∧ AllBare s'.gens ∧ Un (frs outer) [] H H' s.heap s'.heap ∧ HOk P w H' s'.heap ∧ RelV v u ∧ Q v H'
noncomputable def CR (CX : CXT) (outer : List Env) (P : Program) (w : World) (H : Hp) (s : Shared) (Q : VK) (E : XK) (r : Result) (s' : Shared) : Prop :=
  match r with
  | .ok (.ret u) => CE outer P w H s Q u s'
  | .ok _ => False
  | .error e => CX outer H s E e s'
structure FnOk (P : Program) (w : World) (K : PySem.W.Frag) (mg : Str → Option Value) (base : Heap) (CX : CXT) (k : Nat) (f : Addr) (fd : FuncData) (ps : List Str) (sp : Sp) : Prop where
  len : ∀ vs H Q E, sp vs H Q E → vs.length = ps.length
  run : ∀ (A : Around) (outer : List Env) (s : Shared) (H : Hp) (args : Args) (us : List Value) (vs : List V) (Q : VK) (E : XK), Room k A → Env0 P w K mg base A outer s H → BindsTo s fd args (ps.zip us) → Vals vs us → sp vs H Q E →
    codeAny (model P w) A (.call (.ref f) args) (CR CX outer P w H s Q E) s
theorem Env0.make {P : Program} {w : World} {K : PySem.W.Frag} {mg : Str → Option Value} {base : Heap} {A : Around} {outer : List Env} {s : Shared} {H : Hp} (e : Env0 P w K mg base A outer s H) (C : Addr) (us : List Value) (kw : List (Str × Value)) :
    Env0 P w K mg base (A.under (.builtin "type.__call__" ⟨.ref C :: us, kw⟩)) outer s H := ⟨by first | exact e.frames | (simpa [Around.under, Code.envs, Code.isFrame, pushEnvs] using e.frames), e.mod, e.bs, e.bsz, e.funs, e.frf, e.hok, e.bare⟩
section
variable {X : Cx} {pins : List (Addr × Obj)} {σ : St} {H : Hp} {s s' : Shared}
theorem Inv.env0 (I : Inv X pins σ H s) : Env0 X.prog X.w X.K X.mg X.base X.A X.stack s H :=
  ⟨I.ok.frames, I.ok.mod, I.bs, Nat.le_trans I.ok.bsz I.sz, I.stack, I.stkFree, I.hok, I.bare⟩
theorem Inv.after {Q : VK} {u : Value} (I : Inv X pins σ H s) (h : CE X.stack X.prog X.w H s Q u s') : EP X pins σ Q u s' := by
  obtain ⟨v, H', os, bare, un, hok, r, q⟩ := h
  obtain ⟨hh, g, d, t, os'⟩ := s'
  obtain rfl : os' = s.os := os
  exact ⟨v, H', I.call (h' := hh) (g' := g) (d' := d) (t' := t) (ch := []) un hok bare (fun b z => absurd z (by simp)), r, q⟩
end

noncomputable def tCall (sp : Sp) (dvs : List V) (E : XK) (t : TA) : TE := fun σ H Q => t σ H fun vs H1 => sp (vs ++ dvs) H1 Q E
noncomputable def Binds (K : PySem.W.Frag) (fd : FuncData) (ps : List Str) (ds : List Value) : Prop :=
  ∀ (s : Shared) (us : List Value), K.In s.heap → (us ++ ds).length = ps.length → BindsTo s fd ⟨us, []⟩ (ps.zip (us ++ ds))
theorem Binds.all {K : PySem.W.Frag} {fd : FuncData} {ps : List Str} (h : ∀ us : List Value, us.length = ps.length → bindArgs fd ⟨us, []⟩ = pure (ps.zip us)) : Binds K fd ps [] := fun s us _ hl => by
  rw [List.append_nil] at hl ⊢
  exact .of_eq (h us hl)

noncomputable def Passes (CX : CXT) (X : Cx) (E : XK) : Prop := ∀ (pins : List (Addr × Obj)) (σ : St) (H : Hp) (s : Shared) (e : Value) (s' : Shared), Inv X pins σ H s → CX X.stack H s E e s' → X.xe e s'

section
variable {X : Cx} {CX : CXT} {k : Nat} {f C : Addr} {fd : FuncData} {ps : List Str} {sp : Sp} {dvs : List V} {ds : List Value} {E : XK} {x m : Str} {p pos apos : Pos} {e o : Expr} {es : List Expr} {ta : TE} {t : TA}

theorem run_fn {pins : List (Addr × Obj)} {σ : St} {H : Hp} {s : Shared} {Q : VK} {us : List Value} {vs : List V} (F : FnOk X.prog X.w X.K X.mg X.base CX k f fd ps sp) (hr : Room k X.A) (hb : Binds X.K fd ps ds) (hd : Vals dvs ds) (hx : Passes CX X E)
    (I : Inv X pins σ H s) (r : Vals vs us) (h : sp (vs ++ dvs) H Q E) : wpAny (model X.prog X.w) X.A (call (.ref f) us) (EP X pins σ Q) X.xe s := by
  have r2 : Vals (vs ++ dvs) (us ++ ds) := r.append hd
  have hl : (us ++ ds).length = ps.length := by rw [← r2.length]; exact F.len _ _ _ _ h
  refine wpAny_call (codeAny_mono (F.run X.A X.stack s H ⟨us, []⟩ (us ++ ds) (vs ++ dvs) Q E hr I.env0 (hb s us I.kIn hl) r2 h) fun r s' hq => ?_)
  cases r with
  | error e => exact hx pins σ H s e s' I hq
  | ok fl =>
    cases fl with
    | ret u => exact I.after hq
    | next => exact False.elim hq
    | brk => exact False.elim hq
    | cont => exact False.elim hq

theorem pe_call (F : FnOk X.prog X.w X.K X.mg X.base CX k f fd ps sp) (hr : Room k X.A) (hg : Gl X x) (hm : X.mg x = some (.ref f)) (hk : PySem.W.keepIn X.K (.ref f) = true) (hb : Binds X.K fd ps ds) (hd : Vals dvs ds) (hx : Passes CX X E)
    (ha : PA X (e :: es) t) (hdb : autoParam ((x == ("__debug__" : Str)) = false) L2.auto2._auto_1) (he : autoParam (starEach (e :: es) X.env = (false, eval e X.env) :: starEach es X.env) L2.auto4._auto_1) (hpl : autoParam ((backTo pos (starEach es X.env)).any (·.1) = false) L2.auto4._auto_1) :
    PE X (.Call (.Name x p) (e :: es) [] pos) (tCall sp dvs E t) := by
  intro pins s σ H Q I h
  refine wpAny_Call_Name_kw (ld_glob I hg hm ?_ hdb)
  refine PySem.W.callWith_K (h₀ := X.base) I.ok.mod.kin hk (thn (ha pos pins s σ H _ I h) fun us s1 ⟨vs, H1, I1, r, q⟩ => ⟨I1.kIn, ?_⟩) he hpl
  exact run_fn F hr hb hd hx I1 r q
structure Mk (K : PySem.W.Frag) (C f : Addr) : Prop where
  makes : PySem.W.makesIn K C = true
  init : PySem.W.findIn K (.ref C) "__init__" = some (some (.ref f))
  fn : PySem.W.isFn K (.ref f) = true
  kp : PySem.W.keepIn K (.ref C) = true

end

section
variable {X : Cx} {CX : CXT} {k : Nat} {f C : Addr} {fd : FuncData} {ps ks : List Str} {sp : Sp} {E : XK} {x m : Str} {p pos apos kpos : Pos} {e o : Expr} {es : List Expr} {kws : List Keyword} {te ta : TE} {t tk : TA} {nm : Option Str}
structure KBinds (K : PySem.W.Frag) (fd : FuncData) (ps ks : List Str) (g : List Value → List Value → List Value) (gV : List V → List V → List V) : Prop where
  to : ∀ (s : Shared) (us ws : List Value), K.In s.heap → (g us ws).length = ps.length → BindsTo s fd ⟨us, ks.zip ws⟩ (ps.zip (g us ws))
  rel : ∀ {vs : List V} {us : List Value} {zs : List V} {ws : List Value}, Vals vs us → Vals zs ws → Vals (gV vs zs) (g us ws)
variable {g : List Value → List Value → List Value} {gV : List V → List V → List V}
end

structure FnScope (N P : List Str) (sc : Scope) : Prop where
  kind : sc.kind = .function
  co : sc.isCoroutine = false
  gen : sc.isGenerator = false
  nd : N.Nodup
  pre : N.take P.length = P
  par : ∀ x ∈ P, sc.names.lookup x = some .local ∨ sc.names.lookup x = some .cell
  nofree : ∀ y ∈ sc.names, y.2 ≠ .free

theorem bindL_out {kindOf : Str → Option NameKind} {x : Str} : ∀ {binds : List (Str × Value)} {m : Str → Option Value}, (∀ v, (x, v) ∉ binds) → bindL kindOf binds m x = m x
  | [], _, _ => rfl
  | (n, v) :: r, m, h => by
    unfold bindL
    rw [bindL_out fun w hw => h w (List.mem_cons_of_mem _ hw)]
    split
    · have : x ≠ n := by rintro rfl; exact h v List.mem_cons_self
      simp [this]
    · rfl
theorem bindC_out {kindOf : Str → Option NameKind} {x : Str} : ∀ {binds : List (Str × Value)} {m : Str → Option Value}, (∀ v, (x, v) ∉ binds) → bindC kindOf binds m x = m x
  | [], _, _ => rfl
  | (n, v) :: r, m, h => by
    unfold bindC
    rw [bindC_out fun w hw => h w (List.mem_cons_of_mem _ hw)]
    split
    · rfl
    · have : x ≠ n := by rintro rfl; exact h v List.mem_cons_self
      simp [this]
theorem bindL_get {kindOf : Str → Option NameKind} {x : Str} {v : Value} : ∀ {P : List Str} {vs : List Value} {i : Nat} {m : Str → Option Value}, P.Nodup → P[i]? = some x → vs[i]? = some v → kindOf x = some .local →
    bindL kindOf (P.zip vs) m x = some v
  | [], _, _, _, _, h, _, _ => by simp at h
  | _ :: _, [], _, _, _, _, h, _ => by simp at h
  | p :: P, w :: vs, 0, m, nd, h1, h2, hk => by
    simp at h1 h2; subst h1; subst h2
    show bindL kindOf ((p, w) :: P.zip vs) m p = _
    unfold bindL
    rw [bindL_out fun v hv => (List.nodup_cons.mp nd).1 (List.of_mem_zip hv).1, if_pos hk]
    simp
  | p :: P, w :: vs, i + 1, m, nd, h1, h2, hk => by
    show bindL kindOf ((p, w) :: P.zip vs) m x = _
    unfold bindL
    exact bindL_get (i := i) (List.nodup_cons.mp nd).2 (by simpa using h1) (by simpa using h2) hk
theorem bindC_get {kindOf : Str → Option NameKind} {x : Str} {v : Value} : ∀ {P : List Str} {vs : List Value} {i : Nat} {m : Str → Option Value}, P.Nodup → P[i]? = some x → vs[i]? = some v → kindOf x ≠ some .local →
    bindC kindOf (P.zip vs) m x = some v
  | [], _, _, _, _, h, _, _ => by simp at h
  | _ :: _, [], _, _, _, _, h, _ => by simp at h
  | p :: P, w :: vs, 0, m, nd, h1, h2, hk => by
    simp at h1 h2; subst h1; subst h2
    show bindC kindOf ((p, w) :: P.zip vs) m p = _
    unfold bindC
    rw [bindC_out fun v hv => (List.nodup_cons.mp nd).1 (List.of_mem_zip hv).1, if_neg hk]
    simp
  | p :: P, w :: vs, i + 1, m, nd, h1, h2, hk => by
    show bindC kindOf ((p, w) :: P.zip vs) m x = _
    unfold bindC
    exact bindC_get (i := i) (List.nodup_cons.mp nd).2 (by simpa using h1) (by simpa using h2) hk

noncomputable def start (N : List Str) (vs : List V) : St := vs.map some ++ List.replicate (N.length - vs.length) none

noncomputable def cxOf (CX : CXT) (P : Program) (w : World) (K : PySem.W.Frag) (mg : Str → Option Value) (base : Heap) (N : List Str) (qual : Str) (scope : Scope) (f : Addr) (cd : Value) (A : Around) (outer : List Env) (s : Shared) (H : Hp) (E : XK) : Cx where
  prog := P
  w := w
  K := K
  mg := mg
  base := base
  A := A.deeper (envOfC qual scope s.heap.objs.size f cd)
  N := N
  s₀ := s
  H₀ := H
  env := envOfC qual scope s.heap.objs.size f cd
  outer := outer
  stack := envOfC qual scope s.heap.objs.size f cd :: outer
  ex := []
  calm := true
  fn := fun _ => true
  pn := []
  xe := fun e s' => wpAny (model P w) (A.deeper (envOfC qual scope s.heap.objs.size f cd)) (leaving (envOfC qual scope s.heap.objs.size f cd) e) (fun _ s'' => CX outer H s E e s'') (fun e' s'' => CX outer H s E e' s'') s'

theorem cell_has {sc : Scope} {n : Nat} {x : Str} (h : sc.names.lookup x = some .cell) : ∃ c, (cellsFrom n sc.names []).lookup x = some c := by
  have q := PySem.W.cellsFrom_some sc.names n [] (.inl h)
  exact Option.isSome_iff_exists.mp q

theorem inv_start {CX : CXT} {P : Program} {w : World} {K : PySem.W.Frag} {mg : Str → Option Value} {base : Heap} {N ps : List Str} {qual : Str} {scope : Scope} {f : Addr} {cd : Value} {A : Around} {outer : List Env} {s s1 : Shared} {H : Hp} {E : XK} {us : List Value} {vs : List V}
    (S : FnScope N ps scope) (hd : A.handled = none) (e0 : Env0 P w K mg base A outer s H) (hl : vs.length = ps.length) (r : Vals vs us)
    (x : InCallC s s.heap.objs.size (bindL (envOfC qual scope s.heap.objs.size f cd).kindOf (ps.zip us) fun _ => none) (cellsFrom (s.heap.objs.size + 1) scope.names []) (bindC (envOfC qual scope s.heap.objs.size f cd).kindOf (ps.zip us) fun _ => none) s1) :
    Inv (cxOf CX P w K mg base N qual scope f cd A outer s H E) [] (start N vs) H s1 := by
  have hpl : ps.length ≤ N.length := by have := congrArg List.length S.pre; rw [List.length_take] at this; omega
  obtain ⟨h1, tk, rfl, hk⟩ := x.done
  have noA : ∀ b : Addr, b ∉ (cxOf CX P w K mg base N qual scope f cd A outer s H E).ex := fun b z => absurd (show b ∈ ([] : List Addr) from z) (by simp)
  refine ⟨⟨e0.mod, S.kind, rfl, rfl, Nat.le_refl _, fun y z c h1 h2 => ?_, fun y hy => ?_, fun y c _ h => ?_, fun _ => hd, Around.frames_deeper e0.frames, .inr ⟨rfl, rfl⟩, fun b z => absurd z (noA b), e0.bs, e0.bsz, fun b _ _ => noA b, fun b z => absurd z (noA b), e0.funs, e0.frf⟩,
    rfl, e0.bare, Un.kept hk, ⟨_, x.toInCall.ns, fun i y v h1 h2 h3 => ?_⟩, fun y c h => ⟨_, x.cell y c h⟩, e0.hok.fresh (Nat.le_refl _), fun y c h => ?_, fun p hp => absurd (show p ∈ ([] : List (Addr × Obj)) from hp) (by simp), e0.hok.kept hk, ?_⟩
  · exact name_of_addr x.apart (PySem.mem_of_lookup h1) (PySem.mem_of_lookup h2)
  · have hy : scope.names.lookup y = some .cell ∨ scope.names.lookup y = some .free := hy
    rcases hy with hy | hy
    · exact cell_has hy
    · exact absurd rfl (S.nofree _ (PySem.mem_of_lookup hy))
  · exact Nat.le_of_lt (x.above y c (PySem.mem_of_lookup h))
  · have hi : i < vs.length := by
      unfold start at h2
      by_cases hi : i < vs.length
      · exact hi
      · rw [List.getElem?_append_right (by simpa using hi)] at h2
        rw [List.getElem?_replicate] at h2
        split at h2 <;> cases h2
    have ha : vs[i]? = some v := by
      unfold start at h2
      rw [List.getElem?_append_left (by simpa using hi), List.getElem?_map] at h2
      cases e : vs[i]? with
      | none => rw [e] at h2; cases h2
      | some a => rw [e] at h2; cases h2; rfl
    obtain ⟨u, hu, rv⟩ := r.get ha
    have hp : ps[i]? = some y := by
      rw [← S.pre, List.getElem?_take_of_lt (by omega)]; exact h1
    have ndP : ps.Nodup := by rw [← S.pre]; exact S.nd.sublist (List.take_sublist _ _)
    refine ⟨u, rv, ?_⟩
    rcases S.par y (List.mem_of_getElem? hp) with k | k
    · exact .inl ⟨k, bindL_get ndP hp hu k⟩
    · obtain ⟨c, e⟩ := cell_has (n := s.heap.objs.size + 1) k
      refine .inr ⟨.inl k, c, e, ?_⟩
      have q := x.cell y c e
      rw [bindC_get ndP hp hu (by show scope.names.lookup y ≠ _; rw [k]; decide)] at q
      exact q
  · exact e0.hok.fresh (Nat.le_of_lt (x.above y c (PySem.mem_of_lookup h)))
  · unfold start
    show _ = N.length
    rw [List.length_append, List.length_map, List.length_replicate]
    omega

theorem fn_of {CX : CXT} {P : Program} {w : World} {K : PySem.W.Frag} {mg : Str → Option Value} {base : Heap} {k : Nat} {f : Addr} {name qual : Str} {params : Arguments} {body : List Stmt} {scope : Scope} {dV kV doc pm cdv ct oc : Value} {an od : Option Addr}
    {osl : Array (Option Value)} {N ps : List Str} {sp : Sp} (lk : K.lookup f = some ⟨oc, od, .func (PySem.W.fnOf name qual params body scope dV kV doc pm an cdv ct), osl⟩) (hcd : PySem.W.codeIn K cdv qual = true) (S : FnScope N ps scope)
    (len : ∀ vs H Q E, sp vs H Q E → vs.length = ps.length)
    (hbody : ∀ (A : Around) (outer : List Env) (s : Shared) (H : Hp) (vs : List V) (Q : VK) (E : XK), Room k (A.deeper (envOfC qual scope s.heap.objs.size f cdv)) → sp vs H Q E →
      ∃ t, PSs (cxOf CX P w K mg base N qual scope f cdv A outer s H E) body t ∧ t { nx := fun _ H' => Q .non H', rt := Q } (start N vs) H) :
    FnOk P w K mg base CX (k + 1) f (PySem.W.fnOf name qual params body scope dV kV doc pm an cdv ct) ps sp := by
  refine ⟨len, fun A outer s H args us vs Q E hr e0 hb r hsp => ?_⟩
  have hl := len _ _ _ _ hsp
  have KX : K.In s.heap := e0.mod.kin.keeps fun b o e => (e0.bs b o e).1
  have lim : s.heap.NoLimit := e0.mod.nolimit.keeps fun b o e => (e0.bs b o e).1
  have hkind : ∀ y ∈ ps.zip us, scope.names.lookup y.1 = some .local ∨ (scope.names.lookup y.1 = some .cell ∧ ((cellsFrom (s.heap.objs.size + 1) scope.names []).lookup y.1).isSome = true) := fun ⟨n, v⟩ hy => by
    rcases S.par n (List.of_mem_zip hy).1 with q | q
    · exact .inl q
    · exact .inr ⟨q, PySem.W.cellsFrom_some _ _ _ (.inl q)⟩
  refine codeAny_call_function hr.depth (KX _ _ lk) rfl S.co S.gen rfl (PySem.W.codeRec_of KX hcd) (hb _ _ _ _ ?_)
  refine wpAny_newFunctionEnv_cells S.kind hkind fun env he s1 x => ?_
  subst he
  refine ⟨lim.keeps x.toInCall.keep, codeAny_func ?_⟩
  obtain ⟨t, ht, hq⟩ := hbody A outer s H vs Q E (hr.deeper _) hsp
  have I : Inv (cxOf CX P w K mg base N qual scope f cdv A outer s H E) [] (start N vs) H s1 := inv_start S hr.hd e0 hl r x
  refine wpAny_mono (ht [] s1 (start N vs) H _ I hq) (fun fl s' hs => ?_) fun e s' hs => hs
  have fin : ∀ {σ' : St} {H' : Hp} {v : V} {u : Value}, Inv (cxOf CX P w K mg base N qual scope f cdv A outer s H E) [] σ' H' s' → RelV v u → Q v H' → CE outer P w H s Q u s' :=
    fun {σ' H' v u} J rv q => ⟨v, H', J.os, J.bare, J.base, J.hok, rv, q⟩
  cases fl with
  | ret u =>
    obtain ⟨v, σ', H', J, rv, q⟩ := hs
    exact fin J rv q
  | next =>
    obtain ⟨σ', H', J, q⟩ := hs
    exact fin (v := V.non) (u := Value.none) J rfl q
  | brk =>
    obtain ⟨_, _, _, q⟩ := hs
    exact False.elim q
  | cont =>
    obtain ⟨_, _, _, q⟩ := hs
    exact False.elim q
end L2

namespace L2
open PySem PySem.Spec PyProof.Rows
section
variable {X : Cx} {x : Str} {p pos : Pos} {e : Expr} {es : List Expr} {t : TA} {id T : String} {r : List V → Hp → VK → Prop}

noncomputable def tCB (r : List V → Hp → VK → Prop) (t : TA) : TE := fun σ H Q => t σ H fun vs H1 => r vs H1 Q
theorem pe_callB (hc : CallR X (.builtin id) r) (hg : Gl X x) (hm : X.mg x = none) (hv : bootBuiltins x = some (.builtin id)) (ha : PA X (e :: es) t) (hn : autoParam (x ≠ "__name__") L2.auto2._auto_1) (hdb : autoParam ((x == ("__debug__" : Str)) = false) L2.auto2._auto_1)
    (he : autoParam (starEach (e :: es) X.env = (false, eval e X.env) :: starEach es X.env) L2.auto4._auto_1) (hpl : autoParam ((backTo pos (starEach es X.env)).any (·.1) = false) L2.auto4._auto_1) : PE X (.Call (.Name x p) (e :: es) [] pos) (tCB r t) := by
  intro pins s σ H Q I h
  refine wpAny_Call_Name_kw (ld_blt I hg hm hv ?_ hn hdb)
  exact PyProof.Rows.callWith_builtin1 (thn (ha pos pins s σ H _ I h) fun us s1 ⟨vs, H1, I1, r1, q1⟩ => hc pins s1 σ H1 vs us Q I1 r1 q1) he hpl
theorem pe_callTy (hc : CallR X (.type T) r) (hg : Gl X x) (hm : X.mg x = none) (hv : bootBuiltins x = some (.type T)) (ha : PA X (e :: es) t) (hn : autoParam (x ≠ "__name__") L2.auto2._auto_1) (hdb : autoParam ((x == ("__debug__" : Str)) = false) L2.auto2._auto_1)
    (he : autoParam (starEach (e :: es) X.env = (false, eval e X.env) :: starEach es X.env) L2.auto4._auto_1) (hpl : autoParam ((backTo pos (starEach es X.env)).any (·.1) = false) L2.auto4._auto_1) : PE X (.Call (.Name x p) (e :: es) [] pos) (tCB r t) := by
  intro pins s σ H Q I h
  refine wpAny_Call_Name_kw (ld_blt I hg hm hv ?_ hn hdb)
  exact PyProof.Rows.callWith_type1 (thn (ha pos pins s σ H _ I h) fun us s1 ⟨vs, H1, I1, r1, q1⟩ => hc pins s1 σ H1 vs us Q I1 r1 q1) he hpl
end
end L2

namespace HT
open PySem PyProof.Rows

section
open PySem.SeqAt
open PySem.AutoSeq1 (wpAny_loadPart')
open PySem.MeetsSeq PySem.MeetsSeq2 PySem.MeetsSeq3

end

section
variable {prog : Program} {w : World} {A : Around} {E : Value → Shared → Prop} {s : Shared}

noncomputable def sIx (n d : Nat) : Option Int → Nat
  | none => d
  | some v => if v < 0 then (v + (n : Int)).toNat else min v.toNat n
theorem sIx_none (n d : Nat) : sIx n d none = d := rfl
theorem sIx_nat (n d k : Nat) : sIx n d (some (k : Int)) = min k n := by
  show (if (k : Int) < 0 then ((k : Int) + (n : Int)).toNat else min (k : Int).toNat n) = min k n
  rw [if_neg (by omega), Int.toNat_natCast]
theorem sIx_le (n d : Nat) (hd : d ≤ n) (o : Option Int) : sIx n d o ≤ n := by
  cases o with
  | none => exact hd
  | some v =>
    show (if v < 0 then (v + (n : Int)).toNat else min v.toNat n) ≤ n
    by_cases hv : v < 0
    · rw [if_pos hv]; omega
    · rw [if_neg hv]; exact Nat.min_le_right _ _
theorem clip_eq (v : Int) (n d : Nat) : (if v < 0 then max (v + (n : Int)) 0 else min v (n : Int)) = ((sIx n d (some v) : Nat) : Int) := by
  show (if v < 0 then max (v + (n : Int)) 0 else min v (n : Int)) = (((if v < 0 then (v + (n : Int)).toNat else min v.toNat n) : Nat) : Int)
  by_cases hv : v < 0
  · simp only [if_pos hv]; omega
  · simp only [if_neg hv]; omega
theorem adjust_gen (lo hi : Option Int) (n : Nat) : Builtin.Slice.sliceAdjust lo hi 1 (n : Int) = (((sIx n 0 lo : Nat) : Int), ((sIx n n hi : Nat) : Int)) := by
  have h1 : ¬ ((1 : Int) < 0) := by omega
  unfold Builtin.Slice.sliceAdjust
  simp only [h1, if_false]
  refine Prod.ext ?_ ?_
  · cases lo with
    | none => rfl
    | some v => exact clip_eq v n 0
  · cases hi with
    | none => rfl
    | some v => exact clip_eq v n n
theorem places_gen (i j : Nat) : Builtin.Slice.slicePlaces (i : Int) (j : Int) 1 = j - i := by
  unfold Builtin.Slice.slicePlaces
  have h1 : (1 : Int) > 0 := by omega
  simp only [h1, if_true, Int.ediv_one]
  split <;> omega
theorem slicePart_ {v : Value} {o : Option Int} {Q : Option Int → Shared → Prop} (p : IsPart v o) (h : Q o s) : wpAny (model prog w) A (Builtin.Slice.slicePartIndex v) Q E s := by
  cases p with
  | none => exact slicePart_none h
  | int i t => exact slicePart_int h
theorem sliceApplied_gen {sl : Addr} {vl vu : Value} {lo hi : Option Int} {n : Nat} {Q : Int × Int × Nat → Shared → Prop} (hs : s.heap.IsSliceOf sl vl vu .none) (pl : IsPart vl lo) (pu : IsPart vu hi)
    (h : Q (((sIx n 0 lo : Nat) : Int), 1, sIx n n hi - sIx n 0 lo) s) : wpAny (model prog w) A (Builtin.Slice.sliceApplied (.ref sl) (pure (n : Int))) Q E s := by
  obtain ⟨os, hos, hcs, hds⟩ := id hs
  unfold Builtin.Slice.sliceApplied Builtin.Slice.sliceFields
  refine wpAny_bind (wpAny_bind (wpAny_field hos hds (x := vl) rfl (wpAny_bind (wpAny_field hos hds (x := vu) rfl (wpAny_bind (wpAny_field hos hds (x := .none) rfl (wpAny_pure ?_)))))))
  refine wpAny_bind (slicePart_none ?_)
  show wpAny _ _ (if ((1 : Int) == 0) = true then _ else _) _ _ s
  rw [if_neg (by decide)]
  refine wpAny_bind (slicePart_ pl (wpAny_bind (slicePart_ pu (wpAny_bind (wpAny_pure ?_)))))
  show wpAny _ _ (match Builtin.Slice.sliceAdjust lo hi 1 (n : Int) with | (lo, hi) => pure (lo, (1 : Int), Builtin.Slice.slicePlaces lo hi 1)) _ _ s
  rw [adjust_gen lo hi n]
  show wpAny _ _ (pure (((sIx n 0 lo : Nat) : Int), (1 : Int), Builtin.Slice.slicePlaces ((sIx n 0 lo : Nat) : Int) ((sIx n n hi : Nat) : Int) 1)) _ _ s
  rw [places_gen]
  exact wpAny_pure h
theorem pick_gen (xs : Array Value) (i k : Nat) : ((List.range k).filterMap fun (m : Nat) => xs[((i : Int) + (m : Int) * 1).toNat]?).toArray = ((xs.toList.drop i).take k).toArray := by
  have e : (fun (m : Nat) => xs[((i : Int) + (m : Int) * 1).toNat]?) = fun m => xs[i + m]? := by
    funext m
    have : ((i : Int) + (m : Int) * 1).toNat = i + m := by omega
    rw [this]
  rw [e]
  have := pick_run xs i k
  rw [List.filterMap_map] at this
  have e2 : ((fun x => xs[x]?) ∘ fun x => i + x) = fun m => xs[i + m]? := rfl
  rw [e2] at this
  rw [this]

theorem getItem_tuple_cut {t sl : Addr} {items : Array Value} {vl vu : Value} {lo hi : Option Int} {Q : Value → Shared → Prop} (ht : IsTup s.heap t items) (hs : s.heap.IsSliceOf sl vl vu .none) (pl : IsPart vl lo) (pu : IsPart vu hi)
    (hw : ¬ (sIx items.size 0 lo = 0 ∧ sIx items.size items.size hi = items.size))
    (h : Q (.ref s.heap.objs.size) { s with heap := s.heap.push { cls := .type "tuple", data := .seq ((items.toList.drop (sIx items.size 0 lo)).take (sIx items.size items.size hi - sIx items.size 0 lo)).toArray } })
    (hsz : items.size ≤ sizeLine) : wpAny (model prog w) A (getItem (.ref t) (.ref sl)) Q E s := by
  have htake : sizeOk (.seq ((items.toList.drop (sIx items.size 0 lo)).take (sIx items.size items.size hi - sIx items.size 0 lo)).toArray) := by
    show ((items.toList.drop (sIx items.size 0 lo)).take (sIx items.size items.size hi - sIx items.size 0 lo)).toArray.size ≤ sizeLine
    rw [List.size_toArray, List.length_take, List.length_drop, Array.length_toList]
    omega
  have hj : sIx items.size items.size hi ≤ items.size := sIx_le _ _ (Nat.le_refl _) hi
  obtain ⟨os, hos, hcs, hds⟩ := id hs
  have hTs : s.TypeIs (.ref sl) "slice" := ⟨os, hos, hcs⟩
  unfold getItem
  try with_reducible refine wpAny_holding ?_
  first | refine wpAny_bind (wpAny_pure ?_) | skip
  refine wpAny_bind (wpAny_sequenceKey ht.typeIs (by decide) ?_)
  refine wpAny_bind (wpAny_callSpecial?_slot (name := Str.ofString "__getitem__") ht.typeIs PyProof.Rows.slot_tuple_getitem
    (wpAny_call_entry PyProof.Rows.slot_tuple_getitem ht.typeIs entry_tuple_getitem ?_ (args_tuple_getitem _ _)))
  show wpAny _ _ (Builtin.Tuple.tupleItemsOf (.ref t) >>= _) _ _ s
  refine wpAny_bind (tupleItemsOf_ ht ?_)
  refine wpAny_bind (wpAny_typeOf hTs ?_)
  rw [if_pos (by decide)]
  refine wpAny_bind (sliceApplied_gen hs pl pu ?_)
  have hno : ¬ ((((sIx items.size 0 lo : Nat) : Int) == 0 && (1 : Int) == 1 && (sIx items.size items.size hi - sIx items.size 0 lo) == items.size) = true) := by
    intro q
    rw [Bool.and_eq_true, Bool.and_eq_true] at q
    have q1 : ((sIx items.size 0 lo : Nat) : Int) = 0 := eq_of_beq q.1.1
    have q2 : sIx items.size items.size hi - sIx items.size 0 lo = items.size := eq_of_beq q.2
    exact hw ⟨by omega, by omega⟩
  show wpAny _ _ (if (((sIx items.size 0 lo : Nat) : Int) == 0 && (1 : Int) == 1 && (sIx items.size items.size hi - sIx items.size 0 lo) == items.size) = true then _ else _) _ _ s
  rw [if_neg hno, pick_gen]
  first
    | exact wpAny_bind (m := Builtin.Tuple.tupleExact _) (wpAny_newObj_type (wpAny_pure ⟨_, rfl, wpAny_pure h⟩) htake)
    | exact wpAny_bind (m := Builtin.Tuple.tupleExact _) (wpAny_newObj_type (wpAny_bind (wpAny_pure (wpAny_pure ⟨_, rfl, wpAny_pure h⟩))) htake)
    | exact wpAny_bind (wpAny_bind (m := Builtin.Tuple.tupleExact _) (wpAny_newObj_type (wpAny_pure (wpAny_pure ⟨_, rfl, wpAny_pure h⟩)) htake))
    | exact wpAny_bind (wpAny_bind (m := Builtin.Tuple.tupleExact _) (wpAny_newObj_type (wpAny_pure ⟨_, rfl, wpAny_pure h⟩) htake))
end
end HT

namespace L2
open PySem PySem.Spec PyProof.Rows

noncomputable abbrev TO := St → Hp → (Option Int → Hp → Prop) → Prop
noncomputable def PO (X : Cx) (e : Option Expr) (t : TO) : Prop :=
  ∀ (pins : List (Addr × Obj)) (s : Shared) (σ : St) (H : Hp) (Q : Option Int → Hp → Prop), Inv X pins σ H s → t σ H Q →
    wpAny (model X.prog X.w) X.A (evalPart e X.env) (fun u s' => ∃ o H', Inv X pins σ H' s' ∧ IsPart u o ∧ Q o H') X.xe s
noncomputable def tNoPart : TO := fun _ H Q => Q none H
noncomputable def tPart (t : TE) : TO := fun σ H Q => t σ H fun x H1 => ∃ i, x = .int i ∧ Q (some i) H1

theorem intsAre_of {ns : List Int} : ∀ {us : List Value}, Vals (ns.map V.int) us → IntsAre us ns := by
  induction ns with
  | nil => intro us r; rw [List.map_nil] at r; cases r; exact .nil
  | cons n ns ih =>
    intro us r
    rw [List.map_cons] at r
    cases r with
    | cons r1 r2 =>
      obtain ⟨t, e⟩ := r1
      subst e
      exact .cons n t (ih r2)

section
variable {X : Cx} {e : Expr} {te : TE} {lo hi : Option Expr} {tl th : TO} {pos p2 : Pos}

theorem po_none : PO X none tNoPart := by
  intro pins s σ H Q I h
  rw [evalPart_none]
  exact wpAny_pure ⟨none, H, I, .none, h⟩
theorem po_some (h : PE X e te) : PO X (some e) (tPart te) := by
  intro pins s σ H Q I hw
  rw [evalPart_some]
  refine thn (h pins s σ H _ I hw) fun u s1 qq0 => ?_
  obtain ⟨x, H1, I1, r1, q1⟩ := qq0
  obtain ⟨i, rfl, q⟩ := q1
  obtain ⟨t, rfl⟩ := r1
  exact ⟨some i, H1, I1, .int i t, q⟩

noncomputable def SlR (X : Cx) (r : V → Option Int → Option Int → Hp → VK → Prop) : Prop :=
  ∀ (pins : List (Addr × Obj)) (s : Shared) (σ : St) (H : Hp) (x : V) (v vl vu : Value) (lo hi : Option Int) (sl : Addr) (Q : VK), Inv X pins σ H s → RelV x v → s.heap.IsSliceOf sl vl vu .none → IsPart vl lo → IsPart vu hi → r x lo hi H Q →
    ∃ T id, typeLookup (.type T) "__getitem__" = pure (some (.builtin id)) ∧ s.TypeIs v T ∧ wpAny (model X.prog X.w) X.A (getItem v (.ref sl)) (EP X pins σ Q) X.xe s
theorem SlR.or {r r' : V → Option Int → Option Int → Hp → VK → Prop} (h : SlR X r) (h' : SlR X r') : SlR X (fun x lo hi H Q => r x lo hi H Q ∨ r' x lo hi H Q) := by
  intro pins s σ H x v vl vu lo hi sl Q I rx hs pl pu q
  rcases q with q | q
  · exact h pins s σ H x v vl vu lo hi sl Q I rx hs pl pu q
  · exact h' pins s σ H x v vl vu lo hi sl Q I rx hs pl pu q
noncomputable def tSl (r : V → Option Int → Option Int → Hp → VK → Prop) (te : TE) (tl th : TO) : TE := fun σ H Q => te σ H fun x H1 => tl σ H1 fun l H2 => th σ H2 fun u H3 => r x l u H3 Q
theorem pe_slice {r : V → Option Int → Option Int → Hp → VK → Prop} (hr : SlR X r) (he : PE X e te) (hl : PO X lo tl) (hu : PO X hi th) : PE X (.Subscript e (.Slice lo hi none p2) pos) (tSl r te tl th) := by
  intro pins s σ H Q I h
  refine Subscript_ (thn (he pins s σ H _ I h) fun v s1 qq0 => ?_)
  obtain ⟨x, H1, I1, r1, q1⟩ := qq0
  refine wpAny_Slice (thn (hl pins s1 σ H1 _ I1 q1) fun vl s2 ⟨l, H2, I2, pl, q2⟩ => thn (hu pins s2 σ H2 _ I2 q2) fun vu s3 qq0 => ?_)
  obtain ⟨u, H3, I3, pu, q3⟩ := qq0
  rw [evalPart_none]
  refine wpAny_pure ?_
  have I4 : Inv X pins σ H3 { s3 with heap := s3.heap.push { cls := .type "slice", data := .fields #[vl, vu, .none] } } := I3.kept (t' := s3.toks) fun b ob q => Heap.get?_push_of_some _ q
  obtain ⟨T, id, hT, ht, hg⟩ := hr pins { s3 with heap := s3.heap.push { cls := .type "slice", data := .fields #[vl, vu, .none] } } σ H3 x v vl vu l u s3.heap.objs.size Q I4 r1 (Heap.IsSliceOf.new ..) pl pu q3
  show wpAny (model X.prog X.w) X.A (subscriptTail e (.Slice lo hi none p2) v (.ref s3.heap.objs.size)) (EP X pins σ Q) X.xe { s3 with heap := s3.heap.push { cls := .type "slice", data := .fields #[vl, vu, .none] } }
  exact tail_any (ops := [.ref s3.heap.objs.size, v]) ht hT hg (by with_unfolding_all rfl)

noncomputable def cutV (xs : List V) (lo hi : Option Int) : List V := (xs.drop (HT.sIx xs.length 0 lo)).take (HT.sIx xs.length xs.length hi - HT.sIx xs.length 0 lo)
theorem cutV_length (xs : List V) (lo hi : Option Int) : (cutV xs lo hi).length ≤ xs.length := by
  unfold cutV
  rw [List.length_take, List.length_drop]
  omega
noncomputable def rSlT (K : PySem.W.Frag) : V → Option Int → Option Int → Hp → VK → Prop := fun x lo hi H Q => ∃ a xs, x = .ref a ∧ SqT K H a xs ∧
  ¬ (HT.sIx xs.length 0 lo = 0 ∧ HT.sIx xs.length xs.length hi = xs.length) ∧ ∀ p, H p = none → Q (.ref p) (upd H p (.tup (cutV xs lo hi)))
theorem sl_tup : SlR X (rSlT X.K) := by
  intro pins s σ H x v vl vu lo hi sl Q I rx hs pl pu h
  obtain ⟨a, xs, rfl, hx, hw, q⟩ := h
  cases rx
  obtain ⟨its, r, ht, hz⟩ := I.tuple hx
  have hlen : its.toArray.size = xs.length := by rw [List.size_toArray]; exact r.length.symm
  refine ⟨"tuple", _, PyProof.Rows.slot_tuple_getitem.lookup, ht.typeIs, ?_⟩
  refine HT.getItem_tuple_cut ht hs pl pu (by rw [hlen]; exact hw) ?_ (by rw [hlen]; exact hz)
  rw [hlen]
  refine ⟨.ref s.heap.objs.size, _, I.laid (t' := s.toks) (o := .tup (cutV xs lo hi)) (fun b ob q => Heap.get?_push_of_some _ q) (Nat.le_refl _) ?_, rfl, q _ (I.hok.fresh (Nat.le_refl _))⟩
  exact ⟨Nat.le_trans (cutV_length xs lo hi) hz, _, (r.drop (HT.sIx xs.length 0 lo)).take (HT.sIx xs.length xs.length hi - HT.sIx xs.length 0 lo), IsTup.new _ _⟩

end
end L2

namespace L2
open PySem PySem.Spec PyProof.Rows

noncomputable def ixN (n : Nat) (i : Int) : Option Nat := if 0 ≤ i then (if i < n then some i.toNat else none) else if -(n : Int) ≤ i then some (i + n).toNat else none
noncomputable def atI {α : Type} (xs : List α) (i : Int) : Option α := (ixN xs.length i).bind fun j => xs[j]?
theorem ixN_seq {n : Nat} {i : Int} {j : Nat} (h : ixN n i = some j) : seqIndex? i n = some j ∧ j < n ∧ -(n : Int) ≤ i ∧ i < n := by
  unfold ixN at h
  by_cases h0 : 0 ≤ i
  · rw [if_pos h0] at h
    by_cases h1 : i < n
    · rw [if_pos h1] at h
      have e : i.toNat = j := Option.some.inj h
      exact ⟨by rw [seqIndex_of h0 h1, e], by omega, by omega, h1⟩
    · rw [if_neg h1] at h; cases h
  · rw [if_neg h0] at h
    by_cases h1 : -(n : Int) ≤ i
    · rw [if_pos h1] at h
      have e : (i + n).toNat = j := Option.some.inj h
      exact ⟨by rw [seqIndex_neg (by omega) h1, e], by omega, h1, by omega⟩
    · rw [if_neg h1] at h; cases h
theorem atI_get {α : Type} {xs : List α} {i : Int} {v : α} (h : atI xs i = some v) : ∃ j, seqIndex? i xs.length = some j ∧ xs[j]? = some v ∧ j < xs.length ∧ -(xs.length : Int) ≤ i ∧ i < xs.length := by
  unfold atI at h
  cases e : ixN xs.length i with
  | none => rw [e] at h; cases h
  | some j =>
    rw [e] at h
    obtain ⟨h1, h2, h3, h4⟩ := ixN_seq e
    exact ⟨j, h1, h, h2, h3, h4⟩
theorem atI_nat {α : Type} {xs : List α} {j : Nat} {v : α} (h : xs[j]? = some v) : atI xs (j : Int) = some v := by
  have hj : j < xs.length := (List.getElem?_eq_some_iff.mp h).1
  have e : ixN xs.length (j : Int) = some j := by
    unfold ixN
    rw [if_pos (by omega), if_pos (by omega)]; simp
  unfold atI; rw [e]; exact h
noncomputable def PlainIx (b : Expr) : Prop := ∀ o i, subscripted b false o i = operate [o, i] (getItem o i)
noncomputable def IxR (X : Cx) (r : R2) : Prop :=
  ∀ (value slice : Expr) (pins : List (Addr × Obj)) (s : Shared) (σ : St) (H : Hp) (x y : V) (v u : Value) (Q : VK), Inv X pins σ H s → RelV x v → RelV y u → r x y H Q →
    subscripted slice false v u = operate [v, u] (getItem v u) → wpAny (model X.prog X.w) X.A (subscriptTail value slice v u) (EP X pins σ Q) X.xe s
noncomputable def MtR (X : Cx) (id : String) (r : V → List V → Hp → VK → Prop) : Prop :=
  ∀ (pins : List (Addr × Obj)) (s : Shared) (σ : St) (H : Hp) (x : V) (xs : List V) (v : Value) (us : List Value) (Q : VK), Inv X pins σ H s → RelV x v → Vals xs us → r x xs H Q →
    wpAny (model X.prog X.w) X.A (call (.builtin id) (v :: us)) (EP X pins σ Q) X.xe s
section
variable {X : Cx} {a b : Expr} {ta tb : TE} {pos : Pos}
theorem IxR.or {r r' : R2} (h : IxR X r) (h' : IxR X r') : IxR X (fun x y H Q => r x y H Q ∨ r' x y H Q) := by
  intro value slice pins s σ H x y v u Q I rx ry q hs
  rcases q with q | q
  · exact h value slice pins s σ H x y v u Q I rx ry q hs
  · exact h' value slice pins s σ H x y v u Q I rx ry q hs
theorem pe_ix {r : R2} (hr : IxR X r) (ha : PE X a ta) (hb : PE X b tb) (hs : PlainIx b) : PE X (.Subscript a b pos) (tOp r ta tb) := by
  intro pins s σ H Q I h
  exact Subscript_ (binT ha hb I h fun v u s2 x y H2 I2 rx ry q => hr a b pins s2 σ H2 x y v u Q I2 rx ry q (hs _ _))

noncomputable def rIxL (K : PySem.W.Frag) : R2 := fun x y H Q => ∃ p xs i v, x = .ref p ∧ y = .int i ∧ SqL K H p xs ∧ atI xs i = some v ∧ Q v H
noncomputable def rIxT (K : PySem.W.Frag) : R2 := fun x y H Q => ∃ p xs i v, x = .ref p ∧ y = .int i ∧ SqT K H p xs ∧ atI xs i = some v ∧ Q v H
noncomputable def rIxS : R2 := fun x y H Q => ∃ z i c, x = .str z ∧ y = .int i ∧ z.length ≤ sizeLine ∧ atI z.cps.toList i = some c ∧ Q (.str ⟨#[c]⟩) H
theorem ix_list : IxR X (rIxL X.K) := by
  intro value slice pins s σ H x y v u Q I rx ry h hs
  obtain ⟨p, xs, i, z, rfl, rfl, hq, he, q⟩ := h
  cases rx
  obtain ⟨t, rfl⟩ := ry
  obtain ⟨its, r, pl, hz⟩ := I.list hq
  obtain ⟨j, h1, h2, h3, h4, h5⟩ := atI_get he
  obtain ⟨w, ew, rw'⟩ := r.get h2
  have hl := r.length
  have hn := line63
  have fin : EP X pins σ Q w s := ⟨z, H, I, rw', q⟩
  by_cases h0 : 0 ≤ i
  · have hj : i.toNat = j := by
      rw [seqIndex_of h0 h5] at h1
      exact Option.some.inj h1
    exact item_listR pl.isList h0 (by omega) (by rw [hj]; simpa using ew) fin hs
  · have hj : (i + (its.toArray.size : Int)).toNat = j := by
      rw [seqIndex_neg (by omega) h4] at h1
      rw [List.size_toArray, ← hl]
      exact Option.some.inj h1
    exact subscriptTail_builtinR (x := w) pl.isList.typeIs slot_list_getitem.lookup
      (wpAny_getItem_list_neg (Q := fun r s' => r = w ∧ EP X pins σ Q r s') pl.isList (by omega) (by rw [List.size_toArray] <;> omega) (by omega) (by rw [hj]; simpa using ew) ⟨rfl, fin⟩) hs
theorem ix_tup : IxR X (rIxT X.K) := by
  intro value slice pins s σ H x y v u Q I rx ry h hs
  obtain ⟨p, xs, i, z, rfl, rfl, hq, he, q⟩ := h
  cases rx
  obtain ⟨t, rfl⟩ := ry
  obtain ⟨its, r, pl, hz⟩ := I.tuple hq
  obtain ⟨j, h1, h2, h3, h4, h5⟩ := atI_get he
  obtain ⟨w, ew, rw'⟩ := r.get h2
  have hl := r.length
  have hn := line63
  have fin : EP X pins σ Q w s := ⟨z, H, I, rw', q⟩
  exact subscriptTail_builtinR (x := w) pl.typeIs slot_tuple_getitem.lookup
    (getItem_tuple (j := j) (Q := fun r s' => r = w ∧ EP X pins σ Q r s') pl (by omega) (by omega) (by rw [List.size_toArray, ← hl]; exact h1) (by simpa using ew) ⟨rfl, fin⟩) hs
theorem ix_str : IxR X rIxS := by
  intro value slice pins s σ H x y v u Q I rx ry h hs
  obtain ⟨z, i, c, rfl, rfl, hz, he, q⟩ := h
  obtain ⟨t, rfl⟩ := rx
  obtain ⟨t', rfl⟩ := ry
  obtain ⟨j, h1, h2, h3, h4, h5⟩ := atI_get he
  have hl : z.cps.toList.length = z.length := by simp [Str.length]
  rw [hl] at h1 h4 h5
  have hn := line63
  exact tail_any (typeIs_str s z t) slot_str_getitem.lookup (getItem_str (c := c) (by
    have e1 : decide (i < -(2 ^ 63 : Int)) = false := decide_eq_false (by omega)
    have e2 : decide (i ≥ 2 ^ 63) = false := decide_eq_false (by omega)
    rw [e1, e2, Bool.or_false]) (by rw [h1]; simpa using h2) ⟨.str ⟨#[c]⟩, H, I.tok _, ⟨_, rfl⟩, q⟩) hs
noncomputable def rIx (K : PySem.W.Frag) : R2 := fun x y H Q => rIxL K x y H Q ∨ rIxT K x y H Q ∨ rIxS x y H Q
theorem ix_seq : IxR X (rIx X.K) := ix_list.or (ix_tup.or ix_str)

theorem mapSeq_set (its : List Value) (n j : Nat) (u : Value) : Obj.mapSeq (·.setIfInBounds j u) { cls := .type "list", data := .seq its.toArray n } = { cls := .type "list", data := .seq (its.set j u).toArray n } := by
  simp [Obj.mapSeq]
theorem Inv.lst {pins : List (Addr × Obj)} {σ : St} {H : Hp} {s : Shared} {p : Addr} {xs : List V} (I : Inv X pins σ H s) (h : H p = some (.lst xs)) :
    ∃ (its : List Value) (n : Nat), Vals xs its ∧ s.heap.get? p = some { cls := .type "list", data := .seq its.toArray n } ∧ xs.length ≤ sizeLine := by
  obtain ⟨z, its, n, r, e⟩ := I.hok p _ h
  exact ⟨its, n, r, e, z⟩
theorem Inv.lstUpd {pins : List (Addr × Obj)} {σ : St} {H : Hp} {s : Shared} {p : Addr} {xs ys : List V} {its its' : List Value} {n n' : Nat} {f : Obj → Obj} (I : Inv X pins σ H s) (h : H p = some (.lst xs))
    (ho : s.heap.get? p = some { cls := .type "list", data := .seq its.toArray n }) (hf : f { cls := .type "list", data := .seq its.toArray n } = { cls := .type "list", data := .seq its'.toArray n' }) (r : Vals ys its') (hz : ys.length ≤ sizeLine) (t : Nat) :
    Inv X pins σ (upd H p (.lst ys)) { s with heap := s.heap.update p f, toks := t } := by
  have e : (s.heap.update p f).get? p = some { cls := .type "list", data := .seq its'.toArray n' } := by
    rw [Heap.get?_update_self f ho (by rw [hf] <;> rfl), hf]
  refine I.write (x := p) (e := p) (by rw [h]; trivial) (.inl rfl) (fun b u hb q => (Heap.get?_update_other _ _ (Ne.symm hb)).trans q) ⟨_, e⟩ ?_
  exact ⟨hz, its', n', r, e⟩
noncomputable def rSetL : V → V → V → Hp → (Hp → Prop) → Prop := fun o i v H Q => ∃ p xs k j, o = .ref p ∧ i = .int k ∧ H p = some (.lst xs) ∧ ixN xs.length k = some j ∧ Q (upd H p (.lst (xs.set j v)))
theorem set_list : PSet X rSetL := by
  intro pins s σ H o i v ov iv u Q I ro ri rv h
  obtain ⟨p, xs, k, j, rfl, rfl, hp, hj, q⟩ := h
  cases ro
  obtain ⟨t, rfl⟩ := ri
  obtain ⟨its, n, r, ho, hz⟩ := I.lst hp
  obtain ⟨h1, h2, h3, h4⟩ := ixN_seq hj
  have hl := r.length
  have hn := line63
  have I' : Inv X pins σ (upd H p (.lst (xs.set j v))) { s with heap := s.heap.update p (Obj.mapSeq (·.setIfInBounds j u)) } :=
    I.lstUpd hp ho (mapSeq_set its n j u) (r.set rv j) (by rw [List.length_set]; exact hz) s.toks
  by_cases h0 : 0 ≤ k
  · have hk : k.toNat = j := by
      rw [seqIndex_of h0 h4] at h1
      exact Option.some.inj h1
    exact PySem.W.ki_setAt ho h0 (by omega) (by rw [List.size_toArray, ← hl]; exact h4) (by rw [hk]; exact ⟨_, I', q⟩)
  · have hk : (k + (its.toArray.size : Int)).toNat = j := by
      rw [seqIndex_neg (by omega) h3] at h1
      rw [List.size_toArray, ← hl]
      exact Option.some.inj h1
    exact PySem.W.ki_setBack ho (by omega) (by rw [List.size_toArray, ← hl]; exact h3) (by omega) (by rw [hk]; exact ⟨_, I', q⟩)

theorem slice_bounds (lo hi : Option Int) (n : Nat) : (sliceBounds lo hi none n).1 = ((HT.sIx n 0 lo : Nat) : Int) ∧ (sliceBounds lo hi none n).2.1 = ((HT.sIx n n hi : Nat) : Int) ∧ (sliceBounds lo hi none n).2.2 = 1 := by
  refine ⟨?_, ?_, rfl⟩
  · cases lo with
    | none => simp [sliceBounds, HT.sIx]
    | some i =>
      simp only [sliceBounds, HT.sIx, Option.getD_none, show (1 : Int) > 0 by decide, if_true]
      by_cases h : i < 0
      · simp only [h, if_true] <;> omega
      · simp only [h, if_false] <;> omega
  · cases hi with
    | none => simp [sliceBounds, HT.sIx]
    | some i =>
      simp only [sliceBounds, HT.sIx, Option.getD_none, show (1 : Int) > 0 by decide, if_true]
      by_cases h : i < 0
      · simp only [h, if_true] <;> omega
      · simp only [h, if_false] <;> omega
theorem slicePick_cut (its : List Value) (lo hi : Option Int) : slicePick its.toArray lo hi none = ((its.drop (HT.sIx its.length 0 lo)).take (HT.sIx its.length its.length hi - HT.sIx its.length 0 lo)).toArray := by
  obtain ⟨h1, h2, h3⟩ := slice_bounds lo hi its.toArray.size
  unfold slicePick
  rw [h1, h2, h3]
  simp only [sliceRange_one, pick_run, List.size_toArray] <;> rfl
noncomputable def rSlL (K : PySem.W.Frag) : V → Option Int → Option Int → Hp → VK → Prop := fun x lo hi H Q => ∃ a xs, x = .ref a ∧ SqL K H a xs ∧ ∀ p, H p = none → Q (.ref p) (upd H p (.lst (cutV xs lo hi)))
theorem sl_list : SlR X (rSlL X.K) := by
  intro pins s σ H x v vl vu lo hi sl Q I rx hs pl pu h
  obtain ⟨a, xs, rfl, hx, q⟩ := h
  cases rx
  obtain ⟨its, r, ht, hz⟩ := I.list hx
  have hlen := r.length
  refine ⟨"list", _, slot_list_getitem.lookup, ht.isList.typeIs, ?_⟩
  refine wpAny_getItem_list_slice ht.isList hs pl pu .none (by simp) ?_ (by rw [List.size_toArray] <;> omega)
  rw [slicePick_cut, ← hlen]
  refine ⟨.ref s.heap.objs.size, _, I.laid (t' := s.toks) (o := .lst (cutV xs lo hi)) (fun b ob q => Heap.get?_push_of_some _ q) (Nat.le_refl _) ?_, rfl, q _ (I.hok.fresh (Nat.le_refl _))⟩
  exact ⟨Nat.le_trans (cutV_length xs lo hi) hz, _, 0, (r.drop (HT.sIx xs.length 0 lo)).take (HT.sIx xs.length xs.length hi - HT.sIx xs.length 0 lo), Heap.get?_push_size _ rfl⟩

noncomputable def flatV : V → Bool
  | .non => true
  | .bl _ => true
  | .int _ => true
  | .str _ => true
  | _ => false
noncomputable def eqV : V → V → Bool
  | .non, .non => true
  | .bl a, .bl b => a == b
  | .bl a, .int b => (if a then 1 else 0) == b
  | .int a, .bl b => a == (if b then 1 else 0)
  | .int a, .int b => a == b
  | .str a, .str b => a == b
  | _, _ => false
theorem eqAt_V {A : Around} {s : Shared} {y x : V} {u v : Value} (ry : RelV y u) (rx : RelV x v) (fy : flatV y = true) (fx : flatV x = true) : SeqAt.EqAt A s u v (eqV y x) := by
  cases y with
  | non =>
    cases ry
    cases x with
    | non => cases rx; exact SeqAt.EqAt.same _
    | bl b => cases rx; exact SeqAt.EqAt.none_bool b
    | int b => obtain ⟨t, rfl⟩ := rx; exact SeqAt.EqAt.none_int b t
    | str b => obtain ⟨t, rfl⟩ := rx; exact SeqAt.EqAt.none_str b t
    | _ => exact absurd (show false = true from fx) Bool.false_ne_true
  | bl a =>
    cases ry
    cases x with
    | non => cases rx; exact SeqAt.EqAt.bool_none a
    | bl b => cases rx; exact SeqAt.EqAt.bool_bool a b
    | int b => obtain ⟨t, rfl⟩ := rx; exact SeqAt.EqAt.bool_int a b t
    | str b => obtain ⟨t, rfl⟩ := rx; exact SeqAt.EqAt.bool_str a b t
    | _ => exact absurd (show false = true from fx) Bool.false_ne_true
  | int a =>
    obtain ⟨t', rfl⟩ := ry
    cases x with
    | non => cases rx; exact SeqAt.EqAt.int_none a t'
    | bl b => cases rx; exact SeqAt.EqAt.int_bool a t' b
    | int b => obtain ⟨t, rfl⟩ := rx; exact SeqAt.EqAt.int_int a t' b t
    | str b => obtain ⟨t, rfl⟩ := rx; exact SeqAt.EqAt.int_str a t' b t
    | _ => exact absurd (show false = true from fx) Bool.false_ne_true
  | str a =>
    obtain ⟨t', rfl⟩ := ry
    cases x with
    | non => cases rx; exact SeqAt.EqAt.str_none a t'
    | bl b => cases rx; exact SeqAt.EqAt.str_bool a t' b
    | int b => obtain ⟨t, rfl⟩ := rx; exact SeqAt.EqAt.str_int a t' b t
    | str b => obtain ⟨t, rfl⟩ := rx; exact SeqAt.EqAt.str_str a t' b t
    | _ => exact absurd (show false = true from fx) Bool.false_ne_true
  | _ => exact absurd (show false = true from fy) Bool.false_ne_true
noncomputable def eqU (x : V) (u : Value) : Bool := match u with
  | .none => eqV .non x
  | .bool b => eqV (.bl b) x
  | .int i _ => eqV (.int i) x
  | .str z _ => eqV (.str z) x
  | _ => false
theorem eqU_of {x y : V} {u : Value} (r : RelV y u) (f : flatV y = true) : eqU x u = eqV y x := by
  cases y with
  | non => cases r; rfl
  | bl b => cases r; rfl
  | int i => obtain ⟨t, rfl⟩ := r; rfl
  | str z => obtain ⟨t, rfl⟩ := r; rfl
  | _ => exact absurd (show false = true from f) Bool.false_ne_true
theorem any_eqU {x : V} : ∀ {xs : List V} {us : List Value}, Vals xs us → xs.all flatV = true → us.any (eqU x) = xs.any fun y => eqV y x
  | _, _, .nil, _ => rfl
  | y :: xs, u :: us, .cons r t, f => by
    rw [List.all_cons, Bool.and_eq_true] at f
    rw [List.any_cons, List.any_cons, eqU_of r f.1, any_eqU t f.2]
theorem mem_eqAt {A : Around} {s : Shared} {x : V} {v : Value} (rx : RelV x v) (fx : flatV x = true) : ∀ {xs : List V} {us : List Value}, Vals xs us → xs.all flatV = true → ∀ u ∈ us, SeqAt.EqAt A s u v (eqU x u)
  | _, _, .nil, _ => fun u hu => by cases hu
  | y :: xs, u :: us, .cons r t, f => fun u' hu => by
    rw [List.all_cons, Bool.and_eq_true] at f
    rcases List.mem_cons.mp hu with rfl | hu
    · rw [eqU_of r f.1]; exact eqAt_V r rx f.1 fx
    · exact mem_eqAt rx fx t f.2 u' hu
noncomputable def inV (x : V) (xs : List V) : Bool := xs.any fun y => eqV y x
noncomputable def rIn (K : PySem.W.Frag) (neg : Bool) : R2 := fun x y H Q => ∃ p xs, y = .ref p ∧ (SqL K H p xs ∨ SqT K H p xs) ∧ flatV x = true ∧ xs.all flatV = true ∧ Q (.bl (if neg then !inV x xs else inV x xs)) H
theorem op_in_seq : OpR X (compareOp .In) (rIn X.K false) := by
  intro pins s σ H x y v u Q I rx ry h
  obtain ⟨p, xs, rfl, hq, fx, fs, q⟩ := h
  cases ry
  rcases hq with hq | hq
  · obtain ⟨its, r, pl, hz⟩ := I.list hq
    refine SeqAt.in_listAt (eqU x) pl.isList (fun w hw => mem_eqAt rx fx r fs w (by simpa using hw)) ⟨.bl _, H, I, rfl, ?_⟩
    rw [show its.toArray.any (eqU x) = its.any (eqU x) by simp, any_eqU r fs]
    exact q
  · obtain ⟨its, r, pl, hz⟩ := I.tuple hq
    refine SeqAt.in_tupleAt (eqU x) pl (fun w hw => mem_eqAt rx fx r fs w (by simpa using hw)) ⟨.bl _, H, I, rfl, ?_⟩
    rw [show its.toArray.any (eqU x) = its.any (eqU x) by simp, any_eqU r fs]
    exact q
theorem CallR.or {f : Value} {r r' : List V → Hp → VK → Prop} (h : CallR X f r) (h' : CallR X f r') : CallR X f (fun xs H Q => r xs H Q ∨ r' xs H Q) := by
  intro pins s σ H xs us Q I rs q
  rcases q with q | q
  · exact h pins s σ H xs us Q I rs q
  · exact h' pins s σ H xs us Q I rs q
theorem call_list_of : CallR X (.type "list") (fun xs H Q => ∃ p ys, xs = [.ref p] ∧ (SqL X.K H p ys ∨ SqT X.K H p ys) ∧ ∀ l, H l = none → Q (.ref l) (upd H l (.lst ys))) := by
  intro pins s σ H xs us Q I r h
  obtain ⟨p, ys, rfl, hq, q⟩ := h
  obtain ⟨u, rfl, rx⟩ := vals1 r
  cases rx
  have fin : ∀ (its : List Value), Vals ys its → ys.length ≤ sizeLine → ∀ (h' : Heap) (c' : Nat), (∀ b o', s.heap.get? b = some o' → h'.get? b = some o') →
      h'.get? s.heap.objs.size = some { cls := .type "list", dict := none, data := .seq its.toArray c', slots := #[] } → EP X pins σ Q (.ref s.heap.objs.size) { s with heap := h' } := fun its r' hz h' c' kp e =>
    ⟨.ref s.heap.objs.size, _, I.laid (t' := s.toks) kp (Nat.le_refl _) (show ObjOk X.prog X.w _ h' _ (.lst ys) from ⟨hz, its, c', r', e⟩), rfl, q _ (I.hok.fresh (Nat.le_refl _))⟩
  rcases hq with hq | hq
  · obtain ⟨its, r', pl, hz⟩ := I.list hq
    have hlen := r'.length
    obtain ⟨o, ho, hc, n, hd⟩ := pl.isList
    exact call_list_seq p (.inl rfl) ho hc hd (fun h' c' kp e => fin its r' hz h' c' kp e) (by simp only [List.size_toArray] <;> omega)
  · obtain ⟨its, r', pl, hz⟩ := I.tuple hq
    have hlen := r'.length
    obtain ⟨o, ho, hc, n, hd⟩ := pl
    exact call_list_seq p (.inr rfl) ho hc hd (fun h' c' kp e => fin its r' hz h' c' kp e) (by simp only [List.size_toArray] <;> omega)
noncomputable def tyV (K : PySem.W.Frag) (T : String) (x : V) (H : Hp) : Prop := match x with
  | .str _ => T = "str"
  | .int _ => T = "int"
  | .ref p => (T = "list" ∧ ∃ xs, SqL K H p xs) ∨ (T = "tuple" ∧ ∃ o, K.lookup p = some o ∧ o.cls = .type "tuple" ∧ o.dict = none) ∨
      (T = "dict" ∧ ((∃ kvs, H p = some (.dK kvs)) ∨ ∃ kvs, H p = some (.dT kvs))) ∨ (T = "set" ∧ ∃ S n, H p = some (.set S n))
  | _ => False
theorem tyV_is {pins : List (Addr × Obj)} {σ : St} {H : Hp} {s : Shared} {T : String} {x : V} {v : Value} (I : Inv X pins σ H s) (r : RelV x v) (ty : tyV X.K T x H) :
    s.TypeIs v T ∧ ∀ a, v = .ref a → ∃ ob, s.heap.get? a = some ob ∧ ob.dict = none := by
  cases x with
  | str z =>
    obtain ⟨t, rfl⟩ := r
    cases (show T = "str" from ty)
    exact ⟨typeIs_str s z t, fun _ e => nomatch e⟩
  | int i =>
    obtain ⟨t, rfl⟩ := r
    cases (show T = "int" from ty)
    exact ⟨typeIs_int s i t, fun _ e => nomatch e⟩
  | ref p =>
    cases r
    rcases ty with ⟨rfl, xs, hq⟩ | ⟨rfl, o, hk, hc, hd⟩ | ⟨rfl, hk⟩ | ⟨rfl, S, n, hk⟩
    · obtain ⟨its, _, pl, _⟩ := I.list hq
      refine ⟨pl.isList.typeIs, fun a e => ?_⟩
      cases e
      obtain ⟨o, n, e, c, hd, _⟩ := pl
      exact ⟨o, e, hd⟩
    · refine ⟨⟨o, I.kIn p o hk, hc⟩, fun a e => ?_⟩
      cases e
      exact ⟨o, I.kIn _ o hk, hd⟩
    · have z : ∃ o, s.heap.get? p = some o ∧ o.ExactDict := by
        rcases hk with ⟨kvs, hk⟩ | ⟨kvs, hk⟩
        · obtain ⟨_, _, _, _, o, _, _, e, ex, _⟩ := I.hok p _ hk
          exact ⟨o, e, ex⟩
        · obtain ⟨_, _, _, _, o, _, _, e, ex, _⟩ := I.hok p _ hk
          exact ⟨o, e, ex⟩
      obtain ⟨o, e, ex⟩ := z
      refine ⟨⟨o, e, ex.1⟩, fun a e2 => ?_⟩
      cases e2
      exact ⟨o, e, ex.2.1⟩
    · obtain ⟨o, _, _, _, e, ex, _⟩ := I.hok p _ hk
      refine ⟨⟨o, e, ex.1⟩, fun a e2 => ?_⟩
      cases e2
      exact ⟨o, e, ex.2.1⟩
  | _ => exact False.elim ty
noncomputable def tBM (K : PySem.W.Frag) (T : String) (r : V → List V → Hp → VK → Prop) (to : TE) (t : TA) : TE := fun σ H Q => to σ H fun x H1 => tyV K T x H1 ∧ t σ H1 fun xs H2 => r x xs H2 Q
variable {o e : Expr} {es : List Expr} {to : TE} {t : TA} {name : Str} {apos cpos : Pos} {T id : String} {r : V → List V → Hp → VK → Prop}
theorem pe_bm (pa : PlainAttrs T) (slot : Slot T name id) (hty : typeOf (.builtin id) = pure (.type "method_descriptor")) (hm : MtR X id r) (ho : PE X o to) (ha : PA X (e :: es) t)
    (hbase : autoParam (attributeBase o name X.env (eval o X.env) = eval o X.env) L2.auto4._auto_1)
    (hfew : ((backTo cpos (starEach (e :: es) X.env)).all (fun x => !x.1) && (backToKw cpos (keywordEach [] X.env)).all (fun x => x.1.isSome)
      && decide ((e :: es).length + ([] : List Keyword).length + (if ([] : List Keyword).isEmpty then 0 else 1) < 30)) = true := by rfl)
    (hline : autoParam ((apos.endLine == cpos.line) = true) L2.auto4._auto_1) (hs : autoParam (starEach (e :: es) X.env = (false, eval e X.env) :: starEach es X.env) L2.auto4._auto_1) (hplain : autoParam ((backTo cpos (starEach es X.env)).any (·.1) = false) L2.auto4._auto_1) :
    PE X (.Call (.Attribute o name apos) (e :: es) [] cpos) (tBM X.K T r to t) := by
  intro pins s σ H Q I h
  refine wpAny_Call_method_late hbase hfew hline rfl (thn (ho pins s σ H _ I h) fun v s1 qq0 => ?_)
  obtain ⟨x, H1, I1, r1, ty, q1⟩ := qq0
  obtain ⟨h1, h2⟩ := tyV_is I1 r1 ty
  refine ⟨T, id, pa, slot, hty, h1, h2, ?_⟩
  have hA := ha cpos pins s1 σ H1 _ I1 q1
  rw [hs] at hA ⊢
  refine Calls.callWith_builtin (by show (false || (backTo cpos (starEach es X.env)).any (·.1)) = false; rw [hplain] <;> rfl) (Calls.evalArgs_plain ?_)
  exact thn hA fun us s2 ⟨vs, H2, I2, r2, q2⟩ => hm pins s2 σ H2 x vs v us Q I2 r1 r2 q2
end
end L2

namespace L2
open PySem PySem.Spec PyProof.Rows

noncomputable def MtM (X : Cx) (id : String) (r : V → List V → Hp → VK → Prop) : Prop :=
  ∀ (pins : List (Addr × Obj)) (s : Shared) (σ : St) (H : Hp) (x : V) (xs : List V) (v : Value) (us : List Value) (Q : VK), Inv X pins σ H s → RelV x v → Vals xs us → r x xs H Q →
    wpAny (model X.prog X.w) X.A (call (.builtin id) (v :: us)) (EP X pins σ Q) X.xe s

theorem Vals.one : ∀ {x : V} {us : List Value}, Vals [x] us → ∃ u, us = [u] ∧ RelV x u
  | _, _, .cons r .nil => ⟨_, rfl, r⟩
theorem Vals.rep {xs : List V} {us : List Value} (h : Vals xs us) : ∀ k : Nat, Vals (List.replicate k xs).flatten (List.replicate k us).flatten
  | 0 => .nil
  | k + 1 => by
    rw [List.replicate_succ, List.replicate_succ, List.flatten_cons, List.flatten_cons]
    exact Vals.append h (Vals.rep h k)
theorem foldl_rep (its : List Value) : ∀ (k : Nat) (acc : List Value),
    List.foldl (fun x1 x2 => x1 ++ x2) acc.toArray (List.replicate k its.toArray) = (acc ++ (List.replicate k its).flatten).toArray
  | 0, acc => by simp
  | k + 1, acc => by
    have e : acc.toArray ++ its.toArray = (acc ++ its).toArray := by simp
    have e2 : (acc ++ its) ++ (List.replicate k its).flatten = acc ++ (List.replicate (k + 1) its).flatten := by
      rw [List.replicate_succ, List.flatten_cons, List.append_assoc]
    rw [← e2, ← foldl_rep its k (acc ++ its), ← e, List.replicate_succ, List.foldl_cons]

section
variable {X : Cx} {pins : List (Addr × Obj)} {σ : St} {H : Hp} {s : Shared} {l b : Addr} {xs ys zs : List V}

theorem Inv.lset {its its' : List Value} {n : Nat} {f : Array Value → Array Value} {t' : Nat} (I : Inv X pins σ H s) (hH : H l = some (.lst xs))
    (e : s.heap.get? l = some { cls := .type "list", data := .seq its.toArray n }) (hf : f its.toArray = its'.toArray) (hv : Vals ys its') (hz : ys.length ≤ sizeLine) :
    Inv X pins σ (upd H l (.lst ys)) { s with heap := s.heap.update l (Obj.mapSeq f), toks := t' } := by
  have q := PySem.IsL.update e f
  rw [hf] at q
  refine I.write (x := l) (e := l) (by rw [hH]; exact trivial) (.inl rfl) (fun b' u hb hu => (Heap.get?_update_other s.heap (Obj.mapSeq f) (Ne.symm hb)).trans hu) ⟨_, q⟩ ?_
  exact ⟨hz, its', _, hv, q⟩
theorem Inv.lnew {its : List Value} {t' : Nat} (I : Inv X pins σ H s) (hv : Vals ys its) (hz : ys.length ≤ sizeLine) :
    Inv X pins σ (upd H s.heap.objs.size (.lst ys)) { s with heap := s.heap.push { cls := .type "list", data := .seq its.toArray }, toks := t' } :=
  I.laid (fun _ _ q => Heap.get?_push_of_some _ q) (Nat.le_refl _) ⟨hz, its, 0, hv, Heap.get?_push_size _ rfl⟩
theorem Inv.fresh (I : Inv X pins σ H s) : H s.heap.objs.size = none := I.hok.fresh (Nat.le_refl _)
theorem Inv.lstM (I : Inv X pins σ H s) (hH : H l = some (.lst xs)) : xs.length ≤ sizeLine ∧ ∃ (its : List Value) (n : Nat), Vals xs its ∧ xs.length = its.length ∧ s.heap.get? l = some { cls := .type "list", data := .seq its.toArray n } := by
  obtain ⟨z, its, n, r, e⟩ := I.hok l _ hH
  exact ⟨z, its, n, r, r.length, e⟩

theorem notLongL {n : Nat} (h : n ≤ sizeLine) : Builtin.List.listTooLong n = false := by
  unfold Builtin.List.listTooLong
  exact decide_eq_false (by omega)
end

section
variable {X : Cx}

noncomputable def rAppend : V → List V → Hp → VK → Prop := fun x vs H Q => ∃ l xs y, x = .ref l ∧ vs = [y] ∧ H l = some (.lst xs) ∧ xs.length < sizeLine ∧ Q .non (upd H l (.lst (xs ++ [y])))
theorem mt_append : MtM X "list.append" rAppend := by
  intro pins s σ H x vs v us Q I rx rv h
  obtain ⟨l, xs, y, rfl, rfl, hH, hz, q⟩ := h
  cases rx
  obtain ⟨u, rfl, ru⟩ := rv.one
  obtain ⟨z, its, n, r, hl, e⟩ := I.lstM hH
  refine call_meets F.slot_list_append ⟨_, e, rfl⟩ F.entry_list_append (F.args_list_append_2 _ _) (PySem.list_append l its.toArray n u (by rw [List.size_toArray]; omega)) ⟨e, ?_⟩
  refine ⟨.non, _, I.lset (its' := its ++ [u]) hH e (by simp) (r.append (.cons ru .nil)) ?_, rfl, q⟩
  rw [List.length_append, List.length_singleton]
  omega

noncomputable def rCat : R2 := fun x y H Q => ∃ l b xs zs, x = .ref l ∧ y = .ref b ∧ H l = some (.lst xs) ∧ H b = some (.lst zs) ∧ xs.length + zs.length ≤ sizeLine ∧ ∀ p, H p = none → Q (.ref p) (upd H p (.lst (xs ++ zs)))
theorem op_cat : OpR X (binaryOp .Add) rCat := by
  intro pins s σ H x y v u Q I rx ry h
  obtain ⟨l, b, xs, zs, rfl, rfl, hH, hB, hz, q⟩ := h
  cases rx
  cases ry
  obtain ⟨z, its, n, r, hl, e⟩ := I.lstM hH
  obtain ⟨z2, its2, n2, r2, hl2, e2⟩ := I.lstM hB
  refine PySem.P.add_list e e2 ?_ (by rw [List.size_toArray, List.size_toArray]; omega)
  have ea : its.toArray ++ its2.toArray = (its ++ its2).toArray := by simp
  rw [ea]
  exact ⟨.ref _, _, I.lnew (t' := s.toks) (r.append r2) (by rw [List.length_append]; omega), rfl, q _ I.fresh⟩
noncomputable def rRep : R2 := fun x y H Q => ∃ l k xs, x = .ref l ∧ y = .int k ∧ H l = some (.lst xs) ∧ -(2 ^ 63) ≤ k ∧ k < 2 ^ 63 ∧ xs.length * k.toNat ≤ sizeLine ∧
  ∀ p, H p = none → Q (.ref p) (upd H p (.lst (List.replicate k.toNat xs).flatten))
theorem len_rep {α : Type} (xs : List α) (k : Nat) : (List.replicate k xs).flatten.length = k * xs.length := by
  induction k with
  | zero => simp
  | succ k ih => rw [List.replicate_succ, List.flatten_cons, List.length_append, ih, Nat.succ_mul, Nat.add_comm]
theorem op_rep : OpR X (binaryOp .Mult) rRep := by
  intro pins s σ H x y v u Q I rx ry h
  obtain ⟨l, k, xs, rfl, rfl, hH, h1, h2, hz, q⟩ := h
  cases rx
  obtain ⟨t, rfl⟩ := ry
  obtain ⟨z, its, n, r, hl, e⟩ := I.lstM hH
  have hlen : its.toArray.size * k.toNat ≤ sizeLine := by rw [List.size_toArray, ← hl]; exact hz
  have hcap : ¬ its.toArray.size * k.toNat > (2 ^ 63 - 1) / 8 := by
    have : (sizeLine : Nat) ≤ (2 ^ 63 - 1) / 8 := by decide
    omega
  have hfit : ¬ (!Builtin.List.listFitsIndex k) = true := by
    rw [fitsIndex_both h1 h2]
    exact Bool.false_ne_true
  have hlong : ¬ Builtin.List.listTooLong (its.toArray.size * k.toNat) = true := by
    rw [notLongL hlen]
    exact Bool.false_ne_true
  have hnew : List.foldl (fun x1 x2 => x1 ++ x2) #[] (List.replicate (if its.toArray.isEmpty = true then 0 else k.toNat) its.toArray) = (List.replicate k.toNat its).flatten.toArray := by
    have f0 : ∀ m : Nat, List.foldl (fun x1 x2 => x1 ++ x2) #[] (List.replicate m its.toArray) = (List.replicate m its).flatten.toArray := fun m => by
      have := foldl_rep its m []
      rw [List.nil_append] at this
      exact this
    rw [f0]
    cases its with
    | nil => simp
    | cons a r' => rw [if_neg (by simp)]
  refine wpAny_binaryOp_repeat_ref (T := "list") (U := "int") (by decide) ⟨_, e, rfl⟩ (fun s' => typeIs_int s' k t) noFill_list_mul F.fills_int_mul F.slot_int_rmul repeat_list F.slot_int_index.lookup
    (call_meets F.slot_int_rmul (typeIs_int s k t) F.entry_int_rmul (F.args_int_rmul_2 _ _) (int___rmul___int_list k t l its.toArray n)
      ⟨e, rfl, ⟨_, e, rfl⟩, call_meets F.slot_list_mul ⟨_, e, rfl⟩ F.entry_list_mul (F.args_list_mul_2 _ _) (AutoListH.list___mul___list_int_3 l its.toArray n k t hfit hcap hlong) ⟨e, ?_⟩⟩)
  rw [hnew]
  exact ⟨.ref _, _, I.lnew (t' := s.toks) (r.rep k.toNat) (by rw [len_rep, Nat.mul_comm]; exact hz), rfl, q _ I.fresh⟩

end

section
variable {prog : Program} {w : World} {A : Around} {E : Value → Shared → Prop} {s : Shared}
end

section
variable {X : Cx}
end
end L2

namespace Att
open PySem PySem.W PySem.Calls PyProof.Rows

theorem ints_of_wellAll {P : Params} {h : Heap} : ∀ (ns : List Int) (vs : List Value), WellAll P h vs (ns.map WData.int) → IntsAre vs ns := by
  intro ns
  induction ns with
  | nil =>
    intro vs w
    rw [List.map_nil] at w
    cases w
    exact .nil
  | cons n ns ih =>
    intro vs w
    rw [List.map_cons] at w
    cases w with
    | cons a b =>
      cases a
      exact .cons _ _ (ih _ b)

theorem script_of {l : OpenLaw} {n : Nat} (hn : l.most = some n) {P : Params} {h : Heap} {args : List WData} {vals : List Value}
    (hpre : l.row.toRowW.claim.pre args = true) (hwl : WellAll P h vals args) :
    ∃ a vs ns, vals = [Value.ref a] ∧ args = [WData.list (ns.map WData.int)] ∧ h.get? a = some { cls := .type "list", data := .seq vs.toArray } ∧ IntsAre vs ns ∧ ns.length ≤ n := by
  have hsh : WShape.hasAll [] args [.list .int] = true := (pre_splitW hpre).1
  have hc : l.pre.holds [] { args := args } = true := (pre_splitW hpre).2
  obtain ⟨d, r, rfl, h1, h2⟩ := hasAllW_cons hsh
  obtain rfl := hasAllW_nil h2
  obtain ⟨xs, rfl, h3⟩ := hasW_list h1
  obtain ⟨ns, rfl⟩ := items_int h3
  have hlen : ns.length ≤ n := by
    unfold OpenLaw.pre at hc
    have h4 : (WTm.not (.lt (.lit (.int (n : Int))) (.len (.arg 0)))).holds [] { args := [.list (ns.map .int)] } = true := by
      have h4 := (holds_andW hc).1
      rw [hn] at h4
      exact h4
    have h5 := condW_of h4 (w_not (w_lt w_lit (w_len_list (w_arg rfl))))
    rw [List.length_map] at h5
    refine Nat.le_of_not_lt fun q => ?_
    have q' : (n : Int) < ((ns.length : Nat) : Int) := by omega
    first
      | (rw [decide_eq_true q'] at h5; exact absurd h5 (by decide))
      | (simp at h5; omega)
  cases hwl with
  | cons w1 w2 =>
    cases w2
    cases w1 with
    | list ho hall => exact ⟨_, _, ns, rfl, rfl, ho, ints_of_wellAll ns _ hall, hlen⟩

theorem post_true (l : OpenLaw) (args : List WData) : l.row.toRowW.claim.post args (.bool true) args = true :=
  postW_of (r := l.row.toRowW) (X := (true == true))
    (show WShape.has [] (.bool true) .bool = true by first | rfl | decide | simp [WShape.has, WShape.arms, WShape.armsAll])
    (show (WTm.eq .res (.lit (.bool true))).value [] { args := args, res := some (.bool true), after := args } = some (.bool (true == true)) from w_eq_bool (w_res rfl) w_lit) rfl

theorem attach_call {l : OpenLaw} {n : Nat} {q : Program} {loose : List Str} {XP : (Str → Option Value) → Heap → Prop} {YP : World → Heap → Prop} {d : DefRec}
    (hn : l.most = some n) (hdf : d.params.defaults = [])
    (call : ∀ (w : World) (s₀ s₁ : Shared) (mg mb : Str → Option Value) (fa : Addr) (o : Obj) (pm cd doc : Value) (a : Addr) (vs : List Value) (ns : List Int),
      Ground q loose [] XP w s₀ mg mb s₁.heap → YP w s₁.heap →
      s₁.heap.get? fa = some o → o.data = .func (docDef d.name d.params d.body d.scope pm cd doc) → s₁.heap.CodeRec cd d.name → mg d.name = some (.ref fa) →
      s₁.heap.get? a = some { cls := .type "list", data := .seq vs.toArray } → IntsAre vs ns → ns.length ≤ n → s₁.gens = #[] →
      codeAny (model l.prog w) callerA (.call (.ref fa) ⟨[.ref a], []⟩) (fun r s' => r = .ok (.ret (.bool true)) ∧ OldK s₁.heap s'.heap ∧ s'.os = s₁.os ∧ AllBare s'.gens) s₁) :
    WalkO q loose XP YP l.row.toRowW d [] (fun f vs => PySem.call f vs) := by
  intro w s₀ s₁ mg mb G Y fa o pm cd doc dV kV ho hd hcd hD hmg hg args vals as hpre hlay hrd hwl hlo
  obtain rfl : dV = .none := Dflts.none hD hdf
  obtain rfl : kV = .none := Dflts.noKw hD
  obtain ⟨a, vs, ns, rfl, rfl, hobj, hints, hlen⟩ := script_of hn hpre hwl
  refine enter_call (codeAny_mono (call w s₀ s₁ mg mb fa o pm cd doc a vs ns G Y ho (fd_plain hd) hcd hmg hobj hints hlen hg) fun r s' hq => ?_)
  obtain ⟨rfl, h2, h3, h4⟩ := hq
  exact ⟨.inl ⟨.bool true, .bool true, [], rfl, fun _ => rfl, .bool true, post_true l _, fun _ => ⟨List.Pairwise.nil, fun _ hm => (nomatch hm)⟩⟩, h2, h3, h4⟩

section
variable {prog : Program} {w : World} {A : Around} {E : Value → Shared → Prop} {s : Shared} {K : Frag}

end
end Att

namespace L2
open PySem PySem.Spec PyProof.Rows

theorem vals_ints : ∀ {vs : List Value} {ns : List Int}, IntsAre vs ns → Vals (ns.map V.int) vs
  | _, _, .nil => .nil
  | _, _, .cons n t h => .cons ⟨t, rfl⟩ (vals_ints h)

noncomputable def Only (H : Hp) : Prop := ∀ b, H b = none ∨ ∃ o xs, H b = some (.frz o (.lst xs))

theorem law_call {P : Program} {w : World} {K : PySem.W.Frag} {mg mb : Str → Option Value} {CX : CXT} {k : Nat} {fa a : Addr} {fd : FuncData} {x : Str} {sp : Sp} {s₁ : Shared} {vs : List Value} {ns : List Int}
    (KX : K.In s₁.heap) (hns : s₁.heap.Ns mainGlobals mg) (hb : s₁.heap.Ns builtinsNs mb) (hbb : ∀ x : Str, x ≠ "__name__" → mb x = bootBuiltins x) (hlim : s₁.heap.NoLimit) (hsm : ∃ mm, s₁.heap.Ns sysModules mm) (hg : s₁.gens = #[])
    (ha : s₁.heap.get? a = some { cls := .type "list", data := .seq vs.toArray }) (hi : IntsAre vs ns) (hl : ns.length ≤ sizeLine) (hr : Room k callerA)
    (F : ∀ base : Heap, K.In base → base.Ns mainGlobals mg → FnOk P w K mg base CX k fa fd [x] sp) (hbind : ∀ (s : Shared) (u : Value), BindsTo s fd ⟨[u], []⟩ [(x, u)])
    (hsp : ∀ H : Hp, Only H → SqL K H a (ns.map V.int) → sp [.ref a] H (fun v _ => v = .bl true) fun _ _ _ => False)
    (hCX : ∀ H e s', CX [] H s₁ (fun _ _ _ => False) e s' → False) :
    codeAny (model P w) callerA (.call (.ref fa) ⟨[.ref a], []⟩) (fun r s' => r = .ok (.ret (.bool true)) ∧ OldK s₁.heap s'.heap ∧ s'.os = s₁.os ∧ AllBare s'.gens) s₁ := by
  have rv := vals_ints hi
  have lenV := hi.length
  -- from an abstract heap in which nothing but the script may be tracked
  have core : ∀ H : Hp, Only H → SqL K H a (ns.map V.int) → HOk P w H s₁.heap → (∀ b, H b ≠ none → b = a) → (H a ≠ none → K.lookup a = none) →
      codeAny (model P w) callerA (.call (.ref fa) ⟨[.ref a], []⟩) (fun r s' => r = .ok (.ret (.bool true)) ∧ OldK s₁.heap s'.heap ∧ s'.os = s₁.os ∧ AllBare s'.gens) s₁ := by
    intro H hO hS hok hA hK
    have base_of : ∀ {b : Addr} {o : Obj}, s₁.heap.get? b = some o → H b = none → (hidT s₁.heap H).get? b = some o := fun e n => hidT_get e n
    have noA : ∀ {b : Addr} {o : Obj} {es : Array DictEntry} {ep : Nat}, s₁.heap.get? b = some o → o.data = .dict es ep → H b = none := fun {b o es ep} e d => by
      cases q : H b with
      | none => rfl
      | some u =>
        have e' : b = a := hA b (by rw [q]; simp)
        subst e'
        rw [ha] at e; cases e
        have d' : Data.seq vs.toArray _ = Data.dict es ep := d
        cases d'
    have nsK : ∀ {b : Addr} {m : Str → Option Value}, s₁.heap.Ns b m → (hidT s₁.heap H).Ns b m := fun {b m} ⟨o, es, ep, e, d, r⟩ => ⟨o, es, ep, base_of e (noA e d), d, r⟩
    have hKb : K.In (hidT s₁.heap H) := fun b o e => base_of (KX b o e) (by
      cases q : H b with
      | none => rfl
      | some u =>
        have e' : b = a := hA b (by rw [q]; simp)
        subst e'
        rw [hK (by rw [q]; simp)] at e; cases e)
    have hM : Mod K mg (hidT s₁.heap H) := ⟨hKb, nsK hns, ⟨mb, nsK hb, hbb⟩, (let ⟨mc, h1, h2⟩ := hlim; ⟨mc, nsK h1, h2⟩), let ⟨mm, h1⟩ := hsm; ⟨mm, nsK h1⟩⟩
    have e0 : Env0 P w K mg (hidT s₁.heap H) callerA [] s₁ H := ⟨rfl, hM, fun b o e => of_hidT e, Nat.le_of_eq (hidT_size _ _), trivial, fun b hb => absurd (show b ∈ ([] : List Addr) from hb) (by simp), hok, .of_eq hg⟩
    refine codeAny_mono ((F _ hKb (nsK hns)).run callerA [] s₁ H ⟨[.ref a], []⟩ [.ref a] [.ref a] _ _ hr e0 (hbind s₁ (.ref a)) (.cons rfl .nil) (hsp H hO hS)) fun r s' h => ?_
    cases r with
    | error e => exact (hCX H e s' h).elim
    | ok fl =>
      cases fl with
      | next => exact False.elim h
      | brk => exact False.elim h
      | cont => exact False.elim h
      | ret u =>
        obtain ⟨v, H', os, bare, un, hok', r', q⟩ := h
        have q' : v = .bl true := q
        subst q'
        obtain rfl : u = Value.bool true := r'
        refine ⟨rfl, OldK.of_keep fun b o e => ?_, os, bare⟩
        cases q : H b with
        | none => exact un.keep b o e q (by intro z; exact absurd (show b ∈ ([] : List Addr) from z) (by simp)) (by simp)
        | some u =>
          rcases hO b with z | ⟨ob, xs, z⟩
          · rw [q] at z; cases z
          · have z2 := un.frzs b ob _ z
            obtain ⟨e1, _⟩ := hok b _ z
            obtain ⟨e2, _⟩ := hok' b _ z2
            rw [e] at e1; cases e1
            exact e2
  cases hk : K.lookup a with
  | some o =>
    -- the script is one of the module's own objects
    have e := KX a o hk
    rw [ha] at e
    cases e
    refine core (fun _ => none) (fun _ => .inl rfl) (.inr ⟨_, vs.toArray, _, hk, rfl, rfl, rfl, by rw [List.size_toArray, lenV]; exact hl, by simpa using rv⟩) (fun b u z => by have z' : (none : Option HO) = some u := z; cases z') (fun b z => absurd rfl z) fun z => absurd rfl z
  | none =>
    refine core (fun b => if b = a then some (.frz { cls := .type "list", data := .seq vs.toArray } (.lst (ns.map V.int))) else none) (fun b => ?_) (.inl (.inr ⟨{ cls := .type "list", data := .seq vs.toArray }, if_pos rfl⟩)) (fun b u z => ?_) (fun b z => ?_) fun _ => hk
    · by_cases hb : b = a
      · exact .inr ⟨_, _, if_pos hb⟩
      · exact .inl (if_neg hb)
    · by_cases hb : b = a
      · have z' := (if_pos hb).symm.trans z
        cases z'
        subst hb
        exact ⟨ha, by rw [List.length_map]; exact hl, vs, _, rv, ha⟩
      · have z' := (if_neg hb).symm.trans z
        cases z'
    · by_cases hb : b = a
      · exact hb
      · exact absurd (if_neg hb) z
end L2

namespace L2
open PySem PySem.Spec PyProof.Rows

noncomputable abbrev KOf {K : PySem.W.Frag} {h : Heap} (_ : K.In h) : PySem.W.Frag := K

theorem walk_of {l : PySem.W.OpenLaw} {n k : Nat} {q : Program} {loose : List Str} {XP : (Str → Option Value) → Heap → Prop} {YP : World → Heap → Prop} {d : DefRec} {K : Params → PySem.W.Frag} {CX : World → CXT} {sp : World → Sp} {x : Str}
    (hn : l.most = some n) (hn2 : n ≤ sizeLine) (hdf : d.params.defaults = []) (hr : Room k callerA)
    (hY : ∀ (w : World) (h : Heap), YP w h → (K w.params).In h)
    (F : ∀ (w : World) (mg : Str → Option Value) (fa : Addr) (h : Heap), (K w.params).In h → h.Ns mainGlobals mg → mg d.name = some (.ref fa) →
      ∃ fd : FuncData, (∀ (s : Shared) (u : Value), BindsTo s fd ⟨[u], []⟩ [(x, u)]) ∧
        ∀ base : Heap, (K w.params).In base → base.Ns mainGlobals mg → FnOk l.prog w (K w.params) mg base (CX w) k fa fd [x] (sp w))
    (hsp : ∀ (w : World) (H : Hp) (a : Addr) (ns : List Int), ns.length ≤ n → Only H → SqL (K w.params) H a (ns.map V.int) → sp w [.ref a] H (fun v _ => v = .bl true) fun _ _ _ => False)
    (hCX : ∀ (w : World) (H : Hp) (s : Shared) (e : Value) (s' : Shared), CX w [] H s (fun _ _ _ => False) e s' → False) (him : importsNone q = true) :
    PySem.W.WalkO q loose XP YP l.row.toRowW d [] (fun f vs => PySem.call f vs) := by
  refine Att.attach_call hn hdf fun w s₀ s₁ mg mb fa o pm cd doc a vs ns G Y ho hd hcd hmg hobj hints hlen hg => ?_
  have KX := hY w _ Y
  obtain ⟨fd, hb, hF⟩ := F w mg fa _ KX G.T.g hmg
  exact law_call KX G.T.g G.T.b G.T.builtins G.T.nolimit (let ⟨mm, h1, _⟩ := (G.T.seer him).mods; ⟨mm, h1⟩) hg hobj hints (Nat.le_trans hlen hn2) hr hF hb (fun H hO hS => hsp w H a ns hlen hO hS) fun H e s' => hCX w H s₁ e s'
end L2


namespace L2
open PySem PySem.Spec PyProof.Rows

noncomputable def defArgs (s : Stmt) : Arguments := match s with
  | .FunctionDef _ a _ _ _ _ _ _ _ _ => a
  | _ => { posonlyargs := [], args := [], vararg := none, kwonlyargs := [], kw_defaults := [], kwarg := none, defaults := [] }
noncomputable def defBody (s : Stmt) : List Stmt := match s with
  | .FunctionDef _ _ b _ _ _ _ _ _ _ => b
  | _ => []
noncomputable def defScope (s : Stmt) : Scope := match s with
  | .FunctionDef _ _ _ _ _ _ sc _ _ _ => sc
  | _ => { kind := .function, names := [], isGenerator := false, isCoroutine := false }

noncomputable abbrev CX0 : CXT := fun _ _ _ _ _ _ => False
noncomputable abbrev E0 : XK := fun _ _ _ => False
theorem pass0 {X : Cx} : Passes CX0 X E0 := fun _ _ _ _ _ _ _ h => h.elim

structure Fun (K : PySem.W.Frag) (x qual : Str) (st : Stmt) (f : Addr) (fd : FuncData) : Prop where
  ex : ∃ (oc : Value) (od : Option Addr) (kV doc pm : Value) (an : Option Addr) (cdv ct : Value) (osl : Array (Option Value)),
    fd = PySem.W.fnOf x qual (defArgs st) (defBody st) (defScope st) .none kV doc pm an cdv ct ∧ K.lookup f = some ⟨oc, od, .func fd, osl⟩ ∧ PySem.W.codeIn K cdv qual = true
  kp : PySem.W.keepIn K (.ref f) = true
section
variable {P : Program} {w : World} {K : PySem.W.Frag} {mg : Str → Option Value} {base : Heap}
theorem Fun.ok {x qual : Str} {st : Stmt} {f : Addr} {fd : FuncData} {N ps : List Str} {k : Nat} {sp : Sp} (F : Fun K x qual st f fd) (S : FnScope N ps (defScope st)) (len : ∀ vs H Q E, sp vs H Q E → vs.length = ps.length)
    (hbody : ∀ (cdv : Value) (A : Around) (outer : List Env) (s : Shared) (H : Hp) (vs : List V) (Q : VK) (E : XK), Room k (A.deeper (envOfC qual (defScope st) s.heap.objs.size f cdv)) → sp vs H Q E →
      ∃ t, PSs (cxOf CX0 P w K mg base N qual (defScope st) f cdv A outer s H E).nox (defBody st) t ∧ t { nx := fun _ H' => Q .non H', rt := Q } (start N vs) H) : FnOk P w K mg base CX0 (k + 1) f fd ps sp := by
  obtain ⟨oc, od, kV, doc, pm, an, cdv, ct, osl, rfl, lk, hcd⟩ := F.ex
  refine fn_of lk hcd S len fun A outer s H vs Q E hr hsp => ?_
  obtain ⟨t, h, q⟩ := hbody cdv A outer s H vs Q E hr hsp
  exact ⟨t, h.nox, q⟩
theorem Fun.binds {x qual : Str} {st : Stmt} {f : Addr} {fd : FuncData} {ps : List Str} (F : Fun K x qual st f fd)
    (h : ∀ (kV doc pm : Value) (an : Option Addr) (cdv ct : Value) (us : List Value), us.length = ps.length → bindArgs (PySem.W.fnOf x qual (defArgs st) (defBody st) (defScope st) .none kV doc pm an cdv ct) ⟨us, []⟩ = pure (ps.zip us)) : Binds K fd ps [] := by
  obtain ⟨oc, od, kV, doc, pm, an, cdv, ct, osl, rfl, lk, hcd⟩ := F.ex
  exact .all (h kV doc pm an cdv ct)
theorem fun_mk {x qual : Str} {st : Stmt} {f : Addr} {oc : Value} {od an : Option Addr} {osl : Array (Option Value)} {kV doc pm cdv ct : Value} (l : K.lookup f = some ⟨oc, od, .func (PySem.W.fnOf x qual (defArgs st) (defBody st) (defScope st) .none kV doc pm an cdv ct), osl⟩)
    (c : PySem.W.codeIn K cdv qual = true) (k : PySem.W.keepIn K (.ref f) = true) : Fun K x qual st f (PySem.W.fnOf x qual (defArgs st) (defBody st) (defScope st) .none kV doc pm an cdv ct) := ⟨⟨oc, od, kV, doc, pm, an, cdv, ct, osl, rfl, l, c⟩, k⟩
end
section
variable {X : Cx}
end

theorem iteF {A B : Prop} (h : B) : if false = true then A else B := by
  rw [if_neg Bool.false_ne_true]
  exact h
theorem iteT {A B : Prop} (h : A) : if true = true then A else B := by
  rw [if_pos rfl]
  exact h
noncomputable def Same (H H' : Hp) : Prop := ∀ b o, H b = some o → H' b = some o
theorem Same.refl (H : Hp) : Same H H := fun _ _ h => h
theorem Same.trans {H H1 H2 : Hp} (a : Same H H1) (b : Same H1 H2) : Same H H2 := fun c o h => b c o (a c o h)
theorem Same.free {H H' : Hp} (e : Same H H') {l : Addr} (h : H' l = Option.none) : H l = Option.none := by
  cases q : H l with
  | none => rfl
  | some o =>
    rw [e l o q] at h
    cases h
theorem Same.seq {K : PySem.W.Frag} {H H' : Hp} {a : Addr} {xs : List V} (e : Same H H') (h : SqL K H a xs) : SqL K H' a xs := by
  rcases h with (h | ⟨o, h⟩) | h
  · exact .inl (.inl (e _ _ h))
  · exact .inl (.inr ⟨o, e _ _ h⟩)
  · exact .inr h

end L2

set_option maxHeartbeats 4000000
namespace L2
open PySem PySem.Spec PyProof.Rows

noncomputable def clOf (env : Env) : List (Str × NameKind) → List (Str × Addr) → List (Str × Addr)
  | [], acc => acc
  | (n, k) :: r, acc => clOf env r (if k == .free then (match env.cells.lookup n with | some c => (n, c) :: acc | none => acc) else acc)
theorem clOf_mem {env : Env} : ∀ {names : List (Str × NameKind)} {acc : List (Str × Addr)}, (∀ x c, (x, c) ∈ acc → env.cells.lookup x = some c) → ∀ x c, (x, c) ∈ clOf env names acc → env.cells.lookup x = some c
  | [], _, h, x, c, m => h x c m
  | (n, k) :: r, acc, h, x, c, m => by
    refine clOf_mem (names := r) ?_ x c m
    intro y d hm
    cases hk : (k == NameKind.free) with
    | false => rw [hk] at hm; exact h y d hm
    | true =>
      rw [hk] at hm
      simp only [if_true] at hm
      cases e : env.cells.lookup n with
      | none => rw [e] at hm; exact h y d hm
      | some c' =>
        rw [e] at hm
        rcases List.mem_cons.mp hm with z | z
        · cases z; exact e
        · exact h y d z
theorem clOf_sub {env : Env} : ∀ {names : List (Str × NameKind)} {acc : List (Str × Addr)} {p : Str × Addr}, p ∈ acc → p ∈ clOf env names acc
  | [], _, _, h => h
  | (n, k) :: r, acc, p, h => by
    refine clOf_sub (names := r) ?_
    split
    · split
      · exact List.mem_cons_of_mem _ h
      · exact h
    · exact h
theorem clOf_has {env : Env} {x : Str} {c : Addr} (e : env.cells.lookup x = some c) : ∀ {names : List (Str × NameKind)} {acc : List (Str × Addr)}, (x, NameKind.free) ∈ names → (x, c) ∈ clOf env names acc
  | [], _, h => by simp at h
  | (n, k) :: r, acc, h => by
    rcases List.mem_cons.mp h with z | z
    · cases z
      refine clOf_sub (names := r) ?_
      rw [e]
      simp
    · exact clOf_has e (names := r) z
theorem lookup_of_all {l : List (Str × Addr)} {x : Str} {c : Addr} (hm : (x, c) ∈ l) (ha : ∀ d, (x, d) ∈ l → d = c) : l.lookup x = some c := by
  induction l with
  | nil => simp at hm
  | cons p r ih =>
    obtain ⟨n, d⟩ := p
    by_cases e : x = n
    · subst e
      have : d = c := ha d (by simp)
      subst this
      simp [List.lookup_cons]
    · have hb : (x == n) = false := by simpa using e
      rw [List.lookup_cons, hb]
      refine ih ?_ fun d' h' => ha d' (List.mem_cons_of_mem _ h')
      rcases List.mem_cons.mp hm with z | z
      · cases z; exact absurd rfl e
      · exact z
theorem clOf_lookup {env : Env} {names : List (Str × NameKind)} {x : Str} {c : Addr} (e : env.cells.lookup x = some c) (h : (x, NameKind.free) ∈ names) : (clOf env names []).lookup x = some c :=
  lookup_of_all (clOf_has e h) fun d hd => by
    have q := clOf_mem (names := names) (acc := []) (env := env) (by simp) x d hd
    rw [e] at q
    exact (Option.some.inj q).symm
theorem clOf_some {env : Env} {names : List (Str × NameKind)} {x : Str} {c : Addr} (e : (clOf env names []).lookup x = some c) : env.cells.lookup x = some c :=
  clOf_mem (names := names) (acc := []) (env := env) (by simp) x c (PySem.mem_of_lookup e)

theorem closure_eq {env : Env} : ∀ (names : List (Str × NameKind)) (acc : List (Str × Addr)), (∀ x ∈ names, x.2 = NameKind.free → ∃ c, env.cells.lookup x.1 = some c) →
    (forIn (m := Sem) names acc fun x r => match x with
      | (name, kind) => if (kind == NameKind.free) = true then do let c ← cellOf env name; pure (ForInStep.yield ((name, c) :: r)) else pure (ForInStep.yield r)) = pure (clOf env names acc)
  | [], acc, _ => rfl
  | (n, k) :: r, acc, h => by
    rw [List.forIn_cons]
    cases hk : (k == NameKind.free) with
    | false =>
      simp only [hk, Bool.false_eq_true, if_false, pure_bind, clOf]
      exact closure_eq r acc fun x hx => h x (List.mem_cons_of_mem _ hx)
    | true =>
      obtain ⟨c, e⟩ := h (n, k) List.mem_cons_self (by simpa using hk)
      simp only [hk, if_true, pure_bind, clOf, cellOf, e]
      exact closure_eq r ((n, c) :: acc) fun x hx => h x (List.mem_cons_of_mem _ hx)
theorem closureFor_cl {scope : Scope} {env : Env} (h : ∀ x ∈ scope.names, x.2 = NameKind.free → ∃ c, env.cells.lookup x.1 = some c) : closureFor scope env = pure (clOf env scope.names []) := by
  unfold closureFor
  have := closure_eq (env := env) scope.names [] h
  simp only [this, pure_bind]

theorem comp_loop {prog : Program} {w : World} {A : Around} {R : Result → Shared → Prop} {s : Shared} {elt target iter : Expr} {ifs : List Expr} {scope : Scope} {pos : Pos} {it acc : Value} {env : Env} (I : Nat → Shared → Prop)
    (turn : ∀ n s, I n s → wpAny (model prog w) A (pyNext it) (fun r s₁ => match r with
      | none => R (.ok .next) s₁
      | some v => wpAny (model prog w) A (letOwnedTupleGo target it v) (fun _ s₁' => wpAny (model prog w) A (assign target env v) (fun _ s₂ =>
          wpAny (model prog w) A (forIn ifs true fun c r => if r = true then do let ok ← isTrue c env (eval c env); pure (ForInStep.yield ok) else pure (ForInStep.yield r)) (fun ok s₃ =>
            if ok = true then wpAny (model prog w) A (eval elt env) (fun x s₄ =>
              wpAny (model prog w) A (call (.builtin "list.append") [acc, x]) (fun _ s₅ => ∃ m, m < n ∧ I m s₅) (fun _ _ => False) s₄) (fun _ _ => False) s₃
            else ∃ m, m < n ∧ I m s₃) (fun _ _ => False) s₂) (fun _ _ => False) s₁') (fun _ _ => False) s₁) (fun _ _ => False) s)
    (n : Nat) (h : I n s) :
    codeAny (model prog w) A (.compLoop (.ListComp elt [⟨target, iter, ifs, 0⟩] scope pos) 0 it acc env) R s := by
  refine codeAny_loop rfl I (fun n s hI => ?_) n h
  show wpAny _ A ((compTurn (.ListComp elt [⟨target, iter, ifs, 0⟩] scope pos) 0 it acc env).onRaise (fun x => do noteFrame x env; theTreesLotGoes x)) _ _ s
  refine wpAny_noted ?_
  rw [compTurn_list]
  refine wpAny_bind (wpAny_standAt (wpAny_bind (wpAny_mono (turn n s hI) (fun r s₁ h₁ => ?_) fun _ _ h' => h'.elim)))
  cases r with
  | none => exact wpAny_pure h₁
  | some v =>
    refine wpAny_bind (wpAny_mono h₁ (fun _ s₁' h₁' => ?_) fun _ _ h' => h'.elim)
    refine wpAny_bind (wpAny_mono h₁' (fun _ s₂ h₂ => wpAny_bind (wpAny_mono h₂ (fun ok s₃ h₃ => ?_) fun _ _ h' => h'.elim)) fun _ _ h' => h'.elim)
    cases ok with
    | false => exact wpAny_pure ⟨rfl, h₃⟩
    | true =>
      exact wpAny_bind (wpAny_bind (wpAny_mono h₃ (fun x s₄ h₄ => wpAny_bind (wpAny_mono h₄ (fun _ s₅ h₅ => wpAny_pure (wpAny_pure ⟨rfl, h₅⟩)) fun _ _ h' => h'.elim)) fun _ _ h' => h'.elim))
end L2

namespace L2
open PySem PySem.Spec PyProof.Rows

noncomputable def cxC (X : Cx) (N' : List Str) (scope : Scope) (C : Addr) (s₀ : Shared) (H₀ : Hp) (ex : List Addr) : Cx :=
  { X with N := N', s₀ := s₀, H₀ := H₀, env := compEnvC scope (clOf X.env scope.names []) C X.env, outer := X.stack, ex := ex, fn := fun _ => false, pn := [], xe := fun _ _ => False }
noncomputable def subSt (sub : List (Option Nat)) (σ : St) : St := sub.map fun o => o.bind fun j => (σ[j]?).join
structure SubOk (N : List Str) (sc : Scope) (N' : List Str) (scope : Scope) (sub : List (Option Nat)) : Prop where
  kind : scope.kind = .function
  nocell : ∀ x ∈ scope.names, x.2 ≠ .cell
  loc : ∀ x ∈ scope.names, x.2 = .local → scope.names.lookup x.1 = some .local
  free : ∀ x ∈ scope.names, x.2 = .free → sc.names.lookup x.1 = some .cell ∨ sc.names.lookup x.1 = some .free
  len : sub.length = N'.length
  at_ : ∀ (i j : Nat) (x : Str), sub[i]? = some (some j) → N'[i]? = some x → N[j]? = some x ∧ (x, NameKind.free) ∈ scope.names ∧ scope.names.lookup x = some .free
noncomputable def subOkB (N : List Str) (sc : Scope) (N' : List Str) (scope : Scope) (sub : List (Option Nat)) : Bool :=
  decide (scope.kind = .function) && scope.names.all (fun x => decide (x.2 ≠ .cell)) && scope.names.all (fun x => decide (x.2 = .local → scope.names.lookup x.1 = some .local)) &&
  scope.names.all (fun x => decide (x.2 = .free → sc.names.lookup x.1 = some .cell ∨ sc.names.lookup x.1 = some .free)) && decide (sub.length = N'.length) &&
  (List.range sub.length).all fun i => match sub[i]?, N'[i]? with
    | some (some j), some x => decide (N[j]? = some x ∧ (x, NameKind.free) ∈ scope.names ∧ scope.names.lookup x = some .free)
    | _, _ => true
theorem subOk_of {N : List Str} {sc : Scope} {N' : List Str} {scope : Scope} {sub : List (Option Nat)} (h : subOkB N sc N' scope sub = true) : SubOk N sc N' scope sub := by
  simp only [subOkB, Bool.and_eq_true, decide_eq_true_eq, List.all_eq_true] at h
  obtain ⟨⟨⟨⟨⟨h1, h2⟩, h3⟩, h4⟩, h5⟩, h6⟩ := h
  refine ⟨h1, h2, h3, h4, h5, fun i j x e1 e2 => ?_⟩
  have hi : i < sub.length := (List.getElem?_eq_some_iff.mp e1).1
  have q := h6 i (List.mem_range.mpr hi)
  rw [e1, e2] at q
  simpa using q

noncomputable def tTrue : TT := fun _ H Q => Q true H
noncomputable def PIfs (X : Cx) (ifs : List Expr) (t : TT) : Prop :=
  ∀ (pins : List (Addr × Obj)) (s : Shared) (σ : St) (H : Hp) (Q : Bool → Hp → Prop), Inv X pins σ H s → t σ H Q →
    wpAny (model X.prog X.w) X.A (forIn ifs true fun c r => if r = true then do let ok ← isTrue c X.env (eval c X.env); pure (ForInStep.yield ok) else pure (ForInStep.yield r)) (TP X pins σ Q) X.xe s
theorem pifs_nil {X : Cx} : PIfs X [] tTrue := fun _ _ _ H _ I h => wpAny_tests_nil ⟨H, I, h⟩
noncomputable def KeepSt (σ σ' : St) : Prop := σ'.length = σ.length ∧ ∀ (i : Nat) (v : V), σ[i]? = some (some v) → σ'[i]? = some (some v)
theorem KeepSt.set {σ : St} {i : Nat} {v : V} (h : σ[i]? = some none) : KeepSt σ (σ.set i (some v)) := by
  refine ⟨by simp, fun j u e => ?_⟩
  by_cases hj : i = j
  · subst hj; rw [h] at e; cases e
  · rw [List.getElem?_set_ne hj]; exact e
noncomputable def tComp (sub : List (Option Nat)) (wi : TI) (g : TG) (tt : TT) (te : TE) : TE := fun σ H Q => wi σ H fun J H1 => ∃ W : Nat → Nat → List V → Hp → Prop, (∃ m, W 0 m [] H1) ∧ ∀ i m ys H, W i m ys H →
  (J.stop i H ∧ ys.length ≤ sizeLine ∧ ∀ D, H D = none → Q (.ref D) (upd H D (.lst ys))) ∨
  (J.go i H ∧ ys.length < sizeLine ∧ ∃ N : List V → Hp → Prop, (∀ ys' H', N ys' H' → ∃ m', m' < m ∧ W (i + 1) m' ys' H') ∧
    ∀ x H', J.yld i H x H' → g x (subSt sub σ) H' fun σ2 H2 => KeepSt (subSt sub σ) σ2 ∧ tt σ2 H2 fun b H3 => if b = true then te σ2 H3 fun y H4 => N (ys ++ [y]) H4 else N ys H3)

theorem relabel_free {scope : Scope} {env : Env} {x : Str} (hx : scope.names.lookup x = some .free) : (relabel scope env).names.lookup x = some .cell ∨ (relabel scope env).names.lookup x = some .free := by
  have : ∀ names : List (Str × NameKind), names.lookup x = some .free →
    (names.map fun (n, k) => if (k == NameKind.free && env.scope.kind == .function && env.kindOf n == some .cell) then (n, NameKind.cell) else (n, k)).lookup x = some .cell ∨
    (names.map fun (n, k) => if (k == NameKind.free && env.scope.kind == .function && env.kindOf n == some .cell) then (n, NameKind.cell) else (n, k)).lookup x = some .free := by
    intro names
    induction names with
    | nil => intro h; simp at h
    | cons p r ih =>
      obtain ⟨n, k⟩ := p
      intro h
      by_cases e : x = n
      · subst e
        have hk : k = .free := by simpa [List.lookup_cons] using h
        subst hk
        by_cases hc : ((NameKind.free == NameKind.free && env.scope.kind == .function && env.kindOf x == some .cell) = true)
        · left; simp only [List.map_cons]; rw [if_pos hc]; simp [List.lookup_cons]
        · right; simp only [List.map_cons]; rw [if_neg hc]; simp [List.lookup_cons]
      · have hb : (x == n) = false := by simpa using e
        rw [List.lookup_cons, hb] at h
        have q := ih h
        simp only [List.map_cons]
        split <;> (rw [List.lookup_cons, hb]; exact q)
  exact this scope.names hx
theorem relabel_back {scope : Scope} {env : Env} {x : Str} (hn : ∀ y ∈ scope.names, y.2 ≠ .cell) (h : (relabel scope env).names.lookup x = some .cell ∨ (relabel scope env).names.lookup x = some .free) : (x, NameKind.free) ∈ scope.names := by
  have key : ∀ k, (k = NameKind.cell ∨ k = NameKind.free) → (relabel scope env).names.lookup x = some k → (x, NameKind.free) ∈ scope.names := by
    intro k hk hl
    have hm := PySem.mem_of_lookup hl
    unfold relabel at hm
    obtain ⟨⟨n, k'⟩, hm1, hm2⟩ := List.mem_map.mp hm
    dsimp only at hm2
    by_cases hc : (k' == NameKind.free && env.scope.kind == .function && env.kindOf n == some .cell) = true
    · rw [if_pos hc] at hm2
      cases hm2
      simp only [Bool.and_eq_true, beq_iff_eq] at hc
      rw [← hc.1.1]; exact hm1
    · rw [if_neg hc] at hm2
      cases hm2
      rcases hk with hk | hk
      · subst hk; exact absurd rfl (hn _ hm1)
      · subst hk; exact hm1
  rcases h with h | h
  · exact key _ (.inl rfl) h
  · exact key _ (.inr rfl) h

section
variable {X : Cx} {tg iter elt : Expr} {ifs : List Expr} {scope : Scope} {pos : Pos} {N' : List Str} {sub : List (Option Nat)} {wi : TI} {g : TG} {tt : TT} {te : TE}

theorem inv_block {pins : List (Addr × Obj)} {σ : St} {H : Hp} {s : Shared} {fp : List Addr} {D : Addr} {h' : Heap} {tk : Nat} {N : List Str} {sc : Scope} (S : SubOk N sc N' scope sub) (hN : X.N = N) (hsc : X.env.scope = sc) (I : Inv X pins σ H s) (hf : ∀ b ∈ fp, FpOk X pins H b) (hfo : ∀ b ∈ fp, b < s.heap.objs.size)
    (hD : D < s.heap.objs.size) (fD : FpOk X pins H D) (hns : h'.Ns s.heap.objs.size fun _ => none) (hk : ∀ b o, s.heap.get? b = some o → h'.get? b = some o) :
    Inv (cxC X N' scope s.heap.objs.size s H (D :: fp)) [] (subSt sub σ) H { s with heap := h', toks := tk } := by
  have hex : ∀ b ∈ D :: fp, FpOk X pins H b ∧ b < s.heap.objs.size := fun b hb => by
    rcases List.mem_cons.mp hb with rfl | z
    · exact ⟨fD, hD⟩
    · exact ⟨hf b z, hfo b z⟩
  refine ⟨⟨I.ok.mod, S.kind, I.ok.glob, I.ok.blt, Nat.le_refl _, fun x y c h1 h2 => I.ok.inj x y c (clOf_some h1) (clOf_some h2), fun x hx => ?_, fun x c hx _ => (nomatch hx), I.ok.hd, I.ok.frames, .inl rfl, fun b hb => ?_, I.bs, Nat.le_trans I.ok.bsz I.sz, fun b o e hb => ?_, fun b hb => ?_, I.stack, I.stkFree⟩,
    rfl, I.bare, Un.kept hk, ⟨_, hns, fun i x v h1 h2 h3 => ?_⟩, fun x c h => ?_, I.hok.fresh (Nat.le_refl _), fun x c h => I.freeC x c (clOf_some h), fun p hp => (nomatch hp), I.hok.kept hk, ?_⟩
  · have hx' : (x, NameKind.free) ∈ scope.names := relabel_back S.nocell hx
    obtain ⟨c, e⟩ := I.ok.has x (by have := S.free _ hx' rfl; rw [← hsc] at this; exact this)
    exact ⟨c, clOf_lookup e hx'⟩
  · obtain ⟨⟨f0, f1, f2, f3, f4, f5⟩, hlt⟩ := hex b hb
    exact ⟨Nat.ne_of_lt hlt, fun x c h => f4 x c (clOf_some h)⟩
  · obtain ⟨⟨f0, f1, f2, f3, f4, f5⟩, hlt⟩ := hex b hb
    rcases f3 with z | z
    · exact I.ok.noex b o e z
    · exact absurd (Nat.lt_of_lt_of_le (Heap.lt_size (I.ok.bs b o e).1) z) (Nat.lt_irrefl _)
  · obtain ⟨⟨f0, f1, f2, f3, f4, f5⟩, hlt⟩ := hex b hb
    intro z
    rcases List.mem_cons.mp (I.stkSub b z) with z | z
    · exact f1 z
    · exact f2 z
  · have hs : ∃ j, sub[i]? = some (some j) ∧ σ[j]? = some (some v) := by
      unfold subSt at h2
      rw [List.getElem?_map] at h2
      cases e : sub[i]? with
      | none => rw [e] at h2; cases h2
      | some o =>
        rw [e] at h2
        cases o with
        | none => cases h2
        | some j =>
          refine ⟨j, rfl, ?_⟩
          have h3 : (σ[j]?).join = some v := Option.some.inj h2
          cases e2 : σ[j]? with
          | none => rw [e2] at h3; cases h3
          | some z => rw [e2] at h3; cases z with
            | none => cases h3
            | some z => cases h3; rfl
    obtain ⟨j, e1, e2⟩ := hs
    obtain ⟨g1, g2, g3⟩ := S.at_ i j x e1 h1
    rw [← hN] at g1
    obtain ⟨m, hn, hl⟩ := I.loc
    have hkf : X.env.kindOf x = some .cell ∨ X.env.kindOf x = some .free := by have := S.free _ g2 rfl; rw [← hsc] at this; exact this
    have hvis : Vis X.env.scope x := by
      rcases hkf with z | z
      · exact .inr (.inl z)
      · exact .inr (.inr z)
    obtain ⟨u, r, l⟩ := hl j x v g1 e2 hvis
    refine ⟨u, r, .inr ⟨relabel_free g3, ?_⟩⟩
    rcases l with ⟨k, _⟩ | ⟨_, c, e, o, ho, hd⟩
    · have k' : X.env.kindOf x = some .local := k
      rcases hkf with z | z <;> (rw [k'] at z; cases z)
    · exact ⟨c, clOf_lookup e g2, o, hk _ _ ho, hd⟩
  · obtain ⟨v, o, ho, hd⟩ := I.cell x c (clOf_some h)
    exact ⟨v, o, hk _ _ ho, hd⟩
  · show (subSt sub σ).length = N'.length
    unfold subSt
    rw [List.length_map]
    exact S.len

theorem pe_comp {N : List Str} {sc : Scope} (S : SubOk N sc N' scope sub) (hc : X.calm = true) (hN : X.N = N) (hsc : X.env.scope = sc) (hi : PI X tg iter wi)
    (hg : ∀ (C : Addr) (s₀ : Shared) (H₀ : Hp) (ex : List Addr), PG (cxC X N' scope C s₀ H₀ ex) tg g)
    (ht : ∀ (C : Addr) (s₀ : Shared) (H₀ : Hp) (ex : List Addr), PIfs (cxC X N' scope C s₀ H₀ ex) ifs tt)
    (he : ∀ (C : Addr) (s₀ : Shared) (H₀ : Hp) (ex : List Addr), PE (cxC X N' scope C s₀ H₀ ex) elt te)
    (hs : autoParam (∀ x, foldedSetIterable iter X.env x = pure x) L2.auto3._auto_1) :
    PE X (.ListComp elt [⟨tg, iter, ifs, 0⟩] scope pos) (tComp sub wi g tt te) := by
  intro pins s σ H Q I h
  rw [eval_ListComp]
  have hcl : ∀ x ∈ scope.names, x.2 = NameKind.free → ∃ c, X.env.cells.lookup x.1 = some c := fun x hx hk => I.ok.has x.1 (by have := S.free x hx hk; rw [← hsc] at this; exact this)
  refine wpAny_comprehension_free (use := none) rfl hs (closureFor_cl hcl) S.kind S.loc ?_
  refine thn (hi pins s σ H _ I h) fun v s1 h1 => thn h1 fun itv s2 h2 => ?_
  obtain ⟨it, fp, tn, J, H2, e, I2, T, st2, f2, W, ⟨m0, w0⟩, turn⟩ := h2
  subst e
  refine wpAny_newObj_type (wpAny_newFunctionEnv S.nocell (by intro y hy; simp at hy) (fun h₁ hns₁ hsb₁ => ?_) S.kind)
  dsimp only at hns₁ hsb₁ ⊢
  generalize hs3 : ({ s2 with heap := s2.heap.push { cls := .type "list", dict := none, data := .seq ([] : List Value).toArray } } : Shared) = s3
  have e3 : s2.heap.push { cls := .type "list", dict := none, data := .seq ([] : List Value).toArray } = s3.heap := by rw [← hs3]
  rw [e3] at hns₁ hsb₁ ⊢
  have hD3 : s3.heap.get? s2.heap.objs.size = some { cls := .type "list", dict := none, data := .seq ([] : List Value).toArray } := by rw [← e3]; exact Heap.get?_push_size _ rfl
  have I3 : Inv X pins σ H2 s3 := by
    rw [← hs3]
    exact I2.kept (t' := s2.toks) fun b o e => Heap.get?_push_of_some _ e
  have k23 : ∀ b o, s2.heap.get? b = some o → s3.heap.get? b = some o := fun b o e => by rw [← e3]; exact Heap.get?_push_of_some _ e
  have hsz : s3.heap.objs.size = s2.heap.objs.size + 1 := by rw [← e3, Heap.size_push]
  have hk31 : ∀ b o, s3.heap.get? b = some o → h₁.get? b = some o := fun b o e => hsb₁.extBut b o (Nat.ne_of_lt (Heap.lt_size e)) (Heap.get?_push_of_some _ e)
  have hDn : H2 s2.heap.objs.size = none := I2.hok.fresh (Nat.le_refl _)
  have fD : FpOk X pins H2 s2.heap.objs.size := I2.fpOk (Nat.le_refl _) hDn
  have hfo : ∀ b ∈ fp, b < s2.heap.objs.size := fun b hb => let ⟨o, e, _⟩ := T.obj _ _ st2 b hb; Heap.lt_size e
  have hDfp : s2.heap.objs.size ∉ fp := fun z => absurd (hfo _ z) (Nat.lt_irrefl _)
  have I4 := inv_block (tk := s3.toks + ([] : List (Str × Value)).length) S hN hsc I3 f2 (fun b hb => by rw [hsz]; exact Nat.lt_succ_of_lt (hfo b hb)) (D := s2.heap.objs.size) (by rw [hsz]; exact Nat.lt_succ_self _) fD hns₁ hk31
  -- facts of the block
  have stat : ∀ {H' : Hp} {ob : Obj}, (∀ b ∈ fp, H' b = none) → ∀ b ∈ fp, FpOk (cxC X N' scope s3.heap.objs.size s3 H2 (s2.heap.objs.size :: fp)) [(s2.heap.objs.size, ob)] H' b := fun {H' ob} hn b hb => by
    obtain ⟨q1, q2⟩ := I4.ok.exf b (List.mem_cons_of_mem _ hb)
    refine ⟨hn b hb, q1, I4.ok.exfs b (List.mem_cons_of_mem _ hb), .inl (List.mem_cons_of_mem _ hb), q2, fun p hp z => ?_⟩
    have hp' : p = (s2.heap.objs.size, ob) := by simpa [cxC] using hp
    subst hp'
    have z' : s2.heap.objs.size = b := z
    exact hDfp (by rw [z']; exact hb)
  generalize hXC : cxC X N' scope s3.heap.objs.size s3 H2 (s2.heap.objs.size :: fp) = XC at I4 stat
  have eP : XC.prog = X.prog := by rw [← hXC]; rfl
  have eW : XC.w = X.w := by rw [← hXC]; rfl
  have eK : XC.K = X.K := by rw [← hXC]; rfl
  have eA : XC.A = X.A := by rw [← hXC]; rfl
  have eE : XC.env = compEnvC scope (clOf X.env scope.names []) s3.heap.objs.size X.env := by rw [← hXC]; rfl
  have eC : XC.calm = true := by rw [← hXC]; exact hc
  have eX : XC.xe = fun _ _ => False := by rw [← hXC]; rfl
  have eH : XC.H₀ = H2 := by rw [← hXC]; rfl
  have eS : XC.s₀ = s3 := by rw [← hXC]; rfl
  have eF : XC.fs = frs X.stack := by rw [← hXC]; rfl
  have eEx : XC.ex = s2.heap.objs.size :: fp := by rw [← hXC]; rfl
  have ePn : XC.pn = [] := by rw [← hXC]; rfl
  have hgC : PG XC tg g := by rw [← hXC]; exact hg _ _ _ _
  have htC : PIfs XC ifs tt := by rw [← hXC]; exact ht _ _ _ _
  have heC : PE XC elt te := by rw [← hXC]; exact he _ _ _ _
  have pinD : ∀ {σ' : St} {H' : Hp} {s' : Shared} {ob : Obj}, Inv XC [] σ' H' s' → H' s2.heap.objs.size = none → s'.heap.get? s2.heap.objs.size = some ob → (∀ v, ob.data ≠ .cell v) → Inv XC [(s2.heap.objs.size, ob)] σ' H' s' := fun {σ' H' s' ob} J hn hg hd =>
    J.pins_of fun p hp => by
      have hp' : p = (s2.heap.objs.size, ob) := by simpa using hp
      subst hp'
      refine ⟨hg, hn, (J.ok.exf _ (by rw [eEx]; exact List.mem_cons_self)).1, J.ok.exfs _ (by rw [eEx]; exact List.mem_cons_self), hd⟩
  have loop : codeAny (model X.prog X.w) X.A (.compLoop (.ListComp elt [⟨tg, iter, ifs, 0⟩] scope pos) 0 (.ref it) (.ref s2.heap.objs.size) (compEnvC scope (clOf X.env scope.names []) s3.heap.objs.size X.env))
      (compPost (model X.prog X.w) X.A X.xe none (EP X pins σ Q) (.ref s2.heap.objs.size) s3.heap.objs.size) { s3 with heap := h₁, toks := s3.toks + ([] : List (Str × Value)).length } := by
    refine comp_loop (fun n s' => ∃ (i : Nat) (ys : List V) (its : List Value) (nn : Nat) (H' : Hp), Inv XC [] (subSt sub σ) H' s' ∧ tn i s'.heap ∧ (∀ b ∈ fp, H' b = none) ∧ H' s2.heap.objs.size = none ∧
      s'.heap.get? s2.heap.objs.size = some { cls := .type "list", data := .seq its.toArray nn } ∧ Vals ys its ∧ W i n ys H') ?_ m0
      ⟨0, [], [], _, H2, I4, T.keep _ _ _ st2 fun b _ o e => hk31 b o (k23 b o e), fun b hb => (f2 b hb).1, hDn, hk31 _ _ hD3, .nil, w0⟩
    rintro n s4 ⟨i, ys, its, nn, H4, J4, st4, fr4, dn4, dg4, rv4, w4⟩
    have P4 := pinD J4 dn4 dg4 (fun v z => by cases z)
    rcases turn i n ys H4 w4 with ⟨stop, hyl, qn⟩ | ⟨go, hyl, N, hN, step⟩
    · have hdone := T.done XC eP eW eK eC i _ s4 _ H4 (fun _ _ => False) P4 (stat fr4) st4 stop
      rw [eA] at hdone
      refine wpAny_mono hdone (fun r s5 ⟨hr, I5⟩ => ?_) fun _ _ z => z
      subst hr
      -- the end
      obtain ⟨m, hn, _⟩ := id I5.loc
      have hCe : XC.env.locals = s3.heap.objs.size := by rw [eE]; rfl
      rw [hCe] at hn
      refine ⟨m, hn, fun h6 hs6 => ?_⟩
      have hDg := (I5.pin (s2.heap.objs.size, _) (by rw [ePn]; exact List.mem_cons_self)).1
      have hDne : s2.heap.objs.size ≠ s3.heap.objs.size := by rw [hsz]; exact Nat.ne_of_lt (Nat.lt_succ_self _)
      have hHC : H4 s3.heap.objs.size = none := by have := I5.free; rw [hCe] at this; exact this
      have k56 : ∀ b o, b ≠ s3.heap.objs.size → s5.heap.get? b = some o → h6.get? b = some o := fun b o hb e => hs6.extBut b o hb e
      have un := I5.base
      rw [eF, eEx, eH, eS] at un
      have nC : ∀ b o, s3.heap.get? b = some o → b ≠ s3.heap.objs.size := fun b o e => Nat.ne_of_lt (Heap.lt_size e)
      have hok6 : HOk X.prog X.w (upd H4 s2.heap.objs.size (.lst ys)) h6 := by
        have h5 := I5.hok
        rw [eP, eW] at h5
        have trk : ∀ b u, H4 b = some u → b ≠ s3.heap.objs.size := fun b u e z => by rw [z, hHC] at e; cases e
        intro b u e
        by_cases hb : b = s2.heap.objs.size
        · subst hb
          rw [upd_same] at e; cases e
          exact ⟨hyl, its, nn, rv4, k56 _ _ hDne hDg⟩
        · rw [upd_ne hb] at e
          have nD : ∀ c u, H4 c = some u → c ≠ s2.heap.objs.size := fun c u e z => by rw [z, dn4] at e; cases e
          refine (h5 b u e).stay (fun c v hc' q => k56 c v ?_ q) (fun c q => by rw [upd_ne (nD c _ q)]; exact q) fun c xs q => by rw [upd_ne (nD c _ q)]; exact q
          rcases hc' with z | z
          · rw [z]; exact trk b u e
          · exact trk c _ z
      have nD2 : ∀ c u, H4 c = some u → c ≠ s2.heap.objs.size := fun c u e z => by rw [z, dn4] at e; cases e
      have un6 : Un (frs X.stack) (s2.heap.objs.size :: fp) H2 (upd H4 s2.heap.objs.size (.lst ys)) s3.heap h6 :=
        ⟨fun b o e nn' hb hx => k56 b o (nC b o e) (un.keep b o e nn' hb hx), fun b o e nn' hb hx => let ⟨sl, q⟩ := un.slot b o e nn' hb hx; ⟨sl, k56 b _ (nC b o e) q⟩,
          fun b o e nn' hx => by rw [upd_ne (fun z => hx (by rw [z]; exact List.mem_cons_self))]; exact un.free b o e nn' hx,
          fun b o e hx => let ⟨o', q⟩ := un.there b o e hx; ⟨o', k56 b o' (nC b o e) q⟩,
          fun b xs e => by have q := un.tups b xs e; rw [upd_ne (nD2 b _ q)]; exact q,
          fun b o u e => by have q := un.frzs b o u e; rw [upd_ne (nD2 b _ q)]; exact q,
          fun b ps e => let ⟨more, q⟩ := un.tbls b ps e; ⟨more, by rw [upd_ne (nD2 b _ q)]; exact q⟩⟩
      have I6 : Inv X pins σ (upd H4 s2.heap.objs.size (.lst ys)) { s5 with heap := h6 } := by
        refine I3.call' (s' := { s5 with heap := h6 }) (ch := s2.heap.objs.size :: fp) ?_ un6 hok6 I5.bare fun b hb => ?_
        · show s5.os = s3.os
          have := I5.os
          rw [eS] at this
          exact this
        · have q : FpOk X pins H2 b := by
            rcases List.mem_cons.mp hb with rfl | z
            · exact fD
            · exact f2 b z
          obtain ⟨f0, f1, f2', f3, f4, f5⟩ := q
          exact ⟨f3, f1, f4, f5⟩
      exact ⟨.ref s2.heap.objs.size, _, I6, rfl, qn _ dn4⟩
    · have hitem := T.item XC eP eW eK eC i _ s4 _ H4 (fun _ _ => False) P4 (stat fr4) st4 go
      rw [eA] at hitem
      refine wpAny_mono hitem (fun r s5 ⟨u, hr, h5⟩ => ?_) fun _ _ z => z
      subst hr
      dsimp only
      refine wpAny_mono h5 (fun _ s6 ⟨x, H6, I6, r6, y6, st6, fr6⟩ => ?_) fun _ _ z => z
      have P6 := I6.pinned (stat fr6) (T.obj _ _ st6)
      rw [← eE, ← eP, ← eW, ← eA]
      refine wpAny_mono (hgC _ s6 _ H6 x u _ P6 r6 (step x H6 y6)) (fun _ s7 ⟨σ7, H7, I7, kp7, q7⟩ => ?_) fun _ _ z => by rw [eX] at z; exact z
      refine wpAny_mono (htC _ s7 σ7 H7 _ I7 q7) (fun ok s8 ⟨H8, I8, q8⟩ => ?_) fun _ _ z => by rw [eX] at z; exact z
      -- back to the turn's start
      have fin : ∀ {H9 : Hp} {s9 : Shared}, Inv XC ([(s2.heap.objs.size, ({ cls := .type "list", data := .seq its.toArray nn } : Obj))] ++ pinsAt fp s6.heap) σ7 H9 s9 → Inv XC [] (subSt sub σ) H9 s9 ∧ tn (i + 1) s9.heap ∧ (∀ b ∈ fp, H9 b = none) ∧ H9 s2.heap.objs.size = none ∧
          s9.heap.get? s2.heap.objs.size = some { cls := .type "list", data := .seq its.toArray nn } := fun {H9 s9} J => by
        have pD := J.pin (s2.heap.objs.size, ({ cls := .type "list", data := .seq its.toArray nn } : Obj)) (by rw [ePn]; simp)
        have pF : ∀ b ∈ fp, ∀ o, s6.heap.get? b = some o → s9.heap.get? b = some o ∧ H9 b = none := fun b hb o e => by
          have q := J.pin (b, o) (by rw [ePn]; exact List.mem_append_right _ (List.mem_append_right _ (mem_pinsAt hb e)))
          exact ⟨q.1, q.2.1⟩
        refine ⟨?_, T.keep _ _ _ st6 fun b hb o e => (pF b hb o e).1, fun b hb => ?_, pD.2.1, pD.1⟩
        · have J0 : Inv XC [] σ7 H9 s9 := J.pins_of fun p hp => nomatch hp
          exact J0.weak kp7.1.symm fun j v e => kp7.2 j v e
        · obtain ⟨o, e, _⟩ := T.obj _ _ st6 b hb
          exact (pF b hb o e).2
      cases ok with
      | false =>
        rw [if_neg (by simp)]
        rw [if_neg (by simp)] at q8
        obtain ⟨m', hm, w8⟩ := hN _ _ q8
        obtain ⟨a1, a2, a3, a4, a5⟩ := fin I8
        exact ⟨m', hm, i + 1, ys, its, nn, H8, a1, a2, a3, a4, a5, rv4, w8⟩
      | true =>
        rw [if_pos rfl]
        rw [if_pos rfl] at q8
        refine wpAny_mono (heC _ s8 σ7 H8 _ I8 q8) (fun xv s9 ⟨y, H9, I9, r9, n9⟩ => ?_) fun _ _ z => by rw [eX] at z; exact z
        obtain ⟨m', hm, w9⟩ := hN _ _ n9
        obtain ⟨a1, a2, a3, a4, a5⟩ := fin I9
        refine wpAny_list_append_plain (items := its.toArray) ⟨nn, a5⟩ (fun h' ⟨n', hp'⟩ sb => ?_) (by simp; rw [← rv4.length]; omega)
        obtain ⟨q1, q2⟩ := I4.ok.exf s2.heap.objs.size (by rw [eEx]; exact List.mem_cons_self)
        have a1' : Inv XC [] (subSt sub σ) H9 { s9 with heap := h' } := a1.turned (t' := s9.toks) (fun b o hb e => (sb.2 b hb).trans e) a4 q1 (.inl (by rw [eEx]; exact List.mem_cons_self)) q2 (fun p hp => by rw [ePn] at hp; exact nomatch hp)
        refine ⟨m', hm, i + 1, ys ++ [y], its ++ [xv], n', H9, a1', T.keep _ _ _ a2 fun b hb o e => (sb.2 b (fun z => hDfp (by rw [← z]; exact hb))).trans e, a3, a4, ?_, rv4.append (.cons r9 .nil), w9⟩
        rw [hp']
        simp
  subst hs3
  exact codeAny_compStart_list loop (T.self _ 0 _ _ _ (T.keep _ _ _ st2 fun b _ o e => hk31 b o (k23 b o e)) loop)
end

noncomputable abbrev CompR (sub : List (Option Nat)) (g : TG) (tt : TT) (te : TE) (σ : St) (Q : VK) (J : It) (H1 : Hp) : Prop := ∃ W : Nat → Nat → List V → Hp → Prop, (∃ m, W 0 m [] H1) ∧ ∀ i m ys H, W i m ys H →
  (J.stop i H ∧ ys.length ≤ sizeLine ∧ ∀ D, H D = none → Q (.ref D) (upd H D (.lst ys))) ∨
  (J.go i H ∧ ys.length < sizeLine ∧ ∃ N : List V → Hp → Prop, (∀ ys' H', N ys' H' → ∃ m', m' < m ∧ W (i + 1) m' ys' H') ∧
    ∀ x H', J.yld i H x H' → g x (subSt sub σ) H' fun σ2 H2 => KeepSt (subSt sub σ) σ2 ∧ tt σ2 H2 fun b H3 => if b = true then te σ2 H3 fun y H4 => N (ys ++ [y]) H4 else N ys H3)
theorem comp_by {sub : List (Option Nat)} {g : TG} {tt : TT} {te : TE} {σ : St} {Q : VK} {J : It} {H : Hp} {n : Nat} (Pv : Nat → List V → Hp → Prop) (hn : n ≤ sizeLine) (h0 : Pv 0 [] H) (hl : ∀ i ys H, Pv i ys H → ys.length ≤ i)
    (hgo : ∀ i ys H, i < n → Pv i ys H → J.go i H) (hstop : ∀ ys H, Pv n ys H → J.stop n H)
    (hs : ∀ i ys H x H', i < n → Pv i ys H → J.yld i H x H' → g x (subSt sub σ) H' fun σ2 H2 => KeepSt (subSt sub σ) σ2 ∧ tt σ2 H2 fun b H3 => if b = true then te σ2 H3 fun y H4 => Pv (i + 1) (ys ++ [y]) H4 else Pv (i + 1) ys H3)
    (hd : ∀ ys H, Pv n ys H → ∀ D, H D = none → Q (.ref D) (upd H D (.lst ys))) : CompR sub g tt te σ Q J H := by
  refine ⟨fun i m ys H => m = n - i ∧ i ≤ n ∧ Pv i ys H, ⟨n, by simp, Nat.zero_le _, h0⟩, ?_⟩
  rintro i m ys H ⟨rfl, hi, p⟩
  have hl' := hl i ys H p
  by_cases hlt : i < n
  · exact .inr ⟨hgo i ys H hlt p, by omega, fun ys' H' => Pv (i + 1) ys' H', fun ys' H' p' => ⟨n - (i + 1), by omega, rfl, hlt, p'⟩, fun x H' y => hs i ys H x H' hlt p y⟩
  · have e : i = n := by omega
    subst e
    exact .inl ⟨hstop ys H p, by omega, hd ys H p⟩
end L2

namespace L2
open PySem PySem.Spec PyProof.Rows

section
variable {κ : Type} [DecidableEq κ]
end


section
variable {P : Program} {w : World} {H : Hp} {h : Heap} {a : Addr}
end

section
variable {X : Cx} {pins : List (Addr × Obj)} {σ : St} {H : Hp} {s : Shared} {a : Addr} {y v : V} {u r : Value} {o : Option V} {A : Around} {E : Value → Shared → Prop}

end

section
variable {X : Cx} {pins : List (Addr × Obj)} {σ : St} {H : Hp} {s : Shared} {a : Addr} {kvs : List (Key × V)} {k : Key} {u : Value} {A : Around} {E : Value → Shared → Prop}
end


section
variable {X : Cx} {o i e value : Expr} {pos pos' tpos : Pos} {td ty tv : TE}
end


section
variable {X : Cx} {pos : Pos}
end

noncomputable def tPairs : List (TE × TE) → St → Hp → (List (V × V) → Hp → Prop) → Prop
  | [], _, H, Q => Q [] H
  | (tk, tv) :: r, σ, H, Q => tk σ H fun x H1 => tv σ H1 fun y H2 => tPairs r σ H2 fun ps H3 => Q ((x, y) :: ps) H3
noncomputable abbrev VV : List (V × V) → List (Value × Value) → Prop := Paired fun p q => RelV p.1 q.1 ∧ RelV p.2 q.2
noncomputable def PPs (X : Cx) (pos : Pos) (keys : List (Option Expr)) (values : List Expr) (trs : List (TE × TE)) : Prop :=
  ∀ (pins : List (Addr × Obj)) (s : Shared) (σ : St) (H : Hp) (Q : List (V × V) → Hp → Prop), Inv X pins σ H s → tPairs trs σ H Q →
    wpAny (model X.prog X.w) X.A (evalPairs (pairTrees keys values X.env pos)) (fun vs s' => ∃ ps H', Inv X pins σ H' s' ∧ VV ps vs ∧ Q ps H') X.xe s
structure M1 (X : Cx) (o : Expr) (m : Str) (apos : Pos) (e : Expr) (cpos : Pos) : Prop where
  base : attributeBase o m X.env (eval o X.env) = eval o X.env
  few : ((backTo cpos (starEach [e] X.env)).all (fun x => !x.1) && (backToKw cpos (keywordEach [] X.env)).all (fun x => x.1.isSome)
    && decide (([e] : List Expr).length + ([] : List Keyword).length + (if ([] : List Keyword).isEmpty then 0 else 1) < 30)) = true
  line : (apos.endLine == cpos.line) = true
  trees : backTo cpos (starEach [e] X.env) = [(false, eval e X.env)]
structure M2 (X : Cx) (o : Expr) (m : Str) (apos : Pos) (e f : Expr) (cpos : Pos) : Prop where
  base : attributeBase o m X.env (eval o X.env) = eval o X.env
  few : ((backTo cpos (starEach [e, f] X.env)).all (fun x => !x.1) && (backToKw cpos (keywordEach [] X.env)).all (fun x => x.1.isSome)
    && decide (([e, f] : List Expr).length + ([] : List Keyword).length + (if ([] : List Keyword).isEmpty then 0 else 1) < 30)) = true
  line : (apos.endLine == cpos.line) = true
  trees : backTo cpos (starEach [e, f] X.env) = [(false, eval e X.env), (false, eval f X.env)]

section
variable {X : Cx} {pins : List (Addr × Obj)} {σ : St} {H : Hp} {s : Shared} {a : Addr} {y d : V} {u r : Value} {o : Option V} {A : Around} {E : Value → Shared → Prop}
end

section
variable {X : Cx} {o e f : Expr} {apos cpos : Pos} {td ty tx : TE}
end

section
variable {X : Cx} {pins : List (Addr × Obj)} {σ : St} {H : Hp} {s : Shared} {a : Addr} {kvs : List (Key × V)} {A : Around} {E : Value → Shared → Prop}
end


section
variable {X : Cx} {pins : List (Addr × Obj)} {σ : St} {H : Hp} {s : Shared} {a : Addr} {y : V} {u : Value} {A : Around} {E : Value → Shared → Prop}
end
end L2

namespace L2
open PySem PySem.Spec PyProof.Rows
section
variable {X : Cx}
section
variable {κ : Type} [DecidableEq κ]
end
end
end L2

namespace L2
open PySem PySem.Spec PyProof.Rows

noncomputable def Its (x : Str) : It := ⟨fun i _ => i < x.cps.size, fun i H v H' => H' = H ∧ ∃ c, x.cps[i]? = some c ∧ v = .str ⟨#[c]⟩, fun i _ => i = x.cps.size⟩
theorem turn_str {P : Program} {w : World} {K : PySem.W.Frag} {tg : Expr} (it : Addr) (x : Str) (t : Tok) (ty : String)
    (hty : ["enumerate", "zip", "dict_itemiterator", "dict_reverseitemiterator", "odict_iterator", "itertools.zip_longest", "itertools.pairwise"].contains ty = false)
    (W : ∀ A : Around, A.handled = none → Walks P w A it [it] [it] x.cps.size (SignAt x) fun i h => h.IsStrIter it ty x t i)
    (hself : ∀ (A : Around) (i : Nat) (s : Shared) (Q : Value → Shared → Prop) (E : Value → Shared → Prop), s.heap.IsStrIter it ty x t i → Q (.ref it) s → wpAny (model P w) A (pyIter (.ref it)) Q E s) : Turn P w K tg (Its x) [it] it (fun i h => h.IsStrIter it ty x t i) where
  mem := by simp
  obj := fun i h st b hb => by
    have e : b = it := by simpa using hb
    subst e
    obtain ⟨o, e, c, d⟩ := st
    exact ⟨o, e, fun v z => by rw [d] at z; cases z⟩
  keep := fun i h h' st k => by
    obtain ⟨o, e, r⟩ := st
    exact ⟨o, k it (by simp) o e, r⟩
  item := by
    intro X hP hw hK hc i pins s σ H E I hf st hg
    subst hP hw hK
    obtain ⟨f0, f1, f2, f3, f4, f5⟩ := hf it (by simp)
    refine (W X.A (I.ok.hd hc)).item i s _ _ hg st fun v h' tk hv st' kk => ?_
    obtain ⟨c, u, e1, rfl⟩ := hv
    have I1 : Inv X pins σ H { s with heap := h', toks := tk } := I.turned (fun b o hb e => kk b o (by simpa using hb) e) f0 f1 f3 f4 f5
    obtain ⟨o, e, cl, d⟩ := id st'
    exact ⟨_, rfl, go_of (s := { s with heap := h', toks := tk }) e cl d hty ⟨.str ⟨#[c]⟩, H, I1, ⟨u, rfl⟩, ⟨rfl, c, e1, rfl⟩, st', fun b hb => (hf b hb).1⟩⟩
  done := by
    intro X hP hw hK hc i pins s σ H E I hf st hg
    subst hP hw hK
    obtain ⟨f0, f1, f2, f3, f4, f5⟩ := hf it (by simp)
    have hg : i = x.cps.size := hg
    subst hg
    exact (W X.A (I.ok.hd hc)).done s _ _ st fun h' tk kk => ⟨rfl, I.turned (fun b o hb e => kk b o (by simpa using hb) e) f0 f1 f3 f4 f5⟩
  self := hself
section
variable {X : Cx}
theorem all_range {bs : List Bool} : (List.range bs.length).all (fun i => bs.getD i false) = bs.all id := by
  rw [Bool.eq_iff_iff]
  simp only [List.all_eq_true, List.mem_range]
  constructor
  · intro h b hb
    obtain ⟨i, hi, e⟩ := List.mem_iff_getElem.mp hb
    have := h i hi
    rw [List.getD_eq_getElem?_getD, List.getElem?_eq_getElem hi] at this
    simp only [Option.getD_some] at this
    rw [← e]; exact this
  · intro h i hi
    rw [List.getD_eq_getElem?_getD, List.getElem?_eq_getElem hi]
    exact h _ (List.getElem_mem hi)
theorem vals_bl_get : ∀ {bs : List Bool} {us : List Value} {i : Nat} {v : Value}, Vals (bs.map V.bl) us → us[i]? = some v → v = .bool (bs.getD i false)
  | [], _, i, v, .nil, e => by simp at e
  | b :: bs, _, 0, v, .cons r t, e => by simp at e; subst e; exact r
  | b :: bs, _, i + 1, v, .cons r t, e => by
    simp at e
    have := vals_bl_get (bs := bs) t e
    simpa using this
noncomputable def rAll : List V → Hp → VK → Prop := fun xs H Q => ∃ (p : Addr) (bs : List Bool), xs = [.ref p] ∧ H p = some (.lst (bs.map V.bl)) ∧ Q (.bl (bs.all id)) H
theorem call_all (hc : X.calm = true) : CallR X (.builtin "all") rAll := by
  intro pins s σ H xs us Q I r h
  obtain ⟨p, bs, rfl, hp, q⟩ := h
  obtain ⟨u, rfl, ru⟩ := vals1 r
  cases ru
  obtain ⟨hz, its, n, rv, e⟩ := I.hok p _ hp
  refine call_all_walk (wpAny_pyIter_list (items := its.toArray) ⟨_, e, rfl, n, rfl⟩ ?_)
  refine ⟨s.heap.objs.size, _, _, _, _, _, fun i => bs.getD i false, rfl, Walks.list (A := X.A.in1) (I.ok.hd hc) s.heap.objs.size p (Nat.ne_of_lt (Heap.lt_size e)) its.toArray, ⟨⟨_, Heap.get?_push_size _ rfl, rfl, rfl⟩, ⟨_, Heap.get?_push_of_some _ e, rfl, n, rfl⟩⟩, ?_, fun h' tk hk => ?_⟩
  · intro i v s' Q' E' hv hq
    have := vals_bl_get rv (by simpa using hv)
    subst this
    exact wpAny_truthy_bool hq
  · have hl : its.toArray.size = bs.length := by have := rv.length; simpa using this.symm
    rw [hl, all_range]
    refine ⟨.bl _, H, ?_, rfl, q⟩
    exact I.kept fun b o e => hk b o (by simp; exact Nat.ne_of_lt (Heap.lt_size e)) (Heap.get?_push_of_some _ e)
theorem strsAre_of : ∀ {ys : List Str} {us : List Value}, Vals (ys.map V.str) us → StrsAre us ys
  | [], _, .nil => .nil
  | y :: ys, _, .cons r t => by
    obtain ⟨k, e⟩ := (show ∃ t, _ = Value.str y t from r)
    subst e
    exact .cons y k (strsAre_of t)
noncomputable def rJoin : V → List V → Hp → VK → Prop := fun x xs H Q => ∃ (sep : Str) (p : Addr) (ys : List Str), x = .str sep ∧ xs = [.ref p] ∧ H p = some (.lst (ys.map V.str)) ∧ (ys.map (·.length)).sum + ys.length * sep.length ≤ 16777216 ∧ Q (.str (Txt.join sep ys)) H
theorem mt_join : MtR X "str.join" rJoin := by
  intro pins s σ H x xs v us Q I rx r h
  obtain ⟨sep, p, ys, rfl, rfl, hp, hz, q⟩ := h
  obtain ⟨u, rfl, ru⟩ := vals1 r
  cases ru
  obtain ⟨t, rfl⟩ := rx
  obtain ⟨hz', its, n, rv, e⟩ := I.hok p _ hp
  exact join_list (items := its.toArray) ⟨_, e, rfl, n, rfl⟩ (by simpa using strsAre_of rv) hz fun t' k => ⟨.str _, H, I.tok _, ⟨_, rfl⟩, q⟩
noncomputable def rSlS : V → Option Int → Option Int → Hp → VK → Prop := fun v lo hi H Q => ∃ x, v = .str x ∧ x.length ≤ sizeLine ∧ Q (.str (Txt.slice x lo hi)) H
theorem sl_str : SlR X rSlS := by
  intro pins s σ H x v vl vu lo hi sl Q I rx hs pl pu h
  obtain ⟨z, rfl, hz, q⟩ := h
  obtain ⟨t, rfl⟩ := rx
  refine ⟨"str", _, F.slot_str_getitem.lookup, typeIs_str _ _ _, ?_⟩
  have fin : ∀ (t' k : Nat), EP X pins σ Q (.str (Txt.slice z lo hi) t') { s with toks := k } := fun t' k => ⟨.str _, H, I.tok _, ⟨_, rfl⟩, q⟩
  have sz := Nat.le_trans (Txt.slice_le z lo hi) hz
  obtain ⟨o, ho, hc, hd⟩ := hs
  cases pl with
  | none =>
    cases pu with
    | none => exact wpAny_getItem_str_slice (l := none) (u := none) (st := none) ⟨o, ho, hc, hd⟩ rfl (post_val_or_str ⟨sz, fin⟩)
    | int j tj => exact wpAny_getItem_str_slice (l := none) (u := some (j, tj)) (st := none) ⟨o, ho, hc, hd⟩ rfl (post_val_or_str ⟨sz, fin⟩)
  | int i ti =>
    cases pu with
    | none => exact wpAny_getItem_str_slice (l := some (i, ti)) (u := none) (st := none) ⟨o, ho, hc, hd⟩ rfl (post_val_or_str ⟨sz, fin⟩)
    | int j tj => exact wpAny_getItem_str_slice (l := some (i, ti)) (u := some (j, tj)) (st := none) ⟨o, ho, hc, hd⟩ rfl (post_val_or_str ⟨sz, fin⟩)
noncomputable def rMulS : R2 := fun x y H Q => ∃ i n, x = .str i ∧ y = .int n ∧ MulOk i n ∧ Q (.str (Txt.mul i n)) H
theorem op_mul_str : OpR X (binaryOp .Mult) rMulS := by
  intro pins s σ H x y v u Q I rx ry h
  obtain ⟨i, n, rfl, rfl, hk, q⟩ := h
  obtain ⟨t, rfl⟩ := rx
  obtain ⟨t', rfl⟩ := ry
  exact SB.mul hk fun t' k => ⟨.str _, H, I.tok _, ⟨_, rfl⟩, q⟩
noncomputable def sgn (x : Str) : List V := x.cps.toList.map fun c => V.str ⟨#[c]⟩
theorem items_sgn {x : Str} {acc : Array Value} (h : ItemsOf (SignAt x) acc x.cps.size) : Vals (sgn x) acc.toList := by
  obtain ⟨h1, h2⟩ := h
  have key : ∀ (l : List Nat) (a : List Value), l.length = a.length → (∀ (j : Nat) (v : Value), a[j]? = some v → ∃ (c : Nat) (u : Tok), l[j]? = some c ∧ v = Value.str ⟨#[c]⟩ u) → Vals (l.map fun c => V.str ⟨#[c]⟩) a := by
    intro l
    induction l with
    | nil => intro a hl _; cases a with
      | nil => exact .nil
      | cons _ _ => simp at hl
    | cons c l ih =>
      intro a hl hh
      cases a with
      | nil => simp at hl
      | cons v a =>
        obtain ⟨c', u, e1, e2⟩ := hh 0 v (by simp)
        simp at e1; subst e1
        refine .cons ⟨u, e2⟩ (ih a (by simpa using hl) fun j v' e => ?_)
        obtain ⟨c', u, e1, e2⟩ := hh (j + 1) v' (by simpa using e)
        exact ⟨c', u, by simpa using e1, e2⟩
  refine key x.cps.toList acc.toList (by simp [h1]) fun j v e => ?_
  obtain ⟨c, u, e1, e2⟩ := h2 j v (by simpa using e)
  exact ⟨c, u, by simpa using e1, e2⟩
theorem call_list_S (hc : X.calm = true) : CallR X (.type "list") (fun xs H Q => ∃ x, xs = [.str x] ∧ x.cps.size ≤ sizeLine ∧ ∀ p, H p = none → Q (.ref p) (upd H p (.lst (sgn x)))) := by
  intro pins s σ H xs us Q I r h
  obtain ⟨x, rfl, hz, q⟩ := h
  obtain ⟨u, rfl, t, rfl⟩ := vals1 r
  refine call_list_str (I.ok.hd hc) x t (hn := hz) fun h' tk acc' c' hk hS hacc => ?_
  refine ⟨.ref s.heap.objs.size, _, I.laid (o := .lst (sgn x)) hk (Nat.le_refl _) ⟨by simp [sgn]; exact hz, acc'.toList, c', items_sgn hacc, by simpa using hS⟩, rfl, q _ I.fresh⟩
noncomputable def rIsi (K : PySem.W.Frag) : List V → Hp → VK → Prop := fun xs H Q => ∃ x T t b, xs = [x, .ty T] ∧ TyOf K H x t ∧ PySem.W.kitOne K t (.type T) = some b ∧ Q (.bl b) H
theorem call_isi : CallR X (.builtin "isinstance") (rIsi X.K) := by
  intro pins s σ H xs us Q I r h
  obtain ⟨x, T, t, b, rfl, ty, e, q⟩ := h
  obtain ⟨u, v, rfl, ru, rv⟩ := vals2 r
  cases rv
  exact isinst_ok I ru ty e fun tk => ⟨.bl b, H, I.tok _, rfl, q⟩

noncomputable def eqVs : List V → List V → Bool
  | [], [] => true
  | x :: xs, y :: ys => eqV x y && eqVs xs ys
  | _, _ => false
theorem eqVs_range : ∀ (xs ys : List V), xs.length = ys.length → (List.range xs.length).all (fun j => eqV (xs.getD j .non) (ys.getD j .non)) = eqVs xs ys
  | [], [], _ => rfl
  | x :: xs, y :: ys, h => by
    have ih := eqVs_range xs ys (by simpa using h)
    rw [List.length_cons, List.range_succ_eq_map, List.all_cons, List.all_map]
    simp only [eqVs]
    rw [← ih]
    rfl
  | [], y :: ys, h => by simp at h
  | x :: xs, [], h => by simp at h
theorem eqVs_len : ∀ {xs ys : List V}, xs.length ≠ ys.length → eqVs xs ys = false
  | [], [], h => absurd rfl h
  | [], y :: ys, _ => rfl
  | x :: xs, [], _ => rfl
  | x :: xs, y :: ys, h => by simp [eqVs, eqVs_len (xs := xs) (ys := ys) (by simpa using h)]
noncomputable def rEqL (K : PySem.W.Frag) (neg : Bool) : R2 := fun x y H Q => ∃ a b xs ys, x = .ref a ∧ y = .ref b ∧ SqL K H a xs ∧ SqL K H b ys ∧ xs.all flatV = true ∧ ys.all flatV = true ∧ Q (.bl (if neg then !eqVs xs ys else eqVs xs ys)) H
theorem op_eq_lst (hu : X.A.units < cLine) : OpR X (compareOp .Eq) (rEqL X.K false) := by
  intro pins s σ H x y v u Q I rx ry h
  obtain ⟨a, b, xs, ys, rfl, rfl, ha, hb, fx, fy, q⟩ := h
  cases rx
  cases ry
  obtain ⟨its, r1, p1, z1⟩ := I.list ha
  obtain ⟨jts, r2, p2, z2⟩ := I.list hb
  have l1 : its.toArray.size = xs.length := by simpa using r1.length.symm
  have l2 : jts.toArray.size = ys.length := by simpa using r2.length.symm
  by_cases hl : xs.length = ys.length
  · refine SeqAt.eq_listAt (e := fun j => eqV (xs.getD j .non) (ys.getD j .non)) p1.isList p2.isList (by rw [l1, l2]; exact hl) hu (fun j h1 h2 => ?_) ?_
    · have h1' : j < xs.length := by omega
      have h2' : j < ys.length := by omega
      obtain ⟨u1, e1, q1⟩ := r1.get (List.getElem?_eq_getElem h1')
      obtain ⟨u2, e2, q2⟩ := r2.get (List.getElem?_eq_getElem h2')
      have e1' : its.toArray[j] = u1 := by
        have := List.getElem?_eq_some_iff.mp e1
        obtain ⟨_, z⟩ := this
        simpa using z
      have e2' : jts.toArray[j] = u2 := by
        have := List.getElem?_eq_some_iff.mp e2
        obtain ⟨_, z⟩ := this
        simpa using z
      rw [e1', e2']
      have g1 : xs.getD j .non = xs[j] := by rw [List.getD_eq_getElem?_getD, List.getElem?_eq_getElem h1']; rfl
      have g2 : ys.getD j .non = ys[j] := by rw [List.getD_eq_getElem?_getD, List.getElem?_eq_getElem h2']; rfl
      show SeqAt.EqAt X.A.in1 s u1 u2 (eqV (xs.getD j .non) (ys.getD j .non))
      rw [g1, g2]
      exact eqAt_V q1 q2 (List.all_eq_true.mp fx _ (List.getElem_mem h1')) (List.all_eq_true.mp fy _ (List.getElem_mem h2'))
    · rw [l1, eqVs_range xs ys hl]
      exact ⟨.bl _, H, I, rfl, q⟩
  · refine SeqAt.eq_list_lengthsAt p1.isList p2.isList (by rw [l1, l2]; simpa using hl) hu ?_
    rw [if_neg (by simp), eqVs_len hl] at q
    exact ⟨.bl false, H, I, rfl, q⟩
end
end L2

namespace L2
open PySem PySem.Spec PyProof.Rows

noncomputable def Def (K : PySem.W.Frag) (mg : Str → Option Value) (x : Str) (st : Stmt) : Prop := ∃ f fd, Fun K x x st f fd ∧ mg x = some (.ref f)
theorem def_mk {K : PySem.W.Frag} {mg : Str → Option Value} {h : Heap} (X : K.In h) (G : h.Ns mainGlobals mg) {x : Str} {st : Stmt} {f : Addr} {oc : Value} {od an : Option Addr} {osl : Array (Option Value)} {kV doc pm cdv ct : Value}
    (a : PySem.W.nsIn K mainGlobals x = some (some (.ref f)))
    (l : K.lookup f = some ⟨oc, od, .func (PySem.W.fnOf x x (defArgs st) (defBody st) (defScope st) .none kV doc pm an cdv ct), osl⟩)
    (c : PySem.W.codeIn K cdv x = true) (k : PySem.W.keepIn K (.ref f) = true) : Def K mg x st := ⟨f, _, fun_mk l c k, PySem.W.mg_of X G a⟩
noncomputable def Has (P : Program) (w : World) (K : PySem.W.Frag) (mg : Str → Option Value) (base : Heap) (k : Nat) (x : Str) (ps : List Str) (sp : Sp) : Prop :=
  ∃ f fd, mg x = some (.ref f) ∧ PySem.W.keepIn K (.ref f) = true ∧ Binds K fd ps [] ∧ FnOk P w K mg base CX0 k f fd ps sp
section
variable {P : Program} {w : World} {K : PySem.W.Frag} {mg : Str → Option Value} {base : Heap}
theorem has_of {x : Str} {st : Stmt} {N ps : List Str} {k : Nat} {sp : Sp} (D : Def K mg x st) (S : FnScope N ps (defScope st))
    (hb : ∀ (kV doc pm : Value) (an : Option Addr) (cdv ct : Value) (us : List Value), us.length = ps.length → bindArgs (PySem.W.fnOf x x (defArgs st) (defBody st) (defScope st) .none kV doc pm an cdv ct) ⟨us, []⟩ = pure (ps.zip us))
    (len : ∀ vs H Q E, sp vs H Q E → vs.length = ps.length)
    (hbody : ∀ (f : Addr) (cdv : Value) (A : Around) (outer : List Env) (s : Shared) (H : Hp) (vs : List V) (Q : VK) (E : XK), Room k (A.deeper (envOfC x (defScope st) s.heap.objs.size f cdv)) → sp vs H Q E →
      ∃ t, PSs (cxOf CX0 P w K mg base N x (defScope st) f cdv A outer s H E).nox (defBody st) t ∧ t { nx := fun _ H' => Q .non H', rt := Q } (start N vs) H) : Has P w K mg base (k + 1) x ps sp := by
  obtain ⟨f, fd, F, hm⟩ := D
  exact ⟨f, fd, hm, F.kp, F.binds hb, F.ok S len fun cdv A outer s H vs Q E hr h => hbody f cdv A outer s H vs Q E hr h⟩
end
section
variable {X : Cx}
theorem pe_callH {k : Nat} {x : Str} {ps : List Str} {sp : Sp} {p pos : Pos} {e : Expr} {es : List Expr} {t : TA} (F : Has X.prog X.w X.K X.mg X.base k x ps sp) (hr : Room k X.A) (hg : Gl X x)
    (ha : PA X (e :: es) t) (hdb : autoParam ((x == ("__debug__" : Str)) = false) L2.auto2._auto_1) (he : autoParam (starEach (e :: es) X.env = (false, eval e X.env) :: starEach es X.env) L2.auto4._auto_1) (hpl : autoParam ((backTo pos (starEach es X.env)).any (·.1) = false) L2.auto4._auto_1) :
    PE X (.Call (.Name x p) (e :: es) [] pos) (tCall sp [] E0 t) := by
  obtain ⟨f, fd, a, b, c, d⟩ := F
  exact pe_call d hr hg a b c .nil pass0 ha hdb he hpl
noncomputable def rAddA : R2 := fun x y H Q => (∃ i j, x = .int i ∧ y = .int j ∧ Q (.int (i + j)) H) ∨ (∃ i j, x = .str i ∧ y = .str j ∧ i.length + j.length ≤ sizeLine ∧ Q (.str (i ++ j)) H) ∨ rCat x y H Q
theorem op_addA : OpR X (binaryOp .Add) rAddA := op_add.or (op_add_str.or op_cat)
noncomputable def rMulA : R2 := fun x y H Q => (∃ i j, x = .int i ∧ y = .int j ∧ CMul i j ∧ Q (.int (i * j)) H) ∨ rMulS x y H Q ∨ rRep x y H Q
theorem op_mulA : OpR X (binaryOp .Mult) rMulA := op_mul.or (op_mul_str.or op_rep)
theorem glob_str {x : Str} {z : Str} {pos : Pos} (hg : Gl X x) (hm : ∃ t, X.mg x = some (.str z t)) (hd : autoParam ((x == ("__debug__" : Str)) = false) L2.auto2._auto_1) : PE X (.Name x pos) (tC (.str z)) :=
  let ⟨t, e⟩ := hm; pe_glob hg e ⟨t, rfl⟩ hd
theorem glob_int {x : Str} {z : Int} {pos : Pos} (hg : Gl X x) (hm : ∃ t, X.mg x = some (.int z t)) (hd : autoParam ((x == ("__debug__" : Str)) = false) L2.auto2._auto_1) : PE X (.Name x pos) (tC (.int z)) :=
  let ⟨t, e⟩ := hm; pe_glob hg e ⟨t, rfl⟩ hd
theorem pe_ty {x : Str} {T : String} {pos : Pos} (hg : Gl X x) (hm : X.mg x = none) (hv : bootBuiltins x = some (.type T)) (hn : autoParam (x ≠ "__name__") L2.auto2._auto_1) (hd : autoParam ((x == ("__debug__" : Str)) = false) L2.auto2._auto_1) : PE X (.Name x pos) (tC (.ty T)) :=
  pe_bltn hg hm hv rfl hn hd
noncomputable def rInA (K : PySem.W.Frag) : R2 := fun x y H Q => (∃ i j, x = .str i ∧ y = .str j ∧ Q (.bl (!(Builtin.Str.occurrences j i 0 j.length 1).isEmpty)) H) ∨ rIn K false x y H Q
theorem op_inA : OpR X (compareOp .In) (rInA X.K) := op_in_str.or op_in_seq
noncomputable def rEqA (K : PySem.W.Frag) : R2 := fun x y H Q => rEq x y H Q ∨ rEqL K false x y H Q
theorem op_eqA (hu : X.A.units < cLine) : OpR X (compareOp .Eq) (rEqA X.K) := op_eq.or (op_eq_lst hu)
noncomputable def rSl (K : PySem.W.Frag) : V → Option Int → Option Int → Hp → VK → Prop := fun x lo hi H Q => rSlL K x lo hi H Q ∨ rSlT K x lo hi H Q ∨ rSlS x lo hi H Q
theorem sl_seq : SlR X (rSl X.K) := sl_list.or (sl_tup.or sl_str)
noncomputable def iSeq (K : PySem.W.Frag) (tl : TE) : TI := fun σ H R => tl σ H fun x H1 => (∃ a, x = .ref a ∧ (∃ xs, SqL K H1 a xs) ∧ R (Itl K a) H1) ∨ (∃ a, x = .ref a ∧ (∃ xs, SqT K H1 a xs) ∧ R (Itt K a) H1) ∨ (∃ z, x = .str z ∧ R (Its z) H1)
theorem pi_seq {tg l : Expr} {tl : TE} (hl : PE X l tl) : PI X tg l (iSeq X.K tl) := by
  intro pins s σ H R I h
  refine thn (hl pins s σ H _ I h) fun v s1 qq0 => ?_
  obtain ⟨x, H1, I1, r1, q1⟩ := qq0
  rcases q1 with ⟨a, rfl, ⟨xs, hq⟩, q⟩ | ⟨a, rfl, ⟨xs, hq⟩, q⟩ | ⟨z, rfl, q⟩
  · cases r1
    obtain ⟨its, rv, p, hz⟩ := I1.list hq
    refine wpAny_pyIter_list p.isList ?_
    refine ⟨s1.heap.objs.size, [s1.heap.objs.size], _, _, H1, rfl, I1.kept (t' := s1.toks) fun b o e => Heap.get?_push_of_some _ e, turn_list a _, ⟨_, Heap.get?_push_size _ rfl, rfl, rfl⟩, fun b hb => ?_, q⟩
    have e : b = s1.heap.objs.size := by simpa using hb
    subst e
    exact I1.fpOk (Nat.le_refl _) (I1.hok.fresh (Nat.le_refl _))
  · cases r1
    obtain ⟨its, rv, p, hz⟩ := I1.tuple hq
    refine wpAny_pyIter_tuple (show s1.heap.IsTuple a its.toArray from p) ?_
    refine ⟨s1.heap.objs.size, [s1.heap.objs.size], _, _, H1, rfl, I1.kept (t' := s1.toks) fun b o e => Heap.get?_push_of_some _ e, turn_tuple a _, ⟨_, Heap.get?_push_size _ rfl, rfl, rfl⟩, fun b hb => ?_, q⟩
    have e : b = s1.heap.objs.size := by simpa using hb
    subst e
    exact I1.fpOk (Nat.le_refl _) (I1.hok.fresh (Nat.le_refl _))
  · obtain ⟨t, rfl⟩ := r1
    have fin : ∀ (ty : String) (T : Turn X.prog X.w X.K tg (Its z) [s1.heap.objs.size] s1.heap.objs.size (fun i h => h.IsStrIter s1.heap.objs.size ty z t i)) (o : Obj), (s1.heap.push o).IsStrIter s1.heap.objs.size ty z t 0 → PIE X pins σ tg R (.ref s1.heap.objs.size) { s1 with heap := s1.heap.push o } :=
      fun ty T o st => ⟨s1.heap.objs.size, [s1.heap.objs.size], _, _, H1, rfl, I1.kept (t' := s1.toks) fun b o e => Heap.get?_push_of_some _ e, T, st, fun b hb => by
        have e : b = s1.heap.objs.size := by simpa using hb
        subst e
        exact I1.fpOk (Nat.le_refl _) (I1.hok.fresh (Nat.le_refl _)), q⟩
    cases ha : z.cps.all (· < 128)
    · exact wpAny_pyIter_wide ha (fin "str_iterator" (turn_str _ z t _ (by decide) (fun A' hA => Walks.strWide hA _ z t) fun A i s Q E st h => wpAny_pyIter_striter_wide st h) _ ⟨_, Heap.get?_push_size _ rfl, rfl, rfl⟩)
    · exact wpAny_pyIter_ascii ha (fin "str_ascii_iterator" (turn_str _ z t _ (by decide) (fun A' hA => Walks.strAscii hA _ z t) fun A i s Q E st h => wpAny_pyIter_striter_ascii st h) _ ⟨_, Heap.get?_push_size _ rfl, rfl, rfl⟩)
end
section
variable {X : Cx} {K : PySem.W.Frag}
theorem ix_seqK (hK : X.K = K) : IxR X (rIx K) := hK ▸ ix_seq
theorem op_inK (hK : X.K = K) : OpR X (compareOp .In) (rInA K) := hK ▸ op_inA
theorem op_eqK (hK : X.K = K) (hu : X.A.units < cLine) : OpR X (compareOp .Eq) (rEqA K) := hK ▸ op_eqA hu
theorem sl_seqK (hK : X.K = K) : SlR X (rSl K) := hK ▸ sl_seq
theorem pi_seqK {tg l : Expr} {tl : TE} (hK : X.K = K) (hl : PE X l tl) : PI X tg l (iSeq K tl) := hK ▸ pi_seq hl
noncomputable def rLen (K : PySem.W.Frag) : List V → Hp → VK → Prop := fun xs H Q => ∃ x n, xs = [x] ∧ LenV K x H n ∧ Q (.int n) H
theorem call_lenK (hK : X.K = K) : CallR X (.builtin "len") (rLen K) := hK ▸ call_len
theorem call_isiK (hK : X.K = K) : CallR X (.builtin "isinstance") (rIsi K) := hK ▸ call_isi
noncomputable def rListA (K : PySem.W.Frag) : List V → Hp → VK → Prop := fun xs H Q => (∃ p ys, xs = [.ref p] ∧ (SqL K H p ys ∨ SqT K H p ys) ∧ ∀ l, H l = none → Q (.ref l) (upd H l (.lst ys))) ∨ (∃ x, xs = [.str x] ∧ x.cps.size ≤ sizeLine ∧ ∀ p, H p = none → Q (.ref p) (upd H p (.lst (sgn x))))
theorem call_listK (hK : X.K = K) (hc : X.calm = true) : CallR X (.type "list") (rListA K) := hK ▸ call_list_of.or (call_list_S hc)
variable {o e : Expr} {es : List Expr} {to : TE} {t : TA} {name : Str} {apos cpos : Pos} {T id : String} {r : V → List V → Hp → VK → Prop}
theorem pe_bmK (hK : X.K = K) (pa : PlainAttrs T) (slot : Slot T name id) (hty : typeOf (.builtin id) = pure (.type "method_descriptor")) (hm : MtR X id r) (ho : PE X o to) (ha : PA X (e :: es) t)
    (hbase : autoParam (attributeBase o name X.env (eval o X.env) = eval o X.env) L2.auto4._auto_1)
    (hfew : ((backTo cpos (starEach (e :: es) X.env)).all (fun x => !x.1) && (backToKw cpos (keywordEach [] X.env)).all (fun x => x.1.isSome)
      && decide ((e :: es).length + ([] : List Keyword).length + (if ([] : List Keyword).isEmpty then 0 else 1) < 30)) = true := by rfl)
    (hline : autoParam ((apos.endLine == cpos.line) = true) L2.auto4._auto_1) (hs : autoParam (starEach (e :: es) X.env = (false, eval e X.env) :: starEach es X.env) L2.auto4._auto_1) (hplain : autoParam ((backTo cpos (starEach es X.env)).any (·.1) = false) L2.auto4._auto_1) :
    PE X (.Call (.Attribute o name apos) (e :: es) [] cpos) (tBM K T r to t) := by
  subst hK; exact pe_bm pa slot hty hm ho ha hbase hfew hline hs hplain
theorem pg_tupK {ts : List Expr} {k : Nat} {gs : TGs} {n : Nat} {pos : Pos} (hK : X.K = K) (hc : X.calm = true) (h : PGs X ts gs)
    (hn : autoParam ((assignEach ts X.env).length = n) L2.auto4._auto_1) (hst : autoParam ((assignEach ts X.env).findIdx? (·.1) = none) L2.auto4._auto_1) : PG X (.Tuple ts k pos) (gTup K n gs) := by
  subst hK; exact pg_tup hc h hn hst
end
section
variable {X : Cx} {sc scope : Scope} {N' : List Str} {C : Addr} {s₀ : Shared} {H₀ : Hp} {ex : List Addr} {x : Str} {pos : Pos}
theorem pvL (i : Nat) (h : sc.names.lookup x = some .local) (hN : autoParam (X.N[i]? = some x) L2.auto4._auto_1) (hsc : autoParam (X.env.scope = sc) L2.auto4._auto_1) (hd : autoParam ((x == ("__debug__" : Str)) = false) L2.auto5._auto_1) (hcd : autoParam ((x == ("__classdict__" : Str)) = false) L2.auto5._auto_1) :
    PE X (.Name x pos) (tVar i) := pe_var hN (.inl (by rw [hsc]; exact h)) hd hcd
theorem pvBL (i : Nat) (h : scope.names.lookup x = some .local) (hN : autoParam (N'[i]? = some x) L2.auto4._auto_1) (hd : autoParam ((x == ("__debug__" : Str)) = false) L2.auto5._auto_1) (hcd : autoParam ((x == ("__classdict__" : Str)) = false) L2.auto5._auto_1) :
    PE (cxC X N' scope C s₀ H₀ ex) (.Name x pos) (tVar i) := pe_var hN (.inl (lookup_relabel_local h)) hd hcd
theorem pvBF (i : Nat) (h : scope.names.lookup x = some .free) (hN : autoParam (N'[i]? = some x) L2.auto4._auto_1) (hd : autoParam ((x == ("__debug__" : Str)) = false) L2.auto5._auto_1) (hcd : autoParam ((x == ("__classdict__" : Str)) = false) L2.auto5._auto_1) :
    PE (cxC X N' scope C s₀ H₀ ex) (.Name x pos) (tVar i) := pe_var hN (by
      rcases relabel_free (env := X.env) h with z | z
      · exact .inr (.inl z)
      · exact .inr (.inr z)) hd hcd
theorem glF (h : sc.names.lookup x = some .globalImplicit) (hsc : autoParam (X.env.scope = sc) L2.auto4._auto_1) : Gl X x := by
  show X.env.scope.names.lookup x = _
  rw [hsc]; exact h
theorem lookup_relabel_glob {env : Env} : ∀ {names : List (Str × NameKind)} {x : Str}, names.lookup x = some .globalImplicit →
    (names.map fun (n, k) => if (k == NameKind.free && env.scope.kind == .function && env.kindOf n == some .cell) then (n, NameKind.cell) else (n, k)).lookup x = some .globalImplicit
  | [], _, h => by simp at h
  | (n, k) :: r, x, h => by
    have ih := @lookup_relabel_glob env r x
    show List.lookup x ((if (k == NameKind.free && env.scope.kind == .function && env.kindOf n == some .cell) = true then (n, NameKind.cell) else (n, k)) :: _) = _
    cases hx : x == n with
    | true =>
      simp only [List.lookup_cons, hx] at h
      cases h
      simp [List.lookup_cons, hx]
    | false =>
      simp only [List.lookup_cons, hx] at h
      by_cases hc : (k == NameKind.free && env.scope.kind == .function && env.kindOf n == some .cell) = true
      · rw [if_pos hc]; simp only [List.lookup_cons, hx]; exact ih h
      · rw [if_neg hc]; simp only [List.lookup_cons, hx]; exact ih h
theorem glB (h : scope.names.lookup x = some .globalImplicit) : Gl (cxC X N' scope C s₀ H₀ ex) x := lookup_relabel_glob h
theorem pgB (i : Nat) (h : scope.names.lookup x = some .local) (hN : N'.Nodup) (hi : autoParam (N'[i]? = some x) L2.auto4._auto_1) : PG (cxC X N' scope C s₀ H₀ ex) (.Name x pos) (gName i) :=
  pg_name hN hi (.inl (lookup_relabel_local h)) (.inr (lookup_relabel_local h))
end
noncomputable def notComp : Expr → Bool
  | .ListComp .. => false | .SetComp .. => false | .DictComp .. => false | _ => true
theorem sw_no {value : Expr} {target : Option Expr} {line : Nat} {env : Env} (h : notComp value = true) : swapsWith value target line env = pure false := by
  cases value <;> first | rfl | cases h
noncomputable def notSlice : Expr → Bool
  | .Slice .. => false | _ => true
theorem pix {b : Expr} (h : notSlice b = true) : PlainIx b := by
  intro o i
  cases b <;> first | rfl | cases h
noncomputable def notSet : Expr → Bool
  | .Set .. => false | _ => true
theorem fs_no {e : Expr} {env : Env} (h : notSet e = true) : ∀ x, foldedSetIterable e env x = pure x := by
  intro x
  cases e <;> first | rfl | cases h
noncomputable def notStar : Expr → Bool
  | .Starred .. => false | _ => true
theorem se_cons {e : Expr} {es : List Expr} {env : Env} (h : notStar e = true) : starEach (e :: es) env = (false, eval e env) :: starEach es env := by
  cases e <;> first | rfl | cases h
theorem se_any {env : Env} {pos : Pos} : ∀ {es : List Expr}, es.all notStar = true → (backTo pos (starEach es env)).any (·.1) = false
  | [], _ => rfl
  | e :: es, h => by
    simp only [List.all_cons, Bool.and_eq_true] at h
    rw [se_cons h.1]
    show (false || (backTo pos (starEach es env)).any (·.1)) = false
    rw [se_any h.2]; rfl
theorem se_all {env : Env} {pos : Pos} : ∀ {es : List Expr}, es.all notStar = true → (backTo pos (starEach es env)).all (fun x => !x.1) = true
  | [], _ => rfl
  | e :: es, h => by
    simp only [List.all_cons, Bool.and_eq_true] at h
    rw [se_cons h.1]
    show (true && (backTo pos (starEach es env)).all (fun x => !x.1)) = true
    rw [se_all h.2]; rfl
section
variable {X : Cx} {K : PySem.W.Frag} {e : Expr} {es : List Expr} {te : TE} {t : TA} {pos p : Pos}
theorem paC (ha : PE X e te) (hr : PA X es t) (h : autoParam (notStar e = true) L2.auto4._auto_1) : PA X (e :: es) (tCons te t) := pa_cons ha hr (se_cons h)
theorem callH {k : Nat} {x : Str} {ps : List Str} {sp : Sp} (F : Has X.prog X.w X.K X.mg X.base k x ps sp) (hr : Room k X.A) (hg : Gl X x) (ha : PA X (e :: es) t) (hdb : (x == ("__debug__" : Str)) = false) (h : autoParam ((e :: es).all notStar = true) L2.auto4._auto_1) :
    PE X (.Call (.Name x p) (e :: es) [] pos) (tCall sp [] E0 t) := by
  simp only [List.all_cons, Bool.and_eq_true] at h
  exact pe_callH F hr hg ha hdb (se_cons h.1) (se_any h.2)
theorem callB {x : Str} {id : String} {r : List V → Hp → VK → Prop} (hc : CallR X (.builtin id) r) (hg : Gl X x) (hm : X.mg x = none) (hv : bootBuiltins x = some (.builtin id)) (ha : PA X (e :: es) t) (hn : x ≠ "__name__") (hdb : (x == ("__debug__" : Str)) = false) (h : autoParam ((e :: es).all notStar = true) L2.auto4._auto_1) :
    PE X (.Call (.Name x p) (e :: es) [] pos) (tCB r t) := by
  simp only [List.all_cons, Bool.and_eq_true] at h
  exact pe_callB hc hg hm hv ha hn hdb (se_cons h.1) (se_any h.2)
theorem callTy {x : Str} {T : String} {r : List V → Hp → VK → Prop} (hc : CallR X (.type T) r) (hg : Gl X x) (hm : X.mg x = none) (hv : bootBuiltins x = some (.type T)) (ha : PA X (e :: es) t) (hn : x ≠ "__name__") (hdb : (x == ("__debug__" : Str)) = false) (h : autoParam ((e :: es).all notStar = true) L2.auto4._auto_1) :
    PE X (.Call (.Name x p) (e :: es) [] pos) (tCB r t) := by
  simp only [List.all_cons, Bool.and_eq_true] at h
  exact pe_callTy hc hg hm hv ha hn hdb (se_cons h.1) (se_any h.2)
noncomputable def notCall : Expr → Bool
  | .Call .. => false | _ => true
theorem ab_no {o : Expr} {f : Str} {env : Env} {w : Sem Value} (h : notCall o = true) : attributeBase o f env w = w := by
  cases o <;> first | rfl | cases h
theorem methK {o : Expr} {to : TE} {name : Str} {apos cpos : Pos} {T id : String} {r : V → List V → Hp → VK → Prop} (hK : X.K = K) (pa : PlainAttrs T) (slot : Slot T name id) (hty : typeOf (.builtin id) = pure (.type "method_descriptor")) (hm : MtR X id r) (ho : PE X o to) (ha : PA X (e :: es) t)
    (hbase : autoParam (notCall o = true) L2.auto4._auto_1) (hl : autoParam (es.length < 20) L2.auto2._auto_1) (hline : autoParam ((apos.endLine == cpos.line) = true) L2.auto4._auto_1) (h : autoParam ((e :: es).all notStar = true) L2.auto4._auto_1) :
    PE X (.Call (.Attribute o name apos) (e :: es) [] cpos) (tBM K T r to t) := by
  have hA := se_all (env := X.env) (pos := cpos) h
  simp only [List.all_cons, Bool.and_eq_true] at h
  refine pe_bmK hK pa slot hty hm ho ha (ab_no hbase) ?_ hline (se_cons h.1) (se_any h.2)
  rw [hA]
  have : (e :: es).length + ([] : List Keyword).length + (if ([] : List Keyword).isEmpty then 0 else 1) < 30 := by simp; omega
  rw [decide_eq_true this]; rfl
theorem psSet {i : Nat} {x : Str} {pos' : Pos} (hN : X.N.Nodup) (hi : X.N[i]? = some x) (hx : Loc X.env.scope x) (he : PE X e te) (hf : X.fn x = true) (h : autoParam (notComp e = true) L2.auto4._auto_1) : PS X (.Assign [.Name x pos'] e pos) (tAsg te (gName i)) :=
  ps_set hN hi hx he (sw_no h) (.inl hf)
theorem psExpr (he : PE X e te) (h : autoParam (notComp e = true) L2.auto4._auto_1) : PS X (.Expr e pos) (tDrop te) := ps_expr he (sw_no h)
theorem ixE {a b : Expr} {ta tb : TE} (hK : X.K = K) (ha : PE X a ta) (hb : PE X b tb) (h : autoParam (notSlice b = true) L2.auto4._auto_1) : PE X (.Subscript a b pos) (tOp (rIx K) ta tb) := pe_ix (ix_seqK hK) ha hb (pix h)
theorem psFor {tg iter : Expr} {body : List Stmt} {wi : TI} {g : TG} {tb : TS} (hp : PassesOwn (model X.prog X.w) X.A X.env X.xe) (hc : X.calm = true) (hi : PI X tg iter wi) (hg : PG X tg g) (hb : PSs X body tb) (h : autoParam (notSet iter = true) L2.auto4._auto_1) : PS X (.For tg iter body [] pos) (tFor wi g tb) :=
  ps_for hp hc hi hg hb (fs_no h)
end
section
variable {X : Cx} {tg iter elt : Expr} {ifs : List Expr} {scope : Scope} {pos : Pos} {N' : List Str} {sub : List (Option Nat)} {wi : TI} {g : TG} {tt : TT} {te : TE} {N : List Str} {sc : Scope}
theorem compE (S : SubOk N sc N' scope sub) (hc : X.calm = true) (hN : X.N = N) (hsc : X.env.scope = sc) (hi : PI X tg iter wi)
    (hg : ∀ (C : Addr) (s₀ : Shared) (H₀ : Hp) (ex : List Addr), PG (cxC X N' scope C s₀ H₀ ex) tg g)
    (ht : ∀ (C : Addr) (s₀ : Shared) (H₀ : Hp) (ex : List Addr), PIfs (cxC X N' scope C s₀ H₀ ex) ifs tt)
    (he : ∀ (C : Addr) (s₀ : Shared) (H₀ : Hp) (ex : List Addr), PE (cxC X N' scope C s₀ H₀ ex) elt te) (h : autoParam (notSet iter = true) L2.auto4._auto_1) :
    PE X (.ListComp elt [⟨tg, iter, ifs, 0⟩] scope pos) (tComp sub wi g tt te) := pe_comp S hc hN hsc hi hg ht he (fs_no h)
end
theorem bt_len : bootBuiltins "len" = some (.builtin "len") := by decide +kernel
theorem bt_max : bootBuiltins "max" = some (.builtin "max") := by decide +kernel
theorem bt_isinstance : bootBuiltins "isinstance" = some (.builtin "isinstance") := by decide +kernel
theorem bt_all : bootBuiltins "all" = some (.builtin "all") := by decide +kernel
theorem bt_sorted : bootBuiltins "sorted" = some (.builtin "sorted") := by decide +kernel
theorem bt_list : bootBuiltins "list" = some (.type "list") := by decide +kernel
theorem bt_int : bootBuiltins "int" = some (.type "int") := by decide +kernel
theorem bt_str : bootBuiltins "str" = some (.type "str") := by decide +kernel
theorem bt_enumerate : bootBuiltins "enumerate" = some (.type "enumerate") := by decide +kernel
theorem bt_zip : bootBuiltins "zip" = some (.type "zip") := by decide +kernel
theorem bt_reversed : bootBuiltins "reversed" = some (.type "reversed") := by decide +kernel
theorem bt_bool : bootBuiltins "bool" = some (.type "bool") := by decide +kernel
theorem iteD {c A B : Prop} [Decidable c] (h1 : c → A) (h2 : ¬ c → B) : if decide c = true then A else B := by
  by_cases h : c
  · rw [if_pos (decide_eq_true h)]; exact h1 h
  · rw [if_neg (by rw [decide_eq_false h]; exact Bool.false_ne_true)]; exact h2 h
theorem atI_int {α : Type} {xs : List α} {k : Int} {v : α} (h0 : 0 ≤ k) (h : xs[k.toNat]? = some v) : atI xs k = some v := by
  have e : ((k.toNat : Nat) : Int) = k := by omega
  rw [← e]
  exact atI_nat h
end L2

namespace L2
open PySem PySem.Spec PyProof.Rows
section
variable {σ : St} {H : Hp} {D : Ends} {ta tb te tc : TE} {tt tu : TT} {Q : VK} {t u : TS} {g : TG}
theorem r_seq (h : t { D with nx := u D } σ H) : tSeq t u D σ H := h
theorem r_next (h : D.nx σ H) : tNext D σ H := h
theorem r_asg (h : te σ H fun x H1 => g x σ H1 D.nx) : tAsg te g D σ H := h
theorem r_name {i : Nat} {v : V} {R : St → Hp → Prop} (h : R (σ.set i (some v)) H) : gName i v σ H R := h
theorem r_sub {to ti : TE} {ts : TSet} {v : V} {R : St → Hp → Prop} (h : to σ H fun o H1 => ti σ H1 fun i H2 => ts o i v H2 fun H3 => R σ H3) : gSub to ti ts v σ H R := h
theorem r_ret (h : te σ H D.rt) : tRet te D σ H := h
theorem r_drop (h : te σ H fun _ H1 => D.nx σ H1) : tDrop te D σ H := h
theorem r_if (h : tt σ H fun b H1 => if b = true then t D σ H1 else u D σ H1) : tIfS tt t u D σ H := h
theorem r_test {R : Bool → Hp → Prop} (h : te σ H fun x H1 => ∃ k, x = .bl k ∧ R k H1) : tTest te σ H R := h
theorem r_tb {R : Bool → Hp → Prop} (h : te σ H fun x H1 => ∃ k, x = .bl k ∧ R k H1) : tB te σ H R := h
theorem r_not {R : Bool → Hp → Prop} (h : tt σ H fun c H1 => R (!c) H1) : tNot tt σ H R := h
theorem r_and {R : Bool → Hp → Prop} (h : tt σ H fun c H1 => if c = true then tu σ H1 R else R false H1) : tAnd tt tu σ H R := h
theorem r_or {R : Bool → Hp → Prop} (h : tt σ H fun c H1 => if c = true then R true H1 else tu σ H1 R) : tOr tt tu σ H R := h
theorem r_andV (h : ta σ H fun x H1 => ∃ c, x = .bl c ∧ if c = true then tb σ H1 Q else Q (.bl false) H1) : tAndV ta tb σ H Q := h
theorem r_var {i : Nat} {v : V} (e : σ[i]? = some (some v)) (h : Q v H) : tVar i σ H Q := ⟨v, e, h⟩
theorem r_C {v : V} (h : Q v H) : tC v σ H Q := h
theorem r_op {r : R2} (h : ta σ H fun x H1 => tb σ H1 fun y H2 => r x y H2 Q) : tOp r ta tb σ H Q := h
theorem r_un {r : V → Hp → VK → Prop} (h : ta σ H fun x H1 => r x H1 Q) : tUn r ta σ H Q := h
theorem r_cb {r : List V → Hp → VK → Prop} {a : TA} (h : a σ H fun vs H1 => r vs H1 Q) : tCB r a σ H Q := h
theorem r_cons {a : TA} {R : List V → Hp → Prop} (h : te σ H fun x H1 => a σ H1 fun xs H2 => R (x :: xs) H2) : tCons te a σ H R := h
theorem r_nil {R : List V → Hp → Prop} (h : R [] H) : tNil σ H R := h
theorem r_call {sp : Sp} {E : XK} {a : TA} (h : a σ H fun vs H1 => sp vs H1 Q E) : tCall sp [] E a σ H Q := by
  unfold tCall
  simpa only [List.append_nil] using h
theorem r_tup {a : TA} (h : a σ H fun xs H1 => xs.length ≤ sizeLine ∧ ∀ p, H1 p = none → Q (.ref p) (upd H1 p (.tup xs))) : tTup a σ H Q := h
theorem r_lst {a : TA} (h : a σ H fun xs H1 => xs.length ≤ sizeLine ∧ ∀ p, H1 p = none → Q (.ref p) (upd H1 p (.lst xs))) : tLst a σ H Q := h
theorem r_bm {K : PySem.W.Frag} {T : String} {r : V → List V → Hp → VK → Prop} {a : TA} (h : te σ H fun x H1 => tyV K T x H1 ∧ a σ H1 fun xs H2 => r x xs H2 Q) : tBM K T r te a σ H Q := h
theorem r_sl {r : V → Option Int → Option Int → Hp → VK → Prop} {tl th : TO} (h : te σ H fun x H1 => tl σ H1 fun l H2 => th σ H2 fun u H3 => r x l u H3 Q) : tSl r te tl th σ H Q := h
theorem r_nop {R : Option Int → Hp → Prop} (h : R none H) : tNoPart σ H R := h
theorem r_part {R : Option Int → Hp → Prop} (h : te σ H fun x H1 => ∃ i, x = .int i ∧ R (some i) H1) : tPart te σ H R := h
theorem r_true {R : Bool → Hp → Prop} (h : R true H) : tTrue σ H R := h
theorem r_rng1 {a : TA} {R : It → Hp → Prop} (h : a σ H fun vs H1 => ∃ j : Int, vs = [.int j] ∧ -(2 ^ 62) ≤ j ∧ j < 2 ^ 62 ∧ R (Itr 0 j.toNat) H1) : iRng1 a σ H R := h
theorem r_iseq {K : PySem.W.Frag} {R : It → Hp → Prop} (h : te σ H fun x H1 => (∃ a, x = .ref a ∧ (∃ xs, SqL K H1 a xs) ∧ R (Itl K a) H1) ∨ (∃ a, x = .ref a ∧ (∃ xs, SqT K H1 a xs) ∧ R (Itt K a) H1) ∨ (∃ z, x = .str z ∧ R (Its z) H1)) : iSeq K te σ H R := h
theorem r_comp {sub : List (Option Nat)} {wi : TI} (h : wi σ H fun J H1 => CompR sub g tt te σ Q J H1) : tComp sub wi g tt te σ H Q := h
theorem r_for {wi : TI} {tbd : TS} (h : wi σ H fun J H1 => ∃ W : Nat → Nat → St → Hp → Prop, (∃ m, W 0 m σ H1) ∧ ∀ i m σ H, W i m σ H →
  (J.stop i H ∧ D.nx σ H) ∨ (J.go i H ∧ ∃ N : St → Hp → Prop, (∀ σ' H', N σ' H' → ∃ m', m' < m ∧ W (i + 1) m' σ' H') ∧ ∀ x H', J.yld i H x H' → g x σ H' fun σ2 H2 => tbd { D with nx := N, ct := N, bk := D.nx } σ2 H2)) : tFor wi g tbd D σ H := h
variable {i j : Int} {x y : Str} {f : Int → Int → V} {C : Int → Int → Prop} {K : PySem.W.Frag}
theorem r_i0 (h : Q (f i j) H) : rI0 f (.int i) (.int j) H Q := ⟨_, _, rfl, rfl, h⟩
theorem r_i (c : C i j) (h : Q (f i j) H) : rI C f (.int i) (.int j) H Q := ⟨_, _, rfl, rfl, c, h⟩
theorem r_addI (h : Q (.int (i + j)) H) : rAddA (.int i) (.int j) H Q := .inl ⟨_, _, rfl, rfl, h⟩
theorem r_addS (c : x.length + y.length ≤ sizeLine) (h : Q (.str (x ++ y)) H) : rAddA (.str x) (.str y) H Q := .inr (.inl ⟨_, _, rfl, rfl, c, h⟩)
theorem r_mulI (c : CMul i j) (h : Q (.int (i * j)) H) : rMulA (.int i) (.int j) H Q := .inl ⟨_, _, rfl, rfl, c, h⟩
theorem r_ixL {p : Addr} {xs : List V} {v : V} (s : SqL K H p xs) (e : atI xs i = some v) (h : Q v H) : rIx K (.ref p) (.int i) H Q := .inl ⟨p, xs, i, v, rfl, rfl, s, e, h⟩
theorem r_ixT {p : Addr} {xs : List V} {v : V} (s : SqT K H p xs) (e : atI xs i = some v) (h : Q v H) : rIx K (.ref p) (.int i) H Q := .inr (.inl ⟨p, xs, i, v, rfl, rfl, s, e, h⟩)
theorem r_ixS {c : Nat} (s : x.length ≤ sizeLine) (e : atI x.cps.toList i = some c) (h : Q (.str ⟨#[c]⟩) H) : rIx K (.str x) (.int i) H Q := .inr (.inr ⟨x, i, c, rfl, rfl, s, e, h⟩)
theorem r_setL {p : Addr} {xs : List V} {n : Nat} {v : V} {R : Hp → Prop} (hp : H p = some (.lst xs)) (e : ixN xs.length i = some n) (h : R (upd H p (.lst (xs.set n v)))) : rSetL (.ref p) (.int i) v H R := ⟨p, xs, i, n, rfl, rfl, hp, e, h⟩
theorem r_inS (h : Q (.bl (!(Builtin.Str.occurrences y x 0 y.length 1).isEmpty)) H) : rInA K (.str x) (.str y) H Q := .inl ⟨_, _, rfl, rfl, h⟩
theorem r_bl {b : Bool} {R : Bool → Prop} (h : R b) : ∃ k, V.bl b = .bl k ∧ R k := ⟨b, rfl, h⟩
theorem r_intE {n : Int} {R : Int → Prop} (h : R n) : ∃ k, V.int n = .int k ∧ R k := ⟨n, rfl, h⟩
end
theorem Same.upd {H H' : Hp} {p : Addr} {o : HO} (s : Same H H') (hn : H' p = none) : Same H (upd H' p o) := fun b u e => by
  have q := s b u e
  rw [upd_ne (fun z => by rw [z, hn] at q; cases q)]
  exact q
end L2

namespace L2
open PySem PySem.Spec PyProof.Rows
noncomputable def Chg (p : Addr) (H H' : Hp) : Prop := ∀ b o, b ≠ p → H b = some o → H' b = some o
theorem Chg.refl (p : Addr) (H : Hp) : Chg p H H := fun _ _ _ e => e
theorem Chg.trans {p : Addr} {H H1 H2 : Hp} (a : Chg p H H1) (b : Chg p H1 H2) : Chg p H H2 := fun c o n e => b c o n (a c o n e)
theorem upd_old {H : Hp} {q b : Addr} {o u : HO} (hq : H q = none) (hb : H b = some u) : upd H q o b = some u := by
  rw [upd_ne (fun z => by rw [z, hq] at hb; cases hb)]; exact hb
theorem pickV {vs : List V} {d : Int} (h0 : 0 ≤ d) (h1 : d < vs.length) : ∃ v, v ∈ vs ∧ atI vs d = some v := by
  have hl : d.toNat < vs.length := by omega
  exact ⟨vs[d.toNat], List.getElem_mem hl, atI_int h0 (List.getElem?_eq_getElem hl)⟩
theorem glued_join (sep : Str) (ys : List Str) : Txt.join sep ys = Str.join sep ys := by
  show Builtin.Str.glued sep ys = Str.join sep ys
  exact PySem.StrLaws.glued_eq_join sep ys
theorem join_cps (ys : List Str) : (Txt.join (Str.ofString "") ys).cps.toList = (ys.map fun y => y.cps.toList).flatten := by
  rw [glued_join]
  have e0 : (Str.ofString "").cps = #[] := by decide +kernel
  have key : ∀ ys : List Str, (Str.join (Str.ofString "") ys).cps.toList = (ys.map fun y => y.cps.toList).flatten := by
    intro ys
    induction ys with
    | nil => rfl
    | cons y r ih =>
      cases r with
      | nil => simp [Str.join]
      | cons z r =>
        show ((y ++ Str.ofString "") ++ Str.join (Str.ofString "") (z :: r)).cps.toList = _
        rw [Str.cps_append, Str.cps_append, e0]
        simp only [Array.append_empty, Array.toList_append, ih, List.map_cons, List.flatten_cons]
  exact key ys
theorem sum_ones {ys : List Str} (h : ∀ y ∈ ys, y.length = 1) : (ys.map (·.length)).sum = ys.length := by
  induction ys with
  | nil => rfl
  | cons y r ih =>
    simp only [List.map_cons, List.sum_cons, List.length_cons, h y (by simp), ih fun z hz => h z (by simp [hz])]
    omega
theorem len1 (c : Nat) : (⟨#[c]⟩ : Str).length = 1 := by simp [Str.length]
section
variable {H : Hp} {Q : VK} {K : PySem.W.Frag}
theorem r_lenL {p : Addr} {xs : List V} (s : SqL K H p xs) (h : Q (.int xs.length) H) : rLen K [V.ref p] H Q := ⟨_, _, rfl, .inl ⟨_, s, rfl⟩, h⟩
theorem r_lenS {z : Str} (s : z.length ≤ sizeLine) (h : Q (.int z.length) H) : rLen K [V.str z] H Q := ⟨_, _, rfl, ⟨s, rfl⟩, h⟩
theorem r_ii {i j : Int} {R : Int → Int → Prop} (h : R i j) : ∃ a b, [V.int i, V.int j] = [.int a, .int b] ∧ R a b := ⟨_, _, rfl, h⟩
theorem r_isi {x : V} {T : String} {t : Value} {b : Bool} (ty : TyOf K H x t) (e : PySem.W.kitOne K t (.type T) = some b) (h : Q (.bl b) H) : rIsi K [x, .ty T] H Q := ⟨x, T, t, b, rfl, ty, e, h⟩
theorem r_join {sep : Str} {p : Addr} {ys : List Str} (hp : H p = some (.lst (ys.map V.str))) (hz : (ys.map (·.length)).sum + ys.length * sep.length ≤ 16777216) (h : Q (.str (Txt.join sep ys)) H) : rJoin (.str sep) [.ref p] H Q := ⟨sep, p, ys, rfl, rfl, hp, hz, h⟩
theorem r_slS {x : Str} {lo hi : Option Int} (hz : x.length ≤ sizeLine) (h : Q (.str (Txt.slice x lo hi)) H) : rSl K (.str x) lo hi H Q := .inr (.inr ⟨x, rfl, hz, h⟩)
theorem r_slL {p : Addr} {xs : List V} {lo hi : Option Int} (s : SqL K H p xs) (h : ∀ q, H q = none → Q (.ref q) (upd H q (.lst (cutV xs lo hi)))) : rSl K (.ref p) lo hi H Q := .inl ⟨p, xs, rfl, s, h⟩
end
section
variable {σ : St} {H : Hp} {Q : VK}
theorem r_listL {K : PySem.W.Frag} {a : Addr} {xs : List V} (s : SqL K H a xs) (h : ∀ p, H p = none → Q (.ref p) (upd H p (.lst xs))) : rListA K [.ref a] H Q := .inl ⟨a, xs, rfl, .inl s, h⟩
end
theorem TyOf.mono {K : PySem.W.Frag} {H H' : Hp} {v : V} {T : String} (h : TyOf K H v (.type T)) (s : ∀ b o, H b = some o → v = .ref b → H' b = some o) : TyOf K H' v (.type T) := by
  generalize e : (Value.type T) = t at h
  cases h with
  | non => exact .non
  | bl x => exact .bl x
  | int i => exact .int i
  | str x => exact .str x
  | flt x => exact .flt x
  | lst z => exact .lst (s _ _ z rfl)
  | frz z => exact .frz (s _ _ z rfl)
  | tup z => exact .tup (s _ _ z rfl)
  | dK z => exact .dK (s _ _ z rfl)
  | dT z => exact .dT (s _ _ z rfl)
  | ins => cases e
theorem comp_rng {sub : List (Option Nat)} {g : TG} {tt : TT} {te : TE} {σ : St} {Q : VK} {H : Hp} {lo : Int} {n : Nat} (Pv : Nat → List V → Hp → Prop) (hn : n ≤ sizeLine) (h0 : Pv 0 [] H) (hl : ∀ i ys H, Pv i ys H → ys.length ≤ i)
    (hs : ∀ i ys H, i < n → Pv i ys H → g (.int (lo + i)) (subSt sub σ) H fun σ2 H2 => KeepSt (subSt sub σ) σ2 ∧ tt σ2 H2 fun b H3 => if b = true then te σ2 H3 fun y H4 => Pv (i + 1) (ys ++ [y]) H4 else Pv (i + 1) ys H3)
    (hd : ∀ ys H, Pv n ys H → ∀ D, H D = none → Q (.ref D) (upd H D (.lst ys))) : CompR sub g tt te σ Q (Itr lo n) H :=
  comp_by (n := n) Pv hn h0 hl (fun i ys H hi _ => hi) (fun ys H _ => Nat.le_refl _) (fun i ys H x H' hi p y => by
    obtain ⟨e1, e2⟩ := y
    subst e1 e2
    exact hs i ys _ hi p) hd
theorem comp_str {sub : List (Option Nat)} {g : TG} {tt : TT} {te : TE} {σ : St} {Q : VK} {H : Hp} {z : Str} (Pv : Nat → List V → Hp → Prop) (hn : z.cps.size ≤ sizeLine) (h0 : Pv 0 [] H) (hl : ∀ i ys H, Pv i ys H → ys.length ≤ i)
    (hs : ∀ i ys H c, z.cps.toList[i]? = some c → Pv i ys H → g (.str ⟨#[c]⟩) (subSt sub σ) H fun σ2 H2 => KeepSt (subSt sub σ) σ2 ∧ tt σ2 H2 fun b H3 => if b = true then te σ2 H3 fun y H4 => Pv (i + 1) (ys ++ [y]) H4 else Pv (i + 1) ys H3)
    (hd : ∀ ys H, Pv z.cps.size ys H → ∀ D, H D = none → Q (.ref D) (upd H D (.lst ys))) : CompR sub g tt te σ Q (Its z) H :=
  comp_by (n := z.cps.size) Pv hn h0 hl (fun i ys H hi _ => hi) (fun ys H _ => rfl) (fun i ys H x H' hi p y => by
    obtain ⟨e1, c, e2, e3⟩ := y
    subst e1 e3
    exact hs i ys _ c (by simpa using e2) p) hd
theorem comp_list {sub : List (Option Nat)} {g : TG} {tt : TT} {te : TE} {σ : St} {Q : VK} {H : Hp} {K : PySem.W.Frag} {a : Addr} {xs : List V} (Pv : Nat → List V → Hp → Prop) (hn : xs.length ≤ sizeLine) (h0 : Pv 0 [] H) (hl : ∀ i ys H, Pv i ys H → ys.length ≤ i)
    (hq : ∀ i ys H, Pv i ys H → SqL K H a xs)
    (hs : ∀ i ys H x, xs[i]? = some x → Pv i ys H → g x (subSt sub σ) H fun σ2 H2 => KeepSt (subSt sub σ) σ2 ∧ tt σ2 H2 fun b H3 => if b = true then te σ2 H3 fun y H4 => Pv (i + 1) (ys ++ [y]) H4 else Pv (i + 1) ys H3)
    (hd : ∀ ys H, Pv xs.length ys H → ∀ D, H D = none → Q (.ref D) (upd H D (.lst ys))) : CompR sub g tt te σ Q (Itl K a) H :=
  comp_by (n := xs.length) Pv hn h0 hl (fun i ys H hi p => ⟨xs, xs[i], hq i ys H p, List.getElem?_eq_getElem hi⟩) (fun ys H p => ⟨xs, hq _ ys H p, Nat.le_refl _⟩) (fun i ys H x H' hi p y => by
    obtain ⟨e1, e2⟩ := y
    subst e1
    exact hs i ys _ x (e2 xs (hq i ys _ p)) p) hd
end L2

namespace L2
open PySem PySem.Spec PyProof.Rows
structure JE (X : Cx) (e : Expr) (t : TE) : Prop where
  run : PE X e t
structure JT (X : Cx) (e : Expr) (t : TT) : Prop where
  run : PT X e t
structure JW (X : Cx) (e : Expr) (t : TT) : Prop where
  run : PW X e t
structure JA (X : Cx) (es : List Expr) (t : TA) : Prop where
  run : PA X es t
structure JS (X : Cx) (s : Stmt) (t : TS) : Prop where
  run : PS X s t
structure JB (X : Cx) (s : List Stmt) (t : TS) : Prop where
  run : PSs X s t
structure JI (X : Cx) (tg iter : Expr) (t : TI) : Prop where
  run : PI X tg iter t
structure JG (X : Cx) (tg : Expr) (t : TG) : Prop where
  run : PG X tg t
structure JGs (X : Cx) (tg : List Expr) (t : TGs) : Prop where
  run : PGs X tg t
structure JO (X : Cx) (e : Option Expr) (t : TO) : Prop where
  run : PO X e t
structure JPs (X : Cx) (pos : Pos) (keys : List (Option Expr)) (values : List Expr) (t : List (TE × TE)) : Prop where
  run : PPs X pos keys values t
structure JIfs (X : Cx) (ifs : List Expr) (t : TT) : Prop where
  run : PIfs X ifs t
section
variable {X : Cx} {K : PySem.W.Frag} {sc scope : Scope} {N' : List Str} {C : Addr} {s₀ : Shared} {H₀ : Hp} {ex : List Addr} {x : Str} {pos p p2 pos' apos cpos tpos : Pos} {a b c e o : Expr} {es : List Expr} {ta tb tc te to ti : TE} {t : TA} {tA tB' tt : TT} {rest : List Expr}
theorem j_vL (i : Nat) (h : sc.names.lookup x = some .local) (hN : autoParam (X.N[i]? = some x) L2.auto4._auto_1) (hsc : autoParam (X.env.scope = sc) L2.auto4._auto_1) (hd : autoParam ((x == ("__debug__" : Str)) = false) L2.auto5._auto_1) (hcd : autoParam ((x == ("__classdict__" : Str)) = false) L2.auto5._auto_1) : JE X (.Name x pos) (tVar i) := ⟨pvL i h hN hsc hd hcd⟩
theorem j_vBL (i : Nat) (h : scope.names.lookup x = some .local) (hN : autoParam (N'[i]? = some x) L2.auto4._auto_1) (hd : autoParam ((x == ("__debug__" : Str)) = false) L2.auto5._auto_1) (hcd : autoParam ((x == ("__classdict__" : Str)) = false) L2.auto5._auto_1) : JE (cxC X N' scope C s₀ H₀ ex) (.Name x pos) (tVar i) := ⟨pvBL i h hN hd hcd⟩
theorem j_vBF (i : Nat) (h : scope.names.lookup x = some .free) (hN : autoParam (N'[i]? = some x) L2.auto4._auto_1) (hd : autoParam ((x == ("__debug__" : Str)) = false) L2.auto5._auto_1) (hcd : autoParam ((x == ("__classdict__" : Str)) = false) L2.auto5._auto_1) : JE (cxC X N' scope C s₀ H₀ ex) (.Name x pos) (tVar i) := ⟨pvBF i h hN hd hcd⟩
theorem j_int {i j} : JE X (.Constant (.int i) j pos) (tC (.int i)) := ⟨pe_int⟩
theorem j_bl {i j} : JE X (.Constant (.bool i) j pos) (tC (.bl i)) := ⟨pe_bl⟩
theorem j_str {i j} : JE X (.Constant (.str i) j pos) (tC (.str i)) := ⟨pe_str⟩
theorem j_gstr {z : Str} (hg : Gl X x) (hm : ∃ t, X.mg x = some (.str z t)) (hd : (x == ("__debug__" : Str)) = false) : JE X (.Name x pos) (tC (.str z)) := ⟨glob_str hg hm hd⟩
theorem j_gint {z : Int} (hg : Gl X x) (hm : ∃ t, X.mg x = some (.int z t)) (hd : (x == ("__debug__" : Str)) = false) : JE X (.Name x pos) (tC (.int z)) := ⟨glob_int hg hm hd⟩
theorem j_ty {T : String} (hg : Gl X x) (hm : X.mg x = none) (hv : bootBuiltins x = some (.type T)) (hn : x ≠ "__name__") (hd : (x == ("__debug__" : Str)) = false) : JE X (.Name x pos) (tC (.ty T)) := ⟨pe_ty hg hm hv hn hd⟩
theorem j_op {op : Operator} {r : R2} (ho : OpR X (binaryOp op) r) (ha : JE X a ta) (hb : JE X b tb) : JE X (.BinOp a op b pos) (tOp r ta tb) := ⟨pe_op ho ha.run hb.run⟩
theorem j_un {op : UnaryOp} {r : V → Hp → VK → Prop} (ho : UnR X (unaryOp op) r) (ha : JE X a ta) : JE X (.UnaryOp op a pos) (tUn r ta) := ⟨pe_un ho ha.run⟩
theorem j_cmp {op : CmpOp} {r : R2} (ho : OpR X (compareOp op) r) (ha : JE X a ta) (hb : JE X b tb) (hm : behindInMarks op b = false) : JE X (.Compare a [op] [b] pos) (tOp r ta tb) := ⟨pe_cmpR ho ha.run hb.run hm⟩
theorem jt_cmp {op : CmpOp} {r : R2} (ho : OpR X (compareOp op) r) (ha : JE X a ta) (hb : JE X b tb) (hm : behindInMarks op b = false) : JT X (.Compare a [op] [b] pos) (tTest (tOp r ta tb)) := ⟨pt_cmpR ho ha.run hb.run hm⟩
theorem jw_and1 (ha : JT X a tA) : JW X (.BoolOp .And [a] pos) tA := ⟨pw_and1 ha.run⟩
theorem jw_or1 (ha : JT X a tA) : JW X (.BoolOp .Or [a] pos) tA := ⟨pw_or1 ha.run⟩
theorem jw_and (ha : JT X a tA) (hb : JW X (.BoolOp .And (b :: rest) pos) tB') : JW X (.BoolOp .And (a :: b :: rest) pos) (tAnd tA tB') := ⟨pw_and ha.run hb.run⟩
theorem jw_or (ha : JT X a tA) (hb : JW X (.BoolOp .Or (b :: rest) pos) tB') : JW X (.BoolOp .Or (a :: b :: rest) pos) (tOr tA tB') := ⟨pw_or ha.run hb.run⟩
theorem jw_pt (h : JW X e tt) : JT X e tt := ⟨h.run.pt⟩
theorem jt_not (ha : JT X a tA) : JT X (.UnaryOp .Not a pos) (tNot tA) := ⟨pt_not ha.run⟩
noncomputable def plainT : Expr → Bool
  | .BoolOp .. => false | .UnaryOp .. => false | .Compare .. => false | .IfExp .. => false | _ => true
theorem jt_val (h : JE X e te) (hp : autoParam (plainT e = true) L2.auto4._auto_1) : JT X e (tB te) := ⟨pt_val h.run (by
  intro whole
  cases e <;> first | rfl | cases hp)⟩
theorem j_one {op} (h : JE X a te) : JE X (.BoolOp op [a] pos) te := ⟨pe_one h.run⟩
theorem j_and (ha : JE X a ta) (hb : JE X (.BoolOp .And (b :: rest) pos) tb) : JE X (.BoolOp .And (a :: b :: rest) pos) (tAndV ta tb) := ⟨pe_and ha.run hb.run⟩
theorem j_tup {x1} (h : JA X es t) : JE X (.Tuple es x1 pos) (tTup t) := ⟨pe_tup h.run⟩
theorem j_lst (h : JA X es t) : JE X (.List es pos) (tLst t) := ⟨pe_lst h.run⟩
theorem ja_nil : JA X [] tNil := ⟨pa_nil⟩
theorem ja_cons (ha : JE X e te) (hr : JA X es t) (h : autoParam (notStar e = true) L2.auto4._auto_1) : JA X (e :: es) (tCons te t) := ⟨paC ha.run hr.run h⟩
theorem jo_none : JO X none tNoPart := ⟨po_none⟩
theorem jo_some (h : JE X e te) : JO X (some e) (tPart te) := ⟨po_some h.run⟩
theorem j_slice {r : V → Option Int → Option Int → Hp → VK → Prop} {lo hi : Option Expr} {tl th : TO} (hr : SlR X r) (he : JE X e te) (hl : JO X lo tl) (hu : JO X hi th) : JE X (.Subscript e (.Slice lo hi none p2) pos) (tSl r te tl th) := ⟨pe_slice hr he.run hl.run hu.run⟩
theorem j_ix (hK : X.K = K) (ha : JE X a ta) (hb : JE X b tb) (h : autoParam (notSlice b = true) L2.auto4._auto_1) : JE X (.Subscript a b pos) (tOp (rIx K) ta tb) := ⟨ixE hK ha.run hb.run h⟩
theorem j_call {k : Nat} {ps : List Str} {sp : Sp} (F : Has X.prog X.w X.K X.mg X.base k x ps sp) (hr : Room k X.A) (hg : Gl X x) (ha : JA X (e :: es) t) (hdb : (x == ("__debug__" : Str)) = false) (h : autoParam ((e :: es).all notStar = true) L2.auto4._auto_1) :
    JE X (.Call (.Name x p) (e :: es) [] pos) (tCall sp [] E0 t) := ⟨callH F hr hg ha.run hdb h⟩
theorem j_callB {id : String} {r : List V → Hp → VK → Prop} (hc : CallR X (.builtin id) r) (hg : Gl X x) (hm : X.mg x = none) (hv : bootBuiltins x = some (.builtin id)) (ha : JA X (e :: es) t) (hn : x ≠ "__name__") (hdb : (x == ("__debug__" : Str)) = false) (h : autoParam ((e :: es).all notStar = true) L2.auto4._auto_1) :
    JE X (.Call (.Name x p) (e :: es) [] pos) (tCB r t) := ⟨callB hc hg hm hv ha.run hn hdb h⟩
theorem j_callTy {T : String} {r : List V → Hp → VK → Prop} (hc : CallR X (.type T) r) (hg : Gl X x) (hm : X.mg x = none) (hv : bootBuiltins x = some (.type T)) (ha : JA X (e :: es) t) (hn : x ≠ "__name__") (hdb : (x == ("__debug__" : Str)) = false) (h : autoParam ((e :: es).all notStar = true) L2.auto4._auto_1) :
    JE X (.Call (.Name x p) (e :: es) [] pos) (tCB r t) := ⟨callTy hc hg hm hv ha.run hn hdb h⟩
theorem j_meth {name : Str} {T id : String} {r : V → List V → Hp → VK → Prop} (hK : X.K = K) (pa : PlainAttrs T) (slot : Slot T name id) (hty : typeOf (.builtin id) = pure (.type "method_descriptor")) (hm : MtR X id r) (ho : JE X o to) (ha : JA X (e :: es) t)
    (hbase : autoParam (notCall o = true) L2.auto4._auto_1) (hl : autoParam (es.length < 20) L2.auto2._auto_1) (hline : autoParam ((apos.endLine == cpos.line) = true) L2.auto4._auto_1) (h : autoParam ((e :: es).all notStar = true) L2.auto4._auto_1) : JE X (.Call (.Attribute o name apos) (e :: es) [] cpos) (tBM K T r to t) := ⟨methK hK pa slot hty hm ho.run ha.run hbase hl hline h⟩
theorem jif_nil : JIfs X [] tTrue := ⟨pifs_nil⟩
variable {tg iter elt : Expr} {ifs : List Expr} {sub : List (Option Nat)} {wi : TI} {g : TG} {N : List Str}
theorem ji_range1 {ta : TA} (hg : Gl X "range") (hm : X.mg "range" = none) (ha : JA X [a] ta) (h : autoParam (notStar a = true) L2.auto4._auto_1) : JI X tg (.Call (.Name "range" p) [a] [] pos) (iRng1 ta) := ⟨pi_range1 hg hm ha.run (se_cons h)⟩
theorem ji_seq (hK : X.K = K) (hl : JE X e te) : JI X tg e (iSeq K te) := ⟨pi_seqK hK hl.run⟩
theorem jg_name {i : Nat} (hN : X.N.Nodup) (hi : X.N[i]? = some x) (hx : Loc X.env.scope x) (hf : X.fn x = true) : JG X (.Name x pos) (gName i) := ⟨pg_name hN hi hx (.inl hf)⟩
theorem jg_B (i : Nat) (h : scope.names.lookup x = some .local) (hN : N'.Nodup) (hi : autoParam (N'[i]? = some x) L2.auto4._auto_1) : JG (cxC X N' scope C s₀ H₀ ex) (.Name x pos) (gName i) := ⟨pgB i h hN hi⟩
theorem jgs_nil : JGs X [] gNil := ⟨pgs_nil⟩
theorem jgs_cons {gs : TGs} (h1 : JG X e g) (h2 : JGs X es gs) (hs : autoParam ((assignEach (e :: es) X.env).map (·.2) = assign e X.env :: (assignEach es X.env).map (·.2)) L2.auto4._auto_1) : JGs X (e :: es) (gCons g gs) := ⟨pgs_cons h1.run h2.run hs⟩
theorem jg_tup {ts : List Expr} {k : Nat} {gs : TGs} {n : Nat} (hK : X.K = K) (hc : X.calm = true) (h : JGs X ts gs) (hn : autoParam ((assignEach ts X.env).length = n) L2.auto4._auto_1) (hst : autoParam ((assignEach ts X.env).findIdx? (·.1) = none) L2.auto4._auto_1) : JG X (.Tuple ts k pos) (gTup K n gs) := ⟨pg_tupK hK hc h.run hn hst⟩
theorem jg_sub {ts : TSet} (ho : JE X a ta) (hi : JE X b tb) (hs : PSet X ts) (h : autoParam (notSlice b = true) L2.auto4._auto_1) : JG X (.Subscript a b pos) (gSub ta tb ts) := ⟨pg_sub ho.run hi.run hs (by
  intro v
  cases b <;> first | rfl | cases h)⟩
theorem j_comp (S : SubOk N sc N' scope sub) (hc : X.calm = true) (hN : X.N = N) (hsc : X.env.scope = sc) (hi : JI X tg iter wi)
    (hg : ∀ (C : Addr) (s₀ : Shared) (H₀ : Hp) (ex : List Addr), JG (cxC X N' scope C s₀ H₀ ex) tg g)
    (ht : ∀ (C : Addr) (s₀ : Shared) (H₀ : Hp) (ex : List Addr), JIfs (cxC X N' scope C s₀ H₀ ex) ifs tt)
    (he : ∀ (C : Addr) (s₀ : Shared) (H₀ : Hp) (ex : List Addr), JE (cxC X N' scope C s₀ H₀ ex) elt te) (h : autoParam (notSet iter = true) L2.auto4._auto_1) :
    JE X (.ListComp elt [⟨tg, iter, ifs, 0⟩] scope pos) (tComp sub wi g tt te) := ⟨compE S hc hN hsc hi.run (fun C s₀ H₀ ex => (hg C s₀ H₀ ex).run) (fun C s₀ H₀ ex => (ht C s₀ H₀ ex).run) (fun C s₀ H₀ ex => (he C s₀ H₀ ex).run) h⟩
variable {st : Stmt} {sts : List Stmt} {u v : TS}
theorem js_set {i : Nat} (hN : X.N.Nodup) (hi : X.N[i]? = some x) (hx : Loc X.env.scope x) (he : JE X e te) (hf : X.fn x = true) (h : autoParam (notComp e = true) L2.auto4._auto_1) : JS X (.Assign [.Name x pos'] e pos) (tAsg te (gName i)) := ⟨psSet hN hi hx he.run hf h⟩
theorem js_asgS {ts : TSet} (he : JE X e te) (hg : JG X (.Subscript a b pos') g) (h : autoParam (notComp e = true) L2.auto4._auto_1) : JS X (.Assign [.Subscript a b pos'] e pos) (tAsg te g) := ⟨ps_asg he.run hg.run (by show swapsWith e (some (.Subscript a b pos')) pos.line X.env = pure false; exact sw_no h) (by cases e <;> rfl) rfl⟩
theorem js_ret (he : JE X e te) : JS X (.Return (some e) pos) (tRet te) := ⟨ps_ret he.run⟩
theorem js_expr (he : JE X e te) (h : autoParam (notComp e = true) L2.auto4._auto_1) : JS X (.Expr e pos) (tDrop te) := ⟨psExpr he.run h⟩
theorem js_if {sa sb : List Stmt} (hc : JT X c tt) (ha : JB X sa u) (hb : JB X sb v) : JS X (.If c sa sb pos) (tIfS tt u v) := ⟨ps_if hc.run ha.run hb.run⟩
theorem js_for {body : List Stmt} (hp : PassesOwn (model X.prog X.w) X.A X.env X.xe) (hc : X.calm = true) (hi : JI X tg iter wi) (hg : JG X tg g) (hb : JB X body u) (h : autoParam (notSet iter = true) L2.auto4._auto_1) : JS X (.For tg iter body [] pos) (tFor wi g u) := ⟨psFor hp hc hi.run hg.run hb.run h⟩
theorem jb_nil : JB X [] tNext := ⟨pss_nil⟩
theorem jb_one (h : JS X st u) : JB X [st] u := ⟨pss_one h.run⟩
theorem jb_cons (h : JS X st u) (h2 : JB X sts v) : JB X (st :: sts) (tSeq u v) := ⟨pss_cons h.run h2.run⟩
end
section
variable {P : Program} {w : World} {K : PySem.W.Frag} {mg : Str → Option Value} {base : Heap}
theorem hasJ {x : Str} {st : Stmt} {N ps : List Str} {k : Nat} {sp : Sp} (D : Def K mg x st) (S : FnScope N ps (defScope st))
    (hb : ∀ (kV doc pm : Value) (an : Option Addr) (cdv ct : Value) (us : List Value), us.length = ps.length → bindArgs (PySem.W.fnOf x x (defArgs st) (defBody st) (defScope st) .none kV doc pm an cdv ct) ⟨us, []⟩ = pure (ps.zip us))
    (len : ∀ vs H Q E, sp vs H Q E → vs.length = ps.length)
    (hbody : ∀ (f : Addr) (cdv : Value) (A : Around) (outer : List Env) (s : Shared) (H : Hp) (vs : List V) (Q : VK) (E : XK), Room k (A.deeper (envOfC x (defScope st) s.heap.objs.size f cdv)) → sp vs H Q E →
      ∃ t, JB (cxOf CX0 P w K mg base N x (defScope st) f cdv A outer s H E).nox (defBody st) t ∧ t { nx := fun _ H' => Q .non H', rt := Q } (start N vs) H) : Has P w K mg base (k + 1) x ps sp :=
  has_of D S hb len fun f cdv A outer s H vs Q E hr h => let ⟨t, j, q⟩ := hbody f cdv A outer s H vs Q E hr h; ⟨t, j.run, q⟩
theorem okJ {x : Str} {st : Stmt} {N ps : List Str} {k : Nat} {sp : Sp} {f : Addr} {fd : FuncData} (F : Fun K x x st f fd) (S : FnScope N ps (defScope st)) (len : ∀ vs H Q E, sp vs H Q E → vs.length = ps.length)
    (hbody : ∀ (f : Addr) (cdv : Value) (A : Around) (outer : List Env) (s : Shared) (H : Hp) (vs : List V) (Q : VK) (E : XK), Room k (A.deeper (envOfC x (defScope st) s.heap.objs.size f cdv)) → sp vs H Q E →
      ∃ t, JB (cxOf CX0 P w K mg base N x (defScope st) f cdv A outer s H E).nox (defBody st) t ∧ t { nx := fun _ H' => Q .non H', rt := Q } (start N vs) H) : FnOk P w K mg base CX0 (k + 1) f fd ps sp :=
  F.ok S len fun cdv A outer s H vs Q E hr h => let ⟨t, j, q⟩ := hbody f cdv A outer s H vs Q E hr h; ⟨t, j.run, q⟩
end
theorem const_mk {K : PySem.W.Frag} {mg : Str → Option Value} {h : Heap} (X : K.In h) (G : h.Ns mainGlobals mg) {x : Str} {v : Value} {f : Tok → Value} (a : PySem.W.nsIn K mainGlobals x = some (some v)) (e : ∃ t, v = f t) : ∃ t, mg x = some (f t) := by
  obtain ⟨t, rfl⟩ := e
  exact ⟨t, PySem.W.mg_of X G a⟩
theorem walkJ {l : PySem.W.OpenLaw} {q : Program} {loose : List Str} {XP : (Str → Option Value) → Heap → Prop} {YP : World → Heap → Prop} {d : DefRec} {K : Params → PySem.W.Frag} {st : Stmt} {k : Nat} {sp : PySem.W.Frag → Sp} {x : Str}
    (hn : l.most = some 63) (hdf : d.params.defaults = []) (hdn : d.name = "law") (hk : Room k callerA) (hY : ∀ (w : World) (h : Heap), YP w h → (K w.params).In h)
    (hb : ∀ (kV doc pm : Value) (an : Option Addr) (cdv ct : Value) (us : List Value), us.length = [x].length → bindArgs (PySem.W.fnOf "law" "law" (defArgs st) (defBody st) (defScope st) .none kV doc pm an cdv ct) ⟨us, []⟩ = pure ([x].zip us))
    (F : ∀ (w : World) (mg : Str → Option Value) (h : Heap), (K w.params).In h → h.Ns mainGlobals mg → Def (K w.params) mg "law" st ∧ ∀ (base : Heap) (f : Addr) (fd : FuncData), Fun (K w.params) "law" "law" st f fd → FnOk l.prog w (K w.params) mg base CX0 k f fd [x] (sp (K w.params)))
    (hsp : ∀ (K : PySem.W.Frag) (H : Hp) (a : Addr) (ns : List Int), ns.length ≤ 63 → SqL K H a (ns.map V.int) → sp K [.ref a] H (fun v _ => v = .bl true) fun _ _ _ => False) (him : autoParam (importsNone q = true) L2.auto5._auto_1) :
    PySem.W.WalkO q loose XP YP l.row.toRowW d [] (fun f vs => PySem.call f vs) :=
  L2.walk_of (n := 63) (k := k) (x := x) (CX := fun _ => CX0) (sp := fun w => sp (K w.params)) hn (by decide) hdf hk hY (fun w mg fa h X G e => by
    obtain ⟨⟨f, fd, Fn, hm⟩, ok⟩ := F w mg h X G
    rw [hdn, hm] at e
    have ef : f = fa := by injection (Option.some.inj e)
    subst ef
    refine ⟨fd, fun s u => ?_, fun base _ _ => ok base f fd Fn⟩
    obtain ⟨oc, od, kV, doc, pm, an, cdv, ct, osl, rfl, lk, hcd⟩ := Fn.ex
    exact .of_eq (hb kV doc pm an cdv ct [u] rfl)) (fun w H a ns hl _ hS => hsp _ H a ns hl hS) (fun _ _ _ _ _ z => z) him
end L2

namespace L2
open PySem PySem.Spec PyProof.Rows
noncomputable def Itp (xs : Nat → List V) (n : Nat) : It := ⟨fun i _ => i < n, fun i H v H' => ∃ T, H T = none ∧ v = .ref T ∧ H' = upd H T (.tup (xs i)), fun i _ => i = n⟩
theorem turn_T {P : Program} {w : World} {K : PySem.W.Frag} {elts : List Expr} {k : Nat} {pos : Pos} {it : Addr} {fp wr : List Addr} {n : Nat} {xs : Nat → List V} {Pt : Nat → Array Value → Prop} {St : Nat → Heap → Prop} {Mid : Nat → Addr → Heap → Prop}
    (W : ∀ A : Around, A.handled = none → WalksT P w A it fp wr n Pt St Mid) (hxs : ∀ i, (xs i).length ≤ sizeLine) (hPt : ∀ i vals, Pt i vals → Vals (xs i) vals.toList) (hmem : it ∈ fp)
    (hobj : ∀ i h, St i h → ∀ b ∈ fp, ∃ o, h.get? b = some o ∧ ∀ v, o.data ≠ .cell v)
    (hself : ∀ (A : Around) (i : Nat) (s : Shared) (Q : Value → Shared → Prop) (E : Value → Shared → Prop), St i s.heap → Q (.ref it) s → wpAny (model P w) A (pyIter (.ref it)) Q E s) :
    Turn P w K (.Tuple elts k pos) (Itp xs n) fp it St where
  mem := hmem
  obj := hobj
  keep := fun i h h' st kk => (W {} rfl).frame i h h' st kk
  item := by
    intro X hP hw hK hc i pins s σ H E I hf st hg
    subst hP hw hK
    have W' := W X.A (I.ok.hd hc)
    refine W'.item i s _ _ hg st fun T vals h' tk hPv hT isT mid kk => ?_
    refine ⟨.ref T, rfl, W'.go elts k pos i T _ _ _ mid fun h'' st'' kk2 => ?_⟩
    have hTn : H T = none := I.hok.fresh hT
    have hTw : T ∉ wr := W'.apart i T h' mid
    have kall : ∀ b o, b ∉ wr → s.heap.get? b = some o → h''.get? b = some o := fun b o hb e => kk2 b o hb (kk b o hb e)
    have nT : ∀ b o, s.heap.get? b = some o → b ≠ T := fun b o e => Nat.ne_of_lt (Nat.lt_of_lt_of_le (Heap.lt_size e) hT)
    have nTH : ∀ b u, H b = some u → b ≠ T := fun b u e z => by rw [z, hTn] at e; cases e
    have nW : ∀ b u, H b = some u → b ∉ wr := fun b u e hb => by rw [(hf b (W'.sub b hb)).1] at e; cases e
    have isT' : h''.IsTuple T vals := by
      obtain ⟨o, ho, r⟩ := isT
      exact ⟨o, kk2 T o hTw ho, r⟩
    have hlT : ∃ o, h''.get? T = some o := let ⟨o, ho, _⟩ := isT'; ⟨o, ho⟩
    have I' : Inv X pins σ (upd H T (.tup (xs i))) { s with heap := h'', toks := tk } := by
      refine I.step (g' := s.gens) (d' := s.drawn) (ch := wr) (fun b hb => ?_) (fun b o _ _ hc e _ => kall b o hc e) (fun b o _ _ hc e _ => ⟨o.slots, kall b o hc e⟩) (fun b o _ e hn => by rw [upd_ne (nT b o e)]; exact hn)
        (fun b o hc e => ⟨o, kall b o hc e⟩) (fun b ys e => by rw [upd_ne (nTH b _ e)]; exact e) (fun b o u e => by rw [upd_ne (nTH b _ e)]; exact e) (fun b ps e => ⟨#[], by rw [upd_ne (nTH b _ e), e]; simp⟩) (fun m hm => ?_) (fun b u e => ?_) I.bare
      · obtain ⟨f0, f1, f2, f3, f4, f5⟩ := hf b (W'.sub b hb)
        exact ⟨f3, f1, f4, f5⟩
      · obtain ⟨o, es, ep, ho, r⟩ := hm
        exact ⟨o, es, ep, kall _ o (fun hb => (hf _ (W'.sub _ hb)).2.1 rfl) ho, r⟩
      · by_cases hb : b = T
        · subst hb
          rw [upd_same] at e; cases e
          obtain ⟨o, ho, hcl, nn, hd⟩ := isT'
          exact ⟨hxs i, vals.toList, hPt i vals hPv, o, ho, hcl, nn, by simpa using hd⟩
        · rw [upd_ne hb] at e
          refine (I.hok b u e).stay (fun c v hc' q => kall c v ?_ q) (fun c q => by rw [upd_ne (nTH c _ q)]; exact q) fun c ys q => by rw [upd_ne (nTH c _ q)]; exact q
          rcases hc' with z | z
          · rw [z]; exact nW b u e
          · exact nW c _ z
    refine ⟨.ref T, upd H T (.tup (xs i)), I', rfl, ⟨T, hTn, rfl, rfl⟩, st'', fun b hb => ?_⟩
    obtain ⟨o, e, _⟩ := hobj i _ st b hb
    rw [upd_ne (nT b o e)]
    exact (hf b hb).1
  done := by
    intro X hP hw hK hc i pins s σ H E I hf st hg
    subst hP hw hK
    have W' := W X.A (I.ok.hd hc)
    have hg : i = n := hg
    subst hg
    refine W'.done s _ _ st fun h' tk kk => ⟨rfl, ?_⟩
    have nW : ∀ b u, H b = some u → b ∉ wr := fun b u e hb => by rw [(hf b (W'.sub b hb)).1] at e; cases e
    refine I.step (g' := s.gens) (d' := s.drawn) (ch := wr) (fun b hb => ?_) (fun b o _ _ hc e _ => kk b o hc e) (fun b o _ _ hc e _ => ⟨o.slots, kk b o hc e⟩) (fun b o _ e hn => hn)
        (fun b o hc e => ⟨o, kk b o hc e⟩) (fun b ys e => e) (fun b o u e => e) (fun b ps e => ⟨#[], by rw [e]; simp⟩) (fun m hm => ?_) (fun b u e => ?_) I.bare
    · obtain ⟨f0, f1, f2, f3, f4, f5⟩ := hf b (W'.sub b hb)
      exact ⟨f3, f1, f4, f5⟩
    · obtain ⟨o, es, ep, ho, r⟩ := hm
      exact ⟨o, es, ep, kk _ o (fun hb => (hf _ (W'.sub _ hb)).2.1 rfl) ho, r⟩
    · refine (I.hok b u e).stay (fun c v hc' q => kk c v ?_ q) (fun c q => q) fun c ys q => q
      rcases hc' with z | z
      · rw [z]; exact nW b u e
      · exact nW c _ z
  self := hself
noncomputable def enumS (x : Str) (i : Nat) : List V := [.int i, .str ⟨#[x.cps.getD i 0]⟩]
end L2

namespace L2
open PySem PySem.Spec PyProof.Rows
section
variable {prog : Program} {w : World} {A : Around} {E : Value → Shared → Prop} {s : Shared}
end
noncomputable def rNeA (K : PySem.W.Frag) : R2 := fun x y H Q => rNe x y H Q ∨ ∃ (a b : Addr) (ns ms : List Int), x = .ref a ∧ y = .ref b ∧ SqL K H a (ns.map V.int) ∧ SqL K H b (ms.map V.int) ∧ Q (.bl (!decide (ns = ms))) H
theorem op_neK {X : Cx} {K : PySem.W.Frag} (hK : X.K = K) (hu : X.A.units + 64 < cLine) : OpR X (compareOp .NotEq) (rNeA K) := by
  subst hK
  intro pins s σ H x y v u Q I rx ry h
  rcases h with h | ⟨a, b, ns, ms, rfl, rfl, ha, hb, q⟩
  · exact op_ne pins s σ H x y v u Q I rx ry h
  · cases rx
    cases ry
    obtain ⟨its, r1, p1, z1⟩ := I.list ha
    obtain ⟨jts, r2, p2, z2⟩ := I.list hb
    exact PySem.W.ne_intsK p1.isList (intsAre_of r1) p2.isList (intsAre_of r2) hu ⟨.bl _, H, I, rfl, q⟩
section
variable {H : Hp} {Q : VK} {K : PySem.W.Frag} {σ : St}
theorem r_gtup {n : Nat} {gs : TGs} {p : Addr} {xs : List V} {R : St → Hp → Prop} (s : SqT K H p xs) (hl : xs.length = n) (h : gs xs σ H R) : gTup K n gs (.ref p) σ H R := ⟨p, xs, rfl, s, hl, h⟩
theorem r_gcons {t : TG} {u : TGs} {v : V} {vs : List V} {R : St → Hp → Prop} (h : t v σ H fun σ' H' => u vs σ' H' R) : gCons t u (v :: vs) σ H R := ⟨v, vs, rfl, h⟩
theorem r_gnil {R : St → Hp → Prop} (h : R σ H) : gNil [] σ H R := ⟨rfl, h⟩
theorem r_append {p : Addr} {xs : List V} {y : V} (hp : H p = some (.lst xs)) (c : xs.length < sizeLine) (h : Q .non (upd H p (.lst (xs ++ [y])))) : rAppend (.ref p) [y] H Q := ⟨p, xs, y, rfl, rfl, hp, c, h⟩
theorem for_Tp {xs : Nat → List V} {n : Nat} {g : TG} {tb : TS} {D : Ends} {H : Hp} (Pv : Nat → St → Hp → Prop) (h0 : Pv 0 σ H)
    (hs : ∀ i σ H T, i < n → Pv i σ H → H T = none → g (.ref T) σ (upd H T (.tup (xs i))) fun σ2 H2 => tb { D with nx := Pv (i + 1), ct := Pv (i + 1), bk := D.nx } σ2 H2) (hd : ∀ σ H, Pv n σ H → D.nx σ H) :
    ∃ W : Nat → Nat → St → Hp → Prop, (∃ m, W 0 m σ H) ∧ ∀ i m σ H, W i m σ H →
      ((Itp xs n).stop i H ∧ D.nx σ H) ∨ ((Itp xs n).go i H ∧ ∃ N : St → Hp → Prop, (∀ σ' H', N σ' H' → ∃ m', m' < m ∧ W (i + 1) m' σ' H') ∧ ∀ x H', (Itp xs n).yld i H x H' → g x σ H' fun σ2 H2 => tb { D with nx := N, ct := N, bk := D.nx } σ2 H2) := by
  refine ⟨fun i m σ H => m = n - i ∧ i ≤ n ∧ Pv i σ H, ⟨n, by simp, Nat.zero_le _, h0⟩, ?_⟩
  rintro i m σ H ⟨rfl, hi, p⟩
  by_cases hlt : i < n
  · refine .inr ⟨hlt, Pv (i + 1), fun σ' H' p' => ⟨n - (i + 1), by omega, rfl, hlt, p'⟩, fun x H' y => ?_⟩
    obtain ⟨T, hT, e1, e2⟩ := y
    subst e1 e2
    exact hs i σ H T hlt p hT
  · have e : i = n := by omega
    subst e
    exact .inl ⟨rfl, hd σ H p⟩
theorem r_u {f : Int → V} {i : Int} (h : Q (f i) H) : rU f (.int i) H Q := ⟨i, rfl, h⟩
theorem r_mulL {a : Addr} {xs : List V} {k : Int} (ha : H a = some (.lst xs)) (h0 : -(2 ^ 63) ≤ k) (h1 : k < 2 ^ 63) (hz : xs.length * k.toNat ≤ sizeLine) (h : ∀ p, H p = none → Q (.ref p) (upd H p (.lst (List.replicate k.toNat xs).flatten))) : rMulA (.ref a) (.int k) H Q :=
  .inr (.inr ⟨a, k, xs, rfl, rfl, ha, h0, h1, hz, h⟩)
theorem for_str {z : Str} {g : TG} {tb : TS} {D : Ends} {H : Hp} (Pv : Nat → St → Hp → Prop) (h0 : Pv 0 σ H)
    (hs : ∀ i σ H c, z.cps.toList[i]? = some c → Pv i σ H → g (.str ⟨#[c]⟩) σ H fun σ2 H2 => tb { D with nx := Pv (i + 1), ct := Pv (i + 1), bk := D.nx } σ2 H2) (hd : ∀ σ H, Pv z.length σ H → D.nx σ H) :
    ∃ W : Nat → Nat → St → Hp → Prop, (∃ m, W 0 m σ H) ∧ ∀ i m σ H, W i m σ H →
      ((Its z).stop i H ∧ D.nx σ H) ∨ ((Its z).go i H ∧ ∃ N : St → Hp → Prop, (∀ σ' H', N σ' H' → ∃ m', m' < m ∧ W (i + 1) m' σ' H') ∧ ∀ x H', (Its z).yld i H x H' → g x σ H' fun σ2 H2 => tb { D with nx := N, ct := N, bk := D.nx } σ2 H2) := by
  refine ⟨fun i m σ H => m = z.cps.size - i ∧ i ≤ z.cps.size ∧ Pv i σ H, ⟨z.cps.size, by simp, Nat.zero_le _, h0⟩, ?_⟩
  rintro i m σ H ⟨rfl, hi, p⟩
  by_cases hlt : i < z.cps.size
  · refine .inr ⟨hlt, Pv (i + 1), fun σ' H' p' => ⟨z.cps.size - (i + 1), by omega, rfl, hlt, p'⟩, fun x H' y => ?_⟩
    obtain ⟨e1, c, e2, e3⟩ := y
    subst e1 e3
    exact hs i σ _ c (by simpa using e2) p
  · have e : i = z.cps.size := by omega
    subst e
    exact .inl ⟨rfl, hd σ H p⟩
end
end L2

namespace L2
open PySem PySem.Spec PyProof.Rows
section
variable {X : Cx} {tg iter elt : Expr} {ifs : List Expr} {scope : Scope} {pos : Pos} {N' : List Str} {sub : List (Option Nat)} {wi : TI} {g : TG} {tt : TT} {te : TE}
theorem comp_use {N : List Str} {sc : Scope} {use : Option (Value → Sem Unit)} {R : Value → Shared → Prop} {p0 : Pos} (S : SubOk N sc N' scope sub) (hc : X.calm = true) (hN : X.N = N) (hsc : X.env.scope = sc) (hi : PI X tg iter wi)
    (hg : ∀ (C : Addr) (s₀ : Shared) (H₀ : Hp) (ex : List Addr), PG (cxC X N' scope C s₀ H₀ ex) tg g)
    (ht : ∀ (C : Addr) (s₀ : Shared) (H₀ : Hp) (ex : List Addr), PIfs (cxC X N' scope C s₀ H₀ ex) ifs tt)
    (he : ∀ (C : Addr) (s₀ : Shared) (H₀ : Hp) (ex : List Addr), PE (cxC X N' scope C s₀ H₀ ex) elt te)
    (hs : ∀ x, foldedSetIterable iter X.env x = pure x) (pins : List (Addr × Obj)) (s : Shared) (σ : St) (H : Hp) (Q : VK) (I : Inv X pins σ H s) (h : tComp sub wi g tt te σ H Q)
    (hend : ∀ (D C : Addr) (s5 : Shared) (H5 : Hp) (m : Str → Option Value), Inv X pins σ H5 s5 → FpOk X pins H5 C → s5.heap.Ns C m → Q (.ref D) H5 → compPost (model X.prog X.w) X.A X.xe use R (.ref D) C (.ok .next) s5) :
    wpAny (model X.prog X.w) X.A (comprehension (.ListComp elt [⟨tg, iter, ifs, 0⟩] scope pos) scope X.env p0 (newList []) false (eval iter X.env) use) R X.xe s := by
  have hcl : ∀ x ∈ scope.names, x.2 = NameKind.free → ∃ c, X.env.cells.lookup x.1 = some c := fun x hx hk => I.ok.has x.1 (by have := S.free x hx hk; rw [← hsc] at this; exact this)
  refine wpAny_comprehension_free (use := use) rfl hs (closureFor_cl hcl) S.kind S.loc ?_
  refine thn (hi pins s σ H _ I h) fun v s1 h1 => thn h1 fun itv s2 h2 => ?_
  obtain ⟨it, fp, tn, J, H2, e, I2, T, st2, f2, W, ⟨m0, w0⟩, turn⟩ := h2
  subst e
  refine wpAny_newObj_type (wpAny_newFunctionEnv S.nocell (by intro y hy; simp at hy) (fun h₁ hns₁ hsb₁ => ?_) S.kind)
  dsimp only at hns₁ hsb₁ ⊢
  generalize hs3 : ({ s2 with heap := s2.heap.push { cls := .type "list", dict := none, data := .seq ([] : List Value).toArray } } : Shared) = s3
  have e3 : s2.heap.push { cls := .type "list", dict := none, data := .seq ([] : List Value).toArray } = s3.heap := by rw [← hs3]
  rw [e3] at hns₁ hsb₁ ⊢
  have hD3 : s3.heap.get? s2.heap.objs.size = some { cls := .type "list", dict := none, data := .seq ([] : List Value).toArray } := by rw [← e3]; exact Heap.get?_push_size _ rfl
  have I3 : Inv X pins σ H2 s3 := by
    rw [← hs3]
    exact I2.kept (t' := s2.toks) fun b o e => Heap.get?_push_of_some _ e
  have k23 : ∀ b o, s2.heap.get? b = some o → s3.heap.get? b = some o := fun b o e => by rw [← e3]; exact Heap.get?_push_of_some _ e
  have hsz : s3.heap.objs.size = s2.heap.objs.size + 1 := by rw [← e3, Heap.size_push]
  have hk31 : ∀ b o, s3.heap.get? b = some o → h₁.get? b = some o := fun b o e => hsb₁.extBut b o (Nat.ne_of_lt (Heap.lt_size e)) (Heap.get?_push_of_some _ e)
  have hDn : H2 s2.heap.objs.size = none := I2.hok.fresh (Nat.le_refl _)
  have fD : FpOk X pins H2 s2.heap.objs.size := I2.fpOk (Nat.le_refl _) hDn
  have hfo : ∀ b ∈ fp, b < s2.heap.objs.size := fun b hb => let ⟨o, e, _⟩ := T.obj _ _ st2 b hb; Heap.lt_size e
  have hDfp : s2.heap.objs.size ∉ fp := fun z => absurd (hfo _ z) (Nat.lt_irrefl _)
  have I4 := inv_block (tk := s3.toks + ([] : List (Str × Value)).length) S hN hsc I3 f2 (fun b hb => by rw [hsz]; exact Nat.lt_succ_of_lt (hfo b hb)) (D := s2.heap.objs.size) (by rw [hsz]; exact Nat.lt_succ_self _) fD hns₁ hk31
  -- facts of the block
  have stat : ∀ {H' : Hp} {ob : Obj}, (∀ b ∈ fp, H' b = none) → ∀ b ∈ fp, FpOk (cxC X N' scope s3.heap.objs.size s3 H2 (s2.heap.objs.size :: fp)) [(s2.heap.objs.size, ob)] H' b := fun {H' ob} hn b hb => by
    obtain ⟨q1, q2⟩ := I4.ok.exf b (List.mem_cons_of_mem _ hb)
    refine ⟨hn b hb, q1, I4.ok.exfs b (List.mem_cons_of_mem _ hb), .inl (List.mem_cons_of_mem _ hb), q2, fun p hp z => ?_⟩
    have hp' : p = (s2.heap.objs.size, ob) := by simpa [cxC] using hp
    subst hp'
    have z' : s2.heap.objs.size = b := z
    exact hDfp (by rw [z']; exact hb)
  generalize hXC : cxC X N' scope s3.heap.objs.size s3 H2 (s2.heap.objs.size :: fp) = XC at I4 stat
  have eP : XC.prog = X.prog := by rw [← hXC]; rfl
  have eW : XC.w = X.w := by rw [← hXC]; rfl
  have eK : XC.K = X.K := by rw [← hXC]; rfl
  have eA : XC.A = X.A := by rw [← hXC]; rfl
  have eE : XC.env = compEnvC scope (clOf X.env scope.names []) s3.heap.objs.size X.env := by rw [← hXC]; rfl
  have eC : XC.calm = true := by rw [← hXC]; exact hc
  have eX : XC.xe = fun _ _ => False := by rw [← hXC]; rfl
  have eH : XC.H₀ = H2 := by rw [← hXC]; rfl
  have eS : XC.s₀ = s3 := by rw [← hXC]; rfl
  have eF : XC.fs = frs X.stack := by rw [← hXC]; rfl
  have eEx : XC.ex = s2.heap.objs.size :: fp := by rw [← hXC]; rfl
  have ePn : XC.pn = [] := by rw [← hXC]; rfl
  have hgC : PG XC tg g := by rw [← hXC]; exact hg _ _ _ _
  have htC : PIfs XC ifs tt := by rw [← hXC]; exact ht _ _ _ _
  have heC : PE XC elt te := by rw [← hXC]; exact he _ _ _ _
  have pinD : ∀ {σ' : St} {H' : Hp} {s' : Shared} {ob : Obj}, Inv XC [] σ' H' s' → H' s2.heap.objs.size = none → s'.heap.get? s2.heap.objs.size = some ob → (∀ v, ob.data ≠ .cell v) → Inv XC [(s2.heap.objs.size, ob)] σ' H' s' := fun {σ' H' s' ob} J hn hg hd =>
    J.pins_of fun p hp => by
      have hp' : p = (s2.heap.objs.size, ob) := by simpa using hp
      subst hp'
      refine ⟨hg, hn, (J.ok.exf _ (by rw [eEx]; exact List.mem_cons_self)).1, J.ok.exfs _ (by rw [eEx]; exact List.mem_cons_self), hd⟩
  have loop : codeAny (model X.prog X.w) X.A (.compLoop (.ListComp elt [⟨tg, iter, ifs, 0⟩] scope pos) 0 (.ref it) (.ref s2.heap.objs.size) (compEnvC scope (clOf X.env scope.names []) s3.heap.objs.size X.env))
      (compPost (model X.prog X.w) X.A X.xe use R (.ref s2.heap.objs.size) s3.heap.objs.size) { s3 with heap := h₁, toks := s3.toks + ([] : List (Str × Value)).length } := by
    refine comp_loop (fun n s' => ∃ (i : Nat) (ys : List V) (its : List Value) (nn : Nat) (H' : Hp), Inv XC [] (subSt sub σ) H' s' ∧ tn i s'.heap ∧ (∀ b ∈ fp, H' b = none) ∧ H' s2.heap.objs.size = none ∧
      s'.heap.get? s2.heap.objs.size = some { cls := .type "list", data := .seq its.toArray nn } ∧ Vals ys its ∧ W i n ys H') ?_ m0
      ⟨0, [], [], _, H2, I4, T.keep _ _ _ st2 fun b _ o e => hk31 b o (k23 b o e), fun b hb => (f2 b hb).1, hDn, hk31 _ _ hD3, .nil, w0⟩
    rintro n s4 ⟨i, ys, its, nn, H4, J4, st4, fr4, dn4, dg4, rv4, w4⟩
    have P4 := pinD J4 dn4 dg4 (fun v z => by cases z)
    rcases turn i n ys H4 w4 with ⟨stop, hyl, qn⟩ | ⟨go, hyl, N, hN, step⟩
    · have hdone := T.done XC eP eW eK eC i _ s4 _ H4 (fun _ _ => False) P4 (stat fr4) st4 stop
      rw [eA] at hdone
      refine wpAny_mono hdone (fun r s5 ⟨hr, I5⟩ => ?_) fun _ _ z => z
      subst hr
      -- the end
      obtain ⟨m, hn, _⟩ := id I5.loc
      have hCe : XC.env.locals = s3.heap.objs.size := by rw [eE]; rfl
      rw [hCe] at hn
      have hDg := (I5.pin (s2.heap.objs.size, _) (by rw [ePn]; exact List.mem_cons_self)).1
      have hDne : s2.heap.objs.size ≠ s3.heap.objs.size := by rw [hsz]; exact Nat.ne_of_lt (Nat.lt_succ_self _)
      have hHC : H4 s3.heap.objs.size = none := by have := I5.free; rw [hCe] at this; exact this
      have k56 : ∀ b o, b ≠ s3.heap.objs.size → s5.heap.get? b = some o → s5.heap.get? b = some o := fun b o hb e => e
      have un := I5.base
      rw [eF, eEx, eH, eS] at un
      have nC : ∀ b o, s3.heap.get? b = some o → b ≠ s3.heap.objs.size := fun b o e => Nat.ne_of_lt (Heap.lt_size e)
      have hok6 : HOk X.prog X.w (upd H4 s2.heap.objs.size (.lst ys)) s5.heap := by
        have h5 := I5.hok
        rw [eP, eW] at h5
        have trk : ∀ b u, H4 b = some u → b ≠ s3.heap.objs.size := fun b u e z => by rw [z, hHC] at e; cases e
        intro b u e
        by_cases hb : b = s2.heap.objs.size
        · subst hb
          rw [upd_same] at e; cases e
          exact ⟨hyl, its, nn, rv4, k56 _ _ hDne hDg⟩
        · rw [upd_ne hb] at e
          have nD : ∀ c u, H4 c = some u → c ≠ s2.heap.objs.size := fun c u e z => by rw [z, dn4] at e; cases e
          refine (h5 b u e).stay (fun c v hc' q => k56 c v ?_ q) (fun c q => by rw [upd_ne (nD c _ q)]; exact q) fun c xs q => by rw [upd_ne (nD c _ q)]; exact q
          rcases hc' with z | z
          · rw [z]; exact trk b u e
          · exact trk c _ z
      have nD2 : ∀ c u, H4 c = some u → c ≠ s2.heap.objs.size := fun c u e z => by rw [z, dn4] at e; cases e
      have un6 : Un (frs X.stack) (s2.heap.objs.size :: fp) H2 (upd H4 s2.heap.objs.size (.lst ys)) s3.heap s5.heap :=
        ⟨fun b o e nn' hb hx => k56 b o (nC b o e) (un.keep b o e nn' hb hx), fun b o e nn' hb hx => let ⟨sl, q⟩ := un.slot b o e nn' hb hx; ⟨sl, k56 b _ (nC b o e) q⟩,
          fun b o e nn' hx => by rw [upd_ne (fun z => hx (by rw [z]; exact List.mem_cons_self))]; exact un.free b o e nn' hx,
          fun b o e hx => let ⟨o', q⟩ := un.there b o e hx; ⟨o', k56 b o' (nC b o e) q⟩,
          fun b xs e => by have q := un.tups b xs e; rw [upd_ne (nD2 b _ q)]; exact q,
          fun b o u e => by have q := un.frzs b o u e; rw [upd_ne (nD2 b _ q)]; exact q,
          fun b ps e => let ⟨more, q⟩ := un.tbls b ps e; ⟨more, by rw [upd_ne (nD2 b _ q)]; exact q⟩⟩
      have I6 : Inv X pins σ (upd H4 s2.heap.objs.size (.lst ys)) s5 := by
        refine I3.call' (s' := s5) (ch := s2.heap.objs.size :: fp) ?_ un6 hok6 I5.bare fun b hb => ?_
        · show s5.os = s3.os
          have := I5.os
          rw [eS] at this
          exact this
        · have q : FpOk X pins H2 b := by
            rcases List.mem_cons.mp hb with rfl | z
            · exact fD
            · exact f2 b z
          obtain ⟨f0, f1, f2', f3, f4, f5⟩ := q
          exact ⟨f3, f1, f4, f5⟩
      have dC : upd H4 s2.heap.objs.size (.lst ys) s3.heap.objs.size = none := by rw [upd_ne (Ne.symm hDne)]; exact hHC
      exact hend _ _ s5 _ m I6 (I3.fpOk (Nat.le_refl _) dC) hn (qn _ dn4)
    · have hitem := T.item XC eP eW eK eC i _ s4 _ H4 (fun _ _ => False) P4 (stat fr4) st4 go
      rw [eA] at hitem
      refine wpAny_mono hitem (fun r s5 ⟨u, hr, h5⟩ => ?_) fun _ _ z => z
      subst hr
      dsimp only
      refine wpAny_mono h5 (fun _ s6 ⟨x, H6, I6, r6, y6, st6, fr6⟩ => ?_) fun _ _ z => z
      have P6 := I6.pinned (stat fr6) (T.obj _ _ st6)
      rw [← eE, ← eP, ← eW, ← eA]
      refine wpAny_mono (hgC _ s6 _ H6 x u _ P6 r6 (step x H6 y6)) (fun _ s7 ⟨σ7, H7, I7, kp7, q7⟩ => ?_) fun _ _ z => by rw [eX] at z; exact z
      refine wpAny_mono (htC _ s7 σ7 H7 _ I7 q7) (fun ok s8 ⟨H8, I8, q8⟩ => ?_) fun _ _ z => by rw [eX] at z; exact z
      -- back to the turn's start
      have fin : ∀ {H9 : Hp} {s9 : Shared}, Inv XC ([(s2.heap.objs.size, ({ cls := .type "list", data := .seq its.toArray nn } : Obj))] ++ pinsAt fp s6.heap) σ7 H9 s9 → Inv XC [] (subSt sub σ) H9 s9 ∧ tn (i + 1) s9.heap ∧ (∀ b ∈ fp, H9 b = none) ∧ H9 s2.heap.objs.size = none ∧
          s9.heap.get? s2.heap.objs.size = some { cls := .type "list", data := .seq its.toArray nn } := fun {H9 s9} J => by
        have pD := J.pin (s2.heap.objs.size, ({ cls := .type "list", data := .seq its.toArray nn } : Obj)) (by rw [ePn]; simp)
        have pF : ∀ b ∈ fp, ∀ o, s6.heap.get? b = some o → s9.heap.get? b = some o ∧ H9 b = none := fun b hb o e => by
          have q := J.pin (b, o) (by rw [ePn]; exact List.mem_append_right _ (List.mem_append_right _ (mem_pinsAt hb e)))
          exact ⟨q.1, q.2.1⟩
        refine ⟨?_, T.keep _ _ _ st6 fun b hb o e => (pF b hb o e).1, fun b hb => ?_, pD.2.1, pD.1⟩
        · have J0 : Inv XC [] σ7 H9 s9 := J.pins_of fun p hp => nomatch hp
          exact J0.weak kp7.1.symm fun j v e => kp7.2 j v e
        · obtain ⟨o, e, _⟩ := T.obj _ _ st6 b hb
          exact (pF b hb o e).2
      cases ok with
      | false =>
        rw [if_neg (by simp)]
        rw [if_neg (by simp)] at q8
        obtain ⟨m', hm, w8⟩ := hN _ _ q8
        obtain ⟨a1, a2, a3, a4, a5⟩ := fin I8
        exact ⟨m', hm, i + 1, ys, its, nn, H8, a1, a2, a3, a4, a5, rv4, w8⟩
      | true =>
        rw [if_pos rfl]
        rw [if_pos rfl] at q8
        refine wpAny_mono (heC _ s8 σ7 H8 _ I8 q8) (fun xv s9 ⟨y, H9, I9, r9, n9⟩ => ?_) fun _ _ z => by rw [eX] at z; exact z
        obtain ⟨m', hm, w9⟩ := hN _ _ n9
        obtain ⟨a1, a2, a3, a4, a5⟩ := fin I9
        refine wpAny_list_append_plain (items := its.toArray) ⟨nn, a5⟩ (fun h' ⟨n', hp'⟩ sb => ?_) (by simp; rw [← rv4.length]; omega)
        obtain ⟨q1, q2⟩ := I4.ok.exf s2.heap.objs.size (by rw [eEx]; exact List.mem_cons_self)
        have a1' : Inv XC [] (subSt sub σ) H9 { s9 with heap := h' } := a1.turned (t' := s9.toks) (fun b o hb e => (sb.2 b hb).trans e) a4 q1 (.inl (by rw [eEx]; exact List.mem_cons_self)) q2 (fun p hp => by rw [ePn] at hp; exact nomatch hp)
        refine ⟨m', hm, i + 1, ys ++ [y], its ++ [xv], n', H9, a1', T.keep _ _ _ a2 fun b hb o e => (sb.2 b (fun z => hDfp (by rw [← z]; exact hb))).trans e, a3, a4, ?_, rv4.append (.cons r9 .nil), w9⟩
        rw [hp']
        simp
  subst hs3
  exact codeAny_compStart_list loop (T.self _ 0 _ _ _ (T.keep _ _ _ st2 fun b _ o e => hk31 b o (k23 b o e)) loop)
theorem ps_setComp {N : List Str} {sc : Scope} {i : Nat} {x : Str} {pos' spos : Pos} (hNd : X.N.Nodup) (hxi : X.N[i]? = some x) (hx : Loc X.env.scope x) (hf : X.fn x = true) (S : SubOk N sc N' scope sub) (hc : X.calm = true) (hN : X.N = N) (hsc : X.env.scope = sc) (hi : PI X tg iter wi)
    (hg : ∀ (C : Addr) (s₀ : Shared) (H₀ : Hp) (ex : List Addr), PG (cxC X N' scope C s₀ H₀ ex) tg g)
    (ht : ∀ (C : Addr) (s₀ : Shared) (H₀ : Hp) (ex : List Addr), PIfs (cxC X N' scope C s₀ H₀ ex) ifs tt)
    (he : ∀ (C : Addr) (s₀ : Shared) (H₀ : Hp) (ex : List Addr), PE (cxC X N' scope C s₀ H₀ ex) elt te)
    (hs : ∀ x, foldedSetIterable iter X.env x = pure x) : PS X (.Assign [.Name x pos'] (.ListComp elt [⟨tg, iter, ifs, 0⟩] scope pos) spos) (tAsg (tComp sub wi g tt te) (gName i)) := by
  intro pins s σ H D I h
  have hsw : ∃ b, swapsWith (.ListComp elt [⟨tg, iter, ifs, 0⟩] scope pos) (some (.Name x pos')) spos.line X.env = pure b := ⟨_, rfl⟩
  obtain ⟨b, hsw⟩ := hsw
  cases b with
  | false => exact ps_set hNd hxi hx (pe_comp S hc hN hsc hi hg ht he hs) hsw (.inl hf) pins s σ H D I h
  | true =>
    rw [exec_Assign_Name_used _ _ _ _ hsw]
    refine wpAny_bind (wpAny_standAt (wpAny_bind ?_))
    show wpAny _ X.A (do let _ ← comprehension (.ListComp elt [⟨tg, iter, ifs, 0⟩] scope pos) scope X.env _ (newList []) false (eval iter X.env) (some (assign (.Name x pos') X.env))) _ _ s
    refine wpAny_bind (wpAny_mono (comp_use (use := some (assign (.Name x pos') X.env)) (R := fun _ s' => SP X pins D .next s') S hc hN hsc hi hg ht he hs pins s σ H _ I h ?_) (fun _ s' hq => wpAny_pure (wpAny_pure hq)) fun _ _ e => e)
    intro Da C s5 H5 m I5 fC hn q
    show wpAny _ X.A (assign (.Name x pos') X.env (.ref Da)) _ _ _
    refine wpAny_assign_Name (store_ok2 I5 hNd hxi hx (v := .ref Da) rfl (fun s6 I6 qq0 => ?_) (.inl hf))
    obtain ⟨a, sb, ha⟩ := qq0
    obtain ⟨f0, f1, f2, f3, f4, f5⟩ := fC
    have hCa : C ≠ a := fun z => by
      rcases ha with e | e
      · exact f1 (z.trans e)
      · exact f4 x a e z.symm
    exact ⟨m, hn.sameBut sb hCa, fun h' hs' => ⟨_, H5, I6.turned (t' := s6.toks) (fun b o hb e => hs'.extBut b o hb e) f0 f1 f3 f4 f5, q⟩⟩
end
section
variable {X : Cx} {tg iter elt : Expr} {ifs : List Expr} {scope : Scope} {pos : Pos} {N' : List Str} {sub : List (Option Nat)} {wi : TI} {g : TG} {tt : TT} {te : TE} {N : List Str} {sc : Scope}
theorem js_setC {i : Nat} {x : Str} {pos' spos : Pos} (hNd : X.N.Nodup) (hxi : X.N[i]? = some x) (hx : Loc X.env.scope x) (S : SubOk N sc N' scope sub) (hc : X.calm = true) (hN : X.N = N) (hsc : X.env.scope = sc) (hi : JI X tg iter wi)
    (hg : ∀ (C : Addr) (s₀ : Shared) (H₀ : Hp) (ex : List Addr), JG (cxC X N' scope C s₀ H₀ ex) tg g)
    (ht : ∀ (C : Addr) (s₀ : Shared) (H₀ : Hp) (ex : List Addr), JIfs (cxC X N' scope C s₀ H₀ ex) ifs tt)
    (he : ∀ (C : Addr) (s₀ : Shared) (H₀ : Hp) (ex : List Addr), JE (cxC X N' scope C s₀ H₀ ex) elt te) (hf : X.fn x = true) (h : autoParam (notSet iter = true) L2.auto4._auto_1) :
    JS X (.Assign [.Name x pos'] (.ListComp elt [⟨tg, iter, ifs, 0⟩] scope pos) spos) (tAsg (tComp sub wi g tt te) (gName i)) :=
  ⟨ps_setComp hNd hxi hx hf S hc hN hsc hi.run (fun C s₀ H₀ ex => (hg C s₀ H₀ ex).run) (fun C s₀ H₀ ex => (ht C s₀ H₀ ex).run) (fun C s₀ H₀ ex => (he C s₀ H₀ ex).run) (fs_no h)⟩
end
end L2

namespace L2
open PySem PySem.Spec PyProof.Rows
section
variable {X : Cx} {pins : List (Addr × Obj)} {σ : St} {H : Hp} {s : Shared}
theorem Inv.newtup {wr : List Addr} {T : Addr} {vals : Array Value} {xs : List V} {h'' : Heap} {tk : Nat} (I : Inv X pins σ H s) (hf : ∀ b ∈ wr, FpOk X pins H b) (hT : s.heap.objs.size ≤ T)
    (kall : ∀ b o, b ∉ wr → s.heap.get? b = some o → h''.get? b = some o) (isT' : h''.IsTuple T vals) (hv : Vals xs vals.toList) (hx : xs.length ≤ sizeLine) : Inv X pins σ (upd H T (.tup xs)) { s with heap := h'', toks := tk } := by
  have hTn : H T = none := I.hok.fresh hT
  have nT : ∀ b o, s.heap.get? b = some o → b ≠ T := fun b o e => Nat.ne_of_lt (Nat.lt_of_lt_of_le (Heap.lt_size e) hT)
  have nTH : ∀ b u, H b = some u → b ≠ T := fun b u e z => by rw [z, hTn] at e; cases e
  have nW : ∀ b u, H b = some u → b ∉ wr := fun b u e hb => by rw [(hf b hb).1] at e; cases e
  refine I.step (g' := s.gens) (d' := s.drawn) (ch := wr) (fun b hb => ?_) (fun b o _ _ hc e _ => kall b o hc e) (fun b o _ _ hc e _ => ⟨o.slots, kall b o hc e⟩) (fun b o _ e hn => by rw [upd_ne (nT b o e)]; exact hn)
    (fun b o hc e => ⟨o, kall b o hc e⟩) (fun b ys e => by rw [upd_ne (nTH b _ e)]; exact e) (fun b o u e => by rw [upd_ne (nTH b _ e)]; exact e) (fun b ps e => ⟨#[], by rw [upd_ne (nTH b _ e), e]; simp⟩) (fun m hm => ?_) (fun b u e => ?_) I.bare
  · obtain ⟨f0, f1, f2, f3, f4, f5⟩ := hf b hb
    exact ⟨f3, f1, f4, f5⟩
  · obtain ⟨o, es, ep, ho, r⟩ := hm
    exact ⟨o, es, ep, kall _ o (fun hb => (hf _ hb).2.1 rfl) ho, r⟩
  · by_cases hb : b = T
    · subst hb
      rw [upd_same] at e; cases e
      obtain ⟨o, ho, hcl, nn, hd⟩ := isT'
      exact ⟨hx, vals.toList, hv, o, ho, hcl, nn, by simpa using hd⟩
    · rw [upd_ne hb] at e
      refine (I.hok b u e).stay (fun c v hc' q => kall c v ?_ q) (fun c q => by rw [upd_ne (nTH c _ q)]; exact q) fun c ys q => by rw [upd_ne (nTH c _ q)]; exact q
      rcases hc' with z | z
      · rw [z]; exact nW b u e
      · exact nW c _ z
theorem Inv.only {wr : List Addr} {h' : Heap} {tk : Nat} (I : Inv X pins σ H s) (hf : ∀ b ∈ wr, FpOk X pins H b) (kk : ∀ b o, b ∉ wr → s.heap.get? b = some o → h'.get? b = some o) : Inv X pins σ H { s with heap := h', toks := tk } := by
  have nW : ∀ b u, H b = some u → b ∉ wr := fun b u e hb => by rw [(hf b hb).1] at e; cases e
  refine I.step (g' := s.gens) (d' := s.drawn) (ch := wr) (fun b hb => ?_) (fun b o _ _ hc e _ => kk b o hc e) (fun b o _ _ hc e _ => ⟨o.slots, kk b o hc e⟩) (fun b o _ e hn => hn)
      (fun b o hc e => ⟨o, kk b o hc e⟩) (fun b ys e => e) (fun b o u e => e) (fun b ps e => ⟨#[], by rw [e]; simp⟩) (fun m hm => ?_) (fun b u e => ?_) I.bare
  · obtain ⟨f0, f1, f2, f3, f4, f5⟩ := hf b hb
    exact ⟨f3, f1, f4, f5⟩
  · obtain ⟨o, es, ep, ho, r⟩ := hm
    exact ⟨o, es, ep, kk _ o (fun hb => (hf _ hb).2.1 rfl) ho, r⟩
  · refine (I.hok b u e).stay (fun c v hc' q => kk c v ?_ q) (fun c q => q) fun c ys q => q
    rcases hc' with z | z
    · rw [z]; exact nW b u e
    · exact nW c _ z
end
noncomputable def Ite (K : PySem.W.Frag) (a : Addr) : It :=
  ⟨fun i H => ∃ xs x, SqL K H a xs ∧ xs[i]? = some x,
   fun i H v H' => ∃ T x, H T = none ∧ v = .ref T ∧ (∀ xs, SqL K H a xs → xs[i]? = some x) ∧ H' = upd H T (.tup [.int i, x]),
   fun i H => ∃ xs, SqL K H a xs ∧ xs.length ≤ i⟩
theorem turn_enumL {P : Program} {w : World} {K : PySem.W.Frag} {elts : List Expr} {k : Nat} {pos : Pos} {e it a : Addr} (hne : e ≠ it) :
    Turn P w K (.Tuple elts k pos) (Ite K a) [e, it] e (fun i h => (∃ old, IsEnum h e it i old) ∧ h.IsListIter it a i) where
  mem := by simp
  obj := fun i h st c hc => by
    obtain ⟨⟨old, he⟩, ⟨o1, e1, c1, d1⟩⟩ := st
    simp only [List.mem_cons, List.mem_nil_iff, or_false] at hc
    rcases hc with rfl | rfl
    · exact ⟨_, he, fun v z => by cases z⟩
    · exact ⟨_, e1, fun v z => by rw [d1] at z; cases z⟩
  keep := fun i h h' st kk => by
    obtain ⟨⟨old, he⟩, h1⟩ := st
    exact ⟨⟨old, kk e (by simp) _ he⟩, h1.at fun o q => kk it (by simp) o q⟩
  item := by
    intro X hP hw hK hc i pins s σ H E I hf st hg
    subst hP hw hK
    obtain ⟨⟨old, he⟩, h1⟩ := st
    obtain ⟨xs, x, hq, hx⟩ := hg
    obtain ⟨its, rv, p, _⟩ := I.list hq
    obtain ⟨u, hu, ru⟩ := rv.get hx
    refine wpAny_pyNext_enum_item he h1 p.isList (x := u) (by simpa using hu) hne fun h' a1 a2 a3 a4 hk => ?_
    refine ⟨_, rfl, wpAny_letOwnedTupleGo_enum a1 fun h'' a1' sb => ?_⟩
    have lt : ∀ {c o}, s.heap.get? c = some o → s.heap.objs.size ≠ c := fun e => Nat.ne_of_gt (Heap.lt_size e)
    have lti : s.heap.objs.size ≠ it := by obtain ⟨o, q, _⟩ := h1; exact lt q
    have isT : h''.IsTuple s.heap.objs.size #[.int i s.toks, u] := ⟨_, sb.extBut _ _ (lt he) a3, rfl, _, rfl⟩
    have kall : ∀ b o, b ∉ [e, it] → s.heap.get? b = some o → h''.get? b = some o := fun b o hb q => by
      simp only [List.mem_cons, List.mem_nil_iff, or_false, not_or] at hb
      exact sb.extBut _ _ hb.1 (hk b o hb.1 hb.2 q)
    have hTn : H s.heap.objs.size = none := I.hok.fresh (Nat.le_refl _)
    refine ⟨.ref s.heap.objs.size, _, I.newtup (tk := s.toks + 1) hf (Nat.le_refl _) kall isT (xs := [.int i, x]) (.cons ⟨_, rfl⟩ (.cons ru .nil)) (by simp; decide), rfl, ⟨_, x, hTn, rfl, fun zs hs => by rw [I.list_inj hs hq]; exact hx, rfl⟩, ?_, fun b hb => ?_⟩
    · exact ⟨⟨_, a1'⟩, a2.extBut sb.extBut (Ne.symm hne)⟩
    · have : s.heap.objs.size ≠ b := by
        simp only [List.mem_cons, List.mem_nil_iff, or_false] at hb
        rcases hb with rfl | rfl
        · exact lt he
        · exact lti
      rw [upd_ne (Ne.symm this)]
      exact (hf b hb).1
  done := by
    intro X hP hw hK hc i pins s σ H E I hf st hg
    subst hP hw hK
    obtain ⟨⟨old, he⟩, h1⟩ := st
    obtain ⟨xs, hq, hx⟩ := hg
    obtain ⟨its, rv, p, _⟩ := I.list hq
    have l1 := rv.length
    refine wpAny_pyNext_enum_end (I.ok.hd hc) he h1 p.isList (by simp; omega) fun h' hk => ⟨rfl, I.only (tk := s.toks) hf fun b o hb q => ?_⟩
    simp only [List.mem_cons, List.mem_nil_iff, or_false, not_or] at hb
    exact hk b o hb.2 q
  self := fun _ _ _ _ _ st h => let ⟨⟨_, he⟩, _⟩ := st; wpAny_pyIter_enum he h
theorem enumS_run {X : Cx} {elts : List Expr} {k : Nat} {tp : Pos} {pins : List (Addr × Obj)} {σ : St} {H1 : Hp} {s1 : Shared} {x : Str} {t : Tok} {R : It → Hp → Prop} (hc : X.calm = true) (I1 : Inv X pins σ H1 s1) (q : R (Itp (enumS x) x.cps.size) H1) :
    wpAny (model X.prog X.w) X.A (call (.type "enumerate") [.str x t]) (fun v s1 => wpAny (model X.prog X.w) X.A (pyIter v) (PIE X pins σ (.Tuple elts k tp) R) X.xe s1) X.xe s1 := by
  refine call_enumerate_str fun h' he hit hsz hk => ?_
  have J1 : Inv X pins σ H1 { s1 with heap := h' } := I1.kept (t' := s1.toks) hk
  have ne1 : s1.heap.objs.size + 1 ≠ s1.heap.objs.size := Nat.succ_ne_self _
  have nm : s1.heap.objs.size + 1 ∉ [s1.heap.objs.size] := fun z => ne1 (List.mem_singleton.mp z)
  have hPt : ∀ (i : Nat) (vals : Array Value), (∃ t y, SignAt x i y ∧ vals = #[.int i t, y]) → Vals (enumS x i) vals.toList := by
    rintro i vals ⟨t, y, ⟨c, u, e1, rfl⟩, rfl⟩
    refine .cons ⟨t, rfl⟩ (.cons ⟨u, ?_⟩ .nil)
    rw [show x.cps.getD i 0 = c by simp [Array.getD_eq_getD_getElem?, e1]]
  have fin : ∀ (ty : String) (Dr : ∀ A : Around, A.handled = none → Draws X.prog X.w A s1.heap.objs.size [s1.heap.objs.size] x.cps.size (SignAt x) fun i h => h.IsStrIter s1.heap.objs.size ty x t i), h'.IsStrIter s1.heap.objs.size ty x t 0 →
      wpAny (model X.prog X.w) X.A (pyIter (.ref (s1.heap.objs.size + 1))) (PIE X pins σ (.Tuple elts k tp) R) X.xe { s1 with heap := h' } := by
    intro ty Dr hit'
    have W : ∀ A : Around, A.handled = none → WalksT X.prog X.w A (s1.heap.objs.size + 1) [s1.heap.objs.size + 1, s1.heap.objs.size] [s1.heap.objs.size + 1, s1.heap.objs.size] x.cps.size
        (fun i vals => ∃ t y, SignAt x i y ∧ vals = #[.int i t, y]) (fun i h => (∃ old, IsEnum h (s1.heap.objs.size + 1) s1.heap.objs.size i old) ∧ h.IsStrIter s1.heap.objs.size ty x t i)
        (fun i T h => (∃ y, IsEnumOut h (s1.heap.objs.size + 1) s1.heap.objs.size ((i : Int) + 1) y T) ∧ h.IsStrIter s1.heap.objs.size ty x t (i + 1) ∧ T ≠ s1.heap.objs.size + 1 ∧ T ≠ s1.heap.objs.size) :=
      fun A hA => WalksT.enumerateD (Dr A.in1 hA) (s1.heap.objs.size + 1) ne1 nm (by simp)
    have hself : ∀ (A : Around) (i : Nat) (s : Shared) (Q : Value → Shared → Prop) (E : Value → Shared → Prop), ((∃ old, IsEnum s.heap (s1.heap.objs.size + 1) s1.heap.objs.size i old) ∧ s.heap.IsStrIter s1.heap.objs.size ty x t i) → Q (.ref (s1.heap.objs.size + 1)) s → wpAny (model X.prog X.w) A (pyIter (.ref (s1.heap.objs.size + 1))) Q E s := by
      rintro A i s Q E ⟨⟨old, he⟩, _⟩ hQ
      exact wpAny_pyIter_enum he hQ
    refine hself _ 0 _ _ _ ⟨⟨_, he⟩, hit'⟩ ?_
    refine ⟨s1.heap.objs.size + 1, [s1.heap.objs.size + 1, s1.heap.objs.size], _, _, H1, rfl, J1, turn_T W (fun i => by simp [enumS]; decide) hPt (by simp) ?_ hself, ⟨⟨_, he⟩, hit'⟩, fun b hb => ?_, q⟩
    · rintro i h ⟨⟨old, he⟩, o, ho, hcl, hd⟩ b hb
      rcases List.mem_cons.mp hb with rfl | hb
      · exact ⟨_, he, fun v z => by cases z⟩
      · rw [List.mem_singleton.mp hb]
        exact ⟨o, ho, fun v z => by rw [hd] at z; cases z⟩
    · have hb' : s1.heap.objs.size ≤ b := by
        rcases List.mem_cons.mp hb with rfl | hb
        · exact Nat.le_succ _
        · rw [List.mem_singleton.mp hb]; exact Nat.le_refl _
      exact I1.fpOk hb' (I1.hok.fresh hb')
  cases hx : x.cps.all (· < 128)
  · exact fin "str_iterator" (fun A hA => Draws.strWide hA _ x t) (by simpa [strIterType, hx] using hit)
  · exact fin "str_ascii_iterator" (fun A hA => Draws.strAscii hA _ x t) (by simpa [strIterType, hx] using hit)
noncomputable def iEnum (K : PySem.W.Frag) (ta : TA) : TI := fun σ H R => ta σ H fun vs H1 => (∃ x : Str, vs = [.str x] ∧ R (Itp (enumS x) x.cps.size) H1) ∨ ∃ a xs, vs = [.ref a] ∧ SqL K H1 a xs ∧ R (Ite K a) H1
theorem ji_enum {X : Cx} {K : PySem.W.Frag} {a : Expr} {ta : TA} {elts : List Expr} {k : Nat} {tp p pos : Pos} (hK : X.K = K) (hc : X.calm = true) (hg : Gl X "enumerate") (hm : X.mg "enumerate" = none) (ha : JA X [a] ta) (h : autoParam (notStar a = true) L2.auto4._auto_1) :
    JI X (.Tuple elts k tp) (.Call (.Name "enumerate" p) [a] [] pos) (iEnum K ta) := ⟨by
  subst hK
  intro pins s σ H R I hq
  -- the text's rule wants the reading's own form: split behind the argument
  refine Call_ (ld_blt I hg hm bt_enumerate (PyProof.Rows.callWith_type1 (thn (ha.run pos pins s σ H _ I hq) fun us s1 qq0 => ?_) (se_cons h) rfl))
  obtain ⟨vs, H1, I1, r1, q1⟩ := qq0
  rcases q1 with ⟨x, e, q⟩ | ⟨l, xs, e, hl, q⟩
  · subst e
    obtain ⟨u, rfl, t, rfl⟩ := vals1 r1
    exact enumS_run hc I1 q
  · subst e
    obtain ⟨u, rfl, ru⟩ := vals1 r1
    cases ru
    obtain ⟨its, rv, p1, _⟩ := I1.list hl
    refine call_enumerate_list p1.isList fun h' z1 z2 z3 hk => ?_
    have J1 : Inv X pins σ H1 { s1 with heap := h' } := I1.kept (t' := s1.toks) hk
    refine wpAny_pyIter_enum z1 ?_
    refine ⟨s1.heap.objs.size + 1, _, _, _, H1, rfl, J1, turn_enumL (Nat.succ_ne_self _), ⟨⟨_, z1⟩, z2⟩, fun b hb => ?_, q⟩
    have hb' : s1.heap.objs.size ≤ b := by
      simp only [List.mem_cons, List.mem_nil_iff, or_false] at hb
      have key : ∀ n c : Nat, (c = n + 1 ∨ c = n) → n ≤ c := fun n c h => by omega
      exact key _ _ hb
    exact I1.fpOk hb' (I1.hok.fresh hb')⟩
end L2

namespace L2
open PySem PySem.Spec PyProof.Rows PySem.SeqAt
mutual
noncomputable def DR (H : Hp) : PyData → V → Prop
  | .none, v => v = .non
  | .bool b, v => v = .bl b
  | .int n, v => v = .int n
  | .str x, v => v = .str x
  | .list ds, v => ∃ a vs, v = .ref a ∧ H a = some (.lst vs) ∧ DRs H ds vs
  | .tuple ds, v => ∃ a vs, v = .ref a ∧ H a = some (.tup vs) ∧ DRs H ds vs
  | .dict _, _ => False
noncomputable def DRs (H : Hp) : List PyData → List V → Prop
  | [], vs => vs = []
  | d :: ds, vs => ∃ v r, vs = v :: r ∧ DR H d v ∧ DRs H ds r
end
theorem DR_int {H : Hp} {n : Int} {v : V} : DR H (.int n) v ↔ v = .int n := by rw [DR]
theorem DR_list {H : Hp} {ds : List PyData} {v : V} : DR H (.list ds) v ↔ ∃ a vs, v = .ref a ∧ H a = some (.lst vs) ∧ DRs H ds vs := by rw [DR]
theorem DRs_nil {H : Hp} {vs : List V} : DRs H [] vs ↔ vs = [] := by rw [DRs]
theorem DRs_cons {H : Hp} {d : PyData} {ds : List PyData} {vs : List V} : DRs H (d :: ds) vs ↔ ∃ v r, vs = v :: r ∧ DR H d v ∧ DRs H ds r := by rw [DRs]
theorem DRs_ints {H : Hp} : ∀ (ns : List Int), DRs H (ns.map PyData.int) (ns.map V.int)
  | [] => DRs_nil.mpr rfl
  | n :: ns => DRs_cons.mpr ⟨_, _, rfl, DR_int.mpr rfl, DRs_ints ns⟩
mutual
theorem DR.reads {P : Program} {w : World} {H : Hp} {h : Heap} (ok : HOk P w H h) : ∀ (d : PyData) (v : V) (u : Value), DR H d v → RelV v u → ∃ as, Reads h u d as
  | .none, _, u, q, r => by rw [DR] at q; subst q; cases r; exact ⟨_, .none⟩
  | .bool b, _, u, q, r => by rw [DR] at q; subst q; cases r; exact ⟨_, .bool _⟩
  | .int n, _, u, q, r => by rw [DR] at q; subst q; obtain ⟨t, rfl⟩ := r; exact ⟨_, .int _ _⟩
  | .str n, _, u, q, r => by rw [DR] at q; subst q; obtain ⟨t, rfl⟩ := r; exact ⟨_, .str _ _⟩
  | .list ds, v, u, q, r => by
    rw [DR] at q
    obtain ⟨a, vs, rfl, e, t⟩ := q
    cases r
    obtain ⟨_, its, n, rv, g⟩ := ok a _ e
    obtain ⟨as, ra⟩ := DRs.reads ok ds vs its t rv
    exact ⟨_, .list g rfl rfl (by simpa using ra)⟩
  | .tuple ds, v, u, q, r => by
    rw [DR] at q
    obtain ⟨a, vs, rfl, e, t⟩ := q
    cases r
    obtain ⟨_, its, rv, g⟩ := ok a _ e
    obtain ⟨as, ra⟩ := DRs.reads ok ds vs its t rv
    obtain ⟨o, ho, hc, n, hd⟩ := g
    exact ⟨_, .tuple ho hc hd (by simpa using ra)⟩
  | .dict _, _, _, q, _ => by rw [DR] at q; exact q.elim
theorem DRs.reads {P : Program} {w : World} {H : Hp} {h : Heap} (ok : HOk P w H h) : ∀ (ds : List PyData) (vs : List V) (us : List Value), DRs H ds vs → Vals vs us → ∃ as, ReadsAll h us ds as
  | [], _, us, q, r => by rw [DRs] at q; subst q; cases r; exact ⟨_, .nil⟩
  | d :: ds, _, us, q, r => by
    rw [DRs] at q
    obtain ⟨v, r', rfl, q1, q2⟩ := q
    cases r with
    | cons a b =>
      obtain ⟨as, h1⟩ := DR.reads ok d v _ q1 a
      obtain ⟨bs, h2⟩ := DRs.reads ok ds r' _ q2 b
      exact ⟨_, .cons h1 h2⟩
end
noncomputable def rEqD : R2 := fun x y H Q => ∃ d e, DR H d x ∧ DR H e y ∧ shaped d = true ∧ shaped e = true ∧ Q (.bl (PyData.eqv d e)) H
noncomputable def rNeD : R2 := fun x y H Q => ∃ d e, DR H d x ∧ DR H e y ∧ shaped d = true ∧ shaped e = true ∧ Q (.bl (!PyData.eqv d e)) H
section
variable {X : Cx}
theorem op_eqD (hu : X.A.units + 64 < cLine) : OpR X (compareOp .Eq) rEqD := by
  intro pins s σ H x y v u Q I rx ry h
  obtain ⟨d, e, h1, h2, h3, h4, q⟩ := h
  obtain ⟨as, r1⟩ := DR.reads I.hok d x v h1 rx
  obtain ⟨bs, r2⟩ := DR.reads I.hok e y u h2 ry
  exact eq_dataH r1 r2 h3 h4 hu ⟨.bl _, H, I, rfl, q⟩
theorem op_neD (hu : X.A.units + 64 < cLine) : OpR X (compareOp .NotEq) rNeD := by
  intro pins s σ H x y v u Q I rx ry h
  obtain ⟨d, e, h1, h2, h3, h4, q⟩ := h
  obtain ⟨as, r1⟩ := DR.reads I.hok d x v h1 rx
  obtain ⟨bs, r2⟩ := DR.reads I.hok e y u h2 ry
  exact ne_dataH r1 r2 h3 h4 hu ⟨.bl _, H, I, rfl, q⟩
noncomputable def rEqB (K : PySem.W.Frag) : R2 := fun x y H Q => rEqA K x y H Q ∨ rEqD x y H Q
noncomputable def rNeB (K : PySem.W.Frag) : R2 := fun x y H Q => rNeA K x y H Q ∨ rNeD x y H Q
theorem op_eqX {K : PySem.W.Frag} (hK : X.K = K) (hu : X.A.units + 64 < cLine) : OpR X (compareOp .Eq) (rEqB K) := (op_eqK hK (Nat.lt_of_le_of_lt (Nat.le_add_right _ _) hu)).or (op_eqD hu)
theorem op_neX {K : PySem.W.Frag} (hK : X.K = K) (hu : X.A.units + 64 < cLine) : OpR X (compareOp .NotEq) (rNeB K) := (op_neK hK hu).or (op_neD hu)
end
section
variable {H : Hp} {Q : VK} {K : PySem.W.Frag} {σ : St}
theorem r_eqBI {i j : Int} (h : Q (.bl (decide (V.int i = V.int j))) H) : rEqB K (.int i) (.int j) H Q := .inl (.inl ⟨rfl, h⟩)
theorem r_eqBS {i j : Str} (h : Q (.bl (decide (V.str i = V.str j))) H) : rEqB K (.str i) (.str j) H Q := .inl (.inl ⟨rfl, h⟩)
theorem r_neBI {i j : Int} (h : Q (.bl (!decide (V.int i = V.int j))) H) : rNeB K (.int i) (.int j) H Q := .inl (.inl ⟨rfl, h⟩)
theorem r_eqSame {x y : V} {d : PyData} (h1 : DR H d x) (h2 : DR H d y) (hs : shaped d = true) (h : Q (.bl true) H) : rEqB K x y H Q :=
  .inr ⟨d, d, h1, h2, hs, hs, by rw [PySem.SeqAt.eqv_refl d (canLay_of_shaped hs)]; exact h⟩
theorem r_enumA {a : TA} {R : It → Hp → Prop} (h : a σ H fun vs H1 => (∃ x : Str, vs = [.str x] ∧ R (Itp (enumS x) x.cps.size) H1) ∨ ∃ a xs, vs = [.ref a] ∧ SqL K H1 a xs ∧ R (Ite K a) H1) : iEnum K a σ H R := h
theorem for_enumL {a : Addr} {xs : List V} {g : TG} {tb : TS} {D : Ends} (Pv : Nat → St → Hp → Prop) (h0 : Pv 0 σ H) (hq : ∀ i σ H, i ≤ xs.length → Pv i σ H → SqL K H a xs)
    (hs : ∀ i σ H T x, xs[i]? = some x → Pv i σ H → H T = none → g (.ref T) σ (upd H T (.tup [.int i, x])) fun σ2 H2 => tb { D with nx := Pv (i + 1), ct := Pv (i + 1), bk := D.nx } σ2 H2) (hd : ∀ σ H, Pv xs.length σ H → D.nx σ H) :
    ∃ W : Nat → Nat → St → Hp → Prop, (∃ m, W 0 m σ H) ∧ ∀ i m σ H, W i m σ H →
      ((Ite K a).stop i H ∧ D.nx σ H) ∨ ((Ite K a).go i H ∧ ∃ N : St → Hp → Prop, (∀ σ' H', N σ' H' → ∃ m', m' < m ∧ W (i + 1) m' σ' H') ∧ ∀ x H', (Ite K a).yld i H x H' → g x σ H' fun σ2 H2 => tb { D with nx := N, ct := N, bk := D.nx } σ2 H2) := by
  refine ⟨fun i m σ H => m = xs.length - i ∧ i ≤ xs.length ∧ Pv i σ H, ⟨xs.length, by simp, Nat.zero_le _, h0⟩, ?_⟩
  rintro i m σ H ⟨rfl, hi, p⟩
  have q1 := hq i σ H hi p
  by_cases hlt : i < xs.length
  · refine .inr ⟨⟨xs, xs[i], q1, List.getElem?_eq_getElem hlt⟩, Pv (i + 1), fun σ' H' p' => ⟨xs.length - (i + 1), by omega, rfl, hlt, p'⟩, fun x H' y => ?_⟩
    obtain ⟨T, u, hT, e1, e2, e4⟩ := y
    subst e1 e4
    exact hs i σ H T u (e2 xs q1) p hT
  · have e : i = xs.length := by omega
    subst e
    exact .inl ⟨⟨xs, q1, Nat.le_refl _⟩, hd σ H p⟩
end
end L2

namespace L2
open PySem PySem.Spec PyProof.Rows
section
variable {prog : Program} {w : World} {A : Around} {E : Value → Shared → Prop} {s : Shared}
end
end L2

namespace L2
open PySem PySem.Spec PyProof.Rows
section
variable {X : Cx} {K : PySem.W.Frag} {a b c e : Expr} {ta tb tc te : TE} {pos p p2 p3 : Pos}
theorem arg1 {Q : List Value → Shared → Prop} {E : Value → Shared → Prop} {s : Shared} (hs : notStar e = true) (h : wpAny (model X.prog X.w) X.A (eval e X.env) (fun u s1 => Q [u] s1) E s) : wpAny (model X.prog X.w) X.A (spliced (backTo pos (starEach [e] X.env))) Q E s := by
  rw [se_cons hs]
  show wpAny _ _ (spliced ((false, eval e X.env) :: backTo pos (starEach [] X.env))) _ _ s
  exact Calls.spliced_cons (wpAny_mono h (fun u s1 q => Calls.spliced_nil q) fun _ _ z => z)
end
end L2

namespace L2
open PySem PySem.Spec PyProof.Rows
noncomputable def TbOk (h : Heap) (T : Addr) : Prop := ∃ oT ts, h.get? T = some oT ∧ oT.data = .fields ts ∧ 3 < ts.size
noncomputable def XObj (C : Addr) (dd : Option Addr) (vs : Array Value) : Obj := { cls := .ref C, dict := dd, data := .fields vs }
noncomputable def frA (l : List Env) : List Addr := l.filterMap (·.frame)
section
variable {M : Model} {A : Around} {E : Value → Shared → Prop}
theorem entry_new {base : Heap} {env : Env} {outer : List Env} {L x C : Addr} {dd : Option Addr} {vs : Array Value} {hd : Value} {had : Bool} {Q : Unit → Shared → Prop} {s : Shared}
    (fr : A.frames = some (env :: outer)) (ff : s.heap.FunFrames base (env :: outer)) (fL : env.frame = some L) (ex : s.heap.get? x = some (XObj C dd vs)) (sz : 1 < vs.size) (nx : x ∉ frA (env :: outer))
    (k : ∀ h' T, h'.get? x = some (XObj C dd (vs.setIfInBounds 1 (.ref T))) → s.heap.objs.size ≤ T → TbOk h' T → (∀ b o, b ≠ x → b ∉ frA (env :: outer) → s.heap.get? b = some o → h'.get? b = some o) →
      (∀ b o, b ≠ x → s.heap.get? b = some o → ∃ sl, h'.get? b = some { o with slots := sl }) → Q () { s with heap := h' }) :
    wpAny M A (do let c ← frameOf env; let pl ← entryPlaceOf L had; let t ← EntryCells.newEntry hd c .none (rawInt L) .none pl; setField (.ref x) 1 t) Q E s := by
  refine wpAny_bind (wpAny_frameOf_fun fr ff fL fun g1 so => ?_)
  refine wpAny_bind (wpAny_entryPlaceOf fun pl isp => ?_)
  unfold EntryCells.newEntry newFields
  refine wpAny_bind (wpAny_newObj_type ?_ (isp.sizeOk5 _ _ _ _ _))
  have x1 : g1.get? x = some (XObj C dd vs) := (so.2.1 x nx).trans ex
  have lts : ([hd, Value.ref L, .none, rawInt L, .none] ++ (if pl.isEmpty then List.replicate 6 Value.none else pl)).toArray.size > 3 := by
    simp only [List.size_toArray, List.length_append, List.length_cons, List.length_nil]; omega
  generalize ([hd, Value.ref L, .none, rawInt L, .none] ++ (if pl.isEmpty then List.replicate 6 Value.none else pl)).toArray = tv at lts
  have x2 : (g1.push { cls := .type "traceback", dict := none, data := .fields tv }).get? x = some (XObj C dd vs) := Heap.get?_push_of_some _ x1
  have nTx : g1.objs.size ≠ x := Nat.ne_of_gt (Heap.lt_size x1)
  have t2 : (g1.push { cls := .type "traceback", dict := none, data := .fields tv }).get? g1.objs.size = some { cls := .type "traceback", dict := none, data := .fields tv } := Heap.get?_push_size _ rfl
  have o2 : ∀ b o, g1.get? b = some o → (g1.push { cls := .type "traceback", dict := none, data := .fields tv }).get? b = some o := fun b o e => Heap.get?_push_of_some _ e
  refine wpAny_setField (vs := vs) x2 rfl sz ?_
  have e3 := Heap.get?_update_self (Obj.mapFields (·.setIfInBounds 1 (Value.ref g1.objs.size))) x2 rfl
  have ot : ∀ b, b ≠ x → ((g1.push { cls := .type "traceback", dict := none, data := .fields tv }).update x (Obj.mapFields (·.setIfInBounds 1 (Value.ref g1.objs.size)))).get? b = (g1.push { cls := .type "traceback", dict := none, data := .fields tv }).get? b := fun b hb => Heap.get?_update_other _ _ (Ne.symm hb)
  refine k _ g1.objs.size e3 (by rw [so.1]; exact Nat.le_refl _) ⟨_, tv, (ot _ nTx).trans t2, rfl, lts⟩ (fun b o hb hf e => ?_) (fun b o hb e => ?_)
  · rw [ot b hb]; exact o2 b o ((so.2.1 b hf).trans e)
  · obtain ⟨sl, q⟩ := so.2.2 b o e
    exact ⟨sl, by rw [ot b hb]; exact o2 b _ q⟩
structure NoteK (fs : List Addr) (x C : Addr) (dd : Option Addr) (hd : Option Addr) (h h' : Heap) (T : Addr) : Prop where
  obj : ∃ vs, h'.get? x = some (XObj C dd vs) ∧ vs[1]? = some (.ref T) ∧ vs[2]? = some .none
  tb : TbOk h' T
  ne : T ≠ x
  new : h.objs.size ≤ T ∨ hd = some T
  keep : ∀ b o, b ≠ x → some b ≠ hd → b ∉ fs → h.get? b = some o → h'.get? b = some o
  slot : ∀ b o, b ≠ x → some b ≠ hd → h.get? b = some o → ∃ sl, h'.get? b = some { o with slots := sl }
  tail : ∀ b o, hd = some b → h.get? b = some o → ∃ o', h'.get? b = some o'
theorem note1 {base : Heap} {env : Env} {outer : List Env} {L x C : Addr} {dd : Option Addr} {vs : Array Value} {Q : Unit → Shared → Prop} {s : Shared}
    (fr : A.frames = some (env :: outer)) (ff : s.heap.FunFrames base (env :: outer)) (fL : env.frame = some L) (ex : s.heap.get? x = some (XObj C dd vs)) (h1 : vs[1]? = some .none ∧ vs[2]? = some .none) (nx : x ∉ frA (env :: outer))
    (k : ∀ h' T, NoteK (frA (env :: outer)) x C dd none s.heap h' T → Q () { s with heap := h' }) : wpAny M A (noteFrame (.ref x) env) Q E s := by
  unfold noteFrame
  simp only [fL]
  refine wpAny_bind (wpAny_field ex rfl h1.1 ?_)
  rw [if_neg (by decide)]
  have sz : 1 < vs.size := (Array.getElem?_eq_some_iff.mp h1.1).1
  refine entry_new fr ff fL ex sz nx fun h' T a1 a2 a3 a4 a5 => k h' T ⟨⟨_, a1, by simp [sz], by rw [Array.getElem?_setIfInBounds_ne (by decide)]; exact h1.2⟩, a3, ?_, .inl a2, fun b o hb _ hf e => a4 b o hb hf e, fun b o hb _ e => a5 b o hb e, fun b o z => by cases z⟩
  exact Nat.ne_of_gt (Nat.lt_of_lt_of_le (Heap.lt_size ex) a2)
theorem note2 {base : Heap} {env : Env} {outer : List Env} {L x C T0 : Addr} {dd : Option Addr} {vs : Array Value} {Q : Unit → Shared → Prop} {s : Shared}
    (fr : A.frames = some (env :: outer)) (ff : s.heap.FunFrames base (env :: outer)) (fL : env.frame = some L) (ex : s.heap.get? x = some (XObj C dd vs)) (h1 : vs[1]? = some (.ref T0) ∧ vs[2]? = some .none) (t0 : TbOk s.heap T0) (ne : T0 ≠ x) (nx : x ∉ frA (env :: outer)) (nT : T0 ∉ frA (env :: outer))
    (k : ∀ h' T, NoteK (frA (env :: outer)) x C dd (some T0) s.heap h' T → Q () { s with heap := h' }) : wpAny M A (noteFrame (.ref x) env) Q E s := by
  obtain ⟨oT, ts, g, d, l3⟩ := id t0
  unfold noteFrame
  simp only [fL]
  refine wpAny_bind (wpAny_field ex rfl h1.1 ?_)
  rw [if_pos (show (Value.ref T0 != Value.none) = true from by simp)]
  refine wpAny_bind (wpAny_field g d (Array.getElem?_eq_getElem l3) ?_)
  by_cases q : (ts[3] == rawInt L) = true
  · rw [if_pos q]
    exact wpAny_pure (k _ T0 ⟨⟨vs, ex, h1⟩, t0, ne, .inr rfl, fun b o _ _ _ e => e, fun b o _ _ e => ⟨o.slots, e⟩, fun b o _ e => ⟨o, e⟩⟩)
  · rw [if_neg q]
    refine wpAny_bind (wpAny_setField g d l3 ?_)
    have tT := Heap.get?_update_self (Obj.mapFields (·.setIfInBounds 3 Value.none)) g (Obj.isFreed_of_fields (Obj.data_mapFields d _))
    have ot : ∀ b, b ≠ T0 → (s.heap.update T0 (Obj.mapFields (·.setIfInBounds 3 Value.none))).get? b = s.heap.get? b := fun b hb => Heap.get?_update_other _ _ (Ne.symm hb)
    have sz : 1 < vs.size := (Array.getElem?_eq_some_iff.mp h1.1).1
    have ff2 : (s.heap.update T0 (Obj.mapFields (·.setIfInBounds 3 Value.none))).FunFrames base (env :: outer) := ff.of_keeps fun b o hb hn => by
      refine ⟨o, (ot b (fun z => ?_)).trans hb, rfl⟩
      rw [z, g] at hb; cases hb; exact hn _ d
    refine entry_new (s := { s with heap := s.heap.update T0 (Obj.mapFields (·.setIfInBounds 3 Value.none)) }) fr ff2 fL ((ot x (Ne.symm ne)).trans ex) sz nx fun h' T a1 a2 a3 a4 a5 => k h' T ⟨⟨_, a1, by simp [sz], by rw [Array.getElem?_setIfInBounds_ne (by decide)]; exact h1.2⟩, a3, ?_, .inl (by rw [Heap.size_update] at a2; exact a2), fun b o hb h0 hf e => a4 b o hb hf ((ot b (fun z => h0 (by rw [z]))).trans e), fun b o hb h0 e => a5 b o hb ((ot b (fun z => h0 (by rw [z]))).trans e), fun b o hb e => ?_⟩
    · exact Nat.ne_of_gt (Nat.lt_of_lt_of_le (Heap.lt_size ex) (by rw [Heap.size_update] at a2; exact a2))
    · cases hb
      obtain ⟨sl, z⟩ := a5 T0 _ ne tT
      exact ⟨_, z⟩
theorem land1 {x C T0 : Addr} {dd : Option Addr} {vs : Array Value} {Q : Unit → Shared → Prop} {s : Shared} (ex : s.heap.get? x = some (XObj C dd vs)) (h1 : vs[1]? = some (.ref T0) ∧ vs[2]? = some .none) (t0 : TbOk s.heap T0) (ne : T0 ≠ x)
    (k : ∀ h', NoteK [] x C dd (some T0) s.heap h' T0 → Q () { s with heap := h' }) : wpAny M A (setFlight (.ref x) none) Q E s := by
  obtain ⟨oT, ts, g, d, l3⟩ := id t0
  unfold setFlight
  refine wpAny_bind (wpAny_field ex rfl h1.1 ?_)
  rw [if_pos (show (Value.ref T0 != Value.none) = true from by simp)]
  refine wpAny_setField g d l3 (k _ ?_)
  have d2 := Obj.data_mapFields d (·.setIfInBounds 3 ((none : Option Addr).elim Value.none fun f => rawInt f))
  have tT := Heap.get?_update_self (Obj.mapFields (·.setIfInBounds 3 ((none : Option Addr).elim Value.none fun f => rawInt f))) g (Obj.isFreed_of_fields d2)
  have ot : ∀ b, b ≠ T0 → (s.heap.update T0 (Obj.mapFields (·.setIfInBounds 3 ((none : Option Addr).elim Value.none fun f => rawInt f)))).get? b = s.heap.get? b := fun b hb => Heap.get?_update_other _ _ (Ne.symm hb)
  exact ⟨⟨vs, (ot x (Ne.symm ne)).trans ex, h1⟩, ⟨_, _, tT, d2, by simpa using l3⟩, ne, .inr rfl, fun b o _ h0 _ e => (ot b (fun z => h0 (by rw [z]))).trans e, fun b o _ h0 e => ⟨o.slots, (ot b (fun z => h0 (by rw [z]))).trans e⟩, fun b o hb e => by cases hb; exact ⟨_, tT⟩⟩
end
end L2

namespace L2
open PySem PySem.Spec PyProof.Rows
noncomputable def VEm : List Value := [.type "ValueError", .type "Exception", .type "BaseException", .type "object"]
noncomputable def xIn (K : PySem.W.Frag) (D : Addr) : Bool := match K.lookup D with
  | some ⟨.type "type", _, .cls cd, sl⟩ => (match cd.mro, sl.toList with
    | .ref E :: bm, [_, _, _, _, some (.builtin n), _] => E == D && n == "ValueError.__new__" && cd.hasDel == false && cd.hasDict && PySem.W.tailIn K VEm bm
    | _, _ => false)
  | _ => false
theorem xIn_of {K : PySem.W.Frag} {D : Addr} (q : xIn K D = true) : ∃ nm qn N bs bm sn sub ab col dd k0 k1 k2 k3 k5, K.lookup D = some (excClassObj nm qn D N bs bm true sn sub ab col dd k0 k1 k2 k3 k5 "ValueError.__new__") ∧ ∀ h, K.In h → OwnTail h VEm bm := by
  unfold xIn at q
  split at q
  · rename_i dd cd sl ho
    split at q
    · rename_i D' bm k0 k1 k2 k3 n k5 hm hs
      simp only [Bool.and_eq_true, beq_iff_eq] at q
      obtain ⟨⟨⟨⟨e1, e2⟩, e3⟩, e4⟩, e5⟩ := q
      subst e1 e2
      obtain ⟨nm, bs, mro, ns, qn, hd, sn, sub, ab, col, del⟩ := cd
      dsimp only at hm e3 e4
      subst hm e3 e4
      have hsl : sl = #[k0, k1, k2, k3, some (.builtin "ValueError.__new__"), k5] := by
        obtain ⟨l⟩ := sl
        dsimp only at hs
        rw [hs]
      subst hsl
      exact ⟨nm, qn, ns, bs, bm, sn, sub, ab, col, dd, k0, k1, k2, k3, k5, ho, fun h X => PySem.W.tail_of_in X e5⟩
    · cases q
  · cases q
section
variable {prog : Program} {w : World} {A : Around} {K : PySem.W.Frag} {D f : Addr} {E : Value → Shared → Prop}
theorem type_call_x {h : Heap} {g : Array GenState} {d : Drawn} {t : Nat} {os : OsState} {us : List Value} {Q : Fin → Shared → Prop} (X : K.In h) (hx : xIn K D = true)
    (hi : PySem.W.findIn K (.ref D) "__init__" = some (some (.ref f))) (hf : PySem.W.typeIn K (.ref f) = some (.type "function")) (hl : us.length ≤ sizeLine)
    (k : wpAny (model prog w) A (call (.ref f) (.ref (h.objs.size + 1) :: us)) (fun r s' => r = .none ∧ Q (.done (.ret (.ref (h.objs.size + 1)))) s') E
      ⟨(h.push { cls := .type "tuple", data := .seq us.toArray }).push (XObj D none #[.ref h.objs.size, .none, .none, .none, .bool false, .none]), g, d, t, os⟩) :
    wpAny (model prog w) A (Builtin.«type.__call__» ⟨.ref D :: us, []⟩) Q E ⟨h, g, d, t, os⟩ := by
  obtain ⟨nm, qn, N, bs, bm, sn, sub, ab, col, dd, k0, k1, k2, k3, k5, lk0, tl⟩ := xIn_of hx
  have T := tl h X
  have hD := X _ _ lk0
  have L3 := PySem.W.looks_findIn (M := model prog w) X hi
  have L4 := PySem.W.bind_fn (M := model prog w) X (.ref (h.objs.size + 1)) hf
  repeat (first | with_reducible refine wpAny_loadPart_at hD ?_ | with_reducible refine wpAny_madeBy_exc hD ?_ | wp_step)
  refine codeAny_call_builtin_code (Code.quiet_builtin _ F.excBase_ValueError.quiet) (wpAny_check_new_subT F.excBase_ValueError T hD (codeAny_exc_new_subT F.excBase_ValueError T hD ?_ hl))
  show wpAny _ _ _ _ _ _
  have keep : ∀ b o, h.get? b = some o → ((h.push { cls := .type "tuple", data := .seq us.toArray }).push (XObj D none #[.ref h.objs.size, .none, .none, .none, .bool false, .none])).get? b = some o := fun b o q => Heap.get?_push_of_some _ (Heap.get?_push_of_some _ q)
  have gx : ((h.push { cls := .type "tuple", data := .seq us.toArray }).push (XObj D none #[.ref h.objs.size, .none, .none, .none, .bool false, .none])).get? (h.objs.size + 1) = some (XObj D none #[.ref h.objs.size, .none, .none, .none, .bool false, .none]) := by
    have := Heap.get?_push_size (h.push { cls := .type "tuple", data := .seq us.toArray }) (o := XObj D none #[.ref h.objs.size, .none, .none, .none, .bool false, .none]) rfl
    rwa [Heap.size_push] at this
  have hD1 := keep _ _ hD
  have M3 := L3.keeps keep
  have M4 := L4.keeps keep
  have cD : (Value.ref D :: bm).contains (.ref D) = true := by simp
  unfold XObj at gx M3 M4 hD1 k
  unfold isInstance
  repeat (first | with_reducible refine wpAny_loadPart_at gx ?_ | (with_reducible refine wpAny_isSubtype_exc hD1 ?_; rw [cD]) | wp_step)
  show wpAny _ _ (typeLookup (.ref D) _) _ _ _
  refine M3.at ?_
  refine wpAny_holding (wpAny_bind (M4.at ?_))
  dsimp only
  refine wpAny_bind (wpAny_mono k (fun r s' hr => ?_) fun _ _ z => z)
  obtain ⟨rfl, z⟩ := hr
  wp_walk
  exact z
theorem call_x {s : Shared} {us : List Value} {Q : Value → Shared → Prop} (X : K.In s.heap) (hx : xIn K D = true)
    (hi : PySem.W.findIn K (.ref D) "__init__" = some (some (.ref f))) (hf : PySem.W.typeIn K (.ref f) = some (.type "function")) (hl : us.length ≤ sizeLine)
    (k : wpAny (model prog w) (A.under (.builtin "type.__call__" ⟨.ref D :: us, []⟩)) (call (.ref f) (.ref (s.heap.objs.size + 1) :: us)) (fun r s' => r = .none ∧ Q (.ref (s.heap.objs.size + 1)) s') E
      { s with heap := (s.heap.push { cls := .type "tuple", data := .seq us.toArray }).push (XObj D none #[.ref s.heap.objs.size, .none, .none, .none, .bool false, .none]) }) :
    wpAny (model prog w) A (call (.ref D) us) Q E s := by
  obtain ⟨h, g, d, t, os⟩ := s
  obtain ⟨nm, qn, N, bs, bm, sn, sub, ab, col, dd, k0, k1, k2, k3, k5, lk0, tl⟩ := xIn_of hx
  have hD := X _ _ lk0
  have f1 := tc_lookup
  have f2 := tc_bind (.ref D)
  have hT : (⟨h, g, d, t, os⟩ : Shared).TypeIs (.ref D) "type" := ⟨_, hD, rfl⟩
  refine wpAny_call (codeAny_of_tree ?_)
  show wpAny _ _ (callAny (.ref D) _) _ _ _
  repeat (any_goals (first | assumption | with_reducible refine wpAny_loadPart_at hD ?_ | wp_step))
  refine ⟨rfl, codeAny_call_builtin_at (Code.quiet_builtin _ (by decide +kernel)) entry_typeCall (wpAny_check_type_call_sub hD (type_call_x X hx hi hf hl ?_))⟩
  exact k
end
end L2

namespace L2
open PySem PySem.Spec PyProof.Rows
noncomputable def excO (x C dx : Addr) : HO := .ext fun h => ∃ vs, h.get? x = some (XObj C (some dx) vs) ∧ vs[2]? = some .none
noncomputable def excRaw (x C : Addr) : HO := .ext fun h => ∃ t, h.get? x = some (XObj C none #[.ref t, .none, .none, .none, .bool false, .none])
theorem excO_ok {P : Program} {w : World} {H : Hp} {h : Heap} {x C dx : Addr} {vs : Array Value} (e : h.get? x = some (XObj C (some dx) vs)) (h2 : vs[2]? = some .none) : ObjOk P w H h x (excO x C dx) :=
  ⟨⟨vs, e, h2⟩, ⟨_, e⟩, fun h1 h2 ⟨vs, e, z⟩ k => ⟨vs, k _ e, z⟩⟩
structure Head (X : Cx) (pins : List (Addr × Obj)) (H : Hp) (x C dx T : Addr) (h : Heap) : Prop where
  obj : ∃ vs, h.get? x = some (XObj C (some dx) vs) ∧ vs[1]? = some (.ref T) ∧ vs[2]? = some .none
  tb : TbOk h T
  fp : FpOk X pins H T
  tr : H x = some (excO x C dx)
theorem Head.ne {X : Cx} {pins : List (Addr × Obj)} {H : Hp} {x C dx T : Addr} {h : Heap} (a : Head X pins H x C dx T h) : T ≠ x := fun z => by
  have := a.fp.1
  rw [z, a.tr] at this; cases this
noncomputable def Fly (X : Cx) (pins : List (Addr × Obj)) (H : Hp) (x C dx : Addr) (h : Heap) : Prop :=
  H x = some (excO x C dx) ∧ ((∃ vs, h.get? x = some (XObj C (some dx) vs) ∧ vs[1]? = some .none ∧ vs[2]? = some .none) ∨ ∃ T, Head X pins H x C dx T h)
section
variable {X : Cx} {pins : List (Addr × Obj)} {σ : St} {H : Hp} {s : Shared} {x C dx : Addr} {h' : Heap} {T : Addr} {hd : Option Addr}
theorem Inv.noted {fs : List Addr} (I : Inv X pins σ H s) (hx : H x = some (excO x C dx)) (hh : ∀ b, hd = some b → FpOk X pins H b) (hf : ∀ b ∈ fs, b ∈ X.env.locals :: X.fs) (N : NoteK fs x C (some dx) hd s.heap h' T) : Inv X pins σ H { s with heap := h' } := by
  obtain ⟨m, ⟨oL, esL, epL, hoL, rL⟩, _⟩ := id I.loc
  have fsF : ∀ b ∈ fs, H b = none := fun b hb => by
    rcases List.mem_cons.mp (hf b hb) with e | hb
    · rw [e]; exact I.free
    · obtain ⟨_, o, ho, _⟩ := I.ok.funs.mem hb
      exact I.base.free b o ho (I.ok.frf b hb) fun z => I.ok.exfs b z hb
  have nx : ∀ b, H b = none → b ≠ x := fun b n z => by rw [z, hx] at n; cases n
  have hdF : ∀ b, hd = some b → H b = none := fun b e => (hh b e).1
  have mem : ∀ b, b ∉ hd.toList → some b ≠ hd := fun b nb z => nb (by rw [← z]; simp)
  refine I.step (g' := s.gens) (d' := s.drawn) (t' := s.toks) (ch := hd.toList) (fun b hb => ?_) (fun b o hL hb hc e n => ?_) (fun b o hL hb hc e n => ?_) (fun _ _ _ _ n => n) (fun b o hc e => ?_) (fun _ _ e => e) (fun _ _ _ e => e) (fun b ps e => ⟨#[], by rw [e]; simp⟩) (fun m hm => ?_) (fun b u e => ?_) I.bare
  · have e : hd = some b := by cases hd <;> simp_all
    obtain ⟨_, a2, _, a4, a5, a6⟩ := hh b e
    exact ⟨a4, a2, a5, a6⟩
  · refine N.keep b o (nx b n) (mem b hc) (fun z => ?_) e
    rcases List.mem_cons.mp (hf b z) with q | q
    · exact hL q
    · exact hb q
  · exact N.slot b o (nx b n) (mem b hc) e
  · by_cases q : b = x
    · obtain ⟨vs, z, _⟩ := N.obj
      exact ⟨_, by rw [q]; exact z⟩
    · obtain ⟨sl, z⟩ := N.slot b o q (mem b hc) e
      exact ⟨_, z⟩
  · obtain ⟨o, es, ep, ho, r⟩ := hm
    obtain ⟨sl, z⟩ := N.slot _ o (nx _ I.free) (fun q => (hh _ q.symm).2.1 rfl) ho
    exact ⟨_, es, ep, z, r⟩
  · by_cases q : b = x
    · subst q
      rw [hx] at e; cases e
      obtain ⟨vs, z, _, z2⟩ := N.obj
      exact excO_ok z z2
    · refine (I.hok b u e).stay (fun c v hc z => ?_) (fun _ q => q) fun _ _ q => q
      have tc : ∃ u, H c = some u := by
        rcases hc with rfl | hc
        · exact ⟨_, e⟩
        · exact ⟨_, hc⟩
      obtain ⟨uc, tc⟩ := tc
      refine N.keep c v (fun zz => ?_) (fun zz => ?_) (fun zz => ?_) z
      · rcases hc with rfl | hc
        · exact q zz
        · rw [zz, hx] at hc; cases hc
      · rw [hdF c zz.symm] at tc; cases tc
      · rw [fsF c zz] at tc; cases tc
theorem fly_note {A : Around} {E : Value → Shared → Prop} {Q : Unit → Shared → Prop} (I : Inv X pins σ H s) (hst : X.stack = X.env :: X.outer) (hfr : X.env.frame = some X.env.locals) (hA : A.frames = some X.stack) (F : Fly X pins H x C dx s.heap)
    (k : ∀ h' T, Inv X pins σ H { s with heap := h' } → Head X pins H x C dx T h' → Q () { s with heap := h' }) : wpAny (model X.prog X.w) A (noteFrame (.ref x) X.env) Q E s := by
  have ff : s.heap.FunFrames X.base (X.env :: X.outer) := hst ▸ I.stack
  have sub : ∀ b ∈ frA (X.env :: X.outer), b ∈ X.env.locals :: X.fs := fun b hb => I.stkSub b (by rw [hst]; exact hb)
  have nf : ∀ b u, H b = some u → b ∉ frA (X.env :: X.outer) := fun b u e z => by
    rw [I.stkFree b (by rw [hst]; exact z)] at e; cases e
  obtain ⟨hx, ⟨vs, e, h1⟩ | ⟨T0, hT⟩⟩ := F
  · refine note1 (hst ▸ hA) ff hfr e h1 (nf x _ hx) fun h' T N => ?_
    have J := I.noted hx (fun b z => by cases z) sub N
    refine k h' T J ⟨N.obj, N.tb, ?_, hx⟩
    have zT : s.heap.objs.size ≤ T := by rcases N.new with z | z; exact z; cases z
    exact I.fpOk zT (I.hok.fresh zT)
  · obtain ⟨vs, e, h1⟩ := hT.obj
    refine note2 (hst ▸ hA) ff hfr e h1 hT.tb hT.ne (nf x _ hx) (fun z => ?_) fun h' T N => ?_
    · rcases List.mem_cons.mp (sub T0 z) with q | q
      · exact hT.fp.2.1 q
      · exact hT.fp.2.2.1 q
    · have J := I.noted hx (fun b z => by cases z; exact hT.fp) sub N
      refine k h' T J ⟨N.obj, N.tb, ?_, hx⟩
      rcases N.new with z | z
      · exact I.fpOk z (I.hok.fresh z)
      · cases z; exact hT.fp
theorem fly_land {A : Around} {E : Value → Shared → Prop} {Q : Unit → Shared → Prop} (I : Inv X pins σ H s) (F : Head X pins H x C dx T s.heap)
    (k : ∀ h', Inv X pins σ H { s with heap := h' } → Head X pins H x C dx T h' → Q () { s with heap := h' }) : wpAny (model X.prog X.w) A (setFlight (.ref x) none) Q E s := by
  obtain ⟨vs, e, h1⟩ := F.obj
  refine land1 e h1 F.tb F.ne fun h' N => ?_
  exact k h' (I.noted F.tr (fun b z => by cases z; exact F.fp) (fun b z => absurd z (by simp)) N) ⟨N.obj, N.tb, F.fp, F.tr⟩
noncomputable def CX1 (P : Program) (w : World) : CXT := fun outer H s E e s' => ∃ x C dx T H', e = .ref x ∧ s'.os = s.os ∧ AllBare s'.gens ∧ Un (frs outer) [] H H' s.heap s'.heap ∧ HOk P w H' s'.heap ∧ H' x = some (excO x C dx) ∧ H' T = none ∧ s.heap.objs.size ≤ T ∧
  (∃ vs, s'.heap.get? x = some (XObj C (some dx) vs) ∧ vs[1]? = some (.ref T) ∧ vs[2]? = some .none) ∧ TbOk s'.heap T ∧ E (.ref C) (some x) H'
noncomputable def XE (X : Cx) (pins : List (Addr × Obj)) (R : St → XK) (e : Value) (s' : Shared) : Prop := ∃ x C dx σ H', e = .ref x ∧ Inv X pins σ H' s' ∧ Fly X pins H' x C dx s'.heap ∧ R σ (.ref C) (some x) H'
theorem xe_call {R : St → XK} {e : Value} {s' : Shared} (I : Inv X pins σ H s) (c : CX1 X.prog X.w X.stack H s (R σ) e s') : XE X pins R e s' := by
  obtain ⟨x, C, dx, T, H', rfl, os, bare, un, hok, tx, tT, zT, ob, tb, r⟩ := c
  obtain ⟨hh, g, d, t, os'⟩ := s'
  obtain rfl : os' = s.os := os
  have J := I.call (h' := hh) (g' := g) (d' := d) (t' := t) (ch := []) un hok bare (fun b z => absurd z (by simp))
  exact ⟨x, C, dx, σ, H', rfl, J, ⟨tx, .inr ⟨T, ob, tb, I.fpOk zT tT, tx⟩⟩, r⟩
noncomputable def PassX (X : Cx) (R : St → XK) : Prop := ∀ (pins : List (Addr × Obj)) (e : Value) (s' : Shared), XE X pins R e s' → X.xe e s'
end
theorem pass_def {P : Program} {w : World} {K : PySem.W.Frag} {mg : Str → Option Value} {base : Heap} {N : List Str} {qual : Str} {scope : Scope} {f : Addr} {cd : Value} {A : Around} {outer : List Env} {s : Shared} {H : Hp} {E : XK} :
    PassX (cxOf (CX1 P w) P w K mg base N qual scope f cd A outer s H E) (fun _ => E) := by
  rintro pins e s' ⟨x, C, dx, σ, H', he, I, F, r⟩
  subst he
  show wpAny _ _ (leaving _ _) _ _ _
  unfold leaving
  refine wpAny_bind (fly_note (X := cxOf (CX1 P w) P w K mg base N qual scope f cd A outer s H E) I rfl rfl I.ok.frames F fun h1 T J1 F1 => ?_)
  refine fly_land (X := cxOf (CX1 P w) P w K mg base N qual scope f cd A outer s H E) J1 F1 fun h2 J2 F2 => ?_
  refine ⟨x, C, dx, T, H', rfl, J2.os, J2.bare, J2.base, J2.hok, F2.tr, F2.fp.1, ?_, F2.obj, F2.tb, r⟩
  rcases F2.fp.2.2.2.1 with z | z
  · exact absurd (show T ∈ ([] : List Addr) from z) (by simp)
  · exact z
end L2

namespace L2
open PySem PySem.Spec PyProof.Rows
noncomputable def excD (d : Addr) (fs : List (Str × V)) : HO := .ext fun h => ∃ mA, h.Ns1 d mA ∧ ∀ f, RelO (fs.lookup f) (mA f)
theorem excD_ok {P : Program} {w : World} {H : Hp} {h : Heap} {d : Addr} {fs : List (Str × V)} {mA : Str → Option Value} (n : h.Ns1 d mA) (r : ∀ f, RelO (fs.lookup f) (mA f)) : ObjOk P w H h d (excD d fs) := by
  refine ⟨⟨mA, n, r⟩, let ⟨o, _, _, e, _⟩ := n; ⟨o, e⟩, fun h1 h2 ⟨m, n, r⟩ k => ⟨m, ?_, r⟩⟩
  obtain ⟨o, es, ep, e, q⟩ := n
  exact ⟨o, es, ep, k _ e, q⟩
theorem excD_of {P : Program} {w : World} {H : Hp} {h : Heap} {d : Addr} {fs : List (Str × V)} (ok : HOk P w H h) (e : H d = some (excD d fs)) : ∃ mA, h.Ns1 d mA ∧ ∀ f, RelO (fs.lookup f) (mA f) := (ok _ _ e).1
noncomputable def excNew (x C d : Addr) : HO := .ext fun h => ∃ t, h.get? x = some (XObj C (some d) #[.ref t, .none, .none, .none, .bool false, .none])
theorem excNew_ok {P : Program} {w : World} {H : Hp} {h : Heap} {x C d t : Addr} (e : h.get? x = some (XObj C (some d) #[.ref t, .none, .none, .none, .bool false, .none])) : ObjOk P w H h x (excNew x C d) :=
  ⟨⟨t, e⟩, ⟨_, e⟩, fun h1 h2 ⟨t, e⟩ k => ⟨t, k _ e⟩⟩
theorem excNew_of {P : Program} {w : World} {H : Hp} {h : Heap} {x C d : Addr} (ok : HOk P w H h) (e : H x = some (excNew x C d)) : ∃ t, h.get? x = some (XObj C (some d) #[.ref t, .none, .none, .none, .bool false, .none]) := (ok _ _ e).1
noncomputable def refsThen : List Value → Bool
  | [.type a, .type b, .type c, .type d] => a == "ValueError" && b == "Exception" && c == "BaseException" && d == "object"
  | .ref _ :: r => refsThen r
  | _ => false
theorem refsThen_ve {l : List Value} (e : refsThen l = true) : (∃ a r, l = .ref a :: r ∧ refsThen r = true) ∨ l = VEm := by
  unfold refsThen at e
  split at e
  · simp only [Bool.and_eq_true, beq_iff_eq] at e
    obtain ⟨⟨⟨rfl, rfl⟩, rfl⟩, rfl⟩ := e
    exact .inr rfl
  · exact .inl ⟨_, _, rfl, e⟩
  · cases e
theorem refuse_refs (self : Value) : ∀ (l : List Value), refsThen l = true → refuseLoop self "__setattr__" l = pure ()
  | [], e => by cases e
  | v :: r, e => by
    rcases refsThen_ve e with ⟨a, r', q, e'⟩ | q
    · cases q
      rw [refuseLoop_ref]
      exact refuse_refs self r e'
    · rw [q]
      exact F.store_ValueError.passes self
theorem refs_has : ∀ (l : List Value), refsThen l = true → l.contains (.type "object") = true ∧ l.contains (.type "BaseException") = true
  | [], e => by cases e
  | v :: r, e => by
    rcases refsThen_ve e with ⟨a, r', q, e'⟩ | q
    · cases q
      obtain ⟨h1, h2⟩ := refs_has r e'
      exact ⟨by rw [List.contains_cons, h1, Bool.or_true], by rw [List.contains_cons, h2, Bool.or_true]⟩
    · rw [q]
      decide
noncomputable def xcIn (K : PySem.W.Frag) (C : Addr) : Bool := xIn K C && (PySem.W.clsIn K C).any (fun cd => refsThen cd.mro && cd.hasDict) && PySem.W.findIn K (.ref C) "__setattr__" == some (some (.builtin "object.__setattr__")) &&
  PySem.W.findIn K (.ref C) "__getattribute__" == some (some (.builtin "BaseException.__getattribute__")) && PySem.W.findIn K (.ref C) "__getattr__" == some none
structure XCls (K : PySem.W.Frag) (C : Addr) : Prop where
  xi : xIn K C = true
  ov : ∃ cd, PySem.W.clsIn K C = some cd ∧ refsThen cd.mro = true ∧ cd.hasDict = true
  sa : PySem.W.findIn K (.ref C) "__setattr__" = some (some (.builtin "object.__setattr__"))
  ga : PySem.W.findIn K (.ref C) "__getattribute__" = some (some (.builtin "BaseException.__getattribute__"))
  gh : PySem.W.findIn K (.ref C) "__getattr__" = some none
theorem xcIn_of {K : PySem.W.Frag} {C : Addr} (h : xcIn K C = true) : XCls K C := by
  unfold xcIn at h
  simp only [Bool.and_eq_true, beq_iff_eq] at h
  obtain ⟨⟨⟨⟨h1, h2⟩, h3⟩, h4⟩, h5⟩ := h
  obtain ⟨cd, a, b⟩ := PySem.W.any_some h2
  simp only [Bool.and_eq_true] at b
  exact ⟨h1, ⟨cd, a, b.1, b.2⟩, h3, h4, h5⟩
theorem refs_ne {l : List Value} (e : refsThen l = true) : l.isEmpty = false := by
  cases l with
  | nil => cases e
  | cons _ _ => rfl
section
variable {prog : Program} {w : World} {A : Around} {s : Shared} {K : PySem.W.Frag} {x C : Addr} {R : Result → Shared → Prop}
theorem XCls.mro {c : Value} {b : Bool} (k : XCls K C) (h : ∀ cd, PySem.W.clsIn K C = some cd → refsThen cd.mro = true → cd.mro.contains c = b) : PySem.W.mroIn K C c = some b := by
  obtain ⟨cd, a, o, _⟩ := k.ov
  unfold PySem.W.mroIn
  rw [a, Option.bind_some, if_neg (by rw [refs_ne o]; decide), h cd a o]
theorem XCls.isObj (k : XCls K C) : PySem.W.mroIn K C (.type "object") = some true := k.mro fun cd _ o => (refs_has _ o).1
theorem osa_x {ox : Obj} {od : Option Obj} {name : Str} {tk : Tok} {v : Value} (X : K.In s.heap) (I : PySem.W.InstAt s.heap x ox C od) (c : XCls K C) (ht : NoAttr K C name)
    (h : wpAny (model prog w) A.in1 (Builtin.ObjectAttr.storeInOwnDict (.ref x) (.ref C) (.str name tk) name v false)
      (fun fin s' => match fin with | .done f => R (.ok f) s' | .again c' => c'.quiet = true ∧ codeAny (model prog w) A c' R s') (fun e s' => R (.error e) s') s) :
    codeAny (model prog w) A (.call (.builtin "object.__setattr__") ⟨[.ref x, .str name tk, v], []⟩) R s := by
  obtain ⟨cd, hc, ho, _⟩ := c.ov
  have sub : PySem.W.Looks (model prog w) s.heap (isInstance (.ref x) (.type "object")) true := I.type.andThen (PySem.W.looks_mroIn X c.isObj)
  refine codeAny_call_builtin F.store_object.slot.plain F.store_object.entry (@PySem.W.check_slot (model prog w) _ _ s "object.__setattr__" "object" "__setattr__" (.ref x) [.str name tk, v] [] _ F.store_object.kind F.store_object.split sub (F.store_object.args (.ref x) (.str name tk) v) ?_)
  have hm : PySem.W.Looks (model prog w) s.heap (mroOf (.ref C)) cd.mro := (PySem.W.looks_clsIn X hc).andThen .now
  have L3 : PySem.W.Looks (model prog w) s.heap (Builtin.ObjectAttr.storeTaker? none) none := .now
  rw [PySem.W.osa_eq, refuse_eq]
  refine wpAny_bind (wpAny_bind (I.type.here (wpAny_bind (hm.here ?_))))
  rw [refuse_refs _ _ ho]
  refine wpAny_pure (wpAny_bind (I.type.here (wpAny_bind ((PySem.W.looks_findIn X ht).here (wpAny_bind (L3.here ?_))))))
  exact h
end
theorem upd_swap {H : Hp} {d x : Addr} {a b c : HO} (n : d ≠ x) : upd (upd (upd H d a) x b) d c = upd (upd H x b) d c := by
  funext y
  unfold upd
  by_cases h : y = d
  · simp [h]
  · simp [h]
section
variable {X : Cx} {pins : List (Addr × Obj)} {σ : St} {H : Hp} {s : Shared} {x C d : Addr} {fs : List (Str × V)} {f : Str} {v y : V} {u : Value} {A : Around} {E : Value → Shared → Prop}
theorem setx0 {Q : Unit → Shared → Prop} (I : Inv X pins σ H s) (e : H x = some (excRaw x C)) (c : XCls X.K C) (n : NoAttr X.K C f) (ry : RelV y u)
    (h : ∀ s' d, H d = none → d ≠ x → Inv X pins σ (upd (upd H x (excNew x C d)) d (excD d [(f, y)])) s' → Q () s') : wpAny (model X.prog X.w) A (setAttr (.ref x) f u) Q E s := by
  obtain ⟨⟨t, hx⟩, -, -⟩ : ObjOk X.prog X.w H s.heap x (excRaw x C) := I.hok x _ e
  obtain ⟨cd, hc, ho, hd⟩ := c.ov
  have J : PySem.W.InstAt s.heap x (XObj C none #[.ref t, .none, .none, .none, .bool false, .none]) C none := ⟨hx, rfl, rfl, True.intro⟩
  refine PySem.W.set_plain I.kIn J c.sa (osa_x (s := { s with toks := s.toks + 1 }) I.kIn J c n ?_)
  refine wpAny_bind (wpAny_pure (wpAny_bind (wpAny_bind (wpAny_loadPart hx (wpAny_bind ((PySem.W.looks_clsIn (M := model X.prog X.w) I.kIn hc).here (s := { s with toks := s.toks + 1 }) ?_))))))
  rw [hd]
  have hp : s.heap.objs.size ≠ x := Nat.ne_of_gt (Heap.lt_size hx)
  have hx1 : (s.heap.push { cls := .type "dict", data := .dict #[] }).get? x = some (XObj C none #[.ref t, .none, .none, .none, .bool false, .none]) := Heap.get?_push_of_some _ hx
  have d1 : (s.heap.push { cls := .type "dict", data := .dict #[] }).get? s.heap.objs.size = some { cls := .type "dict", data := .dict #[] } := Heap.get?_push_size _ rfl
  have n1 : ∀ {hh : Heap}, hh.get? s.heap.objs.size = some { cls := .type "dict", data := .dict #[] } → hh.Ns1 s.heap.objs.size (fun _ => none) := fun q => Heap.Ns1.of_empty ⟨_, #[], _, q, rfl, fun e he => absurd he (by simp), fun _ => rfl⟩
  have I1 : Inv X pins σ (upd H s.heap.objs.size (excD s.heap.objs.size [])) { s with heap := s.heap.push { cls := .type "dict", data := .dict #[] }, toks := s.toks + 1 } :=
    I.laid (t' := s.toks + 1) (fun b o q => Heap.get?_push_of_some _ q) (Nat.le_refl _) (excD_ok (n1 d1) fun g => True.intro)
  refine wpAny_bind (wpAny_alloc' ?_)
  refine wpAny_bind (wpAny_update' hx1 ?_)
  have hx2 := Heap.get?_update_self (fun o : Obj => ({ o with dict := some s.heap.objs.size } : Obj)) hx1 rfl
  have ot : ∀ b, b ≠ x → ((s.heap.push { cls := .type "dict", data := .dict #[] }).update x fun o => { o with dict := some s.heap.objs.size }).get? b = (s.heap.push { cls := .type "dict", data := .dict #[] }).get? b := fun b hb => Heap.get?_update_other _ _ (Ne.symm hb)
  have e1 : upd H s.heap.objs.size (excD s.heap.objs.size []) x = some (excRaw x C) := (upd_ne (Ne.symm hp)).trans e
  have I2 : Inv X pins σ (upd (upd H s.heap.objs.size (excD s.heap.objs.size [])) x (excNew x C s.heap.objs.size)) { s with heap := (s.heap.push { cls := .type "dict", data := .dict #[] }).update x fun o => { o with dict := some s.heap.objs.size }, toks := s.toks + 1 } :=
    I1.write (t' := s.toks + 1) (x := x) (e := x) (by rw [e1]; exact True.intro) (.inl rfl) (fun b o hb q => (ot b hb).trans q) ⟨_, hx2⟩ (excNew_ok hx2)
  refine wpAny_pure (wpAny_bind (wpAny_pure (wpAny_bind ?_)))
  refine wpAny_nsSet1 (n1 ((ot _ hp).trans d1)) fun h' hn' hs => ?_
  obtain ⟨oD, esD, epD, hoD, hdD, hcD⟩ := hn'.count (PySem.Within.cons f u PySem.Within.nil)
  refine wpAny_bind (wpAny_lookBehind hoD (by rw [hdD]; exact pastItsLine_dict (Nat.le_trans hcD (by rw [List.length_cons, List.length_nil, sizeLine_eq]; omega))) ?_)
  refine wpAny_pure (h _ s.heap.objs.size (I.hok.fresh (Nat.le_refl _)) hp ?_)
  rw [← upd_swap (a := excD s.heap.objs.size []) hp]
  refine I2.write (x := s.heap.objs.size) (e := s.heap.objs.size) (by rw [upd_ne hp, upd_same]; exact True.intro) (.inl rfl) (fun b o hb q => (hs.2 b hb).trans q) ⟨_, hoD⟩ (excD_ok hn' fun g => ?_)
  by_cases q : g = f
  · have qb : (g == f) = true := beq_iff_eq.mpr q
    simp only [List.lookup, qb, if_pos q]
    exact ry
  · have qb : (g == f) = false := beq_eq_false_iff_ne.mpr q
    simp only [List.lookup, qb, if_neg q]
    exact True.intro
end
end L2

namespace L2
open PySem PySem.Spec PyProof.Rows
section
variable {X : Cx} {pins : List (Addr × Obj)} {σ : St} {H : Hp} {s : Shared} {x C d : Addr} {fs : List (Str × V)} {f : Str} {v y : V} {u : Value} {A : Around} {E : Value → Shared → Prop}
theorem excN_ne {h : Heap} {P : Program} {w : World} (ok : HOk P w H h) (e : H x = some (excNew x C d)) (e2 : H d = some (excD d fs)) : d ≠ x := fun z => by
  subst z
  obtain ⟨t, a⟩ := excNew_of ok e
  obtain ⟨mA, ⟨o, es, ep, b, q, _⟩, _⟩ := excD_of ok e2
  rw [a] at b; cases b; cases q
theorem setx1 {Q : Unit → Shared → Prop} (I : Inv X pins σ H s) (e : H x = some (excNew x C d)) (e2 : H d = some (excD d fs)) (hl : fs.length < 1000) (c : XCls X.K C) (n : NoAttr X.K C f) (ry : RelV y u)
    (h : ∀ s', Inv X pins σ (upd H d (excD d (putF f y fs))) s' → Q () s') : wpAny (model X.prog X.w) A (setAttr (.ref x) f u) Q E s := by
  have ne := excN_ne I.hok e e2
  obtain ⟨vs, hx⟩ := excNew_of I.hok e
  obtain ⟨mA, nA, rA⟩ := excD_of I.hok e2
  obtain ⟨cd, hc, ho, hd⟩ := c.ov
  have J : PySem.W.InstAt s.heap x (XObj C (some d) #[.ref vs, .none, .none, .none, .bool false, .none]) C (some (Classical.choose nA)) := ⟨hx, rfl, rfl, let ⟨_, _, q, _⟩ := Classical.choose_spec nA; q⟩
  refine PySem.W.set_plain I.kIn J c.sa (osa_x (s := { s with toks := s.toks + 1 }) I.kIn J c n ?_)
  refine wpAny_bind (wpAny_pure (wpAny_bind (wpAny_bind (wpAny_loadPart hx (wpAny_bind ((PySem.W.looks_clsIn (M := model X.prog X.w) I.kIn hc).here (s := { s with toks := s.toks + 1 }) ?_))))))
  rw [hd]
  refine wpAny_pure (a := some d) (wpAny_bind (wpAny_pure (wpAny_bind ?_)))
  refine wpAny_nsSet1 (s := { s with toks := s.toks + 1 }) nA fun h' hn' hs => ?_
  have wi : PySem.Within mA (fs.map (·.1)) := fun z hz => by
    have r := rA z
    cases q : fs.lookup z with
    | none => rw [q] at r; exact absurd (RelO.none_of r) hz
    | some a => exact List.mem_map.mpr ⟨(z, a), PySem.mem_of_lookup q, rfl⟩
  obtain ⟨oD, esD, epD, hoD, hdD, hcD⟩ := hn'.count (PySem.Within.cons f u wi)
  refine wpAny_bind (wpAny_lookBehind hoD (by rw [hdD]; exact pastItsLine_dict (Nat.le_trans hcD (by rw [List.length_cons, List.length_map, sizeLine_eq]; omega))) ?_)
  refine wpAny_pure (h _ ?_)
  refine I.write (x := d) (e := d) (by rw [e2]; exact True.intro) (.inl rfl) (fun b o hb q => (hs.2 b hb).trans q) ⟨_, hoD⟩ (excD_ok hn' fun g => ?_)
  rw [lookup_putF]
  by_cases q : g = f
  · rw [if_pos q, if_pos q]; exact ry
  · rw [if_neg q, if_neg q]; exact rA g
end
end L2

namespace L2
open PySem PySem.Spec PyProof.Rows
noncomputable def xclIn (K : PySem.W.Frag) (C : Addr) : Bool := xcIn K C && PySem.W.findIn K (.ref C) "__class__" == some (some (.builtin "object.__class__")) && PySem.W.specialIn K (.builtin "object.__class__") "__get__" == some (some (.builtin "getset_descriptor.__get__")) && PySem.W.takesIn K (.builtin "object.__class__") == some true
structure XCl (K : PySem.W.Frag) (C : Addr) : Prop where
  cls : XCls K C
  ca : PySem.W.findIn K (.ref C) "__class__" = some (some (.builtin "object.__class__"))
  cg : PySem.W.specialIn K (.builtin "object.__class__") "__get__" = some (some (.builtin "getset_descriptor.__get__"))
  ct : PySem.W.takesIn K (.builtin "object.__class__") = some true
theorem xclIn_of {K : PySem.W.Frag} {C : Addr} (h : xclIn K C = true) : XCl K C := by
  unfold xclIn at h
  simp only [Bool.and_eq_true, beq_iff_eq] at h
  exact ⟨xcIn_of h.1.1.1, h.1.1.2, h.1.2, h.2⟩
section
variable {prog : Program} {w : World} {A : Around} {E : Value → Shared → Prop} {s : Shared} {K : PySem.W.Frag} {x C : Addr} {ox od : Obj}
end
noncomputable def IsX (H : Hp) (x C : Addr) (fs : List (Str × V)) : Prop := ∃ d, H x = some (excO x C d) ∧ H d = some (excD d fs)
section
variable {X : Cx} {pins : List (Addr × Obj)} {σ : St} {H : Hp} {s : Shared} {A : Around} {E : Value → Shared → Prop} {Q : Value → Shared → Prop} {c : Value} {b : Bool}
end
end L2

namespace L2
open PySem PySem.Spec PyProof.Rows
noncomputable def HasX (P : Program) (w : World) (K : PySem.W.Frag) (mg : Str → Option Value) (base : Heap) (k : Nat) (x : Str) (ps : List Str) (sp : Sp) : Prop :=
  ∃ f fd, mg x = some (.ref f) ∧ PySem.W.keepIn K (.ref f) = true ∧ Binds K fd ps [] ∧ FnOk P w K mg base (CX1 P w) k f fd ps sp
noncomputable def tCallX (sp : Sp) (R : St → XK) (t : TA) : TE := fun σ H Q => t σ H fun vs H1 => sp vs H1 Q (R σ)
theorem passN {X : Cx} (h : ∀ (e : Value) (s : Shared), X.xe e s = False) : PassX X (fun _ _ _ _ => False) := fun _ _ _ ⟨_, _, _, _, _, _, _, _, z⟩ => z.elim
section
variable {X : Cx} {k : Nat} {f C : Addr} {fd : FuncData} {ps : List Str} {sp : Sp} {R : St → XK} {x : Str} {p pos : Pos} {e : Expr} {es : List Expr} {t : TA} {pins : List (Addr × Obj)} {σ : St} {H : Hp} {s : Shared} {Q : VK} {us : List Value} {vs : List V}
theorem run_fnX (F : FnOk X.prog X.w X.K X.mg X.base (CX1 X.prog X.w) k f fd ps sp) (hr : Room k X.A) (hb : Binds X.K fd ps []) (hx : PassX X R) (I : Inv X pins σ H s) (r : Vals vs us) (h : sp vs H Q (R σ)) :
    wpAny (model X.prog X.w) X.A (call (.ref f) us) (EP X pins σ Q) X.xe s := by
  have hl : (us ++ []).length = ps.length := by rw [List.append_nil, ← r.length]; exact F.len _ _ _ _ h
  have bd := hb s us I.kIn hl
  rw [List.append_nil] at bd
  refine wpAny_call (codeAny_mono (F.run X.A X.stack s H ⟨us, []⟩ us vs Q (R σ) hr I.env0 bd r h) fun rr s' hq => ?_)
  cases rr with
  | error e => exact hx pins e s' (xe_call I hq)
  | ok fl =>
    cases fl with
    | ret u => exact I.after hq
    | next => exact False.elim hq
    | brk => exact False.elim hq
    | cont => exact False.elim hq
theorem pe_callX (F : HasX X.prog X.w X.K X.mg X.base k x ps sp) (hr : Room k X.A) (hg : Gl X x) (hx : PassX X R) (ha : PA X (e :: es) t) (hdb : (x == ("__debug__" : Str)) = false)
    (he : starEach (e :: es) X.env = (false, eval e X.env) :: starEach es X.env) (hpl : (backTo pos (starEach es X.env)).any (·.1) = false) : PE X (.Call (.Name x p) (e :: es) [] pos) (tCallX sp R t) := by
  obtain ⟨f, fd, a, b, c, d⟩ := F
  intro pins s σ H Q I h
  refine wpAny_Call_Name_kw (ld_glob I hg a ?_ hdb)
  refine PySem.W.callWith_K (h₀ := X.base) I.ok.mod.kin b (thn (ha pos pins s σ H _ I h) fun us s1 ⟨vs, H1, I1, r, q⟩ => ⟨I1.kIn, ?_⟩) he hpl
  exact run_fnX d hr c hx I1 r q
noncomputable def sFldX (K : PySem.W.Frag) (ta tv : TE) (f : Str) : TS := fun D σ H => tv σ H fun y H1 => ta σ H1 fun x H2 => ∃ a C, x = .ref a ∧ XCls K C ∧ NoAttr K C f ∧
  ((H2 a = some (excRaw a C) ∧ ∀ d, H2 d = none → d ≠ a → D.nx σ (upd (upd H2 a (excNew a C d)) d (excD d [(f, y)]))) ∨
   (∃ d fs, H2 a = some (excNew a C d) ∧ H2 d = some (excD d fs) ∧ fs.length < 1000 ∧ D.nx σ (upd H2 d (excD d (putF f y fs)))))
theorem ps_fldX {o value : Expr} {ta tv : TE} {fn : Str} {pos' : Pos} (ha : PE X o ta) (hv : PE X value tv) (hs : swapsWith value (some (.Attribute o fn pos')) pos.line X.env = pure false) : PS X (.Assign [.Attribute o fn pos'] value pos) (sFldX X.K ta tv fn) := by
  intro pins s σ H D I h
  refine plainObj_wpAny_Assign_Attribute (thn (hv pins s σ H _ I h) fun u s1 ⟨y, H1, I1, ry, q⟩ => thn (ha pins s1 σ H1 _ I1 q) fun ov s2 qq0 => ?_) hs
  obtain ⟨x, H2, I2, rx, a, C, ex, c, n, q2⟩ := qq0
  subst ex
  obtain rfl : ov = Value.ref a := rx
  rcases q2 with ⟨e, q2⟩ | ⟨d, fs, e, e2, hl, q2⟩
  · exact setx0 I2 e c n ry fun s3 d z1 z2 I3 => ⟨σ, _, I3, q2 d z1 z2⟩
  · exact setx1 I2 e e2 hl c n ry fun s3 I3 => ⟨σ, _, I3, q2⟩
noncomputable def spInit (C : Addr) (fl : List Str) : Sp := fun vs H Q E => ∃ x ws, vs = .ref x :: ws ∧ ws.length = fl.length ∧ H x = some (excRaw x C) ∧ ∀ d, H d = none → d ≠ x → Q .non (upd (upd H x (excNew x C d)) d (excD d (fl.zip ws)))
structure XMk (P : Program) (w : World) (K : PySem.W.Frag) (mg : Str → Option Value) (base : Heap) (k : Nat) (x : Str) (C : Addr) (fl : List Str) : Prop where
  at_ : mg x = some (.ref C)
  cl : XCl K C
  kp : PySem.W.keepIn K (.ref C) = true
  na : ∀ f ∈ fl, NoAttr K C f
  run : ∃ f fd ps, PySem.W.findIn K (.ref C) "__init__" = some (some (.ref f)) ∧ PySem.W.typeIn K (.ref f) = some (.type "function") ∧ Binds K fd ps [] ∧ FnOk P w K mg base CX0 k f fd ps (spInit C fl)
noncomputable def tRaise (C : Addr) (fl : List Str) (R : St → XK) (t : TA) : TS := fun _ σ H => t σ H fun vs H1 => vs.length = fl.length ∧ vs.length ≤ sizeLine ∧ ∀ x H2, Same H1 H2 → IsX H2 x C (fl.zip vs) → R σ (.ref C) (some x) H2
theorem made_x {Q : Value → Shared → Prop} {E : Value → Shared → Prop} {fl : List Str} (M : XMk X.prog X.w X.K X.mg X.base k x C fl) (hr : Room (k + 1) X.A) (I : Inv X pins σ H s) (r : Vals vs us) (hl : vs.length = fl.length) (hz : vs.length ≤ sizeLine)
    (q : ∀ a d s', H a = none → H d = none → d ≠ a → Inv X pins σ (upd (upd (upd H a (excRaw a C)) a (excNew a C d)) d (excD d (fl.zip vs))) s' → Q (.ref a) s') : wpAny (model X.prog X.w) X.A (call (.ref C) us) Q E s := by
  obtain ⟨f, fd, ps, hi, hf, hb, F⟩ := M.run
  refine call_x I.kIn M.cl.cls.xi hi hf (by rw [← r.length]; exact hz) ?_
  have I1 : Inv X pins σ H { s with heap := s.heap.push { cls := .type "tuple", data := .seq us.toArray } } := I.kept (t' := s.toks) fun b o e => Heap.get?_push_of_some _ e
  have sz1 : (s.heap.push { cls := .type "tuple", data := .seq us.toArray }).objs.size = s.heap.objs.size + 1 := Heap.size_push _ _
  have hfr : H (s.heap.objs.size + 1) = none := I.hok.fresh (Nat.le_succ _)
  have gx : ((s.heap.push { cls := .type "tuple", data := .seq us.toArray }).push (XObj C none #[.ref s.heap.objs.size, .none, .none, .none, .bool false, .none])).get? (s.heap.objs.size + 1) = some (XObj C none #[.ref s.heap.objs.size, .none, .none, .none, .bool false, .none]) := by
    rw [← sz1]; exact Heap.get?_push_size _ rfl
  have I2 : Inv X pins σ (upd H (s.heap.objs.size + 1) (excRaw (s.heap.objs.size + 1) C)) { s with heap := (s.heap.push { cls := .type "tuple", data := .seq us.toArray }).push (XObj C none #[.ref s.heap.objs.size, .none, .none, .none, .bool false, .none]) } :=
    I1.laid (t' := s.toks) (fun b o e => Heap.get?_push_of_some _ e) (by show (s.heap.push _).objs.size ≤ _; rw [sz1]; exact Nat.le_refl _) ⟨⟨_, gx⟩, ⟨_, gx⟩, fun h1 h2 ⟨t, z⟩ kk => ⟨t, kk _ z⟩⟩
  have r2 : Vals (V.ref (s.heap.objs.size + 1) :: vs) (Value.ref (s.heap.objs.size + 1) :: us) := .cons rfl r
  have sp0 : spInit C fl (V.ref (s.heap.objs.size + 1) :: vs) (upd H (s.heap.objs.size + 1) (excRaw (s.heap.objs.size + 1) C)) (fun v H2 => v = .non ∧ ∃ d, H d = none ∧ d ≠ s.heap.objs.size + 1 ∧ H2 = upd (upd (upd H (s.heap.objs.size + 1) (excRaw (s.heap.objs.size + 1) C)) (s.heap.objs.size + 1) (excNew (s.heap.objs.size + 1) C d)) d (excD d (fl.zip vs))) E0 :=
    ⟨_, _, rfl, hl, upd_same, fun d hd ne => ⟨rfl, d, by rw [upd_ne ne] at hd; exact hd, ne, rfl⟩⟩
  have hl2 : ((Value.ref (s.heap.objs.size + 1) :: us) ++ []).length = ps.length := by rw [List.append_nil, ← r2.length]; exact F.len _ _ _ _ sp0
  have bd := hb _ (Value.ref (s.heap.objs.size + 1) :: us) I2.kIn hl2
  rw [List.append_nil] at bd
  refine wpAny_call (codeAny_mono (F.run _ X.stack _ _ ⟨Value.ref (s.heap.objs.size + 1) :: us, []⟩ (Value.ref (s.heap.objs.size + 1) :: us) _ _ E0 (hr.make C us []) (I2.env0.make C us []) bd r2 sp0) fun rr s' hq => ?_)
  cases rr with
  | error e => exact False.elim hq
  | ok fl =>
    cases fl with
    | ret u =>
      obtain ⟨v, H', I3, rv, ev, d, hd, ne, eH⟩ := I2.after hq
      subst ev
      rw [eH] at I3
      exact ⟨rv, q _ d s' hfr hd ne I3⟩
    | next => exact False.elim hq
    | brk => exact False.elim hq
    | cont => exact False.elim hq
theorem thrown {env : Env} {C : Addr} {Q : Flow → Shared → Prop} {m : Sem Value} (hc : X.calm = true) (c : XCl X.K C) (hx : PassX X R)
    (h : wpAny (model X.prog X.w) X.A m (fun v s1 => ∃ x d H1, v = .ref x ∧ Inv X pins σ H1 s1 ∧ H1 x = some (excNew x C d) ∧ R σ (.ref C) (some x) (upd H1 x (excO x C d))) X.xe s) :
    wpAny (model X.prog X.w) X.A (raiseStmt env (some m) none) Q X.xe s := by
  obtain ⟨nm, qn, N, bs, bm, sn, sub, ab, col, dd, k0, k1, k2, k3, k5, lk0, tl⟩ := xIn_of c.cls.xi
  unfold raiseStmt
  refine wpAny_bind (thn h fun v s1 qq0 => ?_)
  obtain ⟨x, d, H1, ev, I1, e1, r1⟩ := qq0
  subst ev
  have KI := I1.kIn
  obtain ⟨t, he⟩ := excNew_of I1.hok e1
  have hh : X.A.handled = none := I1.ok.hd hc
  have hcB : (Value.ref C :: bm).contains (.type "BaseException") = true := by
    rw [List.contains_cons, (tl _ KI).hasType (show VEm.contains (.type "BaseException") = true from by decide)]; rfl
  have fin : X.xe (.ref x) s1 := by
    have I2 : Inv X pins σ (upd H1 x (excO x C d)) s1 := I1.write (t' := s1.toks) (x := x) (e := x) (h' := s1.heap) (by rw [e1]; exact True.intro) (.inl rfl) (fun b o _ z => z) ⟨_, he⟩ (excO_ok he rfl)
    exact hx pins _ s1 ⟨x, C, d, σ, _, rfl, I2, ⟨upd_same, .inl ⟨_, he, rfl, rfl⟩⟩, r1⟩
  have hD := KI _ _ lk0
  obtain ⟨hp, g, dr, tk, os⟩ := s1
  unfold XObj at he
  repeat (first | with_reducible refine wpAny_loadPart_at he ?_ | with_reducible refine wpAny_loadPart_at hD ?_ | (with_reducible refine wpAny_isSubtype_exc hD ?_; rw [hcB]) | wp_step)
  exact wpAny_raiseNew_none hh fin
end
end L2

namespace L2
open PySem PySem.Spec PyProof.Rows
section
variable {X : Cx} {k : Nat} {C : Addr} {R : St → XK} {x : Str} {p cpos pos : Pos} {e : Expr} {es : List Expr} {t : TA} {fl : List Str}
theorem raised_heap {H : Hp} {a d : Addr} {vs : List V} (ha : H a = none) (hd : H d = none) (ne : d ≠ a) : Same H (upd (upd (upd (upd H a (excRaw a C)) a (excNew a C d)) d (excD d (fl.zip vs))) a (excO a C d)) ∧
    IsX (upd (upd (upd (upd H a (excRaw a C)) a (excNew a C d)) d (excD d (fl.zip vs))) a (excO a C d)) a C (fl.zip vs) := by
  refine ⟨fun b o h => ?_, d, upd_same, by rw [upd_ne ne, upd_same]⟩
  have na : b ≠ a := fun z => by rw [z, ha] at h; cases h
  have nd : b ≠ d := fun z => by rw [z, hd] at h; cases h
  rw [upd_ne na, upd_ne nd, upd_ne na, upd_ne na]
  exact h
theorem ps_raise (M : XMk X.prog X.w X.K X.mg X.base k x C fl) (hr : Room (k + 1) X.A) (hc : X.calm = true) (hg : Gl X x) (hx : PassX X R) (ha : PA X (e :: es) t) (hdb : (x == ("__debug__" : Str)) = false)
    (he : starEach (e :: es) X.env = (false, eval e X.env) :: starEach es X.env) (hpl : (backTo cpos (starEach es X.env)).any (·.1) = false) : PS X (.Raise (some (.Call (.Name x p) (e :: es) [] cpos)) none pos) (tRaise C fl R t) := by
  intro pins s σ H D I h
  rw [arm_exec_Raise]
  refine wpAny_bind (wpAny_standAt (thrown (pins := pins) (σ := σ) (C := C) hc M.cl hx (wpAny_bind (thn (Q := fun v s1 => ∃ x d H1, v = .ref x ∧ Inv X pins σ H1 s1 ∧ H1 x = some (excNew x C d) ∧ R σ (.ref C) (some x) (upd H1 x (excO x C d))) ?_ fun v s3 h3 => wpAny_bind (wpAny_standAt (wpAny_pure h3))))))
  refine wpAny_Call_Name_kw (ld_glob I hg M.at_ ?_ hdb)
  refine PySem.W.callWith_K (h₀ := X.base) I.ok.mod.kin M.kp (thn (ha cpos pins s σ H _ I h) fun us s1 ⟨vs, H1, I1, r, hl, hz, q⟩ => ⟨I1.kIn, ?_⟩) he hpl
  refine made_x M hr I1 r hl hz fun a d s2 z1 z2 ne I2 => ⟨a, d, _, rfl, I2, ?_, ?_⟩
  · rw [upd_ne (Ne.symm ne), upd_same]
  · obtain ⟨w1, w2⟩ := raised_heap (C := C) (fl := fl) (vs := vs) z1 z2 ne
    exact q a _ w1 w2
end
section
variable {X : Cx} {pins : List (Addr × Obj)} {σ σ' : St} {H : Hp} {s : Shared} {h' : Heap}
end
end L2

namespace L2
open PySem PySem.Spec PyProof.Rows
section
variable {X : Cx} {pins pins' : List (Addr × Obj)} {σ : St} {H : Hp} {s : Shared} {x C d T : Addr} {R : St → XK} {D : Ends}
noncomputable abbrev TH := Ends → St → Addr → Addr → Hp → Prop
noncomputable def PH (X : Cx) (hs : List ExceptHandler) (th : TH) : Prop := ∀ (pins : List (Addr × Obj)) (s : Shared) (σ : St) (H : Hp) (D : Ends) (x C d T : Addr), Inv X pins σ H s → Head X pins H x C d T s.heap → th D σ x C H →
  wpAny (model X.prog X.w) X.A (handleBy (.ref x) X.env hs) (SP X pins D) X.xe s
variable {nm n : Str} {P : Addr} {i : Nat} {p pos : Pos} {b0 : Stmt} {suite : List Stmt} {ts : TS} {th : TH} {hs : List ExceptHandler}
end
end L2

namespace L2
open PySem PySem.Spec PyProof.Rows
noncomputable def clsA (mg : Str → Option Value) (x : Str) : Addr := match mg x with
  | some (.ref a) => a
  | _ => 0
theorem clsA_of {mg : Str → Option Value} {x : Str} {C : Addr} (h : mg x = some (.ref C)) : clsA mg x = C := by unfold clsA; rw [h]
structure CTxt (K : PySem.W.Frag) (mg : Str → Option Value) (x : Str) : Prop where
  at_ : mg x = some (.ref (clsA mg x))
  cl : XCl K (clsA mg x)
theorem ct_mk {K : PySem.W.Frag} {mg : Str → Option Value} {h : Heap} (X : K.In h) (G : h.Ns mainGlobals mg) {x : Str} {C : Addr} (a : PySem.W.nsIn K mainGlobals x = some (some (.ref C))) (b : xclIn K C = true) : CTxt K mg x := by
  have m := PySem.W.mg_of X G a
  have e := clsA_of m
  exact ⟨by rw [e]; exact m, by rw [e]; exact xclIn_of b⟩
structure XTxt (K : PySem.W.Frag) (mg : Str → Option Value) (x : Str) (fl : List Str) (qual : Str) (st : Stmt) : Prop where
  c : CTxt K mg x
  kp : PySem.W.keepIn K (.ref (clsA mg x)) = true
  na : ∀ f ∈ fl, NoAttr K (clsA mg x) f
  ini : ∃ f fd, PySem.W.findIn K (.ref (clsA mg x)) "__init__" = some (some (.ref f)) ∧ PySem.W.typeIn K (.ref f) = some (.type "function") ∧ Fun K "__init__" qual st f fd
noncomputable def noneOf (K : PySem.W.Frag) (C : Addr) (fl : List Str) : Bool := fl.all fun n => PySem.W.findIn K (.ref C) n == some none
theorem xt_mk {K : PySem.W.Frag} {mg : Str → Option Value} {h : Heap} (X : K.In h) (G : h.Ns mainGlobals mg) {x qual : Str} {C f : Addr} {fl : List Str} {st : Stmt} {oc : Value} {od an : Option Addr} {osl : Array (Option Value)} {kV doc pm cdv ct : Value}
    (a : PySem.W.nsIn K mainGlobals x = some (some (.ref C))) (b : xclIn K C = true) (kp : PySem.W.keepIn K (.ref C) = true) (na : noneOf K C fl = true)
    (i : PySem.W.findIn K (.ref C) "__init__" = some (some (.ref f))) (t : PySem.W.typeIn K (.ref f) = some (.type "function"))
    (l : K.lookup f = some ⟨oc, od, .func (PySem.W.fnOf "__init__" qual (defArgs st) (defBody st) (defScope st) .none kV doc pm an cdv ct), osl⟩) (c : PySem.W.codeIn K cdv qual = true) (k : PySem.W.keepIn K (.ref f) = true) : XTxt K mg x fl qual st := by
  have m := PySem.W.mg_of X G a
  have e := clsA_of m
  refine ⟨ct_mk X G a b, by rw [e]; exact kp, fun n hn => ?_, f, _, by rw [e]; exact i, t, fun_mk l c k⟩
  rw [e]
  have := List.all_eq_true.mp na n hn
  exact beq_iff_eq.mp this
structure Sub (K : PySem.W.Frag) (mg : Str → Option Value) (x y : Str) (b : Bool) : Prop where
  mro : PySem.W.mroIn K (clsA mg x) (.ref (clsA mg y)) = some b
  one : PySem.W.kitOne K (.ref (clsA mg x)) (.ref (clsA mg y)) = some b
structure JH (X : Cx) (hs : List ExceptHandler) (th : TH) : Prop where
  run : PH X hs th
section
variable {X : Cx} {K : PySem.W.Frag} {k : Nat} {x n fn : Str} {ps : List Str} {sp : Sp} {R : St → XK} {p pos cpos pos' : Pos} {e o value : Expr} {es : List Expr} {t : TA} {ta tv : TE} {st : Stmt} {u ts : TS} {th : TH} {hs : List ExceptHandler} {i : Nat}
theorem j_callX (F : HasX X.prog X.w X.K X.mg X.base k x ps sp) (hr : Room k X.A) (hg : Gl X x) (hx : PassX X R) (ha : JA X (e :: es) t) (hdb : (x == ("__debug__" : Str)) = false) (h : autoParam ((e :: es).all notStar = true) L2.auto4._auto_1) :
    JE X (.Call (.Name x p) (e :: es) [] pos) (tCallX sp R t) := by
  have h1 : notStar e = true := by simp only [List.all_cons, Bool.and_eq_true] at h; exact h.1
  have h2 : es.all notStar = true := by simp only [List.all_cons, Bool.and_eq_true] at h; exact h.2
  exact ⟨pe_callX F hr hg hx ha.run hdb (se_cons h1) (se_any h2)⟩
theorem js_fldX (hK : X.K = K) (ha : JE X o ta) (hv : JE X value tv) (h : autoParam (notComp value = true) L2.auto4._auto_1) : JS X (.Assign [.Attribute o fn pos'] value pos) (sFldX K ta tv fn) := by
  subst hK
  exact ⟨ps_fldX ha.run hv.run (sw_no h)⟩
theorem js_raise {fl : List Str} (M : XMk X.prog X.w X.K X.mg X.base k x (clsA X.mg x) fl) (hr : Room (k + 1) X.A) (hc : X.calm = true) (hg : Gl X x) (hx : PassX X R) (ha : JA X (e :: es) t) (hdb : (x == ("__debug__" : Str)) = false) (h : autoParam ((e :: es).all notStar = true) L2.auto4._auto_1) :
    JS X (.Raise (some (.Call (.Name x p) (e :: es) [] cpos)) none pos) (tRaise (clsA X.mg x) fl R t) := by
  have h1 : notStar e = true := by simp only [List.all_cons, Bool.and_eq_true] at h; exact h.1
  have h2 : es.all notStar = true := by simp only [List.all_cons, Bool.and_eq_true] at h; exact h.2
  exact ⟨ps_raise M hr hc hg hx ha.run hdb (se_cons h1) (se_any h2)⟩
end
section
variable {P : Program} {w : World} {K : PySem.W.Frag} {mg : Str → Option Value} {base : Heap}
theorem hasJX {x : Str} {st : Stmt} {N ps : List Str} {k : Nat} {sp : Sp} (D : Def K mg x st) (S : FnScope N ps (defScope st))
    (hb : ∀ (kV doc pm : Value) (an : Option Addr) (cdv ct : Value) (us : List Value), us.length = ps.length → bindArgs (PySem.W.fnOf x x (defArgs st) (defBody st) (defScope st) .none kV doc pm an cdv ct) ⟨us, []⟩ = pure (ps.zip us))
    (len : ∀ vs H Q E, sp vs H Q E → vs.length = ps.length)
    (hbody : ∀ (f : Addr) (cdv : Value) (A : Around) (outer : List Env) (s : Shared) (H : Hp) (vs : List V) (Q : VK) (E : XK), Room k (A.deeper (envOfC x (defScope st) s.heap.objs.size f cdv)) → sp vs H Q E →
      ∃ t, JB (cxOf (CX1 P w) P w K mg base N x (defScope st) f cdv A outer s H E) (defBody st) t ∧ t { nx := fun _ H' => Q .non H', rt := Q } (start N vs) H) : HasX P w K mg base (k + 1) x ps sp := by
  obtain ⟨f, fd, F, hm⟩ := D
  refine ⟨f, fd, hm, F.kp, F.binds hb, ?_⟩
  obtain ⟨oc, od, kV, doc, pm, an, cdv, ct, osl, rfl, lk, hcd⟩ := F.ex
  exact fn_of lk hcd S len fun A outer s H vs Q E hr h => let ⟨t, j, q⟩ := hbody f cdv A outer s H vs Q E hr h; ⟨t, j.run, q⟩
theorem mkX {x qual : Str} {st : Stmt} {N ps : List Str} {fl : List Str} {k : Nat} (D : XTxt K mg x fl qual st) (S : FnScope N ps (defScope st))
    (hb : ∀ (kV doc pm : Value) (an : Option Addr) (cdv ct : Value) (us : List Value), us.length = ps.length → bindArgs (PySem.W.fnOf "__init__" qual (defArgs st) (defBody st) (defScope st) .none kV doc pm an cdv ct) ⟨us, []⟩ = pure (ps.zip us))
    (hl : ps.length = fl.length + 1)
    (hbody : ∀ (f : Addr) (cdv : Value) (A : Around) (outer : List Env) (s : Shared) (H : Hp) (vs : List V) (Q : VK) (E : XK), Room k (A.deeper (envOfC qual (defScope st) s.heap.objs.size f cdv)) → spInit (clsA mg x) fl vs H Q E →
      ∃ t, JB (cxOf CX0 P w K mg base N qual (defScope st) f cdv A outer s H E).nox (defBody st) t ∧ t { nx := fun _ H' => Q .non H', rt := Q } (start N vs) H) : XMk P w K mg base (k + 1) x (clsA mg x) fl := by
  obtain ⟨f, fd, a, b, F⟩ := D.ini
  refine ⟨D.c.at_, D.c.cl, D.kp, D.na, f, fd, ps, a, b, F.binds hb, F.ok S (fun vs H Q E h => ?_) fun cdv A outer s H vs Q E hr h => let ⟨t, j, q⟩ := hbody f cdv A outer s H vs Q E hr h; ⟨t, j.run, q⟩⟩
  obtain ⟨y, ws, rfl, hw, _⟩ := h
  rw [List.length_cons, hw, hl]
end
end L2

namespace L2
open PySem PySem.Spec PyProof.Rows
noncomputable def initOf : Stmt → Stmt
  | .ClassDef _ _ _ (s :: _) _ _ _ _ _ _ _ => s
  | s => s
section
variable {σ : St} {H : Hp} {D : Ends} {Q : VK} {sp : Sp} {R : St → XK} {a : TA} {K : PySem.W.Frag} {C P : Addr} {fl : List Str} {th : TH} {ts : TS} {i : Nat} {ta : TE} {f : Str}
theorem r_callX (h : a σ H fun vs H1 => sp vs H1 Q (R σ)) : tCallX sp R a σ H Q := h
theorem r_raise (h : a σ H fun vs H1 => vs.length = fl.length ∧ vs.length ≤ sizeLine ∧ ∀ x H2, Same H1 H2 → IsX H2 x C (fl.zip vs) → R σ (.ref C) (some x) H2) : tRaise C fl R a D σ H := h
theorem rd1 {f1 p0 p1 : Str} {vs : List V} {E : XK} (c : XCls K C) (n : NoAttr K C f1) (h : spInit C [f1] vs H Q E) : sFldX K (tVar 0) (tVar 1) f1 { nx := fun _ H' => Q .non H', rt := Q } (start [p0, p1] vs) H := by
  obtain ⟨x, ws, rfl, hw, hx, q⟩ := h
  match ws, hw with
  | [v], _ => exact ⟨v, rfl, .ref x, rfl, x, C, rfl, c, n, .inl ⟨hx, fun d hd ne => q d hd ne⟩⟩
end
end L2

namespace L2
open PySem PySem.Spec PyProof.Rows
noncomputable def Itr3 (lo c : Int) (n : Nat) : It := ⟨fun i _ => i < n, fun i H x H' => H' = H ∧ x = .int (lo + i * c), fun i _ => n ≤ i⟩
theorem turn_rng3 {P : Program} {w : World} {K : PySem.W.Frag} {tg : Expr} (it : Addr) (lo c : Int) (n : Nat) : Turn P w K tg (Itr3 lo c n) [it] it (fun i h => IsRangeIter h it (lo + (i : Nat) * c) ((n : Int) - (i : Nat)) c) where
  mem := by simp
  obj := fun i h st b hb => by
    obtain rfl : b = it := by simpa using hb
    exact ⟨_, st, fun v z => by
      have z2 : Data.fields _ = Data.cell v := z
      cases z2⟩
  keep := fun i h h' st k => k it (by simp) _ st
  item := by
    intro X hP hw hK hc i pins s σ H E I hf st hg
    subst hP hw hK
    obtain ⟨f0, f1, f2, f3, f4, f5⟩ := hf it (by simp)
    have W := Walks.range (prog := X.prog) (w := X.w) (I.ok.hd hc) it lo c n
    refine W.item i s _ _ hg st fun v h' tk hv st' kk => ?_
    obtain ⟨t, rfl⟩ := hv
    have I1 : Inv X pins σ H { s with heap := h', toks := tk } := I.turned (fun b o hb e => kk b o (by simpa using hb) e) f0 f1 f3 f4 f5
    exact ⟨_, rfl, go_of (s := { s with heap := h', toks := tk }) (n := "range_iterator") st' rfl rfl (by decide) ⟨.int (lo + i * c), H, I1, ⟨t, rfl⟩, ⟨rfl, rfl⟩, st', fun b hb => (hf b hb).1⟩⟩
  done := by
    intro X hP hw hK hc i pins s σ H E I hf st hg
    subst hP hw hK
    obtain ⟨f0, f1, f2, f3, f4, f5⟩ := hf it (by simp)
    exact wpAny_pyNext_range_end (I.ok.hd hc) st (by have : n ≤ i := hg; omega) fun h' eb => ⟨rfl, I.turned (t' := s.toks) (fun b o hb e => eb b o hb e) f0 f1 f3 f4 f5⟩
  self := fun _ _ _ _ _ st h => wpAny_pyIter_rangeiter st h
noncomputable def iRng3 (ta : TA) : TI := fun σ H R => ta σ H fun vs H1 => ∃ (i j c : Int) (n : Nat), vs = [.int i, .int j, .int c] ∧ c ≠ 0 ∧ Builtin.divisionGoesByPylong (j - i) c = false ∧ Builtin.Range.small i j c = true ∧ Builtin.Range.rangeSize i j c = (n : Int) ∧ R (Itr3 i c n) H1
section
variable {X : Cx} {tg : Expr}
theorem pi_range3 {a b c : Expr} {ta : TA} {p pos : Pos} (hg : Gl X "range") (hm : X.mg "range" = none) (ha : PA X [a, b, c] ta) (hs : starEach [a, b, c] X.env = (false, eval a X.env) :: starEach [b, c] X.env) (hs2 : (backTo pos (starEach [b, c] X.env)).any (·.1) = false) :
    PI X tg (.Call (.Name "range" p) [a, b, c] [] pos) (iRng3 ta) := by
  intro pins s σ H R I h
  refine Call_ (ld_blt I hg hm boot_range (PyProof.Rows.callWith_type1 (thn (ha pos pins s σ H _ I h) fun us s1 ⟨vs, H1, I1, r1, q1⟩ => ?_) hs hs2))
  obtain ⟨i, j, c, n, rfl, hc, hd, hsm, hn, q⟩ := q1
  cases r1 with
  | cons r rr =>
    cases rr with
    | cons r' rr =>
      cases rr with
      | cons r'' rr =>
        cases rr
        obtain ⟨t, rfl⟩ := r
        obtain ⟨t', rfl⟩ := r'
        obtain ⟨t'', rfl⟩ := r''
        refine call_range_3 hc ?_ (.inl hd)
        refine wpAny_pyIter_range (IsRange.new ..) hsm ?_
        have I2 : Inv X pins σ H1 { s1 with heap := s1.heap.push { cls := .type "range", data := .fields #[.int i t, .int j t', .int c t''] } } := I1.kept (t' := s1.toks) fun b o e => Heap.get?_push_of_some _ e
        refine ⟨(s1.heap.push { cls := .type "range", data := .fields #[.int i t, .int j t', .int c t''] }).objs.size, [(s1.heap.push { cls := .type "range", data := .fields #[.int i t, .int j t', .int c t''] }).objs.size], _, _, H1, rfl,
          I2.kept (t' := s1.toks) fun b o e => Heap.get?_push_of_some _ e, turn_rng3 _ i c n, ?_, fun b hb => ?_, q⟩
        · have e1 : i + ((0 : Nat) : Int) * c = i := by simp
          have e2 : (n : Int) - ((0 : Nat) : Int) = Builtin.Range.rangeSize i j c := by rw [hn]; simp
          show IsRangeIter _ _ (i + ((0 : Nat) : Int) * c) ((n : Int) - ((0 : Nat) : Int)) c
          rw [e1, e2]
          exact Heap.get?_push_size _ rfl
        · obtain rfl : b = (s1.heap.push { cls := .type "range", data := .fields #[.int i t, .int j t', .int c t''] }).objs.size := by simpa using hb
          exact I2.fpOk (Nat.le_refl _) (I2.hok.fresh (Nat.le_refl _))
theorem ji_range3 {a b c : Expr} {ta : TA} {p pos : Pos} (hg : Gl X "range") (hm : X.mg "range" = none) (ha : JA X [a, b, c] ta) (h : autoParam (notStar a = true) L2.auto4._auto_1) (h2 : autoParam ([b, c].all notStar = true) L2.auto4._auto_1) : JI X tg (.Call (.Name "range" p) [a, b, c] [] pos) (iRng3 ta) :=
  ⟨pi_range3 hg hm ha.run (se_cons h) (se_any h2)⟩
end
section
variable {σ : St} {H : Hp} {Q : VK}
theorem r_rng3 {a : TA} {R : It → Hp → Prop} (h : a σ H fun vs H1 => ∃ (i j c : Int) (n : Nat), vs = [.int i, .int j, .int c] ∧ c ≠ 0 ∧ Builtin.divisionGoesByPylong (j - i) c = false ∧ Builtin.Range.small i j c = true ∧ Builtin.Range.rangeSize i j c = (n : Int) ∧ R (Itr3 i c n) H1) : iRng3 a σ H R := h
theorem for_rng3 {lo c : Int} {n : Nat} {g : TG} {tb : TS} {D : Ends} (Pv : Nat → St → Hp → Prop) (h0 : Pv 0 σ H)
    (hs : ∀ i σ H, i < n → Pv i σ H → g (.int (lo + i * c)) σ H fun σ2 H2 => tb { D with nx := Pv (i + 1), ct := Pv (i + 1), bk := D.nx } σ2 H2) (hd : ∀ σ H, Pv n σ H → D.nx σ H) :
    ∃ W : Nat → Nat → St → Hp → Prop, (∃ m, W 0 m σ H) ∧ ∀ i m σ H, W i m σ H →
      ((Itr3 lo c n).stop i H ∧ D.nx σ H) ∨ ((Itr3 lo c n).go i H ∧ ∃ N : St → Hp → Prop, (∀ σ' H', N σ' H' → ∃ m', m' < m ∧ W (i + 1) m' σ' H') ∧ ∀ x H', (Itr3 lo c n).yld i H x H' → g x σ H' fun σ2 H2 => tb { D with nx := N, ct := N, bk := D.nx } σ2 H2) := by
  refine ⟨fun i m σ H => m = n - i ∧ i ≤ n ∧ Pv i σ H, ⟨n, by simp, Nat.zero_le _, h0⟩, ?_⟩
  rintro i m σ H ⟨rfl, hi, p⟩
  by_cases hlt : i < n
  · refine .inr ⟨hlt, Pv (i + 1), fun σ' H' p' => ⟨n - (i + 1), by omega, rfl, hlt, p'⟩, fun x H' y => ?_⟩
    obtain ⟨rfl, rfl⟩ := y
    exact hs i σ _ hlt p
  · obtain rfl : i = n := by omega
    exact .inl ⟨Nat.le_refl _, hd σ H p⟩
end
section
variable {X : Cx} {e : Expr} {te : TE} {lo hi : Option Expr} {st : Expr} {tl th ts : TO} {pos p2 : Pos}
end
section
variable {σ : St} {H : Hp} {Q : VK} {te : TE}
end
section
variable {X : Cx}
end
section
variable {H : Hp} {Q : VK} {K : PySem.W.Frag}
end
end L2

namespace L2
open PySem PySem.Spec PyProof.Rows
open AutoSeq1 (wpAny_loadPart')
section
variable {X : Cx}
end
section
variable {H : Hp} {Q : VK} {K : PySem.W.Frag}
end
end L2

namespace L2
open PySem PySem.Spec PyProof.Rows PySem.SeqAt
theorem sliceIx (lo hi : Option Int) (n : Nat) : Builtin.Str.strSliceIndices lo hi 1 n = (List.range (HT.sIx n n hi - HT.sIx n 0 lo)).map fun k => HT.sIx n 0 lo + k := by
  have c : ∀ (i : Int) (d : Nat), max 0 (min (if i < 0 then i + (n : Int) else i) (n : Int)) = ((HT.sIx n d (some i) : Nat) : Int) := by
    intro i d
    rw [← HT.clip_eq]
    split <;> omega
  have key : ∀ a b : Nat, (List.range (if (a : Int) < (b : Int) then ((b : Int) - a + 1 - 1) / 1 else 0).toNat).map (fun k : Nat => ((a : Int) + 1 * (k : Int)).toNat) = (List.range (b - a)).map fun k => a + k := by
    intro a b
    have e3 : (if (a : Int) < (b : Int) then ((b : Int) - a + 1 - 1) / 1 else 0).toNat = b - a := by split <;> omega
    rw [e3]
    refine List.map_congr_left fun k _ => ?_
    omega
  unfold Builtin.Str.strSliceIndices sliceRange
  simp only [show (1 : Int) > 0 by decide, if_true]
  cases lo with
  | none =>
    cases hi with
    | none => exact key 0 n
    | some j => rw [← key, ← c j n]; rfl
  | some i =>
    cases hi with
    | none => rw [← key, ← c i 0]; rfl
    | some j => rw [← key, ← c i 0, ← c j n]
theorem fmMap {α β : Type} {f : α → Option β} {g : α → β} : ∀ (l : List α), (∀ k ∈ l, f k = some (g k)) → l.filterMap f = l.map g
  | [], _ => rfl
  | k :: l, h => by rw [List.filterMap_cons, h k (by simp), List.map_cons, fmMap l fun j hj => h j (List.mem_cons_of_mem _ hj)]
theorem pickRange (l : List Nat) (a m : Nat) (h : a + m ≤ l.length) : ((List.range m).map fun k => a + k).filterMap (fun i => l[i]?) = (l.drop a).take m := by
  rw [List.filterMap_map, fmMap (g := fun k => l.getD (a + k) 0)]
  · refine List.ext_getElem? fun i => ?_
    rw [List.getElem?_map, List.getElem?_take]
    by_cases hi : i < m
    · rw [if_pos hi, List.getElem?_range hi, List.getElem?_drop, List.getElem?_eq_getElem (by omega)]
      simp [List.getElem?_eq_getElem (show a + i < l.length by omega)]
    · rw [if_neg hi, List.getElem?_eq_none (by simp; omega)]; rfl
  · intro k hk
    have hk := List.mem_range.mp hk
    show l[a + k]? = _
    rw [List.getD_eq_getElem?_getD, List.getElem?_eq_getElem (by omega)]; rfl
theorem slice_cps (z : Str) (lo hi : Option Int) : (Txt.slice z lo hi).cps.toList = (z.cps.toList.drop (HT.sIx z.length 0 lo)).take (HT.sIx z.length z.length hi - HT.sIx z.length 0 lo) := by
  have hn : z.cps.toList.length = z.length := by simp [Str.length]
  have la := HT.sIx_le z.length 0 (Nat.zero_le _) lo
  have lb := HT.sIx_le z.length z.length (Nat.le_refl _) hi
  unfold Txt.slice
  rw [sliceIx]
  generalize HT.sIx z.length 0 lo = a at la ⊢
  generalize HT.sIx z.length z.length hi = b at lb ⊢
  split
  · rename_i h
    simp at h
    have ha : a = 0 := by
      rcases Nat.eq_zero_or_pos z.length with h0 | h0
      · omega
      · omega
    subst ha
    rw [List.drop_zero, List.take_of_length_le (by omega)]
  · show List.filterMap (fun x => z.cps[x]?) _ = _
    have e : (fun x : Nat => z.cps[x]?) = fun x => z.cps.toList[x]? := by funext x; simp
    rw [e]
    by_cases h : a ≤ b
    · exact pickRange _ a (b - a) (by omega)
    · rw [show b - a = 0 by omega]; simp
theorem slice_to (z : Str) (k : Nat) : (Txt.slice z none (some (k : Int))).cps.toList = z.cps.toList.take k := by
  rw [slice_cps, HT.sIx_none, HT.sIx_nat, List.drop_zero, Nat.sub_zero]
  have hn : z.cps.toList.length = z.length := by simp [Str.length]
  by_cases h : k ≤ z.length
  · rw [Nat.min_eq_left h]
  · rw [Nat.min_eq_right (by omega), List.take_of_length_le (by omega), List.take_of_length_le (by omega)]
theorem slice_from (z : Str) (k : Nat) : (Txt.slice z (some (k : Int)) none).cps.toList = z.cps.toList.drop k := by
  rw [slice_cps, HT.sIx_none, HT.sIx_nat]
  have hn : z.cps.toList.length = z.length := by simp [Str.length]
  by_cases h : k ≤ z.length
  · rw [Nat.min_eq_left h, List.take_of_length_le (by rw [List.length_drop]; omega)]
  · rw [Nat.min_eq_right (by omega), List.drop_eq_nil_of_le (by omega), List.drop_eq_nil_of_le (by omega)]; simp
theorem layAll {n : Nat} : ∀ {ds : List PyData}, (∀ d ∈ ds, d.canLay0 = true ∧ d.depth ≤ n) → PyData.canLayAll0 ds = true ∧ PyData.depthAll ds ≤ n
  | [], _ => ⟨rfl, by simp [PyData.depthAll]⟩
  | d :: ds, h => by
    obtain ⟨a, b⟩ := layAll fun e he => h e (List.mem_cons_of_mem _ he)
    obtain ⟨c, e⟩ := h d (by simp)
    rw [PyData.canLayAll0, PyData.depthAll, a, c]
    exact ⟨rfl, by omega⟩
theorem lay_list {n : Nat} {ds : List PyData} (h : ∀ d ∈ ds, d.canLay0 = true ∧ d.depth ≤ n) : (PyData.list ds).canLay0 = true ∧ (PyData.list ds).depth ≤ n + 1 := by
  obtain ⟨a, b⟩ := layAll h
  rw [PyData.canLay0, PyData.depth]
  exact ⟨a, by omega⟩
theorem lay_shaped {d : PyData} {n : Nat} (h : d.canLay0 = true ∧ d.depth ≤ n) (hn : n ≤ 64) : shaped d = true := by
  unfold shaped
  rw [h.1, decide_eq_true (by omega)]; rfl
theorem r_new {xs : List V} {H : Hp} {R : Addr → Prop} (c : Nat.ble xs.length 64 = true) (h : ∀ p, H p = none → R p) : xs.length ≤ sizeLine ∧ ∀ p, H p = none → R p :=
  ⟨Nat.le_trans (Nat.le_of_ble_eq_true c) (by decide), h⟩
theorem iteNT {A B : Prop} (h : A) : if (!false) = true then A else B := (if_pos (show (!false) = true from rfl)).mpr h
theorem iteNF {A B : Prop} (h : B) : if (!true) = true then A else B := by rw [if_neg (by simp)]; exact h
theorem r_cut {t u : TS} {D : Ends} {σ : St} {H : Hp} (M : St → Hp → Prop) (h1 : ∀ σ H, M σ H → u D σ H) (h2 : ∀ N, (∀ σ H, M σ H → N σ H) → t { D with nx := N } σ H) : tSeq t u D σ H := h2 _ h1
end L2

namespace L2
open PySem PySem.Spec PyProof.Rows PySem.SeqAt
open AutoSeq1 (wpAny_loadPart')
section
variable {X : Cx}
end
section
variable {X : Cx}
end
section
variable {H : Hp} {Q : VK} {K : PySem.W.Frag} {σ : St} {D : Ends}
end
end L2

namespace L2
open PySem PySem.Spec PyProof.Rows
section
variable {X : Cx}
theorem ints_vals : ∀ {us : List Value} {ns : List Int}, IntsAre us ns → Vals (ns.map V.int) us := by
  intro us
  induction us with
  | nil => intro ns h; cases h; exact .nil
  | cons u us ih =>
    intro ns h
    cases h with
    | cons a b => exact .cons ⟨_, rfl⟩ (ih (by assumption))
end
theorem small_down {i : Int} (h0 : -1 ≤ i) (h1 : i < 2 ^ 60) : Builtin.Range.small i (-1) (-1) = true := by
  unfold Builtin.Range.small Builtin.Range.rangeSize
  simp only [Builtin.Range.rangeFitsLong, Bool.and_eq_true, Bool.or_eq_true, decide_eq_true_eq, beq_iff_eq, show ¬ ((-1 : Int) > 0) by decide, if_false, show (-(-1 : Int)) = 1 by decide, Int.ediv_one]
  split <;> omega
theorem size_down {n : Nat} : Builtin.Range.rangeSize ((n : Int) - 1) (-1) (-1) = (n : Int) := by
  unfold Builtin.Range.rangeSize
  simp only [show ¬ ((-1 : Int) > 0) by decide, if_false, show (-(-1 : Int)) = 1 by decide, Int.ediv_one]
  split <;> omega
section
variable {σ : St} {H : Hp} {Q : VK} {D : Ends}
end
end L2

namespace L2
open PySem PySem.Spec PyProof.Rows
noncomputable def tListRng (n0 : List V → Hp → (Int → Int → Nat → Prop) → Prop) (ta : TA) : TE := fun σ H Q => ta σ H fun vs H1 => n0 vs H1 fun lo c n => ∀ q, H1 q = none → Q (.ref q) (upd H1 q (.lst ((List.range n).map fun i : Nat => V.int (lo + (i : Int) * c))))
noncomputable def rng1 : List V → Hp → (Int → Int → Nat → Prop) → Prop := fun vs _ R => ∃ n : Nat, vs = [.int n] ∧ n ≤ 1000000 ∧ R 0 1 n
theorem items_rng {lo c : Int} {n : Nat} {acc : Array Value} (h : ItemsOf (fun i v => ∃ t, v = .int (lo + i * c) t) acc n) : Vals ((List.range n).map fun i : Nat => V.int (lo + (i : Int) * c)) acc.toList := by
  obtain ⟨h1, h2⟩ := h
  have key : ∀ (k : Nat) (a : List Value) (b : Nat), a.length = k → (∀ (j : Nat) (v : Value), a[j]? = some v → ∃ t, v = .int (lo + ((b + j : Nat) : Int) * c) t) → Vals ((List.range' b k).map fun i : Nat => V.int (lo + (i : Int) * c)) a := by
    intro k
    induction k with
    | zero => intro a b hl _; cases a with
      | nil => exact .nil
      | cons _ _ => simp at hl
    | succ k ih =>
      intro a b hl hh
      cases a with
      | nil => simp at hl
      | cons v a =>
        obtain ⟨t, e⟩ := hh 0 v (by simp)
        rw [List.range'_succ, List.map_cons]
        refine .cons ⟨t, by simpa using e⟩ (ih a (b + 1) (by simpa using hl) fun j v' e => ?_)
        obtain ⟨t, e⟩ := hh (j + 1) v' (by simpa using e)
        exact ⟨t, by rw [e]; congr 3; omega⟩
  rw [List.range_eq_range']
  refine key n acc.toList 0 (by simpa using h1) fun j v e => ?_
  obtain ⟨t, e⟩ := h2 j v (by simpa using e)
  exact ⟨t, by rw [e]; congr 3; simp⟩
section
variable {X : Cx}
theorem listRng_core {pins : List (Addr × Obj)} {σ : St} {H1 : Hp} {s1 : Shared} {Q : VK} {E : Value → Shared → Prop} {lo hi c : Int} {t u v : Tok} {tk n : Nat} (hc : X.calm = true) (I1 : Inv X pins σ H1 s1) (hs : Builtin.Range.small lo hi c = true) (hn : Builtin.Range.rangeSize lo hi c = (n : Int)) (hl : n ≤ 1000000)
    (q : ∀ q, H1 q = none → Q (.ref q) (upd H1 q (.lst ((List.range n).map fun i : Nat => V.int (lo + (i : Int) * c))))) :
    wpAny (model X.prog X.w) X.A (call (.type "list") [.ref s1.heap.objs.size]) (EP X pins σ Q) E { s1 with heap := s1.heap.push { cls := .type "range", data := .fields #[.int lo t, .int hi u, .int c v] }, toks := tk } := by
  have I2 : Inv X pins σ H1 { s1 with heap := s1.heap.push { cls := .type "range", data := .fields #[.int lo t, .int hi u, .int c v] }, toks := tk } := I1.kept fun b o e => Heap.get?_push_of_some _ e
  refine call_list_range (n := n) (I1.ok.hd hc) (IsRange.new ..) hs hn (by omega) fun h' tk' acc' c' hk hS hacc => ?_
  have hsl : n ≤ sizeLine := Nat.le_trans hl (by decide)
  exact ⟨.ref _, _, I2.laid (t' := tk') (o := .lst ((List.range n).map fun i : Nat => V.int (lo + (i : Int) * c))) hk (Nat.le_refl _) ⟨by simpa using hsl, acc'.toList, c', items_rng hacc, by simpa using hS⟩, rfl, q _ I2.fresh⟩
theorem j_listRng1 {a : Expr} {ta : TA} {p p2 p3 pos : Pos} (hc : X.calm = true) (hg : Gl X "list") (hm : X.mg "list" = none) (hg2 : Gl X "range") (hm2 : X.mg "range" = none) (ha : JA X [a] ta) (h : autoParam (notStar a = true) L2.auto4._auto_1) :
    JE X (.Call (.Name "list" p) [.Call (.Name "range" p2) [a] [] p3] [] pos) (tListRng rng1 ta) := ⟨by
  intro pins s σ H Q I hq
  refine wpAny_Call_Name_kw (ld_blt I hg hm bt_list (PyProof.Rows.callWith_type1 (arg1 rfl (wpAny_Call_Name_kw (ld_blt I hg2 hm2 boot_range (PyProof.Rows.callWith_type1 (thn (ha.run p3 pins s σ H _ I hq) fun us s1 qq0 => ?_) (se_cons h) rfl)))) rfl rfl))
  obtain ⟨vs, H1, I1, r1, q1⟩ := qq0
  obtain ⟨n, rfl, hn, q⟩ := q1
  obtain ⟨u, rfl, t, rfl⟩ := vals1 r1
  exact call_range_1 (listRng_core hc I1 (small_one (by omega) (by omega) (by omega) (by omega)) (by rw [rangeSize_one]; split <;> omega) hn q)⟩
end
section
variable {X : Cx}
end
section
variable {σ : St} {H : Hp} {Q : VK} {K : PySem.W.Frag}
theorem r_lrng {n0 : List V → Hp → (Int → Int → Nat → Prop) → Prop} {ta : TA} (h : ta σ H fun vs H1 => n0 vs H1 fun lo c n => ∀ q, H1 q = none → Q (.ref q) (upd H1 q (.lst ((List.range n).map fun i : Nat => V.int (lo + (i : Int) * c))))) : tListRng n0 ta σ H Q := h
end
end L2

namespace L2
open PySem PySem.Spec PyProof.Rows
noncomputable def CDivW (i j : Int) : Prop := 0 < j ∧ j < 1606938044258990275541962092341162602522202993782792835301376
section
variable {X : Cx}
theorem op_fdivW : OpR X (binaryOp .FloorDiv) (rI CDivW fun i j => .int (i / j)) := opI fun i j _ _ _ _ _ hc q => by
  have h1 : (0 : Int) < j := hc.1
  have h2 := hc.2
  refine floordiv_int (by omega) (by rw [Int.fdiv_eq_ediv_of_nonneg i (by omega)]; exact q) (.inl (PyProof.noPylong_of_log2 ?_))
  have h3 : j.natAbs.log2 < 200 := (Nat.log2_lt (by omega)).mpr (by omega)
  omega
end
end L2

namespace L2
open PySem PySem.Spec PyProof.Rows
open PySem.Sem (wp)
open PySem.AutoSeq1 (wpAny_loadPart')
section
variable {prog : Program} {w : World} {A : Around} {E : Value → Shared → Prop} {s : Shared}
end
end L2

namespace L2
open PySem PySem.Spec PyProof.Rows
section
variable {K : PySem.W.Frag} {σ : St} {H : Hp}
end
section
variable {X : Cx} {e : Expr} {te : TE} {lo hi : Option Expr} {st : Expr} {tl th ts : TO} {pos p2 : Pos}
end
end L2

namespace L2
open PySem PySem.Spec PyProof.Rows
end L2

namespace L2
open PySem PySem.Spec PyProof.Rows
open PySem.Sem (wp)
open PySem.AutoSeq1 (wpAny_loadPart')
section
variable {prog : Program} {w : World} {A : Around} {E : Value → Shared → Prop} {s : Shared}
theorem nextOf_rev_item {it l : Addr} {i : Nat} {items : Array Value} {x : Value} {Q : Value → Shared → Prop} (hit : s.heap.IsRevIter it l (i : Int)) (hl : s.heap.IsList l items) (hx : items[i]? = some x)
    (hQ : ∀ h', h'.IsRevIter it l ((i : Int) - 1) → Heap.SameBut it s.heap h' → Q x { s with heap := h' }) : wpAny (model prog w) A (Builtin.SmallTypes.nextOf (.ref it)) Q E s := by
  obtain ⟨o, ho, hc, hd⟩ := id hit
  obtain ⟨ol, hol, _, nl, hdl⟩ := hl
  unfold Builtin.SmallTypes.nextOf
  refine wpAny_bind (wpAny_callSpecial?_slot (name := Str.ofString "__next__") hit.typeIs F.slot_lri_next
    (wpAny_call_entry F.slot_lri_next hit.typeIs F.entry_lri_next ?_ (F.args_lri_next_1 _)))
  unfold Builtin.«list_reverseiterator.__next__»
  refine wpAny_bind (wpAny_of_eq (a := (Value.ref it, [])) rfl ?_)
  try dsimp only
  refine wpAny_bind (wpAny_field ho hd (x := rawInt (i : Int)) rfl ?_)
  show wpAny _ _ (if (i : Int) < 0 then _ else _) _ _ s
  rw [if_neg (by omega)]
  show wpAny _ _ (field (.ref it) 0 >>= _) _ _ s
  refine wpAny_bind (wpAny_field ho hd (x := .ref l) rfl ?_)
  show wpAny _ _ (seqItems? (.ref l) >>= _) _ _ s
  refine wpAny_bind (wpAny_seqItems hol hdl ?_)
  simp only [Int.toNat_natCast, hx]
  refine wpAny_bind (wpAny_setField ho hd (by simp) ?_)
  first
  | refine wpAny_pure ⟨x, rfl, wpAny_pure (hQ _ ?_ (Heap.SameBut.update ..))⟩
  | refine wpAny_bind (wpAny_pure (wpAny_pure ⟨x, rfl, wpAny_pure (hQ _ ?_ (Heap.SameBut.update ..))⟩))
  exact ⟨_, Heap.get?_update_self _ ho (Obj.isFreed_of_fields (Obj.data_mapFields hd _)), (Obj.cls_mapFields ..).trans hc, by
    rw [Obj.data_mapFields hd]; simp⟩
theorem nextOf_rev_end {it l : Addr} {Q : Value → Shared → Prop} (hh : A.handled = none) (hit : s.heap.IsRevIter it l (-1))
    (hE : ∀ h' e, Heap.ExtBut it s.heap h' → (∃ o, h'.get? e = some o ∧ o.cls = .type "StopIteration") → E (.ref e) { s with heap := h' }) : wpAny (model prog w) A (Builtin.SmallTypes.nextOf (.ref it)) Q E s := by
  obtain ⟨o, ho, hc, hd⟩ := id hit
  unfold Builtin.SmallTypes.nextOf
  refine wpAny_bind (wpAny_callSpecial?_slot (name := Str.ofString "__next__") hit.typeIs F.slot_lri_next
    (wpAny_call_entry F.slot_lri_next hit.typeIs F.entry_lri_next ?_ (F.args_lri_next_1 _)))
  unfold Builtin.«list_reverseiterator.__next__»
  refine wpAny_bind (wpAny_of_eq (a := (Value.ref it, [])) rfl ?_)
  try dsimp only
  refine wpAny_bind (wpAny_field ho hd (x := rawInt (-1)) rfl ?_)
  show wpAny _ _ (if (-1 : Int) < 0 then _ else _) _ _ s
  rw [if_pos (by decide)]
  refine wpAny_bind (wpAny_rule ?_)
  first
  | show wpAny _ _ (newExc (.type "StopIteration") [] >>= _) _ _ _
  | (refine wpAny_bind ?_; show wpAny _ _ (newExc (.type "StopIteration") [] >>= _) _ _ _)
  refine wpAny_bind ?_
  simp only [newExc, newTuple]
  refine wpAny_bind (wpAny_newObj_type ?_ (by size_fits))
  refine wpAny_bind (m := firstArgMember _ _) (wpAny_of_eq (a := Value.none) (by first | rfl | (simp only [firstArgMember]; rfl)) ?_)
  refine wpAny_newObj_type ?_ (by size_fits)
  simp only [raiseNew]
  refine wpAny_bind (wpAny_handled ?_)
  first | rw [show A.in1.handled = none from hh] | rw [hh]
  refine wpAny_bind (wpAny_pure (wpAny_throw ?_))
  exact hE _ _ (((Heap.ExtBut.refl _ _).push _).push _) ⟨_, Heap.get?_push_size _ rfl, rfl⟩
end
theorem meets_enumerate_newR (it l : Addr) (i : Int) (dct : Option Addr) (sl : Array (Option Value)) :
    Meets (Builtin.«enumerate.__new__» ⟨[.type "enumerate", .ref it], []⟩) (fun _ R s => s.heap.get? it = some { cls := .type "list_reverseiterator", dict := dct, data := .fields #[.ref l, rawInt i], slots := sl } ∧
      R (.ok (.ret (.ref s.heap.objs.size)))
        { s with heap := s.heap.push { cls := .type "enumerate", data := .fields #[.none, .bool false, .ref it, rawInt 0, .none, .none] } }) :=
  .of_wp fun prog w A R s h => by
    obtain ⟨hp, g, d, tk, os⟩ := s; obtain ⟨hl, h⟩ := h
    have hsub := sub_enumerate
    have hL : Heap.IsRevIter (Shared.heap ⟨hp, g, d, tk, os⟩) it l i := ⟨_, hl, rfl, rfl⟩
    wp_walk using wpAny_loadPart' hl
    refine wpAny_stack_any fun st => wpAny_pure ?_
    split
    · rename_i c _ _ _ _ _
      cases (c == Value.type "enumerate")
      · wp_walk using wpAny_loadPart' hl, wpAny_pyIter_revIter hL
        exact ⟨_, rfl, h⟩
      · wp_walk using wpAny_loadPart' hl, wpAny_pyIter_revIter hL
        exact ⟨_, rfl, h⟩
    · wp_walk using wpAny_loadPart' hl, wpAny_pyIter_revIter hL
      exact ⟨_, rfl, h⟩
end L2

namespace L2
open PySem PySem.Spec PyProof.Rows
section
variable {prog : Program} {w : World} {A : Around} {E : Value → Shared → Prop} {s : Shared}
theorem call_enumerate_rev {it l : Addr} {i : Int} {Q : Value → Shared → Prop} (hL : s.heap.IsRevIter it l i)
    (h : ∀ h', IsEnum h' s.heap.objs.size it 0 .none → (∀ b o, s.heap.get? b = some o → h'.get? b = some o) → Q (.ref s.heap.objs.size) { s with heap := h' }) :
    wpAny (model prog w) A (call (.type "enumerate") [.ref it]) Q E s := by
  obtain ⟨⟨c, dct, dt, sl⟩, hl, hc, hd⟩ := hL
  replace hc : c = .type "list_reverseiterator" := hc
  replace hd : dt = .fields #[.ref l, rawInt i] := hd
  subst hc hd
  refine callType_new F.called_enumerate (by decide) (F.typeCall_enumerate_1 _) (F.newCall_enumerate_1 _) (fun obj => F.args_object_init_2 obj _) F.entry_enumerate_new
    (meets_enumerate_newR it l i dct sl) ⟨hl, ?_⟩
  show _ ∧ _
  have he : IsEnum (s.heap.push { cls := .type "enumerate", data := .fields #[.none, .bool false, .ref it, rawInt 0, .none, .none] }) s.heap.objs.size it 0 .none := Heap.get?_push_size _ rfl
  exact ⟨⟨_, he, rfl⟩, h _ he fun b o x => Heap.get?_push_of_some _ x⟩
end
theorem draws_rev {prog : Program} {w : World} {A : Around} (hh : A.handled = none) (it l : Addr) (hne : l ≠ it) (items : Array Value) :
    Draws prog w A it [it, l] items.size (fun i v => items[items.size - 1 - i]? = some v) (fun i h => i ≤ items.size ∧ h.IsRevIter it l ((items.size : Int) - 1 - (i : Int)) ∧ h.IsList l items) where
  live := fun _ _ st => let ⟨o, ho, _⟩ := st.2.1; ⟨o, ho⟩
  frame := fun _ _ _ x hk => ⟨x.1, x.2.1.at fun o e => hk it (by simp) o e, x.2.2.at fun o e => hk l (by simp) o e⟩
  item := fun i s Q E hi x hQ => by
    have e : (items.size : Int) - 1 - (i : Int) = ((items.size - 1 - i : Nat) : Int) := by omega
    have hit := x.2.1
    rw [e] at hit
    have hx : items[items.size - 1 - i]? = some (items[items.size - 1 - i]'(by omega)) := Array.getElem?_eq_getElem (by omega)
    refine nextOf_rev_item hit x.2.2 hx fun h' hit' hs' => ?_
    have e2 : ((items.size - 1 - i : Nat) : Int) - 1 = (items.size : Int) - 1 - ((i + 1 : Nat) : Int) := by omega
    rw [e2] at hit'
    exact hQ _ h' s.toks hx ⟨hi, hit', x.2.2.at fun o eo => (hs'.2 l hne).trans eo⟩ hs'
  done := fun s Q E x hE => by
    have e : (items.size : Int) - 1 - (items.size : Int) = -1 := by omega
    have hit := x.2.1
    rw [e] at hit
    exact nextOf_rev_end hh hit hE
noncomputable def IteR (K : PySem.W.Frag) (a : Addr) (n : Nat) : It :=
  ⟨fun i H => i < n ∧ ∃ xs, SqL K H a xs ∧ xs.length = n,
   fun i H v H' => ∃ T x, H T = none ∧ v = .ref T ∧ (∀ xs, SqL K H a xs → xs[n - 1 - i]? = some x) ∧ H' = upd H T (.tup [.int i, x]),
   fun i _ => i = n⟩
theorem turn_enumR {P : Program} {w : World} {K : PySem.W.Frag} {elts : List Expr} {k n : Nat} {pos : Pos} {e it a : Addr} (hne : e ≠ it) (hea : e ≠ a) (hai : a ≠ it) :
    Turn P w K (.Tuple elts k pos) (IteR K a n) [e, it] e (fun i h => (∃ old, IsEnum h e it i old) ∧ i ≤ n ∧ h.IsRevIter it a ((n : Int) - 1 - (i : Int))) where
  mem := by simp
  obj := fun i h st c hc => by
    obtain ⟨⟨old, he⟩, _, ⟨o1, e1, c1, d1⟩⟩ := st
    simp only [List.mem_cons, List.mem_nil_iff, or_false] at hc
    rcases hc with rfl | rfl
    · exact ⟨_, he, fun v z => by cases z⟩
    · exact ⟨_, e1, fun v z => by rw [d1] at z; cases z⟩
  keep := fun i h h' st kk => by
    obtain ⟨⟨old, he⟩, hi, h1⟩ := st
    exact ⟨⟨old, kk e (by simp) _ he⟩, hi, h1.at fun o q => kk it (by simp) o q⟩
  item := by
    intro X hP hw hK hc i pins s σ H E I hf st hg
    subst hP hw hK
    obtain ⟨⟨old, he⟩, hi, h1⟩ := st
    obtain ⟨hlt, xs, hq, hlen⟩ := hg
    obtain ⟨its, rv, p, _⟩ := I.list hq
    have l1 := rv.length
    have sz : its.toArray.size = n := by rw [List.size_toArray]; omega
    obtain ⟨x, hx⟩ : ∃ x, xs[n - 1 - i]? = some x := ⟨_, List.getElem?_eq_getElem (by omega)⟩
    obtain ⟨u, hu, ru⟩ := rv.get hx
    have h1' : s.heap.IsRevIter it a ((its.toArray.size : Int) - 1 - (i : Int)) := by rw [sz]; exact h1
    refine wpAny_pyNext_enum_itemD (draws_rev (A := X.A.in1) (I.ok.hd hc) it a hai its.toArray) he ⟨by omega, h1', p.isList⟩ (by omega) hne (by simp [hne, hea]) fun x' h' tk hx' a1 a2 a3 a4 hk => ?_
    have ex : x' = u := by
      have h2 : its[its.length - 1 - i]? = some x' := by simpa using hx'
      rw [show its.length - 1 - i = n - 1 - i by omega, hu] at h2
      exact (Option.some.inj h2).symm
    subst ex
    refine ⟨_, rfl, wpAny_letOwnedTupleGo_enum a1 fun h'' a1' sb => ?_⟩
    have lt : ∀ {c o}, s.heap.get? c = some o → s.heap.objs.size ≠ c := fun e => Nat.ne_of_gt (Heap.lt_size e)
    have lti : s.heap.objs.size ≠ it := by obtain ⟨o, q, _⟩ := h1; exact lt q
    have isT : h''.IsTuple s.heap.objs.size #[.int i tk, x'] := ⟨_, sb.extBut _ _ (lt he) a3, rfl, _, rfl⟩
    have kall : ∀ b o, b ∉ [e, it] → s.heap.get? b = some o → h''.get? b = some o := fun b o hb q => by
      simp only [List.mem_cons, List.mem_nil_iff, or_false, not_or] at hb
      exact sb.extBut _ _ hb.1 (hk b o hb.1 hb.2 q)
    have hTn : H s.heap.objs.size = none := I.hok.fresh (Nat.le_refl _)
    refine ⟨.ref s.heap.objs.size, _, I.newtup (tk := tk + 1) hf (Nat.le_refl _) kall isT (xs := [.int i, x]) (.cons ⟨_, rfl⟩ (.cons ru .nil)) (by simp; decide), rfl, ⟨_, x, hTn, rfl, fun zs hs => by rw [I.list_inj hs hq]; exact hx, rfl⟩, ?_, fun b hb => ?_⟩
    · refine ⟨⟨_, a1'⟩, hlt, ?_⟩
      have := a2.2.1
      rw [sz] at this
      exact this.at fun o q => sb.extBut _ _ (Ne.symm hne) q
    · have : s.heap.objs.size ≠ b := by
        simp only [List.mem_cons, List.mem_nil_iff, or_false] at hb
        rcases hb with rfl | rfl
        · exact lt he
        · exact lti
      rw [upd_ne (Ne.symm this)]
      exact (hf b hb).1
  done := by
    intro X hP hw hK hc i pins s σ H E I hf st hg
    subst hP hw hK
    obtain ⟨⟨old, he⟩, hi, h1⟩ := st
    have hin : i = n := hg
    subst hin
    rw [show (i : Int) - 1 - (i : Int) = -1 by omega] at h1
    have ht : s.TypeIs (.ref e) "enumerate" := ⟨_, he, rfl⟩
    unfold pyNext
    refine wpAny_bind (wpAny_attempt (wpAny_callSpecial?_slot (name := Str.ofString "__next__") ht F.slot_enumerate_next
      (wpAny_call_entry F.slot_enumerate_next ht F.entry_enumerate_next ?_ (F.args_enumerate_next_1 _))))
    show wpAny _ _ (field (.ref e) 2 >>= _) _ _ _
    refine wpAny_bind (wpAny_field he rfl (x := .ref it) rfl ?_)
    refine wpAny_bind (nextOf_rev_end (A := X.A.in1) (I.ok.hd hc) h1 fun h' x he' hx' => ?_)
    obtain ⟨o, ho, hc'⟩ := hx'
    refine wpAny_bind (wpAny_isInstance (T := "StopIteration") (b := true) ⟨o, ho, hc'⟩ isSubtype_stop ?_)
    refine wpAny_pure ⟨rfl, I.only (tk := s.toks) hf fun b o hb q => ?_⟩
    simp only [List.mem_cons, List.mem_nil_iff, or_false, not_or] at hb
    exact he' b o hb.2 q
  self := fun _ _ _ _ _ st h => let ⟨⟨_, he⟩, _⟩ := st; wpAny_pyIter_enum he h
end L2

namespace L2
open PySem PySem.Spec PyProof.Rows
noncomputable def iEnumRev (K : PySem.W.Frag) (ta : TE) : TI := fun σ H R => ta σ H fun x H1 => ∃ l xs, x = .ref l ∧ SqL K H1 l xs ∧ R (IteR K l xs.length) H1
theorem ji_enumRev {X : Cx} {K : PySem.W.Frag} {a : Expr} {ta : TE} {elts : List Expr} {k : Nat} {tp p p2 p3 pos : Pos} (hK : X.K = K) (hg : Gl X "enumerate") (hm : X.mg "enumerate" = none) (hg2 : Gl X "reversed") (hm2 : X.mg "reversed" = none) (ha : JE X a ta) (h : autoParam (notStar a = true) L2.auto4._auto_1) :
    JI X (.Tuple elts k tp) (.Call (.Name "enumerate" p) [.Call (.Name "reversed" p2) [a] [] p3] [] pos) (iEnumRev K ta) := ⟨by
  subst hK
  intro pins s σ H R I hq
  refine Call_ (ld_blt I hg hm bt_enumerate (PyProof.Rows.callWith_type1 (arg1 rfl (wpAny_Call_Name_kw (ld_blt I hg2 hm2 bt_reversed (PyProof.Rows.callWith_type1 (arg1 h (thn (ha.run pins s σ H _ I hq) fun u s1 qq0 => ?_)) (se_cons h) rfl)))) rfl rfl))
  obtain ⟨x, H1, I1, rx, l, xs, ex, hx, q⟩ := qq0
  subst ex
  cases rx
  obtain ⟨its, rv, ht, hz⟩ := I1.list hx
  have hlen := rv.length
  have lt : l < s1.heap.objs.size := by obtain ⟨o, ho, _⟩ := ht.isList; exact Heap.lt_size ho
  refine call_reversed_list ht.isList ?_
  have e0 : (s1.heap.push (PySem.revObj l ((its.toArray.size : Int) - 1))).get? s1.heap.objs.size = some (PySem.revObj l ((its.toArray.size : Int) - 1)) := Heap.get?_push_size _ rfl
  have s0 : (s1.heap.push (PySem.revObj l ((its.toArray.size : Int) - 1))).objs.size = s1.heap.objs.size + 1 := Heap.size_push ..
  have k0 : ∀ b o, s1.heap.get? b = some o → (s1.heap.push (PySem.revObj l ((its.toArray.size : Int) - 1))).get? b = some o := fun b o q => Heap.get?_push_of_some _ q
  refine call_enumerate_rev (it := s1.heap.objs.size) (l := l) (i := (its.toArray.size : Int) - 1) ⟨_, e0, rfl, rfl⟩ fun h' z1 hk => ?_
  have z1' : IsEnum h' (s1.heap.objs.size + 1) s1.heap.objs.size 0 .none := by rw [← s0]; exact z1
  have z2 : h'.IsRevIter s1.heap.objs.size l ((xs.length : Int) - 1 - ((0 : Nat) : Int)) := ⟨_, hk _ _ e0, rfl, by
    show Data.fields #[.ref l, rawInt ((its.toArray.size : Int) - 1)] = _
    rw [show ((its.toArray.size : Int) - 1) = (xs.length : Int) - 1 - ((0 : Nat) : Int) by rw [List.size_toArray]; omega]⟩
  have J1 : Inv X pins σ H1 { s1 with heap := h' } := I1.kept (t' := s1.toks) fun b o q => hk b o (k0 b o q)
  rw [s0]
  refine wpAny_pyIter_enum z1' ?_
  have key2 : ∀ n l : Nat, l < n → n + 1 ≠ l ∧ l ≠ n := fun n l h => ⟨by omega, by omega⟩
  refine ⟨s1.heap.objs.size + 1, _, _, _, H1, rfl, J1, turn_enumR (n := xs.length) (Nat.succ_ne_self _) (key2 _ _ lt).1 (key2 _ _ lt).2, ⟨⟨_, z1'⟩, Nat.zero_le _, z2⟩, fun b hb => ?_, q⟩
  have hb' : s1.heap.objs.size ≤ b := by
    simp only [List.mem_cons, List.mem_nil_iff, or_false] at hb
    have key : ∀ n c : Nat, (c = n + 1 ∨ c = n) → n ≤ c := fun n c h => by omega
    exact key _ _ hb
  exact I1.fpOk hb' (I1.hok.fresh hb')⟩
section
variable {K : PySem.W.Frag} {σ : St} {H : Hp}
theorem r_enumRev {ta : TE} {R : It → Hp → Prop} (h : ta σ H fun x H1 => ∃ l xs, x = .ref l ∧ SqL K H1 l xs ∧ R (IteR K l xs.length) H1) : iEnumRev K ta σ H R := h
theorem for_enumR {a : Addr} {xs : List V} {g : TG} {tb : TS} {D : Ends} (Pv : Nat → St → Hp → Prop) (h0 : Pv 0 σ H) (hq : ∀ i σ H, i ≤ xs.length → Pv i σ H → SqL K H a xs)
    (hs : ∀ i σ H T x, i < xs.length → xs[xs.length - 1 - i]? = some x → Pv i σ H → H T = none → g (.ref T) σ (upd H T (.tup [.int i, x])) fun σ2 H2 => tb { D with nx := Pv (i + 1), ct := Pv (i + 1), bk := D.nx } σ2 H2) (hd : ∀ σ H, Pv xs.length σ H → D.nx σ H) :
    ∃ W : Nat → Nat → St → Hp → Prop, (∃ m, W 0 m σ H) ∧ ∀ i m σ H, W i m σ H →
      ((IteR K a xs.length).stop i H ∧ D.nx σ H) ∨ ((IteR K a xs.length).go i H ∧ ∃ N : St → Hp → Prop, (∀ σ' H', N σ' H' → ∃ m', m' < m ∧ W (i + 1) m' σ' H') ∧ ∀ x H', (IteR K a xs.length).yld i H x H' → g x σ H' fun σ2 H2 => tb { D with nx := N, ct := N, bk := D.nx } σ2 H2) := by
  refine ⟨fun i m σ H => m = xs.length - i ∧ i ≤ xs.length ∧ Pv i σ H, ⟨xs.length, by simp, Nat.zero_le _, h0⟩, ?_⟩
  rintro i m σ H ⟨rfl, hi, p⟩
  have q1 := hq i σ H hi p
  by_cases hlt : i < xs.length
  · refine .inr ⟨⟨hlt, xs, q1, rfl⟩, Pv (i + 1), fun σ' H' p' => ⟨xs.length - (i + 1), by omega, rfl, hlt, p'⟩, fun x H' y => ?_⟩
    obtain ⟨T, u, hT, e1, e2, e4⟩ := y
    subst e1 e4
    exact hs i σ H T u hlt (e2 xs q1) p hT
  · have e : i = xs.length := by omega
    subst e
    exact .inl ⟨rfl, hd σ H p⟩
end
end L2

namespace L2
open PySem PySem.Spec PyProof.Rows
structure Sml (d : PyData) : Prop where
  sh : d.showable = true
  dp : d.depth ≤ 58
  lv : d.leavesShort 60 = true
  bk : d.bulk ≤ 10000
end L2

namespace L2
open PySem PySem.Spec PyProof.Rows
open PySem.Sem (wp)
section
variable {X : Cx} {pos : Pos} {σ : St} {H : Hp} {Q : VK} {K : PySem.W.Frag}
end
end L2

namespace L2
open PySem PySem.Spec PyProof.Rows
end L2

namespace L2
open PySem PySem.Spec PyProof.Rows
structure RoomU (k : Nat) (A : Around) : Prop where
  dp : A.depth + 3 * k + 5 < recursionLimit
  un : A.units + 16 * k + 200 < cLine
  gd : A.guards = some []
structure FnU (P : Program) (w : World) (K : PySem.W.Frag) (mg : Str → Option Value) (base : Heap) (k : Nat) (f : Addr) (fd : FuncData) (ps : List Str) (sp : Sp) : Prop where
  len : ∀ vs H Q E, sp vs H Q E → vs.length = ps.length
  run : ∀ (A : Around) (outer : List Env) (s : Shared) (H : Hp) (args : Args) (us : List Value) (vs : List V) (Q : VK) (E : XK), RoomU k A → Env0 P w K mg base A outer s H → BindsTo s fd args (ps.zip us) → Vals vs us → sp vs H Q E →
    codeAny (model P w) A (.call (.ref f) args) (CR CX0 outer P w H s Q E) s
end L2

namespace L2
open PySem PySem.Spec PyProof.Rows
section
variable {prog : Program} {w : World} {A : Around} {E : Value → Shared → Prop} {s : Shared} {K : PySem.W.Frag} {x C : Addr} {ox : Obj} {od : Option Obj}
end
section
variable {prog : Program} {w : World} {A : Around} {K : PySem.W.Frag} {D : Addr} {E : Value → Shared → Prop}
end
structure X0 (K : PySem.W.Frag) (mg : Str → Option Value) (x : Str) : Prop where
  c : CTxt K mg x
  ini : PySem.W.findIn K (.ref (clsA mg x)) "__init__" = some (some (.builtin "ValueError.__init__"))
  kp : PySem.W.keepIn K (.ref (clsA mg x)) = true
section
variable {X : Cx} {x : Str} {p pos : Pos} {e : Expr} {es : List Expr} {t : TA}
end
end L2

namespace L2
open PySem PySem.Spec PyProof.Rows
open PySem.Sem (wp)
structure ZApart (z TI TO i1 i2 : Addr) (fp1 fp2 : List Addr) : Prop where
  TIz : TI ≠ z
  TOz : TO ≠ z
  i1z : i1 ≠ z
  i2z : i2 ≠ z
  TITO : TI ≠ TO
  TIi1 : TI ≠ i1
  TIi2 : TI ≠ i2
  TOi1 : TO ≠ i1
  TOi2 : TO ≠ i2
  i12 : i1 ≠ i2
  f1 : ∀ b ∈ fp1, b ≠ z ∧ b ≠ TO ∧ b ≠ i2
  f2 : ∀ b ∈ fp2, b ≠ z ∧ b ≠ TO ∧ b ≠ i1
section
variable {prog : Program} {w : World} {A : Around} {E : Value → Shared → Prop} {s : Shared} {z TI TO i1 i2 : Addr} {fp1 fp2 : List Addr} {n1 n2 k1 k2 : Nat} {P1 P2 : Nat → Value → Prop} {St1 St2 : Nat → Heap → Prop} {a b : Value}
theorem zipD_item {Q : Value → Shared → Prop} (D1 : Draws prog w A i1 fp1 n1 P1 St1) (D2 : Draws prog w A i2 fp2 n2 P2 St2) (D : ZApart z TI TO i1 i2 fp1 fp2)
    (hz : IsZip s.heap z TI TO .none) (hTI : IsPair s.heap TI (.ref i1) (.ref i2)) (hTO : IsPair s.heap TO a b) (s1 : St1 k1 s.heap) (s2 : St2 k2 s.heap) (l1 : k1 < n1) (l2 : k2 < n2)
    (hQ : ∀ x y h' tk, P1 k1 x → P2 k2 y → IsZip h' z TI TO (rawInt s.heap.objs.size) → IsPair h' TO x y → St1 (k1 + 1) h' → St2 (k2 + 1) h' → IsPair h' s.heap.objs.size x y →
      (∀ c o, c ≠ z → c ≠ TO → c ≠ i1 → c ≠ i2 → s.heap.get? c = some o → h'.get? c = some o) → Q (.ref s.heap.objs.size) { s with heap := h', toks := tk }) :
    wpAny (model prog w) A (Builtin.«zip.__next__» ⟨[.ref z], []⟩) (fun fin s' => ∃ v, fin = .done (.ret v) ∧ Q v s') E s := by
  have sb : ∀ {x : Addr} {h h' : Heap}, Heap.SameBut x h h' → ∀ c o, c ≠ x → h.get? c = some o → h'.get? c = some o := fun g c o n e => g.extBut _ _ n e
  show wpAny _ _ (field (.ref z) 2 >>= _) _ _ _
  refine wpAny_bind (wpAny_field hz rfl (x := .bool false) rfl ?_)
  show wpAny _ _ (field (.ref z) 3 >>= _) _ _ _
  refine wpAny_bind (wpAny_field hz rfl (x := .ref TI) rfl (wpAny_bind (wpAny_seqItems hTI rfl ?_)))
  show wpAny _ _ (Builtin.SmallTypes.ownedTupleIsFree (.ref z) >>= _) _ _ _
  unfold Builtin.SmallTypes.ownedTupleIsFree
  refine wpAny_bind (wpAny_bind (wpAny_field hz rfl (x := .none) rfl (wpAny_pure ?_)))
  simp only [if_true]
  refine wpAny_bind (wpAny_rule (wpAny_bind (wpAny_field hz rfl (x := .ref TO) rfl ?_)))
  refine wpAny_bind (wpAny_setField_rec hz (by simp) fun g1 y1 e1 => ?_)
  replace y1 : IsZip g1 z TI TO .ellipsis := y1
  refine wpAny_bind ?_
  simp only [List.zipIdx_cons, List.zipIdx_nil, List.forIn_cons, List.forIn_nil]
  refine wpAny_bind (wpAny_bind (wpAny_onRaise ?_))
  show wpAny _ _ (Builtin.SmallTypes.nextOf (.ref i1) >>= _) _ _ _
  have t1 : St1 k1 g1 := D1.frame _ _ _ s1 fun c hc o e => sb e1 c o (D.f1 c hc).1 e
  have t2 : St2 k2 g1 := D2.frame _ _ _ s2 fun c hc o e => sb e1 c o (D.f2 c hc).1 e
  refine wpAny_bind (D1.item k1 _ _ _ l1 t1 fun x g2 tk px u1 e2 => wpAny_pure ?_)
  have p2 : IsPair g2 TO a b := sb e2 _ _ D.TOi1 (sb e1 _ _ D.TOz hTO)
  refine wpAny_bind (wpAny_seqItems p2 rfl (wpAny_bind (wpAny_updateSeq_pair p2 fun g3 p3 e3 => ?_)))
  replace p3 : IsPair g3 TO x b := p3
  refine wpAny_bind (wpAny_letGo (wpAny_pure ?_))
  refine wpAny_bind (wpAny_bind (wpAny_onRaise ?_))
  show wpAny _ _ (Builtin.SmallTypes.nextOf (.ref i2) >>= _) _ _ _
  have t3 : St2 k2 g3 := D2.frame _ _ _ t2 fun c hc o e => sb e3 c o (D.f2 c hc).2.1 (sb e2 c o (D.f2 c hc).2.2 e)
  refine wpAny_bind (D2.item k2 _ _ _ l2 t3 fun y g4 tk2 py u2 e4 => wpAny_pure ?_)
  have p4 : IsPair g4 TO x b := sb e4 _ _ D.TOi2 p3
  refine wpAny_bind (wpAny_seqItems p4 rfl (wpAny_bind (wpAny_updateSeq_pair p4 fun g5 p5 e5 => ?_)))
  replace p5 : IsPair g5 TO x y := p5
  refine wpAny_bind (wpAny_letGo (wpAny_pure (wpAny_pure ?_)))
  refine wpAny_bind (wpAny_seqItems p5 rfl (wpAny_bind (wpAny_newTuple ?_)))
  have sz : g5.objs.size = s.heap.objs.size := by rw [e5.1, e4.1, e3.1, e2.1, e1.1]
  have z5 : IsZip g5 z TI TO .ellipsis := sb e5 _ _ D.TOz.symm (sb e4 _ _ D.i2z.symm (sb e3 _ _ D.TOz.symm (sb e2 _ _ D.i1z.symm y1)))
  have k5 : ∀ c o, c ≠ z → c ≠ TO → c ≠ i1 → c ≠ i2 → s.heap.get? c = some o → g5.get? c = some o := fun c o c1 c2 c3 c4 e =>
    sb e5 _ _ c2 (sb e4 _ _ c4 (sb e3 _ _ c2 (sb e2 _ _ c3 (sb e1 _ _ c1 e))))
  have v1 : St1 (k1 + 1) g5 := D1.frame _ _ _ u1 fun c hc o e => sb e5 c o (D.f1 c hc).2.1 (sb e4 c o (D.f1 c hc).2.2 (sb e3 c o (D.f1 c hc).2.1 e))
  have v2 : St2 (k2 + 1) g5 := D2.frame _ _ _ u2 fun c hc o e => sb e5 c o (D.f2 c hc).2.1 e
  have zlt : z < g5.objs.size := Heap.lt_size z5
  show wpAny _ _ (Builtin.SmallTypes.ownedTupleHandOut (.ref z) (.ref g5.objs.size) >>= _) _ _ _
  unfold Builtin.SmallTypes.ownedTupleHandOut
  have z6 : IsZip (g5.push { cls := .type "tuple", data := .seq #[x, y] }) z TI TO .ellipsis := Heap.get?_push_of_some _ z5
  refine wpAny_bind (wpAny_bind (wpAny_setField_rec z6 (by simp) fun g7 z7 e7 => ?_))
  replace z7 : IsZip g7 z TI TO (rawInt g5.objs.size) := z7
  refine wpAny_setField_rec z7 (by simp) fun g8 z8 e8 => ?_
  replace z8 : IsZip g8 z TI TO (rawInt g5.objs.size) := z8
  have up : ∀ c o, c ≠ z → g5.get? c = some o → g8.get? c = some o := fun c o c1 e => sb e8 _ _ c1 (sb e7 _ _ c1 (Heap.get?_push_of_some _ e))
  have pT : IsPair g8 g5.objs.size x y := sb e8 _ _ (Nat.ne_of_gt zlt) (sb e7 _ _ (Nat.ne_of_gt zlt) (Heap.get?_push_size _ rfl))
  rw [sz] at z8 pT
  refine wpAny_pure ⟨_, rfl, ?_⟩
  show Q (.ref g5.objs.size) _
  rw [sz]
  exact hQ x y g8 _ px py z8 (up _ _ D.TOz p5) (D1.frame _ _ _ v1 fun c hc o e => up c o (D.f1 c hc).1 e) (D2.frame _ _ _ v2 fun c hc o e => up c o (D.f2 c hc).1 e) pT fun c o c1 c2 c3 c4 e => up c o c1 (k5 c o c1 c2 c3 c4 e)
theorem zipD_end {Q : Fin → Shared → Prop} (D1 : Draws prog w A i1 fp1 n1 P1 St1) (D : ZApart z TI TO i1 i2 fp1 fp2)
    (hz : IsZip s.heap z TI TO .none) (hTI : IsPair s.heap TI (.ref i1) (.ref i2)) (s1 : St1 n1 s.heap)
    (hE : ∀ h' e, (∀ c o, c ≠ z → c ≠ i1 → s.heap.get? c = some o → h'.get? c = some o) → (∃ o, h'.get? e = some o ∧ o.cls = .type "StopIteration") → E (.ref e) { s with heap := h' }) :
    wpAny (model prog w) A (Builtin.«zip.__next__» ⟨[.ref z], []⟩) Q E s := by
  have sb : ∀ {x : Addr} {h h' : Heap}, Heap.SameBut x h h' → ∀ c o, c ≠ x → h.get? c = some o → h'.get? c = some o := fun g c o n e => g.extBut _ _ n e
  show wpAny _ _ (field (.ref z) 2 >>= _) _ _ _
  refine wpAny_bind (wpAny_field hz rfl (x := .bool false) rfl ?_)
  show wpAny _ _ (field (.ref z) 3 >>= _) _ _ _
  refine wpAny_bind (wpAny_field hz rfl (x := .ref TI) rfl (wpAny_bind (wpAny_seqItems hTI rfl ?_)))
  show wpAny _ _ (Builtin.SmallTypes.ownedTupleIsFree (.ref z) >>= _) _ _ _
  unfold Builtin.SmallTypes.ownedTupleIsFree
  refine wpAny_bind (wpAny_bind (wpAny_field hz rfl (x := .none) rfl (wpAny_pure ?_)))
  simp only [if_true]
  refine wpAny_bind (wpAny_rule (wpAny_bind (wpAny_field hz rfl (x := .ref TO) rfl ?_)))
  refine wpAny_bind (wpAny_setField_rec hz (by simp) fun g1 y1 e1 => ?_)
  replace y1 : IsZip g1 z TI TO .ellipsis := y1
  refine wpAny_bind ?_
  simp only [List.zipIdx_cons, List.zipIdx_nil, List.forIn_cons, List.forIn_nil]
  refine wpAny_bind (wpAny_bind (wpAny_onRaise ?_))
  show wpAny _ _ (Builtin.SmallTypes.nextOf (.ref i1) >>= _) _ _ _
  have t1 : St1 n1 g1 := D1.frame _ _ _ s1 fun c hc o e => sb e1 c o (D.f1 c hc).1 e
  refine wpAny_bind (D1.done _ _ _ t1 fun g2 e e2 he => ?_)
  obtain ⟨oe, hoe, hce⟩ := he
  have y2 : IsZip g2 z TI TO .ellipsis := e2 _ _ D.i1z.symm y1
  have hez : e ≠ z := fun x => by subst x; rw [y2] at hoe; cases hoe; simp at hce
  exact wpAny_setField_rec y2 (by simp) fun g3 _ e3 => hE g3 e (fun c o c1 c3 x => sb e3 _ _ c1 (e2 _ _ c3 (sb e1 _ _ c1 x))) ⟨oe, sb e3 _ _ hez hoe, hce⟩
end
noncomputable abbrev zS1 (h : Heap) (x : Str) (t : Tok) : Heap := h.push { cls := .type (strIterType x), data := .fields #[.str x t, .int 0 0] }
noncomputable abbrev zS2 (h : Heap) (x : Str) (t : Tok) (l : Addr) : Heap := (zS1 h x t).push { cls := .type "list_iterator", data := .fields #[.ref l, .int 0 0] }
noncomputable abbrev zS3 (h : Heap) (x : Str) (t : Tok) (l : Addr) : Heap := (zS2 h x t l).push { cls := .type "tuple", data := .seq #[.ref h.objs.size, .ref (zS1 h x t).objs.size] }
noncomputable abbrev zS4 (h : Heap) (x : Str) (t : Tok) (l : Addr) : Heap := (zS3 h x t l).push { cls := .type "tuple", data := .seq #[.none, .none] }
noncomputable abbrev zS5 (h : Heap) (x : Str) (t : Tok) (l : Addr) : Heap := (zS4 h x t l).push { cls := .type "zip", data := .fields #[.none, .bool false, .bool false, .ref (zS2 h x t l).objs.size, .ref (zS3 h x t l).objs.size] }
theorem meets_zip_newTL (x : Str) (t : Tok) (l2 : Addr) (ys : Array Value) :
    Meets (Builtin.«zip.__new__» ⟨[.type "zip", .str x t, .ref l2], []⟩) (fun _ R s => s.heap.IsList l2 ys ∧ R (.ok (.ret (.ref (zS4 s.heap x t l2).objs.size))) { s with heap := zS5 s.heap x t l2 }) :=
  .of_wp fun prog w A R s h => by
    obtain ⟨hp, g, d, tk, os⟩ := s; obtain ⟨hl2, h⟩ := h
    have hsub := sub_zip
    have hL2 : Heap.IsList (Shared.heap ⟨hp.push { cls := .type (strIterType x), data := .fields #[.str x t, .int 0 0] }, g, d, tk, os⟩) l2 ys := Heap.IsList.push hl2 _
    wp_walk using wpAny_pyIter_strU, wpAny_pyIter_list hL2
    exact ⟨_, rfl, h⟩
theorem call_zipTL {prog : Program} {w : World} {A : Around} {E : Value → Shared → Prop} {s : Shared} {x : Str} {t : Tok} {l : Addr} {ys : Array Value} {Q : Value → Shared → Prop} (hl : s.heap.IsList l ys)
    (h : ∀ h', IsZip h' (s.heap.objs.size + 4) (s.heap.objs.size + 2) (s.heap.objs.size + 3) .none → IsPair h' (s.heap.objs.size + 2) (.ref s.heap.objs.size) (.ref (s.heap.objs.size + 1)) →
      IsPair h' (s.heap.objs.size + 3) .none .none → h'.IsStrIter s.heap.objs.size (strIterType x) x t 0 → h'.IsListIter (s.heap.objs.size + 1) l 0 →
      (∀ c o, s.heap.get? c = some o → h'.get? c = some o) → Q (.ref (s.heap.objs.size + 4)) { s with heap := h' }) :
    wpAny (model prog w) A (call (.type "zip") [.str x t, .ref l]) Q E s := by
  refine callType_new F.called_zip (by decide) (F.typeCall_zip_2 _ _) (F.newCall_zip_2 _ _) (fun obj => F.args_object_init_3 obj _ _) F.entry_zip_new (meets_zip_newTL x t l ys) ⟨hl, ?_⟩
  have a1 : (zS1 s.heap x t).objs.size = s.heap.objs.size + 1 := Heap.size_push ..
  have a2 : (zS2 s.heap x t l).objs.size = s.heap.objs.size + 2 := by rw [Heap.size_push, a1]
  have a3 : (zS3 s.heap x t l).objs.size = s.heap.objs.size + 3 := by rw [Heap.size_push, a2]
  have a4 : (zS4 s.heap x t l).objs.size = s.heap.objs.size + 4 := by rw [Heap.size_push, a3]
  have pu : ∀ {g : Heap} {o u : Obj} {c : Addr}, g.get? c = some u → (g.push o).get? c = some u := fun e => Heap.get?_push_of_some _ e
  have g5 : (zS5 s.heap x t l).get? (zS4 s.heap x t l).objs.size = some _ := Heap.get?_push_size _ rfl
  have g4 : (zS5 s.heap x t l).get? (zS3 s.heap x t l).objs.size = some _ := pu (Heap.get?_push_size _ rfl)
  have g3 : (zS5 s.heap x t l).get? (zS2 s.heap x t l).objs.size = some _ := pu (pu (Heap.get?_push_size _ rfl))
  have g2 : (zS5 s.heap x t l).get? (zS1 s.heap x t).objs.size = some _ := pu (pu (pu (Heap.get?_push_size _ rfl)))
  have g1 : (zS5 s.heap x t l).get? s.heap.objs.size = some _ := pu (pu (pu (pu (Heap.get?_push_size _ rfl))))
  show _ ∧ _
  rw [a2, a3, a4] at g5
  rw [a1, a2] at g3
  rw [a3] at g4
  rw [a1] at g2
  rw [a4]
  exact ⟨⟨_, g5, rfl⟩, h _ g5 g3 g4 ⟨_, g1, rfl, rfl⟩ ⟨_, g2, rfl, rfl⟩ fun c o e => pu (pu (pu (pu (pu e))))⟩
noncomputable def ItzS (K : PySem.W.Frag) (x : Str) (b : Addr) : It :=
  ⟨fun i H => i < x.cps.size ∧ ∃ ys y, SqL K H b ys ∧ ys[i]? = some y,
   fun i H v H' => ∃ T y, H T = none ∧ v = .ref T ∧ (∀ ys, SqL K H b ys → ys[i]? = some y) ∧ H' = upd H T (.tup [.str ⟨#[x.cps.getD i 0]⟩, y]),
   fun i _ => i = x.cps.size⟩
theorem turn_zipTL {P : Program} {w : World} {K : PySem.W.Frag} {elts : List Expr} {k : Nat} {pos : Pos} {z TI TO i1 i2 b : Addr} {x : Str} {t : Tok} {ty : String} (D : ZApart z TI TO i1 i2 [i1] [i2, b]) (hb2 : b ≠ i2)
    (Dr : ∀ A : Around, A.handled = none → Draws P w A i1 [i1] x.cps.size (fun i v => ∃ c u, x.cps[i]? = some c ∧ v = .str ⟨#[c]⟩ u) (fun i h => h.IsStrIter i1 ty x t i)) :
    Turn P w K (.Tuple elts k pos) (ItzS K x b) [z, TI, TO, i1, i2] z (fun i h => IsZip h z TI TO .none ∧ IsPair h TI (.ref i1) (.ref i2) ∧ (∃ c d, IsPair h TO c d) ∧ h.IsStrIter i1 ty x t i ∧ h.IsListIter i2 b i) where
  mem := by simp
  obj := fun i h st c hc => by
    obtain ⟨hz, hTI, ⟨_, _, hTO⟩, ⟨o1, e1, _, d1⟩, ⟨o2, e2, _, d2⟩⟩ := st
    simp only [List.mem_cons, List.mem_nil_iff, or_false] at hc
    rcases hc with rfl | rfl | rfl | rfl | rfl
    · exact ⟨_, hz, nofun⟩
    · exact ⟨_, hTI, nofun⟩
    · exact ⟨_, hTO, nofun⟩
    · exact ⟨_, e1, fun v z => by rw [d1] at z; cases z⟩
    · exact ⟨_, e2, fun v z => by rw [d2] at z; cases z⟩
  keep := fun i h h' st kk => by
    obtain ⟨hz, hTI, ⟨_, _, hTO⟩, ⟨o1, e1, r1⟩, h2⟩ := st
    exact ⟨kk z (by simp) _ hz, kk TI (by simp) _ hTI, ⟨_, _, kk TO (by simp) _ hTO⟩, ⟨o1, kk i1 (by simp) _ e1, r1⟩, h2.at fun o e => kk i2 (by simp) o e⟩
  item := by
    intro X hP hw hK hc i pins s σ H E I hf st hg
    subst hP hw hK
    obtain ⟨hz, hTI, ⟨c, d, hTO⟩, h1, h2⟩ := st
    obtain ⟨hlt, ys, y, hq, hy⟩ := hg
    obtain ⟨its, rv, p, _⟩ := I.list hq
    obtain ⟨u, hu, ru⟩ := rv.get hy
    have hlt2 : i < its.toArray.size := by
      have := (List.getElem?_eq_some_iff.mp hu).1
      simpa using this
    have hT : s.TypeIs (.ref z) "zip" := ⟨_, hz, rfl⟩
    have hh : X.A.in1.handled = none := I.ok.hd hc
    unfold pyNext
    refine wpAny_bind (wpAny_attempt (wpAny_callSpecial?_slot (name := Str.ofString "__next__") hT F.slot_zip_next (wpAny_call_entry F.slot_zip_next hT F.entry_zip_next
      (zipD_item (Dr X.A.in1 hh) (Draws.list hh i2 b hb2 its.toArray) D hz hTI hTO h1 ⟨h2, p.isList⟩ hlt hlt2 fun a1 a2 h' tk px py b1 b2 b3 b4 b5 hk => wpAny_pure ?_) (F.args_zip_next_1 _))))
    obtain ⟨ch, tu, hch, rfl⟩ := px
    have eu : a2 = u := by
      have h2 : its[i]? = some a2 := by simpa using py
      rw [hu] at h2
      exact (Option.some.inj h2).symm
    subst eu
    refine ⟨_, rfl, wpAny_letOwnedTupleGo_zip b1 fun h'' b1' sb => ?_⟩
    have lt : ∀ {c o}, s.heap.get? c = some o → s.heap.objs.size ≠ c := fun e => Nat.ne_of_gt (Heap.lt_size e)
    have isT : h''.IsTuple s.heap.objs.size #[.str ⟨#[ch]⟩ tu, a2] := ⟨_, sb.extBut _ _ (lt hz) b5, rfl, _, rfl⟩
    have kall : ∀ b o, b ∉ [z, TI, TO, i1, i2] → s.heap.get? b = some o → h''.get? b = some o := fun b o hb e => by
      simp only [List.mem_cons, List.mem_nil_iff, or_false, not_or] at hb
      exact sb.extBut _ _ hb.1 (hk b o hb.1 hb.2.2.1 hb.2.2.2.1 hb.2.2.2.2 e)
    have hTn : H s.heap.objs.size = none := I.hok.fresh (Nat.le_refl _)
    have ech : x.cps.getD i 0 = ch := by simp [Array.getD_eq_getD_getElem?, hch]
    refine ⟨.ref s.heap.objs.size, _, I.newtup (tk := tk) hf (Nat.le_refl _) kall isT (xs := [.str ⟨#[x.cps.getD i 0]⟩, y]) (.cons ⟨tu, by rw [ech]⟩ (.cons ru .nil)) (by simp; decide), rfl, ⟨_, y, hTn, rfl, fun zs hs => by rw [I.list_inj hs hq]; exact hy, rfl⟩, ?_, fun b hb => ?_⟩
    · obtain ⟨o1, e1, r1⟩ := b3
      exact ⟨b1', sb.extBut _ _ D.TIz (hk _ _ D.TIz D.TITO D.TIi1 D.TIi2 hTI), ⟨_, _, sb.extBut _ _ D.TOz b2⟩, ⟨o1, sb.extBut _ _ D.i1z e1, r1⟩, b4.1.extBut sb.extBut D.i2z⟩
    · have : s.heap.objs.size ≠ b := by
        simp only [List.mem_cons, List.mem_nil_iff, or_false] at hb
        rcases hb with rfl | rfl | rfl | rfl | rfl
        · exact lt hz
        · exact lt hTI
        · exact lt hTO
        · obtain ⟨o, e, _⟩ := h1; exact lt e
        · obtain ⟨o, e, _⟩ := h2; exact lt e
      rw [upd_ne (Ne.symm this)]
      exact (hf b hb).1
  done := by
    intro X hP hw hK hc i pins s σ H E I hf st hg
    subst hP hw hK
    obtain ⟨hz, hTI, ⟨c, d, hTO⟩, h1, h2⟩ := st
    have hin : i = x.cps.size := hg
    subst hin
    have hT : s.TypeIs (.ref z) "zip" := ⟨_, hz, rfl⟩
    have hh : X.A.in1.handled = none := I.ok.hd hc
    unfold pyNext
    refine wpAny_bind (wpAny_attempt (wpAny_callSpecial?_slot (name := Str.ofString "__next__") hT F.slot_zip_next (wpAny_call_entry F.slot_zip_next hT F.entry_zip_next
      (zipD_end (Dr X.A.in1 hh) D hz hTI h1 fun h' e hk he => ?_) (F.args_zip_next_1 _))))
    obtain ⟨o, ho, hcl⟩ := he
    refine wpAny_bind (wpAny_isInstance (T := "StopIteration") (b := true) ⟨o, ho, hcl⟩ isSubtype_stop ?_)
    refine wpAny_pure ⟨rfl, I.only (tk := s.toks) hf fun b o hb e => ?_⟩
    simp only [List.mem_cons, List.mem_nil_iff, or_false, not_or] at hb
    exact hk b o hb.1 hb.2.2.2.1 e
  self := fun _ _ _ _ _ st h => wpAny_pyIter_zip st.1 h
end L2

namespace L2
open PySem PySem.Spec PyProof.Rows
open PySem.Sem (wp)
noncomputable def iZipTL (K : PySem.W.Frag) (ta : TA) : TI := fun σ H R => ta σ H fun vs H1 => ∃ x b ys, vs = [.str x, .ref b] ∧ SqL K H1 b ys ∧ R (ItzS K x b) H1
theorem ji_zipTL {X : Cx} {K : PySem.W.Frag} {a b : Expr} {ta : TA} {elts : List Expr} {k : Nat} {tp p pos : Pos} (hc : X.calm = true) (hK : X.K = K) (hg : Gl X "zip") (hm : X.mg "zip" = none) (ha : JA X [a, b] ta) (h : autoParam (notStar a = true) L2.auto4._auto_1) (h2 : autoParam (notStar b = true) L2.auto4._auto_1) :
    JI X (.Tuple elts k tp) (.Call (.Name "zip" p) [a, b] [] pos) (iZipTL K ta) := ⟨by
  subst hK
  intro pins s σ H R I hq
  refine Call_ (ld_blt I hg hm bt_zip (PyProof.Rows.callWith_type1 (thn (ha.run pos pins s σ H _ I hq) fun us s1 qq0 => ?_) (se_cons h) (by rw [se_cons h2]; rfl)))
  obtain ⟨vs, H1, I1, r1, q1⟩ := qq0
  obtain ⟨x, l, ys, e, hl, q⟩ := q1
  subst e
  obtain ⟨u, u2, rfl, e1, e2⟩ : ∃ u u2, us = [u, u2] ∧ RelV (.str x) u ∧ RelV (.ref l) u2 := by
    cases r1 with
    | cons x r => cases r with
      | cons y r => cases r with
        | nil => exact ⟨_, _, rfl, x, y⟩
  obtain ⟨t, rfl⟩ := e1
  cases e2
  obtain ⟨its, rv, p1, _⟩ := I1.list hl
  have lt1 : l < s1.heap.objs.size := by obtain ⟨o, ho, _⟩ := p1.isList; exact Heap.lt_size ho
  refine call_zipTL p1.isList fun h' z1 z2 z3 z4 z5 hk => ?_
  have J1 : Inv X pins σ H1 { s1 with heap := h' } := I1.kept (t' := s1.toks) hk
  have D : ZApart (s1.heap.objs.size + 4) (s1.heap.objs.size + 2) (s1.heap.objs.size + 3) s1.heap.objs.size (s1.heap.objs.size + 1) [s1.heap.objs.size] [s1.heap.objs.size + 1, l] := by
    have key : ∀ n b : Nat, b < n → ZApart (n + 4) (n + 2) (n + 3) n (n + 1) [n] [n + 1, b] := fun n b h2 => by
      have k1 : ∀ c : Nat, c = n → c ≠ n + 4 ∧ c ≠ n + 3 ∧ c ≠ n + 1 := fun c hc => by omega
      have k2 : ∀ c : Nat, (c = n + 1 ∨ c = b) → c ≠ n + 4 ∧ c ≠ n + 3 ∧ c ≠ n := fun c hc => by omega
      refine ⟨?_, ?_, ?_, ?_, ?_, ?_, ?_, ?_, ?_, ?_, fun c hc => k1 c (List.mem_singleton.mp hc), fun c hc => k2 c (by simpa only [List.mem_cons, List.mem_nil_iff, or_false] using hc)⟩
      all_goals (show (_ : Nat) ≠ _; omega)
    exact key _ _ lt1
  have nb : l ≠ s1.heap.objs.size + 1 := Nat.ne_of_lt (Nat.lt_succ_of_lt lt1)
  refine wpAny_pyIter_zip z1 ?_
  have fpk : ∀ b ∈ [s1.heap.objs.size + 4, s1.heap.objs.size + 2, s1.heap.objs.size + 3, s1.heap.objs.size, s1.heap.objs.size + 1], s1.heap.objs.size ≤ b := by
    intro b hb
    simp only [List.mem_cons, List.mem_nil_iff, or_false] at hb
    have key : ∀ n c : Nat, (c = n + 4 ∨ c = n + 2 ∨ c = n + 3 ∨ c = n ∨ c = n + 1) → n ≤ c := fun n c h => by omega
    exact key _ _ hb
  cases hx : x.cps.all (· < 128)
  · exact ⟨s1.heap.objs.size + 4, _, _, _, H1, rfl, J1, turn_zipTL (ty := "str_iterator") (x := x) (t := t) D nb (fun A hA => Draws.strWide hA _ x t), ⟨z1, z2, ⟨_, _, z3⟩, by simpa [strIterType, hx] using z4, z5⟩, fun b hb => I1.fpOk (fpk b hb) (I1.hok.fresh (fpk b hb)), q⟩
  · exact ⟨s1.heap.objs.size + 4, _, _, _, H1, rfl, J1, turn_zipTL (ty := "str_ascii_iterator") (x := x) (t := t) D nb (fun A hA => Draws.strAscii hA _ x t), ⟨z1, z2, ⟨_, _, z3⟩, by simpa [strIterType, hx] using z4, z5⟩, fun b hb => I1.fpOk (fpk b hb) (I1.hok.fresh (fpk b hb)), q⟩⟩
section
variable {σ : St} {H : Hp} {K : PySem.W.Frag}
theorem r_zipTL {a : TA} {R : It → Hp → Prop} (h : a σ H fun vs H1 => ∃ x b ys, vs = [.str x, .ref b] ∧ SqL K H1 b ys ∧ R (ItzS K x b) H1) : iZipTL K a σ H R := h
theorem for_zipTL {x : Str} {b : Addr} {ys : List V} {g : TG} {tb : TS} {D : Ends} (Pv : Nat → St → Hp → Prop) (hl : x.cps.size = ys.length) (h0 : Pv 0 σ H) (hq : ∀ i σ H, i ≤ ys.length → Pv i σ H → SqL K H b ys)
    (hs : ∀ i σ H T y, ys[i]? = some y → Pv i σ H → H T = none → g (.ref T) σ (upd H T (.tup [.str ⟨#[x.cps.getD i 0]⟩, y])) fun σ2 H2 => tb { D with nx := Pv (i + 1), ct := Pv (i + 1), bk := D.nx } σ2 H2) (hd : ∀ σ H, Pv ys.length σ H → D.nx σ H) :
    ∃ W : Nat → Nat → St → Hp → Prop, (∃ m, W 0 m σ H) ∧ ∀ i m σ H, W i m σ H →
      ((ItzS K x b).stop i H ∧ D.nx σ H) ∨ ((ItzS K x b).go i H ∧ ∃ N : St → Hp → Prop, (∀ σ' H', N σ' H' → ∃ m', m' < m ∧ W (i + 1) m' σ' H') ∧ ∀ z H', (ItzS K x b).yld i H z H' → g z σ H' fun σ2 H2 => tb { D with nx := N, ct := N, bk := D.nx } σ2 H2) := by
  refine ⟨fun i m σ H => m = ys.length - i ∧ i ≤ ys.length ∧ Pv i σ H, ⟨ys.length, by simp, Nat.zero_le _, h0⟩, ?_⟩
  rintro i m σ H ⟨rfl, hi, p⟩
  have q1 := hq i σ H hi p
  by_cases hlt : i < ys.length
  · refine .inr ⟨⟨by omega, ys, ys[i], q1, List.getElem?_eq_getElem hlt⟩, Pv (i + 1), fun σ' H' p' => ⟨ys.length - (i + 1), by omega, rfl, hlt, p'⟩, fun z H' y => ?_⟩
    obtain ⟨T, u, hT, e1, e2, e4⟩ := y
    subst e1 e4
    exact hs i σ H T u (e2 ys q1) p hT
  · have e : i = ys.length := by omega
    subst e
    exact .inl ⟨hl.symm, hd σ H p⟩
end
end L2

namespace L2
open PySem PySem.Spec PyProof.Rows
open PySem.Sem (wp)
open AutoSeq1 (wpAny_loadPart')
section
variable {X : Cx}
end
section
variable {H : Hp} {Q : VK} {K : PySem.W.Frag}
end
end L2

namespace L2
open PySem PySem.W PySem.Spec PyProof.Rows
section
variable {g : Nat → Int} {N : Nat}
end
end L2

namespace L2
open PySem PySem.W PySem.Spec PyProof.Rows
section
variable {prog : Program} {w : World} {A : Around} {E : Value → Shared → Prop} {s : Shared}
noncomputable def But (a : Addr) (h h' : Heap) : Prop := ∀ b o, b ≠ a → h.get? b = some o → h'.get? b = some o
theorem but_three {h : Heap} {a : Addr} {f : Obj → Obj} {x y : Obj} : But a h (((h.update a f).push x).push y) := fun b o nb e => by
  have e1 : (h.update a f).get? b = some o := by rw [Heap.get?_update_ne _ _ _ _ nb]; exact e
  exact Heap.get?_push_of_some _ (Heap.get?_push_of_some _ e1)
theorem zip_snd (vs : List Value) : (vs.toArray.zip vs.toArray).map (·.2) = vs.toArray := by
  apply Array.toList_inj.mp
  simp only [Array.toList_map, Array.toList_zip]
  exact List.map_snd_zip (Nat.le_refl _)
end
end L2

namespace L2
open PySem PySem.W PySem.Spec PyProof.Rows
section
variable {prog : Program} {w : World} {A : Around} {E : Value → Shared → Prop} {s : Shared}
end
section
variable {X : Cx}
end
section
variable {H : Hp} {Q : VK}
end
end L2

namespace L2
open PySem PySem.Spec PyProof.Rows
open PySem.Sem (wp)
section
variable {prog : Program} {w : World} {A : Around} {E : Value → Shared → Prop} {s : Shared} {z TI TO i1 i2 : Addr} {fp1 fp2 : List Addr} {n1 n2 k1 k2 : Nat} {P1 P2 : Nat → Value → Prop} {St1 St2 : Nat → Heap → Prop} {a b f0 f1 : Value}
end
end L2

namespace L2
open PySem PySem.Spec PyProof.Rows
open PySem.Sem (wp)
open PySem.AutoSeq1 (wpAny_loadPart')
section
variable {prog : Program} {w : World} {A : Around} {E : Value → Shared → Prop} {s : Shared} {z TI TO i1 i2 e : Addr} {fp1 fp2 : List Addr} {n1 n2 k1 k2 : Nat} {P1 P2 : Nat → Value → Prop} {St1 St2 : Nat → Heap → Prop} {a b f0 f1 : Value}
end
structure EApart (e z TI TO i1 i2 a b : Addr) : Prop where
  Z : ZApart z TI TO i1 i2 [i1, a] [i2, b]
  ez : e ≠ z
  eTI : e ≠ TI
  eTO : e ≠ TO
  ei1 : e ≠ i1
  ei2 : e ≠ i2
  a1 : a ≠ i1
  b2 : b ≠ i2
end L2

namespace L2
open PySem PySem.Spec PyProof.Rows
open PySem.Sem (wp)
open PySem.AutoSeq1 (wpAny_loadPart')
section
variable {σ : St} {H : Hp} {K : PySem.W.Frag}
end
end L2

namespace L2
open PySem PySem.Spec PyProof.Rows
open PySem.Sem (wp)
section
variable {prog : Program} {w : World} {A : Around} {E : Value → Shared → Prop} {s : Shared}
end
structure TurnU (P : Program) (w : World) (K : PySem.W.Frag) (tg : Expr) (J : It) (fp : List Addr) (it : Addr) (tn : Nat → Heap → Prop) (xh : Addr) : Prop where
  mem : it ∈ fp
  obj : ∀ i h, tn i h → ∀ b ∈ fp, ∃ o, h.get? b = some o ∧ ∀ v, o.data ≠ .cell v
  keep : ∀ i h h', tn i h → (∀ b ∈ fp, ∀ o, h.get? b = some o → h'.get? b = some o) → tn i h'
  item : ∀ (X : Cx), X.prog = P → X.w = w → X.K = K → X.A.handled = some (.ref xh) → ∀ (i : Nat) (pins : List (Addr × Obj)) (s : Shared) (σ : St) (H : Hp) (E : Value → Shared → Prop), Inv X pins σ H s → (∀ b ∈ fp, FpOk X pins H b) → tn i s.heap → J.go i H →
    wpAny (model P w) X.A (pyNext (.ref it)) (fun r s1 => ∃ u, r = some u ∧
      wpAny (model P w) X.A (letOwnedTupleGo tg (.ref it) u) (fun _ s2 => ∃ x H', Inv X pins σ H' s2 ∧ RelV x u ∧ J.yld i H x H' ∧ tn (i + 1) s2.heap ∧ ∀ b ∈ fp, H' b = none) E s1) E s
  done : ∀ (X : Cx), X.prog = P → X.w = w → X.K = K → X.A.handled = some (.ref xh) → ∀ (i : Nat) (pins : List (Addr × Obj)) (s : Shared) (σ : St) (H : Hp) (E : Value → Shared → Prop), Inv X pins σ H s → (∀ b ∈ fp, FpOk X pins H b) → tn i s.heap → J.stop i H →
    wpAny (model P w) X.A (pyNext (.ref it)) (fun r s1 => r = none ∧ Inv X pins σ H s1) E s
  self : ∀ (A : Around) (i : Nat) (s : Shared) (Q : Value → Shared → Prop) (E : Value → Shared → Prop), tn i s.heap → Q (.ref it) s → wpAny (model P w) A (pyIter (.ref it)) Q E s
section
variable {X : Cx} {tg iter elt : Expr} {ifs : List Expr} {scope : Scope} {pos : Pos} {N' : List Str} {sub : List (Option Nat)} {wi : TI} {g : TG} {tt : TT} {te : TE}
end
structure FnV (P : Program) (w : World) (K : PySem.W.Frag) (mg : Str → Option Value) (base : Heap) (k : Nat) (f : Addr) (fd : FuncData) (ps : List Str) (sp : Addr → Sp) : Prop where
  len : ∀ xh vs H Q E, sp xh vs H Q E → vs.length = ps.length
  run : ∀ (A : Around) (outer : List Env) (s : Shared) (H : Hp) (args : Args) (us : List Value) (vs : List V) (Q : VK) (E : XK) (xh : Addr), A.handled = some (.ref xh) → RoomU k A → Env0 P w K mg base A outer s H → BindsTo s fd args (ps.zip us) → Vals vs us → sp xh vs H Q E →
    codeAny (model P w) A (.call (.ref f) args) (CR CX0 outer P w H s Q E) s
end L2

namespace L2
open PySem PySem.Spec PyProof.Rows
section
variable {X : Cx} {nm n : Str} {P : Addr} {i : Nat} {p pos : Pos} {b0 : Stmt} {suite : List Stmt} {ts : Addr → TS} {th : TH} {hs : List ExceptHandler}
variable {K : PySem.W.Frag} {x : Str}
end
end L2

namespace L2
open PySem PySem.Spec PyProof.Rows
section
variable {K : PySem.W.Frag} {σ : St} {H : Hp}
end
section
variable {X : Cx}
end
section
variable {K : PySem.W.Frag} {H : Hp} {Q : VK}
end
end L2

namespace L2
open PySem PySem.Spec PyProof.Rows
structure OTxt (K : PySem.W.Frag) (mg : Str → Option Value) (x : Str) : Prop where
  at_ : mg x = some (.ref (clsA mg x))
  cl : Cls K (clsA mg x)
  makes : PySem.W.makesIn K (clsA mg x) = true
  kp : PySem.W.keepIn K (.ref (clsA mg x)) = true
noncomputable def clsIn (K : PySem.W.Frag) (C : Addr) : Bool := PySem.W.plainGet K C Str.empty && PySem.W.hasDictIn K C && PySem.W.plainOver K C
theorem ot_mk {K : PySem.W.Frag} {mg : Str → Option Value} {h : Heap} (X : K.In h) (G : h.Ns mainGlobals mg) {x : Str} {C : Addr} (a : PySem.W.nsIn K mainGlobals x = some (some (.ref C))) (b : clsIn K C = true)
    (s : PySem.W.findIn K (.ref C) "__setattr__" = some (some (.builtin "object.__setattr__"))) (m : PySem.W.makesIn K C = true) (k : PySem.W.keepIn K (.ref C) = true) : OTxt K mg x := by
  have e0 := PySem.W.mg_of X G a
  have e := clsA_of e0
  unfold clsIn at b
  simp only [Bool.and_eq_true] at b
  exact ⟨by rw [e]; exact e0, by rw [e]; exact ⟨b.1.1, b.1.2, b.2, s⟩, by rw [e]; exact m, by rw [e]; exact k⟩
structure MTxt (K : PySem.W.Frag) (mg : Str → Option Value) (x m qual : Str) (st : Stmt) : Prop where
  ex : ∃ f fd, Meth K (clsA mg x) m f ∧ Fun K m qual st f fd
theorem mt_mk {K : PySem.W.Frag} {mg : Str → Option Value} {h : Heap} (X : K.In h) (G : h.Ns mainGlobals mg) {x m qual : Str} {C f : Addr} {st : Stmt} {oc : Value} {od an : Option Addr} {osl : Array (Option Value)} {kV doc pm cdv ct : Value}
    (a : PySem.W.nsIn K mainGlobals x = some (some (.ref C))) (i : PySem.W.findIn K (.ref C) m = some (some (.ref f))) (n : PySem.W.isFn K (.ref f) = true)
    (l : K.lookup f = some ⟨oc, od, .func (PySem.W.fnOf m qual (defArgs st) (defBody st) (defScope st) .none kV doc pm an cdv ct), osl⟩) (c : PySem.W.codeIn K cdv qual = true) (k : PySem.W.keepIn K (.ref f) = true) : MTxt K mg x m qual st := by
  have e := clsA_of (PySem.W.mg_of X G a)
  exact ⟨f, _, by rw [e]; exact ⟨i, n, k⟩, fun_mk l c k⟩
theorem na_mk {K : PySem.W.Frag} {mg : Str → Option Value} {h : Heap} (X : K.In h) (G : h.Ns mainGlobals mg) {x : Str} {C : Addr} {fl : List Str} (a : PySem.W.nsIn K mainGlobals x = some (some (.ref C))) (b : noneOf K C fl = true) : ∀ f ∈ fl, NoAttr K (clsA mg x) f := fun n hn => by
  rw [clsA_of (PySem.W.mg_of X G a)]
  have := List.all_eq_true.mp b n hn
  first | exact of_decide_eq_true this | exact beq_iff_eq.mp this | simpa using this
noncomputable def memOf (j : Nat) : Stmt → Stmt
  | .ClassDef _ _ _ ss _ _ _ _ _ _ _ => ss.getD j (.Pass ⟨0, 0, 0, 0⟩)
  | s => s
noncomputable def HasM (P : Program) (w : World) (K : PySem.W.Frag) (mg : Str → Option Value) (base : Heap) (k : Nat) (x m : Str) (ps : List Str) (sp : Sp) : Prop :=
  ∃ f fd, Meth K (clsA mg x) m f ∧ Binds K fd ps [] ∧ FnOk P w K mg base (CX1 P w) k f fd ps sp
section
variable {P : Program} {w : World} {K : PySem.W.Frag} {mg : Str → Option Value} {base : Heap}
theorem hasM {x m qual : Str} {st : Stmt} {N ps : List Str} {k : Nat} {sp : Sp} (D : MTxt K mg x m qual st) (S : FnScope N ps (defScope st))
    (hb : ∀ (kV doc pm : Value) (an : Option Addr) (cdv ct : Value) (us : List Value), us.length = ps.length → bindArgs (PySem.W.fnOf m qual (defArgs st) (defBody st) (defScope st) .none kV doc pm an cdv ct) ⟨us, []⟩ = pure (ps.zip us))
    (len : ∀ vs H Q E, sp vs H Q E → vs.length = ps.length)
    (hbody : ∀ (f : Addr) (cdv : Value) (A : Around) (outer : List Env) (s : Shared) (H : Hp) (vs : List V) (Q : VK) (E : XK), Room k (A.deeper (envOfC qual (defScope st) s.heap.objs.size f cdv)) → sp vs H Q E →
      ∃ t, JB (cxOf (CX1 P w) P w K mg base N qual (defScope st) f cdv A outer s H E) (defBody st) t ∧ t { nx := fun _ H' => Q .non H', rt := Q } (start N vs) H) : HasM P w K mg base (k + 1) x m ps sp := by
  obtain ⟨f, fd, hm, F⟩ := D.ex
  refine ⟨f, fd, hm, F.binds hb, ?_⟩
  obtain ⟨oc, od, kV, doc, pm, an, cdv, ct, osl, rfl, lk, hcd⟩ := F.ex
  exact fn_of lk hcd S len fun A outer s H vs Q E hr h => let ⟨t, j, q⟩ := hbody f cdv A outer s H vs Q E hr h; ⟨t, j.run, q⟩
end
noncomputable def tMethX (C : Addr) (m : Str) (sp : Sp) (R : St → XK) (ta : TE) (t : TA) : TE := fun σ H Q => ta σ H fun x H1 => ∃ a dx fs, x = .ref a ∧ H1 a = some (.ins C dx fs) ∧ fs.lookup m = none ∧ t σ H1 fun vs H2 => sp (x :: vs) H2 Q (R σ)
noncomputable def tMakeX (C : Addr) (sp : Sp) (R : St → XK) (t : TA) : TE := fun σ H Q => t σ H fun vs H1 => ∀ x dx, H1 x = none → H1 dx = none → dx ≠ x →
  sp (.ref x :: vs) (upd (upd H1 dx (.own x)) x (.ins C dx [])) (fun v H2 => v = .non ∧ Q (.ref x) H2) (R σ)
section
variable {X : Cx} {K : PySem.W.Frag} {k : Nat} {f C : Addr} {ps : List Str} {sp : Sp} {R : St → XK} {x m fn : Str} {p pos apos pos' : Pos} {e o value : Expr} {es : List Expr} {ta tv : TE} {t : TA} {pins : List (Addr × Obj)} {σ : St} {H : Hp} {s : Shared} {Q : VK} {us : List Value} {vs : List V}
theorem j_methX0 {pl : Sem Bool} (he : JE X o ta) (c : OTxt X.K X.mg x) (F : HasM X.prog X.w X.K X.mg X.base k x m ps sp) (hr : Room k X.A) (hx : PassX X R)
    (ht : eval (.Call (.Attribute o m apos) [] [] pos) X.env = (do
      let ov ← eval o X.env
      standAt apos.atName
      let (f, first) ← holding [ov] (getMethod ov m pl)
      callWith pos f first (backTo pos (starEach [] X.env)) (backToKw pos (keywordEach [] X.env))) := by rfl) :
    JE X (.Call (.Attribute o m apos) [] [] pos) (tMethX (clsA X.mg x) m sp R ta tNil) := ⟨by
  obtain ⟨f, fd, hm, hb, F⟩ := F
  intro pins s σ H Q I h
  refine PySem.W.methodCall_KW (pl := pl) (thn (he.run pins s σ H _ I h) fun u s1 qq0 => ?_) ht
  obtain ⟨x, H1, I1, rx, a, dx, fs, ex, ea, l, q⟩ := qq0
  subst ex
  obtain rfl : u = Value.ref a := rx
  refine getmeth_ok I1 ea c.cl hm l ?_
  exact PySem.W.callWith_K0 (first := [.ref a]) I1.kIn hm.kp (run_fnX (us := [.ref a]) (vs := [.ref a]) F hr hb hx I1 (.cons rfl .nil) q)⟩
theorem run_makeX (c : OTxt X.K X.mg x) (F : HasM X.prog X.w X.K X.mg X.base k x "__init__" ps sp) (hr : Room (k + 1) X.A) (hx : PassX X R) (I : Inv X pins σ H s) (r : Vals vs us)
    (h : ∀ y dx, H y = none → H dx = none → dx ≠ y → sp (.ref y :: vs) (upd (upd H dx (.own y)) y (.ins (clsA X.mg x) dx [])) (fun v H2 => v = .non ∧ Q (.ref y) H2) (R σ)) :
    wpAny (model X.prog X.w) X.A (call (.ref (clsA X.mg x)) us) (EP X pins σ Q) X.xe s := by
  obtain ⟨f, fd, hm, hb, F⟩ := F
  have hq := h (s.heap.objs.size + 1) s.heap.objs.size (I.hok.fresh (Nat.le_succ _)) (I.hok.fresh (Nat.le_refl _)) (Nat.ne_of_lt (Nat.lt_succ_self _))
  have I2 := Inv.made (C := clsA X.mg x) I
  have r2 : Vals (V.ref (s.heap.objs.size + 1) :: vs) (Value.ref (s.heap.objs.size + 1) :: us) := .cons rfl r
  have hl : ((Value.ref (s.heap.objs.size + 1) :: us) ++ []).length = ps.length := by
    have e := r2.length
    rw [F.len _ _ _ _ hq] at e
    rw [List.append_nil]
    exact e.symm
  have bd := hb _ (Value.ref (s.heap.objs.size + 1) :: us) I2.kIn hl
  rw [List.append_nil] at bd
  refine wpAny_call (make_map (f := f) I.kIn c.makes hm.at_ (beq_iff_eq.mp hm.fn) (codeAny_mono (F.run _ X.stack _ _ ⟨Value.ref (s.heap.objs.size + 1) :: us, []⟩ (Value.ref (s.heap.objs.size + 1) :: us) _ _ (R σ) (hr.make (clsA X.mg x) us [])
    (I2.env0.make (clsA X.mg x) us []) bd r2 hq) fun r s' hq' => ?_))
  cases r with
  | error e => exact hx pins e s' (xe_call I2 hq')
  | ok fl =>
    cases fl with
    | ret u =>
      obtain ⟨v, H', I3, rv, ev, q3⟩ := I2.after hq'
      subst ev
      exact ⟨rv, ⟨V.ref (s.heap.objs.size + 1), H', I3, rfl, q3⟩⟩
    | next => exact False.elim hq'
    | brk => exact False.elim hq'
    | cont => exact False.elim hq'
theorem j_makeX (c : OTxt X.K X.mg x) (F : HasM X.prog X.w X.K X.mg X.base k x "__init__" ps sp) (hr : Room (k + 1) X.A) (hg : Gl X x) (hx : PassX X R) (ha : JA X (e :: es) t) (hdb : (x == ("__debug__" : Str)) = false) (h : autoParam ((e :: es).all notStar = true) L2.auto4._auto_1) :
    JE X (.Call (.Name x p) (e :: es) [] pos) (tMakeX (clsA X.mg x) sp R t) := ⟨by
  have h1 : notStar e = true := by simp only [List.all_cons, Bool.and_eq_true] at h; exact h.1
  have h2 : es.all notStar = true := by simp only [List.all_cons, Bool.and_eq_true] at h; exact h.2
  intro pins s σ H Q I h
  refine wpAny_Call_Name_kw (ld_glob I hg c.at_ ?_ hdb)
  refine PySem.W.callWith_K (h₀ := X.base) I.ok.mod.kin c.kp (thn (ha.run pos pins s σ H _ I h) fun us s1 ⟨vs, H1, I1, r, q⟩ => ⟨I1.kIn, ?_⟩) (se_cons h1) (se_any h2)
  exact run_makeX c F hr hx I1 r q⟩
theorem j_fld (hK : X.K = K) (he : JE X e ta) (h : autoParam (notCall e = true) L2.auto4._auto_1) : JE X (.Attribute e fn pos) (tFld K ta fn) := by
  subst hK
  exact ⟨pe_fld he.run (by cases e <;> first | rfl | cases h)⟩
theorem js_fld (hK : X.K = K) (ha : JE X o ta) (hv : JE X value tv) (h : autoParam (notComp value = true) L2.auto4._auto_1) : JS X (.Assign [.Attribute o fn pos'] value pos) (sFld K ta tv fn) := by
  subst hK
  exact ⟨ps_fld ha.run hv.run (sw_no h)⟩
end
section
variable {σ : St} {H : Hp} {D : Ends} {Q : VK} {sp : Sp} {R : St → XK} {a : TA} {K : PySem.W.Frag} {C : Addr} {ta tv : TE} {f m : Str}
theorem r_methX (h : ta σ H fun x H1 => ∃ b dx fs, x = .ref b ∧ H1 b = some (.ins C dx fs) ∧ fs.lookup m = none ∧ a σ H1 fun vs H2 => sp (x :: vs) H2 Q (R σ)) : tMethX C m sp R ta a σ H Q := h
theorem r_makeX (h : a σ H fun vs H1 => ∀ x dx, H1 x = none → H1 dx = none → dx ≠ x → sp (.ref x :: vs) (upd (upd H1 dx (.own x)) x (.ins C dx [])) (fun v H2 => v = .non ∧ Q (.ref x) H2) (R σ)) : tMakeX C sp R a σ H Q := h
theorem r_fld (h : ta σ H fun x H1 => ∃ a C dx fs v, x = .ref a ∧ H1 a = some (.ins C dx fs) ∧ Cls K C ∧ NoAttr K C f ∧ fs.lookup f = some v ∧ Q v H1) : tFld K ta f σ H Q := h
theorem r_sfld (h : tv σ H fun y H1 => ta σ H1 fun x H2 => ∃ a C dx fs, x = .ref a ∧ H2 a = some (.ins C dx fs) ∧ Cls K C ∧ NoAttr K C f ∧ fs.length < 1000 ∧ D.nx σ (upd H2 a (.ins C dx (putF f y fs)))) : sFld K ta tv f D σ H := h
end
end L2

namespace L2
open PySem PySem.Spec PyProof.Rows
section
variable {X : Cx} {mg : Str → Option Value} {o : Expr} {ta : TE} {t : TA} {x m : Str} {ps : List Str} {sp : Sp} {k : Nat} {R : St → XK} {e : Expr} {es : List Expr} {pos apos : Pos}
end
end L2

namespace L2
open PySem PySem.Spec PyProof.Rows
section
variable {σ : St} {H : Hp} {Q : VK}
noncomputable def NewO (o : HO) (n : Nat) (H : Hp) (Q : VK) : Prop := n ≤ sizeLine ∧ ∀ p, H p = none → Q (.ref p) (upd H p o)
theorem r_lstG {a : TA} (h : a σ H fun xs H1 => NewO (.lst xs) xs.length H1 Q) : tLst a σ H Q := h
theorem r_newO {o : HO} {n : Nat} (c : Nat.ble n 64 = true) (h : ∀ p H', H p = none → Same H H' → H' p = some o → Q (.ref p) H') : NewO o n H Q :=
  ⟨Nat.le_trans (Nat.le_of_ble_eq_true c) (by decide), fun p np => h p _ np ((Same.refl H).upd np) upd_same⟩
end
end L2

namespace L2
open PySem PySem.Spec PyProof.Rows
section
variable {X : Cx}
end
end L2

namespace L2
open PySem PySem.Spec PyProof.Rows
section
variable {sub : List (Option Nat)} {g : TG} {tt : TT} {te : TE} {σ : St} {Q : VK} {H : Hp} {K : PySem.W.Frag} {a : Addr} {xs : List V} {lo : Int} {n : Nat} {z : Str}
theorem comp_rngG (Pv : Nat → List V → Hp → Prop) (hn : n ≤ sizeLine) (h0 : Pv 0 [] H) (hl : ∀ i ys H, Pv i ys H → ys.length ≤ i)
    (hs : ∀ i ys H, i < n → Pv i ys H → g (.int (lo + i)) (subSt sub σ) H fun σ2 H2 => KeepSt (subSt sub σ) σ2 ∧ tt σ2 H2 fun b H3 => if b = true then te σ2 H3 fun y H4 => Pv (i + 1) (ys ++ [y]) H4 else Pv (i + 1) ys H3)
    (hd : ∀ ys H D H', Pv n ys H → H D = none → Same H H' → H' D = some (.lst ys) → Q (.ref D) H') : CompR sub g tt te σ Q (Itr lo n) H :=
  comp_rng Pv hn h0 hl hs fun ys H p D nD => hd ys H D _ p nD ((Same.refl H).upd nD) upd_same
theorem comp_listG (Pv : Nat → List V → Hp → Prop) (hn : xs.length ≤ sizeLine) (h0 : Pv 0 [] H) (hl : ∀ i ys H, Pv i ys H → ys.length ≤ i) (hq : ∀ i ys H, Pv i ys H → SqL K H a xs)
    (hs : ∀ i ys H x, xs[i]? = some x → Pv i ys H → g x (subSt sub σ) H fun σ2 H2 => KeepSt (subSt sub σ) σ2 ∧ tt σ2 H2 fun b H3 => if b = true then te σ2 H3 fun y H4 => Pv (i + 1) (ys ++ [y]) H4 else Pv (i + 1) ys H3)
    (hd : ∀ ys H D H', Pv xs.length ys H → H D = none → Same H H' → H' D = some (.lst ys) → Q (.ref D) H') : CompR sub g tt te σ Q (Itl K a) H :=
  comp_list Pv hn h0 hl hq hs fun ys H p D nD => hd ys H D _ p nD ((Same.refl H).upd nD) upd_same
theorem mapNext {f : Nat → V} {i : Nat} {y : V} (h : y = f i) : (List.range i).map f ++ [y] = (List.range (i + 1)).map f := by rw [h, List.range_succ, List.map_append]; rfl
theorem comp_rngM (f : Nat → V) (hn : n ≤ sizeLine)
    (hs : ∀ i, i < n → g (.int (lo + i)) (subSt sub σ) H fun σ2 H2 => KeepSt (subSt sub σ) σ2 ∧ tt σ2 H2 fun b H3 => if b = true then te σ2 H3 fun y H4 => H4 = H ∧ (List.range i).map f ++ [y] = (List.range (i + 1)).map f else H3 = H ∧ (List.range i).map f = (List.range (i + 1)).map f)
    (hd : ∀ D H', H D = none → Same H H' → H' D = some (.lst ((List.range n).map f)) → Q (.ref D) H') : CompR sub g tt te σ Q (Itr lo n) H := by
  refine comp_rngG (fun i ys H' => H' = H ∧ ys = (List.range i).map f) hn ⟨rfl, rfl⟩ ?_ ?_ ?_
  · rintro i ys H' ⟨_, rfl⟩
    simp
  · rintro i ys H' hi ⟨rfl, rfl⟩
    exact hs i hi
  · rintro ys H1 D H' ⟨rfl, rfl⟩ nD s e
    exact hd D H' nD s e
theorem comp_listM (f : Nat → V) (hn : xs.length ≤ sizeLine) (hq : SqL K H a xs)
    (hs : ∀ i x, xs[i]? = some x → g x (subSt sub σ) H fun σ2 H2 => KeepSt (subSt sub σ) σ2 ∧ tt σ2 H2 fun b H3 => if b = true then te σ2 H3 fun y H4 => H4 = H ∧ (List.range i).map f ++ [y] = (List.range (i + 1)).map f else H3 = H ∧ (List.range i).map f = (List.range (i + 1)).map f)
    (hd : ∀ D H', H D = none → Same H H' → H' D = some (.lst ((List.range xs.length).map f)) → Q (.ref D) H') : CompR sub g tt te σ Q (Itl K a) H := by
  refine comp_listG (xs := xs) (fun i ys H' => H' = H ∧ ys = (List.range i).map f) hn ⟨rfl, rfl⟩ ?_ ?_ ?_ ?_
  · rintro i ys H' ⟨_, rfl⟩
    simp
  · rintro i ys H' ⟨rfl, _⟩
    exact hq
  · rintro i ys H' x hx ⟨rfl, rfl⟩
    exact hs i x hx
  · rintro ys H1 D H' ⟨rfl, rfl⟩ nD s e
    exact hd D H' nD s e
end
end L2

namespace L2
open PySem PySem.Spec PyProof.Rows
noncomputable def Kr (rk : Keyed → Int) (xs : Array Keyed) (i : Nat) : Int := match xs[i]? with
  | some p => rk p
  | none => 0
noncomputable def Seg (rk : Keyed → Int) (xs : Array Keyed) (lo hi : Nat) : Prop := ∀ i j, lo ≤ i → i ≤ j → j < hi → Kr rk xs i ≤ Kr rk xs j
noncomputable def SegD (rk : Keyed → Int) (xs : Array Keyed) (lo hi : Nat) : Prop := ∀ i j, lo ≤ i → i ≤ j → j < hi → Kr rk xs j ≤ Kr rk xs i
structure SB (a₀ : Array Keyed) (kd : SortKind) (st : SortSt) : Prop where
  perm : (arrOf st).Perm a₀
  kind : kindOf st = kd
  failed : failedOf st = none
noncomputable def LtOk (M : Model) (A : Around) (E : Value → Shared → Prop) (s : Shared) (kd : SortKind) (rk : Keyed → Int) (a₀ : Array Keyed) : Prop :=
  ∀ (p q : Keyed) (st : SortSt) (Q : Option Bool → SortSt → Prop), p ∈ a₀.toList → q ∈ a₀.toList → kindOf st = kd → Q (some (decide (rk p < rk q))) st → wpS M A E s (lt' p q) Q st
section
variable {M : Model} {A : Around} {E : Value → Shared → Prop} {s : Shared} {kd : SortKind} {rk : Keyed → Int} {a₀ : Array Keyed}
theorem Kr_congr {xs ys : Array Keyed} {i j : Nat} (h : xs[i]? = ys[j]?) : Kr rk xs i = Kr rk ys j := by unfold Kr; rw [h]
theorem Kr_at {xs : Array Keyed} {i : Nat} {p : Keyed} (h : xs[i]? = some p) : Kr rk xs i = rk p := by unfold Kr; rw [h]
theorem SB.size {st : SortSt} (h : SB a₀ kd st) : (arrOf st).size = a₀.size := h.perm.size_eq
theorem SB.mem {st : SortSt} (h : SB a₀ kd st) {p : Keyed} (hp : p ∈ (arrOf st).toList) : p ∈ a₀.toList := (Array.perm_iff_toList_perm.mp h.perm).mem_iff.mp hp
theorem SB.at {st : SortSt} (h : SB a₀ kd st) {i : Nat} (hi : i < a₀.size) : ∃ p, (arrOf st)[i]? = some p ∧ p ∈ a₀.toList := by
  have hi' : i < (arrOf st).size := by rw [h.size]; exact hi
  exact ⟨(arrOf st)[i], getElem?_pos _ i hi', h.mem (by simp)⟩
theorem wpS_elem {σ : Type} {xs : Array Keyed} {i : Nat} {p : Keyed} {Q : Keyed → SortSt → Prop} {st : SortSt} (h : xs[i]? = some p) (q : Q p st) : wpS M A E s (elem' xs i) Q st := by
  rw [elem'_eq, h]; exact wpS_pure q
theorem wpS_ltR {st : SortSt} {i j : Nat} {Q : Option Bool → SortSt → Prop} (L : LtOk M A E s kd rk a₀) (hB : SB a₀ kd st) (hi : i < a₀.size) (hj : j < a₀.size)
    (h : Q (some (decide (Kr rk (arrOf st) i < Kr rk (arrOf st) j))) st) : wpS M A E s (ltAt' i j) Q st := by
  obtain ⟨p, e1, m1⟩ := hB.at hi
  obtain ⟨q, e2, m2⟩ := hB.at hj
  rw [ltAt'_eq]
  refine wpS_bind (wpS_get ?_)
  refine wpS_bind (wpS_elem (σ := Unit) e1 (wpS_bind (wpS_elem (σ := Unit) e2 ?_)))
  rw [Kr_at e1, Kr_at e2] at h
  exact L p q st Q m1 m2 hB.kind h
theorem Kr_mirror {xs : Array Keyed} {i j : Nat} (hj : j ≤ xs.size) (k : Nat) : Kr rk (mirror xs i j ((j - i) / 2)) k = if i ≤ k ∧ k < j then Kr rk xs (i + j - 1 - k) else Kr rk xs k := by
  have e := getElem?_mirror_all (i := i) hj k
  by_cases h1 : i ≤ k ∧ k < j
  · rw [if_pos h1] at e ⊢; exact Kr_congr e
  · rw [if_neg h1] at e ⊢; exact Kr_congr e
theorem Kr_mirror_equal {xs : Array Keyed} {i j : Nat} (hj : j ≤ xs.size) (heq : ∀ k, i ≤ k → k < j → Kr rk xs k = Kr rk xs (j - 1)) (k : Nat) : Kr rk (mirror xs i j ((j - i) / 2)) k = Kr rk xs k := by
  rw [Kr_mirror hj]
  split
  · rw [heq _ (by omega) (by omega), heq k (by omega) (by omega)]
  · rfl
theorem Kr_bubble {xs : Array Keyed} {src d : Nat} (hs : src < xs.size) (hd : d ≤ src) (k : Nat) :
    Kr rk (bubble xs src d) k = if k = src - d then Kr rk xs src else if src - d < k ∧ k ≤ src then Kr rk xs (k - 1) else Kr rk xs k := by
  have e := getElem?_bubble hs d hd k
  by_cases h1 : k = src - d
  · rw [if_pos h1] at e ⊢; exact Kr_congr e
  · rw [if_neg h1] at e ⊢
    by_cases h2 : src - d < k ∧ k ≤ src
    · rw [if_pos h2] at e ⊢; exact Kr_congr e
    · rw [if_neg h2] at e ⊢; exact Kr_congr e
structure Nx (a₀ : Array Keyed) (kd : SortKind) (rk : Keyed → Int) (lo : Nat) (st st' : SortSt) : Prop where
  sb : SB a₀ kd st'
  fr : ∀ k, k < lo → Kr rk (arrOf st') k = Kr rk (arrOf st) k
  pe : pendingOf st' = pendingOf st
theorem Nx.refl {lo : Nat} {st : SortSt} (h : SB a₀ kd st) : Nx a₀ kd rk lo st st := ⟨h, fun _ _ => rfl, rfl⟩
theorem Nx.trans {lo : Nat} {st st' st'' : SortSt} (h : Nx a₀ kd rk lo st st') (h' : Nx a₀ kd rk lo st' st'') : Nx a₀ kd rk lo st st'' := ⟨h'.sb, fun k hk => (h'.fr k hk).trans (h.fr k hk), h'.pe.trans h.pe⟩
theorem Nx.mir {lo i j : Nat} {st st' : SortSt} (h : Nx a₀ kd rk lo st st') (hi : lo ≤ i) (hj : j ≤ a₀.size) : Nx a₀ kd rk lo st (setArr st' (mirror (arrOf st') i j ((j - i) / 2))) :=
  ⟨⟨(mirror_perm _ _ _ _).trans h.sb.perm, h.sb.kind, h.sb.failed⟩, fun k hk => by
    show Kr rk (mirror (arrOf st') i j ((j - i) / 2)) k = _
    rw [Kr_mirror (by rw [h.sb.size]; exact hj), if_neg (by omega)]; exact h.fr k hk, h.pe⟩
theorem Nx.bub {lo src d : Nat} {st st' : SortSt} (h : Nx a₀ kd rk lo st st') (hs : src < a₀.size) (hd : d ≤ src) (hi : lo ≤ src - d) : Nx a₀ kd rk lo st (setArr st' (bubble (arrOf st') src d)) :=
  ⟨⟨(bubble_perm _ _ _).trans h.sb.perm, h.sb.kind, h.sb.failed⟩, fun k hk => by
    show Kr rk (bubble (arrOf st') src d) k = _
    rw [Kr_bubble (by rw [h.sb.size]; exact hs) hd, if_neg (by omega), if_neg (by omega)]; exact h.fr k hk, h.pe⟩
theorem wpS_rev {st : SortSt} {i j : Nat} {Q : Unit → SortSt → Prop} (h : Q () (setArr st (mirror (arrOf st) i j ((j - i) / 2)))) : wpS M A E s (reverseSlice' i j) Q st := by
  rw [reverseSlice'_eq]; exact wpS_modify h
noncomputable def ascL (lo a nrem : Nat) : StateT SortSt Sem AscSt :=
  forIn [a:nrem] ((none, a) : AscSt) fun _ __s => do
    let __x ← ltAt' (lo + __s.snd) (lo + __s.snd - 1)
    match __x with
    | some smaller => if smaller = true then pure (ForInStep.done (none, __s.snd)) else pure (ForInStep.yield (none, __s.snd + 1))
    | _ => pure (ForInStep.done (some none, __s.snd))
noncomputable def tail3L (lo n nrem : Nat) : StateT SortSt Sem (Option Nat) := do
  reverseSlice' lo (lo + n)
  let __s ← ascL lo n nrem
  match __s.fst with
  | some r => pure r
  | none => pure (some __s.snd)
noncomputable def descL (lo n nrem : Nat) : StateT SortSt Sem DescSt :=
  forIn [n:nrem] ((none, n, 0) : DescSt) fun _ __s => do
    let __x ← ltAt' (lo + __s.snd.fst) (lo + __s.snd.fst - 1)
    match __x with
    | some smaller =>
      if smaller = true then
        if __s.snd.snd > 0 then do
          reverseSlice' (lo + __s.snd.fst - (__s.snd.snd + 1)) (lo + __s.snd.fst)
          pure (ForInStep.yield (none, __s.snd.fst + 1, 0))
        else pure (ForInStep.yield (none, __s.snd.fst + 1, 0))
      else do
        let __x ← ltAt' (lo + __s.snd.fst - 1) (lo + __s.snd.fst)
        match __x with
        | some larger =>
          if larger = true then pure (ForInStep.done (none, __s.snd.fst, __s.snd.snd))
          else pure (ForInStep.yield (none, __s.snd.fst + 1, __s.snd.snd + 1))
        | _ => pure (ForInStep.done (some none, __s.snd.fst, __s.snd.snd))
    | _ => pure (ForInStep.done (some none, __s.snd.fst, __s.snd.snd))
noncomputable def descPL (lo n nrem : Nat) : StateT SortSt Sem (Option Nat) := do
  liftM (rule "list.sort.descending-run")
  let __s ← descL lo (n + 1) nrem
  match __s.fst with
  | some r => pure r
  | none =>
    if __s.snd.snd > 0 then do
      reverseSlice' (lo + __s.snd.fst - (__s.snd.snd + 1)) (lo + __s.snd.fst)
      tail3L lo __s.snd.fst nrem
    else tail3L lo __s.snd.fst nrem
theorem countL_eq (lo nrem : Nat) : countRun' lo nrem = (do
    let __s ← ascL lo 1 nrem
    match __s.fst with
    | some r => pure r
    | none =>
      if (__s.snd == nrem) = true then pure (some __s.snd)
      else if __s.snd > 1 then do
        let __x ← ltAt' lo (lo + __s.snd - 1)
        match __x with
        | some rose => if rose = true then pure (some __s.snd) else do
            reverseSlice' lo (lo + __s.snd)
            descPL lo __s.snd nrem
        | _ => pure none
      else descPL lo __s.snd nrem) := by
  rw [countRun'_eq]
  unfold descPL tail3L descL ascL
  dsimp only
  congr 1
  funext __s
  obtain ⟨r, n⟩ := __s
  cases r with
  | some r => rfl
  | none =>
    dsimp only
    split
    · rfl
    · split
      · congr 1
        funext x
        cases x with
        | none => rfl
        | some rose =>
          dsimp only
          split
          · rfl
          · congr 1
            funext _r
            congr 1
            funext _u
            congr 1
            congr 1
            funext s2
            obtain ⟨r2, n2, q2⟩ := s2
            cases r2 with
            | some r2 => rfl
            | none =>
              dsimp only
              split
              · congr 1
                funext _v
                (congr 1; funext _w; congr 1; (funext s3; obtain ⟨r3, n3⟩ := s3; cases r3 <;> rfl))
              · (congr 1; funext _w; congr 1; (funext s3; obtain ⟨r3, n3⟩ := s3; cases r3 <;> rfl))
      · congr 1
        funext _u
        congr 1
        congr 1
        funext s2
        obtain ⟨r2, n2, q2⟩ := s2
        cases r2 with
        | some r2 => rfl
        | none =>
          dsimp only
          split
          · congr 1
            funext _v
            (congr 1; funext _w; congr 1; (funext s3; obtain ⟨r3, n3⟩ := s3; cases r3 <;> rfl))
          · (congr 1; funext _w; congr 1; (funext s3; obtain ⟨r3, n3⟩ := s3; cases r3 <;> rfl))
theorem wpS_ascL {st : SortSt} {lo a nrem : Nat} {Q : AscSt → SortSt → Prop} (L : LtOk M A E s kd rk a₀) (hn : lo + nrem ≤ a₀.size) (ha : 1 ≤ a) (han : a ≤ nrem) (hB : SB a₀ kd st) (hs : Seg rk (arrOf st) lo (lo + a))
    (h : ∀ n, a ≤ n → n ≤ nrem → Seg rk (arrOf st) lo (lo + n) → (n = nrem ∨ Kr rk (arrOf st) (lo + n) < Kr rk (arrOf st) (lo + n - 1)) → Q (none, n) st) :
    wpS M A E s (ascL lo a nrem) Q st := by
  unfold ascL
  refine wpS_forRange (I := fun x c st' => st' = st ∧ c = (none, x) ∧ Seg rk (arrOf st) lo (lo + x)) ?step ?fin ⟨rfl, rfl, hs⟩
  case fin =>
    rintro c st' ⟨rfl, rfl, hs'⟩
    rw [show max a nrem = nrem by omega] at hs' ⊢
    exact h nrem han (Nat.le_refl _) hs' (.inl rfl)
  case step =>
    rintro x c st' hax hxn ⟨rfl, rfl, hs'⟩
    dsimp only
    refine wpS_bind (wpS_ltR L hB (by omega) (by omega) ?_)
    by_cases hless : Kr rk (arrOf st') (lo + x) < Kr rk (arrOf st') (lo + x - 1)
    · simp only [hless, decide_true, if_true]
      exact wpS_pure (h x hax (by omega) hs' (.inr hless))
    · simp only [hless, decide_false, Bool.false_eq_true, if_false]
      refine wpS_pure ⟨rfl, rfl, fun i j hl hij hj => ?_⟩
      by_cases hjx : j < lo + x
      · exact hs' i j hl hij hjx
      · have hj' : j = lo + x := by omega
        subst hj'
        by_cases hi' : i = lo + x
        · subst hi'; exact Int.le_refl _
        · exact Int.le_trans (hs' i (lo + x - 1) hl (by omega) (by omega)) (Int.not_lt.mp hless)
theorem wpS_tail3L {st : SortSt} {lo n nrem : Nat} {Q : Option Nat → SortSt → Prop} (L : LtOk M A E s kd rk a₀) (hn : lo + nrem ≤ a₀.size) (h1 : 1 ≤ n) (hnn : n ≤ nrem) (hB : SB a₀ kd st)
    (hs : SegD rk (arrOf st) lo (lo + n)) (h : ∀ m st', Nx a₀ kd rk lo st st' → 1 ≤ m → m ≤ nrem → Seg rk (arrOf st') lo (lo + m) → Q (some m) st') :
    wpS M A E s (tail3L lo n nrem) Q st := by
  unfold tail3L
  have hsz : lo + n ≤ (arrOf st).size := by rw [hB.size]; omega
  refine wpS_bind (wpS_rev ?_)
  have hN : Nx a₀ kd rk lo st (setArr st (mirror (arrOf st) lo (lo + n) ((lo + n - lo) / 2))) := (Nx.refl hB).mir (Nat.le_refl _) (by omega)
  refine wpS_bind (wpS_ascL L hn h1 hnn hN.sb ?_ fun m hm1 hm2 hsm _ => wpS_pure (h m _ hN (by omega) hm2 hsm))
  intro i j hl hij hj
  show Kr rk (mirror (arrOf st) lo (lo + n) ((lo + n - lo) / 2)) i ≤ Kr rk (mirror (arrOf st) lo (lo + n) ((lo + n - lo) / 2)) j
  rw [Kr_mirror hsz, Kr_mirror hsz, if_pos (by omega), if_pos (by omega)]
  exact hs _ _ (by omega) (by omega) (by omega)
theorem wpS_descL {st : SortSt} {lo n nrem : Nat} {Q : DescSt → SortSt → Prop} (L : LtOk M A E s kd rk a₀) (hn : lo + nrem ≤ a₀.size) (h1 : 1 ≤ n) (hnn : n ≤ nrem) (hB : SB a₀ kd st)
    (hs : SegD rk (arrOf st) lo (lo + n))
    (h : ∀ m neq st', Nx a₀ kd rk lo st st' → n ≤ m → m ≤ nrem → SegD rk (arrOf st') lo (lo + m) → neq + 1 ≤ m → (∀ i, lo + m - (neq + 1) ≤ i → i < lo + m → Kr rk (arrOf st') i = Kr rk (arrOf st') (lo + m - 1)) → Q (none, m, neq) st') :
    wpS M A E s (descL lo n nrem) Q st := by
  unfold descL
  refine wpS_forRange (I := fun x c st' => ∃ neq, c = (none, x, neq) ∧ Nx a₀ kd rk lo st st' ∧ SegD rk (arrOf st') lo (lo + x) ∧ neq + 1 ≤ x ∧
      (∀ i, lo + x - (neq + 1) ≤ i → i < lo + x → Kr rk (arrOf st') i = Kr rk (arrOf st') (lo + x - 1))) ?step ?fin ⟨0, rfl, Nx.refl hB, hs, by omega, fun i h1 h2 => by congr 1; omega⟩
  case fin =>
    rintro c st' ⟨neq, rfl, hB', hs', hq, he⟩
    rw [show max n nrem = nrem by omega] at hs' hq he ⊢
    exact h nrem neq st' hB' hnn (Nat.le_refl _) hs' hq he
  case step =>
    rintro x c st' hax hxn ⟨neq, rfl, hB', hs', hq, he⟩
    dsimp only
    have hsz : lo + x ≤ (arrOf st').size := by rw [hB'.sb.size]; omega
    refine wpS_bind (wpS_ltR L hB'.sb (by omega) (by omega) ?_)
    by_cases hless : Kr rk (arrOf st') (lo + x) < Kr rk (arrOf st') (lo + x - 1)
    · simp only [hless, decide_true, if_true]
      have step1 : ∀ xs : Array Keyed, (∀ k, Kr rk xs k = Kr rk (arrOf st') k) → SegD rk xs lo (lo + (x + 1)) := by
        intro xs hk i j hl hij hj
        rw [hk, hk]
        by_cases hjx : j < lo + x
        · exact hs' i j hl hij hjx
        · have hj' : j = lo + x := by omega
          subst hj'
          by_cases hi' : i = lo + x
          · subst hi'; exact Int.le_refl _
          · exact Int.le_trans (Int.le_of_lt hless) (hs' i (lo + x - 1) hl (by omega) (by omega))
      by_cases hneq : neq > 0
      · rw [if_pos hneq]
        refine wpS_bind (wpS_rev (wpS_pure ⟨0, rfl, hB'.mir (by omega) (by omega), step1 _ (Kr_mirror_equal hsz he), by omega, fun i h1 h2 => by congr 1; omega⟩))
      · rw [if_neg hneq]
        exact wpS_pure ⟨0, rfl, hB', step1 _ (fun _ => rfl), by omega, fun i h1 h2 => by congr 1; omega⟩
    · simp only [hless, decide_false, Bool.false_eq_true, if_false]
      refine wpS_bind (wpS_ltR L hB'.sb (by omega) (by omega) ?_)
      by_cases hlarger : Kr rk (arrOf st') (lo + x - 1) < Kr rk (arrOf st') (lo + x)
      · simp only [hlarger, decide_true, if_true]
        exact wpS_pure (h x neq st' hB' hax (by omega) hs' hq he)
      · simp only [hlarger, decide_false, Bool.false_eq_true, if_false]
        have heqx : Kr rk (arrOf st') (lo + x) = Kr rk (arrOf st') (lo + x - 1) := by omega
        refine wpS_pure ⟨neq + 1, rfl, hB', fun i j hl hij hj => ?_, by omega, fun i h1 h2 => ?_⟩
        · by_cases hjx : j < lo + x
          · exact hs' i j hl hij hjx
          · have hj' : j = lo + x := by omega
            subst hj'
            by_cases hi' : i = lo + x
            · subst hi'; exact Int.le_refl _
            · rw [heqx]; exact hs' i (lo + x - 1) hl (by omega) (by omega)
        · rw [show lo + (x + 1) - 1 = lo + x by omega]
          by_cases hix : i = lo + x
          · subst hix; rfl
          · rw [heqx]; exact he i (by omega) (by omega)
theorem wpS_descPL {st : SortSt} {lo n nrem : Nat} {Q : Option Nat → SortSt → Prop} (L : LtOk M A E s kd rk a₀) (hn : lo + nrem ≤ a₀.size) (hnn : n + 1 ≤ nrem) (hB : SB a₀ kd st)
    (hs : SegD rk (arrOf st) lo (lo + (n + 1))) (h : ∀ m st', Nx a₀ kd rk lo st st' → 1 ≤ m → m ≤ nrem → Seg rk (arrOf st') lo (lo + m) → Q (some m) st') :
    wpS M A E s (descPL lo n nrem) Q st := by
  unfold descPL
  refine wpS_bind (wpS_lift (wpAny_rule ⟨rfl, ?_⟩))
  refine wpS_bind (wpS_descL L hn (by omega) hnn hB hs fun m neq st' hB' hm1 hm2 hs' hq he => ?_)
  dsimp only
  have hsz : lo + m ≤ (arrOf st').size := by rw [hB'.sb.size]; omega
  by_cases hneq : neq > 0
  · rw [if_pos hneq]
    have N2 := hB'.mir (i := lo + m - (neq + 1)) (j := lo + m) (by omega) (by omega)
    refine wpS_bind (wpS_rev (wpS_tail3L L hn (by omega) hm2 N2.sb ?_ fun m' st2 N a b c => h m' st2 (N2.trans N) a b c))
    intro i j hl hij hj
    show Kr rk (mirror (arrOf st') _ _ _) j ≤ Kr rk (mirror (arrOf st') _ _ _) i
    rw [Kr_mirror_equal hsz he, Kr_mirror_equal hsz he]
    exact hs' i j hl hij hj
  · rw [if_neg hneq]
    exact wpS_tail3L L hn (by omega) hm2 hB'.sb hs' fun m' st2 N a b c => h m' st2 (hB'.trans N) a b c
theorem wpS_countL {st : SortSt} {lo nrem : Nat} {Q : Option Nat → SortSt → Prop} (L : LtOk M A E s kd rk a₀) (hn : lo + nrem ≤ a₀.size) (h1 : 1 ≤ nrem) (hB : SB a₀ kd st)
    (h : ∀ m st', Nx a₀ kd rk lo st st' → 1 ≤ m → m ≤ nrem → Seg rk (arrOf st') lo (lo + m) → Q (some m) st') :
    wpS M A E s (countRun' lo nrem) Q st := by
  rw [countL_eq]
  have one : ∀ xs : Array Keyed, Seg rk xs lo (lo + 1) := fun xs i j hl hij hj => by
    have : i = j := by omega
    subst this; exact Int.le_refl _
  refine wpS_bind (wpS_ascL L hn (Nat.le_refl 1) h1 hB (one _) fun n hn1 hn2 hsn hor => ?_)
  dsimp only
  by_cases hnn : n = nrem
  · rw [if_pos (by simpa using hnn)]
    exact wpS_pure (h n st (Nx.refl hB) hn1 hn2 hsn)
  · rw [if_neg (by simpa using hnn)]
    have hlt : Kr rk (arrOf st) (lo + n) < Kr rk (arrOf st) (lo + n - 1) := hor.resolve_left hnn
    by_cases hgt : n > 1
    · rw [if_pos hgt]
      refine wpS_bind (wpS_ltR L hB (by omega) (by omega) ?_)
      by_cases hrose : Kr rk (arrOf st) lo < Kr rk (arrOf st) (lo + n - 1)
      · simp only [hrose, decide_true, if_true]
        exact wpS_pure (h n st (Nx.refl hB) hn1 hn2 hsn)
      · simp only [hrose, decide_false, Bool.false_eq_true, if_false]
        have hsz : lo + n ≤ (arrOf st).size := by rw [hB.size]; omega
        have hall : ∀ k, lo ≤ k → k < lo + n → Kr rk (arrOf st) k = Kr rk (arrOf st) (lo + n - 1) := by
          intro k h0 hk
          have a1 := hsn lo k (by omega) h0 hk
          have a2 := hsn k (lo + n - 1) h0 (by omega) (by omega)
          omega
        have N2 := (Nx.refl (rk := rk) (lo := lo) hB).mir (i := lo) (j := lo + n) (by omega) (by omega)
        refine wpS_bind (wpS_rev (wpS_descPL L hn (by omega) N2.sb ?_ fun m' st2 N a b c => h m' st2 (N2.trans N) a b c))
        intro i j hl hij hj
        show Kr rk (mirror (arrOf st) _ _ _) j ≤ Kr rk (mirror (arrOf st) _ _ _) i
        rw [Kr_mirror_equal hsz hall, Kr_mirror_equal hsz hall]
        by_cases hjn : j < lo + n
        · rw [hall i hl (by omega), hall j (by omega) hjn]; exact Int.le_refl _
        · have hj' : j = lo + n := by omega
          subst hj'
          by_cases hi' : i = lo + n
          · subst hi'; exact Int.le_refl _
          · rw [hall i hl (by omega)]; exact Int.le_of_lt hlt
    · rw [if_neg hgt]
      have hn1' : n = 1 := by omega
      subst hn1'
      refine wpS_descPL L hn (by omega) hB ?_ h
      intro i j hl hij hj
      by_cases hi' : i = j
      · subst hi'; exact Int.le_refl _
      · have hi0 : i = lo := by omega
        have hj1 : j = lo + 1 := by omega
        subst hi0; subst hj1
        exact Int.le_of_lt hlt
theorem wpS_binL {st : SortSt} {lo n ok : Nat} {Q : Bool → SortSt → Prop} (L : LtOk M A E s kd rk a₀) (hn : lo + n ≤ a₀.size) (hok : ok ≤ n) (hB : SB a₀ kd st) (hs : Seg rk (arrOf st) lo (lo + ok))
    (h : ∀ st', Nx a₀ kd rk lo st st' → Seg rk (arrOf st') lo (lo + n) → Q true st') : wpS M A E s (binarySort' lo n ok) Q st := by
  rw [binarySort'_eq]
  refine wpS_bind (wpS_mono (wpS_forRange (I := fun k c st' => c = (none, ()) ∧ Nx a₀ kd rk lo st st' ∧ Seg rk (arrOf st') lo (lo + min k n))
    (Q := fun c st' => c = (none, ()) ∧ Nx a₀ kd rk lo st st' ∧ Seg rk (arrOf st') lo (lo + n)) ?step ?fin ?init) ?post)
  case post =>
    rintro c st' ⟨rfl, hB', hs'⟩
    exact wpS_pure (h st' hB' hs')
  case init =>
    refine ⟨rfl, Nx.refl hB, fun i j hl hij hj => ?_⟩
    by_cases h1 : ok = 0
    · have : i = j := by omega
      subst this; exact Int.le_refl _
    · exact hs i j hl hij (by omega)
  case fin =>
    rintro c st' ⟨hc, hB', hs'⟩
    refine ⟨hc, hB', ?_⟩
    rwa [show min (max (max ok 1) n) n = n by omega] at hs'
  case step =>
    rintro k c st' hak hkn ⟨rfl, hB', hs'⟩
    rw [show min k n = k by omega] at hs'
    have hk : lo + k < a₀.size := by omega
    refine wpS_bind (wpS_mono (wpS_forRange (I := fun x c st'' => st'' = st' ∧ ∃ l r, c = (none, l, r) ∧ l ≤ r ∧ r ≤ k ∧ r - l ≤ k - x ∧
        (∀ i, i < l → Kr rk (arrOf st') (lo + i) ≤ Kr rk (arrOf st') (lo + k)) ∧ (∀ i, r ≤ i → i < k → Kr rk (arrOf st') (lo + k) < Kr rk (arrOf st') (lo + i)))
      (Q := fun c st'' => st'' = st' ∧ ∃ l r, c = (none, l, r) ∧ l ≤ k ∧
        (∀ i, i < l → Kr rk (arrOf st') (lo + i) ≤ Kr rk (arrOf st') (lo + k)) ∧ (∀ i, l ≤ i → i < k → Kr rk (arrOf st') (lo + k) < Kr rk (arrOf st') (lo + i))) ?istep ?ifin ?iinit) ?ipost)
    case iinit => exact ⟨rfl, 0, k, rfl, by omega, by omega, by omega, fun i hi => by omega, fun i h1 h2 => by omega⟩
    case ifin =>
      rintro c st'' ⟨rfl, l, r, rfl, hlr, hrk, hm, hlo, hhi⟩
      have : l = r := by omega
      subst this
      exact ⟨rfl, l, l, rfl, hrk, hlo, hhi⟩
    case istep =>
      rintro x c st'' _ hxk ⟨rfl, l, r, rfl, hlr, hrk, hm, hlo, hhi⟩
      dsimp only
      by_cases hge : l ≥ r
      · rw [if_pos hge]
        have : l = r := by omega
        subst this
        exact wpS_pure ⟨rfl, l, l, rfl, hrk, hlo, hhi⟩
      · rw [if_neg hge]
        refine wpS_bind (wpS_ltR L hB'.sb hk (by omega) ?_)
        by_cases hless : Kr rk (arrOf st'') (lo + k) < Kr rk (arrOf st'') (lo + (l + r) / 2)
        · simp only [hless, decide_true, if_true]
          refine wpS_pure ⟨rfl, l, (l + r) / 2, rfl, by omega, by omega, by omega, hlo, fun i h1 h2 => ?_⟩
          exact Int.lt_of_lt_of_le hless (hs' _ _ (by omega) (by omega) (by omega))
        · simp only [hless, decide_false, Bool.false_eq_true, if_false]
          refine wpS_pure ⟨rfl, (l + r) / 2 + 1, r, rfl, by omega, by omega, by omega, fun i h1 => ?_, hhi⟩
          exact Int.le_trans (hs' (lo + i) (lo + (l + r) / 2) (by omega) (by omega) (by omega)) (Int.not_lt.mp hless)
    case ipost =>
      rintro c st'' ⟨rfl, l, r, rfl, hlk, hlo, hhi⟩
      show wpS _ _ _ _ (do moveDown' (lo + k) (lo + l); pure (ForInStep.yield (none, ()))) _ _
      rw [moveDown'_eq]
      refine wpS_bind (wpS_modify (wpS_pure ⟨rfl, hB'.bub hk (by omega) (by omega), ?_⟩))
      rw [show min (k + 1) n = k + 1 by omega]
      have hks : lo + k < (arrOf st'').size := by rw [hB'.sb.size]; exact hk
      intro i j hl hij hj
      obtain ⟨i, rfl⟩ : ∃ i', i = lo + i' := ⟨i - lo, by omega⟩
      obtain ⟨j, rfl⟩ : ∃ j', j = lo + j' := ⟨j - lo, by omega⟩
      show Kr rk (bubble (arrOf st'') (lo + k) (lo + k - (lo + l))) (lo + i) ≤ Kr rk (bubble (arrOf st'') (lo + k) (lo + k - (lo + l))) (lo + j)
      rw [Kr_bubble hks (by omega), Kr_bubble hks (by omega), show lo + k - (lo + k - (lo + l)) = lo + l by omega]
      repeat' split
      all_goals first
        | (exfalso; omega)
        | exact Int.le_refl _
        | exact hlo _ (by omega)
        | exact Int.le_of_lt (by rw [show lo + j - 1 = lo + (j - 1) by omega]; exact hhi _ (by omega) (by omega))
        | exact hs' _ _ (by omega) (by omega) (by omega)
end
end L2

namespace L2
open PySem PySem.Spec PyProof.Rows
noncomputable def gallop' : Bool → Keyed → Array Keyed → Nat → Nat → Nat → StateT SortSt Sem (Option Nat) := sortPriv% PySem.Builtin.gallop
noncomputable def bey (left : Bool) (key : Keyed) (arr : Array Keyed) (base i : Nat) : StateT SortSt Sem (Option Bool) := do
    let x ← elem' arr (base + i)
    if left then lt' x key else return (← lt' key x).map (!·)
section
variable {M : Model} {A : Around} {E : Value → Shared → Prop} {s : Shared} {kd : SortKind} {rk : Keyed → Int} {a₀ : Array Keyed}
noncomputable def gbin (left : Bool) (key : Keyed) (arr : Array Keyed) (base n lo hi : Nat) : StateT SortSt Sem (Option Nat) := do
  let __s ← forIn [:n] ((none, lo, hi) : Option (Option Nat) × Nat × Nat) fun x __s =>
      if __s.snd.fst ≥ __s.snd.snd then pure (ForInStep.done (none, __s.snd.fst, __s.snd.snd))
      else do
        let __x ← bey left key arr base (__s.snd.fst + (__s.snd.snd - __s.snd.fst) / 2)
        match __x with
          | some more =>
            if more = true then
              pure (ForInStep.yield (none, __s.snd.fst + (__s.snd.snd - __s.snd.fst) / 2 + 1, __s.snd.snd))
            else pure (ForInStep.yield (none, __s.snd.fst, __s.snd.fst + (__s.snd.snd - __s.snd.fst) / 2))
          | x => pure (ForInStep.done (some none, __s.snd.fst, __s.snd.snd))
  match __s.fst with
    | some r => pure r
    | none => pure (some __s.snd.snd)
theorem wpS_gbin {left : Bool} {key : Keyed} {arr : Array Keyed} {base n lo hi : Nat} {st : SortSt} {Q : Option Nat → SortSt → Prop} (P : Nat → Bool)
    (hP : ∀ i (R : Option Bool → SortSt → Prop), i < n → R (some (P i)) st → wpS M A E s (bey left key arr base i) R st) (hm : ∀ i j, i ≤ j → j < n → P j = true → P i = true)
    (h1 : lo ≤ hi) (h2 : hi ≤ n) (hlo : ∀ i, i < lo → P i = true) (hhi : ∀ i, hi ≤ i → i < n → P i = false)
    (h : ∀ k, k ≤ n → (∀ i, i < k → P i = true) → (∀ i, k ≤ i → i < n → P i = false) → Q (some k) st) : wpS M A E s (gbin left key arr base n lo hi) Q st := by
  unfold gbin
  refine wpS_bind (wpS_mono (wpS_forRange (I := fun x c st' => st' = st ∧ ∃ l r, c = (none, l, r) ∧ l ≤ r ∧ r ≤ n ∧ r - l ≤ n - x ∧ (∀ i, i < l → P i = true) ∧ (∀ i, r ≤ i → i < n → P i = false))
      (Q := fun c st' => st' = st ∧ ∃ l, c = (none, l, l) ∧ l ≤ n ∧ (∀ i, i < l → P i = true) ∧ (∀ i, l ≤ i → i < n → P i = false)) ?step ?fin ⟨rfl, lo, hi, rfl, h1, h2, by omega, hlo, hhi⟩) ?post)
  case fin =>
    rintro c st' ⟨rfl, l, r, rfl, a, b, d, e, f⟩
    obtain rfl : l = r := by omega
    exact ⟨rfl, l, rfl, b, e, f⟩
  case post =>
    rintro c st' ⟨rfl, l, rfl, b, e, f⟩
    exact wpS_pure (h l b e f)
  case step =>
    rintro x c st' _ hx ⟨rfl, l, r, rfl, a, b, d, e, f⟩
    dsimp only
    by_cases hge : l ≥ r
    · rw [if_pos hge]
      obtain rfl : l = r := by omega
      exact wpS_pure ⟨rfl, l, rfl, b, e, f⟩
    · rw [if_neg hge]
      refine wpS_bind (hP _ _ (by omega) ?_)
      dsimp only
      by_cases hb : P (l + (r - l) / 2) = true
      · rw [if_pos hb]
        exact wpS_pure ⟨rfl, _, _, rfl, by omega, b, by omega, fun i hi => hm i _ (by omega) (by omega) hb, f⟩
      · rw [if_neg hb]
        refine wpS_pure ⟨rfl, _, _, rfl, by omega, by omega, by omega, e, fun i h3 h4 => ?_⟩
        cases hq : P i with
        | false => rfl
        | true => exact absurd (hm _ _ h3 h4 hq) hb
theorem wpS_gallop {left : Bool} {key : Keyed} {arr : Array Keyed} {base n hint : Nat} {st : SortSt} {Q : Option Nat → SortSt → Prop} (P : Nat → Bool) (hh : hint < n)
    (hP : ∀ i (R : Option Bool → SortSt → Prop), i < n → R (some (P i)) st → wpS M A E s (bey left key arr base i) R st) (hm : ∀ i j, i ≤ j → j < n → P j = true → P i = true)
    (h : ∀ k, k ≤ n → (∀ i, i < k → P i = true) → (∀ i, k ≤ i → i < n → P i = false) → Q (some k) st) : wpS M A E s (gallop' left key arr base n hint) Q st := by
  refine wpS_bind (m := bey left key arr base hint) (hP hint _ hh ?_)
  dsimp only
  by_cases hr : P hint = true
  · rw [if_pos hr]
    refine wpS_bind (wpS_mono (wpS_forRange (I := fun x c st' => st' = st ∧ ∃ la of, c = (none, la, of) ∧ la < of ∧ hint + la < n ∧ P (hint + la) = true ∧ x + 1 ≤ of)
        (Q := fun c st' => st' = st ∧ ∃ la of, c = (none, la, of) ∧ la < of ∧ hint + la < n ∧ P (hint + la) = true ∧ (n - hint ≤ of ∨ (hint + of < n ∧ P (hint + of) = false))) ?step ?fin ⟨rfl, 0, 1, rfl, by omega, by omega, hr, by omega⟩) ?post)
    case fin =>
      rintro c st' ⟨rfl, la, of, rfl, a, b, d, e⟩
      exact ⟨rfl, la, of, rfl, a, b, d, .inl (by omega)⟩
    case step =>
      rintro x c st' _ hx ⟨rfl, la, of, rfl, a, b, d, e⟩
      dsimp only
      by_cases hge : of ≥ n - hint
      · rw [if_pos hge]
        exact wpS_pure ⟨rfl, la, of, rfl, a, b, d, .inl hge⟩
      · rw [if_neg hge]
        refine wpS_bind (hP _ _ (by omega) ?_)
        dsimp only
        cases hq : P (hint + of) with
        | false =>
          rw [if_pos (by decide)]
          exact wpS_pure ⟨rfl, la, of, rfl, a, b, d, .inr ⟨by omega, hq⟩⟩
        | true =>
          rw [if_neg (by decide)]
          exact wpS_pure ⟨rfl, of, 2 * of + 1, rfl, by omega, by omega, hq, by omega⟩
    case post =>
      rintro c st' ⟨rfl, la, of, rfl, a, b, d, e⟩
      dsimp only
      refine Eq.mpr (congrArg (fun m => wpS M A E s m Q st') (?eq : _ = gbin left key arr base n (hint + la + 1) (hint + min of (n - hint)))) ?_
      case eq =>
        unfold gbin
        congr 1
        funext c
        obtain ⟨r, l, h⟩ := c
        cases r <;> rfl
      refine wpS_gbin P hP hm (by omega) (by omega) (fun i hi => hm i _ (by omega) b d) (fun i h3 h4 => ?_) h
      rcases e with e | ⟨e1, e2⟩
      · omega
      · cases hq : P i with
        | false => rfl
        | true =>
          have := hm (hint + of) i (by omega) h4 hq
          rw [this] at e2; cases e2
  · rw [if_neg hr]
    have hr' : P hint = false := by simpa using hr
    refine wpS_bind (wpS_mono (wpS_forRange (I := fun x c st' => st' = st ∧ ∃ la of, c = (none, la, of) ∧ la < of ∧ la ≤ hint ∧ P (hint - la) = false ∧ x + 1 ≤ of)
        (Q := fun c st' => st' = st ∧ ∃ la of, c = (none, la, of) ∧ la < of ∧ la ≤ hint ∧ P (hint - la) = false ∧ (hint + 1 ≤ of ∨ (of ≤ hint ∧ P (hint - of) = true))) ?step2 ?fin2 ⟨rfl, 0, 1, rfl, by omega, by omega, hr', by omega⟩) ?post2)
    case fin2 =>
      rintro c st' ⟨rfl, la, of, rfl, a, b, d, e⟩
      exact ⟨rfl, la, of, rfl, a, b, d, .inl (by omega)⟩
    case step2 =>
      rintro x c st' _ hx ⟨rfl, la, of, rfl, a, b, d, e⟩
      dsimp only
      by_cases hge : of ≥ hint + 1
      · rw [if_pos hge]
        exact wpS_pure ⟨rfl, la, of, rfl, a, b, d, .inl hge⟩
      · rw [if_neg hge]
        refine wpS_bind (hP _ _ (by omega) ?_)
        dsimp only
        by_cases hq : P (hint - of) = true
        · rw [if_pos hq]
          exact wpS_pure ⟨rfl, la, of, rfl, a, b, d, .inr ⟨by omega, hq⟩⟩
        · rw [if_neg hq]
          exact wpS_pure ⟨rfl, of, 2 * of + 1, rfl, by omega, by omega, by simpa using hq, by omega⟩
    case post2 =>
      rintro c st' ⟨rfl, la, of, rfl, a, b, d, e⟩
      dsimp only
      refine Eq.mpr (congrArg (fun m => wpS M A E s m Q st') (?eq : _ = gbin left key arr base n (hint + 1 - min of (hint + 1)) (hint - la))) ?_
      case eq =>
        unfold gbin
        congr 1
        funext c
        obtain ⟨r, l, h⟩ := c
        cases r <;> rfl
      refine wpS_gbin P hP hm (by omega) (by omega) (fun i hi => ?_) (fun i h3 h4 => ?_) h
      · rcases e with e | ⟨e1, e2⟩
        · omega
        · exact hm i _ (by omega) (by omega) e2
      · cases hq : P i with
        | false => rfl
        | true =>
          have := hm (hint - la) i (by omega) h4 hq
          rw [this] at d; cases d
theorem wpS_bey {left : Bool} {key : Keyed} {arr : Array Keyed} {base i : Nat} {st : SortSt} {R : Option Bool → SortSt → Prop} (L : LtOk M A E s kd rk a₀) (hk : key ∈ a₀.toList) (ha : ∀ p ∈ arr.toList, p ∈ a₀.toList) (hi : base + i < arr.size) (kind : kindOf st = kd)
    (h : R (some (if left = true then decide (Kr rk arr (base + i) < rk key) else decide (Kr rk arr (base + i) ≤ rk key))) st) : wpS M A E s (bey left key arr base i) R st := by
  unfold bey
  have e : arr[base + i]? = some arr[base + i] := getElem?_pos arr (base + i) hi
  have hm : arr[base + i] ∈ a₀.toList := ha _ (by simp)
  rw [Kr_at e] at h
  refine wpS_bind (wpS_elem (σ := Unit) e ?_)
  cases left with
  | true =>
    simp only [if_true] at h ⊢
    exact L _ _ st R hm hk kind h
  | false =>
    simp only [Bool.false_eq_true, if_false] at h ⊢
    refine wpS_bind (L _ _ st _ hk hm kind (wpS_pure ?_))
    have : (some (decide (rk key < rk arr[base + i]))).map (fun x => !x) = some (decide (rk arr[base + i] ≤ rk key)) := by
      show some (!decide (rk key < rk arr[base + i])) = _
      congr 1
      rw [← decide_not]
      exact decide_eq_decide.mpr (by omega)
    rw [this]; exact h
end
end L2

namespace L2
open PySem PySem.Spec PyProof.Rows
noncomputable def setG' : Nat → StateT SortSt Sem Unit := sortPriv% PySem.Builtin.setMinGallop
theorem setG'_eq (g : Nat) : setG' g = modify fun s => SortSt.mk' (kindOf s) (arrOf s) (pendingOf s) g (failedOf s) := rfl
noncomputable def mergeLo' : Array Keyed → Array Keyed → StateT SortSt Sem (Array Keyed) := sortPriv% PySem.Builtin.mergeLo
noncomputable def mergeHi' : Array Keyed → Array Keyed → StateT SortSt Sem (Array Keyed) := sortPriv% PySem.Builtin.mergeHi
section
variable {M : Model} {A : Around} {E : Value → Shared → Prop} {s : Shared} {kd : SortKind} {rk : Keyed → Int} {a₀ : Array Keyed}
noncomputable abbrev PwL (rk : Keyed → Int) (l : List Keyed) : Prop := l.Pairwise fun p q => rk p ≤ rk q
structure Sm (st st' : SortSt) : Prop where
  arr : arrOf st' = arrOf st
  kind : kindOf st' = kindOf st
  failed : failedOf st' = failedOf st
  pend : pendingOf st' = pendingOf st
theorem Sm.refl (st : SortSt) : Sm st st := ⟨rfl, rfl, rfl, rfl⟩
theorem Sm.trans {a b c : SortSt} (h : Sm a b) (h' : Sm b c) : Sm a c := ⟨h'.arr.trans h.arr, h'.kind.trans h.kind, h'.failed.trans h.failed, h'.pend.trans h.pend⟩
theorem wpS_setG {st st0 : SortSt} {g : Nat} {Q : Unit → SortSt → Prop} (h0 : Sm st0 st) (h : ∀ st', Sm st0 st' → Q () st') : wpS M A E s (setG' g) Q st := by
  rw [setG'_eq]
  exact wpS_modify (h _ (h0.trans ⟨rfl, rfl, rfl, rfl⟩))
structure MI (rk : Keyed → Int) (a b out : Array Keyed) (ia ib : Nat) : Prop where
  ha : ia ≤ a.size
  hb : ib ≤ b.size
  so : PwL rk out.toList
  le : ∀ p ∈ out.toList, ∀ q ∈ a.toList.drop ia ++ b.toList.drop ib, rk p ≤ rk q
  pm : (out.toList ++ (a.toList.drop ia ++ b.toList.drop ib)).Perm (a.toList ++ b.toList)
noncomputable def Res (rk : Keyed → Int) (a b r : Array Keyed) : Prop := PwL rk r.toList ∧ r.toList.Perm (a.toList ++ b.toList)
theorem drop_split {α : Type} (l : List α) (i k : Nat) : l.drop i = (l.drop i).take k ++ l.drop (i + k) := by
  have e : l.drop (i + k) = (l.drop i).drop k := by rw [List.drop_drop]
  rw [e, List.take_append_drop]
theorem ext_toList (a : Array Keyed) (i k : Nat) : (a.extract i (i + k)).toList = (a.toList.drop i).take k := by
  rw [Array.toList_extract, List.extract_eq_drop_take]
  congr 1
  omega
theorem MI.takeA {a b out : Array Keyed} {ia ib : Nat} (h : MI rk a b out ia ib) (Sa : PwL rk a.toList) (k : Nat) (hk : ia + k ≤ a.size) (hc : ∀ p ∈ (a.toList.drop ia).take k, ∀ q ∈ b.toList.drop ib, rk p ≤ rk q) : MI rk a b (out ++ a.extract ia (ia + k)) (ia + k) ib := by
  have e := drop_split a.toList ia k
  have Sd : PwL rk (a.toList.drop ia) := Sa.sublist (List.drop_sublist _ _)
  rw [e] at Sd
  obtain ⟨s1, s2, s3⟩ := List.pairwise_append.mp Sd
  have tl : (out ++ a.extract ia (ia + k)).toList = out.toList ++ (a.toList.drop ia).take k := by rw [Array.toList_append, ext_toList]
  refine ⟨hk, h.hb, ?_, ?_, ?_⟩
  · rw [tl]
    exact List.pairwise_append.mpr ⟨h.so, s1, fun p hp q hq => h.le p hp q (List.mem_append_left _ (List.mem_of_mem_take hq))⟩
  · rw [tl]
    intro p hp q hq
    rcases List.mem_append.mp hp with hp | hp
    · refine h.le p hp q ?_
      rcases List.mem_append.mp hq with hq | hq
      · exact List.mem_append_left _ (by rw [e]; exact List.mem_append_right _ hq)
      · exact List.mem_append_right _ hq
    · rcases List.mem_append.mp hq with hq | hq
      · exact s3 p hp q hq
      · exact hc p hp q hq
  · rw [tl]
    refine List.Perm.trans (List.Perm.of_eq ?_) h.pm
    conv => rhs; rw [e]
    simp only [List.append_assoc]
theorem MI.takeB {a b out : Array Keyed} {ia ib : Nat} (h : MI rk a b out ia ib) (Sb : PwL rk b.toList) (k : Nat) (hk : ib + k ≤ b.size) (hc : ∀ p ∈ (b.toList.drop ib).take k, ∀ q ∈ a.toList.drop ia, rk p ≤ rk q) : MI rk a b (out ++ b.extract ib (ib + k)) ia (ib + k) := by
  have e := drop_split b.toList ib k
  have Sd : PwL rk (b.toList.drop ib) := Sb.sublist (List.drop_sublist _ _)
  rw [e] at Sd
  obtain ⟨s1, s2, s3⟩ := List.pairwise_append.mp Sd
  have tl : (out ++ b.extract ib (ib + k)).toList = out.toList ++ (b.toList.drop ib).take k := by rw [Array.toList_append, ext_toList]
  refine ⟨h.ha, hk, ?_, ?_, ?_⟩
  · rw [tl]
    exact List.pairwise_append.mpr ⟨h.so, s1, fun p hp q hq => h.le p hp q (List.mem_append_right _ (List.mem_of_mem_take hq))⟩
  · rw [tl]
    intro p hp q hq
    rcases List.mem_append.mp hp with hp | hp
    · refine h.le p hp q ?_
      rcases List.mem_append.mp hq with hq | hq
      · exact List.mem_append_left _ hq
      · exact List.mem_append_right _ (by rw [e]; exact List.mem_append_right _ hq)
    · rcases List.mem_append.mp hq with hq | hq
      · exact hc p hp q hq
      · exact s3 p hp q hq
  · rw [tl]
    refine List.Perm.trans ?_ h.pm
    conv => rhs; rw [e]
    rw [List.append_assoc]
    refine List.Perm.append_left _ ?_
    rw [← List.append_assoc, ← List.append_assoc]
    exact List.Perm.append_right _ List.perm_append_comm
theorem push_ext {out a : Array Keyed} {i : Nat} {p : Keyed} (h : a[i]? = some p) : out.push p = out ++ a.extract i (i + 1) := by
  apply Array.ext'
  rw [Array.toList_append, ext_toList, Array.toList_push]
  congr 1
  obtain ⟨hi, e⟩ := Array.getElem?_eq_some_iff.mp h
  rw [List.drop_eq_getElem_cons (by simpa using hi)]
  simp [e]
theorem take1 {a : Array Keyed} {i : Nat} {p q : Keyed} (h : a[i]? = some p) (hq : q ∈ (a.toList.drop i).take 1) : q = p := by
  obtain ⟨hi, e⟩ := Array.getElem?_eq_some_iff.mp h
  rw [List.drop_eq_getElem_cons (by simpa using hi)] at hq
  simpa [e] using hq
theorem drop_le {a : Array Keyed} {i : Nat} {p q : Keyed} (Sa : PwL rk a.toList) (h : a[i]? = some p) (hq : q ∈ a.toList.drop i) : rk p ≤ rk q := by
  obtain ⟨hi, e⟩ := Array.getElem?_eq_some_iff.mp h
  have Sd : PwL rk (a.toList.drop i) := Sa.sublist (List.drop_sublist _ _)
  rw [List.drop_eq_getElem_cons (by simpa using hi)] at Sd hq
  rcases List.mem_cons.mp hq with rfl | hq
  · simp [e]
  · have := (List.pairwise_cons.mp Sd).1 q hq
    simpa [e] using this
theorem drop_at {a : Array Keyed} {i : Nat} {q : Keyed} (hq : q ∈ a.toList.drop i) : ∃ j, i ≤ j ∧ j < a.size ∧ a[j]? = some q := by
  obtain ⟨k, hk, e⟩ := List.mem_iff_getElem.mp hq
  have hk' : i + k < a.size := by simp at hk; omega
  refine ⟨i + k, by omega, hk', ?_⟩
  rw [getElem?_pos a (i + k) hk', ← e]
  simp
theorem take_at {a : Array Keyed} {i k : Nat} {q : Keyed} (hq : q ∈ (a.toList.drop i).take k) : ∃ j, j < k ∧ a[i + j]? = some q := by
  obtain ⟨j, hj, e⟩ := List.mem_iff_getElem.mp hq
  have hj' : j < k ∧ i + j < a.size := by simp at hj; omega
  refine ⟨j, hj'.1, ?_⟩
  rw [getElem?_pos a (i + j) hj'.2, ← e]
  simp
theorem MI.pushA {a b out : Array Keyed} {ia ib : Nat} {p : Keyed} (h : MI rk a b out ia ib) (Sa : PwL rk a.toList) (e : a[ia]? = some p) (hc : ∀ q ∈ b.toList.drop ib, rk p ≤ rk q) : MI rk a b (out.push p) (ia + 1) ib := by
  rw [push_ext e]
  exact h.takeA Sa 1 (by have := (Array.getElem?_eq_some_iff.mp e).1; omega) fun q hq r hr => by rw [take1 e hq]; exact hc r hr
theorem MI.pushB {a b out : Array Keyed} {ia ib : Nat} {p : Keyed} (h : MI rk a b out ia ib) (Sb : PwL rk b.toList) (e : b[ib]? = some p) (hc : ∀ q ∈ a.toList.drop ia, rk p ≤ rk q) : MI rk a b (out.push p) ia (ib + 1) := by
  rw [push_ext e]
  exact h.takeB Sb 1 (by have := (Array.getElem?_eq_some_iff.mp e).1; omega) fun q hq r hr => by rw [take1 e hq]; exact hc r hr
theorem ext_all (a : Array Keyed) (i : Nat) : (a.extract i a.size).toList = a.toList.drop i := by
  rw [Array.toList_extract, List.extract_eq_drop_take, List.take_of_length_le (by simp)]
theorem MI.doneB {a b out : Array Keyed} {ia ib : Nat} (h : MI rk a b out ia ib) (Sa : PwL rk a.toList) (e : ib = b.size) : Res rk a b (out ++ a.extract ia a.size ++ b.extract ib b.size) := by
  have hd : b.toList.drop ib = [] := List.drop_eq_nil_of_le (by simp [e])
  unfold Res
  rw [Array.toList_append, Array.toList_append, ext_all, ext_all, hd, List.append_nil]
  have hp := h.pm
  rw [hd, List.append_nil] at hp
  exact ⟨List.pairwise_append.mpr ⟨h.so, Sa.sublist (List.drop_sublist _ _), fun p hp q hq => h.le p hp q (List.mem_append_left _ hq)⟩, hp⟩
theorem MI.doneA {a b out : Array Keyed} {ia ib : Nat} (h : MI rk a b out ia ib) (Sb : PwL rk b.toList) (e : ia = a.size) : Res rk a b (out ++ a.extract ia a.size ++ b.extract ib b.size) := by
  have hd : a.toList.drop ia = [] := List.drop_eq_nil_of_le (by simp [e])
  unfold Res
  rw [Array.toList_append, Array.toList_append, ext_all, ext_all, hd, List.append_nil]
  have hp := h.pm
  rw [hd, List.nil_append] at hp
  exact ⟨List.pairwise_append.mpr ⟨h.so, Sb.sublist (List.drop_sublist _ _), fun p hp q hq => h.le p hp q (List.mem_append_right _ hq)⟩, hp⟩
theorem MI.lastA {a b out : Array Keyed} {ia ib : Nat} (h : MI rk a b out ia ib) (Sb : PwL rk b.toList) (e : ia + 1 = a.size) (hl : ∀ p, a[a.size - 1]? = some p → ∀ q ∈ b.toList, rk q ≤ rk p) : Res rk a b (out ++ b.extract ib b.size ++ a.extract ia a.size) := by
  unfold Res
  rw [Array.toList_append, Array.toList_append, ext_all, ext_all]
  have hi : ia < a.size := by omega
  have ea : a.toList.drop ia = [a[ia]] := by
    rw [List.drop_eq_getElem_cons (by simpa using hi), List.drop_eq_nil_of_le (by simp; omega)]
    simp
  refine ⟨?_, ?_⟩
  · refine List.pairwise_append.mpr ⟨List.pairwise_append.mpr ⟨h.so, Sb.sublist (List.drop_sublist _ _), fun p hp q hq => h.le p hp q (List.mem_append_right _ hq)⟩, by rw [ea]; exact List.pairwise_singleton _ _, fun p hp q hq => ?_⟩
    rcases List.mem_append.mp hp with hp | hp
    · exact h.le p hp q (List.mem_append_left _ hq)
    · rw [ea] at hq
      rw [List.mem_singleton.mp hq]
      refine hl _ ?_ p (List.mem_of_mem_drop hp)
      rw [show a.size - 1 = ia by omega]; exact getElem?_pos a ia hi
  · refine List.Perm.trans ?_ h.pm
    rw [List.append_assoc]
    exact List.Perm.append_left _ List.perm_append_comm
end
end L2

set_option maxHeartbeats 8000000
namespace L2
open PySem PySem.Spec PyProof.Rows
section
variable {M : Model} {A : Around} {E : Value → Shared → Prop} {s : Shared} {kd : SortKind} {rk : Keyed → Int} {a₀ : Array Keyed}
theorem wpS_ite {σ α : Type} {c : Prop} [Decidable c] {x y : StateT σ Sem α} {Q : α → σ → Prop} {st : σ} (h1 : c → wpS M A E s x Q st) (h2 : ¬ c → wpS M A E s y Q st) : wpS M A E s (if c then x else y) Q st := by
  split
  · exact h1 ‹_›
  · exact h2 ‹_›
noncomputable def Go (rk : Keyed → Int) (a b : Array Keyed) (n : Nat) (r : Option (Array Keyed)) (out : Array Keyed) (ia ib : Nat) : Prop := (∃ x, r = some x ∧ Res rk a b x) ∨ (r = none ∧ MI rk a b out ia ib ∧ ib < b.size ∧ ia + 1 < a.size ∧ n ≤ ia + ib)
theorem wpS_mergeLo {a b : Array Keyed} {st : SortSt} {Q : Array Keyed → SortSt → Prop} (L : LtOk M A E s kd rk a₀) (ha : ∀ p ∈ a.toList, p ∈ a₀.toList) (hb : ∀ p ∈ b.toList, p ∈ a₀.toList) (Sa : PwL rk a.toList) (Sb : PwL rk b.toList)
    (n1 : 1 ≤ a.size) (n2 : 1 ≤ b.size) (hf : ∀ p, b[0]? = some p → ∀ q ∈ a.toList, rk p ≤ rk q) (hl : ∀ p, a[a.size - 1]? = some p → ∀ q ∈ b.toList, rk q ≤ rk p) (kind : kindOf st = kd)
    (h : ∀ r st', Sm st st' → Res rk a b r → Q r st') : wpS M A E s (mergeLo' a b) Q st := by
  have atA : ∀ {i : Nat}, i < a.size → ∃ p, a[i]? = some p ∧ p ∈ a₀.toList := fun {i} hi => ⟨a[i], getElem?_pos a i hi, ha _ (by simp)⟩
  have atB : ∀ {i : Nat}, i < b.size → ∃ p, b[i]? = some p ∧ p ∈ a₀.toList := fun {i} hi => ⟨b[i], getElem?_pos b i hi, hb _ (by simp)⟩
  have KA : ∀ {i : Nat} {p : Keyed}, a[i]? = some p → Kr rk a i = rk p := fun e => Kr_at e
  have SKa : ∀ i j, i ≤ j → j < a.size → Kr rk a i ≤ Kr rk a j := fun i j hij hj => by
    obtain ⟨p, ep, _⟩ := atA (show i < a.size by omega)
    obtain ⟨q, eq, _⟩ := atA hj
    rw [Kr_at ep, Kr_at eq]
    refine drop_le Sa ep ?_
    obtain ⟨hq, e⟩ := Array.getElem?_eq_some_iff.mp eq
    rw [← e]
    exact List.mem_iff_getElem.mpr ⟨j - i, by simp; omega, by simp [show i + (j - i) = j by omega]⟩
  have SKb : ∀ i j, i ≤ j → j < b.size → Kr rk b i ≤ Kr rk b j := fun i j hij hj => by
    obtain ⟨p, ep, _⟩ := atB (show i < b.size by omega)
    obtain ⟨q, eq, _⟩ := atB hj
    rw [Kr_at ep, Kr_at eq]
    refine drop_le Sb ep ?_
    obtain ⟨hq, e⟩ := Array.getElem?_eq_some_iff.mp eq
    rw [← e]
    exact List.mem_iff_getElem.mpr ⟨j - i, by simp; omega, by simp [show i + (j - i) = j by omega]⟩
  refine wpS_bind (wpS_lift (wpAny_rule ⟨rfl, ?_⟩))
  dsimp only
  obtain ⟨p0, e0, m0⟩ := atB (i := 0) (by omega)
  refine wpS_bind (wpS_elem (σ := Unit) e0 ?_)
  have I0 : MI rk a b #[p0] 0 1 := by
    have eb : b.toList = p0 :: b.toList.drop 1 := by
      obtain ⟨hi, e⟩ := Array.getElem?_eq_some_iff.mp e0
      have := List.drop_eq_getElem_cons (l := b.toList) (i := 0) (by simpa using hi)
      rw [List.drop_zero] at this
      conv => lhs; rw [this]
      simp [e]
    refine ⟨by omega, by omega, List.pairwise_singleton _ _, fun p hp q hq => ?_, ?_⟩
    · obtain rfl : p = p0 := by simpa using hp
      rcases List.mem_append.mp hq with hq | hq
      · exact hf p e0 q (List.mem_of_mem_drop hq)
      · exact drop_le Sb e0 (by rw [List.drop_zero]; exact List.mem_of_mem_drop hq)
    · show ([p0] ++ (a.toList.drop 0 ++ b.toList.drop 1)).Perm _
      rw [List.drop_zero]
      conv => rhs; rw [eb]
      exact (List.perm_middle (a := p0) (l₁ := a.toList) (l₂ := b.toList.drop 1)).symm
  by_cases h1 : 1 = b.size
  · rw [if_pos (by simpa using h1)]
    exact wpS_pure (h _ _ (Sm.refl _) (I0.doneB Sa h1))
  rw [if_neg (by simpa using h1)]
  by_cases h2 : 0 + 1 = a.size
  · rw [if_pos (by simpa using h2)]
    exact wpS_pure (h _ _ (Sm.refl _) (I0.lastA Sb h2 hl))
  rw [if_neg (by simpa using h2)]
  refine wpS_bind (wpS_get ?_)
  refine wpS_bind (wpS_mono (wpS_forRange (I := fun x c st' => Sm st st' ∧ ∃ out ia ib mg, c = (none, out, ia, ib, mg) ∧ MI rk a b out ia ib ∧ ib < b.size ∧ ia + 1 < a.size ∧ x + 1 ≤ ia + ib)
      (Q := fun c st' => Sm st st' ∧ ∃ r, c.1 = some r ∧ Res rk a b r) ?step ?fin ⟨Sm.refl _, _, _, _, _, rfl, I0, by omega, by omega, by omega⟩) ?post)
  case fin =>
    rintro c st' ⟨_, out, ia, ib, mg, rfl, I, x1, x2, x3⟩
    exact absurd x3 (by omega)
  case post =>
    rintro ⟨r0, c⟩ st' ⟨S, r, rfl, hr⟩
    exact wpS_pure (h r st' S hr)
  case step =>
    rintro x c st1 _ hx ⟨S1, out, ia, ib, mg, rfl, I, x1, x2, x3⟩
    dsimp only
    have kd1 : kindOf st1 = kd := S1.kind.trans kind
    refine wpS_bind (wpS_mono (wpS_forRange (I := fun y c st' => st' = st1 ∧ ∃ out' ia' ib' ac bc, c = (none, out', ia', ib', ac, bc) ∧ MI rk a b out' ia' ib' ∧ ib' < b.size ∧ ia' + 1 < a.size ∧ x + 1 + y ≤ ia' + ib')
      (Q := fun c st' => st' = st1 ∧ Go rk a b (x + 2) c.1 c.2.1 c.2.2.1 c.2.2.2.1) ?istep ?ifin ⟨rfl, _, _, _, _, _, rfl, I, x1, x2, by omega⟩) ?ipost)
    case ifin =>
      rintro c st' ⟨rfl, out', ia', ib', ac, bc, rfl, I', y1, y2, y3⟩
      exact ⟨rfl, .inr ⟨rfl, I', y1, y2, by show x + 2 ≤ ia' + ib'; omega⟩⟩
    case istep =>
      rintro y c st' _ hy ⟨rfl, out', ia', ib', ac, bc, rfl, I', y1, y2, y3⟩
      dsimp only
      obtain ⟨pb, eb, mb⟩ := atB y1
      obtain ⟨pa, ea, ma⟩ := atA (show ia' < a.size by omega)
      refine wpS_bind (wpS_elem (σ := Unit) eb (wpS_bind (wpS_elem (σ := Unit) ea (wpS_bind (L _ _ _ _ mb ma kd1 ?_)))))
      dsimp only
      by_cases hw : rk pb < rk pa
      · rw [if_pos (decide_eq_true hw)]
        refine wpS_bind (wpS_elem (σ := Unit) eb ?_)
        have I2 := I'.pushB Sb eb fun q hq => Int.le_trans (Int.le_of_lt hw) (drop_le Sa ea hq)
        by_cases h3 : ib' + 1 = b.size
        · rw [if_pos (by simpa using h3)]
          exact wpS_pure ⟨rfl, .inl ⟨_, rfl, I2.doneB Sa h3⟩⟩
        · rw [if_neg (by simpa using h3)]
          split
          · exact wpS_pure ⟨rfl, .inr ⟨rfl, I2, by show ib' + 1 < _; omega, y2, by show x + 2 ≤ ia' + (ib' + 1); omega⟩⟩
          · exact wpS_pure ⟨rfl, _, _, _, _, _, rfl, I2, by omega, y2, by omega⟩
      · rw [if_neg (by rw [decide_eq_false hw]; decide)]
        refine wpS_bind (wpS_elem (σ := Unit) ea ?_)
        have I2 := I'.pushA Sa ea fun q hq => Int.le_trans (by omega) (drop_le Sb eb hq)
        by_cases h3 : ia' + 1 + 1 = a.size
        · rw [if_pos (by simpa using h3)]
          exact wpS_pure ⟨rfl, .inl ⟨_, rfl, I2.lastA Sb h3 hl⟩⟩
        · rw [if_neg (by simpa using h3)]
          split
          · exact wpS_pure ⟨rfl, .inr ⟨rfl, I2, y1, by show ia' + 1 + 1 < _; omega, by show x + 2 ≤ ia' + 1 + ib'; omega⟩⟩
          · exact wpS_pure ⟨rfl, _, _, _, _, _, rfl, I2, y1, by omega, by omega⟩
    case ipost =>
      rintro ⟨r0, out1, ia1, ib1, ac1, bc1⟩ st' ⟨rfl, G⟩
      dsimp only at G ⊢
      rcases G with ⟨r, rfl, hr⟩ | ⟨rfl, I1, y1, y2, y3⟩
      · exact wpS_pure ⟨S1, r, rfl, hr⟩
      dsimp only
      refine wpS_bind (wpS_lift (wpAny_rule ⟨rfl, ?_⟩))
      refine wpS_bind (wpS_mono (wpS_forRange (I := fun y c st' => Sm st st' ∧ ∃ out' ia' ib' mg ac bc, c = (none, out', ia', ib', mg, ac, bc) ∧ MI rk a b out' ia' ib' ∧ ib' < b.size ∧ ia' + 1 < a.size ∧ x + 2 ≤ ia' + ib')
        (Q := fun c st' => Sm st st' ∧ Go rk a b (x + 2) c.1 c.2.1 c.2.2.1 c.2.2.2.1) ?gstep ?gfin ⟨S1, _, _, _, _, _, _, rfl, I1, y1, y2, y3⟩) ?gpost)
      case gfin =>
        rintro c st' ⟨S2, out', ia', ib', mg', ac, bc, rfl, I', y1, y2, y3⟩
        exact ⟨S2, .inr ⟨rfl, I', y1, y2, y3⟩⟩
      case gpost =>
        rintro ⟨r0, out1, ia1, ib1, mg1, ac1, bc1⟩ st' ⟨S2, G⟩
        dsimp only at G ⊢
        rcases G with ⟨r, rfl, hr⟩ | ⟨rfl, I1, y1, y2, y3⟩
        · exact wpS_pure ⟨S2, r, rfl, hr⟩
        dsimp only
        refine wpS_bind (wpS_setG S2 fun st2 S3 => ?_)
        exact wpS_pure ⟨S3, _, _, _, _, rfl, I1, y1, y2, y3⟩
      case gstep =>
        rintro y c st' _ hy ⟨S2, out', ia', ib', mg', ac, bc, rfl, I', y1, y2, y3⟩
        dsimp only
        obtain ⟨pb, eb, mb⟩ := atB y1
        refine wpS_ite (fun _ => ?_) (fun _ => ?_)
        all_goals
          refine wpS_bind (wpS_setG S2 fun st3 S3 => ?_)
          have kd3 : kindOf st3 = kd := S3.kind.trans kind
          refine wpS_bind (wpS_elem (σ := Unit) eb ?_)
          refine wpS_bind (wpS_gallop (fun i => decide (Kr rk a (ia' + i) ≤ rk pb)) (by omega) (fun i R hi r => wpS_bey L mb ha (by omega) kd3 (by simpa using r)) (fun i j hij hj hq => decide_eq_true (Int.le_trans (SKa _ _ (by omega) (by omega)) (of_decide_eq_true hq))) fun k hk hk1 hk2 => ?_)
          dsimp only
          have I2 := I'.takeA Sa k (by omega) fun p hp q hq => by
            obtain ⟨j, hj, e⟩ := take_at hp
            have := of_decide_eq_true (hk1 j hj)
            rw [Kr_at e] at this
            exact Int.le_trans this (drop_le Sb eb hq)
          have hgt : ∀ q ∈ a.toList.drop (ia' + k), rk pb ≤ rk q := fun q hq => by
            obtain ⟨j, h3, h4, e⟩ := drop_at hq
            have := of_decide_eq_false (hk2 (j - ia') (by omega) (by omega))
            rw [show ia' + (j - ia') = j by omega, Kr_at e] at this
            omega
          refine wpS_ite (fun hk0 => ?_) (fun hk0 => ?_)
          · refine wpS_ite (fun h3 => ?_) (fun h3 => wpS_ite (fun h4 => ?_) (fun h4 => ?_))
            · exact wpS_pure ⟨S3, .inl ⟨_, rfl, I2.lastA Sb (by simpa using h3) hl⟩⟩
            · exact wpS_pure ⟨S3, .inl ⟨_, rfl, I2.doneA Sb (by simpa using h4)⟩⟩
            have hi1 : ia' + k + 1 < a.size := by
              have z1 : ¬ ia' + k + 1 = a.size := by simpa using h3
              have z2 : ¬ ia' + k = a.size := by simpa using h4
              omega
            have J := I2
            have hg2 := hgt
            refine wpS_bind (wpS_elem (σ := Unit) eb ?_)
            have J2 := J.pushB Sb eb hg2
            refine wpS_ite (fun h5 => ?_) (fun h5 => ?_)
            · exact wpS_pure ⟨S3, .inl ⟨_, rfl, J2.doneB Sa (by simpa using h5)⟩⟩
            have h5' : ib' + 1 < b.size := by
              have : ¬ ib' + 1 = b.size := by simpa using h5
              omega
            obtain ⟨pa, ea, ma⟩ := atA (Nat.lt_of_succ_lt hi1)
            refine wpS_bind (wpS_elem (σ := Unit) ea ?_)
            refine wpS_bind (wpS_gallop (fun i => decide (Kr rk b (ib' + 1 + i) < rk pa)) (by omega) (fun i R hi r => wpS_bey L ma hb (by omega) kd3 (by simpa using r)) (fun i j hij hj hq => decide_eq_true (Int.lt_of_le_of_lt (SKb _ _ (by omega) (by omega)) (of_decide_eq_true hq))) fun k1 hk1 hk11 hk12 => ?_)
            dsimp only
            have J3 := J2.takeB Sb k1 (by omega) fun p hp q hq => by
              obtain ⟨j, hj, e⟩ := take_at hp
              have := of_decide_eq_true (hk11 j hj)
              rw [Kr_at e] at this
              exact Int.le_trans (Int.le_of_lt this) (drop_le Sa ea hq)
            have hle : ∀ q ∈ b.toList.drop (ib' + 1 + k1), rk pa ≤ rk q := fun q hq => by
              obtain ⟨j, h3, h4, e⟩ := drop_at hq
              have := of_decide_eq_false (hk12 (j - (ib' + 1)) (by omega) (by omega))
              rw [show ib' + 1 + (j - (ib' + 1)) = j by omega, Kr_at e] at this
              omega
            refine wpS_ite (fun hk10 => ?_) (fun hk10 => ?_)
            · refine wpS_ite (fun h6 => ?_) (fun h6 => ?_)
              · exact wpS_pure ⟨S3, .inl ⟨_, rfl, J3.doneB Sa (by simpa using h6)⟩⟩
              have h6' : ib' + 1 + k1 < b.size := by
                have : ¬ ib' + 1 + k1 = b.size := by simpa using h6
                omega
              refine wpS_bind (wpS_elem (σ := Unit) ea ?_)
              have J5 := J3.pushA Sa ea hle
              refine wpS_ite (fun h7 => ?_) (fun h7 => ?_)
              · exact wpS_pure ⟨S3, .inl ⟨_, rfl, J5.lastA Sb (by simpa using h7) hl⟩⟩
              have h7' := by simpa using h7
              refine wpS_ite (fun _ => ?_) (fun _ => ?_)
              · exact wpS_pure ⟨S3, .inr ⟨rfl, J5, h6', by dsimp only; omega, by dsimp only; omega⟩⟩
              · exact wpS_pure ⟨S3, _, _, _, _, _, _, rfl, J5, h6', by omega, by omega⟩
            · obtain rfl : k1 = 0 := by omega
              refine wpS_bind (wpS_elem (σ := Unit) ea ?_)
              have J5 := J2.pushA Sa ea hle
              refine wpS_ite (fun h7 => ?_) (fun h7 => ?_)
              · exact wpS_pure ⟨S3, .inl ⟨_, rfl, J5.lastA Sb (by simpa using h7) hl⟩⟩
              have h7' := by simpa using h7
              refine wpS_ite (fun _ => ?_) (fun _ => ?_)
              · exact wpS_pure ⟨S3, .inr ⟨rfl, J5, h5', by dsimp only; omega, by dsimp only; omega⟩⟩
              · exact wpS_pure ⟨S3, _, _, _, _, _, _, rfl, J5, h5', by omega, by omega⟩
          · obtain rfl : k = 0 := by omega
            have hi1 : ia' + 1 < a.size := y2
            have J := I'
            have hg2 : ∀ q ∈ a.toList.drop ia', rk pb ≤ rk q := hgt
            refine wpS_bind (wpS_elem (σ := Unit) eb ?_)
            have J2 := J.pushB Sb eb hg2
            refine wpS_ite (fun h5 => ?_) (fun h5 => ?_)
            · exact wpS_pure ⟨S3, .inl ⟨_, rfl, J2.doneB Sa (by simpa using h5)⟩⟩
            have h5' : ib' + 1 < b.size := by
              have : ¬ ib' + 1 = b.size := by simpa using h5
              omega
            obtain ⟨pa, ea, ma⟩ := atA (Nat.lt_of_succ_lt hi1)
            refine wpS_bind (wpS_elem (σ := Unit) ea ?_)
            refine wpS_bind (wpS_gallop (fun i => decide (Kr rk b (ib' + 1 + i) < rk pa)) (by omega) (fun i R hi r => wpS_bey L ma hb (by omega) kd3 (by simpa using r)) (fun i j hij hj hq => decide_eq_true (Int.lt_of_le_of_lt (SKb _ _ (by omega) (by omega)) (of_decide_eq_true hq))) fun k1 hk1 hk11 hk12 => ?_)
            dsimp only
            have J3 := J2.takeB Sb k1 (by omega) fun p hp q hq => by
              obtain ⟨j, hj, e⟩ := take_at hp
              have := of_decide_eq_true (hk11 j hj)
              rw [Kr_at e] at this
              exact Int.le_trans (Int.le_of_lt this) (drop_le Sa ea hq)
            have hle : ∀ q ∈ b.toList.drop (ib' + 1 + k1), rk pa ≤ rk q := fun q hq => by
              obtain ⟨j, h3, h4, e⟩ := drop_at hq
              have := of_decide_eq_false (hk12 (j - (ib' + 1)) (by omega) (by omega))
              rw [show ib' + 1 + (j - (ib' + 1)) = j by omega, Kr_at e] at this
              omega
            refine wpS_ite (fun hk10 => ?_) (fun hk10 => ?_)
            · refine wpS_ite (fun h6 => ?_) (fun h6 => ?_)
              · exact wpS_pure ⟨S3, .inl ⟨_, rfl, J3.doneB Sa (by simpa using h6)⟩⟩
              have h6' : ib' + 1 + k1 < b.size := by
                have : ¬ ib' + 1 + k1 = b.size := by simpa using h6
                omega
              refine wpS_bind (wpS_elem (σ := Unit) ea ?_)
              have J5 := J3.pushA Sa ea hle
              refine wpS_ite (fun h7 => ?_) (fun h7 => ?_)
              · exact wpS_pure ⟨S3, .inl ⟨_, rfl, J5.lastA Sb (by simpa using h7) hl⟩⟩
              have h7' := by simpa using h7
              refine wpS_ite (fun _ => ?_) (fun _ => ?_)
              · exact wpS_pure ⟨S3, .inr ⟨rfl, J5, h6', by dsimp only; omega, by dsimp only; omega⟩⟩
              · exact wpS_pure ⟨S3, _, _, _, _, _, _, rfl, J5, h6', by omega, by omega⟩
            · obtain rfl : k1 = 0 := by omega
              refine wpS_bind (wpS_elem (σ := Unit) ea ?_)
              have J5 := J2.pushA Sa ea hle
              refine wpS_ite (fun h7 => ?_) (fun h7 => ?_)
              · exact wpS_pure ⟨S3, .inl ⟨_, rfl, J5.lastA Sb (by simpa using h7) hl⟩⟩
              have h7' := by simpa using h7
              refine wpS_ite (fun _ => ?_) (fun _ => ?_)
              · exact wpS_pure ⟨S3, .inr ⟨rfl, J5, h5', by dsimp only; omega, by dsimp only; omega⟩⟩
              · exact wpS_pure ⟨S3, _, _, _, _, _, _, rfl, J5, h5', by omega, by omega⟩
end
end L2

namespace L2
open PySem PySem.Spec PyProof.Rows
section
variable {M : Model} {A : Around} {E : Value → Shared → Prop} {s : Shared} {kd : SortKind} {rk : Keyed → Int} {a₀ : Array Keyed}
structure MH (rk : Keyed → Int) (a b out : Array Keyed) (na nb : Nat) : Prop where
  ha : na ≤ a.size
  hb : nb ≤ b.size
  so : PwL rk out.toList.reverse
  le : ∀ p ∈ a.toList.take na ++ b.toList.take nb, ∀ q ∈ out.toList, rk p ≤ rk q
  pm : ((a.toList.take na ++ b.toList.take nb) ++ out.toList.reverse).Perm (a.toList ++ b.toList)
theorem take_split {α : Type} (l : List α) {i n : Nat} (h : i ≤ n) : l.take n = l.take i ++ (l.drop i).take (n - i) := by
  rw [List.take_drop, show i + (n - i) = n by omega]
  conv => lhs; rw [← List.take_append_drop i (l.take n)]
  rw [List.take_take, Nat.min_eq_left h]
theorem ext_mid (a : Array Keyed) {i n : Nat} (h : i ≤ n) : (a.extract i n).toList = (a.toList.drop i).take (n - i) := by
  rw [Array.toList_extract, List.extract_eq_drop_take]
theorem MH.takeA {a b out : Array Keyed} {na nb : Nat} (h : MH rk a b out na nb) (Sa : PwL rk a.toList) (i : Nat) (hi : i ≤ na) (hc : ∀ q ∈ (a.toList.drop i).take (na - i), ∀ p ∈ b.toList.take nb, rk p ≤ rk q) : MH rk a b (out ++ (a.extract i na).reverse) i nb := by
  have e := take_split a.toList hi
  have Sd : PwL rk (a.toList.take na) := Sa.sublist (List.take_sublist _ _)
  rw [e] at Sd
  obtain ⟨s1, s2, s3⟩ := List.pairwise_append.mp Sd
  have tl : (out ++ (a.extract i na).reverse).toList = out.toList ++ ((a.toList.drop i).take (na - i)).reverse := by rw [Array.toList_append, Array.toList_reverse, ext_mid a hi]
  have rl : (out ++ (a.extract i na).reverse).toList.reverse = (a.toList.drop i).take (na - i) ++ out.toList.reverse := by rw [tl, List.reverse_append, List.reverse_reverse]
  refine ⟨by have := h.ha; omega, h.hb, ?_, ?_, ?_⟩
  · rw [rl]
    exact List.pairwise_append.mpr ⟨s2, h.so, fun p hp q hq => h.le p (List.mem_append_left _ (by rw [e]; exact List.mem_append_right _ hp)) q (List.mem_reverse.mp hq)⟩
  · rw [tl]
    intro p hp q hq
    rcases List.mem_append.mp hq with hq | hq
    · refine h.le p ?_ q hq
      rcases List.mem_append.mp hp with hp | hp
      · exact List.mem_append_left _ (by rw [e]; exact List.mem_append_left _ hp)
      · exact List.mem_append_right _ hp
    · have hq := List.mem_reverse.mp hq
      rcases List.mem_append.mp hp with hp | hp
      · exact s3 p hp q hq
      · exact hc q hq p hp
  · rw [rl]
    refine List.Perm.trans ?_ h.pm
    conv => rhs; rw [e]
    rw [← List.append_assoc]
    refine List.Perm.append_right _ ?_
    rw [List.append_assoc, List.append_assoc]
    exact List.Perm.append_left _ List.perm_append_comm
theorem MH.takeB {a b out : Array Keyed} {na nb : Nat} (h : MH rk a b out na nb) (Sb : PwL rk b.toList) (i : Nat) (hi : i ≤ nb) (hc : ∀ q ∈ (b.toList.drop i).take (nb - i), ∀ p ∈ a.toList.take na, rk p ≤ rk q) : MH rk a b (out ++ (b.extract i nb).reverse) na i := by
  have e := take_split b.toList hi
  have Sd : PwL rk (b.toList.take nb) := Sb.sublist (List.take_sublist _ _)
  rw [e] at Sd
  obtain ⟨s1, s2, s3⟩ := List.pairwise_append.mp Sd
  have tl : (out ++ (b.extract i nb).reverse).toList = out.toList ++ ((b.toList.drop i).take (nb - i)).reverse := by rw [Array.toList_append, Array.toList_reverse, ext_mid b hi]
  have rl : (out ++ (b.extract i nb).reverse).toList.reverse = (b.toList.drop i).take (nb - i) ++ out.toList.reverse := by rw [tl, List.reverse_append, List.reverse_reverse]
  refine ⟨h.ha, by have := h.hb; omega, ?_, ?_, ?_⟩
  · rw [rl]
    exact List.pairwise_append.mpr ⟨s2, h.so, fun p hp q hq => h.le p (List.mem_append_right _ (by rw [e]; exact List.mem_append_right _ hp)) q (List.mem_reverse.mp hq)⟩
  · rw [tl]
    intro p hp q hq
    rcases List.mem_append.mp hq with hq | hq
    · refine h.le p ?_ q hq
      rcases List.mem_append.mp hp with hp | hp
      · exact List.mem_append_left _ hp
      · exact List.mem_append_right _ (by rw [e]; exact List.mem_append_left _ hp)
    · have hq := List.mem_reverse.mp hq
      rcases List.mem_append.mp hp with hp | hp
      · exact hc q hq p hp
      · exact s3 p hp q hq
  · rw [rl]
    refine List.Perm.trans (List.Perm.of_eq ?_) h.pm
    conv => rhs; rw [e]
    simp only [List.append_assoc]
theorem push_rev {out a : Array Keyed} {n : Nat} {p : Keyed} (hn : 1 ≤ n) (h : a[n - 1]? = some p) : out.push p = out ++ (a.extract (n - 1) n).reverse := by
  rw [push_ext h, show n - 1 + 1 = n by omega]
  congr 1
  apply Array.ext'
  rw [Array.toList_reverse, ext_mid a (by omega), show n - (n - 1) = 1 by omega]
  obtain ⟨hi, e⟩ := Array.getElem?_eq_some_iff.mp h
  rw [List.drop_eq_getElem_cons (by simpa using hi)]
  simp
theorem take_le {a : Array Keyed} {n : Nat} {p q : Keyed} (Sa : PwL rk a.toList) (hn : 1 ≤ n) (h : a[n - 1]? = some p) (hq : q ∈ a.toList.take n) : rk q ≤ rk p := by
  obtain ⟨hi, e⟩ := Array.getElem?_eq_some_iff.mp h
  obtain ⟨k, hk, ek⟩ := List.mem_iff_getElem.mp hq
  have hk' : k < n ∧ k < a.size := by simp at hk; omega
  have hqk : a[k]? = some q := by rw [getElem?_pos a k hk'.2, ← ek]; simp
  refine drop_le Sa hqk ?_
  rw [← e]
  exact List.mem_iff_getElem.mpr ⟨n - 1 - k, by simp; omega, by simp [show k + (n - 1 - k) = n - 1 by omega]⟩
theorem MH.pushA {a b out : Array Keyed} {na nb : Nat} {p : Keyed} (h : MH rk a b out na nb) (Sa : PwL rk a.toList) (hn : 1 ≤ na) (e : a[na - 1]? = some p) (hc : ∀ q ∈ b.toList.take nb, rk q ≤ rk p) : MH rk a b (out.push p) (na - 1) nb := by
  rw [push_rev hn e]
  refine h.takeA Sa (na - 1) (by omega) fun q hq r hr => ?_
  rw [show na - (na - 1) = 1 by omega] at hq
  rw [take1 e hq]; exact hc r hr
theorem MH.pushB {a b out : Array Keyed} {na nb : Nat} {p : Keyed} (h : MH rk a b out na nb) (Sb : PwL rk b.toList) (hn : 1 ≤ nb) (e : b[nb - 1]? = some p) (hc : ∀ q ∈ a.toList.take na, rk q ≤ rk p) : MH rk a b (out.push p) na (nb - 1) := by
  rw [push_rev hn e]
  refine h.takeB Sb (nb - 1) (by omega) fun q hq r hr => ?_
  rw [show nb - (nb - 1) = 1 by omega] at hq
  rw [take1 e hq]; exact hc r hr
theorem ext0 (a : Array Keyed) (n : Nat) : (a.extract 0 n).toList = a.toList.take n := by
  rw [ext_mid a (Nat.zero_le n), List.drop_zero, Nat.sub_zero]
theorem MH.doneA {a b out : Array Keyed} {na nb : Nat} (h : MH rk a b out na nb) (Sb : PwL rk b.toList) (e : na = 0) : Res rk a b (a.extract 0 na ++ b.extract 0 nb ++ out.reverse) := by
  unfold Res
  rw [Array.toList_append, Array.toList_append, ext0, ext0, Array.toList_reverse]
  refine ⟨?_, h.pm⟩
  have : a.toList.take na = [] := by rw [e]; rfl
  rw [this, List.nil_append]
  exact List.pairwise_append.mpr ⟨Sb.sublist (List.take_sublist _ _), h.so, fun p hp q hq => h.le p (List.mem_append_right _ hp) q (List.mem_reverse.mp hq)⟩
theorem MH.doneB {a b out : Array Keyed} {na nb : Nat} (h : MH rk a b out na nb) (Sa : PwL rk a.toList) (e : nb = 0) : Res rk a b (a.extract 0 na ++ b.extract 0 nb ++ out.reverse) := by
  unfold Res
  rw [Array.toList_append, Array.toList_append, ext0, ext0, Array.toList_reverse]
  refine ⟨?_, h.pm⟩
  have : b.toList.take nb = [] := by rw [e]; rfl
  rw [this, List.append_nil]
  exact List.pairwise_append.mpr ⟨Sa.sublist (List.take_sublist _ _), h.so, fun p hp q hq => h.le p (List.mem_append_left _ hp) q (List.mem_reverse.mp hq)⟩
theorem MH.firstB {a b out : Array Keyed} {na nb : Nat} (h : MH rk a b out na nb) (Sa : PwL rk a.toList) (e : nb = 1) (hf : ∀ p, b[0]? = some p → ∀ q ∈ a.toList, rk p ≤ rk q) : Res rk a b (b.extract 0 nb ++ a.extract 0 na ++ out.reverse) := by
  unfold Res
  rw [Array.toList_append, Array.toList_append, ext0, ext0, Array.toList_reverse]
  have hi : 0 < b.size := by have := h.hb; omega
  have eb : b.toList.take nb = [b[0]] := by
    rw [e]
    have := List.drop_eq_getElem_cons (l := b.toList) (i := 0) (by simpa using hi)
    rw [List.drop_zero] at this
    rw [this]; simp
  refine ⟨?_, (List.Perm.append_right _ List.perm_append_comm).trans h.pm⟩
  refine List.pairwise_append.mpr ⟨List.pairwise_append.mpr ⟨by rw [eb]; exact List.pairwise_singleton _ _, Sa.sublist (List.take_sublist _ _), fun p hp q hq => ?_⟩, h.so, fun p hp q hq => h.le p ?_ q (List.mem_reverse.mp hq)⟩
  · rw [eb] at hp
    rw [List.mem_singleton.mp hp]
    exact hf _ (getElem?_pos b 0 hi) q (List.mem_of_mem_take hq)
  · rcases List.mem_append.mp hp with hp | hp
    · exact List.mem_append_right _ hp
    · exact List.mem_append_left _ hp
theorem mid_at {a : Array Keyed} {i k : Nat} {q : Keyed} (hq : q ∈ (a.toList.drop i).take k) : ∃ j, i ≤ j ∧ j < i + k ∧ a[j]? = some q := by
  obtain ⟨j, hj, e⟩ := take_at hq
  exact ⟨i + j, by omega, by omega, e⟩
theorem pre_at {a : Array Keyed} {n : Nat} {q : Keyed} (hq : q ∈ a.toList.take n) : ∃ j, j < n ∧ a[j]? = some q := by
  obtain ⟨k, hk, e⟩ := List.mem_iff_getElem.mp hq
  have hk' : k < n ∧ k < a.size := by simp at hk; omega
  exact ⟨k, hk'.1, by rw [getElem?_pos a k hk'.2, ← e]; simp⟩
noncomputable def GoH (rk : Keyed → Int) (a b : Array Keyed) (n : Nat) (r : Option (Array Keyed)) (na nb : Nat) (out : Array Keyed) : Prop := (∃ x, r = some x ∧ Res rk a b x) ∨ (r = none ∧ MH rk a b out na nb ∧ 1 ≤ na ∧ 2 ≤ nb ∧ n + na + nb ≤ a.size + b.size)
theorem wpS_mergeHi {a b : Array Keyed} {st : SortSt} {Q : Array Keyed → SortSt → Prop} (L : LtOk M A E s kd rk a₀) (ha : ∀ p ∈ a.toList, p ∈ a₀.toList) (hb : ∀ p ∈ b.toList, p ∈ a₀.toList) (Sa : PwL rk a.toList) (Sb : PwL rk b.toList)
    (n1 : 1 ≤ a.size) (n2 : 1 ≤ b.size) (hf : ∀ p, b[0]? = some p → ∀ q ∈ a.toList, rk p ≤ rk q) (hl : ∀ p, a[a.size - 1]? = some p → ∀ q ∈ b.toList, rk q ≤ rk p) (kind : kindOf st = kd)
    (h : ∀ r st', Sm st st' → Res rk a b r → Q r st') : wpS M A E s (mergeHi' a b) Q st := by
  have atA : ∀ {i : Nat}, i < a.size → ∃ p, a[i]? = some p ∧ p ∈ a₀.toList := fun {i} hi => ⟨a[i], getElem?_pos a i hi, ha _ (by simp)⟩
  have atB : ∀ {i : Nat}, i < b.size → ∃ p, b[i]? = some p ∧ p ∈ a₀.toList := fun {i} hi => ⟨b[i], getElem?_pos b i hi, hb _ (by simp)⟩
  have KA : ∀ {i : Nat} {p : Keyed}, a[i]? = some p → Kr rk a i = rk p := fun e => Kr_at e
  have SKa : ∀ i j, i ≤ j → j < a.size → Kr rk a i ≤ Kr rk a j := fun i j hij hj => by
    obtain ⟨p, ep, _⟩ := atA (show i < a.size by omega)
    obtain ⟨q, eq, _⟩ := atA hj
    rw [Kr_at ep, Kr_at eq]
    refine drop_le Sa ep ?_
    obtain ⟨hq, e⟩ := Array.getElem?_eq_some_iff.mp eq
    rw [← e]
    exact List.mem_iff_getElem.mpr ⟨j - i, by simp; omega, by simp [show i + (j - i) = j by omega]⟩
  have SKb : ∀ i j, i ≤ j → j < b.size → Kr rk b i ≤ Kr rk b j := fun i j hij hj => by
    obtain ⟨p, ep, _⟩ := atB (show i < b.size by omega)
    obtain ⟨q, eq, _⟩ := atB hj
    rw [Kr_at ep, Kr_at eq]
    refine drop_le Sb ep ?_
    obtain ⟨hq, e⟩ := Array.getElem?_eq_some_iff.mp eq
    rw [← e]
    exact List.mem_iff_getElem.mpr ⟨j - i, by simp; omega, by simp [show i + (j - i) = j by omega]⟩
  refine wpS_bind (wpS_lift (wpAny_rule ⟨rfl, ?_⟩))
  dsimp only
  obtain ⟨p0, e0, m0⟩ := atA (i := a.size - 1) (by omega)
  refine wpS_bind (wpS_elem (σ := Unit) e0 ?_)
  have I0 : MH rk a b #[p0] (a.size - 1) b.size := by
    have Z : MH rk a b #[] a.size b.size := ⟨Nat.le_refl _, Nat.le_refl _, List.Pairwise.nil, fun p _ q hq => by simp at hq, by
      rw [List.take_of_length_le (by simp), List.take_of_length_le (by simp)]; simp⟩
    exact Z.pushA Sa n1 e0 fun q hq => hl p0 e0 q (List.mem_of_mem_take hq)
  by_cases h1 : a.size - 1 = 0
  · rw [if_pos (by simpa using h1)]
    exact wpS_pure (h _ _ (Sm.refl _) (I0.doneA Sb h1))
  rw [if_neg (by simpa using h1)]
  by_cases h2 : b.size = 1
  · rw [if_pos (by simpa using h2)]
    exact wpS_pure (h _ _ (Sm.refl _) (I0.firstB Sa h2 hf))
  rw [if_neg (by simpa using h2)]
  refine wpS_bind (wpS_get ?_)
  refine wpS_bind (wpS_mono (wpS_forRange (I := fun x c st' => Sm st st' ∧ ∃ na nb out mg, c = (none, na, nb, out, mg) ∧ MH rk a b out na nb ∧ 1 ≤ na ∧ 2 ≤ nb ∧ x + 1 + na + nb ≤ a.size + b.size)
      (Q := fun c st' => Sm st st' ∧ ∃ r, c.1 = some r ∧ Res rk a b r) ?step ?fin ⟨Sm.refl _, _, _, _, _, rfl, I0, by omega, by omega, by omega⟩) ?post)
  case fin =>
    rintro c st' ⟨_, na, nb, out, mg, rfl, I, x1, x2, x3⟩
    exact absurd x3 (by omega)
  case post =>
    rintro ⟨r0, c⟩ st' ⟨S, r, rfl, hr⟩
    exact wpS_pure (h r st' S hr)
  case step =>
    rintro x c st1 _ hx ⟨S1, na, nb, out, mg, rfl, I, x1, x2, x3⟩
    dsimp only
    have kd1 : kindOf st1 = kd := S1.kind.trans kind
    refine wpS_bind (wpS_mono (wpS_forRange (I := fun y c st' => st' = st1 ∧ ∃ na' nb' out' ac bc, c = (none, na', nb', out', ac, bc) ∧ MH rk a b out' na' nb' ∧ 1 ≤ na' ∧ 2 ≤ nb' ∧ x + 1 + y + na' + nb' ≤ a.size + b.size)
      (Q := fun c st' => st' = st1 ∧ GoH rk a b (x + 2) c.1 c.2.1 c.2.2.1 c.2.2.2.1) ?istep ?ifin ⟨rfl, _, _, _, _, _, rfl, I, x1, x2, by omega⟩) ?ipost)
    case ifin =>
      rintro c st' ⟨rfl, na', nb', out', ac, bc, rfl, I', y1, y2, y3⟩
      exact ⟨rfl, .inr ⟨rfl, I', y1, y2, by dsimp only; omega⟩⟩
    case istep =>
      rintro y c st' _ hy ⟨rfl, na', nb', out', ac, bc, rfl, I', y1, y2, y3⟩
      dsimp only
      obtain ⟨pb, eb, mb⟩ := atB (i := nb' - 1) (by have := I'.hb; omega)
      obtain ⟨pa, ea, ma⟩ := atA (i := na' - 1) (by have := I'.ha; omega)
      refine wpS_bind (wpS_elem (σ := Unit) eb (wpS_bind (wpS_elem (σ := Unit) ea (wpS_bind (L _ _ _ _ mb ma kd1 ?_)))))
      dsimp only
      refine wpS_ite (fun hw => ?_) (fun hw => ?_)
      · have hw := of_decide_eq_true hw
        refine wpS_bind (wpS_elem (σ := Unit) ea ?_)
        have I2 := I'.pushA Sa y1 ea fun q hq => Int.le_trans (take_le Sb (by omega) eb hq) (by omega)
        refine wpS_ite (fun h3 => ?_) (fun h3 => ?_)
        · exact wpS_pure ⟨rfl, .inl ⟨_, rfl, I2.doneA Sb (by simpa using h3)⟩⟩
        have h3' : ¬ na' - 1 = 0 := by simpa using h3
        refine wpS_ite (fun _ => ?_) (fun _ => ?_)
        · exact wpS_pure ⟨rfl, .inr ⟨rfl, I2, by dsimp only; omega, by dsimp only; omega, by dsimp only; omega⟩⟩
        · exact wpS_pure ⟨rfl, _, _, _, _, _, rfl, I2, by omega, by omega, by omega⟩
      · have hw : ¬ rk pb < rk pa := fun z => hw (decide_eq_true z)
        refine wpS_bind (wpS_elem (σ := Unit) eb ?_)
        have I2 := I'.pushB Sb (by omega) eb fun q hq => Int.le_trans (take_le Sa y1 ea hq) (by omega)
        refine wpS_ite (fun h3 => ?_) (fun h3 => ?_)
        · exact wpS_pure ⟨rfl, .inl ⟨_, rfl, I2.firstB Sa (by simpa using h3) hf⟩⟩
        have h3' : ¬ nb' - 1 = 1 := by simpa using h3
        refine wpS_ite (fun _ => ?_) (fun _ => ?_)
        · exact wpS_pure ⟨rfl, .inr ⟨rfl, I2, by dsimp only; omega, by dsimp only; omega, by dsimp only; omega⟩⟩
        · exact wpS_pure ⟨rfl, _, _, _, _, _, rfl, I2, by omega, by omega, by omega⟩
    case ipost =>
      rintro ⟨r0, na1, nb1, out1, ac1, bc1⟩ st' ⟨rfl, G⟩
      dsimp only at G ⊢
      rcases G with ⟨r, rfl, hr⟩ | ⟨rfl, I1, y1, y2, y3⟩
      · exact wpS_pure ⟨S1, r, rfl, hr⟩
      dsimp only
      refine wpS_bind (wpS_lift (wpAny_rule ⟨rfl, ?_⟩))
      refine wpS_bind (wpS_mono (wpS_forRange (I := fun y c st' => Sm st st' ∧ ∃ na' nb' out' mg ac bc, c = (none, na', nb', out', mg, ac, bc) ∧ MH rk a b out' na' nb' ∧ 1 ≤ na' ∧ 2 ≤ nb' ∧ x + 2 + na' + nb' ≤ a.size + b.size)
        (Q := fun c st' => Sm st st' ∧ GoH rk a b (x + 2) c.1 c.2.1 c.2.2.1 c.2.2.2.1) ?gstep ?gfin ⟨S1, _, _, _, _, _, _, rfl, I1, y1, y2, y3⟩) ?gpost)
      case gfin =>
        rintro c st' ⟨S2, na', nb', out', mg', ac, bc, rfl, I', y1, y2, y3⟩
        exact ⟨S2, .inr ⟨rfl, I', y1, y2, y3⟩⟩
      case gpost =>
        rintro ⟨r0, na1, nb1, out1, mg1, ac1, bc1⟩ st' ⟨S2, G⟩
        dsimp only at G ⊢
        rcases G with ⟨r, rfl, hr⟩ | ⟨rfl, I1, y1, y2, y3⟩
        · exact wpS_pure ⟨S2, r, rfl, hr⟩
        dsimp only
        refine wpS_bind (wpS_setG S2 fun st2 S3 => ?_)
        exact wpS_pure ⟨S3, _, _, _, _, rfl, I1, y1, y2, by omega⟩
      case gstep =>
        rintro y c st' _ hy ⟨S2, na', nb', out', mg', ac, bc, rfl, I', y1, y2, y3⟩
        dsimp only
        obtain ⟨pb, eb, mb⟩ := atB (i := nb' - 1) (by have := I'.hb; omega)
        have hna := I'.ha
        have hnb := I'.hb
        refine wpS_ite (fun _ => ?_) (fun _ => ?_)
        all_goals
          refine wpS_bind (wpS_setG S2 fun st3 S3 => ?_)
          have kd3 : kindOf st3 = kd := S3.kind.trans kind
          refine wpS_bind (wpS_elem (σ := Unit) eb ?_)
          refine wpS_bind (wpS_gallop (fun i => decide (Kr rk a (0 + i) ≤ rk pb)) (by omega) (fun i R hi r => wpS_bey L mb ha (by omega) kd3 (by simpa using r)) (fun i j hij hj hq => decide_eq_true (Int.le_trans (SKa _ _ (by omega) (by omega)) (of_decide_eq_true hq))) fun k hk hk1 hk2 => ?_)
          dsimp only
          have I2 := I'.takeA Sa k (by omega) fun q hq p hp => by
            obtain ⟨j, h3, h4, e⟩ := mid_at hq
            have := of_decide_eq_false (hk2 j (by omega) (by omega))
            rw [Nat.zero_add, Kr_at e] at this
            exact Int.le_trans (take_le Sb (by omega) eb hp) (by omega)
          have hgt : ∀ q ∈ a.toList.take k, rk q ≤ rk pb := fun q hq => by
            obtain ⟨j, h3, e⟩ := pre_at hq
            have := of_decide_eq_true (hk1 j h3)
            rw [Nat.zero_add, Kr_at e] at this
            exact this
          refine wpS_ite (fun hk0 => ?_) (fun hk0 => ?_)
          · refine wpS_ite (fun h3 => ?_) (fun h3 => ?_)
            · exact wpS_pure ⟨S3, .inl ⟨_, rfl, I2.doneA Sb (by simpa using h3)⟩⟩
            have h3' : ¬ k = 0 := by simpa using h3
            have hi1 : 1 ≤ k := by omega
            have J := I2
            have hg2 := hgt
            refine wpS_bind (wpS_elem (σ := Unit) eb ?_)
            have J2 := J.pushB Sb (by omega) eb hg2
            refine wpS_ite (fun h5 => ?_) (fun h5 => ?_)
            · exact wpS_pure ⟨S3, .inl ⟨_, rfl, J2.firstB Sa (by simpa using h5) hf⟩⟩
            have h5' : ¬ nb' - 1 = 1 := by simpa using h5
            obtain ⟨pa, ea, ma⟩ := atA (i := k - 1) (by have := J.ha; omega)
            refine wpS_bind (wpS_elem (σ := Unit) ea ?_)
            refine wpS_bind (wpS_gallop (fun i => decide (Kr rk b (0 + i) < rk pa)) (by omega) (fun i R hi r => wpS_bey L ma hb (by omega) kd3 (by simpa using r)) (fun i j hij hj hq => decide_eq_true (Int.lt_of_le_of_lt (SKb _ _ (by omega) (by omega)) (of_decide_eq_true hq))) fun k1 hk1 hk11 hk12 => ?_)
            dsimp only
            have J3 := J2.takeB Sb k1 (by omega) fun q hq p hp => by
              obtain ⟨j, h3, h4, e⟩ := mid_at hq
              have := of_decide_eq_false (hk12 j (by omega) (by omega))
              rw [Nat.zero_add, Kr_at e] at this
              exact Int.le_trans (take_le Sa hi1 ea hp) (by omega)
            have hle : ∀ q ∈ b.toList.take k1, rk q ≤ rk pa := fun q hq => by
              obtain ⟨j, h3, e⟩ := pre_at hq
              have := of_decide_eq_true (hk11 j h3)
              rw [Nat.zero_add, Kr_at e] at this
              omega
            refine wpS_ite (fun hk10 => ?_) (fun hk10 => ?_)
            · refine wpS_ite (fun h6 => ?_) (fun h6 => wpS_ite (fun h8 => ?_) (fun h8 => ?_))
              · exact wpS_pure ⟨S3, .inl ⟨_, rfl, J3.firstB Sa (by simpa using h6) hf⟩⟩
              · exact wpS_pure ⟨S3, .inl ⟨_, rfl, J3.doneB Sa (by simpa using h8)⟩⟩
              have h6' : ¬ k1 = 1 := by simpa using h6
              have h8' : ¬ k1 = 0 := by simpa using h8
              refine wpS_bind (wpS_elem (σ := Unit) ea ?_)
              have J5 := J3.pushA Sa hi1 ea hle
              refine wpS_ite (fun h7 => ?_) (fun h7 => ?_)
              · exact wpS_pure ⟨S3, .inl ⟨_, rfl, J5.doneA Sb (by simpa using h7)⟩⟩
              have h7' : ¬ k - 1 = 0 := by simpa using h7
              refine wpS_ite (fun _ => ?_) (fun _ => ?_)
              · exact wpS_pure ⟨S3, .inr ⟨rfl, J5, by dsimp only; omega, by dsimp only; omega, by dsimp only; omega⟩⟩
              · exact wpS_pure ⟨S3, _, _, _, _, _, _, rfl, J5, by omega, by omega, by omega⟩
            · obtain rfl : k1 = nb' - 1 := by omega
              refine wpS_bind (wpS_elem (σ := Unit) ea ?_)
              have J5 := J2.pushA Sa hi1 ea hle
              refine wpS_ite (fun h7 => ?_) (fun h7 => ?_)
              · exact wpS_pure ⟨S3, .inl ⟨_, rfl, J5.doneA Sb (by simpa using h7)⟩⟩
              have h7' : ¬ k - 1 = 0 := by simpa using h7
              refine wpS_ite (fun _ => ?_) (fun _ => ?_)
              · exact wpS_pure ⟨S3, .inr ⟨rfl, J5, by dsimp only; omega, by dsimp only; omega, by dsimp only; omega⟩⟩
              · exact wpS_pure ⟨S3, _, _, _, _, _, _, rfl, J5, by omega, by omega, by omega⟩
          · obtain rfl : k = na' := by omega
            have hi1 : 1 ≤ k := y1
            have J := I'
            have hg2 := hgt
            refine wpS_bind (wpS_elem (σ := Unit) eb ?_)
            have J2 := J.pushB Sb (by omega) eb hg2
            refine wpS_ite (fun h5 => ?_) (fun h5 => ?_)
            · exact wpS_pure ⟨S3, .inl ⟨_, rfl, J2.firstB Sa (by simpa using h5) hf⟩⟩
            have h5' : ¬ nb' - 1 = 1 := by simpa using h5
            obtain ⟨pa, ea, ma⟩ := atA (i := k - 1) (by have := J.ha; omega)
            refine wpS_bind (wpS_elem (σ := Unit) ea ?_)
            refine wpS_bind (wpS_gallop (fun i => decide (Kr rk b (0 + i) < rk pa)) (by omega) (fun i R hi r => wpS_bey L ma hb (by omega) kd3 (by simpa using r)) (fun i j hij hj hq => decide_eq_true (Int.lt_of_le_of_lt (SKb _ _ (by omega) (by omega)) (of_decide_eq_true hq))) fun k1 hk1 hk11 hk12 => ?_)
            dsimp only
            have J3 := J2.takeB Sb k1 (by omega) fun q hq p hp => by
              obtain ⟨j, h3, h4, e⟩ := mid_at hq
              have := of_decide_eq_false (hk12 j (by omega) (by omega))
              rw [Nat.zero_add, Kr_at e] at this
              exact Int.le_trans (take_le Sa hi1 ea hp) (by omega)
            have hle : ∀ q ∈ b.toList.take k1, rk q ≤ rk pa := fun q hq => by
              obtain ⟨j, h3, e⟩ := pre_at hq
              have := of_decide_eq_true (hk11 j h3)
              rw [Nat.zero_add, Kr_at e] at this
              omega
            refine wpS_ite (fun hk10 => ?_) (fun hk10 => ?_)
            · refine wpS_ite (fun h6 => ?_) (fun h6 => wpS_ite (fun h8 => ?_) (fun h8 => ?_))
              · exact wpS_pure ⟨S3, .inl ⟨_, rfl, J3.firstB Sa (by simpa using h6) hf⟩⟩
              · exact wpS_pure ⟨S3, .inl ⟨_, rfl, J3.doneB Sa (by simpa using h8)⟩⟩
              have h6' : ¬ k1 = 1 := by simpa using h6
              have h8' : ¬ k1 = 0 := by simpa using h8
              refine wpS_bind (wpS_elem (σ := Unit) ea ?_)
              have J5 := J3.pushA Sa hi1 ea hle
              refine wpS_ite (fun h7 => ?_) (fun h7 => ?_)
              · exact wpS_pure ⟨S3, .inl ⟨_, rfl, J5.doneA Sb (by simpa using h7)⟩⟩
              have h7' : ¬ k - 1 = 0 := by simpa using h7
              refine wpS_ite (fun _ => ?_) (fun _ => ?_)
              · exact wpS_pure ⟨S3, .inr ⟨rfl, J5, by dsimp only; omega, by dsimp only; omega, by dsimp only; omega⟩⟩
              · exact wpS_pure ⟨S3, _, _, _, _, _, _, rfl, J5, by omega, by omega, by omega⟩
            · obtain rfl : k1 = nb' - 1 := by omega
              refine wpS_bind (wpS_elem (σ := Unit) ea ?_)
              have J5 := J2.pushA Sa hi1 ea hle
              refine wpS_ite (fun h7 => ?_) (fun h7 => ?_)
              · exact wpS_pure ⟨S3, .inl ⟨_, rfl, J5.doneA Sb (by simpa using h7)⟩⟩
              have h7' : ¬ k - 1 = 0 := by simpa using h7
              refine wpS_ite (fun _ => ?_) (fun _ => ?_)
              · exact wpS_pure ⟨S3, .inr ⟨rfl, J5, by dsimp only; omega, by dsimp only; omega, by dsimp only; omega⟩⟩
              · exact wpS_pure ⟨S3, _, _, _, _, _, _, rfl, J5, by omega, by omega, by omega⟩
end
end L2

namespace L2
open PySem PySem.Spec PyProof.Rows
section
variable {M : Model} {A : Around} {E : Value → Shared → Prop} {s : Shared} {kd : SortKind} {rk : Keyed → Int} {a₀ : Array Keyed}
theorem Kr_list (xs : Array Keyed) (i : Nat) : Kr rk xs i = match xs.toList[i]? with | some p => rk p | none => 0 := by
  unfold Kr
  rw [Array.getElem?_toList]
  all_goals (cases xs[i]? <;> rfl)
theorem seg_pw {xs : Array Keyed} {lo hi : Nat} (h : Seg rk xs lo hi) : PwL rk ((xs.toList.drop lo).take (hi - lo)) := by
  refine List.pairwise_iff_getElem.mpr fun i j hi' hj hij => ?_
  have hj2 : j < hi - lo ∧ lo + j < xs.size := by simp at hj; omega
  have := h (lo + i) (lo + j) (by omega) (by omega) (by omega)
  rw [Kr_at (getElem?_pos xs (lo + i) (by omega)), Kr_at (getElem?_pos xs (lo + j) hj2.2)] at this
  simpa using this
theorem pw_seg {xs : Array Keyed} {P S D : List Keyed} (e : xs.toList = P ++ S ++ D) (h : PwL rk S) : Seg rk xs P.length (P.length + S.length) := by
  intro i j h1 h2 h3
  have at_ : ∀ k, P.length ≤ k → k < P.length + S.length → xs.toList[k]? = S[k - P.length]? := fun k a b => by
    rw [e, List.append_assoc, List.getElem?_append_right a, List.getElem?_append_left (by omega)]
  have hi : i - P.length < S.length := by omega
  have hj : j - P.length < S.length := by omega
  rw [Kr_list, Kr_list, at_ i h1 (by omega), at_ j (by omega) h3, List.getElem?_eq_getElem hi, List.getElem?_eq_getElem hj]
  show rk _ ≤ rk _
  by_cases hij : i = j
  · subst hij; exact Int.le_refl _
  · exact List.pairwise_iff_getElem.mp h _ _ hi hj (by omega)
theorem put_at : ∀ (l : List Keyed) (off n : Nat) (xs : Array Keyed), off + n + l.length ≤ xs.size → ∀ k, ((l.zipIdx n).foldl (fun a (x : Keyed × Nat) => a.setIfInBounds (off + x.2) x.1) xs)[k]? = if off + n ≤ k ∧ k < off + n + l.length then l[k - (off + n)]? else xs[k]?
  | [], off, n, xs, h, k => by
    rw [if_neg (by rw [List.length_nil]; omega)]
    rfl
  | p :: l, off, n, xs, h, k => by
    have hl : (p :: l).length = l.length + 1 := rfl
    show ((l.zipIdx (n + 1)).foldl (fun a (x : Keyed × Nat) => a.setIfInBounds (off + x.2) x.1) (xs.setIfInBounds (off + n) p))[k]? = _
    rw [put_at l off (n + 1) (xs.setIfInBounds (off + n) p) (by rw [Array.size_setIfInBounds]; omega)]
    by_cases h1 : k = off + n
    · subst h1
      rw [if_neg (by omega), if_pos (by omega), Array.getElem?_setIfInBounds, if_pos rfl, if_pos (by omega), Nat.sub_self]; rfl
    · by_cases h2 : off + (n + 1) ≤ k ∧ k < off + (n + 1) + l.length
      · rw [if_pos h2, if_pos (by omega), show k - (off + n) = (k - (off + (n + 1))) + 1 by omega, List.getElem?_cons_succ]
      · rw [if_neg h2, if_neg (by omega), Array.getElem?_setIfInBounds, if_neg (by omega)]
theorem put_list (l : List Keyed) (off : Nat) (xs : Array Keyed) (h : off + l.length ≤ xs.size) : (l.zipIdx.foldl (fun a (x : Keyed × Nat) => a.setIfInBounds (off + x.2) x.1) xs).toList = xs.toList.take off ++ l ++ xs.toList.drop (off + l.length) := by
  refine List.ext_getElem? fun k => ?_
  rw [Array.getElem?_toList, put_at l off 0 xs (by omega) k]
  have t1 : (xs.toList.take off).length = off := by rw [List.length_take, Array.length_toList]; omega
  rw [List.append_assoc]
  by_cases h1 : k < off
  · rw [if_neg (by omega), List.getElem?_append_left (by omega), List.getElem?_take_of_lt h1, Array.getElem?_toList]
  · rw [List.getElem?_append_right (by omega), t1]
    by_cases h2 : k < off + l.length
    · rw [if_pos ⟨by omega, by omega⟩, List.getElem?_append_left (by omega), Nat.add_zero]
    · rw [if_neg (by omega), List.getElem?_append_right (by omega), List.getElem?_drop, show off + l.length + (k - off - l.length) = k by omega, Array.getElem?_toList]
theorem seg_two {xs : Array Keyed} {sa na nb : Nat} (g1 : Seg rk xs sa (sa + na)) (g2 : Seg rk xs (sa + na) (sa + na + nb)) (n2 : 1 ≤ nb) (h : ∀ i, sa ≤ i → i < sa + na → Kr rk xs i ≤ Kr rk xs (sa + na)) : Seg rk xs sa (sa + na + nb) := fun i j h1 h2 h3 => by
  by_cases a : j < sa + na
  · exact g1 i j h1 h2 a
  · by_cases b : i < sa + na
    · exact Int.le_trans (h i h1 b) (g2 _ _ (Nat.le_refl _) (by omega) h3)
    · exact g2 i j (by omega) h2 h3
theorem merged_ok {xs m : Array Keyed} {sa na nb k n' : Nat} (hsz : sa + na + nb ≤ xs.size) (g1 : Seg rk xs sa (sa + na)) (g2 : Seg rk xs (sa + na) (sa + na + nb)) (hk : k < na) (hn : n' ≤ nb) (n2 : 1 ≤ nb)
    (hA : ∀ i, i < k → Kr rk xs (sa + i) ≤ Kr rk xs (sa + na)) (hX : ∀ i, k ≤ i → i < na → Kr rk xs (sa + na) < Kr rk xs (sa + i)) (hB2 : ∀ i, n' ≤ i → i < nb → Kr rk xs (sa + na - 1) ≤ Kr rk xs (sa + na + i))
    (hm : Res rk (xs.extract (sa + k) (sa + na)) (xs.extract (sa + na) (sa + na + n')) m) :
    (m.toList.zipIdx.foldl (fun a (x : Keyed × Nat) => a.setIfInBounds (sa + k + x.2) x.1) xs).Perm xs ∧ Seg rk (m.toList.zipIdx.foldl (fun a (x : Keyed × Nat) => a.setIfInBounds (sa + k + x.2) x.1) xs) sa (sa + na + nb) ∧
    ∀ i, i < sa ∨ sa + na + nb ≤ i → Kr rk (m.toList.zipIdx.foldl (fun a (x : Keyed × Nat) => a.setIfInBounds (sa + k + x.2) x.1) xs) i = Kr rk xs i := by
  obtain ⟨hm1, hm2⟩ := hm
  rw [ext_mid xs (by omega), ext_mid xs (by omega), show sa + na - (sa + k) = na - k by omega, show sa + na + n' - (sa + na) = n' by omega] at hm2
  have lt : xs.toList.length = xs.size := by simp
  have lm : m.toList.length = na - k + n' := by
    rw [hm2.length_eq, List.length_append, List.length_take, List.length_take, List.length_drop, List.length_drop, lt]; omega
  have e := put_list m.toList (sa + k) xs (by omega)
  rw [lm, show sa + k + (na - k + n') = sa + na + n' by omega] at e
  generalize m.toList.zipIdx.foldl (fun a (x : Keyed × Nat) => a.setIfInBounds (sa + k + x.2) x.1) xs = W at e ⊢
  have t0 : xs.toList.take (sa + k) = xs.toList.take sa ++ (xs.toList.drop sa).take k := by
    have := take_split xs.toList (i := sa) (n := sa + k) (by omega)
    rwa [show sa + k - sa = k by omega] at this
  have t1 : xs.toList.take (sa + na) = xs.toList.take (sa + k) ++ (xs.toList.drop (sa + k)).take (na - k) := by
    have := take_split xs.toList (i := sa + k) (n := sa + na) (by omega)
    rwa [show sa + na - (sa + k) = na - k by omega] at this
  have t2 : xs.toList.drop (sa + na) = (xs.toList.drop (sa + na)).take n' ++ xs.toList.drop (sa + na + n') := drop_split _ _ _
  have t3 : xs.toList.drop (sa + na + n') = (xs.toList.drop (sa + na + n')).take (nb - n') ++ xs.toList.drop (sa + na + nb) := by
    have := drop_split xs.toList (sa + na + n') (nb - n')
    rwa [show sa + na + n' + (nb - n') = sa + na + nb by omega] at this
  have eW : W.toList = xs.toList.take sa ++ ((xs.toList.drop sa).take k ++ m.toList ++ (xs.toList.drop (sa + na + n')).take (nb - n')) ++ xs.toList.drop (sa + na + nb) := by
    rw [e, t0]
    conv => lhs; rw [t3]
    simp only [List.append_assoc]
  have lP : (xs.toList.take sa).length = sa := by rw [List.length_take, lt]; omega
  have lS : ((xs.toList.drop sa).take k ++ m.toList ++ (xs.toList.drop (sa + na + n')).take (nb - n')).length = na + nb := by
    rw [List.length_append, List.length_append, lm, List.length_take, List.length_take, List.length_drop, List.length_drop, lt]; omega
  have kr : ∀ {i : Nat} {p : Keyed}, xs[i]? = some p → Kr rk xs i = rk p := fun e => Kr_at e
  have memM : ∀ {q : Keyed}, q ∈ m.toList → (∃ i, k ≤ i ∧ i < na ∧ xs[sa + i]? = some q) ∨ ∃ i, i < n' ∧ xs[sa + na + i]? = some q := fun {q} hq => by
    rcases List.mem_append.mp (hm2.mem_iff.mp hq) with hq | hq
    · obtain ⟨j, h1, h2, e⟩ := mid_at hq
      exact .inl ⟨j - sa, by omega, by omega, by rw [show sa + (j - sa) = j by omega]; exact e⟩
    · obtain ⟨j, h1, h2, e⟩ := mid_at hq
      exact .inr ⟨j - (sa + na), by omega, by rw [show sa + na + (j - (sa + na)) = j by omega]; exact e⟩
  refine ⟨?_, ?_, ?_⟩
  · rw [Array.perm_iff_toList_perm, e]
    have ex : xs.toList = xs.toList.take (sa + k) ++ ((xs.toList.drop (sa + k)).take (na - k) ++ (xs.toList.drop (sa + na)).take n') ++ xs.toList.drop (sa + na + n') := by
      conv => lhs; rw [← List.take_append_drop (sa + na) xs.toList, t1, t2]
      simp only [List.append_assoc]
    conv => rhs; rw [ex]
    exact List.Perm.append_right _ (List.Perm.append_left _ hm2)
  · have := pw_seg (rk := rk) eW ?_
    · rw [lP, lS, ← Nat.add_assoc] at this; exact this
    have s1 : PwL rk ((xs.toList.drop sa).take k) := by
      have := seg_pw (rk := rk) (xs := xs) (lo := sa) (hi := sa + k) fun i j a b c => g1 i j a b (by omega)
      rwa [show sa + k - sa = k by omega] at this
    have s2 : PwL rk ((xs.toList.drop (sa + na + n')).take (nb - n')) := by
      have := seg_pw (rk := rk) (xs := xs) (lo := sa + na + n') (hi := sa + na + nb) fun i j a b c => g2 i j (by omega) b c
      rwa [show sa + na + nb - (sa + na + n') = nb - n' by omega] at this
    refine List.pairwise_append.mpr ⟨List.pairwise_append.mpr ⟨s1, hm1, fun p hp q hq => ?_⟩, s2, fun p hp q hq => ?_⟩
    · obtain ⟨j, h1, h2, ep⟩ := mid_at hp
      have a1 := hA (j - sa) (by omega)
      rw [show sa + (j - sa) = j by omega, kr ep] at a1
      rcases memM hq with ⟨i, h3, h4, eq⟩ | ⟨i, h3, eq⟩
      · have := hX i h3 h4
        rw [kr eq] at this; omega
      · have := g2 (sa + na) (sa + na + i) (by omega) (by omega) (by omega)
        rw [kr eq] at this; omega
    · obtain ⟨j, h1, h2, eq⟩ := mid_at hq
      rcases List.mem_append.mp hp with hp | hp
      · obtain ⟨i, h3, h4, ep⟩ := mid_at hp
        have a1 := hA (i - sa) (by omega)
        rw [show sa + (i - sa) = i by omega, kr ep] at a1
        have := g2 (sa + na) j (by omega) (by omega) (by omega)
        rw [kr eq] at this; omega
      · rcases memM hp with ⟨i, h3, h4, ep⟩ | ⟨i, h3, ep⟩
        · have a1 := g1 (sa + i) (sa + na - 1) (by omega) (by omega) (by omega)
          have a2 := hB2 (j - (sa + na)) (by omega) (by omega)
          rw [show sa + na + (j - (sa + na)) = j by omega, kr eq] at a2
          rw [kr ep] at a1; omega
        · have := g2 (sa + na + i) j (by omega) (by omega) (by omega)
          rw [kr ep, kr eq] at this; exact this
  · intro i hi
    rw [Kr_list, Kr_list, eW]
    rcases hi with hi | hi
    · rw [List.append_assoc, List.getElem?_append_left (by omega), List.getElem?_take_of_lt hi]
    · rw [List.getElem?_append_right (by rw [List.length_append, lP, lS]; omega), List.length_append, lP, lS, List.getElem?_drop, show sa + na + nb + (i - (sa + (na + nb))) = i by omega]
theorem wpS_mergeAt {st : SortSt} {i sa na nb pw pw2 : Nat} {Q : Bool → SortSt → Prop} (L : LtOk M A E s kd rk a₀) (hB : SB a₀ kd st) (e1 : (pendingOf st)[i]? = some (sa, na, pw)) (e2 : (pendingOf st)[i + 1]? = some (sa + na, nb, pw2)) (n1 : 1 ≤ na) (n2 : 1 ≤ nb)
    (hsz : sa + na + nb ≤ a₀.size) (g1 : Seg rk (arrOf st) sa (sa + na)) (g2 : Seg rk (arrOf st) (sa + na) (sa + na + nb))
    (h : ∀ st', SB a₀ kd st' → pendingOf st' = ((pendingOf st).setIfInBounds i (sa, na + nb, pw)).eraseIdxIfInBounds (i + 1) → Seg rk (arrOf st') sa (sa + na + nb) → (∀ k, k < sa ∨ sa + na + nb ≤ k → Kr rk (arrOf st') k = Kr rk (arrOf st) k) → Q true st') :
    wpS M A E s (mergeAt' i) Q st := by
  refine wpS_bind (wpS_get ?_)
  dsimp only
  rw [e1, e2]
  dsimp only
  have hsz' : sa + na + nb ≤ (arrOf st).size := by rw [hB.size]; exact hsz
  refine wpS_bind (m := set _) ?_
  show wpS M A E s (modify fun _ => setPending st (((pendingOf st).setIfInBounds i (sa, na + nb, pw)).eraseIdxIfInBounds (i + 1))) _ st
  refine wpS_modify ?_
  obtain ⟨p0, ep0, m0⟩ := hB.at (i := sa + na) (by omega)
  refine wpS_bind (wpS_elem (σ := Unit) ep0 ?_)
  have hmem : ∀ p ∈ (arrOf st).toList, p ∈ a₀.toList := fun p hp => hB.mem hp
  have hK0 : Kr rk (arrOf st) (sa + na) = rk p0 := Kr_at ep0
  have hB1 : SB a₀ kd (setPending st (((pendingOf st).setIfInBounds i (sa, na + nb, pw)).eraseIdxIfInBounds (i + 1))) := ⟨hB.perm, hB.kind, hB.failed⟩
  refine wpS_bind (wpS_gallop (arr := arrOf st) (fun i => decide (Kr rk (arrOf st) (sa + i) ≤ rk p0)) (by omega) (fun i R hi r => wpS_bey L m0 hmem (by omega) hB1.kind (by simpa using r)) (fun i j hij hj hq => decide_eq_true (Int.le_trans (g1 _ _ (by omega) (by omega) (by omega)) (of_decide_eq_true hq))) fun k hk hk1 hk2 => ?_)
  dsimp only
  refine wpS_ite (fun h3 => ?_) (fun h3 => ?_)
  · have h3' : na - k = 0 := by simpa using h3
    refine wpS_pure (h _ hB1 rfl (seg_two g1 g2 n2 fun i a b => ?_) fun _ _ => rfl)
    have := of_decide_eq_true (hk1 (i - sa) (by omega))
    rw [show sa + (i - sa) = i by omega] at this
    rw [hK0]; exact this
  have h3' : ¬ na - k = 0 := by simpa using h3
  obtain ⟨p1, ep1, m1⟩ := hB.at (i := sa + k + (na - k) - 1) (by omega)
  refine wpS_bind (wpS_elem (σ := Unit) ep1 ?_)
  have hK1 : Kr rk (arrOf st) (sa + na - 1) = rk p1 := by rw [show sa + na - 1 = sa + k + (na - k) - 1 by omega]; exact Kr_at ep1
  refine wpS_bind (wpS_gallop (arr := arrOf st) (fun i => decide (Kr rk (arrOf st) (sa + na + i) < rk p1)) (by omega) (fun i R hi r => wpS_bey L m1 hmem (by omega) hB1.kind (by simpa using r)) (fun i j hij hj hq => decide_eq_true (Int.lt_of_le_of_lt (g2 _ _ (by omega) (by omega) (by omega)) (of_decide_eq_true hq))) fun n' hn' hn1 hn2 => ?_)
  dsimp only
  have hB2 : ∀ i, n' ≤ i → i < nb → Kr rk (arrOf st) (sa + na - 1) ≤ Kr rk (arrOf st) (sa + na + i) := fun i a b => by
    have := of_decide_eq_false (hn2 i a b)
    rw [hK1]; omega
  refine wpS_ite (fun h4 => ?_) (fun h4 => ?_)
  · have h4' : n' = 0 := by simpa using h4
    refine wpS_pure (h _ hB1 rfl (seg_two g1 g2 n2 fun i a b => ?_) fun _ _ => rfl)
    have a1 := g1 i (sa + na - 1) a (by omega) (by omega)
    have a2 := hB2 0 (by omega) (by omega)
    exact Int.le_trans a1 a2
  have h4' : ¬ n' = 0 := by simpa using h4
  have hA : ∀ i, i < k → Kr rk (arrOf st) (sa + i) ≤ Kr rk (arrOf st) (sa + na) := fun i hi => by rw [hK0]; exact of_decide_eq_true (hk1 i hi)
  have hX : ∀ i, k ≤ i → i < na → Kr rk (arrOf st) (sa + na) < Kr rk (arrOf st) (sa + i) := fun i a b => by
    have := of_decide_eq_false (hk2 i a b)
    rw [hK0]; omega
  have memX : ∀ p ∈ ((arrOf st).extract (sa + k) (sa + na)).toList, ∃ j, sa + k ≤ j ∧ j < sa + na ∧ (arrOf st)[j]? = some p := fun p hp => by
    rw [ext_mid _ (by omega)] at hp
    obtain ⟨j, a, b, c⟩ := mid_at hp
    exact ⟨j, a, by omega, c⟩
  have memY : ∀ p ∈ ((arrOf st).extract (sa + na) (sa + na + n')).toList, ∃ j, sa + na ≤ j ∧ j < sa + na + n' ∧ (arrOf st)[j]? = some p := fun p hp => by
    rw [ext_mid _ (by omega)] at hp
    obtain ⟨j, a, b, c⟩ := mid_at hp
    exact ⟨j, a, by omega, c⟩
  have fin : ∀ (m : Array Keyed) (st2 : SortSt), Sm (setPending st (((pendingOf st).setIfInBounds i (sa, na + nb, pw)).eraseIdxIfInBounds (i + 1))) st2 → Res rk ((arrOf st).extract (sa + k) (sa + na)) ((arrOf st).extract (sa + na) (sa + na + n')) m →
      wpS M A E s (do
        modify fun s => setArr s (List.foldl (fun a (x : Keyed × Nat) => a.setIfInBounds (sa + k + x.snd) x.fst) (arrOf s) m.toList.zipIdx)
        let __do_lift ← get
        pure (failedOf __do_lift).isNone) Q st2 := fun m st2 S R => by
    obtain ⟨q1, q2, q3⟩ := merged_ok hsz' g1 g2 (by omega) hn' n2 hA hX hB2 R
    refine wpS_bind (wpS_modify (wpS_bind (wpS_get (wpS_pure ?_))))
    have ea : arrOf st2 = arrOf st := S.arr
    have ef : failedOf st2 = none := S.failed.trans hB.failed
    show Q (failedOf st2).isNone _
    rw [ef]
    refine h _ ⟨?_, S.kind.trans hB.kind, ef⟩ S.pend ?_ ?_
    · show (List.foldl _ (arrOf st2) _).Perm a₀
      rw [ea]; exact q1.trans hB.perm
    · show Seg rk (List.foldl _ (arrOf st2) _) _ _
      rw [ea]; exact q2
    · intro k' hk'
      show Kr rk (List.foldl _ (arrOf st2) _) _ = _
      rw [ea]; exact q3 k' hk'
  have szX : ((arrOf st).extract (sa + k) (sa + na)).size = na - k := by rw [Array.size_extract]; omega
  have szY : ((arrOf st).extract (sa + na) (sa + na + n')).size = n' := by rw [Array.size_extract]; omega
  have haX : ∀ p ∈ ((arrOf st).extract (sa + k) (sa + na)).toList, p ∈ a₀.toList := fun p hp => by
    obtain ⟨j, _, _, e⟩ := memX p hp
    exact hmem p (by rw [← (Array.getElem?_eq_some_iff.mp e).2]; simp)
  have haY : ∀ p ∈ ((arrOf st).extract (sa + na) (sa + na + n')).toList, p ∈ a₀.toList := fun p hp => by
    obtain ⟨j, _, _, e⟩ := memY p hp
    exact hmem p (by rw [← (Array.getElem?_eq_some_iff.mp e).2]; simp)
  have SX : PwL rk ((arrOf st).extract (sa + k) (sa + na)).toList := by
    rw [ext_mid _ (by omega)]
    exact seg_pw fun i j a b c => g1 i j (by omega) b c
  have SY : PwL rk ((arrOf st).extract (sa + na) (sa + na + n')).toList := by
    rw [ext_mid _ (by omega)]
    exact seg_pw fun i j a b c => g2 i j (by omega) b (by omega)
  have hf : ∀ p, ((arrOf st).extract (sa + na) (sa + na + n'))[0]? = some p → ∀ q ∈ ((arrOf st).extract (sa + k) (sa + na)).toList, rk p ≤ rk q := fun p ep q hq => by
    rw [Array.getElem?_extract, if_pos (by omega), Nat.add_zero] at ep
    obtain ⟨j, a, b, c⟩ := memX q hq
    have := hX (j - sa) (by omega) (by omega)
    rw [show sa + (j - sa) = j by omega, Kr_at c, Kr_at ep] at this
    omega
  have hl : ∀ p, ((arrOf st).extract (sa + k) (sa + na))[((arrOf st).extract (sa + k) (sa + na)).size - 1]? = some p → ∀ q ∈ ((arrOf st).extract (sa + na) (sa + na + n')).toList, rk q ≤ rk p := fun p ep q hq => by
    rw [szX, Array.getElem?_extract, if_pos (by omega), show sa + k + (na - k - 1) = sa + k + (na - k) - 1 by omega, ep1] at ep
    have ep : p1 = p := Option.some.inj ep
    obtain ⟨j, a, b, c⟩ := memY q hq
    have := of_decide_eq_true (hn1 (j - (sa + na)) (by omega))
    rw [show sa + na + (j - (sa + na)) = j by omega, Kr_at c] at this
    rw [← ep]; omega
  refine wpS_ite (fun _ => ?_) (fun _ => ?_)
  · exact wpS_bind (wpS_mergeLo (a := (arrOf st).extract (sa + k) (sa + na)) (b := (arrOf st).extract (sa + na) (sa + na + n')) L haX haY SX SY (by omega) (by omega) hf hl hB1.kind fun r st2 S R => fin r st2 S R)
  · exact wpS_bind (wpS_mergeHi (a := (arrOf st).extract (sa + k) (sa + na)) (b := (arrOf st).extract (sa + na) (sa + na + n')) L haX haY SX SY (by omega) (by omega) hf hl hB1.kind fun r st2 S R => fin r st2 S R)
end
end L2

namespace L2
open PySem PySem.Spec PyProof.Rows
section
variable {M : Model} {A : Around} {E : Value → Shared → Prop} {s : Shared} {kd : SortKind} {rk : Keyed → Int} {a₀ : Array Keyed}
noncomputable def Runs (rk : Keyed → Int) (xs : Array Keyed) : List (Nat × Nat × Nat) → Nat → Nat → Prop
  | [], s, e => s = e
  | (st, n, _) :: l, s, e => st = s ∧ 1 ≤ n ∧ Seg rk xs s (s + n) ∧ Runs rk xs l (s + n) e
theorem Runs.le {xs : Array Keyed} : ∀ {l : List (Nat × Nat × Nat)} {s e : Nat}, Runs rk xs l s e → s + l.length ≤ e
  | [], s, e, h => Nat.le_of_eq h
  | (st, n, p) :: l, s, e, ⟨_, h1, _, h2⟩ => by
    have := Runs.le h2
    show s + (l.length + 1) ≤ e
    omega
theorem Runs.app {xs : Array Keyed} : ∀ {l : List (Nat × Nat × Nat)} {m : List (Nat × Nat × Nat)} {s e : Nat}, Runs rk xs (l ++ m) s e ↔ ∃ k, Runs rk xs l s k ∧ Runs rk xs m k e
  | [], m, s, e => ⟨fun h => ⟨s, rfl, h⟩, fun ⟨k, h1, h2⟩ => by
      have h1 : s = k := h1
      subst h1; exact h2⟩
  | (st, n, p) :: l, m, s, e => ⟨fun ⟨h1, h2, h3, h4⟩ => by
      obtain ⟨k, h5, h6⟩ := Runs.app.mp h4
      exact ⟨k, ⟨h1, h2, h3, h5⟩, h6⟩, fun ⟨k, ⟨h1, h2, h3, h4⟩, h5⟩ => ⟨h1, h2, h3, Runs.app.mpr ⟨k, h4, h5⟩⟩⟩
theorem Runs.congr {xs ys : Array Keyed} : ∀ {l : List (Nat × Nat × Nat)} {s e : Nat}, (∀ k, s ≤ k → k < e → Kr rk ys k = Kr rk xs k) → Runs rk xs l s e → Runs rk ys l s e
  | [], s, e, _, h => h
  | (st, n, p) :: l, s, e, hk, ⟨h1, h2, h3, h4⟩ => by
    have hle := Runs.le h4
    refine ⟨h1, h2, fun i j a b c => ?_, Runs.congr (fun k a b => hk k (by omega) b) h4⟩
    rw [hk i (by omega) (by omega), hk j (by omega) (by omega)]
    exact h3 i j a b c
theorem two_at {α : Type} {l : List α} {i : Nat} (h : i + 1 < l.length) : ∃ P a b D, l = P ++ a :: b :: D ∧ P.length = i := by
  refine ⟨l.take i, l[i], l[i + 1], l.drop (i + 2), ?_, by rw [List.length_take]; omega⟩
  conv => lhs; rw [← List.take_append_drop i l]
  rw [List.drop_eq_getElem_cons (by omega), List.drop_eq_getElem_cons h]
theorem wpS_mergeR {st : SortSt} {i lo : Nat} {Q : Bool → SortSt → Prop} (L : LtOk M A E s kd rk a₀) (hB : SB a₀ kd st) (hR : Runs rk (arrOf st) (pendingOf st).toList 0 lo) (hi : i + 1 < (pendingOf st).size) (hlo : lo ≤ a₀.size)
    (h : ∀ st', SB a₀ kd st' → Runs rk (arrOf st') (pendingOf st').toList 0 lo → (pendingOf st').size + 1 = (pendingOf st).size → (∀ k, lo ≤ k → Kr rk (arrOf st') k = Kr rk (arrOf st) k) → Q true st') : wpS M A E s (mergeAt' i) Q st := by
  obtain ⟨P, ⟨sa, na, pw⟩, ⟨sb, nb, pw2⟩, D, e, hP⟩ := two_at (l := (pendingOf st).toList) (i := i) (by simpa using hi)
  have hR0 := hR
  rw [e] at hR
  obtain ⟨k, r1, h1, n1, g1, h2, n2, g2, r2⟩ := Runs.app.mp hR
  subst h1 h2
  have le1 := r1.le
  have le2 := r2.le
  have e1 : (pendingOf st)[i]? = some (sa, na, pw) := by rw [← Array.getElem?_toList, e, List.getElem?_append_right (by omega), hP, Nat.sub_self]; rfl
  have e2 : (pendingOf st)[i + 1]? = some (sa + na, nb, pw2) := by rw [← Array.getElem?_toList, e, List.getElem?_append_right (by omega), hP, show i + 1 - i = 1 by omega]; rfl
  refine wpS_mergeAt L hB e1 e2 n1 n2 (by omega) g1 g2 fun st' hB' hp hS hF => ?_
  have tl : (pendingOf st').toList = P ++ (sa, na + nb, pw) :: D := by
    rw [hp, Array.toList_eraseIdxIfInBounds, Array.toList_setIfInBounds, e, List.set_append_right _ _ (by omega), hP, Nat.sub_self, List.set_cons_zero, List.eraseIdx_append_of_length_le (by omega), hP, show i + 1 - i = 1 by omega]
    rfl
  refine h st' hB' ?_ ?_ fun k hk => hF k (.inr (by omega))
  · rw [tl]
    refine Runs.app.mpr ⟨sa, Runs.congr (fun k a b => hF k (.inl b)) r1, rfl, by omega, by rw [← Nat.add_assoc]; exact hS, ?_⟩
    rw [← Nat.add_assoc]
    exact Runs.congr (fun k a b => hF k (.inr a)) r2
  · have l1 := congrArg List.length tl
    have l2 := congrArg List.length e
    simp at l1 l2
    omega
theorem Runs.mod {xs : Array Keyed} {f : Nat × Nat × Nat → Nat × Nat × Nat} (hf : ∀ q, (f q).1 = q.1 ∧ (f q).2.1 = q.2.1) : ∀ {l : List (Nat × Nat × Nat)} {i s e : Nat}, Runs rk xs l s e → Runs rk xs (l.modify i f) s e
  | [], i, s, e, h => by rw [List.modify_nil]; exact h
  | (st, n, p) :: l, 0, s, e, ⟨h1, h2, h3, h4⟩ => by
    rw [List.modify_zero_cons]
    obtain ⟨a, b⟩ := hf (st, n, p)
    generalize f (st, n, p) = q at a b
    obtain ⟨x, y, z⟩ := q
    dsimp only at a b
    subst a b
    exact ⟨h1, h2, h3, h4⟩
  | (st, n, p) :: l, i + 1, s, e, ⟨h1, h2, h3, h4⟩ => by
    rw [List.modify_succ_cons]
    exact ⟨h1, h2, h3, Runs.mod hf h4⟩
theorem wpS_sortR {st : SortSt} {Q : Unit → SortSt → Prop} (L : LtOk M A E s kd rk a₀) (hB : SB a₀ kd st) (hp : pendingOf st = #[]) (h2 : 2 ≤ a₀.size)
    (h : ∀ st', SB a₀ kd st' → Seg rk (arrOf st') 0 a₀.size → Q () st') : wpS M A E s sortRuns' Q st := by
  rw [sortRuns'_eq]
  refine wpS_bind (wpS_get ?_)
  dsimp only
  generalize minRun' (arrOf st).size (arrOf st).size 0 = mr
  rw [hB.size]
  refine wpS_bind (wpS_mono (wpS_forRange
    (I := fun x c st' => ∃ lo, c = (none, lo) ∧ SB a₀ kd st' ∧ Runs rk (arrOf st') (pendingOf st').toList 0 lo ∧ lo ≤ a₀.size ∧ x ≤ lo)
    (Q := fun c st' => c = (none, a₀.size) ∧ SB a₀ kd st' ∧ Runs rk (arrOf st') (pendingOf st').toList 0 a₀.size) ?step ?fin ⟨0, rfl, hB, by rw [hp]; rfl, by omega, by omega⟩) ?post)
  case fin =>
    rintro c st' ⟨lo, rfl, hB', hR, a, b⟩
    obtain rfl : lo = a₀.size := by omega
    exact ⟨rfl, hB', hR⟩
  case step =>
    rintro x c st' _ hx ⟨lo, rfl, hB', hR, a, b⟩
    dsimp only
    by_cases hge : lo ≥ a₀.size
    · rw [if_pos hge]
      obtain rfl : lo = a₀.size := by omega
      exact wpS_pure ⟨rfl, hB', hR⟩
    rw [if_neg hge]
    refine wpS_bind (wpS_countL (rk := rk) L (by omega) (by omega) hB' fun m st1 N1 m1 m2 S1 => ?_)
    dsimp only
    have R1 : Runs rk (arrOf st1) (pendingOf st1).toList 0 lo := by
      rw [N1.pe]
      exact Runs.congr (fun k _ hk => N1.fr k hk) hR
    by_cases hmr : m < mr
    · rw [if_pos hmr]
      refine wpS_bind (wpS_lift (wpAny_rule ⟨rfl, ?_⟩))
      refine wpS_bind (wpS_binL L (by omega) (by omega) N1.sb S1 fun st2 N2 S2 => ?_)
      rw [if_neg (by decide)]
      have R2 : Runs rk (arrOf st2) (pendingOf st2).toList 0 lo := by
        rw [N2.pe]
        exact Runs.congr (fun k _ hk => N2.fr k hk) R1
      have B2 := N2.sb
      have N1 : 1 ≤ min (a₀.size - lo) mr := by omega
      have LE : lo + min (a₀.size - lo) mr ≤ a₀.size := by omega
      refine wpS_bind (wpS_get ?_)
      rcases hbk : (pendingOf st2).back? with _ | ⟨s1, n1, p1⟩
      · dsimp only
        refine wpS_bind (wpS_modify (wpS_pure ⟨_, rfl, ⟨B2.perm, B2.kind, B2.failed⟩, ?_, LE, by omega⟩))
        show Runs rk (arrOf st2) ((pendingOf st2).push _).toList 0 _
        rw [Array.toList_push]
        exact Runs.app.mpr ⟨lo, R2, rfl, N1, S2, rfl⟩
      · dsimp only
        refine wpS_bind (wpS_mono (wpS_forRange (I := fun _ c st3 => c = (none, ()) ∧ SB a₀ kd st3 ∧ Runs rk (arrOf st3) (pendingOf st3).toList 0 lo ∧ Seg rk (arrOf st3) lo (lo + min (a₀.size - lo) mr))
          (Q := fun c st3 => c = (none, ()) ∧ SB a₀ kd st3 ∧ Runs rk (arrOf st3) (pendingOf st3).toList 0 lo ∧ Seg rk (arrOf st3) lo (lo + min (a₀.size - lo) mr)) ?_ (fun _ _ hh => hh) ⟨rfl, B2, R2, S2⟩) ?_)
        · rintro y c st3 _ _ ⟨rfl, B3, R3, S3⟩
          refine wpS_bind (wpS_get ?_)
          by_cases hs1 : (pendingOf st3).size > 1
          · rw [if_pos hs1, getElem?_pos (pendingOf st3) ((pendingOf st3).size - 2) (by omega)]
            generalize (pendingOf st3)[(pendingOf st3).size - 2] = pq
            obtain ⟨q1, q2, q3⟩ := pq
            dsimp only
            refine wpS_ite (fun _ => wpS_pure ⟨rfl, B3, R3, S3⟩) (fun _ => ?_)
            refine wpS_bind (wpS_mergeR L B3 R3 (by omega) a fun st4 B4 R4 _ F4 => ?_)
            rw [if_neg (by decide)]
            refine wpS_pure ⟨rfl, B4, R4, fun i j h5 h6 h7 => ?_⟩
            rw [F4 i h5, F4 j (by omega)]
            exact S3 i j h5 h6 h7
          · rw [if_neg hs1]
            exact wpS_pure ⟨rfl, B3, R3, S3⟩
        · rintro c st3 ⟨rfl, B3, R3, S3⟩
          dsimp only
          refine wpS_bind (wpS_modify (wpS_bind (wpS_modify (wpS_pure ⟨_, rfl, ⟨B3.perm, B3.kind, B3.failed⟩, ?_, LE, by omega⟩))))
          show Runs rk (arrOf st3) (((pendingOf st3).modify _ _).push _).toList 0 _
          rw [Array.toList_push, Array.toList_modify]
          refine Runs.app.mpr ⟨lo, ?_, rfl, N1, S3, rfl⟩
          refine Runs.mod ?_ R3; exact fun q => ⟨rfl, rfl⟩
    · rw [if_neg hmr]
      obtain ⟨st2, rfl⟩ : ∃ st2, st1 = st2 := ⟨_, rfl⟩
      have R2 := R1
      have S2 := S1
      have B2 := N1.sb
      have N1 := m1
      have LE : lo + m ≤ a₀.size := by omega
      refine wpS_bind (wpS_get ?_)
      rcases hbk : (pendingOf st1).back? with _ | ⟨s1, n1, p1⟩
      · dsimp only
        refine wpS_bind (wpS_modify (wpS_pure ⟨_, rfl, ⟨B2.perm, B2.kind, B2.failed⟩, ?_, LE, by omega⟩))
        show Runs rk (arrOf st1) ((pendingOf st1).push _).toList 0 _
        rw [Array.toList_push]
        exact Runs.app.mpr ⟨lo, R2, rfl, N1, S2, rfl⟩
      · dsimp only
        refine wpS_bind (wpS_mono (wpS_forRange (I := fun _ c st3 => c = (none, ()) ∧ SB a₀ kd st3 ∧ Runs rk (arrOf st3) (pendingOf st3).toList 0 lo ∧ Seg rk (arrOf st3) lo (lo + m))
          (Q := fun c st3 => c = (none, ()) ∧ SB a₀ kd st3 ∧ Runs rk (arrOf st3) (pendingOf st3).toList 0 lo ∧ Seg rk (arrOf st3) lo (lo + m)) ?_ (fun _ _ hh => hh) ⟨rfl, B2, R2, S2⟩) ?_)
        · rintro y c st3 _ _ ⟨rfl, B3, R3, S3⟩
          refine wpS_bind (wpS_get ?_)
          by_cases hs1 : (pendingOf st3).size > 1
          · rw [if_pos hs1, getElem?_pos (pendingOf st3) ((pendingOf st3).size - 2) (by omega)]
            generalize (pendingOf st3)[(pendingOf st3).size - 2] = pq
            obtain ⟨q1, q2, q3⟩ := pq
            dsimp only
            refine wpS_ite (fun _ => wpS_pure ⟨rfl, B3, R3, S3⟩) (fun _ => ?_)
            refine wpS_bind (wpS_mergeR L B3 R3 (by omega) a fun st4 B4 R4 _ F4 => ?_)
            rw [if_neg (by decide)]
            refine wpS_pure ⟨rfl, B4, R4, fun i j h5 h6 h7 => ?_⟩
            rw [F4 i h5, F4 j (by omega)]
            exact S3 i j h5 h6 h7
          · rw [if_neg hs1]
            exact wpS_pure ⟨rfl, B3, R3, S3⟩
        · rintro c st3 ⟨rfl, B3, R3, S3⟩
          dsimp only
          refine wpS_bind (wpS_modify (wpS_bind (wpS_modify (wpS_pure ⟨_, rfl, ⟨B3.perm, B3.kind, B3.failed⟩, ?_, LE, by omega⟩))))
          show Runs rk (arrOf st3) (((pendingOf st3).modify _ _).push _).toList 0 _
          rw [Array.toList_push, Array.toList_modify]
          refine Runs.app.mpr ⟨lo, ?_, rfl, N1, S3, rfl⟩
          refine Runs.mod ?_ R3; exact fun q => ⟨rfl, rfl⟩
  case post =>
    rintro c st' ⟨rfl, hB', hR⟩
    dsimp only
    have hle := hR.le
    refine wpS_bind (wpS_mono (wpS_forRange (I := fun x c st3 => c = (none, ()) ∧ SB a₀ kd st3 ∧ Runs rk (arrOf st3) (pendingOf st3).toList 0 a₀.size ∧ (pendingOf st3).size + x ≤ a₀.size)
      (Q := fun c st3 => c = (none, ()) ∧ SB a₀ kd st3 ∧ Runs rk (arrOf st3) (pendingOf st3).toList 0 a₀.size ∧ (pendingOf st3).size ≤ 1) ?_ ?_ ⟨rfl, hB', hR, by simp at hle; omega⟩) ?_)
    · rintro y c st3 _ hy ⟨rfl, B3, R3, P3⟩
      refine wpS_bind (wpS_get ?_)
      by_cases hs1 : (pendingOf st3).size ≤ 1
      · rw [if_pos hs1]
        exact wpS_pure ⟨rfl, B3, R3, hs1⟩
      · rw [if_neg hs1]
        refine wpS_bind (wpS_mergeR L B3 R3 ?_ (Nat.le_refl _) fun st4 B4 R4 P4 _ => ?_)
        · have gen : ∀ (c : Prop) [Decidable c], (if c then (pendingOf st3).size - 2 - 1 else (pendingOf st3).size - 2) + 1 < (pendingOf st3).size := fun c _ => by split <;> omega
          exact gen _
        · rw [if_neg (by decide)]
          exact wpS_pure ⟨rfl, B4, R4, by omega⟩
    · rintro c st3 ⟨rfl, B3, R3, P3⟩
      exact ⟨rfl, B3, R3, by omega⟩
    · rintro c st3 ⟨rfl, B3, R3, P3⟩
      refine wpS_pure (h st3 B3 ?_)
      have hl : (pendingOf st3).toList.length ≤ 1 := by simpa using P3
      generalize (pendingOf st3).toList = l at hl R3
      match l, hl, R3 with
      | [], _, R3 =>
        have : 0 = a₀.size := R3
        omega
      | [(x, n, p)], _, ⟨h5, h6, h7, h8⟩ =>
        have h8 : 0 + n = a₀.size := h8
        rw [h8] at h7
        exact h7
end
end L2

namespace L2
open PySem PySem.W PySem.Spec PyProof.Rows
section
variable {prog : Program} {w : World} {A : Around} {E : Value → Shared → Prop} {s : Shared}
theorem zip_self_mem {vs : List Value} {p : Keyed} (h : p ∈ (vs.toArray.zip vs.toArray).toList) : p.1 = p.2 ∧ p.1 ∈ vs := by
  rw [Array.toList_zip] at h
  exact mem_zip_self h
theorem any_sort {a : Addr} {vs : List Value} {n : Nat} {κ : SortKind} {rv : Value → Int} {P : PySem.Fin → Shared → Prop}
    (ho : s.heap.get? a = some (seqObj "list" vs.toArray n)) (few : vs.length ≤ 100000)
    (hK : 2 ≤ vs.length → ∀ (s' : Shared) (R : SortKind → Shared → Prop), But a s.heap s'.heap → R κ s' → wpAny (model prog w) A (keyKind' vs.toArray) R E s')
    (hC : ∀ (s' : Shared) (x y : Value) (R : Bool → Shared → Prop) (E' : Value → Shared → Prop), But a s.heap s'.heap → x ∈ vs → y ∈ vs → R (decide (rv x < rv y)) s' → wpAny (model prog w) A (keyLt' κ x y) R E' s')
    (h : ∀ out : List Value, out.Perm vs → (out.Pairwise fun x y => rv x ≤ rv y) → P (.done (.ret .none)) { s with heap := sortedHeap s.heap a vs out.toArray }) :
    wpAny (model prog w) A (Builtin.«list.sort» ⟨[.ref a], []⟩) P E s := by
  rw [list_sort_plain]
  refine wpAny_bind (listItems_at ho rfl (wpAny_bind (listUpdate_at ho rfl ?_)))
  obtain ⟨k, hk⟩ : ∃ k, (s.heap.update a (Obj.mapSeq fun _ => #[])).get? a = some (seqObj "list" #[] k) := ⟨_, get?_update_seq ho (fun _ => #[])⟩
  refine wpAny_bind (seqEpoch_at hk rfl (wpAny_bind (wpAny_newTuple (wpAny_bind (wpAny_newList (wpAny_holding ?_))))))
  have hk2 := Heap.get?_push_of_some (seqObj "list" #[] 0) (Heap.get?_push_of_some (seqObj "tuple" vs.toArray 0) hk)
  have bt := but_three (h := s.heap) (a := a) (f := Obj.mapSeq fun _ => #[]) (x := seqObj "tuple" vs.toArray 0) (y := seqObj "list" #[] 0)
  show wpAny (model prog w) A _ P E { s with heap := (((s.heap.update a (Obj.mapSeq fun _ => #[])).push (seqObj "tuple" vs.toArray 0)).push (seqObj "list" #[] 0)) }
  generalize hS : ({ s with heap := (((s.heap.update a (Obj.mapSeq fun _ => #[])).push (seqObj "tuple" vs.toArray 0)).push (seqObj "list" #[] 0)) } : Shared) = s2
  dsimp only
  have sz : vs.toArray.size = vs.length := by simp
  have hs : 200000 ≤ sizeLine := by decide
  have hk3 : s2.heap.get? a = some (seqObj "list" #[] k) := by rw [← hS]; exact hk2
  have bt2 : But a s.heap s2.heap := by rw [← hS]; exact bt
  have fin : ∀ out : List Value, out.Perm vs → (out.Pairwise fun x y => rv x ≤ rv y) → P (.done (.ret .none)) { s2 with heap := s2.heap.update a (Obj.mapSeq fun _ => out.toArray) } := fun out h1 h2 => by
    rw [← hS]; exact h out h1 h2
  by_cases h2 : vs.toArray.size < 2
  · rw [if_pos h2, if_pos h2]
    refine wpAny_bind (wpAny_pure ?_)
    rw [StateT.run_pure]
    refine wpAny_bind (wpAny_pure ?_)
    dsimp only
    have ez : (arrOf (SortSt.mk' general' (vs.toArray.zip vs.toArray) #[] 7 none)).map (·.2) = vs.toArray := zip_snd vs
    rw [ez]
    refine wpAny_bind (seqEpoch_at hk3 rfl (wpAny_bind (listUpdate_at hk3 rfl ?_ (hsz2 := by rw [sz]; omega))))
    simp only [bne_self_eq_false, Bool.false_eq_true, if_false]
    refine wpAny_pure (fin vs (List.Perm.refl _) ?_)
    match vs, h2 with
    | [], _ => exact List.Pairwise.nil
    | [_], _ => exact List.pairwise_singleton _ _
    | _ :: _ :: _, h2 => simp at h2; omega
  · rw [if_neg h2, if_neg h2]
    refine wpAny_bind (hK (by omega) _ _ bt2 ?_)
    have L : LtOk (model prog w) A E s2 κ (fun p => rv p.1) (vs.toArray.zip vs.toArray) := fun p q st R hp hq hkd hr => by
      rw [lt'_eq]
      refine wpS_bind (wpS_get ?_)
      rw [hkd]
      refine wpS_bind (wpS_lift (wpAny_attempt (hC _ _ _ _ _ bt2 (zip_self_mem hp).2 (zip_self_mem hq).2 ⟨rfl, ?_⟩)))
      exact wpS_pure hr
    refine wpAny_bind (wpAny_mono (wpS_sortR (st := SortSt.mk' κ (vs.toArray.zip vs.toArray) #[] 7 none) (Q := fun _ st' => SB (vs.toArray.zip vs.toArray) κ st' ∧ Seg (fun p => rv p.1) (arrOf st') 0 (vs.toArray.zip vs.toArray).size)
      L ⟨Array.Perm.refl _, rfl, rfl⟩ rfl (by rw [Array.size_zip]; omega) fun st' a1 a2 => ⟨a1, a2⟩) ?_ fun _ _ e => e)
    rintro ⟨⟨⟩, st'⟩ s' ⟨rfl, hB, hg⟩
    dsimp only
    dsimp only at hB hg
    have hp : ((arrOf st').map (·.2)).toList.Perm vs := by
      rw [Array.toList_map]
      refine ((Array.perm_iff_toList_perm.mp hB.perm).map _).trans (List.Perm.of_eq ?_)
      rw [← Array.toList_map, zip_snd]
    have hz : (vs.toArray.zip vs.toArray).size = vs.length := by rw [Array.size_zip]; omega
    have hpw : ((arrOf st').map (·.2)).toList.Pairwise fun x y => rv x ≤ rv y := by
      rw [Array.toList_map]
      have := seg_pw hg
      rw [Nat.sub_zero, List.drop_zero, List.take_of_length_le (by rw [Array.length_toList, hB.size]; exact Nat.le_refl _)] at this
      rw [List.pairwise_map]
      refine this.imp_of_mem fun {p q} hp hq hpq => ?_
      rw [← (zip_self_mem (hB.mem hp)).1, ← (zip_self_mem (hB.mem hq)).1]
      exact hpq
    refine wpAny_bind (seqEpoch_at hk3 rfl (wpAny_bind (listUpdate_at hk3 rfl ?_ (hsz2 := by
      have := hp.length_eq
      rw [Array.length_toList] at this
      show ((arrOf st').map (·.2)).size ≤ _
      omega))))
    rw [hB.failed]
    simp only [bne_self_eq_false, Bool.false_eq_true, if_false]
    refine wpAny_pure ?_
    have := fin _ hp hpw
    rwa [Array.toArray_toList] at this
theorem any_sorted {l : Addr} {vs : List Value} {κ : SortKind} {rv : Value → Int} {Q : Value → Shared → Prop} (hl : s.heap.IsList l vs.toArray) (few : vs.length ≤ 100000)
    (hK : 2 ≤ vs.length → ∀ (A' : Around) (s' : Shared) (R : SortKind → Shared → Prop), (∀ b o, s.heap.get? b = some o → s'.heap.get? b = some o) → R κ s' → wpAny (model prog w) A' (keyKind' vs.toArray) R E s')
    (hC : ∀ (A' : Around) (s' : Shared) (x y : Value) (R : Bool → Shared → Prop) (E' : Value → Shared → Prop), (∀ b o, s.heap.get? b = some o → s'.heap.get? b = some o) → x ∈ vs → y ∈ vs → R (decide (rv x < rv y)) s' → wpAny (model prog w) A' (keyLt' κ x y) R E' s')
    (h : ∀ out : List Value, out.Perm vs → (out.Pairwise fun x y => rv x ≤ rv y) → Q (.ref (s.heap.objs.size + 1)) { s with heap := sortedAll s.heap vs out.toArray }) :
    wpAny (model prog w) A (call (.builtin "sorted") [.ref l]) Q E s := by
  refine Calls.call_function_entry kind_sorted plain_sorted entry_sorted (args_sorted1 _) ?_
  unfold Builtin.«sorted»
  have hs : 200000 ≤ sizeLine := by decide
  refine wpAny_bind (m := checkCount "sorted" 1 1 _) (wpAny_pure (wpAny_bind (collect_list hl ?_ (hsz := by omega))))
  refine wpAny_bind (wpAny_newList ?_)
  have z1 : ((s.heap.push (seqObj "list" #[] 0)).update s.heap.objs.size (Obj.mapSeq (· ++ vs.toArray))).objs.size = s.heap.objs.size + 1 := by rw [Heap.size_update, size_push']
  have old : ∀ b o, s.heap.get? b = some o → (((s.heap.push (seqObj "list" #[] 0)).update s.heap.objs.size (Obj.mapSeq (· ++ vs.toArray))).push (seqObj "list" vs.toArray 0)).get? b = some o := fun b o e => by
    have lb := Heap.lt_size e
    refine Heap.get?_push_of_some _ ?_
    rw [Heap.get?_update_ne _ _ _ _ (Nat.ne_of_lt lb)]
    exact Heap.get?_push_of_some _ e
  have hoL : (((s.heap.push (seqObj "list" #[] 0)).update s.heap.objs.size (Obj.mapSeq (· ++ vs.toArray))).push (seqObj "list" vs.toArray 0)).get? (s.heap.objs.size + 1) = some (seqObj "list" vs.toArray 0) :=
    z1 ▸ Heap.get?_push_size _ rfl
  show wpAny _ _ _ _ _ { s with heap := (((s.heap.push (seqObj "list" #[] 0)).update s.heap.objs.size (Obj.mapSeq (· ++ vs.toArray))).push (seqObj "list" vs.toArray 0)) }
  rw [z1]
  have ok : ∀ {s' : Shared}, But (s.heap.objs.size + 1) (((s.heap.push (seqObj "list" #[] 0)).update s.heap.objs.size (Obj.mapSeq (· ++ vs.toArray))).push (seqObj "list" vs.toArray 0)) s'.heap → ∀ b o, s.heap.get? b = some o → s'.heap.get? b = some o := fun bt b o e => bt b o (Nat.ne_of_lt (Nat.lt_succ_of_lt (Heap.lt_size e))) (old b o e)
  refine wpAny_bind (wpAny_holding (wpAny_call_entry slot_list_sort ⟨_, hoL, rfl⟩ entry_list_sort (any_sort (κ := κ) (rv := rv) hoL few (fun h2 s' R bt r => hK h2 _ s' R (ok bt) r) (fun s' x y R E' bt hx hy r => hC _ s' x y R E' (ok bt) hx hy r) fun out h1 h2 => ⟨_, rfl, ?_⟩) (args_list_sort _)))
  exact wpAny_pure ⟨_, rfl, h out h1 h2⟩
end
theorem ints_mem {vs : List Value} {ns : List Int} (h : IntsAre vs ns) {v : Value} (hv : v ∈ vs) : ∃ n t, v = .int n t := h.all v hv
section
variable {X : Cx}
noncomputable def rSortB : List V → Hp → VK → Prop := fun xs H Q => ∃ (p : Addr) (ns : List Int), xs = [.ref p] ∧ H p = some (.lst (ns.map V.int)) ∧ ns.length ≤ 100000 ∧
  ∀ (q : Addr) (ms : List Int), H q = none → ms.Perm ns → ms.Pairwise (· ≤ ·) → Q (.ref q) (upd H q (.lst (ms.map V.int)))
theorem call_sortedB : CallR X (.builtin "sorted") rSortB := by
  intro pins s σ H xs us Q I r h
  obtain ⟨p, ns, rfl, hp, few, q⟩ := h
  obtain ⟨u, rfl, ru⟩ := vals1 r
  cases ru
  obtain ⟨hz, its, n, rv, g⟩ := I.hok p _ hp
  have hi : IntsAre its ns := intsAre_of rv
  have hl := rv.length
  rw [List.length_map] at hl
  refine any_sorted (vs := its) (κ := oneType') (rv := numOf) ⟨_, g, rfl, n, rfl⟩ (by omega) ?_ ?_ fun out hperm hs => ?_
  · intro h2 A' s' R _ hr
    obtain ⟨v₁, v₂, rest, rfl⟩ : ∃ v₁ v₂ rest, its = v₁ :: v₂ :: rest := by
      match its, h2 with
      | v₁ :: v₂ :: rest, _ => exact ⟨v₁, v₂, rest, rfl⟩
    rw [keyKind_ints hi]
    exact wpAny_pure hr
  · intro A' s' x y R E' _ hx hy hr
    obtain ⟨a, t, rfl⟩ := ints_mem hi hx
    obtain ⟨b, u, rfl⟩ := ints_mem hi hy
    rw [keyLt'_oneType]
    exact oneLt_int hr
  · obtain ⟨e, he⟩ := sortedAll_at s.heap its out.toArray
    have ho : IntsAre out (out.map numOf) := intsAre_map out fun v hv => ints_mem hi (hperm.mem_iff.mp hv)
    have hm : (out.map numOf).Perm ns := (hperm.map _).trans (List.Perm.of_eq hi.nums)
    have hml : (out.map numOf).length = ns.length := hm.length_eq
    rw [List.length_map] at hz
    have hs2 : 200000 ≤ sizeLine := by decide
    exact ⟨.ref (s.heap.objs.size + 1), _, I.laid (t' := s.toks) (o := .lst ((out.map numOf).map V.int)) (fun b ob q => sortedAll_old q) (Nat.le_succ _) ⟨by rw [List.length_map]; omega, out, e, ints_vals ho, by simpa using he⟩, rfl, q _ _ (I.hok.fresh (Nat.le_succ _)) hm (List.pairwise_map.mpr hs)⟩
end
section
variable {H : Hp} {Q : VK}
theorem r_sortB {p : Addr} {ns : List Int} (hp : H p = some (.lst (ns.map V.int))) (hn : ns.length ≤ 100000) (h : ∀ (q : Addr) (ms : List Int) (H' : Hp), H q = none → Same H H' → H' q = some (.lst (ms.map V.int)) → ms.Perm ns → ms.Pairwise (· ≤ ·) → Q (.ref q) H') : rSortB [.ref p] H Q :=
  ⟨p, ns, rfl, hp, hn, fun q ms nq a b => h q ms _ nq ((Same.refl H).upd nq) upd_same a b⟩
end
end L2

namespace My
open PySem L2
noncomputable def top (i : Nat) : Stmt := PySem.Challenge.pw_panethread_k35_whole_threads_of_all_stre.main.body.getD i (.Pass ⟨0, 0, 0, 0⟩)
noncomputable abbrev s_is_row : Stmt := top 13
noncomputable abbrev s_need_row : Stmt := top 14
noncomputable abbrev s_need_rows : Stmt := top 15
noncomputable abbrev s_lines_above : Stmt := top 19
noncomputable abbrev s_signs_of_row : Stmt := top 20
noncomputable abbrev s_over_row : Stmt := top 21
noncomputable abbrev s_cells_of : Stmt := top 22
noncomputable abbrev s_ends_of : Stmt := top 23
noncomputable abbrev s_over_cells : Stmt := top 24
noncomputable abbrev s_ways_of : Stmt := top 25
noncomputable abbrev s_law_at : Stmt := top 28
noncomputable abbrev s_law_mix : Stmt := top 29
noncomputable abbrev s_law_put : Stmt := top 30
noncomputable abbrev s_law_two : Stmt := top 31
noncomputable abbrev s_law_lengths : Stmt := top 32
noncomputable abbrev s_law_told : Stmt := top 33
noncomputable abbrev s_law_stretches : Stmt := top 34
noncomputable abbrev s_law : Stmt := top 35
noncomputable abbrev s_Board___init__ : Stmt := memOf 0 (top 26)
noncomputable abbrev s_Board_lines : Stmt := memOf 3 (top 26)
noncomputable abbrev i_NoRow : Stmt := initOf (top 3)
noncomputable abbrev i_NoPlace : Stmt := initOf (top 4)
local macro_rules | `(tactic| walk_at "sts") => `(tactic| (with_reducible repeat (first | refine r_op ?_ | refine iteT ?_ | refine iteF ?_ | refine iteNT ?_ | refine iteNF ?_ | (refine' r_var ?hz0 ?_; (case hz0 => with_unfolding_all rfl)) | refine r_C ?_ | refine r_i0 ?_ | refine r_addI ?_ | refine r_cons ?_ | refine r_nil ?_ | refine r_seq ?_ | refine r_asg ?_ | refine r_name ?_ | refine r_ret ?_ | refine r_next ?_ | refine r_if ?_ | refine r_test ?_ | refine r_bl ?_ | refine r_cb ?_ | refine r_call ?_ | refine r_tb ?_ | refine r_not ?_ | refine r_and ?_ | refine r_or ?_ | refine r_andV ?_ | refine r_sub ?_ | refine r_drop ?_ | refine r_un ?_ | refine r_tup ?_ | refine r_lst ?_ | refine r_bm ?_ | refine r_sl ?_ | refine r_nop ?_ | refine r_part ?_ | refine r_true ?_ | refine r_rng1 ?_ | refine r_iseq ?_ | refine r_comp ?_ | refine r_for ?_ | refine r_u ?_ | refine r_gcons ?_ | refine r_gnil ?_ | (refine' r_gtup (SqT.of ?hz0) ?hz1 ?_; (case hz0 => first | assumption | exact upd_same); (case hz1 => rfl)) | refine r_callX ?_ | refine r_raise ?_ | refine r_rng3 ?_ | refine r_ii ?_ | refine r_eqBI ?_ | refine r_eqBS ?_ | refine r_neBI ?_ | refine r_enumA ?_ | refine r_inS ?_ | refine r_intE ?_ | (refine' r_i ?hz0 ?_; (case hz0 => with_unfolding_all first | assumption | omega | (dsimp only <;> omega) | exact ⟨by omega, by omega⟩ | exact .inl ⟨by omega, by omega⟩ | exact .inr ⟨by omega, by omega⟩ | exact ⟨by decide, by decide, by decide⟩)) | (refine' r_mulI ?hz0 ?_; (case hz0 => with_unfolding_all first | assumption | omega | (dsimp only <;> omega) | exact ⟨by omega, by omega⟩ | exact .inl ⟨by omega, by omega⟩ | exact .inr ⟨by omega, by omega⟩ | exact ⟨by decide, by decide, by decide⟩)) | (refine' r_ixL (SqL.of ?hz0) ?hz1 ?_; (case hz0 => first | assumption | exact upd_same); (case hz1 => with_unfolding_all rfl)) | (refine' r_ixT (SqT.of ?hz0) ?hz1 ?_; (case hz0 => first | assumption | exact upd_same); (case hz1 => with_unfolding_all rfl)) | (refine' r_setL ?hz0 ?hz1 ?_; (case hz0 => first | assumption | exact upd_same); (case hz1 => with_unfolding_all rfl)) | refine r_methX ?_ | refine r_makeX ?_ | refine r_fld ?_ | refine r_sfld ?_ | refine r_zipTL ?_ | refine r_enumRev ?_)))
local macro_rules | `(tactic| walk_at "stn") => `(tactic| (with_reducible repeat (first | refine r_op ?_ | refine iteT ?_ | refine iteF ?_ | refine iteNT ?_ | refine iteNF ?_ | (refine' r_var ?hz0 ?_; (case hz0 => with_unfolding_all rfl)) | refine r_C ?_ | refine r_i0 ?_ | refine r_addI ?_ | refine r_cons ?_ | refine r_nil ?_ | refine r_asg ?_ | refine r_name ?_ | refine r_ret ?_ | refine r_next ?_ | refine r_if ?_ | refine r_test ?_ | refine r_bl ?_ | refine r_cb ?_ | refine r_call ?_ | refine r_tb ?_ | refine r_not ?_ | refine r_and ?_ | refine r_or ?_ | refine r_andV ?_ | refine r_sub ?_ | refine r_drop ?_ | refine r_un ?_ | refine r_tup ?_ | refine r_lst ?_ | refine r_bm ?_ | refine r_sl ?_ | refine r_nop ?_ | refine r_part ?_ | refine r_true ?_ | refine r_rng1 ?_ | refine r_iseq ?_ | refine r_comp ?_ | refine r_for ?_ | refine r_u ?_ | refine r_gcons ?_ | refine r_gnil ?_ | (refine' r_gtup (SqT.of ?hz0) ?hz1 ?_; (case hz0 => first | assumption | exact upd_same); (case hz1 => rfl)) | refine r_callX ?_ | refine r_raise ?_ | refine r_rng3 ?_ | refine r_ii ?_ | refine r_eqBI ?_ | refine r_eqBS ?_ | refine r_neBI ?_ | refine r_enumA ?_ | refine r_inS ?_ | refine r_intE ?_ | (refine' r_i ?hz0 ?_; (case hz0 => with_unfolding_all first | assumption | omega | (dsimp only <;> omega) | exact ⟨by omega, by omega⟩ | exact .inl ⟨by omega, by omega⟩ | exact .inr ⟨by omega, by omega⟩ | exact ⟨by decide, by decide, by decide⟩)) | (refine' r_mulI ?hz0 ?_; (case hz0 => with_unfolding_all first | assumption | omega | (dsimp only <;> omega) | exact ⟨by omega, by omega⟩ | exact .inl ⟨by omega, by omega⟩ | exact .inr ⟨by omega, by omega⟩ | exact ⟨by decide, by decide, by decide⟩)) | (refine' r_ixL (SqL.of ?hz0) ?hz1 ?_; (case hz0 => first | assumption | exact upd_same); (case hz1 => with_unfolding_all rfl)) | (refine' r_ixT (SqT.of ?hz0) ?hz1 ?_; (case hz0 => first | assumption | exact upd_same); (case hz1 => with_unfolding_all rfl)) | (refine' r_setL ?hz0 ?hz1 ?_; (case hz0 => first | assumption | exact upd_same); (case hz1 => with_unfolding_all rfl)) | refine r_methX ?_ | refine r_makeX ?_ | refine r_fld ?_ | refine r_sfld ?_ | refine r_zipTL ?_ | refine r_enumRev ?_)))
mutual
noncomputable def gA (m : Nat) (C : Nat → Nat → Bool) (i : Nat) : Nat → Nat
  | 0 => m - 1 - i
  | j + 1 => if C i j = true then gD m C j i else gA m C i j
termination_by j => i + j
noncomputable def gD (m : Nat) (C : Nat → Nat → Bool) (j : Nat) : Nat → Nat
  | 0 => m + j
  | i + 1 => if C i j = true then gA m C i j else gD m C j i
termination_by i => i + j
end
section
variable {m : Nat} {C : Nat → Nat → Bool}
theorem gA_zero (i : Nat) : gA m C i 0 = m - 1 - i := by rw [gA]
theorem gA_succ (i j : Nat) : gA m C i (j + 1) = if C i j = true then gD m C j i else gA m C i j := by rw [gA]
theorem gD_zero (j : Nat) : gD m C j 0 = m + j := by rw [gD]
theorem gD_succ (i j : Nat) : gD m C j (i + 1) = if C i j = true then gA m C i j else gD m C j i := by rw [gD]
theorem row_perm (i far : Nat) : ∀ j, j ≤ far → ((List.range j).map (fun l => gD m C l (i + 1)) ++ gA m C i j :: (List.range' j (far - j)).map (fun l => gD m C l i)).Perm (gA m C i 0 :: (List.range far).map (fun l => gD m C l i))
  | 0, _ => by rw [List.range_eq_range' (n := far)]; exact List.Perm.refl _
  | j + 1, h => by
    refine List.Perm.trans ?_ (row_perm i far j (by omega))
    rw [List.range_succ, List.map_append, List.append_assoc, show far - j = (far - (j + 1)) + 1 by omega, List.range'_succ, List.map_cons]
    refine List.Perm.append_left _ ?_
    show (gD m C j (i + 1) :: gA m C i (j + 1) :: _).Perm _
    rw [gA_succ, gD_succ]
    by_cases hc : C i j = true
    · rw [if_pos hc, if_pos hc]; exact List.Perm.refl _
    · rw [if_neg hc, if_neg hc]
      exact List.Perm.swap _ _ _
theorem row_end (i far : Nat) : ((List.range far).map (fun l => gD m C l (i + 1)) ++ [gA m C i far]).Perm ((m - 1 - i) :: (List.range far).map (fun l => gD m C l i)) := by
  have h := row_perm (m := m) (C := C) i far far (Nat.le_refl _)
  rw [Nat.sub_self, gA_zero] at h
  exact h
theorem all_perm (far : Nat) : ∀ i, ((List.range i).map (fun k => gA m C k far) ++ (List.range far).map (fun l => gD m C l i)).Perm ((List.range i).map (fun k => m - 1 - k) ++ (List.range far).map (fun l => m + l))
  | 0 => by
    simp only [List.range_zero, List.map_nil, List.nil_append, gD_zero]
    exact List.Perm.refl _
  | i + 1 => by
    have ih := all_perm far i
    rw [List.range_succ, List.map_append, List.map_append, List.append_assoc, List.append_assoc]
    refine List.Perm.trans (List.Perm.append_left _ (List.perm_append_comm.trans (row_end i far))) ?_
    show ((List.range i).map _ ++ ([m - 1 - i] ++ _)).Perm _
    refine List.Perm.trans (List.perm_append_comm_assoc _ _ _) ?_
    refine List.Perm.trans ?_ (List.perm_append_comm_assoc _ _ _)
    exact List.Perm.append_left _ ih
theorem ends_perm (far : Nat) : ((List.range m).map (fun k => gA m C k far) ++ (List.range far).map (fun l => gD m C l m)).Perm (List.range (m + far)) := by
  refine (all_perm far m).trans ?_
  rw [List.range_add]
  refine List.Perm.append_right _ ?_
  have e : (List.range m).map (fun k => m - 1 - k) = (List.range m).reverse := by
    refine List.ext_getElem (by simp) fun i h1 h2 => ?_
    simp
  rw [e]
  exact List.reverse_perm _
end
noncomputable def rowO (z : Nat → Bool) (ab : List Int) (left : Int) : Nat → List Int × Int
  | 0 => ([], left)
  | j + 1 => if z j = true then ((rowO z ab left j).1 ++ [(rowO z ab left j).2], ab.getD j 0) else ((rowO z ab left j).1 ++ [ab.getD j 0], (rowO z ab left j).2)
theorem rowO_len (z : Nat → Bool) (ab : List Int) (left : Int) : ∀ j, (rowO z ab left j).1.length = j
  | 0 => rfl
  | j + 1 => by
    have ih := rowO_len z ab left j
    rw [rowO]
    split <;> simp [ih]
noncomputable def gDs (m : Nat) (C : Nat → Nat → Bool) (far i : Nat) : List Int := (List.range far).map fun l => ((gD m C l i : Nat) : Int)
noncomputable def gAs (m : Nat) (C : Nat → Nat → Bool) (far i : Nat) : List Int := (List.range i).map fun k => ((gA m C k far : Nat) : Int)
theorem gDs_at {m : Nat} {C : Nat → Nat → Bool} {far i j : Nat} (h : j < far) : (gDs m C far i).getD j 0 = ((gD m C j i : Nat) : Int) := by
  unfold gDs
  rw [List.getD_eq_getElem?_getD, List.getElem?_map, List.getElem?_range h]; rfl
theorem gAs_at {m : Nat} {C : Nat → Nat → Bool} {far i j : Nat} (h : j < i) : (gAs m C far i)[j]? = some ((gA m C j far : Nat) : Int) := by
  unfold gAs
  rw [List.getElem?_map, List.getElem?_range h]; rfl
theorem gDs_at' {m : Nat} {C : Nat → Nat → Bool} {far i j : Nat} (h : j < far) : (gDs m C far i)[j]? = some ((gD m C j i : Nat) : Int) := by
  unfold gDs
  rw [List.getElem?_map, List.getElem?_range h]; rfl
theorem rowO_g {m : Nat} {C : Nat → Nat → Bool} {far i : Nat} : ∀ j, j ≤ far → rowO (C i) (gDs m C far i) ((gA m C i 0 : Nat) : Int) j = (gDs m C j (i + 1), ((gA m C i j : Nat) : Int))
  | 0, _ => rfl
  | j + 1, h => by
    have ih := rowO_g (m := m) (C := C) (far := far) (i := i) j (by omega)
    rw [rowO, ih, gDs_at (by omega), gA_succ]
    have e : gDs m C (j + 1) (i + 1) = gDs m C j (i + 1) ++ [((gD m C j (i + 1) : Nat) : Int)] := by unfold gDs; rw [List.range_succ, List.map_append]; rfl
    rw [e, gD_succ]
    by_cases hc : C i j = true
    · rw [if_pos hc, if_pos hc, if_pos hc]
    · rw [if_neg hc, if_neg hc, if_neg hc]
theorem lines_lt {m : Nat} {C : Nat → Nat → Bool} {far : Nat} : (∀ i, i < m → gA m C i far < m + far) ∧ ∀ j, j < far → gD m C j m < m + far := by
  have p := ends_perm (m := m) (C := C) far
  refine ⟨fun i hi => ?_, fun j hj => ?_⟩
  · exact List.mem_range.mp (p.mem_iff.mp (List.mem_append_left _ (List.mem_map.mpr ⟨i, List.mem_range.mpr hi, rfl⟩)))
  · exact List.mem_range.mp (p.mem_iff.mp (List.mem_append_right _ (List.mem_map.mpr ⟨j, List.mem_range.mpr hj, rfl⟩)))
theorem lines_nd {m : Nat} {C : Nat → Nat → Bool} {far : Nat} : ((List.range m).map (fun k => gA m C k far) ++ (List.range far).map (fun l => gD m C l m)).Nodup :=
  (ends_perm (m := m) (C := C) far).nodup_iff.mpr List.nodup_range
theorem aa_ne {m : Nat} {C : Nat → Nat → Bool} {far i k : Nat} (hi : i < m) (hk : k < m) (h : i ≠ k) : gA m C i far ≠ gA m C k far := by
  have n := (List.nodup_append.mp (lines_nd (m := m) (C := C) (far := far))).1
  have key := List.pairwise_iff_getElem.mp n
  intro z
  rcases Nat.lt_or_gt_of_ne h with l | l
  · exact key i k (by simpa using hi) (by simpa using hk) l (by simpa using z)
  · exact key k i (by simpa using hk) (by simpa using hi) l (by simpa using z.symm)
theorem dd_ne {m : Nat} {C : Nat → Nat → Bool} {far i k : Nat} (hi : i < far) (hk : k < far) (h : i ≠ k) : gD m C i m ≠ gD m C k m := by
  have n := (List.nodup_append.mp (lines_nd (m := m) (C := C) (far := far))).2.1
  have key := List.pairwise_iff_getElem.mp n
  intro z
  rcases Nat.lt_or_gt_of_ne h with l | l
  · exact key i k (by simpa using hi) (by simpa using hk) l (by simpa using z)
  · exact key k i (by simpa using hk) (by simpa using hi) l (by simpa using z.symm)
theorem ad_ne {m : Nat} {C : Nat → Nat → Bool} {far i j : Nat} (hi : i < m) (hj : j < far) : gA m C i far ≠ gD m C j m :=
  (List.nodup_append.mp (lines_nd (m := m) (C := C) (far := far))).2.2 _ (List.mem_map.mpr ⟨i, List.mem_range.mpr hi, rfl⟩) _ (List.mem_map.mpr ⟨j, List.mem_range.mpr hj, rfl⟩)
noncomputable def IsEnds (m : Nat) (C : Nat → Nat → Bool) (far : Nat) (R : List Int) : Prop := R.length = m + far ∧ (∀ j, j < far → R[gD m C j m]? = some (j : Int)) ∧ ∀ i, i < m → R[gA m C i far]? = some (((far + (m - 1 - i) : Nat)) : Int)
noncomputable def LETT : Str := Str.ofString "abcdefghijklmnopqrstuvwxyz"
noncomputable def GOOD : List Nat := (LETT ++ Str.ofString ".").cps.toList
noncomputable def Row (z : Str) : Prop := z.length ≤ 48 ∧ ∀ c ∈ z.cps.toList, c ∈ GOOD
noncomputable def badC (l : Str) (c : Nat) : Bool := (Builtin.Str.occurrences l ⟨#[c]⟩ 0 l.length 1).isEmpty
theorem good_ok : ∀ c ∈ GOOD, badC (LETT ++ Str.ofString ".") c = false := by decide +kernel
noncomputable def spCell (K : PySem.W.Frag) : Sp := fun vs H Q _ => ∃ (a : Addr) (ns : List Int) (k : Int), vs = [.ref a, .int k] ∧ SqL K H a (ns.map V.int) ∧ 0 ≤ k ∧ ∀ n, Q (.int n) H
theorem over {H H' : Hp} {r : Addr} {o : HO} (s : Same H H') (hn : H r = none) : Same H (upd H' r o) := fun b u e => by
  rw [upd_ne (fun z => by rw [z, hn] at e; cases e)]; exact s b u e
noncomputable def Thing (K : PySem.W.Frag) (H : Hp) (v : V) : Prop := (∃ z, v = .str z ∧ z.length ≤ 5000) ∨ ∃ T, TyOf K H v (.type T) ∧ PySem.W.kitOne K (.type T) (.type "str") = some false
noncomputable def among (z l : Str) : Bool := z.cps.toList.all fun c => !(Builtin.Str.occurrences l ⟨#[c]⟩ 0 l.length 1).isEmpty
noncomputable def readB (v : V) (l : Str) (m : Int) : Bool := match v with
  | .str z => decide ((z.length : Int) ≤ m) && among z l
  | _ => false
noncomputable def spIs (K : PySem.W.Frag) (l : Str) (m : Int) : Sp := fun vs H Q _ => ∃ (v : V), vs = [v] ∧ Thing K H v ∧ ∀ H', Same H H' → Q (.bl (readB v l m)) H'
structure Txt (K : PySem.W.Frag) (mg : Str → Option Value) : Prop where
  b_all : mg "all" = none
  b_bool : mg "bool" = none
  b_enumerate : mg "enumerate" = none
  b_int : mg "int" = none
  b_isinstance : mg "isinstance" = none
  b_len : mg "len" = none
  b_list : mg "list" = none
  b_max : mg "max" = none
  b_range : mg "range" = none
  b_reversed : mg "reversed" = none
  b_sorted : mg "sorted" = none
  b_str : mg "str" = none
  b_zip : mg "zip" = none
  c_CROSS : ∃ t, mg "CROSS" = some (.str "x" t)
  c_LETTERS : ∃ t, mg "LETTERS" = some (.str "abcdefghijklmnopqrstuvwxyz" t)
  c_MOST_SIGNS : ∃ t, mg "MOST_SIGNS" = some (.int 48 t)
  c_POINT : ∃ t, mg "POINT" = some (.str "." t)
  c_TOUCH : ∃ t, mg "TOUCH" = some (.str "o" t)
  d_is_row : Def K mg "is_row" s_is_row
  d_need_row : Def K mg "need_row" s_need_row
  d_need_rows : Def K mg "need_rows" s_need_rows
  d_lines_above : Def K mg "lines_above" s_lines_above
  d_signs_of_row : Def K mg "signs_of_row" s_signs_of_row
  d_over_row : Def K mg "over_row" s_over_row
  d_cells_of : Def K mg "cells_of" s_cells_of
  d_ends_of : Def K mg "ends_of" s_ends_of
  d_over_cells : Def K mg "over_cells" s_over_cells
  d_ways_of : Def K mg "ways_of" s_ways_of
  d_law_at : Def K mg "_law_at" s_law_at
  d_law_mix : Def K mg "_law_mix" s_law_mix
  d_law_put : Def K mg "_law_put" s_law_put
  d_law_two : Def K mg "_law_two" s_law_two
  d_law_lengths : Def K mg "_law_lengths" s_law_lengths
  d_law_told : Def K mg "_law_told" s_law_told
  d_law_stretches : Def K mg "_law_stretches" s_law_stretches
  d_law : Def K mg "law" s_law
  x_NoRow : XTxt K mg "NoRow" ["found"] "NoRow.__init__" i_NoRow
  x_NoPlace : XTxt K mg "NoPlace" ["found"] "NoPlace.__init__" i_NoPlace
  o_Board : OTxt K mg "Board"
  n_Board : ∀ f ∈ (["held_side", "held_top", "held_cells", "held_coming", "held_lines", "held_ways"] : List Str), NoAttr K (clsA mg "Board") f
  m_Board___init__ : MTxt K mg "Board" "__init__" "Board.__init__" s_Board___init__
  m_Board_lines : MTxt K mg "Board" "lines" "Board.lines" s_Board_lines
section
variable {P : Program} {w : World} {K : PySem.W.Frag} {mg : Str → Option Value} {base : Heap}
theorem nd_lines_above_0 : (["column", "many"] : List Str).Nodup := by decide +kernel
theorem kz00 : (defScope s_lines_above).names.lookup ("range" : Str) = some NameKind.globalImplicit := by decide +kernel
theorem kz01 : (defScope s_lines_above).names.lookup ("far" : Str) = some NameKind.local := by decide +kernel
theorem kz02 : (defScope s_over_row).names.lookup ("left" : Str) = some NameKind.local := by decide +kernel
theorem kz03 : (defScope s_over_row).names.lookup ("below" : Str) = some NameKind.local := by decide +kernel
theorem kz04 : (defScope s_over_row).names.lookup ("coming" : Str) = some NameKind.local := by decide +kernel
theorem kz05 : (defScope s_over_row).names.lookup ("zip" : Str) = some NameKind.globalImplicit := by decide +kernel
theorem kz06 : (defScope s_over_row).names.lookup ("above" : Str) = some NameKind.local := by decide +kernel
theorem kz07 : (defScope s_over_row).names.lookup ("signs" : Str) = some NameKind.local := by decide +kernel
theorem kz08 : (defScope s_over_row).names.lookup ("line" : Str) = some NameKind.local := by decide +kernel
theorem kz09 : (defScope s_over_row).names.lookup ("sign" : Str) = some NameKind.local := by decide +kernel
theorem kz0a : (defScope s_over_row).names.lookup ("TOUCH" : Str) = some NameKind.globalImplicit := by decide +kernel
noncomputable def spAbove : Sp := fun vs H Q _ => ∃ m f : Nat, vs = [.int m, .int f] ∧ m ≤ 48 ∧ f ≤ 48 ∧ ∀ D, H D = none → Q (.ref D) (upd H D (.lst (((List.range f).map fun l => ((m + l : Nat) : Int)).map V.int)))
theorem sc_lines_above : FnScope ["many", "far"] ["many", "far"] (defScope s_lines_above) := ⟨rfl, rfl, rfl, by decide +kernel, rfl, by decide +kernel, by decide +kernel⟩
theorem h_lines_above (T : Txt K mg) : Has P w K mg base 1 "lines_above" ["many", "far"] spAbove := by
  refine hasJ T.d_lines_above sc_lines_above (fun _ _ _ _ _ _ us hl => L2.usN2 (fun _ _ => rfl) us hl) ?_ fun f cdv A outer s H vs Q E hr h => ?_
  · rintro vs H Q E ⟨m, f, rfl, _⟩; rfl
  obtain ⟨m, f, rfl, hm, hf, q⟩ := h
  have hu := hr.units0
  have hu64 := hr.units
  refine ⟨_, (jb_one (js_ret (j_comp (sub := [none, some 0]) (subOk_of (N := ["many", "far"]) (sc := defScope s_lines_above) (N' := ["column", "many"]) (by decide +kernel)) rfl rfl rfl (ji_range1 (glF kz00) T.b_range (ja_cons (j_vL 1 kz01) ja_nil)) (fun C s₀ H₀ ex => (jg_B 0 (by decide +kernel) nd_lines_above_0)) (fun C s₀ H₀ ex => jif_nil) (fun C s₀ H₀ ex => (j_op op_addA (j_vBF 1 (by decide +kernel)) (j_vBL 0 (by decide +kernel))))))), ?_⟩
  walk_at "sts"
  refine ⟨_, rfl, by omega, by omega, ?_⟩
  refine comp_rng (n := f) (fun i ys H' => H' = H ∧ ys = ((List.range i).map fun l => ((m + l : Nat) : Int)).map V.int) (Nat.le_trans hf (by decide)) ⟨rfl, rfl⟩ ?_ ?_ ?_
  · rintro i ys H' ⟨_, rfl⟩
    simp
  · rintro i ys H' hi ⟨rfl, rfl⟩
    walk_at "sts"
    refine ⟨KeepSt.set rfl, ?_⟩
    walk_at "sts"
    refine ⟨rfl, ?_⟩
    rw [List.range_succ, List.map_append, List.map_append]
    simp
  · rintro ys H' ⟨rfl, rfl⟩ D hD
    walk_at "sts"
    exact q D hD
noncomputable def PrI (H : Hp) : List V → List (Int × Int) → Prop
  | [], [] => True
  | v :: vs, (x, y) :: L => (∃ p, v = .ref p ∧ H p = some (.tup [.int x, .int y])) ∧ PrI H vs L
  | _, _ => False
theorem PrI.imp {H H' : Hp} (h : ∀ p us, H p = some (.tup us) → H' p = some (.tup us)) : ∀ {ws : List V} {L : List (Int × Int)}, PrI H ws L → PrI H' ws L
  | [], [], _ => trivial
  | v :: vs, (x, y) :: L, ⟨⟨p, e, hp⟩, r⟩ => ⟨⟨p, e, h _ _ hp⟩, PrI.imp h r⟩
  | [], _ :: _, z => z.elim
  | _ :: _, [], z => z.elim
theorem PrI.same {H H' : Hp} {ws : List V} {L : List (Int × Int)} (h : PrI H ws L) (s : Same H H') : PrI H' ws L := h.imp fun p us e => s _ _ e
theorem PrI.upd {H : Hp} {ws us : List V} {L : List (Int × Int)} {f : Addr} {o : HO} (h : PrI H ws L) (hf : H f = some (.lst us)) : PrI (upd H f o) ws L := h.imp fun p vs e => by rw [upd_ne (fun z => by rw [z, hf] at e; cases e)]; exact e
theorem PrI.push {H : Hp} {p : Addr} {x y : Int} (hp : H p = some (.tup [.int x, .int y])) : ∀ {ws : List V} {L : List (Int × Int)}, PrI H ws L → PrI H (ws ++ [.ref p]) (L ++ [(x, y)])
  | [], [], _ => ⟨⟨p, rfl, hp⟩, trivial⟩
  | v :: vs, (x, y) :: L, ⟨a, r⟩ => ⟨a, PrI.push hp r⟩
  | [], _ :: _, z => z.elim
  | _ :: _, [], z => z.elim
theorem PrI.len {H : Hp} : ∀ {ws : List V} {L : List (Int × Int)}, PrI H ws L → ws.length = L.length
  | [], [], _ => rfl
  | v :: vs, (x, y) :: L, ⟨_, r⟩ => congrArg (· + 1) (PrI.len r)
  | [], _ :: _, z => z.elim
  | _ :: _, [], z => z.elim
theorem PrI.get {H : Hp} : ∀ {ws : List V} {L : List (Int × Int)} {k : Nat} {q : Int × Int}, PrI H ws L → L[k]? = some q → ∃ r, ws[k]? = some (.ref r) ∧ H r = some (.tup [.int q.1, .int q.2])
  | v :: vs, (x, y) :: L, 0, q, ⟨⟨p, e, hp⟩, _⟩, h => by
    have h' : (x, y) = q := by simpa using h
    subst h'
    exact ⟨p, by rw [e]; rfl, hp⟩
  | v :: vs, (x, y) :: L, k + 1, q, ⟨_, r⟩, h => by
    obtain ⟨a, h1, h2⟩ := PrI.get (k := k) r (by simpa using h)
    exact ⟨a, by simpa using h1, h2⟩
  | [], [], k, q, _, h => by simp at h
  | [], _ :: _, _, _, z, _ => z.elim
  | _ :: _, [], _, _, z, _ => z.elim
noncomputable def rowC (z : Nat → Bool) (ab : List Int) (left : Int) (n : Nat) : List (Int × Int) := (List.range n).map fun j => ((rowO z ab left j).2, ab.getD j 0)
theorem rowC_succ (z : Nat → Bool) (ab : List Int) (left : Int) (n : Nat) : rowC z ab left (n + 1) = rowC z ab left n ++ [((rowO z ab left n).2, ab.getD n 0)] := by unfold rowC; rw [List.range_succ, List.map_append]; rfl
noncomputable def tch (z : Str) (j : Nat) : Bool := decide ((⟨#[z.cps.getD j 0]⟩ : Str) = Str.ofString "o")
noncomputable def spOver : Sp := fun vs H Q _ => ∃ (z : Str) (left : Int) (a : Addr) (ab : List Int), vs = [.str z, .int left, .ref a] ∧ H a = some (.lst (ab.map V.int)) ∧ z.cps.size = ab.length ∧ ab.length ≤ 48 ∧
  ∀ t c b H', H b = none → H c = none → Same H H' → H' t = some (.tup [.ref c, .ref b, .int (rowO (tch z) ab left ab.length).2]) → H' b = some (.lst ((rowO (tch z) ab left ab.length).1.map V.int)) → (∃ cs, H' c = some (.lst cs) ∧ PrI H' cs (rowC (tch z) ab left ab.length)) → Q (.ref t) H'
theorem sc_over_row : FnScope ["signs", "left", "above", "coming", "below", "sign", "line"] ["signs", "left", "above"] (defScope s_over_row) := ⟨rfl, rfl, rfl, by decide +kernel, rfl, by decide +kernel, by decide +kernel⟩
theorem h_over_row (T : Txt K mg) : Has P w K mg base 1 "over_row" ["signs", "left", "above"] spOver := by
  refine hasJ T.d_over_row sc_over_row (fun _ _ _ _ _ _ us hl => L2.usN3 (fun _ _ _ => rfl) us hl) ?_ fun f cdv A outer s H vs Q E hr h => ?_
  · rintro vs H Q E ⟨z, left, a, ab, rfl, _⟩; rfl
  obtain ⟨z, left, a, ab, rfl, ha, hz, hl, q⟩ := h
  have hu := hr.units0
  have hu64 := hr.units
  refine ⟨_, (jb_cons (js_set (i := 3) sc_over_row.nd rfl (Or.inl kz04) (j_lst ja_nil) rfl) (jb_cons (js_set (i := 4) sc_over_row.nd rfl (Or.inl kz03) (j_lst ja_nil) rfl) (jb_cons (js_for PassesOwn.never rfl (ji_zipTL (K := K) rfl rfl (glF kz05) T.b_zip (ja_cons (j_vL 0 kz07) (ja_cons (j_vL 2 kz06) ja_nil))) (jg_tup (K := K) rfl rfl (jgs_cons (jg_name (i := 5) sc_over_row.nd rfl (Or.inl kz09) rfl) (jgs_cons (jg_name (i := 6) sc_over_row.nd rfl (Or.inl kz08) rfl) jgs_nil))) (jb_cons (js_expr (j_meth (K := K) rfl PySem.F.plainAttrs_list PySem.F.slot_list_append PySem.F.type_list_append mt_append (j_vL 3 kz04) (ja_cons (j_tup (ja_cons (j_vL 1 kz02) (ja_cons (j_vL 6 kz08) ja_nil))) ja_nil))) (jb_one (js_if (jt_cmp (op_eqX (K := K) rfl hu64) (j_vL 5 kz09) (j_gstr (glF kz0a) T.c_TOUCH (by decide +kernel)) (by first | exact nomark _ | with_unfolding_all rfl)) (jb_cons (js_expr (j_meth (K := K) rfl PySem.F.plainAttrs_list PySem.F.slot_list_append PySem.F.type_list_append mt_append (j_vL 4 kz03) (ja_cons (j_vL 1 kz02) ja_nil))) (jb_one (js_set (i := 1) sc_over_row.nd rfl (Or.inl kz02) (j_vL 6 kz08) rfl))) (jb_one (js_expr (j_meth (K := K) rfl PySem.F.plainAttrs_list PySem.F.slot_list_append PySem.F.type_list_append mt_append (j_vL 4 kz03) (ja_cons (j_vL 6 kz08) ja_nil)))))))) (jb_one (js_ret (j_tup (ja_cons (j_vL 3 kz04) (ja_cons (j_vL 4 kz03) (ja_cons (j_vL 1 kz02) ja_nil))))))))), ?_⟩
  walk_at "sts"
  refine r_new rfl fun C nC => ?_
  walk_at "sts"
  refine r_new rfl fun B nB => ?_
  have nBH : H B = none := ((Same.refl H).upd nC).free nB
  have nCB : C ≠ B := fun z => by rw [z, upd_same] at nB; cases nB
  have e0 : upd (upd H C (.lst [])) B (.lst []) C = some (.lst []) := by rw [upd_ne nCB]; exact upd_same
  have S0 : Same H (upd (upd H C (.lst [])) B (.lst [])) := ((Same.refl H).upd nC).upd nB
  walk_at "sts"
  refine ⟨z, a, ab.map V.int, rfl, SqL.of (S0 _ _ ha), ?_⟩
  refine for_zipTL (ys := ab.map V.int) (fun j σ H' => Same H H' ∧ (∃ cs, H' C = some (.lst cs) ∧ cs.length = j ∧ PrI H' cs (rowC (tch z) ab left j)) ∧ H' B = some (.lst ((rowO (tch z) ab left j).1.map V.int)) ∧
      ∃ x5 x6, σ = [some (.str z), some (.int (rowO (tch z) ab left j).2), some (.ref a), some (.ref C), some (.ref B), x5, x6])
    (by rw [List.length_map]; exact hz) ⟨S0, ⟨[], e0, rfl, trivial⟩, upd_same, none, none, rfl⟩ (fun i σ H' _ h => SqL.of (h.1 _ _ ha)) ?_ ?_
  · rintro j σ H1 T0 y hy ⟨S1, ⟨cs, hC, hcs, hW⟩, hB, x5, x6, rfl⟩ nT
    obtain ⟨n, hn, rfl⟩ : ∃ n, ab[j]? = some n ∧ y = V.int n := by
      rw [List.getElem?_map] at hy
      cases e : ab[j]? with
      | none => rw [e] at hy; cases hy
      | some n => rw [e] at hy; exact ⟨n, rfl, (Option.some.inj hy).symm⟩
    have hj : j < ab.length := (List.getElem?_eq_some_iff.mp hn).1
    have en : ab.getD j 0 = n := by rw [List.getD_eq_getElem?_getD, hn]; rfl
    refine r_gtup (xs := [.str ⟨#[z.cps.getD j 0]⟩, .int n]) (SqT.of upd_same) rfl ?_
    have hC2 := upd_old nT hC (o := .tup [.str ⟨#[z.cps.getD j 0]⟩, .int n])
    have hB2 := upd_old nT hB (o := .tup [.str ⟨#[z.cps.getD j 0]⟩, .int n])
    have hW2 := hW.same ((Same.refl H1).upd nT (o := .tup [.str ⟨#[z.cps.getD j 0]⟩, .int n]))
    have S2 := S1.upd nT (o := .tup [.str ⟨#[z.cps.getD j 0]⟩, .int n])
    generalize upd H1 T0 (.tup [.str ⟨#[z.cps.getD j 0]⟩, .int n]) = H2 at hC2 hB2 S2 hW2 ⊢
    have hs : 100 ≤ sizeLine := by decide
    walk_at "sts"
    refine ⟨.inl ⟨rfl, _, SqL.of hC2⟩, ?_⟩
    walk_at "sts"
    refine r_new rfl fun p np => ?_
    have hC3 := upd_old np hC2 (o := .tup [.int (rowO (tch z) ab left j).2, .int n])
    have hB3 := upd_old np hB2 (o := .tup [.int (rowO (tch z) ab left j).2, .int n])
    have S3 := S2.upd np (o := .tup [.int (rowO (tch z) ab left j).2, .int n])
    have hW3 : PrI (upd H2 p (.tup [.int (rowO (tch z) ab left j).2, .int n])) (cs ++ [.ref p]) (rowC (tch z) ab left (j + 1)) := by
      rw [rowC_succ, en]
      exact (hW2.same ((Same.refl H2).upd np)).push upd_same
    generalize upd H2 p (.tup [.int (rowO (tch z) ab left j).2, .int n]) = H3 at hC3 hB3 S3 hW3 ⊢
    walk_at "sts"
    refine r_append hC3 (by omega) ?_
    have S4 := over (o := .lst (cs ++ [.ref p])) S3 nC
    have hC4 : upd H3 C (.lst (cs ++ [.ref p])) C = some (.lst (cs ++ [.ref p])) := upd_same
    have hB4 : upd H3 C (.lst (cs ++ [.ref p])) B = some (.lst ((rowO (tch z) ab left j).1.map V.int)) := by rw [upd_ne nCB.symm]; exact hB3
    have hW4 := hW3.upd hC3 (o := .lst (cs ++ [.ref p]))
    generalize upd H3 C (.lst (cs ++ [.ref p])) = H4 at hC4 hB4 S4 hW4 ⊢
    have hlB : ((rowO (tch z) ab left j).1.map V.int).length < sizeLine := by rw [List.length_map, rowO_len]; omega
    walk_at "sts"
    refine iteD (fun hk => ?_) (fun hk => ?_)
    · have hk' : tch z j = true := decide_eq_true (V.str.inj hk)
      walk_at "sts"
      refine ⟨.inl ⟨rfl, _, SqL.of hB4⟩, ?_⟩
      walk_at "sts"
      refine r_append hB4 hlB ?_
      walk_at "sts"
      refine ⟨over S4 nBH, ⟨cs ++ [.ref p], by rw [upd_ne nCB]; exact hC4, by simp [hcs], hW4.upd hB4⟩, ?_, some (.str ⟨#[z.cps.getD j 0]⟩), some (.int n), ?_⟩
      · rw [upd_same, rowO, if_pos hk', List.map_append]; rfl
      · rw [rowO, if_pos hk', en]; rfl
    · have hk' : ¬ tch z j = true := fun h => hk (congrArg V.str (of_decide_eq_true h))
      walk_at "sts"
      refine ⟨.inl ⟨rfl, _, SqL.of hB4⟩, ?_⟩
      walk_at "sts"
      refine r_append hB4 hlB ?_
      refine ⟨over S4 nBH, ⟨cs ++ [.ref p], by rw [upd_ne nCB]; exact hC4, by simp [hcs], hW4.upd hB4⟩, ?_, some (.str ⟨#[z.cps.getD j 0]⟩), some (.int n), ?_⟩
      · rw [upd_same, rowO, if_neg hk', en, List.map_append]; rfl
      · rw [rowO, if_neg hk']; rfl
  · rintro σ H1 ⟨S1, ⟨cs, hC, hcs, hW⟩, hB, x5, x6, rfl⟩
    rw [List.length_map] at hB hW
    walk_at "sts"
    refine r_new rfl fun p np => ?_
    walk_at "sts"
    rw [List.length_map]
    exact q p C B _ nBH nC (S1.upd np) upd_same (upd_old np hB) ⟨cs, upd_old np hC, hW.same ((Same.refl H1).upd np)⟩
end

section
variable {P : Program} {w : World} {K : PySem.W.Frag} {mg : Str → Option Value} {base : Heap}
theorem kz0b : (defScope s_ends_of).names.lookup ("ends" : Str) = some NameKind.local := by decide +kernel
theorem kz0c : (defScope s_ends_of).names.lookup ("enumerate" : Str) = some NameKind.globalImplicit := by decide +kernel
theorem kz0d : (defScope s_ends_of).names.lookup ("reversed" : Str) = some NameKind.globalImplicit := by decide +kernel
theorem kz0e : (defScope s_ends_of).names.lookup ("right" : Str) = some NameKind.local := by decide +kernel
theorem kz0f : (defScope s_ends_of).names.lookup ("line" : Str) = some NameKind.local := by decide +kernel
theorem kz0g : (defScope s_ends_of).names.lookup ("place" : Str) = some NameKind.local := by decide +kernel
theorem kz0h : (defScope s_ends_of).names.lookup ("len" : Str) = some NameKind.globalImplicit := by decide +kernel
theorem kz0i : (defScope s_ends_of).names.lookup ("below" : Str) = some NameKind.local := by decide +kernel
theorem kz0j : (defScope s_ends_of).names.lookup ("column" : Str) = some NameKind.local := by decide +kernel
noncomputable def spEnds : Sp := fun vs H Q _ => ∃ (m far : Nat) (C : Nat → Nat → Bool) (b r : Addr), vs = [.ref b, .ref r] ∧ m ≤ 48 ∧ far ≤ 48 ∧ H b = some (.lst ((gDs m C far m).map V.int)) ∧ H r = some (.lst ((gAs m C far m).map V.int)) ∧
  ∀ e R H', H e = none → Same H H' → IsEnds m C far R → H' e = some (.lst (R.map V.int)) → Q (.ref e) H'
theorem ixN_n {n k : Nat} (h : k < n) : ixN n (k : Int) = some k := by
  unfold ixN
  rw [if_pos (by omega), if_pos (by omega)]; rfl
theorem zeros0 (n : Nat) : (List.replicate n [V.int 0]).flatten = (List.replicate n (0 : Int)).map V.int := by
  induction n with
  | zero => rfl
  | succ n ih => rw [List.replicate_succ, List.flatten_cons, ih, List.replicate_succ]; rfl
theorem sc_ends_of : FnScope ["below", "right", "ends", "column", "line", "place"] ["below", "right"] (defScope s_ends_of) := ⟨rfl, rfl, rfl, by decide +kernel, rfl, by decide +kernel, by decide +kernel⟩
theorem h_ends_of (T : Txt K mg) : Has P w K mg base 1 "ends_of" ["below", "right"] spEnds := by
  refine hasJ T.d_ends_of sc_ends_of (fun _ _ _ _ _ _ us hl => L2.usN2 (fun _ _ => rfl) us hl) ?_ fun f cdv A outer s H vs Q E hr h => ?_
  · rintro vs H Q E ⟨m, far, C, b, r, rfl, _⟩; rfl
  obtain ⟨m, far, C, b, r, rfl, hm, hf, hb, hr', q⟩ := h
  have hu := hr.units0
  have hu64 := hr.units
  refine ⟨_, (jb_cons (js_set (i := 2) sc_ends_of.nd rfl (Or.inl kz0b) (j_op op_mulA (j_lst (ja_cons j_int ja_nil)) (j_op op_addA (j_callB (call_lenK (K := K) rfl) (glF kz0h) T.b_len bt_len (ja_cons (j_vL 0 kz0i) ja_nil) (by decide +kernel) (by decide +kernel)) (j_callB (call_lenK (K := K) rfl) (glF kz0h) T.b_len bt_len (ja_cons (j_vL 1 kz0e) ja_nil) (by decide +kernel) (by decide +kernel)))) rfl) (jb_cons (js_for PassesOwn.never rfl (ji_enum (K := K) rfl rfl (glF kz0c) T.b_enumerate (ja_cons (j_vL 0 kz0i) ja_nil)) (jg_tup (K := K) rfl rfl (jgs_cons (jg_name (i := 3) sc_ends_of.nd rfl (Or.inl kz0j) rfl) (jgs_cons (jg_name (i := 4) sc_ends_of.nd rfl (Or.inl kz0f) rfl) jgs_nil))) (jb_one (js_asgS (ts := rSetL) (j_vL 3 kz0j) (jg_sub (j_vL 2 kz0b) (j_vL 4 kz0f) set_list)))) (jb_cons (js_for PassesOwn.never rfl (ji_enumRev (K := K) rfl (glF kz0c) T.b_enumerate (glF kz0d) T.b_reversed (j_vL 1 kz0e)) (jg_tup (K := K) rfl rfl (jgs_cons (jg_name (i := 5) sc_ends_of.nd rfl (Or.inl kz0g) rfl) (jgs_cons (jg_name (i := 4) sc_ends_of.nd rfl (Or.inl kz0f) rfl) jgs_nil))) (jb_one (js_asgS (ts := rSetL) (j_op op_addA (j_callB (call_lenK (K := K) rfl) (glF kz0h) T.b_len bt_len (ja_cons (j_vL 0 kz0i) ja_nil) (by decide +kernel) (by decide +kernel)) (j_vL 5 kz0g)) (jg_sub (j_vL 2 kz0b) (j_vL 4 kz0f) set_list)))) (jb_one (js_ret (j_vL 2 kz0b)))))), ?_⟩
  walk_at "sts"
  have hs : 1000 ≤ sizeLine := by decide
  have lb : ((gDs m C far m).map V.int).length = far := by simp [gDs]
  have lr : ((gAs m C far m).map V.int).length = m := by simp [gAs]
  refine ⟨by decide, fun z nz => ?_⟩
  walk_at "sts"
  refine r_lenL (SqL.of (upd_old nz hb)) ?_
  rw [lb]
  walk_at "sts"
  refine r_lenL (SqL.of (upd_old nz hr')) ?_
  rw [lr]
  walk_at "sts"
  have eN : ((far : Int) + (m : Int)).toNat = m + far := by omega
  refine r_mulL upd_same (by omega) (by omega) (by rw [eN]; simp; omega) fun e ne => ?_
  rw [eN, zeros0]
  have neH : H e = none := ((Same.refl H).upd nz).free ne
  have S0 := ((Same.refl H).upd (o := .lst [.int 0]) nz).upd (o := .lst ((List.replicate (m + far) (0 : Int)).map V.int)) ne
  have e0 := upd_same (H := upd H z (.lst [.int 0])) (a := e) (o := .lst ((List.replicate (m + far) (0 : Int)).map V.int))
  generalize upd (upd H z (.lst [.int 0])) e (.lst ((List.replicate (m + far) (0 : Int)).map V.int)) = H1 at S0 e0 ⊢
  have nbe : b ≠ e := fun z => by rw [z, neH] at hb; cases hb
  have nre : r ≠ e := fun z => by rw [z, neH] at hr'; cases hr'
  walk_at "sts"
  refine .inr ⟨b, _, rfl, SqL.of (S0 _ _ hb), ?_⟩
  refine for_enumL (xs := (gDs m C far m).map V.int) (fun j σ H' => Same H H' ∧ (∃ R : List Int, H' e = some (.lst (R.map V.int)) ∧ R.length = m + far ∧ ∀ l, l < j → R[gD m C l m]? = some (l : Int)) ∧ ∃ x3 x4 x5, σ = [some (.ref b), some (.ref r), some (.ref e), x3, x4, x5])
    ⟨S0, ⟨_, e0, by simp, fun l hl => absurd hl (by omega)⟩, none, none, none, rfl⟩ (fun i σ H' _ h => SqL.of (h.1 _ _ hb)) ?_ ?_
  · rintro j σ H2 T0 x hx ⟨S2, ⟨R, hR, lR, gR⟩, x3, x4, x5, rfl⟩ nT
    have hj : j < far := by
      have := (List.getElem?_eq_some_iff.mp hx).1
      rw [lb] at this; exact this
    obtain rfl : x = V.int ((gD m C j m : Nat) : Int) := by
      rw [List.getElem?_map, gDs_at' hj] at hx
      exact (Option.some.inj hx).symm
    have hlt := lines_lt (m := m) (C := C) (far := far) |>.2 j hj
    refine r_gtup (xs := [.int j, .int ((gD m C j m : Nat) : Int)]) (SqT.of upd_same) rfl ?_
    have hR2 := upd_old nT hR (o := .tup [.int j, .int ((gD m C j m : Nat) : Int)])
    have S3 := S2.upd nT (o := .tup [.int j, .int ((gD m C j m : Nat) : Int)])
    generalize upd H2 T0 (.tup [.int j, .int ((gD m C j m : Nat) : Int)]) = H3 at hR2 S3 ⊢
    walk_at "sts"
    refine r_setL hR2 (ixN_n (by rw [List.length_map, lR]; exact hlt)) ?_
    rw [← List.map_set]
    refine ⟨over S3 neH, ⟨R.set (gD m C j m) j, upd_same, by simp [lR], fun l hl => ?_⟩, some (.int j), some (.int ((gD m C j m : Nat) : Int)), x5, rfl⟩
    by_cases hlj : l = j
    · subst hlj
      rw [List.getElem?_set_self (by omega)]
    · rw [List.getElem?_set_ne (dd_ne (m := m) (C := C) (far := far) hj (by omega) (fun z => hlj z.symm))]
      exact gR l (by omega)
  · rintro σ H2 ⟨S2, ⟨R, hR, lR, gR⟩, x3, x4, x5, rfl⟩
    rw [lb] at gR
    walk_at "sts"
    refine ⟨r, (gAs m C far m).map V.int, rfl, SqL.of (S2 _ _ hr'), ?_⟩
    refine for_enumR (xs := (gAs m C far m).map V.int) (fun j σ H' => Same H H' ∧ (∃ R : List Int, H' e = some (.lst (R.map V.int)) ∧ R.length = m + far ∧ (∀ l, l < far → R[gD m C l m]? = some (l : Int)) ∧ ∀ l, l < j → R[gA m C (m - 1 - l) far]? = some ((far + l : Nat) : Int)) ∧ ∃ x3 x4 x5, σ = [some (.ref b), some (.ref r), some (.ref e), x3, x4, x5])
      ⟨S2, ⟨R, hR, lR, gR, fun l hl => absurd hl (by omega)⟩, _, _, _, rfl⟩ (fun i σ H' _ h => SqL.of (h.1 _ _ hr')) ?_ ?_
    · rintro j σ H3 T0 x hj hx ⟨S3, ⟨R, hR, lR, gR, aR⟩, x3, x4, x5, rfl⟩ nT
      rw [lr] at hj hx
      obtain rfl : x = V.int ((gA m C (m - 1 - j) far : Nat) : Int) := by
        rw [List.getElem?_map, gAs_at (by omega)] at hx
        exact (Option.some.inj hx).symm
      have hlt := lines_lt (m := m) (C := C) (far := far) |>.1 (m - 1 - j) (by omega)
      refine r_gtup (xs := [.int j, .int ((gA m C (m - 1 - j) far : Nat) : Int)]) (SqT.of upd_same) rfl ?_
      have hR2 := upd_old nT hR (o := .tup [.int j, .int ((gA m C (m - 1 - j) far : Nat) : Int)])
      have S4 := S3.upd nT (o := .tup [.int j, .int ((gA m C (m - 1 - j) far : Nat) : Int)])
      generalize upd H3 T0 (.tup [.int j, .int ((gA m C (m - 1 - j) far : Nat) : Int)]) = H4 at hR2 S4 ⊢
      walk_at "sts"
      refine r_lenL (SqL.of (S4 _ _ hb)) ?_
      rw [lb]
      walk_at "sts"
      refine r_setL hR2 (ixN_n (by rw [List.length_map, lR]; exact hlt)) ?_
      rw [← List.map_set]
      refine ⟨over S4 neH, ⟨R.set (gA m C (m - 1 - j) far) ((far : Int) + j), upd_same, by simp [lR], fun l hl => ?_, fun l hl => ?_⟩, x3, some (.int ((gA m C (m - 1 - j) far : Nat) : Int)), some (.int j), rfl⟩
      · rw [List.getElem?_set_ne (ad_ne (m := m) (C := C) (far := far) (by omega) hl)]
        exact gR l hl
      · by_cases hlj : l = j
        · subst hlj
          rw [List.getElem?_set_self (by omega)]
          congr 1
        · rw [List.getElem?_set_ne (aa_ne (m := m) (C := C) (far := far) (by omega) (by omega) (by omega))]
          exact aR l (by omega)
    · rintro σ H3 ⟨S3, ⟨R, hR, lR, gR, aR⟩, x3, x4, x5, rfl⟩
      rw [lr] at aR
      walk_at "sts"
      refine q e R H3 neH S3 ⟨lR, gR, fun i hi => ?_⟩ hR
      have := aR (m - 1 - i) (by omega)
      rw [show m - 1 - (m - 1 - i) = i by omega] at this
      exact this
end

section
variable {P : Program} {w : World} {K : PySem.W.Frag} {mg : Str → Option Value} {base : Heap}
theorem kz0k : (defScope s_over_cells).names.lookup ("ends_of" : Str) = some NameKind.globalImplicit := by decide +kernel
theorem kz0l : (defScope s_over_cells).names.lookup ("right" : Str) = some NameKind.local := by decide +kernel
theorem kz0m : (defScope s_over_cells).names.lookup ("above" : Str) = some NameKind.local := by decide +kernel
theorem kz0n : (defScope s_over_cells).names.lookup ("coming" : Str) = some NameKind.local := by decide +kernel
theorem kz0o : (defScope s_over_cells).names.lookup ("enumerate" : Str) = some NameKind.globalImplicit := by decide +kernel
theorem kz0p : (defScope s_over_cells).names.lookup ("cells" : Str) = some NameKind.local := by decide +kernel
theorem kz0q : (defScope s_over_cells).names.lookup ("signs" : Str) = some NameKind.local := by decide +kernel
theorem kz0r : (defScope s_over_cells).names.lookup ("row" : Str) = some NameKind.local := by decide +kernel
theorem kz0s : (defScope s_over_cells).names.lookup ("gone" : Str) = some NameKind.local := by decide +kernel
theorem kz0t : (defScope s_over_cells).names.lookup ("over_row" : Str) = some NameKind.globalImplicit := by decide +kernel
theorem kz0u : (defScope s_over_cells).names.lookup ("many" : Str) = some NameKind.local := by decide +kernel
theorem kz0v : (defScope s_over_cells).names.lookup ("lines_above" : Str) = some NameKind.globalImplicit := by decide +kernel
theorem kz0w : (defScope s_over_cells).names.lookup ("far" : Str) = some NameKind.local := by decide +kernel
noncomputable def cC (rows : List Str) (i : Nat) : Nat → Bool := tch (rows.getD i ⟨#[]⟩)
noncomputable def rowP (m : Nat) (C : Nat → Nat → Bool) (far i : Nat) : List (Int × Int) := (List.range far).map fun j => (((gA m C i j : Nat) : Int), ((gD m C j i : Nat) : Int))
noncomputable def Cmg (H : Hp) (P : Addr → Prop) (m : Nat) (C : Nat → Nat → Bool) (far : Nat) (cs : List V) (n : Nat) : Prop := cs.length = n ∧ ∀ i, i < n → ∃ c ws, cs[i]? = some (.ref c) ∧ P c ∧ H c = some (.lst ws) ∧ PrI H ws (rowP m C far i)
theorem Cmg.imp {H H' : Hp} {P P' : Addr → Prop} {m : Nat} {C : Nat → Nat → Bool} {far : Nat} {cs : List V} {n : Nat} (h : Cmg H P m C far cs n) (ht : ∀ p us, H p = some (.tup us) → H' p = some (.tup us)) (hl : ∀ c ws, P c → H c = some (.lst ws) → H' c = some (.lst ws)) (hp : ∀ c, P c → P' c) : Cmg H' P' m C far cs n :=
  ⟨h.1, fun i hi => by
    obtain ⟨c, ws, e1, e2, e3, e4⟩ := h.2 i hi
    exact ⟨c, ws, e1, hp c e2, hl c ws e2 e3, e4.imp ht⟩⟩
theorem Cmg.same {H H' : Hp} {P : Addr → Prop} {m : Nat} {C : Nat → Nat → Bool} {far : Nat} {cs : List V} {n : Nat} (h : Cmg H P m C far cs n) (s : Same H H') : Cmg H' P m C far cs n := h.imp (fun p us e => s _ _ e) (fun c ws _ e => s _ _ e) fun _ z => z
theorem Cmg.push {H : Hp} {P : Addr → Prop} {m : Nat} {C : Nat → Nat → Bool} {far : Nat} {cs : List V} {n : Nat} {c : Addr} {ws : List V} (h : Cmg H P m C far cs n) (hP : P c) (hc : H c = some (.lst ws)) (hw : PrI H ws (rowP m C far n)) : Cmg H P m C far (cs ++ [.ref c]) (n + 1) := by
  refine ⟨by rw [List.length_append, h.1]; rfl, fun i hi => ?_⟩
  by_cases e : i = n
  · subst e
    exact ⟨c, ws, by rw [List.getElem?_append_right (by rw [h.1]; exact Nat.le_refl _), h.1, Nat.sub_self]; rfl, hP, hc, hw⟩
  · obtain ⟨d, us, e1, e2⟩ := h.2 i (by omega)
    exact ⟨d, us, by rw [List.getElem?_append_left (by rw [h.1]; omega)]; exact e1, e2⟩
theorem Cmg.upd {H : Hp} {P : Addr → Prop} {m : Nat} {C : Nat → Nat → Bool} {far : Nat} {cs us : List V} {n : Nat} {f : Addr} {o : HO} (h : Cmg H P m C far cs n) (hf : H f = some (.lst us)) (hP : ∀ c, P c → c ≠ f) : Cmg (upd H f o) P m C far cs n :=
  h.imp (fun p vs e => by rw [upd_ne (fun z => by rw [z, hf] at e; cases e)]; exact e) (fun c ws pc e => by rw [upd_ne (hP c pc)]; exact e) fun _ z => z
noncomputable def spOverC : Sp := fun vs H Q _ => ∃ (m far : Nat) (rows : List Str) (c : Addr), vs = [.int m, .int far, .ref c] ∧ H c = some (.lst (rows.map V.str)) ∧ rows.length = m ∧ m ≤ 48 ∧ far ≤ 48 ∧ (∀ z ∈ rows, z.cps.size = far) ∧
  ∀ t cm e R H', H e = none → Same H H' → H' t = some (.tup [.ref cm, .ref e]) → IsEnds m (cC rows) far R → H' e = some (.lst (R.map V.int)) → (∃ cs, H' cm = some (.lst cs) ∧ Cmg H' (fun _ => True) m (cC rows) far cs m) → Q (.ref t) H'
theorem rowC_g {m : Nat} {C : Nat → Nat → Bool} {far i : Nat} : rowC (C i) (gDs m C far i) ((gA m C i 0 : Nat) : Int) far = rowP m C far i := by
  unfold rowC rowP
  refine List.map_congr_left fun j hj => ?_
  have hj' := List.mem_range.mp hj
  rw [rowO_g j (by omega), gDs_at hj']
theorem gDs_0 {m : Nat} {C : Nat → Nat → Bool} {far : Nat} : gDs m C far 0 = (List.range far).map fun l => ((m + l : Nat) : Int) := by
  unfold gDs
  simp only [gD_zero]
theorem gDs_len {m : Nat} {C : Nat → Nat → Bool} {far i : Nat} : (gDs m C far i).length = far := by simp [gDs]
theorem gAs_len {m : Nat} {C : Nat → Nat → Bool} {far i : Nat} : (gAs m C far i).length = i := by simp [gAs]
theorem sc_over_cells : FnScope ["many", "far", "cells", "above", "coming", "right", "row", "signs", "gone"] ["many", "far", "cells"] (defScope s_over_cells) := ⟨rfl, rfl, rfl, by decide +kernel, rfl, by decide +kernel, by decide +kernel⟩
theorem h_over_cells (T : Txt K mg) : Has P w K mg base 2 "over_cells" ["many", "far", "cells"] spOverC := by
  have h_lines_above := h_lines_above (P := P) (w := w) (base := base) T
  have h_over_row := h_over_row (P := P) (w := w) (base := base) T
  have h_ends_of := h_ends_of (P := P) (w := w) (base := base) T
  refine hasJ T.d_over_cells sc_over_cells (fun _ _ _ _ _ _ us hl => L2.usN3 (fun _ _ _ => rfl) us hl) ?_ fun f cdv A outer s H vs Q E hr h => ?_
  · rintro vs H Q E ⟨m, far, rows, c, rfl, _⟩; rfl
  obtain ⟨m, far, rows, c, rfl, hc, hr', hm, hf, hz, q⟩ := h
  have hu := hr.units0
  have hu64 := hr.units
  refine ⟨_, (jb_cons (js_set (i := 3) sc_over_cells.nd rfl (Or.inl kz0m) (j_call h_lines_above (hr.mono (by decide)) (glF kz0v) (ja_cons (j_vL 0 kz0u) (ja_cons (j_vL 1 kz0w) ja_nil)) (by decide +kernel)) rfl) (jb_cons (js_set (i := 4) sc_over_cells.nd rfl (Or.inl kz0n) (j_lst ja_nil) rfl) (jb_cons (js_set (i := 5) sc_over_cells.nd rfl (Or.inl kz0l) (j_lst ja_nil) rfl) (jb_cons (js_for PassesOwn.never rfl (ji_enum (K := K) rfl rfl (glF kz0o) T.b_enumerate (ja_cons (j_vL 2 kz0p) ja_nil)) (jg_tup (K := K) rfl rfl (jgs_cons (jg_name (i := 6) sc_over_cells.nd rfl (Or.inl kz0r) rfl) (jgs_cons (jg_name (i := 7) sc_over_cells.nd rfl (Or.inl kz0q) rfl) jgs_nil))) (jb_cons (js_set (i := 8) sc_over_cells.nd rfl (Or.inl kz0s) (j_call h_over_row (hr.mono (by decide)) (glF kz0t) (ja_cons (j_vL 7 kz0q) (ja_cons (j_op op_sub (j_op op_sub (j_vL 0 kz0u) j_int) (j_vL 6 kz0r)) (ja_cons (j_vL 3 kz0m) ja_nil))) (by decide +kernel)) rfl) (jb_cons (js_expr (j_meth (K := K) rfl PySem.F.plainAttrs_list PySem.F.slot_list_append PySem.F.type_list_append mt_append (j_vL 4 kz0n) (ja_cons (j_ix (K := K) rfl (j_vL 8 kz0s) j_int) ja_nil))) (jb_cons (js_set (i := 3) sc_over_cells.nd rfl (Or.inl kz0m) (j_ix (K := K) rfl (j_vL 8 kz0s) j_int) rfl) (jb_one (js_expr (j_meth (K := K) rfl PySem.F.plainAttrs_list PySem.F.slot_list_append PySem.F.type_list_append mt_append (j_vL 5 kz0l) (ja_cons (j_ix (K := K) rfl (j_vL 8 kz0s) j_int) ja_nil)))))))) (jb_one (js_ret (j_tup (ja_cons (j_vL 4 kz0n) (ja_cons (j_call h_ends_of (hr.mono (by decide)) (glF kz0k) (ja_cons (j_vL 3 kz0m) (ja_cons (j_vL 5 kz0l) ja_nil)) (by decide +kernel)) ja_nil))))))))), ?_⟩
  walk_at "sts"
  have hs : 1000 ≤ sizeLine := by decide
  refine ⟨m, far, rfl, hm, hf, fun A0 nA => ?_⟩
  rw [← gDs_0 (C := cC rows)]
  have SA := (Same.refl H).upd nA (o := .lst ((gDs m (cC rows) far 0).map V.int))
  have eA := upd_same (H := H) (a := A0) (o := .lst ((gDs m (cC rows) far 0).map V.int))
  generalize upd H A0 (.lst ((gDs m (cC rows) far 0).map V.int)) = H1 at SA eA ⊢
  walk_at "sts"
  refine r_new rfl fun CM nC => ?_
  have SC := SA.upd nC (o := .lst [])
  have eC := upd_same (H := H1) (a := CM) (o := .lst [])
  have eA2 := upd_old nC eA (o := .lst [])
  have nCH := SA.free nC
  generalize upd H1 CM (.lst []) = H2 at SC eC eA2 ⊢
  walk_at "sts"
  refine r_new rfl fun RT nR => ?_
  have SR := SC.upd nR (o := .lst [])
  have eR := upd_same (H := H2) (a := RT) (o := .lst [])
  have eA3 := upd_old nR eA2 (o := .lst [])
  have eC3 := upd_old nR eC (o := .lst [])
  have nRH := SC.free nR
  have nCR : CM ≠ RT := fun z => by rw [z, nR] at eC; cases eC
  generalize upd H2 RT (.lst []) = H3 at SR eR eA3 eC3 ⊢
  walk_at "sts"
  refine .inr ⟨c, _, rfl, SqL.of (SR _ _ hc), ?_⟩
  refine for_enumL (xs := rows.map V.str) (fun i σ H' => Same H H' ∧ (∃ cs, H' CM = some (.lst cs) ∧ cs.length = i ∧ Cmg H' (fun c => c ≠ CM ∧ c ≠ RT) m (cC rows) far cs i) ∧ H' RT = some (.lst ((gAs m (cC rows) far i).map V.int)) ∧
      ∃ a x6 x7 x8, H' a = some (.lst ((gDs m (cC rows) far i).map V.int)) ∧ a ≠ CM ∧ a ≠ RT ∧ σ = [some (.int m), some (.int far), some (.ref c), some (.ref a), some (.ref CM), some (.ref RT), x6, x7, x8])
    ⟨SR, ⟨[], eC3, rfl, rfl, fun i hi => absurd hi (Nat.not_lt_zero _)⟩, eR, A0, none, none, none, eA3, (fun z => by rw [z, nC] at eA; cases eA), (fun z => by rw [z, nR] at eA2; cases eA2), rfl⟩ (fun i σ H' _ h => SqL.of (h.1 _ _ hc)) ?_ ?_
  · rintro i σ H4 T0 x hx ⟨S4, ⟨cs, hC, hcs, hG⟩, hR, a, x6, x7, x8, ha, nac, nar, rfl⟩ nT
    have hi : i < rows.length := by
      have := (List.getElem?_eq_some_iff.mp hx).1
      simpa using this
    obtain ⟨z, hzi, rfl⟩ : ∃ z, rows[i]? = some z ∧ x = V.str z := by
      rw [List.getElem?_map] at hx
      cases e : rows[i]? with
      | none => rw [e] at hx; cases hx
      | some n => rw [e] at hx; exact ⟨n, rfl, (Option.some.inj hx).symm⟩
    have ez : rows.getD i ⟨#[]⟩ = z := by rw [List.getD_eq_getElem?_getD, hzi]; rfl
    refine r_gtup (xs := [.int i, .str z]) (SqT.of upd_same) rfl ?_
    have hC5 := upd_old nT hC (o := .tup [.int i, .str z])
    have hR5 := upd_old nT hR (o := .tup [.int i, .str z])
    have ha5 := upd_old nT ha (o := .tup [.int i, .str z])
    have S5 := S4.upd nT (o := .tup [.int i, .str z])
    have hG5 := hG.same ((Same.refl H4).upd nT (o := .tup [.int i, .str z]))
    generalize upd H4 T0 (.tup [.int i, .str z]) = H5 at hC5 hR5 ha5 S5 hG5 ⊢
    walk_at "sts"
    rw [show ((m : Int) - 1 - (i : Int)) = ((gA m (cC rows) i 0 : Nat) : Int) by rw [gA_zero]; omega]
    refine ⟨z, _, a, _, rfl, ha5, by rw [gDs_len]; exact hz z (List.mem_of_getElem? hzi), by rw [gDs_len]; exact hf, fun t c1 b H6 nb nc1 S6 ht hb hcc => ?_⟩
    have eC' : tch z = cC rows i := by unfold cC; rw [ez]
    rw [eC', gDs_len, rowO_g far (Nat.le_refl _)] at ht hb
    rw [eC', gDs_len, rowC_g] at hcc
    obtain ⟨ws, hc1, hws⟩ := hcc
    have nc1C : c1 ≠ CM := fun z => by rw [z, hC5] at nc1; cases nc1
    have nc1R : c1 ≠ RT := fun z => by rw [z, hR5] at nc1; cases nc1
    have hG6 := (hG5.same S6).push ⟨nc1C, nc1R⟩ hc1 hws
    have hC6 := S6 _ _ hC5
    have hR6 := S6 _ _ hR5
    have nbC : b ≠ CM := fun z => by rw [z, hC5] at nb; cases nb
    have nbR : b ≠ RT := fun z => by rw [z, hR5] at nb; cases nb
    have tC : t ≠ CM := fun z => by rw [z, hC6] at ht; cases ht
    have tR : t ≠ RT := fun z => by rw [z, hR6] at ht; cases ht
    walk_at "sts"
    refine ⟨.inl ⟨rfl, _, SqL.of hC6⟩, ?_⟩
    walk_at "sts"
    refine r_append hC6 (by omega) ?_
    have S7 := over (o := .lst (cs ++ [.ref c1])) (S5.trans S6) nCH
    have hC7 := upd_same (H := H6) (a := CM) (o := .lst (cs ++ [.ref c1]))
    have hR7 : upd H6 CM (.lst (cs ++ [.ref c1])) RT = _ := (upd_ne nCR.symm).trans hR6
    have ht7 : upd H6 CM (.lst (cs ++ [.ref c1])) t = _ := (upd_ne tC).trans ht
    have hb7 : upd H6 CM (.lst (cs ++ [.ref c1])) b = _ := (upd_ne nbC).trans hb
    have hG7 := hG6.upd hC6 (o := .lst (cs ++ [.ref c1])) fun c hc => hc.1
    generalize upd H6 CM (.lst (cs ++ [.ref c1])) = H7 at S7 hC7 hR7 ht7 hb7 hG7 ⊢
    clear ht hb
    walk_at "sts"
    refine ⟨.inl ⟨rfl, _, SqL.of hR7⟩, ?_⟩
    walk_at "sts"
    refine r_append hR7 (by rw [List.length_map, gAs_len]; omega) ?_
    refine ⟨over S7 nRH, ⟨cs ++ [.ref c1], (upd_ne nCR).trans hC7, by simp [hcs], hG7.upd hR7 fun c hc => hc.2⟩, ?_, b, some (.int i), some (.str z), some (.ref t), (upd_ne nbR).trans hb7, nbC, nbR, rfl⟩
    rw [upd_same]
    have e : gAs m (cC rows) far (i + 1) = gAs m (cC rows) far i ++ [((gA m (cC rows) i far : Nat) : Int)] := by unfold gAs; rw [List.range_succ, List.map_append]; rfl
    rw [e, List.map_append]; rfl
  · rintro σ H4 ⟨S4, ⟨cs, hC, hcs, hG⟩, hR, a, x6, x7, x8, ha, nac, nar, rfl⟩
    rw [List.length_map, hr'] at hR ha hG
    walk_at "sts"
    refine ⟨m, far, cC rows, a, RT, rfl, hm, hf, ha, hR, fun e R H5 ne S5 hE hR5 => ?_⟩
    walk_at "sts"
    refine r_new rfl fun t nt => ?_
    walk_at "sts"
    exact q t CM e R _ (S4.free ne) ((S4.trans S5).upd nt) upd_same hE (upd_old nt hR5) ⟨cs, upd_old nt (S5 _ _ hC), (hG.same (S5.upd nt)).imp (fun _ _ z => z) (fun _ _ _ z => z) fun _ _ => trivial⟩
end

section
variable {P : Program} {w : World} {K : PySem.W.Frag} {mg : Str → Option Value} {base : Heap}

theorem Same.put {H H' : Hp} {p : Addr} {o : HO} (s : Same H H') (hn : H p = none) : Same H (upd H' p o) := fun b u e => by
  rw [upd_ne (fun z => by rw [z, hn] at e; cases e)]
  exact s b u e
theorem Same.back {H H' : Hp} {p : Addr} (s : Same H H') (h : H' p = none) : H p = none := by
  cases e : H p with
  | none => rfl
  | some o => rw [s _ _ e] at h; cases h
theorem Thing.same {H H' : Hp} {v : V} (h : Thing K H v) (s : Same H H') : Thing K H' v := by
  rcases h with h | ⟨T, t, k⟩
  · exact .inl h
  · exact .inr ⟨T, t.mono fun b o e _ => s b o e, k⟩
end

section
variable {P : Program} {w : World} {K : PySem.W.Frag} {mg : Str → Option Value} {base : Heap}
theorem nd_is_row_0 : (["sign"] : List Str).Nodup := by decide +kernel
theorem kz0x : (defScope s_need_row).names.lookup ("is_row" : Str) = some NameKind.globalImplicit := by decide +kernel
theorem kz0y : (defScope s_need_row).names.lookup ("thing" : Str) = some NameKind.local := by decide +kernel
theorem kz0z : (defScope s_need_row).names.lookup ("NoRow" : Str) = some NameKind.globalImplicit := by decide +kernel
theorem kz10 : (defScope s_need_rows).names.lookup ("need_row" : Str) = some NameKind.globalImplicit := by decide +kernel
theorem kz11 : (defScope s_need_rows).names.lookup ("top" : Str) = some NameKind.local := by decide +kernel
theorem kz12 : (defScope s_need_rows).names.lookup ("side" : Str) = some NameKind.local := by decide +kernel
theorem kz13 : (defScope s_signs_of_row).names.lookup ("signs" : Str) = some NameKind.local := by decide +kernel
theorem kz14 : (defScope s_signs_of_row).names.lookup ("enumerate" : Str) = some NameKind.globalImplicit := by decide +kernel
theorem kz15 : (defScope s_signs_of_row).names.lookup ("top" : Str) = some NameKind.local := by decide +kernel
theorem kz16 : (defScope s_signs_of_row).names.lookup ("other" : Str) = some NameKind.local := by decide +kernel
theorem kz17 : (defScope s_signs_of_row).names.lookup ("column" : Str) = some NameKind.local := by decide +kernel
theorem kz18 : (defScope s_signs_of_row).names.lookup ("left" : Str) = some NameKind.local := by decide +kernel
theorem kz19 : (defScope s_signs_of_row).names.lookup ("above" : Str) = some NameKind.local := by decide +kernel
theorem kz1a : (defScope s_signs_of_row).names.lookup ("sign" : Str) = some NameKind.local := by decide +kernel
theorem kz1b : (defScope s_signs_of_row).names.lookup ("TOUCH" : Str) = some NameKind.globalImplicit := by decide +kernel
theorem kz1c : (defScope s_signs_of_row).names.lookup ("CROSS" : Str) = some NameKind.globalImplicit := by decide +kernel
theorem ki_NoRow_self : (defScope i_NoRow).names.lookup ("self" : Str) = some NameKind.local := by decide +kernel
theorem ki_NoRow_found : (defScope i_NoRow).names.lookup ("found" : Str) = some NameKind.local := by decide +kernel
theorem kz1d : (defScope s_is_row).names.lookup ("all" : Str) = some NameKind.globalImplicit := by decide +kernel
theorem kz1e : (defScope s_is_row).names.lookup ("thing" : Str) = some NameKind.local := by decide +kernel
theorem kz1f : (defScope s_is_row).names.lookup ("len" : Str) = some NameKind.globalImplicit := by decide +kernel
theorem kz1g : (defScope s_is_row).names.lookup ("MOST_SIGNS" : Str) = some NameKind.globalImplicit := by decide +kernel
theorem kz1h : (defScope s_is_row).names.lookup ("isinstance" : Str) = some NameKind.globalImplicit := by decide +kernel
theorem kz1i : (defScope s_is_row).names.lookup ("str" : Str) = some NameKind.globalImplicit := by decide +kernel
noncomputable def RB (v : V) : Bool := readB v (LETT ++ Str.ofString ".") 48
noncomputable def RowB (z : Str) : Prop := z.length ≤ 48 ∧ RB (.str z) = true
noncomputable def bf (v u : V) : Option V := if RB v = true then (if RB u = true then none else some u) else some v
theorem notStr {H : Hp} {v : V} {ty : String} {l : Str} {m : Int} (h : TyOf K H v (.type ty)) (k : PySem.W.kitOne K (.type ty) (.type "str") = some false) : readB v l m = false := by
  cases v with
  | str z =>
    cases h
    have : PySem.W.kitOne K (.type "str") (.type "str") = some true := rfl
    rw [this] at k; cases k
  | _ => rfl
theorem sc_is_row : FnScope ["thing"] ["thing"] (defScope s_is_row) := ⟨rfl, rfl, rfl, by decide +kernel, rfl, by decide +kernel, by decide +kernel⟩
theorem h_is_row (T : Txt K mg) : Has P w K mg base 1 "is_row" ["thing"] (spIs K (LETT ++ Str.ofString ".") 48) := by
  refine hasJ T.d_is_row sc_is_row (fun _ _ _ _ _ _ us hl => L2.usN1 (fun _ => rfl) us hl) ?_ fun f cdv A outer s H vs Q E hr h => ?_
  · rintro vs H Q E ⟨p, rfl, _⟩; rfl
  obtain ⟨v, rfl, hT, q⟩ := h
  have hu := hr.units0
  have hu64 := hr.units
  refine ⟨_, (jb_cons (js_if (jw_pt (jw_or (jt_not (jt_val (j_callB (call_isiK (K := K) rfl) (glF kz1h) T.b_isinstance bt_isinstance (ja_cons (j_vL 0 kz1e) (ja_cons (j_ty (glF kz1i) T.b_str bt_str (by decide +kernel) (by decide +kernel)) ja_nil)) (by decide +kernel) (by decide +kernel)))) (jw_or1 (jt_cmp op_gt (j_callB (call_lenK (K := K) rfl) (glF kz1f) T.b_len bt_len (ja_cons (j_vL 0 kz1e) ja_nil) (by decide +kernel) (by decide +kernel)) (j_gint (glF kz1g) T.c_MOST_SIGNS (by decide +kernel)) (by first | exact nomark _ | with_unfolding_all rfl))))) (jb_one (js_ret j_bl)) jb_nil) (jb_one (js_ret (j_callB (call_all rfl) (glF kz1d) T.b_all bt_all (ja_cons (j_comp (sub := [none]) (subOk_of (N := ["thing"]) (sc := defScope s_is_row) (N' := ["sign"]) (by decide +kernel)) rfl rfl rfl (ji_seq (K := K) rfl (j_vL 0 kz1e)) (fun C s₀ H₀ ex => (jg_B 0 (by decide +kernel) nd_is_row_0)) (fun C s₀ H₀ ex => jif_nil) (fun C s₀ H₀ ex => (j_cmp (op_inK (K := K) rfl) (j_vBL 0 (by decide +kernel)) (j_op op_addA (j_gstr (glB (by decide +kernel)) T.c_LETTERS (by decide +kernel)) (j_gstr (glB (by decide +kernel)) T.c_POINT (by decide +kernel))) (by first | exact nomark _ | with_unfolding_all rfl)))) ja_nil) (by decide +kernel) (by decide +kernel))))), ?_⟩
  walk_at "sts"
  rcases hT with ⟨z, rfl, hz⟩ | ⟨ty, hty, hk⟩
  · have hz1 : z.length ≤ sizeLine := Nat.le_trans hz (by decide)
    refine r_isi (.str z) rfl ?_
    walk_at "sts"
    try with_reducible refine iteF ?_
    walk_at "sts"
    refine r_lenS hz1 ?_
    walk_at "sts"
    refine iteD (fun h1 => ?_) (fun h1 => ?_)
    · walk_at "sts"
      have : readB (.str z) (LETT ++ Str.ofString ".") 48 = false := by
        unfold readB
        dsimp only
        rw [decide_eq_false (by omega)]; rfl
      have q' := q H (Same.refl H)
      rw [this] at q'
      exact q'
    · walk_at "sts"
      refine .inr (.inr ⟨z, rfl, ?_⟩)
      refine comp_str (fun i us H' => H' = H ∧ us = ((z.cps.toList.take i).map fun c => !badC (LETT ++ Str.ofString ".") c).map V.bl) hz1 ⟨rfl, rfl⟩ ?_ ?_ ?_
      · rintro i us H' ⟨rfl, rfl⟩
        simp; omega
      · rintro i us H' c hc ⟨rfl, rfl⟩
        walk_at "sts"
        refine ⟨KeepSt.set rfl, ?_⟩
        walk_at "sts"
        try with_reducible refine iteT ?_
        walk_at "sts"
        refine r_addS (Nat.le_trans (show (Str.ofString "abcdefghijklmnopqrstuvwxyz").length + (Str.ofString ".").length ≤ 1000 by decide +kernel) (by decide)) ?_
        walk_at "sts"
        refine ⟨rfl, ?_⟩
        rw [List.take_add_one, hc]
        simp [LETT, badC]
      · rintro us H' ⟨rfl, rfl⟩ D hD
        walk_at "sts"
        refine ⟨D, _, rfl, upd_same, ?_⟩
        have e1 : z.cps.toList.take z.cps.size = z.cps.toList := List.take_of_length_le (by simp)
        have e2 : readB (.str z) (LETT ++ Str.ofString ".") 48 = (List.map (fun c => !badC (LETT ++ Str.ofString ".") c) (z.cps.toList.take z.cps.size)).all id := by
          unfold readB
          dsimp only
          rw [decide_eq_true (by omega), Bool.true_and, e1, List.all_map]; rfl
        have q' := q _ ((Same.refl H').upd hD (o := .lst (List.map V.bl (List.map (fun c => !badC (LETT ++ Str.ofString ".") c) (List.take z.cps.size z.cps.toList)))))
        rw [e2] at q'
        exact q'
  · refine r_isi hty hk ?_
    walk_at "sts"
    try with_reducible refine iteT ?_
    walk_at "sts"
    try with_reducible refine iteT ?_
    walk_at "sts"
    have q' := q H (Same.refl H)
    rw [notStr hty hk] at q'
    exact q'
theorem sci_NoRow : FnScope ["self", "found"] ["self", "found"] (defScope i_NoRow) := ⟨rfl, rfl, rfl, by decide +kernel, rfl, by decide +kernel, by decide +kernel⟩
theorem mk_NoRow (T : Txt K mg) : XMk P w K mg base 1 "NoRow" (clsA mg "NoRow") ["found"] := mkX T.x_NoRow sci_NoRow (fun _ _ _ _ _ _ us hl => L2.usN2 (fun _ _ => rfl) us hl) rfl fun f cdv A outer s H vs Q E hr h => ⟨_, (jb_one (js_fldX (K := K) rfl (j_vL 0 ki_NoRow_self) (j_vL 1 ki_NoRow_found))), rd1 T.x_NoRow.c.cl.cls (T.x_NoRow.na _ (by simp)) h⟩
noncomputable def spNeedX (K : PySem.W.Frag) (mg : Str → Option Value) : Sp := fun vs H Q E => ∃ v : V, vs = [v] ∧ Thing K H v ∧ (RB v = true → ∀ H', Same H H' → Q .non H') ∧
  (RB v = false → ∀ e H', Same H H' → IsX H' e (clsA mg "NoRow") [("found", v)] → E (.ref (clsA mg "NoRow")) (some e) H')
theorem sc_need_row : FnScope ["thing"] ["thing"] (defScope s_need_row) := ⟨rfl, rfl, rfl, by decide +kernel, rfl, by decide +kernel, by decide +kernel⟩
theorem h_need_row (T : Txt K mg) : HasX P w K mg base 3 "need_row" ["thing"] (spNeedX K mg) := by
  have h_is_row := h_is_row (P := P) (w := w) (base := base) T
  refine hasJX T.d_need_row sc_need_row (fun _ _ _ _ _ _ us hl => L2.usN1 (fun _ => rfl) us hl) ?_ fun f cdv A outer s H vs Q E hr h => ?_
  · rintro vs H Q E ⟨v, rfl, _⟩; rfl
  obtain ⟨v, rfl, hT, q1, q2⟩ := h
  have hu := hr.units0
  have hu64 := hr.units
  refine ⟨_, (jb_one (js_if (jt_not (jt_val (j_call h_is_row (hr.mono (by decide)) (glF kz0x) (ja_cons (j_vL 0 kz0y) ja_nil) (by decide +kernel)))) (jb_one (js_raise (mk_NoRow (P := P) (w := w) (base := base) T) (hr.mono (by decide)) rfl (glF kz0z) pass_def (ja_cons (j_vL 0 kz0y) ja_nil) (by decide +kernel))) jb_nil)), ?_⟩
  walk_at "sts"
  refine ⟨v, rfl, hT, fun H1 S1 => ?_⟩
  cases hb : readB v (LETT ++ Str.ofString ".") 48 with
  | true =>
    walk_at "sts"
    try with_reducible refine iteF ?_
    walk_at "sts"
    exact q1 hb _ S1
  | false =>
    walk_at "sts"
    try with_reducible refine iteT ?_
    walk_at "sts"
    exact ⟨rfl, (show 1 ≤ sizeLine by decide), fun x H2 S2 X2 => q2 hb x H2 (S1.trans S2) X2⟩
noncomputable def spX (K : PySem.W.Frag) (mg : Str → Option Value) (g : Str → Str → Hp → VK → Prop) : Sp := fun vs H Q E => ∃ v u : V, vs = [v, u] ∧ Thing K H v ∧ Thing K H u ∧
  (∀ w, bf v u = some w → ∀ e H', Same H H' → IsX H' e (clsA mg "NoRow") [("found", w)] → E (.ref (clsA mg "NoRow")) (some e) H') ∧
  (∀ side top : Str, v = .str side → u = .str top → RowB side → RowB top → g side top H Q)
theorem RB_row {v : V} (h : RB v = true) : ∃ z, v = .str z ∧ RowB z := by
  cases v with
  | str z =>
    refine ⟨z, rfl, ?_, h⟩
    unfold RB readB at h
    simp only [Bool.and_eq_true, decide_eq_true_eq] at h
    omega
  | _ => cases h
theorem row_RB {z : Str} (h : Row z) : RB (.str z) = true := by
  unfold RB readB
  simp only [Bool.and_eq_true, decide_eq_true_eq]
  refine ⟨by have := h.1; omega, List.all_eq_true.mpr fun c hc => ?_⟩
  have := good_ok c (h.2 c hc)
  unfold badC at this
  rw [this]; rfl
theorem Row.b {z : Str} (h : Row z) : RowB z := ⟨h.1, row_RB h⟩
theorem row_thing {H : Hp} {z : Str} (h : RowB z) : Thing K H (.str z) := .inl ⟨z, rfl, by have := h.1; omega⟩
theorem bf_rows {z y : Str} (h : RowB z) (h' : RowB y) : bf (.str z) (.str y) = none := by
  unfold bf; rw [if_pos h.2, if_pos h'.2]
noncomputable def gNon : Str → Str → Hp → VK → Prop := fun _ _ H Q => ∀ H', Same H H' → Q .non H'
theorem sc_need_rows : FnScope ["side", "top"] ["side", "top"] (defScope s_need_rows) := ⟨rfl, rfl, rfl, by decide +kernel, rfl, by decide +kernel, by decide +kernel⟩
theorem h_need_rows (T : Txt K mg) : HasX P w K mg base 4 "need_rows" ["side", "top"] (spX K mg gNon) := by
  have h_need_row := h_need_row (P := P) (w := w) (base := base) T
  refine hasJX T.d_need_rows sc_need_rows (fun _ _ _ _ _ _ us hl => L2.usN2 (fun _ _ => rfl) us hl) ?_ fun f cdv A outer s H vs Q E hr h => ?_
  · rintro vs H Q E ⟨v, u, rfl, _⟩; rfl
  obtain ⟨v, u, rfl, hv, hu', qx, q⟩ := h
  have hu := hr.units0
  have hu64 := hr.units
  refine ⟨_, (jb_cons (js_expr (j_callX h_need_row (hr.mono (by decide)) (glF kz10) pass_def (ja_cons (j_vL 0 kz12) ja_nil) (by decide +kernel))) (jb_one (js_expr (j_callX h_need_row (hr.mono (by decide)) (glF kz10) pass_def (ja_cons (j_vL 1 kz11) ja_nil) (by decide +kernel))))), ?_⟩
  walk_at "sts"
  refine ⟨v, rfl, hv, fun hb H1 S1 => ?_, fun hb e H' S X => qx v (by unfold bf; rw [if_neg (by rw [hb]; decide)]) e H' S X⟩
  walk_at "sts"
  refine ⟨u, rfl, hu'.same S1, fun hb2 H2 S2 => ?_, fun hb2 e H' S X => qx u (by unfold bf; rw [if_pos hb, if_neg (by rw [hb2]; decide)]) e H' (S1.trans S) X⟩
  walk_at "sts"
  obtain ⟨z, rfl, hz⟩ := RB_row hb
  obtain ⟨y, rfl, hy⟩ := RB_row hb2
  exact q z y rfl rfl hz hy _ (S1.trans S2)
noncomputable def mkT (c : Nat) (top : Str) (ab : List Int) (left : Int) : Nat → Int
  | 0 => left
  | j + 1 => if (decide (c = top.cps.getD j 0) || decide (ab.getD j 0 < mkT c top ab left j)) = true then ab.getD j 0 else mkT c top ab left j
noncomputable def mkB (c : Nat) (top : Str) (ab : List Int) (left : Int) (j : Nat) : Bool := decide (c = top.cps.getD j 0) || decide (ab.getD j 0 < mkT c top ab left j)
noncomputable def oxS (b : Bool) : Str := if b = true then Str.ofString "o" else Str.ofString "x"
noncomputable def mkS (c : Nat) (top : Str) (ab : List Int) (left : Int) (j : Nat) : List Str := (List.range j).map fun k => oxS (mkB c top ab left k)
theorem mkS_ones {c : Nat} {top : Str} {ab : List Int} {left : Int} {j : Nat} : ∀ y ∈ mkS c top ab left j, y.length = 1 := fun y hy => by
  obtain ⟨k, _, rfl⟩ := List.mem_map.mp hy
  unfold oxS
  split <;> decide +kernel
noncomputable def spSigns : Sp := fun vs H Q _ => ∃ (c : Nat) (top : Str) (left : Int) (a : Addr) (ab : List Int), vs = [.str ⟨#[c]⟩, .str top, .int left, .ref a] ∧ H a = some (.lst (ab.map V.int)) ∧ top.cps.size = ab.length ∧ ab.length ≤ 48 ∧
  ∀ H', Same H H' → Q (.str (Txt.join (Str.ofString "") (mkS c top ab left ab.length))) H'
theorem sc_signs_of_row : FnScope ["sign", "top", "left", "above", "signs", "column", "other"] ["sign", "top", "left", "above"] (defScope s_signs_of_row) := ⟨rfl, rfl, rfl, by decide +kernel, rfl, by decide +kernel, by decide +kernel⟩
theorem h_signs_of_row (T : Txt K mg) : Has P w K mg base 1 "signs_of_row" ["sign", "top", "left", "above"] spSigns := by
  refine hasJ T.d_signs_of_row sc_signs_of_row (fun _ _ _ _ _ _ us hl => L2.usN4 (fun _ _ _ _ => rfl) us hl) ?_ fun f cdv A outer s H vs Q E hr h => ?_
  · rintro vs H Q E ⟨c, top, left, a, ab, rfl, _⟩; rfl
  obtain ⟨c, top, left, a, ab, rfl, ha, hz, hl, q⟩ := h
  have hu := hr.units0
  have hu64 := hr.units
  refine ⟨_, (jb_cons (js_set (i := 4) sc_signs_of_row.nd rfl (Or.inl kz13) (j_lst ja_nil) rfl) (jb_cons (js_for PassesOwn.never rfl (ji_enum (K := K) rfl rfl (glF kz14) T.b_enumerate (ja_cons (j_vL 1 kz15) ja_nil)) (jg_tup (K := K) rfl rfl (jgs_cons (jg_name (i := 5) sc_signs_of_row.nd rfl (Or.inl kz17) rfl) (jgs_cons (jg_name (i := 6) sc_signs_of_row.nd rfl (Or.inl kz16) rfl) jgs_nil))) (jb_one (js_if (jw_pt (jw_or (jt_cmp (op_eqX (K := K) rfl hu64) (j_vL 0 kz1a) (j_vL 6 kz16) (by first | exact nomark _ | with_unfolding_all rfl)) (jw_or1 (jt_cmp op_gt (j_vL 2 kz18) (j_ix (K := K) rfl (j_vL 3 kz19) (j_vL 5 kz17)) (by first | exact nomark _ | with_unfolding_all rfl))))) (jb_cons (js_expr (j_meth (K := K) rfl PySem.F.plainAttrs_list PySem.F.slot_list_append PySem.F.type_list_append mt_append (j_vL 4 kz13) (ja_cons (j_gstr (glF kz1b) T.c_TOUCH (by decide +kernel)) ja_nil))) (jb_one (js_set (i := 2) sc_signs_of_row.nd rfl (Or.inl kz18) (j_ix (K := K) rfl (j_vL 3 kz19) (j_vL 5 kz17)) rfl))) (jb_one (js_expr (j_meth (K := K) rfl PySem.F.plainAttrs_list PySem.F.slot_list_append PySem.F.type_list_append mt_append (j_vL 4 kz13) (ja_cons (j_gstr (glF kz1c) T.c_CROSS (by decide +kernel)) ja_nil))))))) (jb_one (js_ret (j_meth (K := K) rfl PySem.F.plainAttrs_str PySem.F.slot_str_join PySem.F.type_str_join mt_join j_str (ja_cons (j_vL 4 kz13) ja_nil)))))), ?_⟩
  walk_at "sts"
  have hs : 20000 ≤ sizeLine := by decide
  refine r_new rfl fun S0 nS => ?_
  have e0 := upd_same (H := H) (a := S0) (o := .lst [])
  have Sm := (Same.refl H).upd nS (o := .lst [])
  generalize upd H S0 (.lst []) = H1 at e0 Sm ⊢
  walk_at "sts"
  refine .inl ⟨top, rfl, ?_⟩
  refine for_Tp (fun j σ H' => Same H H' ∧ H' S0 = some (.lst ((mkS c top ab left j).map V.str)) ∧ ∃ x5 x6, σ = [some (.str ⟨#[c]⟩), some (.str top), some (.int (mkT c top ab left j)), some (.ref a), some (.ref S0), x5, x6])
    ⟨Sm, e0, none, none, rfl⟩ ?_ ?_
  · rintro j σ H2 T0 hj ⟨S2, hS, x5, x6, rfl⟩ nT
    have hj' : j < ab.length := by rw [← hz]; exact hj
    refine r_gtup (xs := [.int j, .str ⟨#[top.cps.getD j 0]⟩]) (SqT.of upd_same) rfl ?_
    have hS3 := upd_old nT hS (o := .tup (enumS top j))
    have S3 := S2.upd nT (o := .tup (enumS top j))
    generalize upd H2 T0 (.tup (enumS top j)) = H3 at hS3 S3 ⊢
    have ha3 := S3 _ _ ha
    have hix : atI (ab.map V.int) (j : Int) = some (.int (ab.getD j 0)) := by
      refine atI_nat ?_
      rw [List.getElem?_map, List.getD_eq_getElem?_getD, List.getElem?_eq_getElem hj']; rfl
    walk_at "sts"
    have hlS : ((mkS c top ab left j).map V.str).length < sizeLine := by unfold mkS; simp; omega
    have step : (mkS c top ab left (j + 1)).map V.str = (mkS c top ab left j).map V.str ++ [.str (oxS (mkB c top ab left j))] := by unfold mkS; rw [List.range_succ, List.map_append, List.map_append]; rfl
    have stepT : mkB c top ab left j = true → mkT c top ab left (j + 1) = ab.getD j 0 := fun h => by rw [mkT]; exact if_pos h
    have stepF : mkB c top ab left j = false → mkT c top ab left (j + 1) = mkT c top ab left j := fun h => by rw [mkT]; exact if_neg (fun z => by unfold mkB at h; rw [h] at z; cases z)
    refine iteD (fun hk => ?_) (fun hk => ?_)
    · have ec : c = top.cps.getD j 0 := by
        have := Str.mk.inj (V.str.inj hk)
        simpa using this
      have hB : mkB c top ab left j = true := by unfold mkB; rw [decide_eq_true ec]; rfl
      walk_at "sts"
      refine ⟨.inl ⟨rfl, _, SqL.of hS3⟩, ?_⟩
      walk_at "sts"
      refine r_append hS3 hlS ?_
      have S4 := over (o := .lst ((mkS c top ab left j).map V.str ++ [.str (Str.ofString "o")])) S3 nS
      have hS4 := upd_same (H := H3) (a := S0) (o := .lst ((mkS c top ab left j).map V.str ++ [.str (Str.ofString "o")]))
      generalize upd H3 S0 (.lst ((mkS c top ab left j).map V.str ++ [.str (Str.ofString "o")])) = H4 at S4 hS4 ⊢
      have ha4 := S4 _ _ ha
      walk_at "sts"
      refine r_ixL (SqL.of ha4) hix ?_
      walk_at "sts"
      exact ⟨S4, by rw [hS4, step, hB]; rfl, some (.int j), some (.str ⟨#[top.cps.getD j 0]⟩), by rw [stepT hB]; rfl⟩
    · have ec : ¬ c = top.cps.getD j 0 := fun z => hk (by rw [z])
      walk_at "sts"
      refine r_ixL (SqL.of ha3) hix ?_
      walk_at "sts"
      refine iteD (fun hg => ?_) (fun hg => ?_)
      · have hB : mkB c top ab left j = true := by unfold mkB; rw [decide_eq_false ec, Bool.false_or]; exact decide_eq_true (by omega)
        walk_at "sts"
        refine ⟨.inl ⟨rfl, _, SqL.of hS3⟩, ?_⟩
        walk_at "sts"
        refine r_append hS3 hlS ?_
        have S4 := over (o := .lst ((mkS c top ab left j).map V.str ++ [.str (Str.ofString "o")])) S3 nS
        have hS4 := upd_same (H := H3) (a := S0) (o := .lst ((mkS c top ab left j).map V.str ++ [.str (Str.ofString "o")]))
        generalize upd H3 S0 (.lst ((mkS c top ab left j).map V.str ++ [.str (Str.ofString "o")])) = H4 at S4 hS4 ⊢
        have ha4 := S4 _ _ ha
        walk_at "sts"
        refine r_ixL (SqL.of ha4) hix ?_
        walk_at "sts"
        exact ⟨S4, by rw [hS4, step, hB]; rfl, some (.int j), some (.str ⟨#[top.cps.getD j 0]⟩), by rw [stepT hB]; rfl⟩
      · have hB : mkB c top ab left j = false := by unfold mkB; rw [decide_eq_false ec, Bool.false_or]; exact decide_eq_false (by omega)
        walk_at "sts"
        refine ⟨.inl ⟨rfl, _, SqL.of hS3⟩, ?_⟩
        walk_at "sts"
        refine r_append hS3 hlS ?_
        have S4 := over (o := .lst ((mkS c top ab left j).map V.str ++ [.str (Str.ofString "x")])) S3 nS
        have hS4 := upd_same (H := H3) (a := S0) (o := .lst ((mkS c top ab left j).map V.str ++ [.str (Str.ofString "x")]))
        generalize upd H3 S0 (.lst ((mkS c top ab left j).map V.str ++ [.str (Str.ofString "x")])) = H4 at S4 hS4 ⊢
        exact ⟨S4, by rw [hS4, step, hB]; rfl, some (.int j), some (.str ⟨#[top.cps.getD j 0]⟩), by rw [stepF hB]; rfl⟩
  · rintro σ H2 ⟨S2, hS, x5, x6, rfl⟩
    rw [hz] at hS
    walk_at "sts"
    refine ⟨rfl, ?_⟩
    walk_at "sts"
    have hs1 := sum_ones (mkS_ones (c := c) (top := top) (ab := ab) (left := left) (j := ab.length))
    have e0 : (Str.ofString "").length = 0 := by decide +kernel
    refine r_join hS (by rw [hs1, e0]; unfold mkS; simp; omega) ?_
    exact q _ S2
end

local macro_rules | `(tactic| walk_at "sts") => `(tactic| (with_reducible repeat (first | refine r_op ?_ | refine iteT ?_ | refine iteF ?_ | refine iteNT ?_ | refine iteNF ?_ | (refine' r_var ?hz0 ?_; (case hz0 => with_unfolding_all rfl)) | refine r_C ?_ | refine r_i0 ?_ | refine r_addI ?_ | refine r_cons ?_ | refine r_nil ?_ | refine r_seq ?_ | refine r_asg ?_ | refine r_name ?_ | refine r_ret ?_ | refine r_next ?_ | refine r_if ?_ | refine r_test ?_ | refine r_bl ?_ | refine r_cb ?_ | refine r_call ?_ | refine r_tb ?_ | refine r_not ?_ | refine r_and ?_ | refine r_or ?_ | refine r_andV ?_ | refine r_sub ?_ | refine r_drop ?_ | refine r_un ?_ | refine r_tup ?_ | refine r_lst ?_ | refine r_bm ?_ | refine r_sl ?_ | refine r_nop ?_ | refine r_part ?_ | refine r_true ?_ | refine r_rng1 ?_ | refine r_iseq ?_ | refine r_comp ?_ | refine r_for ?_ | refine r_u ?_ | refine r_gcons ?_ | refine r_gnil ?_ | (refine' r_gtup (SqT.of ?hz0) ?hz1 ?_; (case hz0 => first | assumption | exact upd_same); (case hz1 => rfl)) | refine r_callX ?_ | refine r_raise ?_ | refine r_rng3 ?_ | refine r_ii ?_ | refine r_eqBI ?_ | refine r_eqBS ?_ | refine r_neBI ?_ | refine r_enumA ?_ | refine r_inS ?_ | refine r_intE ?_ | (refine' r_i ?hz0 ?_; (case hz0 => with_unfolding_all first | assumption | omega | (dsimp only <;> omega) | exact ⟨by omega, by omega⟩ | exact .inl ⟨by omega, by omega⟩ | exact .inr ⟨by omega, by omega⟩ | exact ⟨by decide, by decide, by decide⟩)) | (refine' r_mulI ?hz0 ?_; (case hz0 => with_unfolding_all first | assumption | omega | (dsimp only <;> omega) | exact ⟨by omega, by omega⟩ | exact .inl ⟨by omega, by omega⟩ | exact .inr ⟨by omega, by omega⟩ | exact ⟨by decide, by decide, by decide⟩)) | (refine' r_ixL (SqL.of ?hz0) ?hz1 ?_; (case hz0 => first | assumption | exact upd_same); (case hz1 => with_unfolding_all rfl)) | (refine' r_ixT (SqT.of ?hz0) ?hz1 ?_; (case hz0 => first | assumption | exact upd_same); (case hz1 => with_unfolding_all rfl)) | (refine' r_setL ?hz0 ?hz1 ?_; (case hz0 => first | assumption | exact upd_same); (case hz1 => with_unfolding_all rfl)) | refine r_methX ?_ | refine r_makeX ?_ | refine r_fld ?_ | refine r_sfld ?_ | refine r_zipTL ?_ | refine r_enumRev ?_)))
local macro_rules | `(tactic| walk_at "stn") => `(tactic| (with_reducible repeat (first | refine r_op ?_ | refine iteT ?_ | refine iteF ?_ | refine iteNT ?_ | refine iteNF ?_ | (refine' r_var ?hz0 ?_; (case hz0 => with_unfolding_all rfl)) | refine r_C ?_ | refine r_i0 ?_ | refine r_addI ?_ | refine r_cons ?_ | refine r_nil ?_ | refine r_asg ?_ | refine r_name ?_ | refine r_ret ?_ | refine r_next ?_ | refine r_if ?_ | refine r_test ?_ | refine r_bl ?_ | refine r_cb ?_ | refine r_call ?_ | refine r_tb ?_ | refine r_not ?_ | refine r_and ?_ | refine r_or ?_ | refine r_andV ?_ | refine r_sub ?_ | refine r_drop ?_ | refine r_un ?_ | refine r_tup ?_ | refine r_lst ?_ | refine r_bm ?_ | refine r_sl ?_ | refine r_nop ?_ | refine r_part ?_ | refine r_true ?_ | refine r_rng1 ?_ | refine r_iseq ?_ | refine r_comp ?_ | refine r_for ?_ | refine r_u ?_ | refine r_gcons ?_ | refine r_gnil ?_ | (refine' r_gtup (SqT.of ?hz0) ?hz1 ?_; (case hz0 => first | assumption | exact upd_same); (case hz1 => rfl)) | refine r_callX ?_ | refine r_raise ?_ | refine r_rng3 ?_ | refine r_ii ?_ | refine r_eqBI ?_ | refine r_eqBS ?_ | refine r_neBI ?_ | refine r_enumA ?_ | refine r_inS ?_ | refine r_intE ?_ | (refine' r_i ?hz0 ?_; (case hz0 => with_unfolding_all first | assumption | omega | (dsimp only <;> omega) | exact ⟨by omega, by omega⟩ | exact .inl ⟨by omega, by omega⟩ | exact .inr ⟨by omega, by omega⟩ | exact ⟨by decide, by decide, by decide⟩)) | (refine' r_mulI ?hz0 ?_; (case hz0 => with_unfolding_all first | assumption | omega | (dsimp only <;> omega) | exact ⟨by omega, by omega⟩ | exact .inl ⟨by omega, by omega⟩ | exact .inr ⟨by omega, by omega⟩ | exact ⟨by decide, by decide, by decide⟩)) | (refine' r_ixL (SqL.of ?hz0) ?hz1 ?_; (case hz0 => first | assumption | exact upd_same); (case hz1 => with_unfolding_all rfl)) | (refine' r_ixT (SqT.of ?hz0) ?hz1 ?_; (case hz0 => first | assumption | exact upd_same); (case hz1 => with_unfolding_all rfl)) | (refine' r_setL ?hz0 ?hz1 ?_; (case hz0 => first | assumption | exact upd_same); (case hz1 => with_unfolding_all rfl)) | refine r_methX ?_ | refine r_makeX ?_ | refine r_fld ?_ | refine r_sfld ?_ | refine r_zipTL ?_ | refine r_enumRev ?_)))
section
variable {P : Program} {w : World} {K : PySem.W.Frag} {mg : Str → Option Value} {base : Heap}
theorem kz1j : (defScope s_cells_of).names.lookup ("cells" : Str) = some NameKind.local := by decide +kernel
theorem kz1k : (defScope s_cells_of).names.lookup ("enumerate" : Str) = some NameKind.globalImplicit := by decide +kernel
theorem kz1l : (defScope s_cells_of).names.lookup ("side" : Str) = some NameKind.local := by decide +kernel
theorem kz1m : (defScope s_cells_of).names.lookup ("sign" : Str) = some NameKind.local := by decide +kernel
theorem kz1n : (defScope s_cells_of).names.lookup ("row" : Str) = some NameKind.local := by decide +kernel
theorem kz1o : (defScope s_cells_of).names.lookup ("above" : Str) = some NameKind.local := by decide +kernel
theorem kz1p : (defScope s_cells_of).names.lookup ("over_row" : Str) = some NameKind.globalImplicit := by decide +kernel
theorem kz1q : (defScope s_cells_of).names.lookup ("left" : Str) = some NameKind.local := by decide +kernel
theorem kz1r : (defScope s_cells_of).names.lookup ("signs" : Str) = some NameKind.local := by decide +kernel
theorem kz1s : (defScope s_cells_of).names.lookup ("signs_of_row" : Str) = some NameKind.globalImplicit := by decide +kernel
theorem kz1t : (defScope s_cells_of).names.lookup ("top" : Str) = some NameKind.local := by decide +kernel
theorem kz1u : (defScope s_cells_of).names.lookup ("len" : Str) = some NameKind.globalImplicit := by decide +kernel
theorem kz1v : (defScope s_cells_of).names.lookup ("lines_above" : Str) = some NameKind.globalImplicit := by decide +kernel
noncomputable def mkBel (c : Nat) (top : Str) (ab : List Int) (left : Int) (j : Nat) : Int := if mkB c top ab left j = true then mkT c top ab left j else ab.getD j 0
noncomputable def mkR (c : Nat) (top : Str) (ab : List Int) (left : Int) (n : Nat) : List Int := (List.range n).map (mkBel c top ab left)
theorem mkR_len {c : Nat} {top : Str} {ab : List Int} {left : Int} {n : Nat} : (mkR c top ab left n).length = n := by simp [mkR]
theorem mkT_succ (c : Nat) (top : Str) (ab : List Int) (left : Int) (j : Nat) : mkT c top ab left (j + 1) = if mkB c top ab left j = true then ab.getD j 0 else mkT c top ab left j := rfl
noncomputable def oxC (b : Bool) : Nat := if b = true then 111 else 120
theorem ox_cps (b : Bool) : (oxS b).cps.toList = [oxC b] := by cases b <;> decide +kernel
noncomputable def rowS (c : Nat) (top : Str) (ab : List Int) (left : Int) (n : Nat) : Str := ⟨((List.range n).map fun k => oxC (mkB c top ab left k)).toArray⟩
theorem str_ext {a b : Str} (h : a.cps.toList = b.cps.toList) : a = b := by
  cases a; cases b
  exact congrArg Str.mk (Array.toList_inj.mp h)
theorem flat_ones {α β : Type} (f : α → β) : ∀ l : List α, (l.map fun k => [f k]).flatten = l.map f
  | [] => rfl
  | a :: l => by rw [List.map_cons, List.flatten_cons, flat_ones f l]; rfl
theorem join_rowS {c : Nat} {top : Str} {ab : List Int} {left : Int} {n : Nat} : Txt.join (Str.ofString "") (mkS c top ab left n) = rowS c top ab left n := by
  apply str_ext
  rw [join_cps]
  unfold mkS rowS
  rw [List.map_map]
  have : ((fun y : Str => y.cps.toList) ∘ fun k => oxS (mkB c top ab left k)) = fun k => [oxC (mkB c top ab left k)] := by
    funext k; exact ox_cps _
  rw [this, flat_ones]
theorem rowS_size {c : Nat} {top : Str} {ab : List Int} {left : Int} {n : Nat} : (rowS c top ab left n).cps.size = n := by simp [rowS]
theorem rowS_at {c : Nat} {top : Str} {ab : List Int} {left : Int} {n j : Nat} (h : j < n) : (rowS c top ab left n).cps.getD j 0 = oxC (mkB c top ab left j) := by
  unfold rowS
  simp [Array.getD, h]
theorem tch_ox {z : Str} {j : Nat} {b : Bool} (h : z.cps.getD j 0 = oxC b) : tch z j = b := by
  unfold tch
  rw [h]
  cases b <;> decide +kernel
theorem rowO_mk {z : Str} {c : Nat} {top : Str} {ab : List Int} {left : Int} {n : Nat} (hz : ∀ j, j < n → tch z j = mkB c top ab left j) : ∀ j, j ≤ n → rowO (tch z) ab left j = (mkR c top ab left j, mkT c top ab left j)
  | 0, _ => rfl
  | j + 1, h => by
    have ih := rowO_mk hz j (by omega)
    have e : mkR c top ab left (j + 1) = mkR c top ab left j ++ [mkBel c top ab left j] := by unfold mkR; rw [List.range_succ, List.map_append]; rfl
    rw [rowO, ih, hz j (by omega), e, mkT_succ]
    unfold mkBel
    by_cases hc : mkB c top ab left j = true
    · rw [if_pos hc, if_pos hc, if_pos hc]
    · rw [if_neg hc, if_neg hc, if_neg hc]
noncomputable def abv (m : Nat) (side top : Str) : Nat → List Int
  | 0 => (List.range top.cps.size).map fun l => ((m + l : Nat) : Int)
  | i + 1 => mkR (side.cps.getD i 0) top (abv m side top i) ((m : Int) - 1 - i) top.cps.size
theorem abv_len {m : Nat} {side top : Str} : ∀ i, (abv m side top i).length = top.cps.size
  | 0 => by simp [abv]
  | i + 1 => by rw [abv, mkR_len]
noncomputable def brow (m : Nat) (side top : Str) (i : Nat) : Str := rowS (side.cps.getD i 0) top (abv m side top i) ((m : Int) - 1 - i) top.cps.size
noncomputable def bcl (m : Nat) (side top : Str) (n : Nat) : List Str := (List.range n).map (brow m side top)
noncomputable def bcells (side top : Str) : List Str := bcl side.cps.size side top side.cps.size
theorem bcl_succ (m : Nat) (side top : Str) (n : Nat) : bcl m side top (n + 1) = bcl m side top n ++ [brow m side top n] := by unfold bcl; rw [List.range_succ, List.map_append]; rfl
theorem bcl_len (m : Nat) (side top : Str) (n : Nat) : (bcl m side top n).length = n := by simp [bcl]
noncomputable def spCells : Sp := fun vs H Q _ => ∃ (side top : Str), vs = [.str side, .str top] ∧ side.cps.size ≤ 48 ∧ top.cps.size ≤ 48 ∧
  ∀ D H', H D = none → Same H H' → H' D = some (.lst ((bcells side top).map V.str)) → Q (.ref D) H'
theorem sc_cells_of : FnScope ["side", "top", "above", "cells", "row", "sign", "left", "signs"] ["side", "top"] (defScope s_cells_of) := ⟨rfl, rfl, rfl, by decide +kernel, rfl, by decide +kernel, by decide +kernel⟩
theorem h_cells_of (T : Txt K mg) : Has P w K mg base 2 "cells_of" ["side", "top"] spCells := by
  have h_lines_above := h_lines_above (P := P) (w := w) (base := base) T
  have h_signs_of_row := h_signs_of_row (P := P) (w := w) (base := base) T
  have h_over_row := h_over_row (P := P) (w := w) (base := base) T
  refine hasJ T.d_cells_of sc_cells_of (fun _ _ _ _ _ _ us hl => L2.usN2 (fun _ _ => rfl) us hl) ?_ fun f cdv A outer s H vs Q E hr h => ?_
  · rintro vs H Q E ⟨side, top, rfl, _⟩; rfl
  obtain ⟨side, top, rfl, hs, ht, q⟩ := h
  have hu := hr.units0
  have hu64 := hr.units
  refine ⟨_, (jb_cons (js_set (i := 2) sc_cells_of.nd rfl (Or.inl kz1o) (j_call h_lines_above (hr.mono (by decide)) (glF kz1v) (ja_cons (j_callB (call_lenK (K := K) rfl) (glF kz1u) T.b_len bt_len (ja_cons (j_vL 0 kz1l) ja_nil) (by decide +kernel) (by decide +kernel)) (ja_cons (j_callB (call_lenK (K := K) rfl) (glF kz1u) T.b_len bt_len (ja_cons (j_vL 1 kz1t) ja_nil) (by decide +kernel) (by decide +kernel)) ja_nil)) (by decide +kernel)) rfl) (jb_cons (js_set (i := 3) sc_cells_of.nd rfl (Or.inl kz1j) (j_lst ja_nil) rfl) (jb_cons (js_for PassesOwn.never rfl (ji_enum (K := K) rfl rfl (glF kz1k) T.b_enumerate (ja_cons (j_vL 0 kz1l) ja_nil)) (jg_tup (K := K) rfl rfl (jgs_cons (jg_name (i := 4) sc_cells_of.nd rfl (Or.inl kz1n) rfl) (jgs_cons (jg_name (i := 5) sc_cells_of.nd rfl (Or.inl kz1m) rfl) jgs_nil))) (jb_cons (js_set (i := 6) sc_cells_of.nd rfl (Or.inl kz1q) (j_op op_sub (j_op op_sub (j_callB (call_lenK (K := K) rfl) (glF kz1u) T.b_len bt_len (ja_cons (j_vL 0 kz1l) ja_nil) (by decide +kernel) (by decide +kernel)) j_int) (j_vL 4 kz1n)) rfl) (jb_cons (js_set (i := 7) sc_cells_of.nd rfl (Or.inl kz1r) (j_call h_signs_of_row (hr.mono (by decide)) (glF kz1s) (ja_cons (j_vL 5 kz1m) (ja_cons (j_vL 1 kz1t) (ja_cons (j_vL 6 kz1q) (ja_cons (j_vL 2 kz1o) ja_nil)))) (by decide +kernel)) rfl) (jb_cons (js_expr (j_meth (K := K) rfl PySem.F.plainAttrs_list PySem.F.slot_list_append PySem.F.type_list_append mt_append (j_vL 3 kz1j) (ja_cons (j_vL 7 kz1r) ja_nil))) (jb_one (js_set (i := 2) sc_cells_of.nd rfl (Or.inl kz1o) (j_ix (K := K) rfl (j_call h_over_row (hr.mono (by decide)) (glF kz1p) (ja_cons (j_vL 7 kz1r) (ja_cons (j_vL 6 kz1q) (ja_cons (j_vL 2 kz1o) ja_nil))) (by decide +kernel)) j_int) rfl)))))) (jb_one (js_ret (j_vL 3 kz1j)))))), ?_⟩
  walk_at "sts"
  have hz : 1000 ≤ sizeLine := by decide
  have lz : side.length ≤ sizeLine := Nat.le_trans hs (by decide)
  have ly : top.length ≤ sizeLine := Nat.le_trans ht (by decide)
  refine r_lenS lz ?_
  walk_at "sts"
  refine r_lenS ly ?_
  walk_at "sts"
  refine ⟨side.cps.size, top.cps.size, rfl, hs, ht, fun A0 nA => ?_⟩
  have e0 : ((List.range top.cps.size).map fun l => ((side.cps.size + l : Nat) : Int)) = abv side.cps.size side top 0 := rfl
  rw [e0]
  have SA := (Same.refl H).upd nA (o := .lst ((abv side.cps.size side top 0).map V.int))
  have eA := upd_same (H := H) (a := A0) (o := .lst ((abv side.cps.size side top 0).map V.int))
  generalize upd H A0 (.lst ((abv side.cps.size side top 0).map V.int)) = H1 at SA eA ⊢
  walk_at "sts"
  refine r_new rfl fun D nD => ?_
  have SD := SA.upd nD (o := .lst [])
  have eD := upd_same (H := H1) (a := D) (o := .lst [])
  have eA2 := upd_old nD eA (o := .lst [])
  have nDH := SA.free nD
  have nAD : A0 ≠ D := fun z => by rw [z, nD] at eA; cases eA
  generalize upd H1 D (.lst []) = H2 at SD eD eA2 ⊢
  walk_at "sts"
  refine .inl ⟨side, rfl, ?_⟩
  refine for_Tp (fun i σ H' => Same H H' ∧ H' D = some (.lst ((bcl side.cps.size side top i).map V.str)) ∧ ∃ a x4 x5 x6 x7, H' a = some (.lst ((abv side.cps.size side top i).map V.int)) ∧ a ≠ D ∧ σ = [some (.str side), some (.str top), some (.ref a), some (.ref D), x4, x5, x6, x7])
    ⟨SD, eD, A0, none, none, none, none, eA2, nAD, rfl⟩ ?_ ?_
  · rintro i σ H3 T0 hi ⟨S3, hD, a, x4, x5, x6, x7, ha, nad, rfl⟩ nT
    have hi' : i < side.cps.size := hi
    refine r_gtup (xs := [.int i, .str ⟨#[side.cps.getD i 0]⟩]) (SqT.of upd_same) rfl ?_
    have hD4 := upd_old nT hD (o := .tup (enumS side i))
    have ha4 := upd_old nT ha (o := .tup (enumS side i))
    have S4 := S3.upd nT (o := .tup (enumS side i))
    generalize upd H3 T0 (.tup (enumS side i)) = H4 at hD4 ha4 S4 ⊢
    walk_at "sts"
    refine r_lenS lz ?_
    walk_at "sts"
    refine ⟨_, top, _, a, _, rfl, ha4, (abv_len i).symm, by rw [abv_len]; exact ht, fun H5 S5 => ?_⟩
    rw [join_rowS, abv_len]
    have hD5 := S5 _ _ hD4
    have ha5 := S5 _ _ ha4
    walk_at "sts"
    refine ⟨.inl ⟨rfl, _, SqL.of hD5⟩, ?_⟩
    walk_at "sts"
    refine r_append hD5 (by rw [List.length_map, bcl_len]; omega) ?_
    have e1 : (bcl side.cps.size side top i).map V.str ++ [.str (rowS (side.cps.getD i 0) top (abv side.cps.size side top i) ((side.length : Int) - 1 - i) top.cps.size)] = (bcl side.cps.size side top (i + 1)).map V.str := by rw [bcl_succ, List.map_append]; rfl
    rw [e1]
    have S6 := over (o := .lst ((bcl side.cps.size side top (i + 1)).map V.str)) (S4.trans S5) nDH
    have hD6 := upd_same (H := H5) (a := D) (o := .lst ((bcl side.cps.size side top (i + 1)).map V.str))
    have ha6 : upd H5 D (.lst ((bcl side.cps.size side top (i + 1)).map V.str)) a = _ := (upd_ne nad).trans ha5
    generalize upd H5 D (.lst ((bcl side.cps.size side top (i + 1)).map V.str)) = H6 at S6 hD6 ha6 ⊢
    walk_at "sts"
    refine ⟨_, _, a, _, rfl, ha6, by rw [rowS_size, abv_len], by rw [abv_len]; exact ht, fun t c1 b H7 nb _ S7 ht' hb _ => ?_⟩
    rw [abv_len, rowO_mk (n := top.cps.size) (fun j hj => tch_ox (rowS_at hj)) _ (Nat.le_refl _)] at ht' hb
    have hD7 := S7 _ _ hD6
    have nbD : b ≠ D := fun z => by rw [z, hD6] at nb; cases nb
    walk_at "sts"
    exact ⟨S6.trans S7, hD7, b, _, _, _, _, hb, nbD, rfl⟩
  · rintro σ H3 ⟨S3, hD, a, x4, x5, x6, x7, ha, nad, rfl⟩
    walk_at "sts"
    exact q D H3 nDH S3 hD
noncomputable def CB (side top : Str) : Nat → Nat → Bool := cC (bcells side top)
theorem bcells_at {side top : Str} {i : Nat} (h : i < side.cps.size) : (bcells side top).getD i ⟨#[]⟩ = brow side.cps.size side top i := by
  unfold bcells bcl
  rw [List.getD_eq_getElem?_getD, List.getElem?_map, List.getElem?_range h]; rfl
theorem CB_row {side top : Str} {i : Nat} (h : i < side.cps.size) : CB side top i = tch (brow side.cps.size side top i) := by unfold CB cC; rw [bcells_at h]
theorem CB_mk {side top : Str} {i j : Nat} (h : i < side.cps.size) (hj : j < top.cps.size) : CB side top i j = mkB (side.cps.getD i 0) top (abv side.cps.size side top i) ((side.cps.size : Int) - 1 - i) j := by
  rw [CB_row h]
  exact tch_ox (rowS_at hj)
theorem ag {side top : Str} : ∀ i, i ≤ side.cps.size → abv side.cps.size side top i = gDs side.cps.size (CB side top) top.cps.size i ∧
    (i < side.cps.size → ∀ j, j ≤ top.cps.size → mkT (side.cps.getD i 0) top (abv side.cps.size side top i) ((side.cps.size : Int) - 1 - i) j = ((gA side.cps.size (CB side top) i j : Nat) : Int) ∧ mkR (side.cps.getD i 0) top (abv side.cps.size side top i) ((side.cps.size : Int) - 1 - i) j = gDs side.cps.size (CB side top) j (i + 1))
  | 0, h => ⟨by rw [gDs_0]; rfl, fun hi j hj => ag_step (by rw [gDs_0]; rfl) hi hj⟩
  | i + 1, h => by
    have ih := (ag (side := side) (top := top) i (by omega)).2 (by omega) top.cps.size (Nat.le_refl _)
    have e : abv side.cps.size side top (i + 1) = gDs side.cps.size (CB side top) top.cps.size (i + 1) := ih.2
    exact ⟨e, fun hi j hj => ag_step e hi hj⟩
where
  ag_step {side top : Str} {i j : Nat} (e : abv side.cps.size side top i = gDs side.cps.size (CB side top) top.cps.size i) (hi : i < side.cps.size) (hj : j ≤ top.cps.size) :
      mkT (side.cps.getD i 0) top (abv side.cps.size side top i) ((side.cps.size : Int) - 1 - i) j = ((gA side.cps.size (CB side top) i j : Nat) : Int) ∧ mkR (side.cps.getD i 0) top (abv side.cps.size side top i) ((side.cps.size : Int) - 1 - i) j = gDs side.cps.size (CB side top) j (i + 1) := by
    have h1 := rowO_mk (z := brow side.cps.size side top i) (c := side.cps.getD i 0) (top := top) (ab := abv side.cps.size side top i) (left := (side.cps.size : Int) - 1 - i) (n := top.cps.size) (fun l hl => by rw [← CB_row hi]; exact CB_mk hi hl) j hj
    have h2 := rowO_g (m := side.cps.size) (C := CB side top) (far := top.cps.size) (i := i) j hj
    rw [← CB_row hi] at h1
    rw [← e, show ((gA side.cps.size (CB side top) i 0 : Nat) : Int) = (side.cps.size : Int) - 1 - i by rw [gA_zero]; omega, h1] at h2
    exact ⟨congrArg Prod.snd h2, congrArg Prod.fst h2⟩
theorem CB_rule {side top : Str} {i j : Nat} (hi : i < side.cps.size) (hj : j < top.cps.size) : CB side top i j = (decide (side.cps.getD i 0 = top.cps.getD j 0) || decide (gD side.cps.size (CB side top) j i < gA side.cps.size (CB side top) i j)) := by
  rw [CB_mk hi hj]
  unfold mkB
  rw [((ag i (by omega)).2 hi j (by omega)).1, (ag i (by omega)).1, gDs_at hj]
  congr 1
  exact decide_eq_decide.mpr (by omega)
end

section
variable {P : Program} {w : World} {K : PySem.W.Frag} {mg : Str → Option Value} {base : Heap}
theorem nd_ways_of_0 : (["line"] : List Str).Nodup := by decide +kernel
theorem kz1w : (defScope s_ways_of).names.lookup ("ways" : Str) = some NameKind.local := by decide +kernel
theorem kz1x : (defScope s_ways_of).names.lookup ("enumerate" : Str) = some NameKind.globalImplicit := by decide +kernel
theorem kz1y : (defScope s_ways_of).names.lookup ("coming" : Str) = some NameKind.local := by decide +kernel
theorem kz1z : (defScope s_ways_of).names.lookup ("pairs" : Str) = some NameKind.local := by decide +kernel
theorem kz20 : (defScope s_ways_of).names.lookup ("row" : Str) = some NameKind.local := by decide +kernel
theorem kz21 : (defScope s_ways_of).names.lookup ("pair" : Str) = some NameKind.local := by decide +kernel
theorem kz22 : (defScope s_ways_of).names.lookup ("column" : Str) = some NameKind.local := by decide +kernel
theorem kz23 : (defScope s_ways_of).names.lookup ("range" : Str) = some NameKind.globalImplicit := by decide +kernel
theorem kz24 : (defScope s_ways_of).names.lookup ("many" : Str) = some NameKind.local := by decide +kernel
theorem lin {m : Nat} {C : Nat → Nat → Bool} {far : Nat} : ∀ n i j, i + j ≤ n → i < m → j < far → gA m C i j < m + far ∧ gD m C j i < m + far
  | n, 0, 0, _, hi, hj => by rw [gA_zero, gD_zero]; omega
  | 0, 0, j + 1, h, _, _ => absurd h (by omega)
  | 0, i + 1, j, h, _, _ => absurd h (by omega)
  | n + 1, 0, j + 1, h, hi, hj => by
    have ih := lin (m := m) (C := C) (far := far) n 0 j (by omega) hi (by omega)
    refine ⟨?_, by rw [gD_zero]; omega⟩
    rw [gA_succ]; split
    · exact ih.2
    · exact ih.1
  | n + 1, i + 1, 0, h, hi, hj => by
    have ih := lin (m := m) (C := C) (far := far) n i 0 (by omega) (by omega) hj
    refine ⟨by rw [gA_zero]; omega, ?_⟩
    rw [gD_succ]; split
    · exact ih.1
    · exact ih.2
  | n + 1, i + 1, j + 1, h, hi, hj => by
    have h1 := lin (m := m) (C := C) (far := far) n (i + 1) j (by omega) hi (by omega)
    have h2 := lin (m := m) (C := C) (far := far) n i (j + 1) (by omega) (by omega) hj
    refine ⟨?_, ?_⟩
    · rw [gA_succ]; split
      · exact h1.2
      · exact h1.1
    · rw [gD_succ]; split
      · exact h2.1
      · exact h2.2
noncomputable def stp (w : Nat → List (Int × Int)) (l : Nat) (q : Int × Int) : Nat → List (Int × Int) := fun k => if k = l then w k ++ [q] else w k
noncomputable def wyJ (m : Nat) (C : Nat → Nat → Bool) (i : Nat) (w0 : Nat → List (Int × Int)) : Nat → Nat → List (Int × Int)
  | 0 => w0
  | j + 1 => stp (stp (wyJ m C i w0 j) (gA m C i j) ((i : Int), (j : Int))) (gD m C j i) ((i : Int), (j : Int))
noncomputable def wyA (m : Nat) (C : Nat → Nat → Bool) (far : Nat) : Nat → Nat → List (Int × Int)
  | 0 => fun _ => []
  | i + 1 => wyJ m C i (wyA m C far i) far
theorem stp_len (w : Nat → List (Int × Int)) (l : Nat) (q : Int × Int) (k : Nat) : (stp w l q k).length ≤ (w k).length + 1 := by
  unfold stp; split <;> simp
theorem wyJ_len {m : Nat} {C : Nat → Nat → Bool} {i : Nat} {w0 : Nat → List (Int × Int)} (k : Nat) : ∀ j, (wyJ m C i w0 j k).length ≤ (w0 k).length + 2 * j
  | 0 => by simp [wyJ]
  | j + 1 => by
    have ih := wyJ_len (m := m) (C := C) (i := i) (w0 := w0) k j
    have h1 := stp_len (stp (wyJ m C i w0 j) (gA m C i j) ((i : Int), (j : Int))) (gD m C j i) ((i : Int), (j : Int)) k
    have h2 := stp_len (wyJ m C i w0 j) (gA m C i j) ((i : Int), (j : Int)) k
    show (stp _ _ _ k).length ≤ _
    omega
theorem wyA_len {m : Nat} {C : Nat → Nat → Bool} {far : Nat} (k : Nat) : ∀ i, (wyA m C far i k).length ≤ 2 * (i * far)
  | 0 => by simp [wyA]
  | i + 1 => by
    have ih := wyA_len (m := m) (C := C) (far := far) k i
    have h1 := wyJ_len (m := m) (C := C) (i := i) (w0 := wyA m C far i) k far
    show (wyJ m C i (wyA m C far i) far k).length ≤ _
    have e : (i + 1) * far = i * far + far := Nat.succ_mul i far
    omega
noncomputable def Wys (H : Hp) (Pd : Addr → Prop) (refs : List V) (n : Nat) (w : Nat → List (Int × Int)) : Prop := refs.length = n ∧ (∀ l, l < n → ∃ p ws, refs[l]? = some (.ref p) ∧ Pd p ∧ H p = some (.lst ws) ∧ PrI H ws (w l)) ∧
  ∀ (l k : Nat) (p : Addr), l ≠ k → refs[l]? = some (.ref p) → refs[k]? ≠ some (.ref p)
theorem Wys.imp {H H' : Hp} {Pd Pd' : Addr → Prop} {refs : List V} {n : Nat} {w : Nat → List (Int × Int)} (h : Wys H Pd refs n w) (ht : ∀ p us, H p = some (.tup us) → H' p = some (.tup us)) (hl : ∀ c ws, Pd c → H c = some (.lst ws) → H' c = some (.lst ws)) (hp : ∀ c, Pd c → Pd' c) : Wys H' Pd' refs n w :=
  ⟨h.1, fun l hl' => by
    obtain ⟨p, ws, e1, e2, e3, e4⟩ := h.2.1 l hl'
    exact ⟨p, ws, e1, hp p e2, hl p ws e2 e3, e4.imp ht⟩, h.2.2⟩
theorem Wys.same {H H' : Hp} {Pd : Addr → Prop} {refs : List V} {n : Nat} {w : Nat → List (Int × Int)} (h : Wys H Pd refs n w) (s : Same H H') : Wys H' Pd refs n w := h.imp (fun p us e => s _ _ e) (fun c ws _ e => s _ _ e) fun _ z => z
theorem Wys.new {H : Hp} {Pd : Addr → Prop} {refs : List V} {n : Nat} {w : Nat → List (Int × Int)} {p : Addr} (h : Wys H Pd refs n w) (hn : H p = none) (hP : Pd p) (hw : w n = []) : Wys (upd H p (.lst [])) Pd (refs ++ [.ref p]) (n + 1) w := by
  have s : Same H (upd H p (.lst [])) := (Same.refl H).upd hn
  obtain ⟨h1, h2, h3⟩ := h
  have ne : ∀ l : Nat, refs[l]? ≠ some (V.ref p) := fun l e => by
    have hl : l < n := by rw [← h1]; exact (List.getElem?_eq_some_iff.mp e).1
    obtain ⟨p', ws, e1, _, e3, _⟩ := h2 l hl
    rw [e] at e1
    cases e1
    rw [hn] at e3; cases e3
  refine ⟨by rw [List.length_append, h1]; rfl, fun l hl => ?_, fun l k q hlk e1 e2 => ?_⟩
  · by_cases e : l = n
    · subst e
      exact ⟨p, [], by rw [List.getElem?_append_right (by omega), h1, Nat.sub_self]; rfl, hP, upd_same, by rw [hw]; trivial⟩
    · obtain ⟨p', ws, e1, e2, e3, e4⟩ := h2 l (by omega)
      exact ⟨p', ws, by rw [List.getElem?_append_left (by omega)]; exact e1, e2, s _ _ e3, e4.same s⟩
  · by_cases hl : l < refs.length
    · rw [List.getElem?_append_left hl] at e1
      by_cases hk : k < refs.length
      · rw [List.getElem?_append_left hk] at e2
        exact h3 l k q hlk e1 e2
      · rw [List.getElem?_append_right (by omega)] at e2
        have : k - refs.length = 0 := by
          have := (List.getElem?_eq_some_iff.mp e2).1
          simp at this; omega
        rw [this] at e2
        cases e2
        exact ne l e1
    · rw [List.getElem?_append_right (by omega)] at e1
      have : l - refs.length = 0 := by
        have := (List.getElem?_eq_some_iff.mp e1).1
        simp at this; omega
      rw [this] at e1
      cases e1
      by_cases hk : k < refs.length
      · rw [List.getElem?_append_left hk] at e2
        exact ne k e2
      · have := (List.getElem?_eq_some_iff.mp e2).1
        simp at this; omega
theorem Wys.app {H : Hp} {Pd : Addr → Prop} {refs ws : List V} {n l : Nat} {w : Nat → List (Int × Int)} {p q : Addr} {x y : Int} (h : Wys H Pd refs n w) (hl : l < n) (hp : refs[l]? = some (.ref p)) (hw : H p = some (.lst ws)) (hq : H q = some (.tup [.int x, .int y])) :
    Wys (upd H p (.lst (ws ++ [.ref q]))) Pd refs n (stp w l (x, y)) := by
  obtain ⟨h1, h2, h3⟩ := h
  have ht : ∀ r us, H r = some (.tup us) → upd H p (.lst (ws ++ [.ref q])) r = some (.tup us) := fun r us e => by rw [upd_ne (fun z => by rw [z, hw] at e; cases e)]; exact e
  refine ⟨h1, fun k hk => ?_, h3⟩
  obtain ⟨p', us, e1, e2, e3, e4⟩ := h2 k hk
  by_cases e : k = l
  · subst e
    rw [hp] at e1
    cases e1
    rw [hw] at e3
    cases e3
    refine ⟨p, _, hp, e2, upd_same, ?_⟩
    unfold stp
    rw [if_pos rfl]
    exact PrI.push (ht _ _ hq) (e4.imp ht)
  · have ne : p' ≠ p := fun z => by subst z; exact h3 k l p' e e1 hp
    refine ⟨p', us, e1, e2, by rw [upd_ne ne]; exact e3, ?_⟩
    unfold stp
    rw [if_neg e]
    exact e4.imp ht
theorem rowP_at {m : Nat} {C : Nat → Nat → Bool} {far i j : Nat} (h : j < far) : (rowP m C far i)[j]? = some (((gA m C i j : Nat) : Int), ((gD m C j i : Nat) : Int)) := by
  unfold rowP
  rw [List.getElem?_map, List.getElem?_range h]; rfl
theorem rowP_len {m : Nat} {C : Nat → Nat → Bool} {far i : Nat} : (rowP m C far i).length = far := by simp [rowP]
noncomputable def spWays : Sp := fun vs H Q _ => ∃ (m far : Nat) (C : Nat → Nat → Bool) (cm : Addr) (cs : List V), vs = [.int ((m : Int) + (far : Int)), .ref cm] ∧ m ≤ 48 ∧ far ≤ 48 ∧ H cm = some (.lst cs) ∧ Cmg H (fun _ => True) m C far cs m ∧
  ∀ aw refs H', H aw = none → Same H H' → H' aw = some (.lst refs) → Wys H' (fun p => H p = none) refs (m + far) (wyA m C far m) → Q (.ref aw) H'
theorem sc_ways_of : FnScope ["many", "coming", "ways", "row", "pairs", "column", "pair"] ["many", "coming"] (defScope s_ways_of) := ⟨rfl, rfl, rfl, by decide +kernel, rfl, by decide +kernel, by decide +kernel⟩
theorem h_ways_of (T : Txt K mg) : Has P w K mg base 1 "ways_of" ["many", "coming"] spWays := by
  refine hasJ T.d_ways_of sc_ways_of (fun _ _ _ _ _ _ us hl => L2.usN2 (fun _ _ => rfl) us hl) ?_ fun f cdv A outer s H vs Q E hr h => ?_
  · rintro vs H Q E ⟨m, far, C, cm, cs, rfl, _⟩; rfl
  obtain ⟨m, far, C, cm, cs, rfl, hm, hf, hcm, hG, q⟩ := h
  have hu := hr.units0
  have hu64 := hr.units
  refine ⟨_, (jb_cons (js_setC (i := 2) sc_ways_of.nd rfl (Or.inl kz1w) (sub := [none]) (subOk_of (N := ["many", "coming", "ways", "row", "pairs", "column", "pair"]) (sc := defScope s_ways_of) (N' := ["line"]) (by decide +kernel)) rfl rfl rfl (ji_range1 (glF kz23) T.b_range (ja_cons (j_vL 0 kz24) ja_nil)) (fun C s₀ H₀ ex => (jg_B 0 (by decide +kernel) nd_ways_of_0)) (fun C s₀ H₀ ex => jif_nil) (fun C s₀ H₀ ex => (j_lst ja_nil)) rfl) (jb_cons (js_for PassesOwn.never rfl (ji_enum (K := K) rfl rfl (glF kz1x) T.b_enumerate (ja_cons (j_vL 1 kz1y) ja_nil)) (jg_tup (K := K) rfl rfl (jgs_cons (jg_name (i := 3) sc_ways_of.nd rfl (Or.inl kz20) rfl) (jgs_cons (jg_name (i := 4) sc_ways_of.nd rfl (Or.inl kz1z) rfl) jgs_nil))) (jb_one (js_for PassesOwn.never rfl (ji_enum (K := K) rfl rfl (glF kz1x) T.b_enumerate (ja_cons (j_vL 4 kz1z) ja_nil)) (jg_tup (K := K) rfl rfl (jgs_cons (jg_name (i := 5) sc_ways_of.nd rfl (Or.inl kz22) rfl) (jgs_cons (jg_name (i := 6) sc_ways_of.nd rfl (Or.inl kz21) rfl) jgs_nil))) (jb_cons (js_expr (j_meth (K := K) rfl PySem.F.plainAttrs_list PySem.F.slot_list_append PySem.F.type_list_append mt_append (j_ix (K := K) rfl (j_vL 2 kz1w) (j_ix (K := K) rfl (j_vL 6 kz21) j_int)) (ja_cons (j_tup (ja_cons (j_vL 3 kz20) (ja_cons (j_vL 5 kz22) ja_nil))) ja_nil))) (jb_one (js_expr (j_meth (K := K) rfl PySem.F.plainAttrs_list PySem.F.slot_list_append PySem.F.type_list_append mt_append (j_ix (K := K) rfl (j_vL 2 kz1w) (j_ix (K := K) rfl (j_vL 6 kz21) j_int)) (ja_cons (j_tup (ja_cons (j_vL 3 kz20) (ja_cons (j_vL 5 kz22) ja_nil))) ja_nil)))))))) (jb_one (js_ret (j_vL 2 kz1w))))), ?_⟩
  walk_at "sts"
  have hs : 20000 ≤ sizeLine := by decide
  refine ⟨_, rfl, by omega, by omega, ?_⟩
  rw [show ((m : Int) + (far : Int)).toNat = m + far by omega]
  refine comp_rng (n := m + far) (fun i ys H' => Same H H' ∧ Wys H' (fun p => H p = none) ys i (fun _ => [])) (by omega) ⟨Same.refl H, rfl, (fun l hl => absurd hl (Nat.not_lt_zero _)), fun l k p _ e => by simp at e⟩ ?_ ?_ ?_
  · rintro i ys H' ⟨_, h⟩
    exact Nat.le_of_eq h.1
  · rintro i ys H' hi ⟨s, h⟩
    walk_at "sts"
    refine ⟨KeepSt.set rfl, ?_⟩
    walk_at "sts"
    refine r_new rfl fun p np => ?_
    walk_at "sts"
    exact ⟨s.upd np, h.new np (Same.back s np) rfl⟩
  · rintro refs H1 ⟨s1, hW⟩ aw naw
    have naw0 := Same.back s1 naw
    have s2 := s1.upd naw (o := .lst refs)
    have haw := upd_same (H := H1) (a := aw) (o := .lst refs)
    have hW2 : Wys (upd H1 aw (.lst refs)) (fun p => H p = none ∧ p ≠ aw) refs (m + far) (wyA m C far 0) := by
      obtain ⟨w1, w2, w3⟩ := hW
      refine ⟨w1, fun l hl => ?_, w3⟩
      obtain ⟨p, ws, e1, e2, e3, e4⟩ := w2 l hl
      exact ⟨p, ws, e1, ⟨e2, fun z => by rw [z, naw] at e3; cases e3⟩, upd_old naw e3, e4.same ((Same.refl H1).upd naw)⟩
    generalize upd H1 aw (.lst refs) = H2 at s2 haw hW2 ⊢
    walk_at "sts"
    refine .inr ⟨cm, _, rfl, SqL.of (s2 _ _ hcm), ?_⟩
    refine for_enumL (xs := cs) (fun i σ H' => Same H H' ∧ H' aw = some (.lst refs) ∧ Wys H' (fun p => H p = none ∧ p ≠ aw) refs (m + far) (wyA m C far i) ∧ ∃ x3 x4 x5 x6, σ = [some (.int ((m : Int) + (far : Int))), some (.ref cm), some (.ref aw), x3, x4, x5, x6])
      ⟨s2, haw, hW2, _, _, _, _, rfl⟩ (fun i σ H' _ h => SqL.of (h.1 _ _ hcm)) ?_ ?_
    · rintro i σ H3 T0 x hx ⟨S3, h3, W3, x3, x4, x5, x6, rfl⟩ nT
      have hi : i < m := by
        have := (List.getElem?_eq_some_iff.mp hx).1
        rw [hG.1] at this; exact this
      obtain ⟨c, ws, e1, _, hc, hws⟩ := hG.2 i hi
      rw [hx] at e1
      cases e1
      have wl := hws.len
      rw [rowP_len] at wl
      refine r_gtup (xs := [.int i, .ref c]) (SqT.of upd_same) rfl ?_
      have S4 := S3.upd nT (o := .tup [.int i, .ref c])
      have h4 := upd_old nT h3 (o := .tup [.int i, .ref c])
      have W4 := W3.same ((Same.refl H3).upd nT (o := .tup [.int i, .ref c]))
      generalize upd H3 T0 (.tup [.int i, .ref c]) = H4 at S4 h4 W4 ⊢
      walk_at "sts"
      refine .inr ⟨c, _, rfl, SqL.of (S4 _ _ hc), ?_⟩
      refine for_enumL (xs := ws) (fun j σ H' => Same H H' ∧ H' aw = some (.lst refs) ∧ Wys H' (fun p => H p = none ∧ p ≠ aw) refs (m + far) (wyJ m C i (wyA m C far i) j) ∧ ∃ x5 x6, σ = [some (.int ((m : Int) + (far : Int))), some (.ref cm), some (.ref aw), some (.int i), some (.ref c), x5, x6])
        ⟨S4, h4, W4, _, _, rfl⟩ (fun i σ H' _ h => SqL.of (h.1 _ _ hc)) ?_ ?_
      · rintro j σ H5 T1 y hy ⟨S5, h5, W5, x5, x6, rfl⟩ nT1
        have hj : j < far := by
          have := (List.getElem?_eq_some_iff.mp hy).1
          omega
        obtain ⟨r, e2, hr'⟩ := hws.get (rowP_at (m := m) (C := C) (i := i) hj)
        rw [hy] at e2
        cases e2
        obtain ⟨l1, l2⟩ := lin (m := m) (C := C) (far := far) (i + j) i j (Nat.le_refl _) hi hj
        have wA := wyA_len (m := m) (C := C) (far := far)
        have wJ := wyJ_len (m := m) (C := C) (i := i) (w0 := wyA m C far i)
        have him : i * far ≤ 48 * 48 := Nat.mul_le_mul (by omega) hf
        refine r_gtup (xs := [.int j, .ref r]) (SqT.of upd_same) rfl ?_
        have S6 := S5.upd nT1 (o := .tup [.int j, .ref r])
        have h6 := upd_old nT1 h5 (o := .tup [.int j, .ref r])
        have W6 := W5.same ((Same.refl H5).upd nT1 (o := .tup [.int j, .ref r]))
        generalize upd H5 T1 (.tup [.int j, .ref r]) = H6 at S6 h6 W6 ⊢
        obtain ⟨p, us, r1, ⟨pn, pa⟩, hp, hpu⟩ := W6.2.1 _ l1
        have ul := hpu.len
        have := wA (gA m C i j) i
        have := wJ (gA m C i j) j
        walk_at "sts"
        refine r_ixT (SqT.of (S6 _ _ hr')) rfl ?_
        walk_at "sts"
        refine r_ixL (SqL.of h6) (atI_nat r1) ?_
        walk_at "sts"
        refine ⟨.inl ⟨rfl, _, SqL.of hp⟩, ?_⟩
        walk_at "sts"
        refine r_new rfl fun q1 nq1 => ?_
        walk_at "sts"
        have S7 := S6.upd nq1 (o := .tup [.int i, .int j])
        have h7 := upd_old nq1 h6 (o := .tup [.int i, .int j])
        have W7 := W6.same ((Same.refl H6).upd nq1 (o := .tup [.int i, .int j]))
        have hp7 := upd_old nq1 hp (o := .tup [.int i, .int j])
        have hq7 := upd_same (H := H6) (a := q1) (o := .tup [.int i, .int j])
        generalize upd H6 q1 (.tup [.int i, .int j]) = H7 at S7 h7 W7 hp7 hq7 ⊢
        refine r_append hp7 (by omega) ?_
        walk_at "sts"
        have S8 := Same.put (o := .lst (us ++ [.ref q1])) S7 pn
        have h8 : upd H7 p (.lst (us ++ [.ref q1])) aw = _ := (upd_ne (Ne.symm pa)).trans h7
        have W8 := W7.app l1 r1 hp7 hq7
        generalize upd H7 p (.lst (us ++ [.ref q1])) = H8 at S8 h8 W8 ⊢
        obtain ⟨p', us', r2, ⟨pn', pa'⟩, hp', hpu'⟩ := W8.2.1 _ l2
        have ul' := hpu'.len
        have := stp_len (wyJ m C i (wyA m C far i) j) (gA m C i j) ((i : Int), (j : Int)) (gD m C j i)
        have := wA (gD m C j i) i
        have := wJ (gD m C j i) j
        walk_at "sts"
        refine r_ixT (SqT.of (S8 _ _ hr')) rfl ?_
        walk_at "sts"
        refine r_ixL (SqL.of h8) (atI_nat r2) ?_
        walk_at "sts"
        refine ⟨.inl ⟨rfl, _, SqL.of hp'⟩, ?_⟩
        walk_at "sts"
        refine r_new rfl fun q2 nq2 => ?_
        walk_at "sts"
        have S9 := S8.upd nq2 (o := .tup [.int i, .int j])
        have h9 := upd_old nq2 h8 (o := .tup [.int i, .int j])
        have W9 := W8.same ((Same.refl H8).upd nq2 (o := .tup [.int i, .int j]))
        have hp9 := upd_old nq2 hp' (o := .tup [.int i, .int j])
        have hq9 := upd_same (H := H8) (a := q2) (o := .tup [.int i, .int j])
        generalize upd H8 q2 (.tup [.int i, .int j]) = H9 at S9 h9 W9 hp9 hq9 ⊢
        refine r_append hp9 (by omega) ?_
        walk_at "sts"
        exact ⟨Same.put S9 pn', (upd_ne (Ne.symm pa')).trans h9, W9.app l2 r2 hp9 hq9, _, _, rfl⟩
      · rintro σ H5 ⟨S5, h5, W5, x5, x6, rfl⟩
        rw [wl] at W5
        exact ⟨S5, h5, W5, _, _, _, _, rfl⟩
    · rintro σ H3 ⟨S3, h3, W3, x3, x4, x5, x6, rfl⟩
      rw [hG.1] at W3
      walk_at "sts"
      exact q aw refs H3 naw0 S3 h3 (W3.imp (fun _ _ z => z) (fun _ _ _ z => z) fun c z => z.1)
end

section
variable {P : Program} {w : World} {K : PySem.W.Frag} {mg : Str → Option Value} {base : Heap}
theorem kz25 : (defScope s_Board___init__).names.lookup ("self" : Str) = some NameKind.local := by decide +kernel
theorem kz26 : (defScope s_Board___init__).names.lookup ("ways_of" : Str) = some NameKind.globalImplicit := by decide +kernel
theorem kz27 : (defScope s_Board___init__).names.lookup ("gone" : Str) = some NameKind.local := by decide +kernel
theorem kz28 : (defScope s_Board___init__).names.lookup ("len" : Str) = some NameKind.globalImplicit := by decide +kernel
theorem kz29 : (defScope s_Board___init__).names.lookup ("side" : Str) = some NameKind.local := by decide +kernel
theorem kz2a : (defScope s_Board___init__).names.lookup ("top" : Str) = some NameKind.local := by decide +kernel
theorem kz2b : (defScope s_Board___init__).names.lookup ("over_cells" : Str) = some NameKind.globalImplicit := by decide +kernel
theorem kz2c : (defScope s_Board___init__).names.lookup ("cells_of" : Str) = some NameKind.globalImplicit := by decide +kernel
theorem kz2d : (defScope s_Board___init__).names.lookup ("need_rows" : Str) = some NameKind.globalImplicit := by decide +kernel
noncomputable abbrev mS (z : Str) : Nat := z.cps.size
structure BdO (H : Hp) (side top : Str) (ac am al aw : Addr) : Prop where
  cells : H ac = some (.lst ((bcells side top).map V.str))
  com : ∃ cs, H am = some (.lst cs) ∧ Cmg H (fun _ => True) (mS side) (CB side top) (mS top) cs (mS side)
  lines : ∃ R, H al = some (.lst (R.map V.int)) ∧ IsEnds (mS side) (CB side top) (mS top) R
  ways : ∃ refs, H aw = some (.lst refs) ∧ Wys H (fun _ => True) refs (mS side + mS top) (wyA (mS side) (CB side top) (mS top) (mS side))
noncomputable def bdF (side top : Str) (ac am al aw : Addr) : List (Str × V) := [("held_side", .str side), ("held_top", .str top), ("held_cells", .ref ac), ("held_coming", .ref am), ("held_lines", .ref al), ("held_ways", .ref aw)]
noncomputable def Bd (mg : Str → Option Value) (H : Hp) (b : Addr) (side top : Str) : Prop := RowB side ∧ RowB top ∧ ∃ dx ac am al aw, H b = some (.ins (clsA mg "Board") dx (bdF side top ac am al aw)) ∧ BdO H side top ac am al aw
theorem bcells_len (side top : Str) : (bcells side top).length = side.cps.size := bcl_len _ _ _ _
theorem bcells_size {side top : Str} : ∀ z ∈ bcells side top, z.cps.size = top.cps.size := fun z hz => by
  unfold bcells bcl at hz
  obtain ⟨i, _, rfl⟩ := List.mem_map.mp hz
  exact rowS_size
noncomputable def spBInit (K : PySem.W.Frag) (mg : Str → Option Value) : Sp := fun vs H Q E => ∃ (x dx : Addr) (v u : V), vs = [.ref x, v, u] ∧ H x = some (.ins (clsA mg "Board") dx []) ∧ Thing K H v ∧ Thing K H u ∧
  (∀ w, bf v u = some w → ∀ e H', Same H H' → IsX H' e (clsA mg "NoRow") [("found", w)] → E (.ref (clsA mg "NoRow")) (some e) H') ∧
  (∀ side top : Str, v = .str side → u = .str top → RowB side → RowB top → ∀ H', Chg x H H' → Bd mg H' x side top → Q .non H')
theorem Chg.same {x : Addr} {H H1 H2 : Hp} (c : Chg x H H1) (s : Same H1 H2) : Chg x H H2 := fun b o n e => s _ _ (c b o n e)
theorem Chg.put {x : Addr} {H H1 : Hp} {o : HO} (c : Chg x H H1) : Chg x H (upd H1 x o) := fun b u n e => by rw [upd_ne n]; exact c b u n e
theorem putF_new {f : Str} {y : V} : ∀ {fs : List (Str × V)}, (fs.map (·.1)).contains f = false → putF f y fs = fs ++ [(f, y)]
  | [], _ => rfl
  | (g, z) :: fs, h => by
    simp only [List.map_cons, List.contains_cons, Bool.or_eq_false_iff] at h
    have hne : ¬ g = f := fun e => by rw [e] at h; simp at h
    have ih := putF_new (y := y) (fs := fs) h.2
    unfold putF
    simp [hne, ih]
theorem sc_Board___init__ : FnScope ["self", "side", "top", "gone"] ["self", "side", "top"] (defScope s_Board___init__) := ⟨rfl, rfl, rfl, by decide +kernel, rfl, by decide +kernel, by decide +kernel⟩
theorem h_Board___init__ (T : Txt K mg) : HasM P w K mg base 5 "Board" "__init__" ["self", "side", "top"] (spBInit K mg) := by
  have h_need_rows := h_need_rows (P := P) (w := w) (base := base) T
  have h_cells_of := h_cells_of (P := P) (w := w) (base := base) T
  have h_over_cells := h_over_cells (P := P) (w := w) (base := base) T
  have h_ways_of := h_ways_of (P := P) (w := w) (base := base) T
  refine hasM T.m_Board___init__ sc_Board___init__ (fun _ _ _ _ _ _ us hl => L2.usN3 (fun _ _ _ => rfl) us hl) ?_ fun f cdv A outer s H vs Q E hr h => ?_
  · rintro vs H Q E ⟨x, dx, v, u, rfl, _⟩; rfl
  obtain ⟨x, dx, v, u, rfl, hx, hv, hu', qx, q⟩ := h
  have hu := hr.units0
  have hu64 := hr.units
  refine ⟨_, (jb_cons (js_expr (j_callX h_need_rows (hr.mono (by decide)) (glF kz2d) pass_def (ja_cons (j_vL 1 kz29) (ja_cons (j_vL 2 kz2a) ja_nil)) (by decide +kernel))) (jb_cons (js_fld (K := K) rfl (j_vL 0 kz25) (j_vL 1 kz29)) (jb_cons (js_fld (K := K) rfl (j_vL 0 kz25) (j_vL 2 kz2a)) (jb_cons (js_fld (K := K) rfl (j_vL 0 kz25) (j_call h_cells_of (hr.mono (by decide)) (glF kz2c) (ja_cons (j_vL 1 kz29) (ja_cons (j_vL 2 kz2a) ja_nil)) (by decide +kernel))) (jb_cons (js_set (i := 3) sc_Board___init__.nd rfl (Or.inl kz27) (j_call h_over_cells (hr.mono (by decide)) (glF kz2b) (ja_cons (j_callB (call_lenK (K := K) rfl) (glF kz28) T.b_len bt_len (ja_cons (j_vL 1 kz29) ja_nil) (by decide +kernel) (by decide +kernel)) (ja_cons (j_callB (call_lenK (K := K) rfl) (glF kz28) T.b_len bt_len (ja_cons (j_vL 2 kz2a) ja_nil) (by decide +kernel) (by decide +kernel)) (ja_cons (j_fld (K := K) rfl (j_vL 0 kz25)) ja_nil))) (by decide +kernel)) rfl) (jb_cons (js_fld (K := K) rfl (j_vL 0 kz25) (j_ix (K := K) rfl (j_vL 3 kz27) j_int)) (jb_cons (js_fld (K := K) rfl (j_vL 0 kz25) (j_ix (K := K) rfl (j_vL 3 kz27) j_int)) (jb_one (js_fld (K := K) rfl (j_vL 0 kz25) (j_call h_ways_of (hr.mono (by decide)) (glF kz26) (ja_cons (j_op op_addA (j_callB (call_lenK (K := K) rfl) (glF kz28) T.b_len bt_len (ja_cons (j_vL 1 kz29) ja_nil) (by decide +kernel) (by decide +kernel)) (j_callB (call_lenK (K := K) rfl) (glF kz28) T.b_len bt_len (ja_cons (j_vL 2 kz2a) ja_nil) (by decide +kernel) (by decide +kernel))) (ja_cons (j_ix (K := K) rfl (j_vL 3 kz27) j_int) ja_nil)) (by decide +kernel))))))))))), ?_⟩
  walk_at "sts"
  refine ⟨v, u, rfl, hv, hu', qx, fun side top ev eu hs ht H1 S1 => ?_⟩
  subst ev eu
  have q' := q side top rfl rfl hs ht
  clear q qx
  have cl := T.o_Board.cl
  have na := T.n_Board
  have lz : side.length ≤ sizeLine := Nat.le_trans hs.1 (by decide)
  have ly : top.length ≤ sizeLine := Nat.le_trans ht.1 (by decide)
  have hx1 := S1 _ _ hx
  have C1 : Chg x H H1 := fun b o _ e => S1 _ _ e
  walk_at "sts"
  refine ⟨x, _, dx, _, rfl, hx1, cl, na _ (by simp), by simp, ?_⟩
  walk_at "sts"
  rw [putF_new (by show ([] : List Str).contains "held_side" = false; decide +kernel)]
  have hx2 := upd_same (H := H1) (a := x) (o := .ins (clsA mg "Board") dx (([] : List (Str × V)) ++ ([("held_side", .str side)] : List (Str × V))))
  have C2 := Chg.put (o := .ins (clsA mg "Board") dx (([] : List (Str × V)) ++ ([("held_side", .str side)] : List (Str × V)))) C1
  generalize hG2 : upd H1 x (.ins (clsA mg "Board") dx (([] : List (Str × V)) ++ ([("held_side", .str side)] : List (Str × V)))) = H2 at hx2 C2 ⊢
  replace hx2 : H2 x = some (.ins (clsA mg "Board") dx ([("held_side", .str side)] : List (Str × V))) := hx2
  walk_at "sts"
  refine ⟨x, _, dx, _, rfl, hx2, cl, na _ (by simp), by simp, ?_⟩
  walk_at "sts"
  rw [putF_new (by show (["held_side"] : List Str).contains "held_top" = false; decide +kernel)]
  have hx3 := upd_same (H := H2) (a := x) (o := .ins (clsA mg "Board") dx (([("held_side", .str side)] : List (Str × V)) ++ ([("held_top", .str top)] : List (Str × V))))
  have C3 := Chg.put (o := .ins (clsA mg "Board") dx (([("held_side", .str side)] : List (Str × V)) ++ ([("held_top", .str top)] : List (Str × V)))) C2
  generalize hG3 : upd H2 x (.ins (clsA mg "Board") dx (([("held_side", .str side)] : List (Str × V)) ++ ([("held_top", .str top)] : List (Str × V)))) = H3 at hx3 C3 ⊢
  replace hx3 : H3 x = some (.ins (clsA mg "Board") dx ([("held_side", .str side), ("held_top", .str top)] : List (Str × V))) := hx3
  walk_at "sts"
  refine ⟨side, top, rfl, hs.1, ht.1, fun ac H4 nac S4 hac => ?_⟩
  walk_at "sts"
  have hx4 := S4 _ _ hx3
  have C4 := Chg.same C3 S4
  refine ⟨x, _, dx, _, rfl, hx4, cl, na _ (by simp), by simp, ?_⟩
  walk_at "sts"
  rw [putF_new (by show (["held_side", "held_top"] : List Str).contains "held_cells" = false; decide +kernel)]
  have hx5 := upd_same (H := H4) (a := x) (o := .ins (clsA mg "Board") dx (([("held_side", .str side), ("held_top", .str top)] : List (Str × V)) ++ ([("held_cells", .ref ac)] : List (Str × V))))
  have C5 := Chg.put (o := .ins (clsA mg "Board") dx (([("held_side", .str side), ("held_top", .str top)] : List (Str × V)) ++ ([("held_cells", .ref ac)] : List (Str × V)))) C4
  generalize hG5 : upd H4 x (.ins (clsA mg "Board") dx (([("held_side", .str side), ("held_top", .str top)] : List (Str × V)) ++ ([("held_cells", .ref ac)] : List (Str × V)))) = H5 at hx5 C5 ⊢
  replace hx5 : H5 x = some (.ins (clsA mg "Board") dx ([("held_side", .str side), ("held_top", .str top), ("held_cells", .ref ac)] : List (Str × V))) := hx5
  have nx4 : ∀ {a : Addr} {us : List V}, H4 a = some (.lst us) → a ≠ x := fun {a us} h z => by rw [z, hx4] at h; cases h
  have hac5 : H5 ac = some (.lst ((bcells side top).map V.str)) := by rw [← hG5, upd_ne (nx4 hac)]; exact hac
  walk_at "sts"
  refine r_lenS lz ?_
  walk_at "sts"
  refine r_lenS ly ?_
  walk_at "sts"
  refine ⟨x, _, dx, _, _, rfl, hx5, cl, na _ (by simp), rfl, ?_⟩
  walk_at "sts"
  refine ⟨mS side, mS top, bcells side top, ac, rfl, hac5, bcells_len side top, hs.1, ht.1, bcells_size, fun t am al R H6 nal S6 ht6 hE hal hcm => ?_⟩
  walk_at "sts"
  obtain ⟨cs, hcm, hG⟩ := hcm
  have hx6 := S6 _ _ hx5
  have C6 := Chg.same C5 S6
  refine ⟨x, _, dx, _, rfl, hx6, cl, na _ (by simp), by simp, ?_⟩
  walk_at "sts"
  rw [putF_new (by show (["held_side", "held_top", "held_cells"] : List Str).contains "held_coming" = false; decide +kernel)]
  have hx7 := upd_same (H := H6) (a := x) (o := .ins (clsA mg "Board") dx (([("held_side", .str side), ("held_top", .str top), ("held_cells", .ref ac)] : List (Str × V)) ++ ([("held_coming", .ref am)] : List (Str × V))))
  have C7 := Chg.put (o := .ins (clsA mg "Board") dx (([("held_side", .str side), ("held_top", .str top), ("held_cells", .ref ac)] : List (Str × V)) ++ ([("held_coming", .ref am)] : List (Str × V)))) C6
  generalize hG7 : upd H6 x (.ins (clsA mg "Board") dx (([("held_side", .str side), ("held_top", .str top), ("held_cells", .ref ac)] : List (Str × V)) ++ ([("held_coming", .ref am)] : List (Str × V)))) = H7 at hx7 C7 ⊢
  replace hx7 : H7 x = some (.ins (clsA mg "Board") dx ([("held_side", .str side), ("held_top", .str top), ("held_cells", .ref ac), ("held_coming", .ref am)] : List (Str × V))) := hx7
  have M7 : Chg x H6 H7 := by rw [← hG7]; exact Chg.put (Chg.refl x H6)
  have nt : t ≠ x := fun z => by rw [z, hx6] at ht6; cases ht6
  have ht7 := M7 t _ nt ht6
  walk_at "sts"
  refine ⟨x, _, dx, _, rfl, hx7, cl, na _ (by simp), by simp, ?_⟩
  walk_at "sts"
  rw [putF_new (by show (["held_side", "held_top", "held_cells", "held_coming"] : List Str).contains "held_lines" = false; decide +kernel)]
  have hx8 := upd_same (H := H7) (a := x) (o := .ins (clsA mg "Board") dx (([("held_side", .str side), ("held_top", .str top), ("held_cells", .ref ac), ("held_coming", .ref am)] : List (Str × V)) ++ ([("held_lines", .ref al)] : List (Str × V))))
  have C8 := Chg.put (o := .ins (clsA mg "Board") dx (([("held_side", .str side), ("held_top", .str top), ("held_cells", .ref ac), ("held_coming", .ref am)] : List (Str × V)) ++ ([("held_lines", .ref al)] : List (Str × V)))) C7
  generalize hG8 : upd H7 x (.ins (clsA mg "Board") dx (([("held_side", .str side), ("held_top", .str top), ("held_cells", .ref ac), ("held_coming", .ref am)] : List (Str × V)) ++ ([("held_lines", .ref al)] : List (Str × V)))) = H8 at hx8 C8 ⊢
  replace hx8 : H8 x = some (.ins (clsA mg "Board") dx ([("held_side", .str side), ("held_top", .str top), ("held_cells", .ref ac), ("held_coming", .ref am), ("held_lines", .ref al)] : List (Str × V))) := hx8
  have M8 : Chg x H6 H8 := M7.trans (by rw [← hG8]; exact Chg.put (Chg.refl x H7))
  have nx6 : ∀ {a : Addr} {us : List V}, H6 a = some (.lst us) → a ≠ x := fun {a us} h z => by rw [z, hx6] at h; cases h
  have nxt6 : ∀ {a : Addr} {us : List V}, H6 a = some (.tup us) → a ≠ x := fun {a us} h z => by rw [z, hx6] at h; cases h
  have ht8 := M8 t _ nt ht6
  have hcm8 := M8 am _ (nx6 hcm) hcm
  have hG8' : Cmg H8 (fun _ => True) (mS side) (CB side top) (mS top) cs (mS side) := hG.imp (fun p us e => M8 p _ (nxt6 e) e) (fun c ws _ e => M8 c _ (nx6 e) e) fun _ z => z
  have hal8 := M8 al _ (nx6 hal) hal
  have hac8 := M8 ac _ (nx6 (S6 _ _ hac5)) (S6 _ _ hac5)
  walk_at "sts"
  refine r_lenS lz ?_
  walk_at "sts"
  refine r_lenS ly ?_
  walk_at "sts"
  refine ⟨mS side, mS top, CB side top, am, cs, rfl, hs.1, ht.1, hcm8, hG8', fun aw refs H9 naw S9 haw hW => ?_⟩
  walk_at "sts"
  have hx9 := S9 _ _ hx8
  have C9 := Chg.same C8 S9
  have nx9 : ∀ {a : Addr} {us : List V}, H9 a = some (.lst us) → a ≠ x := fun {a us} h z => by rw [z, hx9] at h; cases h
  have nxt9 : ∀ {a : Addr} {us : List V}, H9 a = some (.tup us) → a ≠ x := fun {a us} h z => by rw [z, hx9] at h; cases h
  refine ⟨x, _, dx, _, rfl, hx9, cl, na _ (by simp), by simp, ?_⟩
  walk_at "sts"
  rw [putF_new (by show (["held_side", "held_top", "held_cells", "held_coming", "held_lines"] : List Str).contains "held_ways" = false; decide +kernel)]
  have hx10 := upd_same (H := H9) (a := x) (o := .ins (clsA mg "Board") dx (([("held_side", .str side), ("held_top", .str top), ("held_cells", .ref ac), ("held_coming", .ref am), ("held_lines", .ref al)] : List (Str × V)) ++ ([("held_ways", .ref aw)] : List (Str × V))))
  have C10 := Chg.put (o := .ins (clsA mg "Board") dx (([("held_side", .str side), ("held_top", .str top), ("held_cells", .ref ac), ("held_coming", .ref am), ("held_lines", .ref al)] : List (Str × V)) ++ ([("held_ways", .ref aw)] : List (Str × V)))) C9
  generalize hG10 : upd H9 x (.ins (clsA mg "Board") dx (([("held_side", .str side), ("held_top", .str top), ("held_cells", .ref ac), ("held_coming", .ref am), ("held_lines", .ref al)] : List (Str × V)) ++ ([("held_ways", .ref aw)] : List (Str × V)))) = H10 at hx10 C10 ⊢
  replace hx10 : H10 x = some (.ins (clsA mg "Board") dx ([("held_side", .str side), ("held_top", .str top), ("held_cells", .ref ac), ("held_coming", .ref am), ("held_lines", .ref al), ("held_ways", .ref aw)] : List (Str × V))) := hx10
  have M10 : Chg x H9 H10 := by rw [← hG10]; exact Chg.put (Chg.refl x H9)
  refine q' H10 C10 ⟨hs, ht, dx, ac, am, al, aw, hx10, M10 ac _ (nx9 (S9 _ _ hac8)) (S9 _ _ hac8), ⟨cs, M10 am _ (nx9 (S9 _ _ hcm8)) (S9 _ _ hcm8), (hG8'.same S9).imp (fun p us e => M10 p _ (nxt9 e) e) (fun c ws _ e => M10 c _ (nx9 e) e) fun _ z => z⟩, ⟨R, M10 al _ (nx9 (S9 _ _ hal8)) (S9 _ _ hal8), hE⟩, refs, M10 aw _ (nx9 haw) haw, hW.imp (fun p us e => M10 p _ (nxt9 e) e) (fun c ws _ e => M10 c _ (nx9 e) e) fun _ _ => trivial⟩
end

section
variable {P : Program} {w : World} {K : PySem.W.Frag} {mg : Str → Option Value} {base : Heap}
theorem kz2e : (defScope s_Board_lines).names.lookup ("list" : Str) = some NameKind.globalImplicit := by decide +kernel
theorem kz2f : (defScope s_Board_lines).names.lookup ("self" : Str) = some NameKind.local := by decide +kernel
theorem bdM {side top : Str} {ac am al aw : Addr} {m : Str} (h : (["held_side", "held_top", "held_cells", "held_coming", "held_lines", "held_ways"] : List Str).contains m = false) : (bdF side top ac am al aw).lookup m = none := by
  unfold bdF
  simp only [List.contains_cons, Bool.or_eq_false_iff] at h
  obtain ⟨h1, h2, h3, h4, h5, h6, _⟩ := h
  simp only [List.lookup_cons, h1, h2, h3, h4, h5, h6, List.lookup_nil]
noncomputable def spLines (mg : Str → Option Value) : Sp := fun vs H Q _ => ∃ (b : Addr) (side top : Str), vs = [.ref b] ∧ Bd mg H b side top ∧ ∀ q R H', H q = none → Same H H' → IsEnds (mS side) (CB side top) (mS top) R → H' q = some (.lst (R.map V.int)) → Q (.ref q) H'
theorem sc_Board_lines : FnScope ["self"] ["self"] (defScope s_Board_lines) := ⟨rfl, rfl, rfl, by decide +kernel, rfl, by decide +kernel, by decide +kernel⟩
theorem h_Board_lines (T : Txt K mg) : HasM P w K mg base 1 "Board" "lines" ["self"] (spLines mg) := by
  refine hasM T.m_Board_lines sc_Board_lines (fun _ _ _ _ _ _ us hl => L2.usN1 (fun _ => rfl) us hl) ?_ fun f cdv A outer s H vs Q E hr h => ?_
  · rintro vs H Q E ⟨b, side, top, rfl, _⟩; rfl
  obtain ⟨b, side, top, rfl, ⟨hs, ht, dx, ac, am, al, aw, hb, hO⟩, q⟩ := h
  have hu := hr.units0
  have hu64 := hr.units
  refine ⟨_, (jb_one (js_ret (j_callTy (call_listK (K := K) rfl rfl) (glF kz2e) T.b_list bt_list (ja_cons (j_fld (K := K) rfl (j_vL 0 kz2f)) ja_nil) (by decide +kernel) (by decide +kernel)))), ?_⟩
  walk_at "sts"
  obtain ⟨R, hR, hE⟩ := hO.lines
  refine ⟨b, _, dx, _, _, rfl, hb, T.o_Board.cl, T.n_Board _ (by simp), rfl, ?_⟩
  walk_at "sts"
  refine r_listL (SqL.of hR) fun l nl => ?_
  walk_at "sts"
  exact q l R _ nl ((Same.refl H).upd nl) hE upd_same
end

section
variable {P : Program} {w : World} {K : PySem.W.Frag} {mg : Str → Option Value} {base : Heap}
theorem kz2g : (defScope s_law_at).names.lookup ("_law_k" : Str) = some NameKind.local := by decide +kernel
theorem kz2h : (defScope s_law_at).names.lookup ("len" : Str) = some NameKind.globalImplicit := by decide +kernel
theorem kz2i : (defScope s_law_at).names.lookup ("_law_script" : Str) = some NameKind.local := by decide +kernel
theorem kz2j : (defScope s_law_mix).names.lookup ("_law_two_here" : Str) = some NameKind.local := by decide +kernel
theorem kz2k : (defScope s_law_mix).names.lookup ("_law_one" : Str) = some NameKind.local := by decide +kernel
theorem kz2l : (defScope s_law_mix).names.lookup ("_law_cell" : Str) = some NameKind.local := by decide +kernel
theorem kz2m : (defScope s_law_mix).names.lookup ("_law_k" : Str) = some NameKind.local := by decide +kernel
theorem kz2n : (defScope s_law_put).names.lookup ("_law_cap" : Str) = some NameKind.local := by decide +kernel
theorem kz2o : (defScope s_law_put).names.lookup ("_law_at_here" : Str) = some NameKind.local := by decide +kernel
theorem kz2p : (defScope s_law_put).names.lookup ("_law_row" : Str) = some NameKind.local := by decide +kernel
theorem kz2q : (defScope s_law_put).names.lookup ("_law_new" : Str) = some NameKind.local := by decide +kernel
theorem kz2r : (defScope s_law_put).names.lookup ("_law_mix" : Str) = some NameKind.globalImplicit := by decide +kernel
theorem kz2s : (defScope s_law_put).names.lookup ("_law_cell" : Str) = some NameKind.local := by decide +kernel
theorem kz2t : (defScope s_law_put).names.lookup ("len" : Str) = some NameKind.globalImplicit := by decide +kernel
theorem kz2u : (defScope s_law_put).names.lookup ("range" : Str) = some NameKind.globalImplicit := by decide +kernel
theorem kz2v : (defScope s_law_put).names.lookup ("_law_many" : Str) = some NameKind.local := by decide +kernel
theorem kz2w : (defScope s_law_put).names.lookup ("_law_k" : Str) = some NameKind.local := by decide +kernel
theorem kz2x : (defScope s_law_put).names.lookup ("_law_signs" : Str) = some NameKind.local := by decide +kernel
theorem kz2y : (defScope s_law_put).names.lookup ("_law_shift" : Str) = some NameKind.local := by decide +kernel
theorem kz2z : (defScope s_law_put).names.lookup ("_law_wide" : Str) = some NameKind.local := by decide +kernel
theorem kz30 : (defScope s_law_two).names.lookup ("_law_rows" : Str) = some NameKind.local := by decide +kernel
theorem kz31 : (defScope s_law_two).names.lookup ("_law_script" : Str) = some NameKind.local := by decide +kernel
theorem kz32 : (defScope s_law_two).names.lookup ("_law_cell" : Str) = some NameKind.local := by decide +kernel
theorem kz33 : (defScope s_law_two).names.lookup ("_law_put" : Str) = some NameKind.globalImplicit := by decide +kernel
theorem kz34 : (defScope s_law_two).names.lookup ("_law_shift" : Str) = some NameKind.local := by decide +kernel
theorem kz35 : (defScope s_law_two).names.lookup ("_law_wide" : Str) = some NameKind.local := by decide +kernel
theorem kz36 : (defScope s_law_two).names.lookup ("_law_cap" : Str) = some NameKind.local := by decide +kernel
theorem kz37 : (defScope s_law_two).names.lookup ("_law_at" : Str) = some NameKind.globalImplicit := by decide +kernel
theorem sc_law_at : FnScope ["_law_script", "_law_k"] ["_law_script", "_law_k"] (defScope s_law_at) := ⟨rfl, rfl, rfl, by decide +kernel, rfl, by decide +kernel, by decide +kernel⟩
theorem h_law_at (T : Txt K mg) : Has P w K mg base 1 "_law_at" ["_law_script", "_law_k"] (spCell K) := by
  refine hasJ T.d_law_at sc_law_at (fun _ _ _ _ _ _ us hl => L2.usN2 (fun _ _ => rfl) us hl) ?_ fun f cdv A outer s H vs Q E hr h => ?_
  · rintro vs H Q E ⟨a, ns, k, rfl, _⟩; rfl
  obtain ⟨a, ns, k, rfl, hS, h0, q⟩ := h
  have hu := hr.units0
  have hu64 := hr.units
  refine ⟨_, (jb_cons (js_if (jt_cmp op_lt (j_vL 1 kz2g) (j_callB (call_lenK (K := K) rfl) (glF kz2h) T.b_len bt_len (ja_cons (j_vL 0 kz2i) ja_nil) (by decide +kernel) (by decide +kernel)) (by first | exact nomark _ | with_unfolding_all rfl)) (jb_one (js_ret (j_ix (K := K) rfl (j_vL 0 kz2i) (j_vL 1 kz2g)))) jb_nil) (jb_one (js_ret j_int))), ?_⟩
  walk_at "sts"
  refine ⟨_, _, rfl, .inl ⟨_, hS, rfl⟩, ?_⟩
  walk_at "sts"
  refine iteD (fun hk => ?_) (fun hk => ?_)
  · rw [List.length_map] at hk
    walk_at "sts"
    refine r_ixL hS (atI_int (v := .int (ns.getD k.toNat 0)) h0 ?_) (q _)
    rw [List.getElem?_map, List.getD_eq_getElem?_getD, List.getElem?_eq_getElem (by omega)]; rfl
  · walk_at "sts"
    exact q _
noncomputable def spMix : Sp := fun vs H Q _ => ∃ n k : Int, vs = [.int n, .int k] ∧ ∀ r, Q (.int r) H
theorem sc_law_mix : FnScope ["_law_cell", "_law_k", "_law_one", "_law_two_here"] ["_law_cell", "_law_k"] (defScope s_law_mix) := ⟨rfl, rfl, rfl, by decide +kernel, rfl, by decide +kernel, by decide +kernel⟩
theorem h_law_mix (T : Txt K mg) : Has P w K mg base 1 "_law_mix" ["_law_cell", "_law_k"] spMix := by
  refine hasJ T.d_law_mix sc_law_mix (fun _ _ _ _ _ _ us hl => L2.usN2 (fun _ _ => rfl) us hl) ?_ fun f cdv A outer s H vs Q E hr h => ?_
  · rintro vs H Q E ⟨n, k, rfl, _⟩; rfl
  obtain ⟨n, k, rfl, q⟩ := h
  have hu := hr.units0
  have hu64 := hr.units
  refine ⟨_, (jb_cons (js_set (i := 2) sc_law_mix.nd rfl (Or.inl kz2k) (j_op op_mod (j_op op_mulA (j_op op_addA (j_op op_addA (j_op op_mod (j_vL 0 kz2l) j_int) (j_op op_mulA j_int (j_vL 1 kz2m))) j_int) j_int) j_int) rfl) (jb_cons (js_set (i := 3) sc_law_mix.nd rfl (Or.inl kz2j) (j_op op_mod (j_op op_mulA (j_op op_addA (j_op op_mod (j_vL 2 kz2k) j_int) j_int) (j_op op_addA (j_op op_addA (j_op op_fdivW (j_vL 2 kz2k) j_int) (j_op op_mod (j_op op_fdivW (j_vL 0 kz2l) j_int) j_int)) j_int)) j_int) rfl) (jb_one (js_ret (j_op op_fdivW (j_vL 3 kz2j) j_int))))), ?_⟩
  walk_at "sts"
  exact q _
theorem sg_at (d : Int) (h0 : 0 ≤ d) (h1 : d < 27) : ∃ c, atI (Str.ofString "abcdefghijklmnopqrstuvwxyz.").cps.toList d = some c ∧ c ∈ GOOD := by
  have key : ∀ n : Nat, n < 27 → ∃ c, (Str.ofString "abcdefghijklmnopqrstuvwxyz.").cps.toList[n]? = some c ∧ c ∈ GOOD := fun n hn => by
    have hl : (Str.ofString "abcdefghijklmnopqrstuvwxyz.").cps.toList.length = 27 := by decide +kernel
    refine ⟨_, List.getElem?_eq_getElem (by omega), ?_⟩
    have all : ∀ c ∈ (Str.ofString "abcdefghijklmnopqrstuvwxyz.").cps.toList, c ∈ GOOD := by decide +kernel
    exact all _ (List.getElem_mem _)
  obtain ⟨c, e, hc⟩ := key d.toNat (by omega)
  refine ⟨c, ?_, hc⟩
  have : d = ((d.toNat : Nat) : Int) := by omega
  rw [this]
  exact atI_nat e
noncomputable def GoodT (z : Str) : Prop := ∀ c ∈ z.cps.toList, c ∈ GOOD
theorem goodT_add {z : Str} {c : Nat} (h : GoodT z) (hc : c ∈ GOOD) : GoodT (z ++ ⟨#[c]⟩) := fun d hd => by
  have e : (z ++ ⟨#[c]⟩ : Str).cps.toList = z.cps.toList ++ [c] := by
    show (z.cps ++ #[c]).toList = _
    simp
  rw [e] at hd
  rcases List.mem_append.mp hd with k | k
  · exact h d k
  · rw [List.mem_singleton.mp k]; exact hc
theorem len_add (z y : Str) : (z ++ y).length = z.length + y.length := by
  show (z.cps ++ y.cps).size = _
  rw [Array.size_append]; rfl
theorem goodT_cat {z y : Str} (h : GoodT z) (h' : GoodT y) : GoodT (z ++ y) := fun d hd => by
  have e : (z ++ y : Str).cps.toList = z.cps.toList ++ y.cps.toList := by
    show (z.cps ++ y.cps).toList = _
    simp
  rw [e] at hd
  rcases List.mem_append.mp hd with k | k
  · exact h d k
  · exact h' d k
noncomputable def spPut : Sp := fun vs H Q _ => ∃ (row : Str) (cell : Int) (cap : Nat) (wide shift : Int), vs = [.str row, .int cell, .int cap, .int wide, .int shift] ∧ GoodT row ∧ row.length ≤ cap ∧ 1 ≤ cap ∧ cap ≤ 48 ∧ 1 ≤ wide ∧ wide ≤ 27 ∧ ∀ z : Str, GoodT z → z.length ≤ cap → Q (.str z) H
theorem good_cut {z : Str} {k : Nat} (h : GoodT z) : GoodT (Txt.slice z none (some (k : Int))) := fun c hc => by
  rw [slice_to] at hc
  exact h c (List.mem_of_mem_take hc)
theorem good_from {z : Str} {k : Nat} (h : GoodT z) : GoodT (Txt.slice z (some (k : Int)) none) := fun c hc => by
  rw [slice_from] at hc
  exact h c (List.mem_of_mem_drop hc)
theorem cut_len (z : Str) (k : Nat) : (Txt.slice z none (some (k : Int))).length ≤ k := by
  have : (Txt.slice z none (some (k : Int))).length = (Txt.slice z none (some (k : Int))).cps.toList.length := by simp [Str.length]
  rw [this, slice_to, List.length_take]
  exact Nat.min_le_left _ _
theorem sc_law_put : FnScope ["_law_row", "_law_cell", "_law_cap", "_law_wide", "_law_shift", "_law_signs", "_law_new", "_law_many", "_law_k", "_law_at_here"] ["_law_row", "_law_cell", "_law_cap", "_law_wide", "_law_shift"] (defScope s_law_put) := ⟨rfl, rfl, rfl, by decide +kernel, rfl, by decide +kernel, by decide +kernel⟩
theorem h_law_put (T : Txt K mg) : Has P w K mg base 2 "_law_put" ["_law_row", "_law_cell", "_law_cap", "_law_wide", "_law_shift"] spPut := by
  have h_law_mix := h_law_mix (P := P) (w := w) (base := base) T
  refine hasJ T.d_law_put sc_law_put (fun _ _ _ _ _ _ us hl => L2.usN5 (fun _ _ _ _ _ => rfl) us hl) ?_ fun f cdv A outer s H vs Q E hr h => ?_
  · rintro vs H Q E ⟨row, cell, cap, wide, shift, rfl, _⟩; rfl
  obtain ⟨row, cell, cap, wide, shift, rfl, hg, hl, hc1, hc2, hw1, hw2, q⟩ := h
  have hu := hr.units0
  have hu64 := hr.units
  refine ⟨_, (jb_cons (js_set (i := 5) sc_law_put.nd rfl (Or.inl kz2x) j_str rfl) (jb_cons (js_set (i := 6) sc_law_put.nd rfl (Or.inl kz2q) j_str rfl) (jb_cons (js_if (jt_cmp op_ge (j_vL 1 kz2s) (j_op op_pow j_int j_int) (by first | exact nomark _ | with_unfolding_all rfl)) (jb_cons (js_set (i := 7) sc_law_put.nd rfl (Or.inl kz2v) (j_op op_mod (j_vL 1 kz2s) (j_op op_addA (j_vL 2 kz2n) j_int)) rfl) (jb_cons (js_set (i := 1) sc_law_put.nd rfl (Or.inl kz2s) (j_op op_fdivW (j_vL 1 kz2s) (j_op op_addA (j_vL 2 kz2n) j_int)) rfl) (jb_cons (js_for PassesOwn.never rfl (ji_range1 (glF kz2u) T.b_range (ja_cons (j_vL 7 kz2v) ja_nil)) (jg_name (i := 8) sc_law_put.nd rfl (Or.inl kz2w) rfl) (jb_cons (js_set (i := 6) sc_law_put.nd rfl (Or.inl kz2q) (j_op op_addA (j_vL 6 kz2q) (j_ix (K := K) rfl (j_vL 5 kz2x) (j_op op_mod (j_op op_addA (j_vL 4 kz2y) (j_op op_mulA j_int (j_op op_mod (j_vL 1 kz2s) (j_vL 3 kz2z)))) j_int))) rfl) (jb_one (js_set (i := 1) sc_law_put.nd rfl (Or.inl kz2s) (j_op op_fdivW (j_vL 1 kz2s) (j_vL 3 kz2z)) rfl)))) (jb_one (js_ret (j_vL 6 kz2q)))))) jb_nil) (jb_cons (js_set (i := 7) sc_law_put.nd rfl (Or.inl kz2v) j_int rfl) (jb_cons (js_if (jt_cmp (op_eqX (K := K) rfl hu64) (j_op op_mod (j_vL 1 kz2s) j_int) j_int (by first | exact nomark _ | with_unfolding_all rfl)) (jb_one (js_set (i := 7) sc_law_put.nd rfl (Or.inl kz2v) (j_op op_addA j_int (j_op op_mod (j_call h_law_mix (hr.mono (by decide)) (glF kz2r) (ja_cons (j_vL 1 kz2s) (ja_cons j_int ja_nil)) (by decide +kernel)) j_int)) rfl)) jb_nil) (jb_cons (js_for PassesOwn.never rfl (ji_range1 (glF kz2u) T.b_range (ja_cons (j_vL 7 kz2v) ja_nil)) (jg_name (i := 8) sc_law_put.nd rfl (Or.inl kz2w) rfl) (jb_one (js_set (i := 6) sc_law_put.nd rfl (Or.inl kz2q) (j_op op_addA (j_vL 6 kz2q) (j_ix (K := K) rfl (j_vL 5 kz2x) (j_op op_mod (j_op op_addA (j_vL 4 kz2y) (j_op op_mulA j_int (j_op op_mod (j_call h_law_mix (hr.mono (by decide)) (glF kz2r) (ja_cons (j_vL 1 kz2s) (ja_cons (j_op op_addA (j_vL 8 kz2w) j_int) ja_nil)) (by decide +kernel)) (j_vL 3 kz2z)))) j_int))) rfl))) (jb_cons (js_set (i := 9) sc_law_put.nd rfl (Or.inl kz2o) (j_op op_mod (j_call h_law_mix (hr.mono (by decide)) (glF kz2r) (ja_cons (j_vL 1 kz2s) (ja_cons j_int ja_nil)) (by decide +kernel)) (j_op op_addA (j_callB (call_lenK (K := K) rfl) (glF kz2t) T.b_len bt_len (ja_cons (j_vL 0 kz2p) ja_nil) (by decide +kernel) (by decide +kernel)) j_int)) rfl) (jb_one (js_ret (j_slice (sl_seqK (K := K) rfl) (j_op op_addA (j_op op_addA (j_slice (sl_seqK (K := K) rfl) (j_vL 0 kz2p) jo_none (jo_some (j_vL 9 kz2o))) (j_vL 6 kz2q)) (j_slice (sl_seqK (K := K) rfl) (j_vL 0 kz2p) (jo_some (j_vL 9 kz2o)) jo_none)) jo_none (jo_some (j_vL 2 kz2n)))))))))))), ?_⟩
  walk_at "sts"
  have hz : 20000 ≤ sizeLine := by decide
  have hsl : (Str.ofString "abcdefghijklmnopqrstuvwxyz.").length ≤ sizeLine := Nat.le_trans (show _ ≤ 100 by decide +kernel) (by decide)
  have gE : GoodT (Str.ofString "") := fun c hc => by
    have e : (Str.ofString "").cps.toList = [] := by decide +kernel
    rw [e] at hc; cases hc
  have lE : (Str.ofString "").length = 0 := by decide +kernel
  refine iteD (fun hg1 => ?_) (fun hg1 => ?_)
  · clear hg1
    walk_at "sts"
    obtain ⟨mn, emn⟩ : ∃ mn : Nat, cell % ((cap : Int) + 1) = mn := ⟨_, (Int.toNat_of_nonneg (Int.emod_nonneg _ (by omega))).symm⟩
    have hmn : mn ≤ cap := by have := Int.emod_lt_of_pos cell (show (0 : Int) < (cap : Int) + 1 by omega); omega
    rw [emn]
    refine ⟨_, rfl, by omega, by omega, ?_⟩
    rw [show ((mn : Int)).toNat = mn by omega]
    refine for_range (n := mn) (fun i σ H' => H' = H ∧ ∃ (c' : Int) (y : Str) (x8 x9 : Option V), σ = [some (.str row), some (.int c'), some (.int cap), some (.int wide), some (.int shift), some (.str (Str.ofString "abcdefghijklmnopqrstuvwxyz.")), some (.str y), some (.int mn), x8, x9] ∧ GoodT y ∧ y.length = i)
      ⟨rfl, _, _, _, _, rfl, gE, lE⟩ ?_ ?_
    · rintro i σ H' hi ⟨rfl, c', y, x8, x9, rfl, hy, hyl⟩
      obtain ⟨d, hd, hdg⟩ := sg_at ((shift + 5 * (c' % wide)) % 27) (Int.emod_nonneg _ (by decide)) (Int.emod_lt_of_pos _ (by decide))
      walk_at "sts"
      refine r_ixS hsl hd ?_
      walk_at "sts"
      refine r_addS (by rw [len1]; omega) ?_
      walk_at "sts"
      exact ⟨rfl, _, _, _, _, rfl, goodT_add hy hdg, by rw [len_add, len1]; omega⟩
    · rintro σ H' ⟨rfl, c', y, x8, x9, rfl, hy, hyl⟩
      walk_at "sts"
      exact q y hy (by omega)
  · clear hg1
    walk_at "stn"
    with_reducible refine r_seq ?_
    walk_at "stn"
    with_reducible refine r_cut (fun σ H' => H' = H ∧ ∃ mn : Nat, 1 ≤ mn ∧ mn ≤ 12 ∧ σ = [some (.str row), some (.int cell), some (.int cap), some (.int wide), some (.int shift), some (.str (Str.ofString "abcdefghijklmnopqrstuvwxyz.")), some (.str (Str.ofString "")), some (.int mn), none, none]) ?_ ?_
    rotate_left
    · intro N hN
      walk_at "stn"
      refine iteD (fun h => ?_) (fun h => ?_)
      · walk_at "stn"
        refine ⟨_, _, rfl, fun r => ?_⟩
        walk_at "stn"
        obtain ⟨m1, e1⟩ : ∃ m1 : Nat, 2 + r % 11 = m1 := ⟨(2 + r % 11).toNat, by omega⟩
        rw [e1]
        exact hN _ _ ⟨rfl, m1, by omega, by omega, rfl⟩
      · walk_at "stn"
        exact hN _ _ ⟨rfl, 1, by omega, by omega, rfl⟩
    · rintro σ H' ⟨rfl, mn, h1, h12, rfl⟩
      walk_at "sts"
      refine ⟨_, rfl, by omega, by omega, ?_⟩
      rw [show ((mn : Int)).toNat = mn by omega]
      refine for_range (n := mn) (fun i σ G => G = H' ∧ ∃ (y : Str) (x8 x9 : Option V), σ = [some (.str row), some (.int cell), some (.int cap), some (.int wide), some (.int shift), some (.str (Str.ofString "abcdefghijklmnopqrstuvwxyz.")), some (.str y), some (.int mn), x8, x9] ∧ GoodT y ∧ y.length = i)
        ⟨rfl, _, _, _, rfl, gE, lE⟩ ?_ ?_
      · rintro i σ G hi ⟨rfl, y, x8, x9, rfl, hy, hyl⟩
        walk_at "sts"
        refine ⟨_, _, rfl, fun r => ?_⟩
        walk_at "sts"
        obtain ⟨d, hd, hdg⟩ := sg_at ((shift + 5 * (r % wide)) % 27) (Int.emod_nonneg _ (by decide)) (Int.emod_lt_of_pos _ (by decide))
        refine r_ixS hsl hd ?_
        walk_at "sts"
        refine r_addS (by rw [len1]; omega) ?_
        walk_at "sts"
        exact ⟨rfl, _, _, _, rfl, goodT_add hy hdg, by rw [len_add, len1]; omega⟩
      · rintro σ G ⟨rfl, y, x8, x9, rfl, hy, hyl⟩
        have lr : row.length ≤ sizeLine := by omega
        walk_at "sts"
        refine ⟨_, _, rfl, fun r => ?_⟩
        walk_at "sts"
        refine r_lenS lr ?_
        walk_at "sts"
        obtain ⟨k, ek⟩ : ∃ k : Nat, r % ((row.length : Int) + 1) = k := ⟨_, (Int.toNat_of_nonneg (Int.emod_nonneg _ (by omega))).symm⟩
        rw [ek]
        have l1 := Txt.slice_le row none (some (k : Int))
        have l2 := Txt.slice_le row (some (k : Int)) none
        walk_at "sts"
        refine r_slS lr ?_
        walk_at "sts"
        refine r_addS (by omega) ?_
        walk_at "sts"
        refine r_slS lr ?_
        walk_at "sts"
        refine r_addS (by rw [len_add]; omega) ?_
        walk_at "sts"
        refine r_slS (by rw [len_add, len_add]; omega) ?_
        walk_at "sts"
        exact q _ (good_cut (goodT_cat (goodT_cat (good_cut hg) hy) (good_from hg))) (cut_len _ _)
theorem cut_mem {xs : List V} {lo hi : Option Int} {x : V} (h : x ∈ cutV xs lo hi) : x ∈ xs := by
  unfold cutV at h
  first
  | exact List.mem_of_mem_drop (List.mem_of_mem_take h)
  | exact List.mem_of_mem_take (List.mem_of_mem_drop h)
noncomputable def spTwo (K : PySem.W.Frag) : Sp := fun vs H Q _ => ∃ (a : Addr) (ns : List Int) (cap : Nat), vs = [.ref a, .int cap] ∧ SqL K H a (ns.map V.int) ∧ ns.length ≤ 63 ∧ 1 ≤ cap ∧ cap ≤ 48 ∧ ∀ (r : Addr) (z y : Str) H', Same H H' → H' r = some (.lst [.str z, .str y]) → Row z → Row y → Q (.ref r) H'
theorem sc_law_two : FnScope ["_law_script", "_law_cap", "_law_wide", "_law_shift", "_law_rows", "_law_cell"] ["_law_script", "_law_cap"] (defScope s_law_two) := ⟨rfl, rfl, rfl, by decide +kernel, rfl, by decide +kernel, by decide +kernel⟩
theorem h_law_two (T : Txt K mg) : Has P w K mg base 3 "_law_two" ["_law_script", "_law_cap"] (spTwo K) := by
  have h_law_at := h_law_at (P := P) (w := w) (base := base) T
  have h_law_put := h_law_put (P := P) (w := w) (base := base) T
  refine hasJ T.d_law_two sc_law_two (fun _ _ _ _ _ _ us hl => L2.usN2 (fun _ _ => rfl) us hl) ?_ fun f cdv A outer s H vs Q E hr h => ?_
  · rintro vs H Q E ⟨a, ns, cap, rfl, _⟩; rfl
  obtain ⟨a, ns, cap, rfl, hS, hlen, hc1, hc2, q⟩ := h
  have hu := hr.units0
  have hu64 := hr.units
  refine ⟨_, (jb_cons (js_set (i := 2) sc_law_two.nd rfl (Or.inl kz35) (j_ix (K := K) rfl (j_lst (ja_cons j_int (ja_cons j_int (ja_cons j_int (ja_cons j_int (ja_cons j_int (ja_cons j_int ja_nil))))))) (j_op op_mod (j_call h_law_at (hr.mono (by decide)) (glF kz37) (ja_cons (j_vL 0 kz31) (ja_cons j_int ja_nil)) (by decide +kernel)) j_int)) rfl) (jb_cons (js_set (i := 3) sc_law_two.nd rfl (Or.inl kz34) (j_op op_mod (j_op op_fdivW (j_call h_law_at (hr.mono (by decide)) (glF kz37) (ja_cons (j_vL 0 kz31) (ja_cons j_int ja_nil)) (by decide +kernel)) j_int) j_int) rfl) (jb_cons (js_set (i := 4) sc_law_two.nd rfl (Or.inl kz30) (j_lst (ja_cons j_str (ja_cons j_str ja_nil))) rfl) (jb_cons (js_for PassesOwn.never rfl (ji_seq (K := K) rfl (j_slice (sl_seqK (K := K) rfl) (j_vL 0 kz31) (jo_some j_int) (jo_some j_int))) (jg_name (i := 5) sc_law_two.nd rfl (Or.inl kz32) rfl) (jb_one (js_asgS (ts := rSetL) (j_call h_law_put (hr.mono (by decide)) (glF kz33) (ja_cons (j_ix (K := K) rfl (j_vL 4 kz30) (j_op op_mod (j_vL 5 kz32) j_int)) (ja_cons (j_op op_fdivW (j_vL 5 kz32) j_int) (ja_cons (j_vL 1 kz36) (ja_cons (j_vL 2 kz35) (ja_cons (j_vL 3 kz34) ja_nil))))) (by decide +kernel)) (jg_sub (j_vL 4 kz30) (j_op op_mod (j_vL 5 kz32) j_int) set_list)))) (jb_one (js_ret (j_vL 4 kz30))))))), ?_⟩
  walk_at "sts"
  have hz : 20000 ≤ sizeLine := by decide
  refine r_new rfl fun p1 n1 => ?_
  walk_at "sts"
  have S1 := (Same.refl H).upd n1 (o := .lst [.int 2, .int 3, .int 1, .int 4, .int 6, .int 27])
  have f1 := upd_same (H := H) (a := p1) (o := .lst [.int 2, .int 3, .int 1, .int 4, .int 6, .int 27])
  generalize upd H p1 (.lst [.int 2, .int 3, .int 1, .int 4, .int 6, .int 27]) = H1 at S1 f1 ⊢
  refine ⟨a, ns, 0, rfl, S1.seq hS, by omega, fun c0 => ?_⟩
  walk_at "sts"
  obtain ⟨wd, hwd, ewd⟩ := pickV (vs := [V.int 2, .int 3, .int 1, .int 4, .int 6, .int 27]) (d := c0 % 6) (by omega) (by show c0 % 6 < 6; omega)
  obtain ⟨wide, rfl, hw1, hw2⟩ : ∃ wide : Int, wd = .int wide ∧ 1 ≤ wide ∧ wide ≤ 27 := by
    simp only [List.mem_cons, List.mem_nil_iff, or_false] at hwd
    rcases hwd with rfl | rfl | rfl | rfl | rfl | rfl <;> exact ⟨_, rfl, by decide, by decide⟩
  refine r_ixL (SqL.of f1) ewd ?_
  walk_at "sts"
  refine ⟨a, ns, 0, rfl, S1.seq hS, by omega, fun c1 => ?_⟩
  walk_at "sts"
  refine r_new rfl fun rw nrw => ?_
  walk_at "sts"
  have S2 := S1.upd nrw (o := .lst [.str (Str.ofString ""), .str (Str.ofString "")])
  have f2 := upd_same (H := H1) (a := rw) (o := .lst [.str (Str.ofString ""), .str (Str.ofString "")])
  have nrw0 := Same.back S1 nrw
  generalize upd H1 rw (.lst [.str (Str.ofString ""), .str (Str.ofString "")]) = H2 at S2 f2 ⊢
  walk_at "sts"
  refine r_slL (S2.seq hS) fun sl nsl => ?_
  walk_at "sts"
  have S3 := S2.upd nsl (o := .lst (cutV (ns.map V.int) (some 1) (some 63)))
  have f3 := upd_old nsl f2 (o := .lst (cutV (ns.map V.int) (some 1) (some 63)))
  have f4 := upd_same (H := H2) (a := sl) (o := .lst (cutV (ns.map V.int) (some 1) (some 63)))
  have nsl0 : H2 sl = none := nsl
  have srw : sl ≠ rw := fun z => by rw [z, f2] at nsl; cases nsl
  generalize upd H2 sl (.lst (cutV (ns.map V.int) (some 1) (some 63))) = H3 at S3 f3 f4 ⊢
  have gE : GoodT (Str.ofString "") := fun c hc => by
    have e : (Str.ofString "").cps.toList = [] := by decide +kernel
    rw [e] at hc; cases hc
  have lE : (Str.ofString "").length = 0 := by decide +kernel
  have sG := S3
  refine .inl ⟨sl, rfl, ⟨_, SqL.of f4⟩, ?_⟩
  refine for_list (xs := cutV (ns.map V.int) (some 1) (some 63)) (fun i σ H' => ∃ (z y : Str) (x5 : Option V), σ = [some (.ref a), some (.int cap), some (.int wide), some (.int (c1 / 6 % 27)), some (.ref rw), x5] ∧ Same H H' ∧ H' sl = some (.lst (cutV (ns.map V.int) (some 1) (some 63))) ∧ H' rw = some (.lst [.str z, .str y]) ∧ GoodT z ∧ GoodT y ∧ z.length ≤ cap ∧ y.length ≤ cap)
    ⟨_, _, _, rfl, S3, f4, f3, gE, gE, by omega, by omega⟩ (fun i σ H' _ h => ?_) ?_ ?_
  · obtain ⟨_, _, _, _, _, h, _⟩ := h
    exact SqL.of h
  · rintro k v σ H' hk ⟨z, y, x5, rfl, s, h4, h3, gz, gy, lz, ly⟩
    obtain ⟨n, rfl⟩ : ∃ n : Int, v = .int n := by
      have hm := cut_mem (List.mem_of_getElem? hk)
      obtain ⟨n, _, e⟩ := List.mem_map.mp hm
      exact ⟨n, e.symm⟩
    have h2 : n % 2 = 0 ∨ n % 2 = 1 := by omega
    rcases h2 with e | e
    · walk_at "sts"
      rw [e]
      refine r_ixL (SqL.of h3) rfl ?_
      walk_at "sts"
      refine ⟨z, _, cap, wide, _, rfl, gz, lz, hc1, hc2, hw1, hw2, fun z' gz' lz' => ?_⟩
      walk_at "sts"
      rw [e]
      refine r_setL h3 (n := 0) rfl ?_
      walk_at "sts"
      exact ⟨z', y, _, rfl, Same.put s nrw0, by rw [upd_ne srw]; exact h4, upd_same, gz', gy, lz', ly⟩
    · walk_at "sts"
      rw [e]
      refine r_ixL (SqL.of h3) rfl ?_
      walk_at "sts"
      refine ⟨y, _, cap, wide, _, rfl, gy, ly, hc1, hc2, hw1, hw2, fun z' gz' lz' => ?_⟩
      walk_at "sts"
      rw [e]
      refine r_setL h3 (n := 1) rfl ?_
      walk_at "sts"
      exact ⟨z, z', _, rfl, Same.put s nrw0, by rw [upd_ne srw]; exact h4, upd_same, gz, gz', lz, lz'⟩
  · rintro σ H' ⟨z, y, x5, rfl, s, h4, h3, gz, gy, lz, ly⟩
    walk_at "sts"
    exact q rw z y H' s h3 ⟨by omega, gz⟩ ⟨by omega, gy⟩
end

local macro_rules | `(tactic| walk_at "sts") => `(tactic| (with_reducible repeat (first | refine r_op ?_ | refine iteT ?_ | refine iteF ?_ | refine iteNT ?_ | refine iteNF ?_ | (refine' r_var ?hz0 ?_; (case hz0 => with_unfolding_all rfl)) | refine r_C ?_ | refine r_i0 ?_ | refine r_addI ?_ | refine r_cons ?_ | refine r_nil ?_ | refine r_seq ?_ | refine r_asg ?_ | refine r_name ?_ | refine r_ret ?_ | refine r_next ?_ | refine r_if ?_ | refine r_test ?_ | refine r_bl ?_ | refine r_cb ?_ | refine r_call ?_ | refine r_tb ?_ | refine r_not ?_ | refine r_and ?_ | refine r_or ?_ | refine r_andV ?_ | refine r_sub ?_ | refine r_drop ?_ | refine r_un ?_ | refine r_lstG ?_ | refine r_bm ?_ | refine r_sl ?_ | refine r_nop ?_ | refine r_part ?_ | refine r_true ?_ | refine r_rng1 ?_ | refine r_iseq ?_ | refine r_comp ?_ | refine r_for ?_ | refine r_u ?_ | refine r_gcons ?_ | refine r_gnil ?_ | (refine' r_gtup (SqT.of ?hz0) ?hz1 ?_; (case hz0 => first | assumption | exact upd_same); (case hz1 => rfl)) | refine r_callX ?_ | refine r_raise ?_ | refine r_rng3 ?_ | refine r_ii ?_ | refine r_eqBI ?_ | refine r_eqBS ?_ | refine r_neBI ?_ | refine r_enumA ?_ | refine r_inS ?_ | refine r_intE ?_ | (refine' r_i ?hz0 ?_; (case hz0 => with_unfolding_all first | assumption | omega | (dsimp only <;> omega) | exact ⟨by omega, by omega⟩ | exact .inl ⟨by omega, by omega⟩ | exact .inr ⟨by omega, by omega⟩ | exact ⟨by decide, by decide, by decide⟩)) | (refine' r_mulI ?hz0 ?_; (case hz0 => with_unfolding_all first | assumption | omega | (dsimp only <;> omega) | exact ⟨by omega, by omega⟩ | exact .inl ⟨by omega, by omega⟩ | exact .inr ⟨by omega, by omega⟩ | exact ⟨by decide, by decide, by decide⟩)) | (refine' r_ixL (SqL.of ?hz0) ?hz1 ?_; (case hz0 => first | assumption | exact upd_same); (case hz1 => with_unfolding_all rfl)) | (refine' r_ixT (SqT.of ?hz0) ?hz1 ?_; (case hz0 => first | assumption | exact upd_same); (case hz1 => with_unfolding_all rfl)) | (refine' r_setL ?hz0 ?hz1 ?_; (case hz0 => first | assumption | exact upd_same); (case hz1 => with_unfolding_all rfl)) | refine r_methX ?_ | refine r_makeX ?_ | refine r_fld ?_ | refine r_sfld ?_ | refine r_zipTL ?_ | refine r_enumRev ?_)))
local macro_rules | `(tactic| walk_at "stn") => `(tactic| (with_reducible repeat (first | refine r_op ?_ | refine iteT ?_ | refine iteF ?_ | refine iteNT ?_ | refine iteNF ?_ | (refine' r_var ?hz0 ?_; (case hz0 => with_unfolding_all rfl)) | refine r_C ?_ | refine r_i0 ?_ | refine r_addI ?_ | refine r_cons ?_ | refine r_nil ?_ | refine r_asg ?_ | refine r_name ?_ | refine r_ret ?_ | refine r_next ?_ | refine r_if ?_ | refine r_test ?_ | refine r_bl ?_ | refine r_cb ?_ | refine r_call ?_ | refine r_tb ?_ | refine r_not ?_ | refine r_and ?_ | refine r_or ?_ | refine r_andV ?_ | refine r_sub ?_ | refine r_drop ?_ | refine r_un ?_ | refine r_lstG ?_ | refine r_bm ?_ | refine r_sl ?_ | refine r_nop ?_ | refine r_part ?_ | refine r_true ?_ | refine r_rng1 ?_ | refine r_iseq ?_ | refine r_comp ?_ | refine r_for ?_ | refine r_u ?_ | refine r_gcons ?_ | refine r_gnil ?_ | (refine' r_gtup (SqT.of ?hz0) ?hz1 ?_; (case hz0 => first | assumption | exact upd_same); (case hz1 => rfl)) | refine r_callX ?_ | refine r_raise ?_ | refine r_rng3 ?_ | refine r_ii ?_ | refine r_eqBI ?_ | refine r_eqBS ?_ | refine r_neBI ?_ | refine r_enumA ?_ | refine r_inS ?_ | refine r_intE ?_ | (refine' r_i ?hz0 ?_; (case hz0 => with_unfolding_all first | assumption | omega | (dsimp only <;> omega) | exact ⟨by omega, by omega⟩ | exact .inl ⟨by omega, by omega⟩ | exact .inr ⟨by omega, by omega⟩ | exact ⟨by decide, by decide, by decide⟩)) | (refine' r_mulI ?hz0 ?_; (case hz0 => with_unfolding_all first | assumption | omega | (dsimp only <;> omega) | exact ⟨by omega, by omega⟩ | exact .inl ⟨by omega, by omega⟩ | exact .inr ⟨by omega, by omega⟩ | exact ⟨by decide, by decide, by decide⟩)) | (refine' r_ixL (SqL.of ?hz0) ?hz1 ?_; (case hz0 => first | assumption | exact upd_same); (case hz1 => with_unfolding_all rfl)) | (refine' r_ixT (SqT.of ?hz0) ?hz1 ?_; (case hz0 => first | assumption | exact upd_same); (case hz1 => with_unfolding_all rfl)) | (refine' r_setL ?hz0 ?hz1 ?_; (case hz0 => first | assumption | exact upd_same); (case hz1 => with_unfolding_all rfl)) | refine r_methX ?_ | refine r_makeX ?_ | refine r_fld ?_ | refine r_sfld ?_ | refine r_zipTL ?_ | refine r_enumRev ?_)))
section
variable {P : Program} {w : World} {K : PySem.W.Frag} {mg : Str → Option Value} {base : Heap}

noncomputable def Rule (m far : Nat) (e : Nat → Nat → Bool) (C : Nat → Nat → Bool) : Prop := ∀ i j, i < m → j < far → C i j = (e i j || decide (gD m C j i < gA m C i j))
theorem from_le {m : Nat} {C : Nat → Nat → Bool} : ∀ n i j, i + j ≤ n → (i ≤ m → gD m C j i ≤ m + j) ∧ (i < m → gA m C i j < m + j)
  | n, 0, 0, _ => by rw [gD_zero, gA_zero]; omega
  | 0, 0, j + 1, h => absurd h (by omega)
  | 0, i + 1, j, h => absurd h (by omega)
  | n + 1, 0, j + 1, h => by
    have h1 := from_le (m := m) (C := C) n 0 j (by omega)
    refine ⟨fun _ => by rw [gD_zero]; omega, fun hi => ?_⟩
    rw [gA_succ]
    have a := h1.1 (by omega)
    have b := h1.2 hi
    split <;> omega
  | n + 1, i + 1, 0, h => by
    have h1 := from_le (m := m) (C := C) n i 0 (by omega)
    refine ⟨fun hi => ?_, fun hi => by rw [gA_zero]; omega⟩
    rw [gD_succ]
    have a := h1.1 (by omega)
    have b := h1.2 (by omega)
    split <;> omega
  | n + 1, i + 1, j + 1, h => by
    have h1 := from_le (m := m) (C := C) n (i + 1) j (by omega)
    have h2 := from_le (m := m) (C := C) n i (j + 1) (by omega)
    refine ⟨fun hi => ?_, fun hi => ?_⟩
    · rw [gD_succ]
      have a := h2.1 (by omega)
      have b := h2.2 (by omega)
      split <;> omega
    · rw [gA_succ]
      have a := h1.1 (by omega)
      have b := h1.2 hi
      split <;> omega
noncomputable def cn (m : Nat) (C : Nat → Nat → Bool) (i B : Nat) : Nat → Nat
  | 0 => 0
  | e + 1 => cn m C i B e + (if B ≤ gD m C e i then 1 else 0)
theorem cn_keep {m : Nat} {C : Nat → Nat → Bool} {i B : Nat} (hB : m ≤ B) (hi : i < m) : ∀ e, cn m C (i + 1) B e + (if B ≤ gA m C i e then 1 else 0) = cn m C i B e
  | 0 => by
    show 0 + _ = 0
    rw [gA_zero, if_neg (by omega)]
  | e + 1 => by
    have ih := cn_keep (C := C) hB hi e
    show cn m C (i + 1) B e + (if B ≤ gD m C e (i + 1) then 1 else 0) + (if B ≤ gA m C i (e + 1) then 1 else 0) = cn m C i B e + (if B ≤ gD m C e i then 1 else 0)
    rw [gD_succ, gA_succ]
    by_cases hC : C i e = true
    · rw [if_pos hC, if_pos hC]; omega
    · rw [if_neg hC, if_neg hC]; omega
theorem cn_zero {m : Nat} {C : Nat → Nat → Bool} {i b : Nat} (hi : i ≤ m) : ∀ e, e ≤ b → cn m C i (m + b) e = 0
  | 0, _ => rfl
  | e + 1, h => by
    show cn m C i (m + b) e + _ = 0
    have := (from_le (m := m) (C := C) (i + e) i e (Nat.le_refl _)).1 hi
    rw [cn_zero hi e (by omega), if_neg (by omega)]
theorem cn_first {m : Nat} {C : Nat → Nat → Bool} {B : Nat} (b : Nat) (hB : B = m + b) : ∀ k, cn m C 0 B (b + k) = k
  | 0 => by rw [hB]; exact cn_zero (by omega) b (Nat.le_refl _)
  | k + 1 => by
    show cn m C 0 B (b + k) + (if B ≤ gD m C (b + k) 0 then 1 else 0) = k + 1
    rw [cn_first b hB k, gD_zero, if_pos (by omega)]
noncomputable def mxI (i j : Int) : Int := if j > i then j else i
noncomputable def tb (e : Nat → Nat → Bool) (b : Nat) : Nat → Nat → Int
  | 0, _ => 0
  | _ + 1, 0 => 0
  | i + 1, k + 1 => if e i (b + k) = true then tb e b i k + 1 else mxI (tb e b (i + 1) k) (tb e b i (k + 1))
termination_by i k => i + k
theorem tb_0 (e : Nat → Nat → Bool) (b k : Nat) : tb e b 0 k = 0 := by rw [tb]
theorem tb_z (e : Nat → Nat → Bool) (b i : Nat) : tb e b i 0 = 0 := by cases i <;> rw [tb]
theorem tb_s (e : Nat → Nat → Bool) (b i k : Nat) : tb e b (i + 1) (k + 1) = if e i (b + k) = true then tb e b i k + 1 else mxI (tb e b (i + 1) k) (tb e b i (k + 1)) := by rw [tb]
theorem tb_lines {m far : Nat} {e C : Nat → Nat → Bool} (h : Rule m far e C) (b : Nat) : ∀ i, i ≤ m → ∀ k, b + k ≤ far → tb e b i k + (cn m C i (m + b) (b + k) : Nat) = k
  | 0, _, k, _ => by rw [tb_0, cn_first b rfl]; omega
  | i + 1, hi, 0, _ => by
    rw [tb_z, cn_zero hi _ (by omega)]; rfl
  | i + 1, hi, k + 1, hk => by
    have h1 := tb_lines h b i (by omega) k (by omega)
    have h2 := tb_lines h b i (by omega) (k + 1) hk
    have h3 := tb_lines h b (i + 1) hi k (by omega)
    have r := h i (b + k) (by omega) (by omega)
    have kp := cn_keep (m := m) (C := C) (i := i) (B := m + b) (by omega) (by omega) (b + k)
    rw [tb_s]
    have e2 : cn m C i (m + b) (b + (k + 1)) = cn m C i (m + b) (b + k) + (if m + b ≤ gD m C (b + k) i then 1 else 0) := rfl
    have e3 : cn m C (i + 1) (m + b) (b + (k + 1)) = cn m C (i + 1) (m + b) (b + k) + (if m + b ≤ gD m C (b + k) (i + 1) then 1 else 0) := rfl
    rw [e2] at h2
    rw [e3, gD_succ]
    by_cases he : e i (b + k) = true
    · rw [he, Bool.true_or] at r
      rw [if_pos he, if_pos r]
      omega
    · have he' : e i (b + k) = false := by simpa using he
      rw [he', Bool.false_or] at r
      rw [if_neg he]
      by_cases hg : gD m C (b + k) i < gA m C i (b + k)
      · have hC : C i (b + k) = true := by rw [r]; exact decide_eq_true hg
        rw [if_pos hC]
        unfold mxI
        by_cases c1 : m + b ≤ gA m C i (b + k)
        · rw [if_pos c1] at kp ⊢
          by_cases c2 : m + b ≤ gD m C (b + k) i
          · rw [if_pos c2] at h2
            split <;> omega
          · rw [if_neg c2] at h2
            split <;> omega
        · rw [if_neg c1] at kp ⊢
          rw [if_neg (by omega)] at h2
          split <;> omega
      · have hC : ¬ C i (b + k) = true := by rw [r, decide_eq_false hg]; decide
        rw [if_neg hC]
        unfold mxI
        by_cases c2 : m + b ≤ gD m C (b + k) i
        · rw [if_pos c2] at h2 ⊢
          by_cases c1 : m + b ≤ gA m C i (b + k)
          · rw [if_pos c1] at kp
            split <;> omega
          · rw [if_neg c1] at kp
            split <;> omega
        · rw [if_neg c2] at h2 ⊢
          rw [if_neg (by omega)] at kp
          split <;> omega
end

local macro_rules | `(tactic| walk_at "sts") => `(tactic| (with_reducible repeat (first | refine r_op ?_ | refine iteT ?_ | refine iteF ?_ | refine iteNT ?_ | refine iteNF ?_ | (refine' r_var ?hz0 ?_; (case hz0 => with_unfolding_all rfl)) | refine r_C ?_ | refine r_i0 ?_ | refine r_addI ?_ | refine r_cons ?_ | refine r_nil ?_ | refine r_seq ?_ | refine r_asg ?_ | refine r_name ?_ | refine r_ret ?_ | refine r_next ?_ | refine r_if ?_ | refine r_test ?_ | refine r_bl ?_ | refine r_cb ?_ | refine r_call ?_ | refine r_tb ?_ | refine r_not ?_ | refine r_and ?_ | refine r_or ?_ | refine r_andV ?_ | refine r_sub ?_ | refine r_drop ?_ | refine r_un ?_ | refine r_lstG ?_ | refine r_bm ?_ | refine r_sl ?_ | refine r_nop ?_ | refine r_part ?_ | refine r_true ?_ | refine r_rng1 ?_ | refine r_iseq ?_ | refine r_comp ?_ | refine r_for ?_ | refine r_u ?_ | refine r_gcons ?_ | refine r_gnil ?_ | (refine' r_gtup (SqT.of ?hz0) ?hz1 ?_; (case hz0 => first | assumption | exact upd_same); (case hz1 => rfl)) | refine r_callX ?_ | refine r_raise ?_ | refine r_rng3 ?_ | refine r_ii ?_ | refine r_eqBI ?_ | refine r_eqBS ?_ | refine r_neBI ?_ | refine r_enumA ?_ | refine r_inS ?_ | refine r_intE ?_ | (refine' r_i ?hz0 ?_; (case hz0 => with_unfolding_all first | assumption | omega | (dsimp only <;> omega) | exact ⟨by omega, by omega⟩ | exact .inl ⟨by omega, by omega⟩ | exact .inr ⟨by omega, by omega⟩ | exact ⟨by decide, by decide, by decide⟩)) | (refine' r_mulI ?hz0 ?_; (case hz0 => with_unfolding_all first | assumption | omega | (dsimp only <;> omega) | exact ⟨by omega, by omega⟩ | exact .inl ⟨by omega, by omega⟩ | exact .inr ⟨by omega, by omega⟩ | exact ⟨by decide, by decide, by decide⟩)) | (refine' r_ixL (SqL.of ?hz0) ?hz1 ?_; (case hz0 => first | assumption | exact upd_same); (case hz1 => with_unfolding_all rfl)) | (refine' r_ixT (SqT.of ?hz0) ?hz1 ?_; (case hz0 => first | assumption | exact upd_same); (case hz1 => with_unfolding_all rfl)) | (refine' r_setL ?hz0 ?hz1 ?_; (case hz0 => first | assumption | exact upd_same); (case hz1 => with_unfolding_all rfl)) | refine r_methX ?_ | refine r_makeX ?_ | refine r_fld ?_ | refine r_sfld ?_ | refine r_lrng ?_ | refine r_zipTL ?_ | refine r_enumRev ?_)))
local macro_rules | `(tactic| walk_at "stn") => `(tactic| (with_reducible repeat (first | refine r_op ?_ | refine iteT ?_ | refine iteF ?_ | refine iteNT ?_ | refine iteNF ?_ | (refine' r_var ?hz0 ?_; (case hz0 => with_unfolding_all rfl)) | refine r_C ?_ | refine r_i0 ?_ | refine r_addI ?_ | refine r_cons ?_ | refine r_nil ?_ | refine r_asg ?_ | refine r_name ?_ | refine r_ret ?_ | refine r_next ?_ | refine r_if ?_ | refine r_test ?_ | refine r_bl ?_ | refine r_cb ?_ | refine r_call ?_ | refine r_tb ?_ | refine r_not ?_ | refine r_and ?_ | refine r_or ?_ | refine r_andV ?_ | refine r_sub ?_ | refine r_drop ?_ | refine r_un ?_ | refine r_lstG ?_ | refine r_bm ?_ | refine r_sl ?_ | refine r_nop ?_ | refine r_part ?_ | refine r_true ?_ | refine r_rng1 ?_ | refine r_iseq ?_ | refine r_comp ?_ | refine r_for ?_ | refine r_u ?_ | refine r_gcons ?_ | refine r_gnil ?_ | (refine' r_gtup (SqT.of ?hz0) ?hz1 ?_; (case hz0 => first | assumption | exact upd_same); (case hz1 => rfl)) | refine r_callX ?_ | refine r_raise ?_ | refine r_rng3 ?_ | refine r_ii ?_ | refine r_eqBI ?_ | refine r_eqBS ?_ | refine r_neBI ?_ | refine r_enumA ?_ | refine r_inS ?_ | refine r_intE ?_ | (refine' r_i ?hz0 ?_; (case hz0 => with_unfolding_all first | assumption | omega | (dsimp only <;> omega) | exact ⟨by omega, by omega⟩ | exact .inl ⟨by omega, by omega⟩ | exact .inr ⟨by omega, by omega⟩ | exact ⟨by decide, by decide, by decide⟩)) | (refine' r_mulI ?hz0 ?_; (case hz0 => with_unfolding_all first | assumption | omega | (dsimp only <;> omega) | exact ⟨by omega, by omega⟩ | exact .inl ⟨by omega, by omega⟩ | exact .inr ⟨by omega, by omega⟩ | exact ⟨by decide, by decide, by decide⟩)) | (refine' r_ixL (SqL.of ?hz0) ?hz1 ?_; (case hz0 => first | assumption | exact upd_same); (case hz1 => with_unfolding_all rfl)) | (refine' r_ixT (SqT.of ?hz0) ?hz1 ?_; (case hz0 => first | assumption | exact upd_same); (case hz1 => with_unfolding_all rfl)) | (refine' r_setL ?hz0 ?hz1 ?_; (case hz0 => first | assumption | exact upd_same); (case hz1 => with_unfolding_all rfl)) | refine r_methX ?_ | refine r_makeX ?_ | refine r_fld ?_ | refine r_sfld ?_ | refine r_lrng ?_ | refine r_zipTL ?_ | refine r_enumRev ?_)))
section
variable {P : Program} {w : World} {K : PySem.W.Frag} {mg : Str → Option Value} {base : Heap}
theorem nd_law_lengths_0 : (["_law_k"] : List Str).Nodup := by decide +kernel
theorem kz38 : (defScope s_law_lengths).names.lookup ("_law_last" : Str) = some NameKind.local := by decide +kernel
theorem kz39 : (defScope s_law_lengths).names.lookup ("_law_side" : Str) = some NameKind.local := by decide +kernel
theorem kz3a : (defScope s_law_lengths).names.lookup ("_law_sign" : Str) = some NameKind.local := by decide +kernel
theorem kz3b : (defScope s_law_lengths).names.lookup ("_law_row" : Str) = some NameKind.local := by decide +kernel
theorem kz3c : (defScope s_law_lengths).names.lookup ("range" : Str) = some NameKind.globalImplicit := by decide +kernel
theorem kz3d : (defScope s_law_lengths).names.lookup ("len" : Str) = some NameKind.globalImplicit := by decide +kernel
theorem kz3e : (defScope s_law_lengths).names.lookup ("_law_part" : Str) = some NameKind.local := by decide +kernel
theorem kz3f : (defScope s_law_lengths).names.lookup ("_law_k" : Str) = some NameKind.local := by decide +kernel
theorem kz3g : (defScope s_law_lengths).names.lookup ("_law_most" : Str) = some NameKind.local := by decide +kernel
theorem kz3h : (defScope s_law_lengths).names.lookup ("max" : Str) = some NameKind.globalImplicit := by decide +kernel
theorem kz3i : (defScope s_law_told).names.lookup ("sorted" : Str) = some NameKind.globalImplicit := by decide +kernel
theorem kz3j : (defScope s_law_told).names.lookup ("_law_lines" : Str) = some NameKind.local := by decide +kernel
theorem kz3k : (defScope s_law_told).names.lookup ("list" : Str) = some NameKind.globalImplicit := by decide +kernel
theorem kz3l : (defScope s_law_told).names.lookup ("range" : Str) = some NameKind.globalImplicit := by decide +kernel
theorem kz3m : (defScope s_law_told).names.lookup ("_law_many" : Str) = some NameKind.local := by decide +kernel
theorem kz3n : (defScope s_law_told).names.lookup ("_law_line" : Str) = some NameKind.local := by decide +kernel
theorem kz3o : (defScope s_law_told).names.lookup ("isinstance" : Str) = some NameKind.globalImplicit := by decide +kernel
theorem kz3p : (defScope s_law_told).names.lookup ("bool" : Str) = some NameKind.globalImplicit := by decide +kernel
theorem kz3q : (defScope s_law_told).names.lookup ("int" : Str) = some NameKind.globalImplicit := by decide +kernel
theorem kz3r : (defScope s_law_told).names.lookup ("len" : Str) = some NameKind.globalImplicit := by decide +kernel
noncomputable def eqL (S P : List Nat) (i k : Nat) : Bool := decide (S.getD i 0 = P.getD k 0)
noncomputable def rowL (S P : List Nat) (i n : Nat) : List Int := (List.range n).map (tb (eqL S P) 0 i)
theorem rowL_len (S P : List Nat) (i n : Nat) : (rowL S P i n).length = n := by simp [rowL]
theorem rowL_at {S P : List Nat} {i n k : Nat} (h : k < n) : (rowL S P i n)[k]? = some (tb (eqL S P) 0 i k) := by
  unfold rowL
  rw [List.getElem?_map, List.getElem?_range h]; rfl
theorem rowL_ix {S P : List Nat} {i n k : Nat} {j : Int} (hj : j = (k : Int)) (h : k < n) : atI ((rowL S P i n).map V.int) j = some (.int (tb (eqL S P) 0 i k)) := by
  subst hj
  exact atI_nat (by rw [List.getElem?_map, rowL_at h]; rfl)
theorem rowL_succ (S P : List Nat) (i n : Nat) : rowL S P i (n + 1) = rowL S P i n ++ [tb (eqL S P) 0 i n] := by
  unfold rowL
  rw [List.range_succ, List.map_append]; rfl
theorem cps_getL {z : Str} {i : Nat} (h : i < z.length) : z.cps.toList[i]? = some (z.cps.toList.getD i 0) := by
  have h' : i < z.cps.toList.length := by simpa [Str.length] using h
  rw [List.getD_eq_getElem?_getD, List.getElem?_eq_getElem h']; rfl
noncomputable def spLens : Sp := fun vs H Q _ => ∃ (z y : Str), vs = [.str z, .str y] ∧ z.length ≤ 48 ∧ y.length ≤ 48 ∧ ∀ q H', H q = none → Same H H' → H' q = some (.lst ((rowL z.cps.toList y.cps.toList z.length (y.length + 1)).map V.int)) → Q (.ref q) H'
theorem sc_law_lengths : FnScope ["_law_side", "_law_part", "_law_last", "_law_sign", "_law_row", "_law_k", "_law_most"] ["_law_side", "_law_part"] (defScope s_law_lengths) := ⟨rfl, rfl, rfl, by decide +kernel, rfl, by decide +kernel, by decide +kernel⟩
theorem h_law_lengths (T : Txt K mg) : Has P w K mg base 1 "_law_lengths" ["_law_side", "_law_part"] spLens := by
  refine hasJ T.d_law_lengths sc_law_lengths (fun _ _ _ _ _ _ us hl => L2.usN2 (fun _ _ => rfl) us hl) ?_ fun f cdv A outer s H vs Q E hr h => ?_
  · rintro vs H Q E ⟨z, y, rfl, _⟩; rfl
  obtain ⟨z, y, rfl, hz48, hy48, q⟩ := h
  have hu := hr.units0
  have hu64 := hr.units
  refine ⟨_, (jb_cons (js_setC (i := 2) sc_law_lengths.nd rfl (Or.inl kz38) (sub := [none]) (subOk_of (N := ["_law_side", "_law_part", "_law_last", "_law_sign", "_law_row", "_law_k", "_law_most"]) (sc := defScope s_law_lengths) (N' := ["_law_k"]) (by decide +kernel)) rfl rfl rfl (ji_range1 (glF kz3c) T.b_range (ja_cons (j_op op_addA (j_callB (call_lenK (K := K) rfl) (glF kz3d) T.b_len bt_len (ja_cons (j_vL 1 kz3e) ja_nil) (by decide +kernel) (by decide +kernel)) j_int) ja_nil)) (fun C s₀ H₀ ex => (jg_B 0 (by decide +kernel) nd_law_lengths_0)) (fun C s₀ H₀ ex => jif_nil) (fun C s₀ H₀ ex => j_int) rfl) (jb_cons (js_for PassesOwn.never rfl (ji_seq (K := K) rfl (j_vL 0 kz39)) (jg_name (i := 3) sc_law_lengths.nd rfl (Or.inl kz3a) rfl) (jb_cons (js_set (i := 4) sc_law_lengths.nd rfl (Or.inl kz3b) (j_lst (ja_cons j_int ja_nil)) rfl) (jb_cons (js_for PassesOwn.never rfl (ji_range1 (glF kz3c) T.b_range (ja_cons (j_callB (call_lenK (K := K) rfl) (glF kz3d) T.b_len bt_len (ja_cons (j_vL 1 kz3e) ja_nil) (by decide +kernel) (by decide +kernel)) ja_nil)) (jg_name (i := 5) sc_law_lengths.nd rfl (Or.inl kz3f) rfl) (jb_cons (js_set (i := 6) sc_law_lengths.nd rfl (Or.inl kz3g) (j_callB (call_max2 rfl) (glF kz3h) T.b_max bt_max (ja_cons (j_ix (K := K) rfl (j_vL 4 kz3b) (j_vL 5 kz3f)) (ja_cons (j_ix (K := K) rfl (j_vL 2 kz38) (j_op op_addA (j_vL 5 kz3f) j_int)) ja_nil)) (by decide +kernel) (by decide +kernel)) rfl) (jb_cons (js_if (jt_cmp (op_eqX (K := K) rfl hu64) (j_vL 3 kz3a) (j_ix (K := K) rfl (j_vL 1 kz3e) (j_vL 5 kz3f)) (by first | exact nomark _ | with_unfolding_all rfl)) (jb_one (js_set (i := 6) sc_law_lengths.nd rfl (Or.inl kz3g) (j_op op_addA (j_ix (K := K) rfl (j_vL 2 kz38) (j_vL 5 kz3f)) j_int) rfl)) jb_nil) (jb_one (js_expr (j_meth (K := K) rfl PySem.F.plainAttrs_list PySem.F.slot_list_append PySem.F.type_list_append mt_append (j_vL 4 kz3b) (ja_cons (j_vL 6 kz3g) ja_nil))))))) (jb_one (js_set (i := 2) sc_law_lengths.nd rfl (Or.inl kz38) (j_vL 4 kz3b) rfl))))) (jb_one (js_ret (j_vL 2 kz38))))), ?_⟩
  walk_at "sts"
  have hsz : 20000 ≤ sizeLine := by decide
  have ly : y.length ≤ sizeLine := by omega
  refine r_lenS ly ?_
  walk_at "sts"
  refine ⟨_, rfl, by omega, by omega, ?_⟩
  rw [show ((y.length : Int) + 1).toNat = y.length + 1 by omega]
  refine comp_rngM (n := y.length + 1) (fun k => .int 0) (by omega) ?_ ?_
  · intro i hi
    walk_at "sts"
    refine ⟨KeepSt.set rfl, ?_⟩
    walk_at "sts"
    exact ⟨rfl, mapNext rfl⟩
  · intro la H1 nla S1 hla
    have hla0 : H1 la = some (.lst ((rowL z.cps.toList y.cps.toList 0 (y.length + 1)).map V.int)) := by
      rw [hla]
      unfold rowL
      rw [List.map_map]
      congr 2
      refine List.map_congr_left fun k _ => ?_
      show V.int 0 = V.int (tb _ 0 0 k)
      rw [tb_0]
    walk_at "sts"
    refine .inr (.inr ⟨z, rfl, ?_⟩)
    refine for_str (z := z) (fun i σ H' => Same H H' ∧ (∃ la, H la = none ∧ H' la = some (.lst ((rowL z.cps.toList y.cps.toList i (y.length + 1)).map V.int)) ∧ ∃ x3 x4 x5 x6, σ = [some (.str z), some (.str y), some (.ref la), x3, x4, x5, x6])) ⟨S1, la, nla, hla0, _, _, _, _, rfl⟩ ?_ ?_
    · rintro i σ G c hc ⟨sG, lb, nlb, hlb, x3, x4, x5, x6, rfl⟩
      have hi : i < z.length := by have := (List.getElem?_eq_some_iff.mp hc).1; simpa [Str.length] using this
      have ec : c = z.cps.toList.getD i 0 := by
        rw [cps_getL hi] at hc
        exact (Option.some.inj hc).symm
      walk_at "sts"
      refine r_newO rfl fun r G1 nr sr hr => ?_
      walk_at "sts"
      refine r_lenS ly ?_
      walk_at "sts"
      refine ⟨_, rfl, by omega, by omega, ?_⟩
      rw [show ((y.length : Int)).toNat = y.length by omega]
      refine for_range (n := y.length) (fun k σ H' => Same G H' ∧ H' r = some (.lst ((rowL z.cps.toList y.cps.toList (i + 1) (k + 1)).map V.int)) ∧ ∃ x5 x6, σ = [some (.str z), some (.str y), some (.ref lb), some (.str ⟨#[c]⟩), some (.ref r), x5, x6]) ⟨sr, by rw [hr]; unfold rowL; rw [show List.range (0 + 1) = [0] from rfl]; show _ = some (HO.lst [V.int (tb _ 0 (i + 1) 0)]); rw [tb_z], _, _, rfl⟩ ?_ ?_
      · rintro k σ G2 hk ⟨s2, h2, y5, y6, rfl⟩
        rw [Int.zero_add]
        have hlb2 := s2 _ _ hlb
        have hkc := cps_getL (z := y) hk
        have fin : ∀ v : Int, v = tb (eqL z.cps.toList y.cps.toList) 0 (i + 1) (k + 1) → (rowL z.cps.toList y.cps.toList (i + 1) (k + 1)).map V.int ++ [V.int v] = (rowL z.cps.toList y.cps.toList (i + 1) (k + 1 + 1)).map V.int := fun v hv => by
          rw [rowL_succ _ _ _ (k + 1), List.map_append, hv]; rfl
        walk_at "sts"
        refine r_ixL (SqL.of h2) (rowL_ix rfl (by omega)) ?_
        walk_at "sts"
        refine r_ixL (SqL.of hlb2) (rowL_ix (k := k + 1) (by omega) (by omega)) ?_
        walk_at "sts"
        refine r_ixS ly (atI_nat hkc) ?_
        walk_at "sts"
        refine iteD (fun h => ?_) (fun h => ?_)
        · have he : eqL z.cps.toList y.cps.toList i (0 + k) = true := by
            have := Str.mk.inj (V.str.inj h)
            unfold eqL
            rw [Nat.zero_add, ← ec]
            exact decide_eq_true (by simpa using this)
          walk_at "sts"
          refine r_ixL (SqL.of hlb2) (rowL_ix rfl (by omega)) ?_
          walk_at "sts"
          refine ⟨.inl ⟨rfl, _, SqL.of h2⟩, ?_⟩
          walk_at "sts"
          refine r_append h2 (by rw [List.length_map, rowL_len]; omega) ?_
          walk_at "sts"
          exact ⟨Same.put s2 nr, by rw [upd_same, fin _ (by rw [tb_s, if_pos he])], _, _, rfl⟩
        · have he : ¬ eqL z.cps.toList y.cps.toList i (0 + k) = true := fun hh => h (by
            unfold eqL at hh
            rw [Nat.zero_add, ← ec] at hh
            rw [of_decide_eq_true hh])
          walk_at "sts"
          refine ⟨.inl ⟨rfl, _, SqL.of h2⟩, ?_⟩
          walk_at "sts"
          refine r_append h2 (by rw [List.length_map, rowL_len]; omega) ?_
          walk_at "sts"
          exact ⟨Same.put s2 nr, by rw [upd_same, fin _ (by rw [tb_s, if_neg he]; rfl)], _, _, rfl⟩
      · rintro σ G2 ⟨s2, h2, y5, y6, rfl⟩
        walk_at "sts"
        exact ⟨sG.trans s2, r, Same.back sG nr, h2, _, _, _, _, rfl⟩
    · rintro σ G ⟨sG, lb, nlb, hlb, x3, x4, x5, x6, rfl⟩
      walk_at "sts"
      exact q lb G nlb sG hlb
theorem shaped_intL (ns : List Int) : PySem.SeqAt.shaped (.list (ns.map PyData.int)) = true := lay_shaped (n := 1) (lay_list (n := 0) fun d hd => by
  obtain ⟨z, _, rfl⟩ := List.mem_map.mp hd
  exact ⟨rfl, Nat.le_refl _⟩) (by omega)
theorem perm_range {R : List Int} {N : Nat} (h : R.Perm ((List.range N).map fun k => ((k : Nat) : Int))) {ms : List Int} (hp : ms.Perm R) (hs : ms.Pairwise (· ≤ ·)) : ms = (List.range N).map fun k => ((k : Nat) : Int) := by
  refine List.Perm.eq_of_pairwise (fun a b _ _ h1 h2 => Int.le_antisymm h1 h2) hs ?_ (hp.trans h)
  rw [List.pairwise_map]
  exact List.pairwise_lt_range.imp fun h => by omega
noncomputable def spTold : Sp := fun vs H Q _ => ∃ (a : Addr) (R : List Int) (N : Nat), vs = [.ref a, .int N] ∧ H a = some (.lst (R.map V.int)) ∧ R.Perm ((List.range N).map fun k => ((k : Nat) : Int)) ∧ N ≤ 96 ∧ ∀ H', Same H H' → Q (.bl true) H'
theorem sc_law_told : FnScope ["_law_lines", "_law_many", "_law_line"] ["_law_lines", "_law_many"] (defScope s_law_told) := ⟨rfl, rfl, rfl, by decide +kernel, rfl, by decide +kernel, by decide +kernel⟩
theorem h_law_told (T : Txt K mg) : Has P w K mg base 1 "_law_told" ["_law_lines", "_law_many"] spTold := by
  refine hasJ T.d_law_told sc_law_told (fun _ _ _ _ _ _ us hl => L2.usN2 (fun _ _ => rfl) us hl) ?_ fun f cdv A outer s H vs Q E hr h => ?_
  · rintro vs H Q E ⟨a, R, N, rfl, _⟩; rfl
  obtain ⟨a, R, N, rfl, ha, hR, hN, q⟩ := h
  have hu := hr.units0
  have hu64 := hr.units
  refine ⟨_, (jb_cons (js_if (jw_pt (jw_or (jt_not (jt_val (j_callB (call_isiK (K := K) rfl) (glF kz3o) T.b_isinstance bt_isinstance (ja_cons (j_vL 0 kz3j) (ja_cons (j_ty (glF kz3k) T.b_list bt_list (by decide +kernel) (by decide +kernel)) ja_nil)) (by decide +kernel) (by decide +kernel)))) (jw_or1 (jt_cmp (op_neX (K := K) rfl hu64) (j_callB (call_lenK (K := K) rfl) (glF kz3r) T.b_len bt_len (ja_cons (j_vL 0 kz3j) ja_nil) (by decide +kernel) (by decide +kernel)) (j_vL 1 kz3m) (by first | exact nomark _ | with_unfolding_all rfl))))) (jb_one (js_ret j_bl)) jb_nil) (jb_cons (js_for PassesOwn.never rfl (ji_seq (K := K) rfl (j_vL 0 kz3j)) (jg_name (i := 2) sc_law_told.nd rfl (Or.inl kz3n) rfl) (jb_one (js_if (jw_pt (jw_or (jt_not (jt_val (j_callB (call_isiK (K := K) rfl) (glF kz3o) T.b_isinstance bt_isinstance (ja_cons (j_vL 2 kz3n) (ja_cons (j_ty (glF kz3q) T.b_int bt_int (by decide +kernel) (by decide +kernel)) ja_nil)) (by decide +kernel) (by decide +kernel)))) (jw_or1 (jt_val (j_callB (call_isiK (K := K) rfl) (glF kz3o) T.b_isinstance bt_isinstance (ja_cons (j_vL 2 kz3n) (ja_cons (j_ty (glF kz3p) T.b_bool bt_bool (by decide +kernel) (by decide +kernel)) ja_nil)) (by decide +kernel) (by decide +kernel)))))) (jb_one (js_ret j_bl)) jb_nil))) (jb_one (js_ret (j_cmp (op_eqX (K := K) rfl hu64) (j_callB call_sortedB (glF kz3i) T.b_sorted bt_sorted (ja_cons (j_vL 0 kz3j) ja_nil) (by decide +kernel) (by decide +kernel)) (j_listRng1 rfl (glF kz3k) T.b_list (glF kz3l) T.b_range (ja_cons (j_vL 1 kz3m) ja_nil)) (by first | exact nomark _ | with_unfolding_all rfl)))))), ?_⟩
  walk_at "sts"
  have hsz : 20000 ≤ sizeLine := by decide
  have lR : R.length = N := by have := hR.length_eq; simpa using this
  refine r_isi (.lst ha) rfl ?_
  walk_at "sts"
  refine r_lenL (SqL.of ha) ?_
  walk_at "sts"
  rw [List.length_map, lR, decide_eq_true rfl]
  walk_at "sts"
  refine .inl ⟨a, rfl, ⟨_, SqL.of ha⟩, ?_⟩
  refine for_list (xs := R.map V.int) (fun i σ H' => H' = H ∧ ∃ x2, σ = [some (.ref a), some (.int N), x2]) ⟨rfl, _, rfl⟩ (fun i σ H' _ h => by rw [h.1]; exact SqL.of ha) ?_ ?_
  · rintro i x σ H' hx ⟨rfl, x2, rfl⟩
    obtain ⟨n, rfl⟩ : ∃ n : Int, x = .int n := by
      rw [List.getElem?_map] at hx
      cases hq : R[i]? with
      | none => rw [hq] at hx; cases hx
      | some n => rw [hq] at hx; exact ⟨n, (Option.some.inj hx).symm⟩
    walk_at "sts"
    refine r_isi (.int _) (b := true) (by rfl) ?_
    walk_at "sts"
    refine r_isi (.int _) (b := false) (by rfl) ?_
    walk_at "sts"
    exact ⟨rfl, _, rfl⟩
  · rintro σ H' ⟨rfl, x2, rfl⟩
    walk_at "sts"
    refine r_sortB ha (by omega) fun so ms G _ sG hso hp hs => ?_
    walk_at "sts"
    obtain rfl := perm_range hR hp hs
    refine ⟨N, rfl, by omega, fun pr npr => ?_⟩
    have eL : (List.range N).map (fun i : Nat => V.int (0 + (i : Int) * 1)) = ((List.range N).map fun k => ((k : Nat) : Int)).map V.int := by
      rw [List.map_map]
      refine List.map_congr_left fun i _ => ?_
      show V.int (0 + (i : Int) * 1) = V.int (i : Int)
      rw [Int.zero_add, Int.mul_one]
    rw [eL]
    have s3 := (Same.refl G).upd npr (o := .lst (((List.range N).map fun k => ((k : Nat) : Int)).map V.int))
    have f3 := upd_same (H := G) (a := pr) (o := .lst (((List.range N).map fun k => ((k : Nat) : Int)).map V.int))
    generalize upd G pr (.lst (((List.range N).map fun k => ((k : Nat) : Int)).map V.int)) = G3 at s3 f3 ⊢
    refine r_eqSame (DR_list.mpr ⟨so, _, rfl, s3 _ _ hso, DRs_ints _⟩) (DR_list.mpr ⟨pr, _, rfl, f3, DRs_ints _⟩) (shaped_intL _) ?_
    exact q _ (sG.trans s3)
end

section
variable {P : Program} {w : World} {K : PySem.W.Frag} {mg : Str → Option Value} {base : Heap}
theorem nd_law_stretches_0 : (["_law_line"] : List Str).Nodup := by decide +kernel
theorem kz3s : (defScope s_law_stretches).names.lookup ("range" : Str) = some NameKind.globalImplicit := by decide +kernel
theorem kz3t : (defScope s_law_stretches).names.lookup ("len" : Str) = some NameKind.globalImplicit := by decide +kernel
theorem kz3u : (defScope s_law_stretches).names.lookup ("_law_top" : Str) = some NameKind.local := by decide +kernel
theorem kz3v : (defScope s_law_stretches).names.lookup ("_law_begin" : Str) = some NameKind.local := by decide +kernel
theorem kz3w : (defScope s_law_stretches).names.lookup ("_law_end" : Str) = some NameKind.local := by decide +kernel
theorem kz3x : (defScope s_law_stretches).names.lookup ("_law_lost" : Str) = some NameKind.local := by decide +kernel
theorem kz3y : (defScope s_law_stretches).names.lookup ("_law_ends" : Str) = some NameKind.local := by decide +kernel
theorem kz3z : (defScope s_law_stretches).names.lookup ("_law_due" : Str) = some NameKind.local := by decide +kernel
theorem kz40 : (defScope s_law_stretches).names.lookup ("_law_lengths" : Str) = some NameKind.globalImplicit := by decide +kernel
theorem kz41 : (defScope s_law_stretches).names.lookup ("_law_side" : Str) = some NameKind.local := by decide +kernel
theorem kz42 : (defScope s_law_stretches).names.lookup ("_law_lines" : Str) = some NameKind.local := by decide +kernel
theorem kz43 : (defScope s_law_stretches).names.lookup ("_law_told" : Str) = some NameKind.globalImplicit := by decide +kernel
theorem kz44 : (defScope s_law_stretches).names.lookup ("Board" : Str) = some NameKind.globalImplicit := by decide +kernel
theorem kz45 : (defScope s_law).names.lookup ("_law_stretches" : Str) = some NameKind.globalImplicit := by decide +kernel
theorem kz46 : (defScope s_law).names.lookup ("_law_rows" : Str) = some NameKind.local := by decide +kernel
theorem kz47 : (defScope s_law).names.lookup ("_law_two" : Str) = some NameKind.globalImplicit := by decide +kernel
theorem kz48 : (defScope s_law).names.lookup ("_law_pick" : Str) = some NameKind.local := by decide +kernel
theorem kz49 : (defScope s_law).names.lookup ("_law_script" : Str) = some NameKind.local := by decide +kernel
theorem kz4a : (defScope s_law).names.lookup ("_law_mix" : Str) = some NameKind.globalImplicit := by decide +kernel
theorem kz4b : (defScope s_law).names.lookup ("_law_at" : Str) = some NameKind.globalImplicit := by decide +kernel
noncomputable def atE (m far : Nat) (C : Nat → Nat → Bool) (p : Nat) : Nat := if p < far then gD m C p m else gA m C (m + far - 1 - p) far
theorem atE_R {m far : Nat} {C : Nat → Nat → Bool} {R : List Int} (hR : IsEnds m C far R) {p : Nat} (hp : p < m + far) : R[atE m far C p]? = some (p : Int) := by
  obtain ⟨h1, h2, h3⟩ := hR
  unfold atE
  by_cases h : p < far
  · rw [if_pos h]; exact h2 p h
  · rw [if_neg h, h3 _ (by omega)]
    congr 1
    omega
theorem atE_lt {m far : Nat} {C : Nat → Nat → Bool} {R : List Int} (hR : IsEnds m C far R) {p : Nat} (hp : p < m + far) : atE m far C p < m + far := by
  have := (List.getElem?_eq_some_iff.mp (atE_R hR hp)).1
  rw [hR.1] at this; exact this
theorem all_lines {m : Nat} {C : Nat → Nat → Bool} {far l : Nat} (h : l < m + far) : ∃ p, p < m + far ∧ atE m far C p = l := by
  have := (ends_perm (m := m) (C := C) far).mem_iff.mpr (List.mem_range.mpr h)
  rcases List.mem_append.mp this with h | h
  · obtain ⟨i, hi, e⟩ := List.mem_map.mp h
    have hi := List.mem_range.mp hi
    refine ⟨m + far - 1 - i, by omega, ?_⟩
    unfold atE
    rw [if_neg (by omega), show m + far - 1 - (m + far - 1 - i) = i by omega]
    exact e
  · obtain ⟨i, hi, e⟩ := List.mem_map.mp h
    have hi := List.mem_range.mp hi
    refine ⟨i, by omega, ?_⟩
    unfold atE
    rw [if_pos hi]; exact e
theorem R_perm {m far : Nat} {C : Nat → Nat → Bool} {R : List Int} (hR : IsEnds m C far R) : R.Perm ((List.range (m + far)).map fun k => ((k : Nat) : Int)) := by
  have hnd : ((List.range (m + far)).map fun k => ((k : Nat) : Int)).Nodup := by
    rw [List.nodup_iff_pairwise_ne, List.pairwise_map]
    exact List.nodup_range.imp fun h e => h (by omega)
  have at_ : ∀ l, l < m + far → ∃ p, p < m + far ∧ atE m far C p = l ∧ R[l]? = some (p : Int) := fun l hl => by
    obtain ⟨p, hp, e⟩ := all_lines (m := m) (C := C) (far := far) hl
    exact ⟨p, hp, e, by rw [← e]; exact atE_R hR hp⟩
  have hRn : R.Nodup := by
    rw [List.nodup_iff_pairwise_ne, List.pairwise_iff_getElem]
    intro i j hi hj hij e
    rw [hR.1] at hi hj
    obtain ⟨p, _, e1, e2⟩ := at_ i hi
    obtain ⟨p', _, e3, e4⟩ := at_ j hj
    rw [List.getElem?_eq_getElem (by rw [hR.1]; exact hi)] at e2
    rw [List.getElem?_eq_getElem (by rw [hR.1]; exact hj)] at e4
    rw [e, Option.some.inj e4] at e2
    have : p' = p := by have := Option.some.inj e2; omega
    rw [this, e1] at e3
    omega
  refine (List.perm_ext_iff_of_nodup hRn hnd).mpr fun x => ⟨fun hx => ?_, fun hx => ?_⟩
  · obtain ⟨l, hl, e⟩ := List.mem_iff_getElem.mp hx
    rw [hR.1] at hl
    obtain ⟨p, hp, _, e2⟩ := at_ l hl
    rw [List.getElem?_eq_getElem (by rw [hR.1]; exact hl), e] at e2
    rw [Option.some.inj e2]
    exact List.mem_map.mpr ⟨p, List.mem_range.mpr hp, rfl⟩
  · obtain ⟨p, hp, rfl⟩ := List.mem_map.mp hx
    exact List.mem_of_getElem? (atE_R hR (List.mem_range.mp hp))
noncomputable def mkL (m far : Nat) (C : Nat → Nat → Bool) (B : Nat) : List Int := (List.range (m + far)).map fun p => if B ≤ atE m far C p then 1 else 0
theorem mkL_len (m far : Nat) (C : Nat → Nat → Bool) (B : Nat) : (mkL m far C B).length = m + far := by simp [mkL]
theorem mkL_at {m far : Nat} {C : Nat → Nat → Bool} {B p : Nat} (h : p < m + far) : (mkL m far C B)[p]? = some (if B ≤ atE m far C p then 1 else 0) := by
  unfold mkL
  rw [List.getElem?_map, List.getElem?_range h]; rfl
theorem mkL_none {m far : Nat} {C : Nat → Nat → Bool} {R : List Int} (hR : IsEnds m C far R) : mkL m far C (m + far) = List.replicate (m + far) 0 := by
  unfold mkL
  rw [List.eq_replicate_iff]
  refine ⟨by simp, fun b hb => ?_⟩
  obtain ⟨p, hp, rfl⟩ := List.mem_map.mp hb
  have := atE_lt hR (List.mem_range.mp hp)
  rw [if_neg (by omega)]
theorem mkL_set {m far : Nat} {C : Nat → Nat → Bool} {R : List Int} (hR : IsEnds m C far R) {B p : Nat} (hp : p < m + far) (hB : atE m far C p = B) : (mkL m far C (B + 1)).set p 1 = mkL m far C B := by
  refine List.ext_getElem? fun k => ?_
  by_cases hk : k < m + far
  · rw [mkL_at hk]
    by_cases e : k = p
    · subst e
      rw [List.getElem?_set_self (by rw [mkL_len]; exact hk), if_pos (by omega)]
    · rw [List.getElem?_set_ne (fun z => e z.symm), mkL_at hk]
      have hne : atE m far C k ≠ B := fun z => by
        have h1 := atE_R hR hk
        have h2 := atE_R hR hp
        rw [z, ← hB, h2] at h1
        have := Option.some.inj h1
        omega
      congr 1
      by_cases h : B ≤ atE m far C k
      · rw [if_pos h, if_pos (by omega)]
      · rw [if_neg h, if_neg (by omega)]
  · rw [List.getElem?_eq_none (by rw [List.length_set, mkL_len]; omega), List.getElem?_eq_none (by rw [mkL_len]; omega)]
theorem rule_CB (z y : Str) : Rule (mS z) (mS y) (fun i j => decide (z.cps.getD i 0 = y.cps.getD j 0)) (CB z y) := fun i j hi hj => CB_rule (side := z) (top := y) hi hj
theorem tb_eq {e e' : Nat → Nat → Bool} {b b' m n : Nat} (h : ∀ i k, i < m → k < n → e i (b + k) = e' i (b' + k)) : ∀ i, i ≤ m → ∀ k, k ≤ n → tb e b i k = tb e' b' i k
  | 0, _, k, _ => by rw [tb_0, tb_0]
  | i + 1, hi, 0, _ => by rw [tb_z, tb_z]
  | i + 1, hi, k + 1, hk => by
    rw [tb_s, tb_s, tb_eq h i (by omega) k (by omega), tb_eq h (i + 1) hi k (by omega), tb_eq h i (by omega) (k + 1) hk, h i k (by omega) (by omega)]
theorem due_at {z y : Str} {b k : Nat} (hk : b + k ≤ mS y) : tb (eqL z.cps.toList (Txt.slice y (some ((b : Nat) : Int)) none).cps.toList) 0 (mS z) k + (cn (mS z) (CB z y) (mS z) (mS z + b) (b + k) : Nat) = k := by
  have h := tb_lines (rule_CB z y) b (mS z) (Nat.le_refl _) k hk
  rw [tb_eq (m := mS z) (n := k) (b' := b) (e' := fun i j => decide (z.cps.getD i 0 = y.cps.getD j 0)) ?_ (mS z) (Nat.le_refl _) k (Nat.le_refl _)]
  · exact h
  intro i l hi hl
  unfold eqL
  rw [slice_from, Nat.zero_add]
  have e1 : z.cps.toList.getD i 0 = z.cps.getD i 0 := by simp [Array.getD, List.getD_eq_getElem?_getD, show i < z.cps.size from hi]
  have hbl : b + l < y.cps.size := by have : mS y = y.cps.size := rfl; omega
  have e2 : (y.cps.toList.drop b).getD l 0 = y.cps.getD (b + l) 0 := by simp [Array.getD, List.getD_eq_getElem?_getD, hbl]
  rw [e1, e2]
noncomputable def spStr (mg : Str → Option Value) : Sp := fun vs H Q _ => ∃ (z y : Str), vs = [.str z, .str y] ∧ Row z ∧ Row y ∧ ∀ H', Same H H' → Q (.bl true) H'
theorem mkSame {H H2 : Hp} {x dx : Addr} {o1 o2 : HO} (nx : H x = none) (nd : H dx = none) (c : Chg x (upd (upd H dx o1) x o2) H2) : Same H H2 := fun b o e => by
  have h1 : b ≠ x := fun z => by rw [z, nx] at e; cases e
  have h2 : b ≠ dx := fun z => by rw [z, nd] at e; cases e
  exact c b o h1 (by rw [upd_ne h1, upd_ne h2]; exact e)
theorem sc_law_stretches : FnScope ["_law_side", "_law_top", "_law_lines", "_law_ends", "_law_begin", "_law_due", "_law_lost", "_law_end"] ["_law_side", "_law_top"] (defScope s_law_stretches) := ⟨rfl, rfl, rfl, by decide +kernel, rfl, by decide +kernel, by decide +kernel⟩
theorem h_law_stretches (T : Txt K mg) : Has P w K mg base 7 "_law_stretches" ["_law_side", "_law_top"] (spStr mg) := by
  have h_Board_lines := h_Board_lines (P := P) (w := w) (base := base) T
  have h_Board___init__ := h_Board___init__ (P := P) (w := w) (base := base) T
  have h_law_told := h_law_told (P := P) (w := w) (base := base) T
  have h_law_lengths := h_law_lengths (P := P) (w := w) (base := base) T
  refine hasJ T.d_law_stretches sc_law_stretches (fun _ _ _ _ _ _ us hl => L2.usN2 (fun _ _ => rfl) us hl) ?_ fun f cdv A outer s H vs Q E hr h => ?_
  · rintro vs H Q E ⟨z, y, rfl, _⟩; rfl
  obtain ⟨z, y, rfl, rz, ry, q⟩ := h
  have hu := hr.units0
  have hu64 := hr.units
  refine ⟨_, (jb_cons (js_set (i := 2) sc_law_stretches.nd rfl (Or.inl kz42) (j_methX0 (j_makeX T.o_Board h_Board___init__ (hr.mono (by decide)) (glF kz44) (passN fun _ _ => rfl) (ja_cons (j_vL 0 kz41) (ja_cons (j_vL 1 kz3u) ja_nil)) (by decide +kernel)) T.o_Board h_Board_lines (hr.mono (by decide)) (passN fun _ _ => rfl)) rfl) (jb_cons (js_if (jt_not (jt_val (j_call h_law_told (hr.mono (by decide)) (glF kz43) (ja_cons (j_vL 2 kz42) (ja_cons (j_op op_addA (j_callB (call_lenK (K := K) rfl) (glF kz3t) T.b_len bt_len (ja_cons (j_vL 0 kz41) ja_nil) (by decide +kernel) (by decide +kernel)) (j_callB (call_lenK (K := K) rfl) (glF kz3t) T.b_len bt_len (ja_cons (j_vL 1 kz3u) ja_nil) (by decide +kernel) (by decide +kernel))) ja_nil)) (by decide +kernel)))) (jb_one (js_ret j_bl)) jb_nil) (jb_cons (js_setC (i := 3) sc_law_stretches.nd rfl (Or.inl kz3y) (sub := [none]) (subOk_of (N := ["_law_side", "_law_top", "_law_lines", "_law_ends", "_law_begin", "_law_due", "_law_lost", "_law_end"]) (sc := defScope s_law_stretches) (N' := ["_law_line"]) (by decide +kernel)) rfl rfl rfl (ji_seq (K := K) rfl (j_vL 2 kz42)) (fun C s₀ H₀ ex => (jg_B 0 (by decide +kernel) nd_law_stretches_0)) (fun C s₀ H₀ ex => jif_nil) (fun C s₀ H₀ ex => j_int) rfl) (jb_cons (js_for PassesOwn.never rfl (ji_range3 (glF kz3s) T.b_range (ja_cons (j_callB (call_lenK (K := K) rfl) (glF kz3t) T.b_len bt_len (ja_cons (j_vL 1 kz3u) ja_nil) (by decide +kernel) (by decide +kernel)) (ja_cons (j_un un_neg j_int) (ja_cons (j_un un_neg j_int) ja_nil)))) (jg_name (i := 4) sc_law_stretches.nd rfl (Or.inl kz3v) rfl) (jb_cons (js_if (jt_cmp op_lt (j_vL 4 kz3v) (j_callB (call_lenK (K := K) rfl) (glF kz3t) T.b_len bt_len (ja_cons (j_vL 1 kz3u) ja_nil) (by decide +kernel) (by decide +kernel)) (by first | exact nomark _ | with_unfolding_all rfl)) (jb_one (js_asgS (ts := rSetL) j_int (jg_sub (j_vL 3 kz3y) (j_ix (K := K) rfl (j_vL 2 kz42) (j_op op_addA (j_callB (call_lenK (K := K) rfl) (glF kz3t) T.b_len bt_len (ja_cons (j_vL 0 kz41) ja_nil) (by decide +kernel) (by decide +kernel)) (j_vL 4 kz3v))) set_list))) jb_nil) (jb_cons (js_set (i := 5) sc_law_stretches.nd rfl (Or.inl kz3z) (j_call h_law_lengths (hr.mono (by decide)) (glF kz40) (ja_cons (j_vL 0 kz41) (ja_cons (j_slice (sl_seqK (K := K) rfl) (j_vL 1 kz3u) (jo_some (j_vL 4 kz3v)) jo_none) ja_nil)) (by decide +kernel)) rfl) (jb_cons (js_set (i := 6) sc_law_stretches.nd rfl (Or.inl kz3x) j_int rfl) (jb_one (js_for PassesOwn.never rfl (ji_range1 (glF kz3s) T.b_range (ja_cons (j_op op_addA (j_callB (call_lenK (K := K) rfl) (glF kz3t) T.b_len bt_len (ja_cons (j_vL 1 kz3u) ja_nil) (by decide +kernel) (by decide +kernel)) j_int) ja_nil)) (jg_name (i := 7) sc_law_stretches.nd rfl (Or.inl kz3w) rfl) (jb_cons (js_if (jw_pt (jw_and (jt_cmp op_ge (j_vL 7 kz3w) (j_vL 4 kz3v) (by first | exact nomark _ | with_unfolding_all rfl)) (jw_and1 (jt_cmp (op_neX (K := K) rfl hu64) (j_op op_sub (j_op op_sub (j_vL 7 kz3w) (j_vL 4 kz3v)) (j_vL 6 kz3x)) (j_ix (K := K) rfl (j_vL 5 kz3z) (j_op op_sub (j_vL 7 kz3w) (j_vL 4 kz3v))) (by first | exact nomark _ | with_unfolding_all rfl))))) (jb_one (js_ret j_bl)) jb_nil) (jb_one (js_if (jt_cmp op_lt (j_vL 7 kz3w) (j_callB (call_lenK (K := K) rfl) (glF kz3t) T.b_len bt_len (ja_cons (j_vL 1 kz3u) ja_nil) (by decide +kernel) (by decide +kernel)) (by first | exact nomark _ | with_unfolding_all rfl)) (jb_one (js_set (i := 6) sc_law_stretches.nd rfl (Or.inl kz3x) (j_op op_addA (j_vL 6 kz3x) (j_ix (K := K) rfl (j_vL 3 kz3y) (j_vL 7 kz3w))) rfl)) jb_nil))))))))) (jb_one (js_ret j_bl)))))), ?_⟩
  walk_at "sts"
  have hsz : 20000 ≤ sizeLine := by decide
  have hzl := rz.1
  have hyl := ry.1
  have ez : z.length = mS z := rfl
  have ey : y.length = mS y := rfl
  have lz : z.length ≤ sizeLine := by omega
  have ly : y.length ≤ sizeLine := by omega
  rintro b0 db0 nx nd _
  refine ⟨b0, db0, .str z, .str y, rfl, upd_same, row_thing rz.b, row_thing ry.b, (fun w hw => by rw [bf_rows rz.b ry.b] at hw; cases hw), fun s' t' hq1 hq2 hs' ht' H1 C B0 => ⟨rfl, ?_⟩⟩
  obtain rfl : z = s' := by injection hq1
  obtain rfl : y = t' := by injection hq2
  have S1 := mkSame nx nd C
  have B' := B0
  obtain ⟨_, _, e0, _, _, _, _, hb0, hO⟩ := B'
  clear C hq1 hq2 hs' ht' nx nd hO
  walk_at "sts"
  refine ⟨b0, e0, _, rfl, hb0, bdM (by decide +kernel), ?_⟩
  walk_at "sts"
  refine ⟨b0, z, y, rfl, B0, fun pl R H2 _ S2 hE hpl => ?_⟩
  walk_at "sts"
  have lR : R.length = mS z + mS y := hE.1
  refine r_lenS lz ?_
  walk_at "sts"
  refine r_lenS ly ?_
  walk_at "sts"
  refine ⟨pl, R, mS z + mS y, by rw [Int.natCast_add]; rfl, hpl, R_perm hE, by omega, fun H3 S3 => ?_⟩
  walk_at "sts"
  replace hpl := S3 _ _ hpl
  refine .inl ⟨pl, rfl, ⟨_, SqL.of hpl⟩, ?_⟩
  refine comp_listM (xs := R.map V.int) (fun _ => .int 0) (by rw [List.length_map]; omega) (SqL.of hpl) ?_ ?_
  · intro i x hx
    walk_at "sts"
    refine ⟨KeepSt.set rfl, ?_⟩
    walk_at "sts"
    exact ⟨rfl, mapNext rfl⟩
  intro en H4 nen S4 hen
  replace hen : H4 en = some (.lst ((mkL (mS z) (mS y) (CB z y) (mS z + mS y)).map V.int)) := by
    rw [hen, mkL_none hE, List.length_map, lR, List.map_replicate, List.map_const', List.length_range]
  walk_at "sts"
  refine r_lenS ly ?_
  walk_at "sts"
  refine ⟨(y.length : Int), -1, -1, y.length + 1, rfl, by decide, PyProof.noPylong_small (by decide), small_down (by omega) (by omega), ?_, ?_⟩
  · have := size_down (n := y.length + 1)
    rwa [show ((y.length + 1 : Nat) : Int) - 1 = (y.length : Int) by omega] at this
  refine for_rng3 (n := y.length + 1) (fun t σ H' => Same H3 H' ∧ H' en = some (.lst ((mkL (mS z) (mS y) (CB z y) (mS z + mS y - (t - 1))).map V.int)) ∧ ∃ x4 x5 x6 x7, σ = [some (.str z), some (.str y), some (.ref pl), some (.ref en), x4, x5, x6, x7]) ⟨S4, hen, _, _, _, _, rfl⟩ ?_ ?_
  · rintro t σ G ht ⟨sG, hG, x4, x5, x6, x7, rfl⟩
    obtain ⟨b, eb⟩ : ∃ b : Nat, b = y.length - t := ⟨_, rfl⟩
    have evb : (y.length : Int) + (t : Int) * -1 = (b : Int) := by omega
    rw [evb]
    walk_at "stn"
    with_reducible refine r_cut (fun σ H' => Same H3 H' ∧ H' en = some (.lst ((mkL (mS z) (mS y) (CB z y) (mS z + b)).map V.int)) ∧ σ = [some (.str z), some (.str y), some (.ref pl), some (.ref en), some (.int (b : Int)), x5, x6, x7]) ?_ ?_
    rotate_left
    · intro N hN
      walk_at "sts"
      refine r_lenS ly ?_
      walk_at "sts"
      refine iteD (fun h => ?_) (fun h => ?_)
      · have hb : b < y.length := by omega
        obtain ⟨p, hp, ep⟩ := all_lines (m := mS z) (C := CB z y) (far := mS y) (l := mS z + b) (by omega)
        have hRp := atE_R hE hp
        rw [ep] at hRp
        walk_at "sts"
        refine r_lenS lz ?_
        walk_at "sts"
        refine r_ixL (SqL.of (sG _ _ hpl)) (v := .int (p : Int)) (by rw [show ((z.length : Int) + (b : Int)) = ((mS z + b : Nat) : Int) by omega]; exact atI_nat (by rw [List.getElem?_map, hRp]; rfl)) ?_
        walk_at "sts"
        refine r_setL hG (ixN_n (by rw [List.length_map, mkL_len]; exact hp)) ?_
        walk_at "sts"
        refine hN _ _ ⟨Same.put sG nen, ?_, rfl⟩
        rw [upd_same, ← List.map_set, show mS z + mS y - (t - 1) = mS z + b + 1 by omega, mkL_set hE hp ep]
      · walk_at "sts"
        have hb : t = 0 := by omega
        exact hN _ _ ⟨sG, by rw [hG, show mS z + mS y - (t - 1) = mS z + b by omega], rfl⟩
    rintro σ G2 ⟨s2, h2, rfl⟩
    walk_at "sts"
    refine r_slS ly ?_
    walk_at "sts"
    have hsl : (Txt.slice y (some ((b : Nat) : Int)) none).length = y.length - b := by
      have : (Txt.slice y (some ((b : Nat) : Int)) none).length = (Txt.slice y (some ((b : Nat) : Int)) none).cps.toList.length := by simp [Str.length]
      rw [this, slice_from, List.length_drop, Array.length_toList]; rfl
    refine ⟨z, _, rfl, hzl, by rw [hsl]; omega, fun du G3 ndu s3 hdu => ?_⟩
    walk_at "sts"
    rw [hsl] at hdu
    refine r_lenS ly ?_
    walk_at "sts"
    refine ⟨_, rfl, by omega, by omega, ?_⟩
    rw [show ((y.length : Int) + 1).toNat = y.length + 1 by omega]
    refine for_range (n := y.length + 1) (fun e σ H' => H' = G3 ∧ ∃ x7 , σ = [some (.str z), some (.str y), some (.ref pl), some (.ref en), some (.int (b : Int)), some (.ref du), some (.int ((cn (mS z) (CB z y) (mS z) (mS z + b) (min e y.length) : Nat) : Int)), x7]) ⟨rfl, _, rfl⟩ ?_ ?_
    · rintro e σ G4 he ⟨rfl, y7, rfl⟩
      rw [Int.zero_add, show min e y.length = e by omega]
      have hnext : ∀ lost : Int, lost = ((cn (mS z) (CB z y) (mS z) (mS z + b) (min (e + 1) y.length) : Nat) : Int) → lost = ((cn (mS z) (CB z y) (mS z) (mS z + b) (min (e + 1) y.length) : Nat) : Int) := fun _ h => h
      have h2e := s3 _ _ h2
      walk_at "stn"
      with_reducible refine r_cut (fun σ H' => H' = G4 ∧ σ = [some (.str z), some (.str y), some (.ref pl), some (.ref en), some (.int (b : Int)), some (.ref du), some (.int ((cn (mS z) (CB z y) (mS z) (mS z + b) e : Nat) : Int)), some (.int (e : Int))]) ?_ ?_
      rotate_left
      · intro N hN
        walk_at "sts"
        refine iteD (fun h => ?_) (fun h => ?_)
        · obtain ⟨k, rfl⟩ : ∃ k, e = b + k := ⟨e - b, by omega⟩
          have hdk := due_at (z := z) (y := y) (b := b) (k := k) (by omega)
          walk_at "sts"
          refine r_ixL (SqL.of hdu) (rowL_ix (k := k) (by omega) (by omega)) ?_
          walk_at "sts"
          rw [show z.length = mS z from rfl]
          have ev : (((b + k : Nat) : Int) - (b : Int) - ((cn (mS z) (CB z y) (mS z) (mS z + b) (b + k) : Nat) : Int)) = tb (eqL z.cps.toList (Txt.slice y (some ((b : Nat) : Int)) none).cps.toList) 0 (mS z) k := by omega
          rw [ev, decide_eq_true rfl]
          walk_at "sts"
          exact hN _ _ ⟨rfl, rfl⟩
        · walk_at "sts"
          exact hN _ _ ⟨rfl, rfl⟩
      rintro σ G5 ⟨rfl, rfl⟩
      walk_at "sts"
      refine r_lenS ly ?_
      walk_at "sts"
      refine iteD (fun h => ?_) (fun h => ?_)
      · have hel : e < mS y := by omega
        walk_at "sts"
        refine r_ixL (SqL.of h2e) (v := .int (if mS z + b ≤ atE (mS z) (mS y) (CB z y) e then 1 else 0)) (atI_nat (by rw [List.getElem?_map, mkL_at (by omega)]; rfl)) ?_
        walk_at "sts"
        refine ⟨rfl, some (.int (e : Int)), ?_⟩
        have : ((cn (mS z) (CB z y) (mS z) (mS z + b) e : Nat) : Int) + (if mS z + b ≤ atE (mS z) (mS y) (CB z y) e then 1 else 0) = ((cn (mS z) (CB z y) (mS z) (mS z + b) (min (e + 1) y.length) : Nat) : Int) := by
          rw [show min (e + 1) y.length = e + 1 by omega]
          show _ = ((cn (mS z) (CB z y) (mS z) (mS z + b) e + (if mS z + b ≤ gD (mS z) (CB z y) e (mS z) then 1 else 0) : Nat) : Int)
          unfold atE
          rw [if_pos hel]
          split <;> simp
        rw [this]; rfl
      · walk_at "sts"
        exact ⟨rfl, _, by rw [show min (e + 1) y.length = e by omega]⟩
    · rintro σ G4 ⟨rfl, y7, rfl⟩
      exact ⟨s2.trans s3, by rw [s3 _ _ h2, show mS z + mS y - (t + 1 - 1) = mS z + b by omega], _, _, _, _, rfl⟩
  · rintro σ G ⟨sG, hG, x4, x5, x6, x7, rfl⟩
    walk_at "sts"
    exact q _ (S1.trans (S2.trans (S3.trans sG)))
noncomputable def spLaw (K : PySem.W.Frag) : Sp := fun vs H Q _ => ∃ (a : Addr) (ns : List Int), vs = [.ref a] ∧ SqL K H a (ns.map V.int) ∧ ns.length ≤ 63 ∧ ∀ H', Q (.bl true) H'
theorem sc_law : FnScope ["_law_script", "_law_pick", "_law_rows"] ["_law_script"] (defScope s_law) := ⟨rfl, rfl, rfl, by decide +kernel, rfl, by decide +kernel, by decide +kernel⟩
theorem ok_law (T : Txt K mg) {f0 : Addr} {fd0 : FuncData} (F0 : Fun K "law" "law" s_law f0 fd0) : FnOk P w K mg base CX0 8 f0 fd0 ["_law_script"] (spLaw K) := by
  have h_law_mix := h_law_mix (P := P) (w := w) (base := base) T
  have h_law_at := h_law_at (P := P) (w := w) (base := base) T
  have h_law_two := h_law_two (P := P) (w := w) (base := base) T
  have h_law_stretches := h_law_stretches (P := P) (w := w) (base := base) T
  refine okJ F0 sc_law ?_ fun f cdv A outer s H vs Q E hr h => ?_
  · rintro vs H Q E ⟨a, ns, rfl, _⟩; rfl
  obtain ⟨a, ns, rfl, hS, hlen, q⟩ := h
  have hu := hr.units0
  have hu64 := hr.units
  refine ⟨_, (jb_cons (js_set (i := 1) sc_law.nd rfl (Or.inl kz48) (j_op op_mod (j_call h_law_mix (hr.mono (by decide)) (glF kz4a) (ja_cons (j_call h_law_at (hr.mono (by decide)) (glF kz4b) (ja_cons (j_vL 0 kz49) (ja_cons j_int ja_nil)) (by decide +kernel)) (ja_cons j_int ja_nil)) (by decide +kernel)) j_int) rfl) (jb_cons (js_set (i := 2) sc_law.nd rfl (Or.inl kz46) (j_call h_law_two (hr.mono (by decide)) (glF kz47) (ja_cons (j_vL 0 kz49) (ja_cons (j_ix (K := K) rfl (j_lst (ja_cons j_int (ja_cons j_int (ja_cons j_int (ja_cons j_int (ja_cons j_int (ja_cons j_int (ja_cons j_int (ja_cons j_int ja_nil))))))))) (j_vL 1 kz48)) ja_nil)) (by decide +kernel)) rfl) (jb_one (js_ret (j_and (j_call h_law_stretches (hr.mono (by decide)) (glF kz45) (ja_cons (j_ix (K := K) rfl (j_vL 2 kz46) j_int) (ja_cons (j_ix (K := K) rfl (j_vL 2 kz46) j_int) ja_nil)) (by decide +kernel)) (j_one (j_call h_law_stretches (hr.mono (by decide)) (glF kz45) (ja_cons (j_ix (K := K) rfl (j_vL 2 kz46) j_int) (ja_cons (j_ix (K := K) rfl (j_vL 2 kz46) j_int) ja_nil)) (by decide +kernel)))))))), ?_⟩
  walk_at "sts"
  have hz : 20000 ≤ sizeLine := by decide
  refine ⟨a, ns, 0, rfl, hS, by omega, fun c0 => ?_⟩
  walk_at "sts"
  refine ⟨_, _, rfl, fun mx => ?_⟩
  walk_at "sts"
  refine r_newO rfl fun pc H1 _ S1 f1 => ?_
  walk_at "sts"
  obtain ⟨cpv, hcp, ecp⟩ := pickV (vs := [V.int 8, .int 8, .int 24, .int 8, .int 8, .int 8, .int 8, .int 48]) (d := mx % 8) (by omega) (by show mx % 8 < 8; omega)
  obtain ⟨cap, rfl, hc1, hc2⟩ : ∃ cap : Nat, cpv = .int cap ∧ 1 ≤ cap ∧ cap ≤ 48 := by
    simp only [List.mem_cons, List.mem_nil_iff, or_false] at hcp
    rcases hcp with rfl | rfl | rfl | rfl | rfl | rfl | rfl | rfl <;> first | exact ⟨8, rfl, by decide, by decide⟩ | exact ⟨24, rfl, by decide, by decide⟩ | exact ⟨48, rfl, by decide, by decide⟩
  refine r_ixL (SqL.of f1) ecp ?_
  walk_at "sts"
  refine ⟨a, ns, cap, rfl, S1.seq hS, hlen, hc1, hc2, fun rw z y H2 S2 hrw rz ry => ?_⟩
  walk_at "sts"
  try walk_at "sts"
  refine ⟨z, y, rfl, rz, ry, fun H3 S3 => ?_⟩
  walk_at "sts"
  refine r_ixL (SqL.of (S3 _ _ hrw)) rfl ?_
  walk_at "sts"
  refine r_ixL (SqL.of (S3 _ _ hrw)) rfl ?_
  walk_at "sts"
  refine ⟨y, z, rfl, ry, rz, fun H4 S4 => ?_⟩
  walk_at "sts"
  exact q _
end

end My
noncomputable def PySem.W.Fast.tw9904640222204774641 : Nat := 0
noncomputable def PySem.W.Fast.tw11233684552028021225 : Nat := 0
noncomputable def PySem.W.Fast.tw2540830437147270928 : Nat := 0
noncomputable def PySem.W.Fast.tw1881835203946671377 : Nat := 0
noncomputable def PySem.W.Fast.tw719683480672037075 : Nat := 0
noncomputable def PySem.W.Fast.tw8164112521481877220 : Nat := 0
noncomputable def PySem.W.Fast.tw17348234158715435725 : Nat := 0
noncomputable def PySem.W.Fast.tw16319181731004130566 : Nat := 0
noncomputable def PySem.W.Fast.tw15820722735623410299 : Nat := 0
noncomputable def PySem.W.Fast.tw7512730150142878852 : Nat := 0
noncomputable def PySem.W.Fast.tw2658697783616773625 : Nat := 0
noncomputable def PySem.W.Fast.tw10846550014349016221 : Nat := 0
noncomputable def PySem.W.Fast.tw5651568985062731115 : Nat := 0
noncomputable def PySem.W.Fast.tw15681839646859249413 : Nat := 0
noncomputable def PySem.W.Fast.tw3017914613730872977 : Nat := 0
noncomputable def PySem.W.Fast.tw2192261991794350476 : Nat := 0
noncomputable def PySem.W.Fast.tw6448513276040725554 : Nat := 0
noncomputable def PySem.W.Fast.tw11034863122107664859 : Nat := 0
noncomputable def PySem.W.Fast.tw17556063311814542485 : Nat := 0
noncomputable def PySem.W.Fast.tw9804454914397210980 : Nat := 0
noncomputable def PySem.W.Fast.tw486743649871590573 : Nat := 0
noncomputable def PySem.W.Fast.tw7328973939304683874 : Nat := 0
noncomputable def PySem.W.Fast.tw15189258875268049272 : Nat := 0
noncomputable def PySem.W.Fast.tw16007734325728913063 : Nat := 0
noncomputable def PySem.W.Fast.tw7732008769987937890 : Nat := 0
noncomputable def PySem.W.Fast.tw16233468704922524824 : Nat := 0
noncomputable def PySem.W.Fast.tw4570900639442968855 : Nat := 0
noncomputable def PySem.W.Fast.tw17383384333718367119 : Nat := 0
noncomputable def PySem.W.Fast.tw9892024463926698703 : Nat := 0
noncomputable def PySem.W.Fast.tw7146790953332596575 : Nat := 0
noncomputable def PySem.W.Fast.tw578104914740344795 : Nat := 0
noncomputable def PySem.W.Fast.tw18125094438946885469 : Nat := 0
noncomputable def PySem.W.Fast.tw7368656798251463913 : Nat := 0
noncomputable def PySem.W.Fast.tw3962775403265763889 : Nat := 0
noncomputable def PySem.W.Fast.tw13760516413579074887 : Nat := 0
noncomputable def PySem.W.Fast.tw1075916259398255506 : Nat := 0
noncomputable def PySem.W.Fast.tw13876041648098763878 : Nat := 0
noncomputable def PySem.W.Fast.tw3997378451958139108 : Nat := 0
noncomputable def PySem.W.Fast.tw1976292111006509658 : Nat := 0
noncomputable def PySem.W.Fast.tw11606090466529808043 : Nat := 0
noncomputable def PySem.W.Fast.tw12753142971174318706 : Nat := 0
noncomputable def PySem.W.Fast.tw6444374513182337760 : Nat := 0
noncomputable def PySem.W.Fast.tw13927023110546807237 : Nat := 0
noncomputable def PySem.W.Fast.tw13630869401989678648 : Nat := 0
noncomputable def PySem.W.Fast.tw12452449588194143246 : Nat := 0
noncomputable def PySem.W.Fast.tw17777790259316074716 : Nat := 0
noncomputable def PySem.W.Fast.tw5754352757397689207 : Nat := 0
noncomputable def PySem.W.Fast.tw8299890611403559704 : Nat := 0
noncomputable def PySem.W.Fast.tw536170991235405927 : Nat := 0
noncomputable def PySem.W.Fast.tw2168774454648376011 : Nat := 0
noncomputable def PySem.W.Fast.tw13484236278954533867 : Nat := 0
noncomputable def PySem.W.Fast.tw2092072791413468739 : Nat := 0
noncomputable def PySem.W.Fast.tw3028371563452128890 : Nat := 0
noncomputable def PySem.W.Fast.tw18308929116438792778 : Nat := 0
noncomputable def PySem.W.Fast.tw3893758255129388263 : Nat := 0
noncomputable def PySem.W.Fast.tw3698800898933940180 : Nat := 0
noncomputable def PySem.W.Fast.tw2967630056676910610 : Nat := 0
noncomputable def PySem.W.Fast.tw9241769041788364747 : Nat := 0
noncomputable def PySem.W.Fast.tw18080759074237819280 : Nat := 0
noncomputable def PySem.W.Fast.tw8690711046888088918 : Nat := 0
noncomputable def PySem.W.Fast.tw10843168283754870892 : Nat := 0
noncomputable def PySem.W.Fast.tw1218600330562211523 : Nat := 0
noncomputable def PySem.W.Fast.tw1667306458231743767 : Nat := 0
noncomputable def PySem.W.Fast.tw4814443279535704523 : Nat := 0
noncomputable def PySem.W.Fast.tw1331472371188550326 : Nat := 0
noncomputable def PySem.W.Fast.tw17817039773957982515 : Nat := 0
noncomputable def PySem.W.Fast.tw17119384137633811441 : Nat := 0
noncomputable def PySem.W.Fast.tw9147681025843229616 : Nat := 0
noncomputable def PySem.W.Fast.tw6148107986208340216 : Nat := 0
noncomputable def PySem.W.Fast.tw16462789319207809095 : Nat := 0
noncomputable def PySem.W.Fast.tw10060536395439321611 : Nat := 0
noncomputable def PySem.W.Fast.tw5158346683950703523 : Nat := 0
noncomputable def PySem.W.Fast.tw10363288234180251899 : Nat := 0
noncomputable def PySem.W.Fast.tw5634349349284499872 : Nat := 0
noncomputable def PySem.W.Fast.tw12711040878856540 : Nat := 0
noncomputable def PySem.W.Fast.tw4383533310624821748 : Nat := 0
noncomputable def PySem.W.Fast.tw7744653222816228091 : Nat := 0
noncomputable def PySem.W.Fast.tw9290147526039375736 : Nat := 0
noncomputable def PySem.W.Fast.tw7660511770776667895 : Nat := 0
noncomputable def PySem.W.Fast.tw8408546839147511067 : Nat := 0
noncomputable def PySem.W.Fast.tw11264635917807664499 : Nat := 0
noncomputable def PySem.W.Fast.tw9921244648279731272 : Nat := 0
noncomputable def PySem.W.Fast.tw1509541512123522598 : Nat := 0
noncomputable def PySem.W.Fast.tw3902279328016687180 : Nat := 0
noncomputable def PySem.W.Fast.tw9160663490348628560 : Nat := 0
noncomputable def PySem.W.Fast.tw16377793112367602730 : Nat := 0
noncomputable def PySem.W.Fast.tw7864948863244694025 : Nat := 0
noncomputable def PySem.W.Fast.tw1788853436210419266 : Nat := 0
noncomputable def PySem.W.Fast.tw17520578061075313598 : Nat := 0
noncomputable def PySem.W.Fast.tw10857032412988168087 : Nat := 0
noncomputable def PySem.W.Fast.tw1896059303445413277 : Nat := 0
noncomputable def PySem.W.Fast.tw11738923340640934179 : Nat := 0
noncomputable def PySem.W.Fast.tw12474008595539639139 : Nat := 0
noncomputable def PySem.W.Fast.tw14852567066912221075 : Nat := 0
noncomputable def PySem.W.Fast.tw6319341461148888978 : Nat := 0
noncomputable def PySem.W.Fast.tw7781827250205601969 : Nat := 0
noncomputable def PySem.W.Fast.tw14970221262539072909 : Nat := 0
noncomputable def PySem.W.Fast.tw5343354325962322586 : Nat := 0
noncomputable def PySem.W.Fast.tw9052728829515517879 : Nat := 0
noncomputable def PySem.W.Fast.tw11992071260281362546 : Nat := 0
noncomputable def PySem.W.Fast.tw3872983760362937511 : Nat := 0
noncomputable def PySem.W.Fast.tw8932304975736676163 : Nat := 0
noncomputable def PySem.W.Fast.tw11692547186933531968 : Nat := 0
noncomputable def PySem.W.Fast.tw5283434113424176890 : Nat := 0
noncomputable def PySem.W.Fast.tw17720217441295032629 : Nat := 0
noncomputable def PySem.W.Fast.tw2464035383241224387 : Nat := 0
noncomputable def PySem.W.Fast.tw7154314423993297091 : Nat := 0
noncomputable def PySem.W.Fast.tw2859331033292304718 : Nat := 0
noncomputable def PySem.W.Fast.tw11276258573285179931 : Nat := 0
noncomputable def PySem.W.Fast.tw15210763997162996974 : Nat := 0
noncomputable def PySem.W.Fast.tw4403457936234721946 : Nat := 0
noncomputable def PySem.W.Fast.tw1228659552477174194 : Nat := 0
noncomputable def PySem.W.Fast.tw17403686373578899145 : Nat := 0
noncomputable def PySem.W.Fast.tw3807320759572270194 : Nat := 0
noncomputable def PySem.W.Fast.tw12448106323823939023 : Nat := 0
noncomputable def PySem.W.Fast.tw18392628106980353008 : Nat := 0
noncomputable def PySem.W.Fast.tw4581921602179871274 : Nat := 0
noncomputable def PySem.W.Fast.tw17645252140986255822 : Nat := 0
noncomputable def PySem.W.Fast.tw387245429634560607 : Nat := 0
noncomputable def PySem.W.Fast.tw1094377962771385974 : Nat := 0
noncomputable def PySem.W.Fast.tw7878459627894919538 : Nat := 0
noncomputable def PySem.W.Fast.tw156075565875685126 : Nat := 0
noncomputable def PySem.W.Fast.tw8088311644631887481 : Nat := 0
noncomputable def PySem.W.Fast.tw10010321341518101016 : Nat := 0
noncomputable def PySem.W.Fast.tw3593921550510800380 : Nat := 0
noncomputable def PySem.W.Fast.tw444528545090225513 : Nat := 0
noncomputable def PySem.W.Fast.tw5726677139264702162 : Nat := 0
noncomputable def PySem.W.Fast.tw7403973321624144198 : Nat := 0
noncomputable def PySem.W.Fast.tw6284289014924639281 : Nat := 0
noncomputable def PySem.W.Fast.tw15064840362032506798 : Nat := 0
noncomputable def PySem.W.Fast.tw18345505369998655941 : Nat := 0
noncomputable def PySem.W.Fast.tw1756055711318697193 : Nat := 0
noncomputable def PySem.W.Fast.tw4764001449947915706 : Nat := 0
noncomputable def PySem.W.Fast.tw12400708888818019773 : Nat := 0
noncomputable def PySem.W.Fast.tw18400045101254892876 : Nat := 0
noncomputable def PySem.W.Fast.tw17832337013544054421 : Nat := 0
noncomputable def PySem.W.Fast.tw6236376372303141312 : Nat := 0
noncomputable def PySem.W.Fast.tw2633811956915248071 : Nat := 0
noncomputable def PySem.W.Fast.tw798114763442068789 : Nat := 0
noncomputable def PySem.W.Fast.tw2713100630121089065 : Nat := 0
noncomputable def PySem.W.Fast.tw364685995347110131 : Nat := 0
noncomputable def PySem.W.Fast.tw12764537475837083626 : Nat := 0
noncomputable def PySem.W.Fast.tw16436676907327070128 : Nat := 0
noncomputable def PySem.W.Fast.tw16157837422406686879 : Nat := 0
noncomputable def PySem.W.Fast.tw3967960539076824529 : Nat := 0
noncomputable def PySem.W.Fast.tw1698508851958842620 : Nat := 0
noncomputable def PySem.W.Fast.tw18224654721634081984 : Nat := 0
noncomputable def PySem.W.Fast.tw9980095937634570423 : Nat := 0
noncomputable def PySem.W.Fast.tw2320524829307673947 : Nat := 0
noncomputable def PySem.W.Fast.tw5136416003984410507 : Nat := 0
noncomputable def PySem.W.Fast.tw16554065419267353702 : Nat := 0
noncomputable def PySem.W.Fast.tw1360371878569959916 : Nat := 0
noncomputable def PySem.W.Fast.tw2915736783702185827 : Nat := 0
noncomputable def PySem.W.Fast.tw1620811695730602154 : Nat := 0
noncomputable def PySem.W.Fast.tw14982420018728726233 : Nat := 0
noncomputable def PySem.W.Fast.tw15109792627627000255 : Nat := 0
noncomputable def PySem.W.Fast.tw16302620987511811611 : Nat := 0
noncomputable def PySem.W.Fast.tw17864559422103029273 : Nat := 0
noncomputable def PySem.W.Fast.tw5689045268354655258 : Nat := 0
noncomputable def PySem.W.Fast.tw11707527075656988516 : Nat := 0
noncomputable def PySem.W.Fast.tw1885633438397029843 : Nat := 0
noncomputable def PySem.W.Fast.tw16503048364688256576 : Nat := 0
noncomputable def PySem.W.Fast.tw13800426046352395239 : Nat := 0
noncomputable def PySem.W.Fast.tw1420260579050604603 : Nat := 0
noncomputable def PySem.W.Fast.tw6878307326354400529 : Nat := 0
noncomputable def PySem.W.Fast.tw3255370317693523348 : Nat := 0
noncomputable def PySem.W.Fast.tw1792167478170673019 : Nat := 0
noncomputable def PySem.W.Fast.tw16684827072995528708 : Nat := 0
noncomputable def PySem.W.Fast.tw12767371953614122302 : Nat := 0
noncomputable def PySem.W.Fast.tw11047267909216760515 : Nat := 0
noncomputable def PySem.W.Fast.tw7099824841486552594 : Nat := 0
noncomputable def PySem.W.Fast.tw7519433508807835255 : Nat := 0
noncomputable def PySem.W.Fast.tw17698256747502644029 : Nat := 0
noncomputable def PySem.W.Fast.tw6780920608530079696 : Nat := 0
noncomputable def PySem.W.Fast.tw5054040830580651603 : Nat := 0
noncomputable def PySem.W.Fast.tw10588376006542253147 : Nat := 0
noncomputable def PySem.W.Fast.tw14028129458311450380 : Nat := 0
noncomputable def PySem.W.Fast.tw7462030212697343818 : Nat := 0
noncomputable def PySem.W.Fast.tw10786028525013594126 : Nat := 0
noncomputable def PySem.W.Fast.tw18009850275003313545 : Nat := 0
noncomputable def PySem.W.Fast.tw10639136947985341393 : Nat := 0
noncomputable def PySem.W.Fast.tw2014627445767598600 : Nat := 0
noncomputable def PySem.W.Fast.tw11869233371664869023 : Nat := 0
noncomputable def PySem.W.Fast.tw3661463760305020303 : Nat := 0
noncomputable def PySem.W.Fast.tw9161692140738897043 : Nat := 0
noncomputable def PySem.W.Fast.tw5106212202143339814 : Nat := 0
noncomputable def PySem.W.Fast.tw17736000458839886911 : Nat := 0
noncomputable def PySem.W.Fast.tw8777459390621755153 : Nat := 0
noncomputable def PySem.W.Fast.tw14943406525594252050 : Nat := 0
noncomputable def PySem.W.Fast.tw11201584606117850541 : Nat := 0
noncomputable def PySem.W.Fast.tw3531888216670643386 : Nat := 0
noncomputable def PySem.W.Fast.tw13234538087061330437 : Nat := 0
noncomputable def PySem.W.Fast.tw9023214877829924135 : Nat := 0
noncomputable def PySem.W.Fast.tw10089576448189004005 : Nat := 0
noncomputable def PySem.W.Fast.tw1369671127652506169 : Nat := 0
noncomputable def PySem.W.Fast.tw1939678709713531814 : Nat := 0
noncomputable def PySem.W.Fast.tw13749817869603854739 : Nat := 0
noncomputable def PySem.W.Fast.tw4675308153060289484 : Nat := 0
noncomputable def PySem.W.Fast.tw17674012282531936268 : Nat := 0
noncomputable def PySem.W.Fast.tw6172655961578254551 : Nat := 0
noncomputable def PySem.W.Fast.tw1500494933141156119 : Nat := 0
noncomputable def PySem.W.Fast.tw6409220417731123799 : Nat := 0
noncomputable def PySem.W.Fast.tw6815071037772822579 : Nat := 0
noncomputable def PySem.W.Fast.tw2054087418013713343 : Nat := 0
noncomputable def PySem.W.Fast.tw14441415964752449554 : Nat := 0
noncomputable def PySem.W.Fast.tw4894125203728696577 : Nat := 0
noncomputable def PySem.W.Fast.tw1647338240759257921 : Nat := 0
noncomputable def PySem.W.Fast.tw794302716125353680 : Nat := 0
noncomputable def PySem.W.Fast.tw5550337314172951041 : Nat := 0
noncomputable def PySem.W.Fast.tw11225875717469339098 : Nat := 0
noncomputable def PySem.W.Fast.tw8026692632863161358 : Nat := 0
noncomputable def PySem.W.Fast.tw3557842946826424556 : Nat := 0
noncomputable def PySem.W.Fast.tw3328306881605310028 : Nat := 0
noncomputable def PySem.W.Fast.tw12553999031130110833 : Nat := 0
noncomputable def PySem.W.Fast.tw9336969948665573886 : Nat := 0
noncomputable def PySem.W.Fast.tw2438166093206229480 : Nat := 0
noncomputable def PySem.W.Fast.tw7822059014106366373 : Nat := 0
noncomputable def PySem.W.Fast.tw14125225521155491516 : Nat := 0
noncomputable def PySem.W.Fast.tw17073771432177415753 : Nat := 0
noncomputable def PySem.W.Fast.tw13859584803854528872 : Nat := 0
noncomputable def PySem.W.Fast.tw4401740045730373355 : Nat := 0
noncomputable def PySem.W.Fast.tw16026677882516243823 : Nat := 0
noncomputable def PySem.W.Fast.tw14406070207076620213 : Nat := 0
noncomputable def PySem.W.Fast.tw10278872895904638317 : Nat := 0
noncomputable def PySem.W.Fast.tw5696571962420336895 : Nat := 0
noncomputable def PySem.W.Fast.tw2120709236044203596 : Nat := 0
noncomputable def PySem.W.Fast.tw18183727977245363753 : Nat := 0
noncomputable def PySem.W.Fast.tw992559415659102933 : Nat := 0
noncomputable def PySem.W.Fast.tw12611546060700976138 : Nat := 0
noncomputable def PySem.W.Fast.tw4357873736459300316 : Nat := 0
noncomputable def PySem.W.Fast.tw16189625917819999963 : Nat := 0
noncomputable def PySem.W.Fast.tw15258095118394348214 : Nat := 0
noncomputable def PySem.W.Fast.tw14778877874927188402 : Nat := 0
noncomputable def PySem.W.Fast.tw10562208405699063963 : Nat := 0
noncomputable def PySem.W.Fast.tw11182919385256232626 : Nat := 0
noncomputable def PySem.W.Fast.tw7593135594442279488 : Nat := 0
noncomputable def PySem.W.Fast.tw17376484311233363461 : Nat := 0
noncomputable def PySem.W.Fast.tw3157909019160439335 : Nat := 0
noncomputable def PySem.W.Fast.tw12577533345044514079 : Nat := 0
noncomputable def PySem.W.Fast.tw17237930143236710570 : Nat := 0
noncomputable def PySem.W.Fast.tw756974920882252827 : Nat := 0
noncomputable def PySem.W.Fast.tw11584553182166098034 : Nat := 0
noncomputable def PySem.W.Fast.tw9862693003640044781 : Nat := 0
noncomputable def PySem.W.Fast.tw6457556889171626576 : Nat := 0
noncomputable def PySem.W.Fast.tw10798926449841763179 : Nat := 0
noncomputable def PySem.W.Fast.tw10031722187582705412 : Nat := 0
noncomputable def PySem.W.Fast.tw7917608538433984364 : Nat := 0
noncomputable def PySem.W.Fast.tw16200790565424003212 : Nat := 0
noncomputable def PySem.W.Fast.tw7217475068444316576 : Nat := 0
noncomputable def PySem.W.Fast.tw5389226452369408337 : Nat := 0
noncomputable def PySem.W.Fast.tw14474026880612026826 : Nat := 0
noncomputable def PySem.W.Fast.tw17497736113623859010 : Nat := 0
noncomputable def PySem.W.Fast.tw839718040048740975 : Nat := 0
noncomputable def PySem.W.Fast.tw2815510581675576117 : Nat := 0
noncomputable def PySem.W.Fast.tw8234843626208834904 : Nat := 0
noncomputable def PySem.W.Fast.tw8643437028716291087 : Nat := 0
noncomputable def PySem.W.Fast.tw10096448949902150556 : Nat := 0
noncomputable def PySem.W.Fast.tw15189841041589699653 : Nat := 0
noncomputable def PySem.W.Fast.tw12290965416425946898 : Nat := 0
noncomputable def PySem.W.Fast.tw3333610865487290828 : Nat := 0
noncomputable def PySem.W.Fast.tw17251755302437238854 : Nat := 0
noncomputable def PySem.W.Fast.tw5850587214428847106 : Nat := 0
noncomputable def PySem.W.Fast.tw15408328095281681379 : Nat := 0
noncomputable def PySem.W.Fast.tw9657437802006536118 : Nat := 0
noncomputable def PySem.W.Fast.tw9338417313236537021 : Nat := 0
noncomputable def PySem.W.Fast.tw6772996062268622483 : Nat := 0
noncomputable def PySem.W.Fast.tw17133969507715556134 : Nat := 0
noncomputable def PySem.W.Fast.tw1544426326895557716 : Nat := 0
noncomputable def PySem.W.Fast.tw12269741304410133417 : Nat := 0
noncomputable def PySem.W.Fast.tw14304061236208910349 : Nat := 0
noncomputable def PySem.W.Fast.tw11260021056455073108 : Nat := 0
noncomputable def PySem.W.Fast.tw15668665696863417434 : Nat := 0
open PySem PySem.W PyProof.Rows
set_option maxRecDepth 100000 in
set_option maxHeartbeats 0 in
theorem PySem.Challenge.cw_panethread_k35_whole_threads_of_all_stre_holds : PySem.Challenge.rw_panethread_k35_whole_threads_of_all_stre.Holds := by
  w_on; o_law; k_head; (case hw => w_witness2)
  k_fill
  refine L2.walkJ (l := PySem.Challenge.rw_panethread_k35_whole_threads_of_all_stre) (st := My.s_law) (k := 8) (x := "_law_script") (sp := My.spLaw) rfl rfl rfl ⟨rfl, by decide, by decide, rfl⟩ (fun w h Y => PySem.W.kIn_of Y) (fun _ _ _ _ _ _ us hl => L2.usN1 (fun _ => rfl) us hl) ?F (fun K H a ns hl hS => ⟨a, ns, rfl, hS, hl, fun _ => rfl⟩)
  case F =>
    intro w mg h KX G
    have b_all : mg "all" = none := by
      refine' PySem.W.mg_none_of KX G ?a
      (case a => k_is)
    have b_bool : mg "bool" = none := by
      refine' PySem.W.mg_none_of KX G ?a
      (case a => k_is)
    have b_enumerate : mg "enumerate" = none := by
      refine' PySem.W.mg_none_of KX G ?a
      (case a => k_is)
    have b_int : mg "int" = none := by
      refine' PySem.W.mg_none_of KX G ?a
      (case a => k_is)
    have b_isinstance : mg "isinstance" = none := by
      refine' PySem.W.mg_none_of KX G ?a
      (case a => k_is)
    have b_len : mg "len" = none := by
      refine' PySem.W.mg_none_of KX G ?a
      (case a => k_is)
    have b_list : mg "list" = none := by
      refine' PySem.W.mg_none_of KX G ?a
      (case a => k_is)
    have b_max : mg "max" = none := by
      refine' PySem.W.mg_none_of KX G ?a
      (case a => k_is)
    have b_range : mg "range" = none := by
      refine' PySem.W.mg_none_of KX G ?a
      (case a => k_is)
    have b_reversed : mg "reversed" = none := by
      refine' PySem.W.mg_none_of KX G ?a
      (case a => k_is)
    have b_sorted : mg "sorted" = none := by
      refine' PySem.W.mg_none_of KX G ?a
      (case a => k_is)
    have b_str : mg "str" = none := by
      refine' PySem.W.mg_none_of KX G ?a
      (case a => k_is)
    have b_zip : mg "zip" = none := by
      refine' PySem.W.mg_none_of KX G ?a
      (case a => k_is)
    have c_CROSS : ∃ t, mg "CROSS" = some (.str "x" t) := by
      refine' L2.const_mk KX G ?a ?h
      (case a => k_is); (case h => exact ⟨_, by with_unfolding_all rfl⟩)
    have c_LETTERS : ∃ t, mg "LETTERS" = some (.str "abcdefghijklmnopqrstuvwxyz" t) := by
      refine' L2.const_mk KX G ?a ?h
      (case a => k_is); (case h => exact ⟨_, by with_unfolding_all rfl⟩)
    have c_MOST_SIGNS : ∃ t, mg "MOST_SIGNS" = some (.int 48 t) := by
      refine' L2.const_mk KX G ?a ?h
      (case a => k_is); (case h => exact ⟨_, by with_unfolding_all rfl⟩)
    have c_POINT : ∃ t, mg "POINT" = some (.str "." t) := by
      refine' L2.const_mk KX G ?a ?h
      (case a => k_is); (case h => exact ⟨_, by with_unfolding_all rfl⟩)
    have c_TOUCH : ∃ t, mg "TOUCH" = some (.str "o" t) := by
      refine' L2.const_mk KX G ?a ?h
      (case a => k_is); (case h => exact ⟨_, by with_unfolding_all rfl⟩)
    have d_is_row : L2.Def (L2.KOf KX) mg "is_row" My.s_is_row := by
      dsimp only [L2.KOf]
      refine' L2.def_mk KX G ?a ?l ?c ?k
      (case a => k_is); (case l => k_is); (case c => k_is); (case k => k_is)
    have d_need_row : L2.Def (L2.KOf KX) mg "need_row" My.s_need_row := by
      dsimp only [L2.KOf]
      refine' L2.def_mk KX G ?a ?l ?c ?k
      (case a => k_is); (case l => k_is); (case c => k_is); (case k => k_is)
    have d_need_rows : L2.Def (L2.KOf KX) mg "need_rows" My.s_need_rows := by
      dsimp only [L2.KOf]
      refine' L2.def_mk KX G ?a ?l ?c ?k
      (case a => k_is); (case l => k_is); (case c => k_is); (case k => k_is)
    have d_lines_above : L2.Def (L2.KOf KX) mg "lines_above" My.s_lines_above := by
      dsimp only [L2.KOf]
      refine' L2.def_mk KX G ?a ?l ?c ?k
      (case a => k_is); (case l => k_is); (case c => k_is); (case k => k_is)
    have d_signs_of_row : L2.Def (L2.KOf KX) mg "signs_of_row" My.s_signs_of_row := by
      dsimp only [L2.KOf]
      refine' L2.def_mk KX G ?a ?l ?c ?k
      (case a => k_is); (case l => k_is); (case c => k_is); (case k => k_is)
    have d_over_row : L2.Def (L2.KOf KX) mg "over_row" My.s_over_row := by
      dsimp only [L2.KOf]
      refine' L2.def_mk KX G ?a ?l ?c ?k
      (case a => k_is); (case l => k_is); (case c => k_is); (case k => k_is)
    have d_cells_of : L2.Def (L2.KOf KX) mg "cells_of" My.s_cells_of := by
      dsimp only [L2.KOf]
      refine' L2.def_mk KX G ?a ?l ?c ?k
      (case a => k_is); (case l => k_is); (case c => k_is); (case k => k_is)
    have d_ends_of : L2.Def (L2.KOf KX) mg "ends_of" My.s_ends_of := by
      dsimp only [L2.KOf]
      refine' L2.def_mk KX G ?a ?l ?c ?k
      (case a => k_is); (case l => k_is); (case c => k_is); (case k => k_is)
    have d_over_cells : L2.Def (L2.KOf KX) mg "over_cells" My.s_over_cells := by
      dsimp only [L2.KOf]
      refine' L2.def_mk KX G ?a ?l ?c ?k
      (case a => k_is); (case l => k_is); (case c => k_is); (case k => k_is)
    have d_ways_of : L2.Def (L2.KOf KX) mg "ways_of" My.s_ways_of := by
      dsimp only [L2.KOf]
      refine' L2.def_mk KX G ?a ?l ?c ?k
      (case a => k_is); (case l => k_is); (case c => k_is); (case k => k_is)
    have d_law_at : L2.Def (L2.KOf KX) mg "_law_at" My.s_law_at := by
      dsimp only [L2.KOf]
      refine' L2.def_mk KX G ?a ?l ?c ?k
      (case a => k_is); (case l => k_is); (case c => k_is); (case k => k_is)
    have d_law_mix : L2.Def (L2.KOf KX) mg "_law_mix" My.s_law_mix := by
      dsimp only [L2.KOf]
      refine' L2.def_mk KX G ?a ?l ?c ?k
      (case a => k_is); (case l => k_is); (case c => k_is); (case k => k_is)
    have d_law_put : L2.Def (L2.KOf KX) mg "_law_put" My.s_law_put := by
      dsimp only [L2.KOf]
      refine' L2.def_mk KX G ?a ?l ?c ?k
      (case a => k_is); (case l => k_is); (case c => k_is); (case k => k_is)
    have d_law_two : L2.Def (L2.KOf KX) mg "_law_two" My.s_law_two := by
      dsimp only [L2.KOf]
      refine' L2.def_mk KX G ?a ?l ?c ?k
      (case a => k_is); (case l => k_is); (case c => k_is); (case k => k_is)
    have d_law_lengths : L2.Def (L2.KOf KX) mg "_law_lengths" My.s_law_lengths := by
      dsimp only [L2.KOf]
      refine' L2.def_mk KX G ?a ?l ?c ?k
      (case a => k_is); (case l => k_is); (case c => k_is); (case k => k_is)
    have d_law_told : L2.Def (L2.KOf KX) mg "_law_told" My.s_law_told := by
      dsimp only [L2.KOf]
      refine' L2.def_mk KX G ?a ?l ?c ?k
      (case a => k_is); (case l => k_is); (case c => k_is); (case k => k_is)
    have d_law_stretches : L2.Def (L2.KOf KX) mg "_law_stretches" My.s_law_stretches := by
      dsimp only [L2.KOf]
      refine' L2.def_mk KX G ?a ?l ?c ?k
      (case a => k_is); (case l => k_is); (case c => k_is); (case k => k_is)
    have d_law : L2.Def (L2.KOf KX) mg "law" My.s_law := by
      dsimp only [L2.KOf]
      refine' L2.def_mk KX G ?a ?l ?c ?k
      (case a => k_is); (case l => k_is); (case c => k_is); (case k => k_is)
    have x_NoRow : L2.XTxt (L2.KOf KX) mg "NoRow" ["found"] "NoRow.__init__" My.i_NoRow := by
      dsimp only [L2.KOf]
      refine' L2.xt_mk KX G ?a ?b ?kp ?na ?i ?t ?l ?c ?k
      (case a => k_is); (case b => kernel_rfl); (case kp => k_is); (case na => kernel_rfl); (case i => k_is); (case t => k_is); (case l => k_is); (case c => k_is); (case k => k_is)
    have x_NoPlace : L2.XTxt (L2.KOf KX) mg "NoPlace" ["found"] "NoPlace.__init__" My.i_NoPlace := by
      dsimp only [L2.KOf]
      refine' L2.xt_mk KX G ?a ?b ?kp ?na ?i ?t ?l ?c ?k
      (case a => k_is); (case b => kernel_rfl); (case kp => k_is); (case na => kernel_rfl); (case i => k_is); (case t => k_is); (case l => k_is); (case c => k_is); (case k => k_is)
    have o_Board : L2.OTxt (L2.KOf KX) mg "Board" := by
      dsimp only [L2.KOf]
      refine' L2.ot_mk KX G ?a ?b ?s ?m ?k
      (case a => k_is); (case b => kernel_rfl); (case s => k_is); (case m => first | k_is | kernel_rfl); (case k => k_is)
    have n_Board : ∀ f ∈ (["held_side", "held_top", "held_cells", "held_coming", "held_lines", "held_ways"] : List Str), L2.NoAttr (L2.KOf KX) (L2.clsA mg "Board") f := by
      dsimp only [L2.KOf]
      refine' L2.na_mk KX G ?a ?b
      (case a => k_is); (case b => kernel_rfl)
    have m_Board___init__ : L2.MTxt (L2.KOf KX) mg "Board" "__init__" "Board.__init__" My.s_Board___init__ := by
      dsimp only [L2.KOf]
      refine' L2.mt_mk KX G ?a ?i ?n ?l ?c ?k
      (case a => k_is); (case i => k_is); (case n => first | k_is | kernel_rfl); (case l => k_is); (case c => k_is); (case k => k_is)
    have m_Board_lines : L2.MTxt (L2.KOf KX) mg "Board" "lines" "Board.lines" My.s_Board_lines := by
      dsimp only [L2.KOf]
      refine' L2.mt_mk KX G ?a ?i ?n ?l ?c ?k
      (case a => k_is); (case i => k_is); (case n => first | k_is | kernel_rfl); (case l => k_is); (case c => k_is); (case k => k_is)
    exact ⟨d_law, fun base f fd F => My.ok_law ⟨b_all, b_bool, b_enumerate, b_int, b_isinstance, b_len, b_list, b_max, b_range, b_reversed, b_sorted, b_str, b_zip, c_CROSS, c_LETTERS, c_MOST_SIGNS, c_POINT, c_TOUCH, d_is_row, d_need_row, d_need_rows, d_lines_above, d_signs_of_row, d_over_row, d_cells_of, d_ends_of, d_over_cells, d_ways_of, d_law_at, d_law_mix, d_law_put, d_law_two, d_law_lengths, d_law_told, d_law_stretches, d_law, x_NoRow, x_NoPlace, o_Board, n_Board, m_Board___init__, m_Board_lines⟩ F⟩
