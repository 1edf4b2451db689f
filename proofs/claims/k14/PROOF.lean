import PyProof.Rows.All
import Wide.All
import OpenK.AllK
import Wide.FinOn
import Lean
import PyProof.EqAt
import PyProof.EqKinds
import PyProof.TupleCall
import PyProof.ReprRoads
import KE.KSortTup
import PySem.Challenge.RW_panethread_k14_whole_no_thread_beats_hea
-- CHANGE: your row's module here, as the last of these rows
set_option compiler.extract_closed false
set_option Elab.async false
set_option linter.all false
set_option maxRecDepth 100000
namespace L2
@[elab_as_elim] theorem usN1 {p : List PySem.Value → Prop} (h : ∀ a0 : PySem.Value, p [a0]) (us : List PySem.Value) (hl : us.length = 1) : p us := by
  rcases us with _ | ⟨a0, us0⟩
  · cases hl
  rcases us0 with _ | ⟨b, us⟩
  · exact h a0
  · cases hl
@[elab_as_elim] theorem usN2 {p : List PySem.Value → Prop} (h : ∀ a0 a1 : PySem.Value, p [a0, a1]) (us : List PySem.Value) (hl : us.length = 2) : p us := by
  rcases us with _ | ⟨a0, us0⟩
  · cases hl
  rcases us0 with _ | ⟨a1, us1⟩
  · cases hl
  rcases us1 with _ | ⟨b, us⟩
  · exact h a0 a1
  · cases hl
@[elab_as_elim] theorem usN3 {p : List PySem.Value → Prop} (h : ∀ a0 a1 a2 : PySem.Value, p [a0, a1, a2]) (us : List PySem.Value) (hl : us.length = 3) : p us := by
  rcases us with _ | ⟨a0, us0⟩
  · cases hl
  rcases us0 with _ | ⟨a1, us1⟩
  · cases hl
  rcases us1 with _ | ⟨a2, us2⟩
  · cases hl
  rcases us2 with _ | ⟨b, us⟩
  · exact h a0 a1 a2
  · cases hl
theorem auto1 (h : True := by first | exact .inl rfl | exact .inr rfl | assumption) : True := h
theorem auto2 (h : True := by decide) : True := h
theorem auto3 (h : True := by intro _; rfl) : True := h
theorem auto4 (h : True := by rfl) : True := h
theorem auto5 (h : True := by with_unfolding_all rfl) : True := h
theorem auto6 (h : True := by decide +kernel) : True := h
open PySem PySem.Spec PyProof.Rows

noncomputable abbrev Key := Sum Int Str
noncomputable def keyIs : Key → Value → Bool
  | .inl k, v => Value.isInt k v
  | .inr x, v => Value.isStrOf x v
noncomputable def keyH (w : World) : Key → Int
  | .inl k => hashInt k
  | .inr x => hashStr w x
theorem keyIs_shape : ∀ {k : Key} {v : Value}, keyIs k v = true → (∃ i t, k = Sum.inl i ∧ v = Value.int i t) ∨ (∃ x t, k = Sum.inr x ∧ v = Value.str x t)
  | .inl i, v, h => by
    obtain ⟨t, e⟩ := Value.isInt_shape (k := i) (v := v) h
    exact .inl ⟨i, t, rfl, e⟩
  | .inr x, v, h => by
    obtain ⟨t, e⟩ := Value.isStrOf_shape (x := x) (v := v) h
    exact .inr ⟨x, t, rfl, e⟩
theorem keyIs_int (i : Int) (t : Tok) : keyIs (.inl i) (.int i t) = true := by simp [keyIs, Value.isInt]
theorem keyIs_str (x : Str) (t : Tok) : keyIs (.inr x) (.str x t) = true := by simp [keyIs, Value.isStrOf]
theorem key_ll (a b : Int) : decide ((Sum.inl a : Key) = Sum.inl b) = (a == b) := by
  by_cases e : a = b
  · subst e; simp
  · have h : ¬ (Sum.inl a : Key) = Sum.inl b := fun q => e (Sum.inl.inj q)
    rw [decide_eq_false h]
    exact (beq_eq_false_iff_ne.mpr e).symm
theorem key_rr (a b : Str) : decide ((Sum.inr a : Key) = Sum.inr b) = decide (a = b) := by
  by_cases e : a = b
  · subst e; simp
  · have h : ¬ (Sum.inr a : Key) = Sum.inr b := fun q => e (Sum.inr.inj q)
    rw [decide_eq_false h, decide_eq_false e]
theorem key_lr (a : Int) (b : Str) : decide ((Sum.inl a : Key) = Sum.inr b) = false := decide_eq_false (fun q => nomatch q)
theorem key_rl (a : Str) (b : Int) : decide ((Sum.inr a : Key) = Sum.inl b) = false := decide_eq_false (fun q => nomatch q)

noncomputable def mixKind (prog : Program) (w : World) : PySem.KeyKind prog w Key where
  is := keyIs
  hash := keyH w
  inj := fun v a b ha hb => by
    rcases keyIs_shape ha with ⟨i, t, rfl, rfl⟩ | ⟨x, t, rfl, rfl⟩
    · rcases keyIs_shape hb with ⟨j, u, rfl, e⟩ | ⟨y, u, rfl, e⟩
      · injection e with e1 _; rw [e1]
      · exact nomatch e
    · rcases keyIs_shape hb with ⟨j, u, rfl, e⟩ | ⟨y, u, rfl, e⟩
      · exact nomatch e
      · injection e with e1 _; rw [e1]
  byValue := fun k v h => by
    rcases keyIs_shape h with ⟨i, t, rfl, rfl⟩ | ⟨x, t, rfl, rfl⟩ <;> rfl
  pyHash := fun hv h => by
    rcases keyIs_shape hv with ⟨i, t, rfl, rfl⟩ | ⟨x, t, rfl, rfl⟩
    · exact wpAny_pyHash_int h
    · exact wpAny_pyHash_str h
  eqBool := fun hu hv h => by
    rcases keyIs_shape hu with ⟨i, t, rfl, rfl⟩ | ⟨x, t, rfl, rfl⟩
    · rcases keyIs_shape hv with ⟨j, u, rfl, rfl⟩ | ⟨y, u, rfl, rfl⟩
      · rw [key_ll] at h; exact wpAny_eqBool_int h
      · rw [key_lr] at h; exact SeqAt.EqAt.int_str i t y u _ _ _ _ h
    · rcases keyIs_shape hv with ⟨j, u, rfl, rfl⟩ | ⟨y, u, rfl, rfl⟩
      · rw [key_rl] at h; exact SeqAt.EqAt.str_int x t j u _ _ _ _ h
      · rw [key_rr] at h; exact wpAny_eqBool_str h
  «strs» := fun k x t v h => by
    rcases keyIs_shape h with ⟨i, u, rfl, e⟩ | ⟨y, u, rfl, e⟩
    · exact nomatch e
    · injection e with e1 _
      subst e1
      cases v <;> rfl

theorem mixKind_int (prog : Program) (w : World) (i : Int) (t : Tok) : (mixKind prog w).is (.inl i) (.int i t) = true := keyIs_int i t
theorem mixKind_str (prog : Program) (w : World) (x : Str) (t : Tok) : (mixKind prog w).is (.inr x) (.str x t) = true := keyIs_str x t
end L2

namespace L2
open PySem PySem.Spec PyProof.Rows

inductive V where
  | non | bl (b : Bool) | int (i : Int) | str (x : Str) | byt (b : Array UInt8) | flt (b : UInt64) | ref (a : Addr) | ty (n : String)
  deriving DecidableEq

noncomputable def RelV : V → Value → Prop
  | .non, u => u = Value.none
  | .bl b, u => u = Value.bool b
  | .int i, u => ∃ t, u = Value.int i t
  | .str x, u => ∃ t, u = Value.str x t
  | .byt b, u => ∃ t, u = Value.bytes b t
  | .flt b, u => ∃ t, u = Value.float b t
  | .ref a, u => u = Value.ref a
  | .ty n, u => u = Value.type n

noncomputable abbrev Vals : List V → List Value → Prop := Paired RelV
theorem Vals.length {xs : List V} {us : List Value} (r : Vals xs us) : xs.length = us.length := Paired.length r
theorem Vals.get : ∀ {xs : List V} {us : List Value} {i : Nat} {x : V}, Vals xs us → xs[i]? = some x → ∃ u, us[i]? = some u ∧ RelV x u
  | _, _, _, _, .nil, e => by simp at e
  | _, _, 0, _, .cons r _, e => by simp at e; subst e; exact ⟨_, rfl, r⟩
  | _, _, i + 1, x, .cons _ t, e => by
    obtain ⟨u, h1, h2⟩ := Vals.get (i := i) (x := x) t (by simpa using e)
    exact ⟨u, by simpa using h1, h2⟩
theorem Vals.set {x : V} {u : Value} (r : RelV x u) : ∀ {xs : List V} {us : List Value} (i : Nat), Vals xs us → Vals (xs.set i x) (us.set i u)
  | _, _, _, .nil => .nil
  | _, _, 0, .cons _ t => .cons r t
  | _, _, i + 1, .cons q t => .cons q (Vals.set r i t)
theorem Vals.append : ∀ {xs ys : List V} {us ws : List Value}, Vals xs us → Vals ys ws → Vals (xs ++ ys) (us ++ ws)
  | _, _, _, _, .nil, s => s
  | _, _, _, _, .cons r t, s => .cons r (Vals.append t s)
theorem Vals.take : ∀ {xs : List V} {us : List Value} (n : Nat), Vals xs us → Vals (xs.take n) (us.take n)
  | _, _, 0, _ => .nil
  | _, _, _ + 1, .nil => .nil
  | _, _, n + 1, .cons r t => .cons r (Vals.take n t)
theorem Vals.drop : ∀ {xs : List V} {us : List Value} (n : Nat), Vals xs us → Vals (xs.drop n) (us.drop n)
  | _, _, 0, r => r
  | _, _, _ + 1, .nil => .nil
  | _, _, n + 1, .cons _ t => Vals.drop n t
noncomputable def RelO : Option V → Option Value → Prop
  | some v, some u => RelV v u
  | none, none => True
  | _, _ => False
noncomputable def KV {κ : Type} : List (κ × V) → List (κ × Value) → Prop := Paired fun (p : κ × V) (q : κ × Value) => p.1 = q.1 ∧ RelV p.2 q.2

noncomputable def kV : Key → V
  | .inl i => .int i
  | .inr x => .str x

inductive HO where
  /-- a list -/
  | lst (xs : List V)
  /-- a tuple (never changes) -/
  | tup (xs : List V)
  /-- a dict whose keys are ints and texts; one whose keys are tuples of ints and texts (the empty one is both) -/
  | dK (kvs : List (Key × V)) | dT (kvs : List (List Key × V))
  /-- a set of ints: its members, its size -/
  | set (S : Int → Bool) (n : Nat)
  /-- an instance of the class at C, its dict at dx, its attributes -/
  | ins (C dx : Addr) (fs : List (Str × V))
  /-- the dict of the instance at x -/
  | own (x : Addr)
  /-- the dict of an exception -/
  | xd (fs : List (Str × V))
  /-- a bound method, f of x -/
  | met (f x : Addr)
  /-- a range object lo, lo + 1, .. below hi -/
  | rng (lo hi : Int)
  /-- a thing that is known to the object (the script; a dict while a loop walks it): read, never written while it is so -/
  | frz (o : Obj) (u : HO)
  /-- a code object's table -/
  | tbl (ps : Array Value)
  /-- any other thing, by what is true of its one object (a def of one's own: SetO a S n := HO.ext fun h => ..) -/
  | ext (φ : Heap → Prop)

noncomputable abbrev Hp := Addr → Option HO
noncomputable def upd (H : Hp) (a : Addr) (o : HO) : Hp := fun b => if b = a then some o else H b
theorem upd_same {H : Hp} {a : Addr} {o : HO} : upd H a o a = some o := by unfold upd; rw [if_pos rfl]
theorem upd_ne {H : Hp} {a b : Addr} {o : HO} (h : b ≠ a) : upd H a o b = H b := by unfold upd; rw [if_neg h]
theorem ne_of {H : Hp} {a b : Addr} {o u : HO} (h : H a = some o) (h' : H b = some u) (d : o ≠ u) : a ≠ b := by
  intro e; subst e; rw [h] at h'; exact d (Option.some.inj h')
theorem ne_of_none {H : Hp} {a b : Addr} {o : HO} (h : H a = some o) (h' : H b = none) : a ≠ b := by
  intro e; subst e; rw [h] at h'; cases h'

section
variable (P : Program) (w : World)
noncomputable def ObjOk (H : Hp) (h : Heap) (a : Addr) : HO → Prop
  | .lst xs => xs.length ≤ sizeLine ∧ ∃ (its : List Value) (n : Nat), Vals xs its ∧ h.get? a = some { cls := .type "list", data := .seq its.toArray n }
  | .tup xs => xs.length ≤ sizeLine ∧ ∃ its : List Value, Vals xs its ∧ IsTup h a its.toArray
  | .dK kvs => kvs.length ≤ sizeLine ∧ (a == sysModules) = false ∧ ∃ vs, KV kvs vs ∧ h.DictOf (mixKind P w) a vs
  | .dT kvs => kvs.length ≤ sizeLine ∧ (a == sysModules) = false ∧ ∃ xs : List (List Key × Addr × Value),
      Paired (fun (p : List Key × V) (q : List Key × Addr × Value) => p.1 = q.1 ∧ H q.2.1 = some (.tup (p.1.map kV)) ∧ RelV p.2 q.2.2) kvs xs ∧
      ∃ o es ep, h.get? a = some o ∧ o.ExactDict ∧ o.data = .dict es ep ∧ es.toList = xs.map (entryOfKey (tupleKind (mixKind P w))) ∧ (xs.map (·.1)).Nodup
  | .set S n => h.SetOf (intKind P w) a S n
  | .ins C dx fs => H dx = some (.own a) ∧ fs.length ≤ 1000 ∧ dx ≠ a ∧ h.get? a = some (PySem.W.instObj C dx) ∧
      ∃ mA, h.Ns1 dx mA ∧ (∀ f, RelO (fs.lookup f) (mA f)) ∧ PySem.Within mA (fs.map (·.1))
  | .own _ => ∃ o, h.get? a = some o
  | .xd fs => ∃ mA, h.Ns1 a mA ∧ ∀ f, RelO (fs.lookup f) (mA f)
  | .rng lo hi => ∃ t u v, h.get? a = some { cls := .type "range", data := .fields #[.int lo t, .int hi u, .int 1 v] }
  | .frz o u => h.get? a = some o ∧ ObjOk H h a u
  | .tbl ps => h.get? a = some { cls := .none, data := .fields ps }
  | .met f x => h.get? a = some (PySem.W.methodObj (.ref f) (.ref x))
  | .ext φ => φ h ∧ (∃ o, h.get? a = some o) ∧ ∀ h1 h2 : Heap, φ h1 → (∀ o, h1.get? a = some o → h2.get? a = some o) → φ h2
noncomputable def HOk (H : Hp) (h : Heap) : Prop := ∀ a o, H a = some o → ObjOk P w H h a o
end

section
variable {P : Program} {w : World} {H H' : Hp} {h h' : Heap} {a : Addr} {o : HO}
theorem ObjOk.lt (x : ObjOk P w H h a o) : a < h.objs.size := by
  cases o with
  | lst xs => obtain ⟨_, _, _, _, e⟩ := x; exact Heap.lt_size e
  | tup xs => obtain ⟨_, _, _, p⟩ := x; exact p.lt
  | dK kvs => obtain ⟨_, _, _, _, o, _, _, e, _⟩ := x; exact Heap.lt_size e
  | dT kvs => obtain ⟨_, _, _, _, o, _, _, e, _⟩ := x; exact Heap.lt_size e
  | set S n => obtain ⟨o, _, _, _, e, _⟩ := x; exact Heap.lt_size e
  | ins C dx fs => obtain ⟨_, _, _, e, _⟩ := x; exact Heap.lt_size e
  | own y => obtain ⟨_, e⟩ := x; exact Heap.lt_size e
  | xd fs => obtain ⟨_, ⟨_, _, _, e, _⟩, _⟩ := x; exact Heap.lt_size e
  | rng lo hi => obtain ⟨_, _, _, e⟩ := x; exact Heap.lt_size e
  | frz ob u => obtain ⟨e, _⟩ := x; exact Heap.lt_size e
  | tbl ps => exact Heap.lt_size (show h.get? a = some _ from x)
  | met f y => exact Heap.lt_size (show h.get? a = some _ from x)
  | ext φ => obtain ⟨_, ⟨_, e⟩, _⟩ := x; exact Heap.lt_size e
theorem Paired.mapP {α β : Type} {F G : α → β → Prop} : ∀ {l₁ : List α} {l₂ : List β}, Paired F l₁ l₂ → (∀ a b, F a b → G a b) → Paired G l₁ l₂
  | _, _, .nil, _ => .nil
  | _, _, .cons r t, f => .cons (f _ _ r) (Paired.mapP t f)
theorem ObjOk.stay (x : ObjOk P w H h a o) (k : ∀ b u, (b = a ∨ H b = some (.own a)) → h.get? b = some u → h'.get? b = some u)
    (ho : ∀ b, H b = some (.own a) → H' b = some (.own a)) (ht : ∀ b xs, H b = some (.tup xs) → H' b = some (.tup xs)) : ObjOk P w H' h' a o := by
  induction o with
  | lst xs => obtain ⟨z, its, n, r, e⟩ := x; exact ⟨z, its, n, r, k _ _ (.inl rfl) e⟩
  | tup xs => obtain ⟨z, its, r, ob, e, c⟩ := x; exact ⟨z, its, r, ob, k _ _ (.inl rfl) e, c⟩
  | dK kvs => obtain ⟨z, y, vs, r, ob, es, ep, e, c⟩ := x; exact ⟨z, y, vs, r, ob, es, ep, k _ _ (.inl rfl) e, c⟩
  | dT kvs =>
    obtain ⟨z, y, xs, r, ob, es, ep, e, c⟩ := x
    exact ⟨z, y, xs, Paired.mapP r fun p q z => ⟨z.1, ht _ _ z.2.1, z.2.2⟩, ob, es, ep, k _ _ (.inl rfl) e, c⟩
  | set S n => obtain ⟨ob, es, ep, t, e, c⟩ := x; exact ⟨ob, es, ep, t, k _ _ (.inl rfl) e, c⟩
  | ins C dx fs =>
    obtain ⟨d, z, ne, e, mA, ⟨od, es, ep, e2, c⟩, r⟩ := x
    exact ⟨ho _ d, z, ne, k _ _ (.inl rfl) e, mA, ⟨od, es, ep, k _ _ (.inr d) e2, c⟩, r⟩
  | own y => obtain ⟨ob, e⟩ := x; exact ⟨ob, k _ _ (.inl rfl) e⟩
  | xd fs => obtain ⟨mA, ⟨od, es, ep, e, c⟩, r⟩ := x; exact ⟨mA, ⟨od, es, ep, k _ _ (.inl rfl) e, c⟩, r⟩
  | rng lo hi => obtain ⟨t, u, v, e⟩ := x; exact ⟨t, u, v, k _ _ (.inl rfl) e⟩
  | frz ob u ih => obtain ⟨e, q⟩ := x; exact ⟨k _ _ (.inl rfl) e, ih q⟩
  | tbl ps =>
    have e : h.get? a = some { cls := .none, data := .fields ps } := x
    show h'.get? a = some { cls := .none, data := .fields ps }
    exact k a _ (.inl rfl) e
  | met f y =>
    have e : h.get? a = some (PySem.W.methodObj (.ref f) (.ref y)) := x
    show h'.get? a = some (PySem.W.methodObj (.ref f) (.ref y))
    exact k a _ (.inl rfl) e
  | ext φ => obtain ⟨p, ⟨o, e⟩, st⟩ := x; exact ⟨st _ _ p fun o q => k _ _ (.inl rfl) q, ⟨o, k _ _ (.inl rfl) e⟩, st⟩
theorem HOk.lt (x : HOk P w H h) (e : H a = some o) : a < h.objs.size := (x a o e).lt
theorem HOk.fresh (x : HOk P w H h) (e : h.objs.size ≤ a) : H a = none := by
  cases q : H a with
  | none => rfl
  | some u => exact absurd (Nat.lt_of_lt_of_le (x.lt q) e) (Nat.lt_irrefl _)
theorem HOk.kept (x : HOk P w H h) (k : ∀ b u, h.get? b = some u → h'.get? b = some u) : HOk P w H h' := fun a o e =>
  (x a o e).stay (fun b u _ q => k b u q) (fun _ q => q) fun _ _ q => q
theorem HOk.laid (x : HOk P w H h) (k : ∀ b u, h.get? b = some u → h'.get? b = some u) (hp : h.objs.size ≤ a) (new : ObjOk P w (upd H a o) h' a o) : HOk P w (upd H a o) h' := fun b u e => by
  have hn := x.fresh hp
  by_cases hb : b = a
  · subst hb; rw [upd_same] at e; cases e; exact new
  · rw [upd_ne hb] at e
    exact (x b u e).stay (fun c v _ q => k c v q) (fun c q => by rw [upd_ne (ne_of_none q hn)]; exact q) fun c xs q => by rw [upd_ne (ne_of_none q hn)]; exact q
end

noncomputable def Rd (H : Hp) (a : Addr) (u : HO) : Prop := H a = some u ∨ ∃ o, H a = some (.frz o u)
theorem Rd.ok {P : Program} {w : World} {H : Hp} {h : Heap} {a : Addr} {u : HO} (r : Rd H a u) (x : HOk P w H h) : ObjOk P w H h a u := by
  rcases r with r | ⟨o, r⟩
  · exact x a u r
  · obtain ⟨_, q⟩ := x a _ r
    exact q
noncomputable def Mut : Option HO → Prop
  | some (.lst _) => True
  | some (.dK _) => True
  | some (.dT _) => True
  | some (.set _ _) => True
  | some (.ins _ _ _) => True
  | some (.ext _) => True
  | _ => False
section
variable {P : Program} {w : World} {H : Hp} {h h' : Heap} {x e : Addr} {o' : HO}
theorem HOk.write (ok : HOk P w H h) (mu : Mut (H x)) (he : e = x ∨ H e = some (.own x)) (k : ∀ b u, b ≠ e → h.get? b = some u → h'.get? b = some u) (heo : ∃ u, h'.get? e = some u)
    (new : ObjOk P w (upd H x o') h' x o') : HOk P w (upd H x o') h' := fun b u q => by
  have nown : ∀ c y, H c = some (.own y) → c ≠ x := fun c y r z => by subst z; rw [r] at mu; exact mu
  have ntup : ∀ c xs, H c = some (.tup xs) → c ≠ x := fun c xs r z => by subst z; rw [r] at mu; exact mu
  by_cases hb : b = x
  · subst hb; rw [upd_same] at q; cases q; exact new
  · rw [upd_ne hb] at q
    by_cases hbe : b = e
    · have q' : H b = some (.own x) := by
        rcases he with z | z
        · exact absurd (hbe.trans z) hb
        · rw [hbe]; exact z
      rw [q] at q'; cases q'
      obtain ⟨v, hv⟩ := heo
      exact ⟨v, by rw [hbe]; exact hv⟩
    · refine (ok b u q).stay (fun c v hc r => k c v ?_ r) (fun c r => by rw [upd_ne (nown c b r)]; exact r) fun c xs r => by rw [upd_ne (ntup c xs r)]; exact r
      rcases hc with rfl | hc
      · exact hbe
      · rintro rfl
        rcases he with z | z
        · exact nown c b hc z
        · rw [hc] at z; cases z; exact hb rfl
end

structure Un (fs ex : List Addr) (H H' : Hp) (h h' : Heap) : Prop where
  keep : ∀ b o, h.get? b = some o → H b = none → b ∉ fs → b ∉ ex → h'.get? b = some o
  slot : ∀ b o, h.get? b = some o → H b = none → b ∈ fs → b ∉ ex → ∃ sl, h'.get? b = some { o with slots := sl }
  free : ∀ b o, h.get? b = some o → H b = none → b ∉ ex → H' b = none
  there : ∀ b o, h.get? b = some o → b ∉ ex → ∃ o', h'.get? b = some o'
  tups : ∀ b xs, H b = some (.tup xs) → H' b = some (.tup xs)
  frzs : ∀ b o u, H b = some (.frz o u) → H' b = some (.frz o u)
  tbls : ∀ b ps, H b = some (.tbl ps) → ∃ more, H' b = some (.tbl (ps ++ more))
section
variable {fs fs' ex ex' : List Addr} {H H1 H2 : Hp} {h h1 h2 h' : Heap} {a x e : Addr} {o : HO}
theorem Un.any (u : Un fs ex H H1 h h1) {b : Addr} {ob : Obj} (q : h.get? b = some ob) (n : H b = none) (hx : b ∉ ex) : ∃ sl, h1.get? b = some { ob with slots := sl } := by
  by_cases hb : b ∈ fs
  · exact u.slot b ob q n hb hx
  · exact ⟨ob.slots, u.keep b ob q n hb hx⟩
theorem Un.kept (k : ∀ b u, h.get? b = some u → h'.get? b = some u) : Un fs ex H H h h' :=
  ⟨fun b ob q _ _ _ => k b ob q, fun b ob q _ _ _ => ⟨ob.slots, k b ob q⟩, fun _ _ _ n _ => n, fun b ob q _ => ⟨ob, k b ob q⟩, fun _ _ q => q, fun _ _ _ q => q, fun _ ps q => ⟨#[], by rw [q]; simp⟩⟩
theorem Un.refl : Un fs ex H H h h := Un.kept fun _ _ q => q
theorem Un.laid (k : ∀ b u, h.get? b = some u → h'.get? b = some u) (hp : h.objs.size ≤ a) (hn : H a = none) : Un fs ex H (upd H a o) h h' where
  keep := fun b u q _ _ _ => k b u q
  slot := fun b u q _ _ _ => ⟨u.slots, k b u q⟩
  free := fun b u q n _ => by rw [upd_ne (Nat.ne_of_lt (Nat.lt_of_lt_of_le (Heap.lt_size q) hp))]; exact n
  there := fun b u q _ => ⟨u, k b u q⟩
  tups := fun b xs q => by rw [upd_ne (ne_of_none q hn)]; exact q
  frzs := fun b u xs q => by rw [upd_ne (ne_of_none q hn)]; exact q
  tbls := fun b ps q => ⟨#[], by rw [upd_ne (ne_of_none q hn), q]; simp⟩
theorem Un.write (mu : Mut (H x)) (he : e = x ∨ H e = some (.own x)) (k : ∀ b u, b ≠ e → h.get? b = some u → h'.get? b = some u) (heo : ∃ u, h'.get? e = some u) : Un fs ex H (upd H x o) h h' := by
  have hx : ∀ b, H b = none → b ≠ x := fun b n z => by subst z; rw [n] at mu; exact mu
  have hb : ∀ b, H b = none → b ≠ e := fun b n z => by
    subst z
    rcases he with r | r
    · exact hx b n r
    · rw [n] at r; cases r
  have hm : ∀ b u, H b = some u → ¬ Mut (some u) → b ≠ x := fun b u q nm z => by subst z; rw [q] at mu; exact nm mu
  refine ⟨fun b u q n _ _ => k b u (hb b n) q, fun b u q n _ _ => ⟨u.slots, k b u (hb b n) q⟩, fun b u q n _ => by rw [upd_ne (hx b n)]; exact n, fun b u q _ => ?_,
    fun b xs q => by rw [upd_ne (hm b _ q fun z => z)]; exact q, fun b u xs q => by rw [upd_ne (hm b _ q fun z => z)]; exact q, fun b ps q => ⟨#[], by rw [upd_ne (hm b _ q fun z => z), q]; simp⟩⟩
  by_cases hbe : b = e
  · subst hbe; exact heo
  · exact ⟨u, k b u hbe q⟩
end

noncomputable def trk (h : Heap) (H : Hp) : List Addr := (List.range h.objs.size).filter fun a => (H a).isSome
noncomputable def hidT (h : Heap) (H : Hp) : Heap := PySem.W.hideAll h (trk h H)
theorem hidT_size (h : Heap) (H : Hp) : (hidT h H).objs.size = h.objs.size := PySem.W.hideAll_size _ _
theorem hidT_get {h : Heap} {H : Hp} {b : Addr} {o : Obj} (e : h.get? b = some o) (n : H b = none) : (hidT h H).get? b = some o :=
  PySem.W.hideAll_get _ e fun hm => by
    have q : (H b).isSome = true := (List.mem_filter.mp hm).2
    rw [n] at q; simp at q
theorem of_hidT {h : Heap} {H : Hp} {b : Addr} {o : Obj} (e : (hidT h H).get? b = some o) : h.get? b = some o ∧ H b = none := by
  have e' : h.get? b = some o := PySem.W.of_hideAll (trk h H) e
  refine ⟨e', ?_⟩
  cases q : H b with
  | none => rfl
  | some x =>
    have hm : b ∈ trk h H := List.mem_filter.mpr ⟨List.mem_range.mpr (Heap.lt_size e'), by simp [q]⟩
    have z : (hidT h H).get? b = none := PySem.W.hideAll_none (trk h H) hm
    rw [z] at e; cases e

end L2

namespace L2
open PySem PySem.Spec PyProof.Rows

structure Mod (K : PySem.W.Frag) (mg : Str → Option Value) (base : Heap) : Prop where
  kin : K.In base
  glob : base.Ns mainGlobals mg
  blt : ∃ mb, base.Ns builtinsNs mb ∧ ∀ x : Str, x ≠ "__name__" → mb x = bootBuiltins x
  nolimit : base.NoLimit
  sysm : ∃ mm, base.Ns sysModules mm

structure Cx where
  prog : Program
  w : World
  K : PySem.W.Frag
  mg : Str → Option Value
  base : Heap
  A : Around
  N : List Str
  s₀ : Shared
  H₀ : Hp
  env : Env
  outer : List Env
  stack : List Env
  ex : List Addr
  fn : Str → Bool
  calm : Bool
  pn : List (Addr × Obj)
  xe : Value → Shared → Prop
noncomputable def frs (l : List Env) : List Addr := l.filterMap (·.frame)
noncomputable abbrev Cx.fs (X : Cx) : List Addr := frs X.outer

noncomputable def Vis (sc : Scope) (x : Str) : Prop := sc.names.lookup x = some .local ∨ sc.names.lookup x = some .cell ∨ sc.names.lookup x = some .free
noncomputable def Loc (sc : Scope) (x : Str) : Prop := sc.names.lookup x = some .local ∨ sc.names.lookup x = some .cell
noncomputable def Look (env : Env) (h : Heap) (m : Str → Option Value) (x : Str) (u : Value) : Prop :=
  (env.kindOf x = some .local ∧ m x = some u) ∨ ((env.kindOf x = some .cell ∨ env.kindOf x = some .free) ∧ ∃ c, env.cells.lookup x = some c ∧ h.IsCell c (some u))

structure Cx.Ok (X : Cx) : Prop where
  mod : Mod X.K X.mg X.base
  kind : X.env.scope.kind = .function
  glob : X.env.globals = mainGlobals
  blt : X.env.builtins = builtinsNs
  above : X.s₀.heap.objs.size ≤ X.env.locals
  inj : ∀ x y c, X.env.cells.lookup x = some c → X.env.cells.lookup y = some c → x = y
  has : ∀ x, (X.env.kindOf x = some .cell ∨ X.env.kindOf x = some .free) → ∃ c, X.env.cells.lookup x = some c
  cab : ∀ x c, X.fn x = true → X.env.cells.lookup x = some c → X.s₀.heap.objs.size ≤ c
  hd : X.calm = true → X.A.handled = none
  frames : X.A.frames = some X.stack
  stk : X.stack = X.outer ∨ (X.stack = X.env :: X.outer ∧ X.env.frame = some X.env.locals)
  exf : ∀ b ∈ X.ex, b ≠ X.env.locals ∧ ∀ x c, X.env.cells.lookup x = some c → c ≠ b
  bs : ∀ b o, X.base.get? b = some o → X.s₀.heap.get? b = some o ∧ X.H₀ b = none
  bsz : X.base.objs.size ≤ X.s₀.heap.objs.size
  noex : ∀ b o, X.base.get? b = some o → b ∉ X.ex
  exfs : ∀ b ∈ X.ex, b ∉ X.fs
  funs : X.s₀.heap.FunFrames X.base X.outer
  frf : ∀ b ∈ X.fs, X.H₀ b = none

structure Inv (X : Cx) (pins : List (Addr × Obj)) (σ : List (Option V)) (H : Hp) (s : Shared) : Prop where
  ok : X.Ok
  os : s.os = X.s₀.os
  bare : AllBare s.gens
  base : Un X.fs X.ex X.H₀ H X.s₀.heap s.heap
  loc : ∃ m, s.heap.Ns X.env.locals m ∧ ∀ (i : Nat) (x : Str) (v : V), X.N[i]? = some x → σ[i]? = some (some v) → Vis X.env.scope x → ∃ u, RelV v u ∧ Look X.env s.heap m x u
  cell : ∀ x c, X.env.cells.lookup x = some c → ∃ v, s.heap.IsCell c v
  free : H X.env.locals = none
  freeC : ∀ x c, X.env.cells.lookup x = some c → H c = none
  pin : ∀ p ∈ X.pn ++ pins, s.heap.get? p.1 = some p.2 ∧ H p.1 = none ∧ p.1 ≠ X.env.locals ∧ p.1 ∉ X.fs ∧ ∀ v, p.2.data ≠ .cell v
  hok : HOk X.prog X.w H s.heap
  len : σ.length = X.N.length

section
variable {X : Cx} {pins : List (Addr × Obj)} {σ : List (Option V)} {H H' : Hp} {s : Shared} {h' : Heap}

theorem Cx.Ok.nofr (ok : X.Ok) {b : Addr} {o : Obj} (e : X.base.get? b = some o) : b ∉ X.fs := fun hb => by
  have := (ok.funs.mem hb).1
  rw [e] at this; cases this
theorem Inv.bs (I : Inv X pins σ H s) : ∀ b o, X.base.get? b = some o → s.heap.get? b = some o ∧ H b = none := fun b o e =>
  ⟨I.base.keep b o (I.ok.bs b o e).1 (I.ok.bs b o e).2 (I.ok.nofr e) (I.ok.noex b o e), I.base.free b o (I.ok.bs b o e).1 (I.ok.bs b o e).2 (I.ok.noex b o e)⟩
theorem Inv.bk (I : Inv X pins σ H s) : ∀ b o, X.base.get? b = some o → s.heap.get? b = some o := fun b o e => (I.bs b o e).1
theorem Inv.mod (I : Inv X pins σ H s) : Mod X.K X.mg X.base := I.ok.mod
theorem Inv.kIn (I : Inv X pins σ H s) : X.K.In s.heap := I.ok.mod.kin.keeps I.bk
theorem Inv.lt (I : Inv X pins σ H s) : X.env.locals < s.heap.objs.size := let ⟨_, hn, _⟩ := I.loc; hn.lt
theorem Inv.sz (I : Inv X pins σ H s) : X.s₀.heap.objs.size ≤ s.heap.objs.size := Nat.le_trans I.ok.above (Nat.le_of_lt I.lt)
theorem Inv.nofs (I : Inv X pins σ H s) {a : Addr} (h : s.heap.objs.size ≤ a) : a ∉ X.fs := fun hb => by
  obtain ⟨_, o, ho, _⟩ := I.ok.funs.mem hb
  exact absurd (Nat.lt_of_lt_of_le (Heap.lt_size ho) (Nat.le_trans I.sz h)) (Nat.lt_irrefl _)
theorem Inv.cne (I : Inv X pins σ H s) : ∀ x c, X.env.cells.lookup x = some c → c ≠ X.env.locals := fun x c e z => by
  obtain ⟨v, o, ho, hd⟩ := I.cell x c e
  obtain ⟨m, ⟨o', es, ep, ho', hd', _⟩, _⟩ := I.loc
  rw [z, ho'] at ho; cases ho; rw [hd'] at hd; cases hd
theorem Inv.funs (I : Inv X pins σ H s) : s.heap.FunFrames X.base X.outer := by
  have all : ∀ (l : List Env), (∀ b ∈ frs l, b ∈ X.fs) → X.s₀.heap.FunFrames X.base l → s.heap.FunFrames X.base l := by
    intro l
    induction l with
    | nil => intro _ _; trivial
    | cons env r ih =>
      intro hs hl
      obtain ⟨hk, ⟨L, o, hf, hn, ho, hd⟩, hr⟩ := hl
      have hL : L ∈ X.fs := hs L (by unfold frs; rw [List.filterMap_cons, hf]; exact List.mem_cons_self)
      obtain ⟨sl, e⟩ := I.base.slot L o ho (I.ok.frf L hL) hL fun z => I.ok.exfs L z hL
      exact ⟨hk, ⟨L, _, hf, hn, e, hd⟩, ih (fun b hb => hs b (by unfold frs; rw [List.filterMap_cons, hf]; exact List.mem_cons_of_mem _ hb)) hr⟩
  exact all X.outer (fun _ hb => hb) I.ok.funs

theorem Inv.stack (I : Inv X pins σ H s) : s.heap.FunFrames X.base X.stack := by
  rcases I.ok.stk with e | ⟨e, hf⟩
  · rw [e]; exact I.funs
  · rw [e]
    obtain ⟨m, hn, _⟩ := I.loc
    refine .cons (by rw [I.ok.kind]; decide) hf hn ?_ I.funs
    exact Heap.get?_none_of_le (Nat.le_trans I.ok.bsz I.ok.above)
theorem Inv.stkSub (I : Inv X pins σ H s) : ∀ b ∈ frs X.stack, b ∈ X.env.locals :: X.fs := fun b hb => by
  rcases I.ok.stk with e | ⟨e, hf⟩
  · rw [e] at hb; exact List.mem_cons_of_mem _ hb
  · rw [e] at hb
    unfold frs at hb
    rw [List.filterMap_cons, hf] at hb
    exact hb
theorem Inv.stkFree (I : Inv X pins σ H s) : ∀ b ∈ frs X.stack, H b = none := fun b hb => by
  rcases List.mem_cons.mp (I.stkSub b hb) with e | hb
  · rw [e]; exact I.free
  · obtain ⟨_, o, ho, _⟩ := I.ok.funs.mem hb
    exact I.base.free b o ho (I.ok.frf b hb) fun z => I.ok.exfs b z hb

theorem Inv.step {g' : Array GenState} {t' : Nat} {d' : Drawn} {ch : List Addr} (I : Inv X pins σ H s)
    (hch : ∀ b ∈ ch, (b ∈ X.ex ∨ X.s₀.heap.objs.size ≤ b) ∧ b ≠ X.env.locals ∧ (∀ x c, X.env.cells.lookup x = some c → c ≠ b) ∧ ∀ p ∈ X.pn ++ pins, p.1 ≠ b)
    (keep : ∀ b o, b ≠ X.env.locals → b ∉ X.fs → b ∉ ch → s.heap.get? b = some o → H b = none → h'.get? b = some o)
    (slot : ∀ b o, b ≠ X.env.locals → b ∈ X.fs → b ∉ ch → s.heap.get? b = some o → H b = none → ∃ sl, h'.get? b = some { o with slots := sl }) (free : ∀ b o, b ∉ ch → s.heap.get? b = some o → H b = none → H' b = none)
    (there : ∀ b o, b ∉ ch → s.heap.get? b = some o → ∃ o', h'.get? b = some o')
    (tups : ∀ b xs, H b = some (.tup xs) → H' b = some (.tup xs)) (frzs : ∀ b o u, H b = some (.frz o u) → H' b = some (.frz o u)) (tbls : ∀ b ps, H b = some (.tbl ps) → ∃ more, H' b = some (.tbl (ps ++ more)))
    (ns : ∀ m, s.heap.Ns X.env.locals m → h'.Ns X.env.locals m) (hok : HOk X.prog X.w H' h') (hg : AllBare g') :
    Inv X pins σ H' { s with heap := h', gens := g', drawn := d', toks := t' } := by
  have neL : ∀ b o, X.s₀.heap.get? b = some o → b ≠ X.env.locals := fun b o e => Nat.ne_of_lt (Nat.lt_of_lt_of_le (Heap.lt_size e) I.ok.above)
  have neC : ∀ b o, X.s₀.heap.get? b = some o → b ∉ X.ex → b ∉ ch := fun b o e hx hb => by
    rcases (hch b hb).1 with z | z
    · exact hx z
    · exact absurd (Nat.lt_of_lt_of_le (Heap.lt_size e) z) (Nat.lt_irrefl _)
  have cellK : ∀ x c, X.env.cells.lookup x = some c → ∀ v, s.heap.IsCell c v → h'.IsCell c v := fun x c e v ⟨o, ho, hd⟩ => by
    have nch : c ∉ ch := fun z => (hch c z).2.2.1 x c e rfl
    by_cases hc : c ∈ X.fs
    · obtain ⟨sl, q⟩ := slot c o (I.cne x c e) hc nch ho (I.freeC x c e)
      exact ⟨_, q, hd⟩
    · exact ⟨o, keep c o (I.cne x c e) hc nch ho (I.freeC x c e), hd⟩
  refine ⟨I.ok, I.os, hg, ⟨fun b o e n hb hx => ?_, fun b o e n hb hx => ?_, fun b o e n hx => ?_, fun b o e hx => ?_, fun b xs e => tups b xs (I.base.tups b xs e), fun b o xs e => frzs b o xs (I.base.frzs b o xs e), fun b ps e => ?_⟩, ?_, fun x c e => ?_, ?_, fun x c e => ?_, fun p hp => ?_, hok, I.len⟩
  · exact keep b o (neL b o e) hb (neC b o e hx) (I.base.keep b o e n hb hx) (I.base.free b o e n hx)
  · obtain ⟨sl, e1⟩ := I.base.slot b o e n hb hx
    obtain ⟨sl', e2⟩ := slot b _ (neL b o e) hb (neC b o e hx) e1 (I.base.free b o e n hx)
    exact ⟨sl', e2⟩
  · obtain ⟨o', e1⟩ := I.base.there b o e hx
    exact free b o' (neC b o e hx) e1 (I.base.free b o e n hx)
  · obtain ⟨o', e1⟩ := I.base.there b o e hx
    exact there b o' (neC b o e hx) e1
  · obtain ⟨m1, e1⟩ := I.base.tbls b ps e
    obtain ⟨m2, e2⟩ := tbls b _ e1
    exact ⟨m1 ++ m2, by rw [e2, Array.append_assoc]⟩
  · obtain ⟨m, hn, hl⟩ := I.loc
    refine ⟨m, ns m hn, fun i x v e1 e2 e3 => ?_⟩
    obtain ⟨u, r, l⟩ := hl i x v e1 e2 e3
    refine ⟨u, r, ?_⟩
    rcases l with l | ⟨k, c, e, z⟩
    · exact .inl l
    · exact .inr ⟨k, c, e, cellK x c e _ z⟩
  · obtain ⟨v, z⟩ := I.cell x c e
    exact ⟨v, cellK x c e v z⟩
  · obtain ⟨m, ⟨o, _, _, ho, _⟩, _⟩ := I.loc
    exact free _ o (fun z => (hch _ z).2.1 rfl) ho I.free
  · obtain ⟨v, o, ho, hd⟩ := I.cell x c e
    exact free c o (fun z => (hch c z).2.2.1 x c e rfl) ho (I.freeC x c e)
  · obtain ⟨e, n, ne, nf, d⟩ := I.pin p hp
    have nch : p.1 ∉ ch := fun z => (hch p.1 z).2.2.2 p hp rfl
    exact ⟨keep p.1 p.2 ne nf nch e n, free p.1 p.2 nch e n, ne, nf, d⟩
theorem Inv.un {t' : Nat} (I : Inv X pins σ H s) (u : Un X.fs [] H H' s.heap h') (hok : HOk X.prog X.w H' h') : Inv X pins σ H' { s with heap := h', toks := t' } := by
  obtain ⟨m, ⟨o, es, ep, ho, r⟩, _⟩ := id I.loc
  obtain ⟨sl, hL⟩ := u.any ho I.free (by simp)
  exact I.step (g' := s.gens) (d' := s.drawn) (ch := []) (fun _ z => nomatch z) (fun b o _ hb _ e n => u.keep b o e n hb (by simp)) (fun b o _ hb _ e n => u.slot b o e n hb (by simp)) (fun b o _ e n => u.free b o e n (by simp)) (fun b o _ e => u.there b o e (by simp)) u.tups u.frzs u.tbls (fun m' hm => by
    obtain ⟨o', es', ep', ho', r'⟩ := hm
    rw [ho] at ho'; cases ho'
    exact ⟨_, es', ep', hL, r'⟩) hok I.bare
theorem Inv.call {g' : Array GenState} {t' : Nat} {d' : Drawn} {ch : List Addr} (I : Inv X pins σ H s) (u : Un (frs X.stack) ch H H' s.heap h') (hok : HOk X.prog X.w H' h') (hg : AllBare g')
    (hch : ∀ b ∈ ch, (b ∈ X.ex ∨ X.s₀.heap.objs.size ≤ b) ∧ b ≠ X.env.locals ∧ (∀ x c, X.env.cells.lookup x = some c → c ≠ b) ∧ ∀ p ∈ X.pn ++ pins, p.1 ≠ b) :
    Inv X pins σ H' { s with heap := h', gens := g', drawn := d', toks := t' } := by
  obtain ⟨m, ⟨o, es, ep, ho, r⟩, _⟩ := id I.loc
  obtain ⟨sl, hL⟩ := u.any ho I.free fun z => (hch _ z).2.1 rfl
  exact I.step (ch := ch) hch (fun b o hL hb hc e n => u.keep b o e n (fun z => (List.mem_cons.mp (I.stkSub b z)).elim hL hb) hc) (fun b o _ _ hc e n => u.any e n hc) (fun b o hc e n => u.free b o e n hc) (fun b o hc e => u.there b o e hc) u.tups u.frzs u.tbls (fun m' hm => by
    obtain ⟨o', es', ep', ho', r'⟩ := hm
    rw [ho] at ho'; cases ho'
    exact ⟨_, es', ep', hL, r'⟩) hok hg
theorem Inv.turned {t' : Nat} {it : Addr} (I : Inv X pins σ H s) (k : ∀ b o, b ≠ it → s.heap.get? b = some o → h'.get? b = some o) (hn : H it = none) (hL : it ≠ X.env.locals)
    (h1 : it ∈ X.ex ∨ X.s₀.heap.objs.size ≤ it) (h2 : ∀ x c, X.env.cells.lookup x = some c → c ≠ it) (h3 : ∀ p ∈ X.pn ++ pins, p.1 ≠ it) : Inv X pins σ H { s with heap := h', toks := t' } := by
  have nit : ∀ b u, H b = some u → b ≠ it := fun b u e z => by rw [z, hn] at e; cases e
  refine I.step (g' := s.gens) (d' := s.drawn) (ch := [it]) (fun b hb => ?_) (fun b o _ _ hc e _ => k b o (fun z => hc (by simp [z])) e) (fun b o _ _ hc e _ => ⟨o.slots, k b o (fun z => hc (by simp [z])) e⟩) (fun _ _ _ _ n => n)
    (fun b o hc e => ⟨o, k b o (fun z => hc (by simp [z])) e⟩) (fun _ _ e => e) (fun _ _ _ e => e) (fun b ps e => ⟨#[], by rw [e]; simp⟩) (fun m hm => ?_) (fun b u e => ?_) I.bare
  · have e : b = it := by simpa using hb
    subst e
    exact ⟨h1, hL, h2, h3⟩
  · obtain ⟨o, es, ep, ho, r⟩ := hm
    exact ⟨o, es, ep, k _ o (Ne.symm hL) ho, r⟩
  · refine (I.hok b u e).stay (fun c v hc q => k c v ?_ q) (fun _ q => q) fun _ _ q => q
    rcases hc with z | z
    · rw [z]; exact nit b u e
    · exact nit c _ z
theorem Inv.tok (I : Inv X pins σ H s) (t : Nat) : Inv X pins σ H { s with toks := t } := I.un (h' := s.heap) (t' := t) Un.refl I.hok
theorem Inv.kept {t' : Nat} (I : Inv X pins σ H s) (k : ∀ b u, s.heap.get? b = some u → h'.get? b = some u) : Inv X pins σ H { s with heap := h', toks := t' } := I.un (Un.kept k) (I.hok.kept k)
theorem Inv.laid {a : Addr} {o : HO} {t' : Nat} (I : Inv X pins σ H s) (k : ∀ b u, s.heap.get? b = some u → h'.get? b = some u) (hp : s.heap.objs.size ≤ a) (new : ObjOk X.prog X.w (upd H a o) h' a o) :
    Inv X pins σ (upd H a o) { s with heap := h', toks := t' } := I.un (Un.laid k hp (I.hok.fresh hp)) (I.hok.laid k hp new)
theorem Inv.write {x e : Addr} {o : HO} {t' : Nat} (I : Inv X pins σ H s) (mu : Mut (H x)) (he : e = x ∨ H e = some (.own x)) (k : ∀ b u, b ≠ e → s.heap.get? b = some u → h'.get? b = some u) (heo : ∃ u, h'.get? e = some u)
    (new : ObjOk X.prog X.w (upd H x o) h' x o) : Inv X pins σ (upd H x o) { s with heap := h', toks := t' } := I.un (Un.write mu he k heo) (I.hok.write mu he k heo new)
theorem Inv.weak {σ' : List (Option V)} (I : Inv X pins σ H s) (hl : σ'.length = σ.length) (w : ∀ (i : Nat) v, σ'[i]? = some (some v) → σ[i]? = some (some v)) : Inv X pins σ' H s :=
  ⟨I.ok, I.os, I.bare, I.base, let ⟨m, hn, hl'⟩ := I.loc; ⟨m, hn, fun i x v e1 e2 e3 => hl' i x v e1 (w i v e2) e3⟩, I.cell, I.free, I.freeC, I.pin, I.hok, hl.trans I.len⟩
theorem Inv.pins_of {pins' : List (Addr × Obj)} (I : Inv X pins σ H s) (h : ∀ p ∈ pins', s.heap.get? p.1 = some p.2 ∧ H p.1 = none ∧ p.1 ≠ X.env.locals ∧ p.1 ∉ X.fs ∧ ∀ v, p.2.data ≠ .cell v) : Inv X pins' σ H s :=
  ⟨I.ok, I.os, I.bare, I.base, I.loc, I.cell, I.free, I.freeC, fun p hp => (List.mem_append.mp hp).elim (fun z => I.pin p (List.mem_append_left _ z)) (h p), I.hok, I.len⟩

theorem nodup_ix {N : List Str} (hN : N.Nodup) {i j : Nat} {x : Str} (a : N[i]? = some x) (b : N[j]? = some x) : i = j := by
  obtain ⟨h1, e1⟩ := List.getElem?_eq_some_iff.mp a
  obtain ⟨h2, e2⟩ := List.getElem?_eq_some_iff.mp b
  exact (List.getElem_inj hN).mp (e1.trans e2.symm)

theorem store_ok2 {M : Model} {A : Around} {E : Value → Shared → Prop} {i : Nat} {x : Str} {v : V} {u : Value} {Q : Unit → Shared → Prop} (I : Inv X pins σ H s) (hN : X.N.Nodup) (hi : X.N[i]? = some x) (hx : Loc X.env.scope x) (r : RelV v u)
    (h : ∀ s', Inv X pins (σ.set i (some v)) H s' → (∃ a, Heap.SameBut a s.heap s'.heap ∧ (a = X.env.locals ∨ X.env.cells.lookup x = some a)) → Q () s') (hf : autoParam (X.fn x = true ∨ X.env.scope.names.lookup x = some .local) L2.auto1._auto_1) : wpAny M A (storeName X.env x u) Q E s := by
  obtain ⟨m, hn, hl⟩ := id I.loc
  have hcls : (X.env.scope.kind == .class || (X.env.scope.kind == .module && X.env.locals != X.env.globals)) = false := by rw [I.ok.kind]; rfl
  have hiσ : i < σ.length := by rw [I.len]; exact (List.getElem?_eq_some_iff.mp hi).1
  have cne := I.cne
  have tracked : ∀ {a : Addr} {h' : Heap}, (∃ o, s.heap.get? a = some o ∧ H a = none) → Heap.SameBut a s.heap h' → HOk X.prog X.w H h' := fun {a h'} ha hs b ob e => by
    obtain ⟨_, _, hfree⟩ := ha
    refine (I.hok b ob e).stay (fun c w' hc q => (hs.2 c ?_).trans q) (fun _ q => q) fun _ _ q => q
    rintro rfl
    rcases hc with rfl | hc
    · rw [hfree] at e; cases e
    · rw [hfree] at hc; cases hc
  rcases hx with hk | hk
  · refine wpAny_storeName_local hk hn (fun h' hn' hs => ?_) hcls
    obtain ⟨oL, _, _, hoL, _⟩ := id hn
    refine h _ ⟨I.ok, I.os, I.bare, ⟨fun b o e n hb hx => ?_, fun b o e n hb hx => ?_, I.base.free, fun b o e hx => ?_, I.base.tups, I.base.frzs, I.base.tbls⟩, ⟨_, hn', fun j y v' e1 e2 e3 => ?_⟩, fun y c e => ?_, I.free, I.freeC, fun p hp => ?_, tracked ⟨oL, hoL, I.free⟩ hs, by simpa using I.len⟩ ⟨_, hs, .inl rfl⟩
    · exact (hs.2 b (Nat.ne_of_lt (Nat.lt_of_lt_of_le (Heap.lt_size e) I.ok.above))).trans (I.base.keep b o e n hb hx)
    · obtain ⟨sl, e1⟩ := I.base.slot b o e n hb hx
      exact ⟨sl, (hs.2 b (Nat.ne_of_lt (Nat.lt_of_lt_of_le (Heap.lt_size e) I.ok.above))).trans e1⟩
    · obtain ⟨o', e1⟩ := I.base.there b o e hx
      exact ⟨o', (hs.2 b (Nat.ne_of_lt (Nat.lt_of_lt_of_le (Heap.lt_size e) I.ok.above))).trans e1⟩
    · by_cases hj : j = i
      · subst hj
        rw [hi] at e1; cases e1
        rw [List.getElem?_set_self hiσ] at e2
        cases e2
        exact ⟨u, r, .inl ⟨hk, by simp⟩⟩
      · rw [List.getElem?_set_ne (Ne.symm hj)] at e2
        obtain ⟨u', r', q⟩ := hl j y v' e1 e2 e3
        refine ⟨u', r', ?_⟩
        rcases q with ⟨k, e⟩ | ⟨k, c, e, z⟩
        · refine .inl ⟨k, ?_⟩
          have : y ≠ x := fun e => hj (nodup_ix hN e1 (e ▸ hi))
          simp [this, e]
        · exact .inr ⟨k, c, e, z.sameBut hs (cne y c e)⟩
    · obtain ⟨w', z⟩ := I.cell y c e
      exact ⟨w', z.sameBut hs (cne y c e)⟩
    · obtain ⟨e, n, ne, nf, d⟩ := I.pin p hp
      exact ⟨(hs.2 p.1 ne).trans e, n, ne, nf, d⟩
  · have hfn : X.fn x = true := by
      rcases hf with z | z
      · exact z
      · rw [z] at hk; cases hk
    obtain ⟨c, hc⟩ := I.ok.has x (.inl hk)
    obtain ⟨w', z⟩ := I.cell x c hc
    refine wpAny_storeName_cell I.ok.kind hk hc z (fun h' hc' hs => ?_)
    obtain ⟨oc, hoc, hocd⟩ := id z
    refine h { s with heap := h' } ⟨I.ok, I.os, I.bare, ⟨fun b o e n hb hx => ?_, fun b o e n hb hx => ?_, I.base.free, fun b o e hx => ?_, I.base.tups, I.base.frzs, I.base.tbls⟩, ⟨m, hn.sameBut hs (Ne.symm (cne x c hc)), fun j y v' e1 e2 e3 => ?_⟩, fun y c' e => ?_, I.free, I.freeC, fun p hp => ?_, tracked ⟨oc, hoc, I.freeC x c hc⟩ hs, by simpa using I.len⟩ ⟨c, hs, .inr hc⟩
    · exact (hs.2 b (Nat.ne_of_lt (Nat.lt_of_lt_of_le (Heap.lt_size e) (I.ok.cab x c hfn hc)))).trans (I.base.keep b o e n hb hx)
    · obtain ⟨sl, e1⟩ := I.base.slot b o e n hb hx
      exact ⟨sl, (hs.2 b (Nat.ne_of_lt (Nat.lt_of_lt_of_le (Heap.lt_size e) (I.ok.cab x c hfn hc)))).trans e1⟩
    · obtain ⟨o', e1⟩ := I.base.there b o e hx
      exact ⟨o', (hs.2 b (Nat.ne_of_lt (Nat.lt_of_lt_of_le (Heap.lt_size e) (I.ok.cab x c hfn hc)))).trans e1⟩
    · by_cases hj : j = i
      · subst hj
        rw [hi] at e1; cases e1
        rw [List.getElem?_set_self hiσ] at e2
        cases e2
        exact ⟨u, r, .inr ⟨.inl hk, c, hc, hc'⟩⟩
      · rw [List.getElem?_set_ne (Ne.symm hj)] at e2
        obtain ⟨u', r', q⟩ := hl j y v' e1 e2 e3
        refine ⟨u', r', ?_⟩
        rcases q with q | ⟨k, c', e, z'⟩
        · exact .inl q
        · refine .inr ⟨k, c', e, z'.sameBut hs ?_⟩
          rintro rfl
          exact hj (nodup_ix hN e1 (I.ok.inj _ _ _ e hc ▸ hi))
    · by_cases hcc : c' = c
      · subst hcc; exact ⟨_, hc'⟩
      · obtain ⟨w2, z2⟩ := I.cell y c' e
        exact ⟨w2, z2.sameBut hs hcc⟩
    · obtain ⟨e, n, ne, nf, d⟩ := I.pin p hp
      refine ⟨(hs.2 p.1 ?_).trans e, n, ne, nf, d⟩
      intro q
      rw [q, hoc] at e
      have q' : oc = p.2 := Option.some.inj e
      exact d w' (by rw [← q']; exact hocd)
theorem store_ok {M : Model} {A : Around} {E : Value → Shared → Prop} {i : Nat} {x : Str} {v : V} {u : Value} {Q : Unit → Shared → Prop} (I : Inv X pins σ H s) (hN : X.N.Nodup) (hi : X.N[i]? = some x) (hx : Loc X.env.scope x) (r : RelV v u)
    (h : ∀ s', Inv X pins (σ.set i (some v)) H s' → Q () s') (hf : autoParam (X.fn x = true ∨ X.env.scope.names.lookup x = some .local) L2.auto1._auto_1) : wpAny M A (storeName X.env x u) Q E s :=
  store_ok2 I hN hi hx r (fun s' I' _ => h s' I') hf
theorem Inv.call' {s' : Shared} {ch : List Addr} (I : Inv X pins σ H s) (ho : s'.os = s.os) (u : Un (frs X.stack) ch H H' s.heap s'.heap) (hok : HOk X.prog X.w H' s'.heap) (hg : AllBare s'.gens)
    (hch : ∀ b ∈ ch, (b ∈ X.ex ∨ X.s₀.heap.objs.size ≤ b) ∧ b ≠ X.env.locals ∧ (∀ x c, X.env.cells.lookup x = some c → c ≠ b) ∧ ∀ p ∈ X.pn ++ pins, p.1 ≠ b) : Inv X pins σ H' s' := by
  obtain ⟨h', g', d', t', o'⟩ := s'
  have e : o' = s.os := ho
  subst e
  exact I.call (g' := g') (t' := t') (d' := d') u hok hg hch
end

noncomputable abbrev XK := Value → Option Addr → Hp → Prop
noncomputable abbrev St := List (Option V)
noncomputable abbrev VK := V → Hp → Prop
noncomputable abbrev TE := St → Hp → VK → Prop
noncomputable abbrev TT := St → Hp → (Bool → Hp → Prop) → Prop
noncomputable abbrev TA := St → Hp → (List V → Hp → Prop) → Prop
structure Ends where
  nx : St → Hp → Prop
  rt : VK
  bk : St → Hp → Prop := fun _ _ => False
  ct : St → Hp → Prop := fun _ _ => False
noncomputable abbrev TS := Ends → St → Hp → Prop

noncomputable def EP (X : Cx) (pins : List (Addr × Obj)) (σ : St) (Q : VK) (u : Value) (s' : Shared) : Prop := ∃ v H', Inv X pins σ H' s' ∧ RelV v u ∧ Q v H'
noncomputable def TP (X : Cx) (pins : List (Addr × Obj)) (σ : St) (Q : Bool → Hp → Prop) (b : Bool) (s' : Shared) : Prop := ∃ H', Inv X pins σ H' s' ∧ Q b H'
noncomputable def AP (X : Cx) (pins : List (Addr × Obj)) (σ : St) (Q : List V → Hp → Prop) (us : List Value) (s' : Shared) : Prop := ∃ vs H', Inv X pins σ H' s' ∧ Vals vs us ∧ Q vs H'
noncomputable def SP (X : Cx) (pins : List (Addr × Obj)) (D : Ends) (f : Flow) (s' : Shared) : Prop :=
  match f with
  | .next => ∃ σ' H', Inv X pins σ' H' s' ∧ D.nx σ' H'
  | .brk => ∃ σ' H', Inv X pins σ' H' s' ∧ D.bk σ' H'
  | .cont => ∃ σ' H', Inv X pins σ' H' s' ∧ D.ct σ' H'
  | .ret u => ∃ v σ' H', Inv X pins σ' H' s' ∧ RelV v u ∧ D.rt v H'

noncomputable def PE (X : Cx) (e : Expr) (t : TE) : Prop :=
  ∀ (pins : List (Addr × Obj)) (s : Shared) (σ : St) (H : Hp) (Q : VK), Inv X pins σ H s → t σ H Q → wpAny (model X.prog X.w) X.A (eval e X.env) (EP X pins σ Q) X.xe s
noncomputable def PT (X : Cx) (e : Expr) (t : TT) : Prop :=
  ∀ (pins : List (Addr × Obj)) (s : Shared) (σ : St) (H : Hp) (Q : Bool → Hp → Prop), Inv X pins σ H s → t σ H Q → wpAny (model X.prog X.w) X.A (isTrue e X.env (eval e X.env)) (TP X pins σ Q) X.xe s
noncomputable def PW (X : Cx) (e : Expr) (t : TT) : Prop :=
  ∀ (whole : Sem Value) (pins : List (Addr × Obj)) (s : Shared) (σ : St) (H : Hp) (Q : Bool → Hp → Prop), Inv X pins σ H s → t σ H Q → wpAny (model X.prog X.w) X.A (isTrue e X.env whole) (TP X pins σ Q) X.xe s
theorem PW.pt {X : Cx} {e : Expr} {t : TT} (h : PW X e t) : PT X e t := h _
noncomputable def PA (X : Cx) (es : List Expr) (t : TA) : Prop :=
  ∀ (pos : Pos) (pins : List (Addr × Obj)) (s : Shared) (σ : St) (H : Hp) (Q : List V → Hp → Prop), Inv X pins σ H s → t σ H Q → wpAny (model X.prog X.w) X.A (spliced (backTo pos (starEach es X.env))) (AP X pins σ Q) X.xe s
noncomputable def PS (X : Cx) (st : Stmt) (t : TS) : Prop :=
  ∀ (pins : List (Addr × Obj)) (s : Shared) (σ : St) (H : Hp) (D : Ends), Inv X pins σ H s → t D σ H → wpAny (model X.prog X.w) X.A (exec st X.env) (SP X pins D) X.xe s
noncomputable def PSs (X : Cx) (st : List Stmt) (t : TS) : Prop :=
  ∀ (pins : List (Addr × Obj)) (s : Shared) (σ : St) (H : Hp) (D : Ends), Inv X pins σ H s → t D σ H → wpAny (model X.prog X.w) X.A (execs st X.env) (SP X pins D) X.xe s
theorem thn {α : Type} {t : Sem α} {Q Q' : α → Shared → Prop} {M : Model} {A : Around} {E : Value → Shared → Prop} {s : Shared} (h : wpAny M A t Q E s) (hQ : ∀ a s, Q a s → Q' a s) : wpAny M A t Q' E s := wpAny_mono h hQ fun _ _ x => x
end L2

namespace L2
open PySem PySem.Spec PyProof.Rows
section
variable {X : Cx}

noncomputable def tVar (i : Nat) : TE := fun σ H Q => ∃ v, σ[i]? = some (some v) ∧ Q v H
noncomputable def tC (v : V) : TE := fun _ H Q => Q v H
theorem pe_var {i : Nat} {x : Str} {pos : Pos} (hN : X.N[i]? = some x) (hv : Vis X.env.scope x) (hd : autoParam ((x == ("__debug__" : Str)) = false) L2.auto2._auto_1) (hcd : autoParam ((x == ("__classdict__" : Str)) = false) L2.auto2._auto_1) : PE X (.Name x pos) (tVar i) := by
  intro pins s σ H Q I h
  obtain ⟨v, e, h⟩ := h
  obtain ⟨m, hn, hl⟩ := I.loc
  obtain ⟨u, r, l⟩ := hl i x v hN e hv
  have fin : EP X pins σ Q u s := ⟨v, H, I, r, h⟩
  rcases l with ⟨hk, hm⟩ | ⟨hk, c, hc, hcell⟩
  · exact wpAny_Name (wpAny_loadName_local I.ok.kind hk hn hm fin) hd
  · rcases hk with hk | hk
    · exact wpAny_Name (wpAny_loadName_cell I.ok.kind hk hc hcell fin) hd
    · exact wpAny_Name (wpAny_loadName_free I.ok.kind hk hc hcell fin hcd) hd
theorem pe_int {i j pos} : PE X (.Constant (.int i) j pos) (tC (.int i)) := fun _ _ _ H _ I h => wpAny_Constant_int ⟨.int i, H, I.tok _, ⟨_, rfl⟩, h⟩
theorem pe_bl {b j pos} : PE X (.Constant (.bool b) j pos) (tC (.bl b)) := fun _ _ _ H _ I h => Constant_bool ⟨.bl b, H, I, rfl, h⟩
theorem pe_str {x j pos} : PE X (.Constant (.str x) j pos) (tC (.str x)) := fun _ _ _ H _ I h => Calls.Constant_str ⟨.str x, H, I.tok _, ⟨_, rfl⟩, h⟩

noncomputable def Gl (X : Cx) (x : Str) : Prop := X.env.kindOf x = some .globalImplicit
theorem ld_glob {E : Value → Shared → Prop} {pins : List (Addr × Obj)} {s : Shared} {σ : St} {H : Hp} {x : Str} {u : Value} {pos : Pos} {Q : Value → Shared → Prop} (I : Inv X pins σ H s) (hg : Gl X x) (hm : X.mg x = some u) (h : Q u s)
    (hd : autoParam ((x == ("__debug__" : Str)) = false) L2.auto2._auto_1) : wpAny (model X.prog X.w) X.A (eval (.Name x pos) X.env) Q E s :=
  Calls.Name_function_global I.ok.kind hg (Calls.loadGlobal_global (by rw [I.ok.glob]; exact I.mod.glob.keeps I.bk) hm h) hd
theorem ld_blt {E : Value → Shared → Prop} {pins : List (Addr × Obj)} {s : Shared} {σ : St} {H : Hp} {x : Str} {u : Value} {pos : Pos} {Q : Value → Shared → Prop} (I : Inv X pins σ H s) (hg : Gl X x) (hm : X.mg x = none) (hv : bootBuiltins x = some u) (h : Q u s)
    (hn : autoParam (x ≠ "__name__") L2.auto2._auto_1) (hd : autoParam ((x == ("__debug__" : Str)) = false) L2.auto2._auto_1) : wpAny (model X.prog X.w) X.A (eval (.Name x pos) X.env) Q E s := by
  obtain ⟨mb, h1, h2⟩ := I.mod.blt
  exact Calls.Name_function_global I.ok.kind hg (Calls.loadGlobal_builtin (by rw [I.ok.glob]; exact I.mod.glob.keeps I.bk) hm (by rw [I.ok.blt]; exact h1.keeps I.bk) ((h2 x hn).trans hv) h) hd
theorem pe_glob {x : Str} {v : V} {u : Value} {pos : Pos} (hg : Gl X x) (hm : X.mg x = some u) (r : RelV v u) (hd : autoParam ((x == ("__debug__" : Str)) = false) L2.auto2._auto_1) : PE X (.Name x pos) (tC v) :=
  fun _ _ _ H _ I h => ld_glob I hg hm ⟨v, H, I, r, h⟩ hd
theorem pe_bltn {x : Str} {v : V} {u : Value} {pos : Pos} (hg : Gl X x) (hm : X.mg x = none) (hv : bootBuiltins x = some u) (r : RelV v u) (hn : autoParam (x ≠ "__name__") L2.auto2._auto_1) (hd : autoParam ((x == ("__debug__" : Str)) = false) L2.auto2._auto_1) : PE X (.Name x pos) (tC v) :=
  fun _ _ _ H _ I h => ld_blt I hg hm hv ⟨v, H, I, r, h⟩ hn hd

variable {a b : Expr} {ta tb : TE} {pos : Pos}
noncomputable def tB (t : TE) : TT := fun σ H Q => t σ H fun x H1 => ∃ c, x = .bl c ∧ Q c H1
theorem pt_val {e : Expr} {t : TE} (h : PE X e t) (he : autoParam (∀ whole, isTrue e X.env whole = (do let v ← whole; standAt e.pos; holding [v] (truthy v))) L2.auto3._auto_1) : PT X e (tB t) := by
  intro pins s σ H Q I hw
  refine isTrue_plain (thn (h pins s σ H _ I hw) fun v s1 qq0 => ?_) (he _)
  obtain ⟨x, H1, I1, r1, q1⟩ := qq0
  obtain ⟨d, rfl, q⟩ := q1
  cases r1
  exact wpAny_truthy_bool ⟨H1, I1, q⟩

variable {tA tB' : TT} {rest : List Expr}
noncomputable def tAnd (t u : TT) : TT := fun σ H Q => t σ H fun c H1 => if c = true then u σ H1 Q else Q false H1
noncomputable def tOr (t u : TT) : TT := fun σ H Q => t σ H fun c H1 => if c = true then Q true H1 else u σ H1 Q
noncomputable def tNot (t : TT) : TT := fun σ H Q => t σ H fun c H1 => Q (!c) H1
theorem pw_and1 (ha : PT X a tA) : PW X (.BoolOp .And [a] pos) tA := by
  intro wh pins s σ H Q I h
  refine isTrue_and (thn (ha pins s σ H Q I h) fun c s1 e => ?_)
  cases c with
  | true => exact isTrue_and_nil e
  | false => exact e
theorem pw_or1 (ha : PT X a tA) : PW X (.BoolOp .Or [a] pos) tA := by
  intro wh pins s σ H Q I h
  refine isTrue_or (thn (ha pins s σ H Q I h) fun c s1 e => ?_)
  cases c with
  | false => exact isTrue_or_nil e
  | true => exact e
theorem pw_and (ha : PT X a tA) (hb : PW X (.BoolOp .And (b :: rest) pos) tB') : PW X (.BoolOp .And (a :: b :: rest) pos) (tAnd tA tB') := by
  intro wh pins s σ H Q I h
  refine isTrue_and (thn (ha pins s σ H _ I h) fun c s1 qq0 => ?_)
  obtain ⟨H1, I1, q1⟩ := qq0
  cases c with
  | true => exact hb wh pins s1 σ H1 Q I1 q1
  | false => exact ⟨H1, I1, q1⟩
theorem pw_or (ha : PT X a tA) (hb : PW X (.BoolOp .Or (b :: rest) pos) tB') : PW X (.BoolOp .Or (a :: b :: rest) pos) (tOr tA tB') := by
  intro wh pins s σ H Q I h
  refine isTrue_or (thn (ha pins s σ H _ I h) fun c s1 qq0 => ?_)
  obtain ⟨H1, I1, q1⟩ := qq0
  cases c with
  | true => exact ⟨H1, I1, q1⟩
  | false => exact hb wh pins s1 σ H1 Q I1 q1
theorem pt_not (ha : PT X a tA) : PT X (.UnaryOp .Not a pos) (tNot tA) := by
  intro pins s σ H Q I h
  exact isTrue_not (ha pins s σ H (fun c H1 => Q (!c) H1) I h)
noncomputable def tAndV (ta tb : TE) : TE := fun σ H Q => ta σ H fun x H1 => ∃ c, x = .bl c ∧ if c = true then tb σ H1 Q else Q (.bl false) H1
noncomputable def tOrV (ta tb : TE) : TE := fun σ H Q => ta σ H fun x H1 => ∃ c, x = .bl c ∧ if c = true then Q (.bl true) H1 else tb σ H1 Q
noncomputable def tNotV (ta : TE) : TE := fun σ H Q => ta σ H fun x H1 => ∃ c, x = .bl c ∧ Q (.bl (!c)) H1
theorem pe_one {op} {t : TE} (h : PE X a t) : PE X (.BoolOp op [a] pos) t := fun pins s σ H Q I hw => BoolOp_one (h pins s σ H Q I hw)
theorem pe_and (ha : PE X a ta) (hb : PE X (.BoolOp .And (b :: rest) pos) tb) : PE X (.BoolOp .And (a :: b :: rest) pos) (tAndV ta tb) := by
  intro pins s σ H Q I h
  refine BoolOp_and (thn (ha pins s σ H _ I h) fun v s1 qq0 => ?_)
  obtain ⟨x, H1, I1, r1, q1⟩ := qq0
  obtain ⟨c, rfl, q1⟩ := q1
  cases r1
  refine wpAny_truthy_bool ?_
  cases c with
  | true => exact hb pins s1 σ H1 Q I1 q1
  | false => exact ⟨.bl false, H1, I1, rfl, q1⟩
theorem pe_or (ha : PE X a ta) (hb : PE X (.BoolOp .Or (b :: rest) pos) tb) : PE X (.BoolOp .Or (a :: b :: rest) pos) (tOrV ta tb) := by
  intro pins s σ H Q I h
  refine BoolOp_or (thn (ha pins s σ H _ I h) fun v s1 qq0 => ?_)
  obtain ⟨x, H1, I1, r1, q1⟩ := qq0
  obtain ⟨c, rfl, q1⟩ := q1
  cases r1
  refine wpAny_truthy_bool ?_
  cases c with
  | false => exact hb pins s1 σ H1 Q I1 q1
  | true => exact ⟨.bl true, H1, I1, rfl, q1⟩
theorem pe_not (ha : PE X a ta) : PE X (.UnaryOp .Not a pos) (tNotV ta) := by
  intro pins s σ H Q I h
  refine UnaryOp_ (thn (ha pins s σ H _ I h) fun v s1 qq0 => ?_)
  obtain ⟨x, H1, I1, r1, q1⟩ := qq0
  obtain ⟨c, rfl, q1⟩ := q1
  cases r1
  exact not_of (wpAny_truthy_bool ⟨.bl (!c), H1, I1, rfl, q1⟩)
end
end L2

namespace L2
open PySem PySem.Spec PyProof.Rows

noncomputable def SqL (K : PySem.W.Frag) (H : Hp) (a : Addr) (xs : List V) : Prop :=
  Rd H a (.lst xs) ∨
    ∃ (o : Obj) (its : Array Value) (n : Nat), K.lookup a = some o ∧ o.cls = .type "list" ∧ o.dict = none ∧ o.data = .seq its n ∧ its.size ≤ sizeLine ∧ Vals xs its.toList
noncomputable def SqT (K : PySem.W.Frag) (H : Hp) (a : Addr) (xs : List V) : Prop :=
  Rd H a (.tup xs) ∨
    ∃ (o : Obj) (its : Array Value) (n : Nat), K.lookup a = some o ∧ o.cls = .type "tuple" ∧ o.data = .seq its n ∧ its.size ≤ sizeLine ∧ Vals xs its.toList
noncomputable def absV : Value → Option V
  | .none => some .non
  | .bool b => some (.bl b)
  | .int i _ => some (.int i)
  | .str x _ => some (.str x)
  | .bytes b _ => some (.byt b)
  | .float b _ => some (.flt b)
  | .ref a => some (.ref a)
  | .type n => some (.ty n)
  | _ => none
theorem RelV.abs {x : V} {u : Value} (r : RelV x u) : absV u = some x := by
  cases x with
  | non => cases r; rfl
  | bl _ => cases r; rfl
  | int _ => obtain ⟨t, rfl⟩ := r; rfl
  | str _ => obtain ⟨t, rfl⟩ := r; rfl
  | byt _ => obtain ⟨t, rfl⟩ := r; rfl
  | flt _ => obtain ⟨t, rfl⟩ := r; rfl
  | ref _ => cases r; rfl
  | ty _ => cases r; rfl
theorem RelV.inj {x y : V} {u : Value} (r : RelV x u) (q : RelV y u) : x = y := Option.some.inj (r.abs.symm.trans q.abs)
theorem Vals.inj : ∀ {xs ys : List V} {us : List Value}, Vals xs us → Vals ys us → xs = ys
  | _, _, _, .nil, .nil => rfl
  | _, _, _, .cons r t, .cons r' t' => by rw [r.inj r', Vals.inj t t']
section
variable {X : Cx} {pins : List (Addr × Obj)} {σ : St} {H : Hp} {s : Shared} {a : Addr} {xs ys : List V}
theorem SqL.of {K : PySem.W.Frag} (h : H a = some (.lst xs)) : SqL K H a xs := .inl (.inl h)
theorem SqT.of {K : PySem.W.Frag} (h : H a = some (.tup xs)) : SqT K H a xs := .inl (.inl h)
theorem Inv.list (I : Inv X pins σ H s) (h : SqL X.K H a xs) : ∃ its : List Value, Vals xs its ∧ PlainL s.heap a its.toArray ∧ xs.length ≤ sizeLine := by
  rcases h with h | ⟨o, its, n, hk, hc, hd, hs, hz, r⟩
  · obtain ⟨z, its, n, r, e⟩ := h.ok I.hok
    exact ⟨its, r, ⟨_, n, e, rfl, rfl, rfl⟩, z⟩
  · refine ⟨its.toList, r, ⟨o, n, I.kIn a o hk, hc, hd, by simpa using hs⟩, ?_⟩
    have e := r.length
    simp only [Array.length_toList] at e
    omega
theorem Inv.tuple (I : Inv X pins σ H s) (h : SqT X.K H a xs) : ∃ its : List Value, Vals xs its ∧ IsTup s.heap a its.toArray ∧ xs.length ≤ sizeLine := by
  rcases h with h | ⟨o, its, n, hk, hc, hs, hz, r⟩
  · obtain ⟨z, its, r, p⟩ := h.ok I.hok
    exact ⟨its, r, p, z⟩
  · refine ⟨its.toList, r, ⟨o, I.kIn a o hk, hc, n, by simpa using hs⟩, ?_⟩
    have e := r.length
    simp only [Array.length_toList] at e
    omega
theorem Inv.list_inj (I : Inv X pins σ H s) (h : SqL X.K H a xs) (h' : SqL X.K H a ys) : xs = ys := by
  obtain ⟨its, r, ⟨o, n, e, _, _, d⟩, _⟩ := I.list h
  obtain ⟨its', r', ⟨o', n', e', _, _, d'⟩, _⟩ := I.list h'
  rw [e] at e'; cases e'
  rw [d] at d'
  injection d' with d1 _
  have : its = its' := by simpa using congrArg Array.toList d1
  subst this
  exact r.inj r'
theorem Inv.tuple_inj (I : Inv X pins σ H s) (h : SqT X.K H a xs) (h' : SqT X.K H a ys) : xs = ys := by
  obtain ⟨its, r, ⟨o, e, _, n, d⟩, _⟩ := I.tuple h
  obtain ⟨its', r', ⟨o', e', _, n', d'⟩, _⟩ := I.tuple h'
  rw [e] at e'; cases e'
  rw [d] at d'
  injection d' with d1 _
  have : its = its' := by simpa using congrArg Array.toList d1
  subst this
  exact r.inj r'
end

noncomputable abbrev Cx.wish (X : Cx) (E : Value → Shared → Prop) : Cx := { X with xe := E }
noncomputable abbrev Cx.nox (X : Cx) : Cx := X.wish fun _ _ => False
theorem Cx.Ok.wish {X : Cx} (ok : X.Ok) (E : Value → Shared → Prop) : (X.wish E).Ok :=
  ⟨ok.mod, ok.kind, ok.glob, ok.blt, ok.above, ok.inj, ok.has, ok.cab, ok.hd, ok.frames, ok.stk, ok.exf, ok.bs, ok.bsz, ok.noex, ok.exfs, ok.funs, ok.frf⟩
theorem Cx.Ok.unwish {X : Cx} {E : Value → Shared → Prop} (ok : (X.wish E).Ok) : X.Ok :=
  ⟨ok.mod, ok.kind, ok.glob, ok.blt, ok.above, ok.inj, ok.has, ok.cab, ok.hd, ok.frames, ok.stk, ok.exf, ok.bs, ok.bsz, ok.noex, ok.exfs, ok.funs, ok.frf⟩
section
variable {X : Cx} {pins : List (Addr × Obj)} {σ : St} {H : Hp} {s : Shared} {E : Value → Shared → Prop}
theorem Inv.wish (I : Inv X pins σ H s) (E : Value → Shared → Prop) : Inv (X.wish E) pins σ H s := ⟨I.ok.wish E, I.os, I.bare, I.base, I.loc, I.cell, I.free, I.freeC, I.pin, I.hok, I.len⟩
theorem Inv.unwish (I : Inv (X.wish E) pins σ H s) : Inv X pins σ H s := ⟨I.ok.unwish, I.os, I.bare, I.base, I.loc, I.cell, I.free, I.freeC, I.pin, I.hok, I.len⟩
theorem SP.unwish {D : Ends} {f : Flow} {s' : Shared} (h : SP (X.wish E) pins D f s') : SP X pins D f s' := by
  cases f with
  | next => obtain ⟨σ', H', I, q⟩ := h; exact ⟨σ', H', I.unwish, q⟩
  | brk => obtain ⟨σ', H', I, q⟩ := h; exact ⟨σ', H', I.unwish, q⟩
  | cont => obtain ⟨σ', H', I, q⟩ := h; exact ⟨σ', H', I.unwish, q⟩
  | ret u => obtain ⟨v, σ', H', I, r, q⟩ := h; exact ⟨v, σ', H', I.unwish, r, q⟩
theorem PSs.nox {st : List Stmt} {t : TS} (h : PSs X.nox st t) : PSs X st t := fun pins s σ H D I hw =>
  wpAny_mono (h pins s σ H D (I.wish _) hw) (fun _ _ q => q.unwish) fun _ _ z => False.elim z
end

section
variable {X : Cx} {st : Stmt} {rest : List Stmt} {t u : TS} {e : Expr} {te : TE} {pos : Pos}
noncomputable def tNext : TS := fun D σ H => D.nx σ H
noncomputable def tSeq (t u : TS) : TS := fun D σ H => t { D with nx := u D } σ H
theorem pss_nil : PSs X [] tNext := fun _ _ σ H _ I h => wpAny_execs_nil ⟨σ, H, I, h⟩
theorem pss_cons (h1 : PS X st t) (h2 : PSs X rest u) : PSs X (st :: rest) (tSeq t u) := by
  intro pins s σ H D I h
  refine wpAny_execs_cons (thn (h1 pins s σ H { D with nx := u D } I h) fun f s1 q => ?_)
  cases f with
  | next =>
    obtain ⟨σ', H', I', q⟩ := q
    exact h2 pins s1 σ' H' D I' q
  | ret v => exact q
  | brk => exact q
  | cont => exact q
theorem pss_one (h1 : PS X st t) : PSs X [st] t := by
  intro pins s σ H D I h
  refine wpAny_execs_cons (thn (h1 pins s σ H D I h) fun f s1 q => ?_)
  cases f with
  | next => exact wpAny_execs_nil q
  | ret v => exact q
  | brk => exact q
  | cont => exact q
theorem Inv.quiet {pins : List (Addr × Obj)} {σ : St} {H : Hp} {s : Shared} (I : Inv X pins σ H s) : interactive X.env = false := by simp [interactive, I.ok.kind]
noncomputable def tDrop (te : TE) : TS := fun D σ H => te σ H fun _ H1 => D.nx σ H1
theorem ps_expr (he : PE X e te) (hs : autoParam (swapsWith e none pos.line X.env = pure false) L2.auto4._auto_1) : PS X (.Expr e pos) (tDrop te) := by
  intro pins s σ H D I h
  exact wpAny_Expr_any (thn (he pins s σ H _ I h) fun v s1 ⟨x, H1, I1, r1, q1⟩ => ⟨σ, H1, I1, q1⟩) I.quiet hs
noncomputable def tRet (te : TE) : TS := fun D σ H => te σ H D.rt
theorem ps_ret (he : PE X e te) : PS X (.Return (some e) pos) (tRet te) := by
  intro pins s σ H D I h
  exact wpAny_Return_some (thn (he pins s σ H _ I h) fun v s1 ⟨x, H1, I1, r1, q1⟩ => ⟨x, σ, H1, I1, r1, q1⟩)
noncomputable def tIfS (c : TT) (t u : TS) : TS := fun D σ H => c σ H fun b H1 => if b = true then t D σ H1 else u D σ H1
theorem ps_if {c : Expr} {a b : List Stmt} {tc : TT} (hc : PT X c tc) (ha : PSs X a t) (hb : PSs X b u) : PS X (.If c a b pos) (tIfS tc t u) := by
  intro pins s σ H D I h
  refine wpAny_If (thn (hc pins s σ H _ I h) fun d s1 qq0 => ?_)
  obtain ⟨H1, I1, q1⟩ := qq0
  cases d with
  | true => exact ha pins s1 σ H1 D I1 q1
  | false => exact hb pins s1 σ H1 D I1 q1
end

noncomputable abbrev TG := V → St → Hp → (St → Hp → Prop) → Prop
noncomputable abbrev TGs := List V → St → Hp → (St → Hp → Prop) → Prop
noncomputable def PG (X : Cx) (target : Expr) (t : TG) : Prop :=
  ∀ (pins : List (Addr × Obj)) (s : Shared) (σ : St) (H : Hp) (v : V) (u : Value) (Q : St → Hp → Prop), Inv X pins σ H s → RelV v u → t v σ H Q →
    wpAny (model X.prog X.w) X.A (assign target X.env u) (fun _ s' => ∃ σ' H', Inv X pins σ' H' s' ∧ Q σ' H') X.xe s
noncomputable def PGs (X : Cx) (ts : List Expr) (t : TGs) : Prop :=
  ∀ (pins : List (Addr × Obj)) (s : Shared) (σ : St) (H : Hp) (vs : List V) (us : List Value) (Q : St → Hp → Prop), Inv X pins σ H s → Vals vs us → t vs σ H Q →
    wpAny (model X.prog X.w) X.A (assignInOrder ((assignEach ts X.env).map (·.2)) us) (fun _ s' => ∃ σ' H', Inv X pins σ' H' s' ∧ Q σ' H') X.xe s
noncomputable abbrev TSet := V → V → V → Hp → (Hp → Prop) → Prop
noncomputable def PSet (X : Cx) (t : TSet) : Prop :=
  ∀ (pins : List (Addr × Obj)) (s : Shared) (σ : St) (H : Hp) (o i v : V) (ov iv u : Value) (Q : Hp → Prop), Inv X pins σ H s → RelV o ov → RelV i iv → RelV v u → t o i v H Q →
    wpAny (model X.prog X.w) X.A (setItem ov iv u) (fun _ s' => ∃ H', Inv X pins σ H' s' ∧ Q H') X.xe s
section
variable {X : Cx} {pos : Pos}
noncomputable def gName (i : Nat) : TG := fun v σ H Q => Q (σ.set i (some v)) H
theorem pg_name {i : Nat} {x : Str} (hN : X.N.Nodup) (hi : X.N[i]? = some x) (hx : Loc X.env.scope x) (hf : autoParam (X.fn x = true ∨ X.env.scope.names.lookup x = some .local) L2.auto1._auto_1) : PG X (.Name x pos) (gName i) := by
  intro pins s σ H v u Q I r h
  exact wpAny_assign_Name (store_ok I hN hi hx r (fun s' I' => ⟨_, H, I', h⟩) hf)
noncomputable def gNil : TGs := fun vs σ H Q => vs = [] ∧ Q σ H
noncomputable def gCons (t : TG) (u : TGs) : TGs := fun vs σ H Q => ∃ v r, vs = v :: r ∧ t v σ H fun σ' H' => u r σ' H' Q
theorem pgs_nil : PGs X [] gNil := by
  intro pins s σ H vs us Q I r h
  obtain ⟨e, h⟩ := h
  subst e
  cases r
  exact assignInOrder_nil ⟨σ, H, I, h⟩
theorem pgs_cons {e : Expr} {es : List Expr} {t : TG} {u : TGs} (h1 : PG X e t) (h2 : PGs X es u)
    (hs : autoParam ((assignEach (e :: es) X.env).map (·.2) = assign e X.env :: (assignEach es X.env).map (·.2)) L2.auto4._auto_1) : PGs X (e :: es) (gCons t u) := by
  intro pins s σ H vs us Q I r h
  obtain ⟨v, vr, e1, h⟩ := h
  subst e1
  cases r with
  | cons r rr =>
    rw [hs]
    refine assignInOrder_cons (thn (h1 pins s σ H _ _ _ I r h) fun _ s1 qq0 => ?_)
    obtain ⟨σ1, H1, I1, q1⟩ := qq0
    exact h2 pins s1 σ1 H1 _ _ Q I1 rr q1
noncomputable def gTup (K : PySem.W.Frag) (n : Nat) (t : TGs) : TG := fun v σ H Q => ∃ a xs, v = .ref a ∧ SqT K H a xs ∧ xs.length = n ∧ t xs σ H Q
theorem pg_tup {es : List Expr} {k : Nat} {t : TGs} {n : Nat} (hc : X.calm = true) (h : PGs X es t)
    (hn : autoParam ((assignEach es X.env).length = n) L2.auto4._auto_1) (hst : autoParam ((assignEach es X.env).findIdx? (·.1) = none) L2.auto4._auto_1) : PG X (.Tuple es k pos) (gTup X.K n t) := by
  intro pins s σ H v u Q I r hw
  obtain ⟨a, xs, e1, hq, hl, hw⟩ := hw
  subst e1
  cases r
  obtain ⟨its, rv, ht, hz⟩ := I.tuple hq
  refine assign_Tuple_tuple (I.ok.hd hc) ht (by simp [hn, ← hl, rv.length]) hst fun h' hx => ?_
  have I1 : Inv X pins σ H { s with heap := h' } := I.kept (t' := s.toks) fun b o e => hx b o (Nat.ne_of_lt (Heap.lt_size e)) e
  exact h pins _ σ H xs _ Q I1 (by simpa using rv) hw
noncomputable def gSub (to ti : TE) (t : TSet) : TG := fun v σ H Q => to σ H fun o H1 => ti σ H1 fun i H2 => t o i v H2 fun H3 => Q σ H3
theorem pg_sub {o i : Expr} {to ti : TE} {t : TSet} (ho : PE X o to) (hi : PE X i ti) (hs : PSet X t)
    (ha : ∀ v, assign (.Subscript o i pos) X.env v = (do
      let ov ← holding [v] (eval o X.env)
      let iv ← holding [v, ov] (eval i X.env)
      standAt pos
      holding [v, ov, iv] (setItem ov iv v)
      release [v, ov, iv] []) := by intro _; rfl) : PG X (.Subscript o i pos) (gSub to ti t) := by
  intro pins s σ H v u Q I r h
  rw [ha]
  refine wpAny_bind (wpAny_holding (thn (ho pins s σ H _ I h) fun ov s1 qq0 => ?_))
  obtain ⟨x, H1, I1, r1, q1⟩ := qq0
  refine wpAny_bind (wpAny_holding (thn (hi pins s1 σ H1 _ I1 q1) fun iv s2 qq0 => ?_))
  obtain ⟨y, H2, I2, r2, q2⟩ := qq0
  refine wpAny_bind (wpAny_standAt (wpAny_bind (wpAny_holding (thn (hs pins s2 σ H2 x y v ov iv u _ I2 r1 r2 r q2) fun _ s3 qq0 => ?_))))
  obtain ⟨H3, I3, q3⟩ := qq0
  exact wpAny_release ⟨σ, H3, I3, q3⟩
noncomputable def tAsg (te : TE) (g : TG) : TS := fun D σ H => te σ H fun x H1 => g x σ H1 D.nx
theorem ps_asg {tg e : Expr} {te : TE} {g : TG} (he : PE X e te) (hg : PG X tg g) (hs : autoParam (swapsWithSole [tg] e pos.line X.env = pure false) L2.auto4._auto_1) (hw : autoParam (swappedStores [tg] e X.env = pure none) L2.auto4._auto_1)
    (h1 : autoParam ((assignEach [tg] X.env).map (·.2) = [assign tg X.env]) L2.auto4._auto_1) : PS X (.Assign [tg] e pos) (tAsg te g) := by
  intro pins s σ H D I h
  refine wpAny_Assign_stores (thn (he pins s σ H _ I h) fun v s1 qq0 => ?_) hs hw
  obtain ⟨x, H1, I1, r1, q1⟩ := qq0
  rw [h1]
  exact thn (hg pins s1 σ H1 x v _ I1 r1 q1) fun _ s2 q => q
theorem ps_set {i : Nat} {x : Str} {e : Expr} {te : TE} {pos' : Pos} (hN : X.N.Nodup) (hi : X.N[i]? = some x) (hx : Loc X.env.scope x) (he : PE X e te) (hs : autoParam (swapsWith e (some (.Name x pos')) pos.line X.env = pure false) L2.auto4._auto_1) (hf : autoParam (X.fn x = true ∨ X.env.scope.names.lookup x = some .local) L2.auto1._auto_1) :
    PS X (.Assign [.Name x pos'] e pos) (tAsg te (gName i)) := by
  intro pins s σ H D I h
  refine wpAny_Assign_Name (thn (he pins s σ H _ I h) fun v s1 qq0 => ?_) hs
  obtain ⟨y, H1, I1, r1, q1⟩ := qq0
  exact store_ok I1 hN hi hx r1 (fun s2 I2 => ⟨_, H1, I2, q1⟩) hf
end

section
variable {X : Cx} {pos : Pos}
noncomputable def tWhile (c : TT) (tb : TS) : TS := fun D σ H => ∃ W : Nat → St → Hp → Prop, (∃ m, W m σ H) ∧ ∀ m σ H, W m σ H →
  c σ H fun b H1 => if b = true then ∃ N : St → Hp → Prop, (∀ σ' H', N σ' H' → ∃ m', m' < m ∧ W m' σ' H') ∧ tb { D with nx := N, ct := N, bk := D.nx } σ H1 else D.nx σ H1
theorem ps_while {c : Expr} {body : List Stmt} {tc : TT} {tb : TS} (hp : PassesOwn (model X.prog X.w) X.A X.env X.xe) (hc : PT X c tc) (hb : PSs X body tb) : PS X (.While c body [] pos) (tWhile tc tb) := by
  intro pins s σ H D I h
  obtain ⟨W, ⟨m0, w0⟩, turn⟩ := h
  refine wpAny_While (codeAny_whileLoop (fun n s' => ∃ σ' H', Inv X pins σ' H' s' ∧ W n σ' H') ?_ m0 ⟨σ, H, I, w0⟩)
  rintro n s1 ⟨σ1, H1, I1, w1⟩
  refine wpAny_passesOwn hp (thn (hc pins s1 σ1 H1 _ I1 (turn n σ1 H1 w1)) fun b s2 qq0 => ?_)
  obtain ⟨H2, I2, q2⟩ := qq0
  cases b with
  | true =>
    obtain ⟨N, hN, q2⟩ := q2
    rw [if_pos rfl]
    refine wpAny_passesOwn hp (thn (hb pins s2 σ1 H2 _ I2 q2) fun f s3 q3 => ?_)
    cases f with
    | next =>
      obtain ⟨σ3, H3, I3, n3⟩ := q3
      obtain ⟨m', hm, w3⟩ := hN σ3 H3 n3
      exact ⟨m', hm, σ3, H3, I3, w3⟩
    | cont =>
      obtain ⟨σ3, H3, I3, n3⟩ := q3
      obtain ⟨m', hm, w3⟩ := hN σ3 H3 n3
      exact ⟨m', hm, σ3, H3, I3, w3⟩
    | brk => exact q3
    | ret v => exact q3
  | false =>
    rw [if_neg Bool.false_ne_true]
    exact wpAny_execs_nil ⟨σ1, H2, I2, q2⟩
end

structure It where
  go : Nat → Hp → Prop
  yld : Nat → Hp → V → Hp → Prop
  stop : Nat → Hp → Prop
noncomputable def FpOk (X : Cx) (pins : List (Addr × Obj)) (H : Hp) (b : Addr) : Prop :=
  H b = none ∧ b ≠ X.env.locals ∧ b ∉ X.fs ∧ (b ∈ X.ex ∨ X.s₀.heap.objs.size ≤ b) ∧ (∀ x c, X.env.cells.lookup x = some c → c ≠ b) ∧ ∀ p ∈ X.pn ++ pins, p.1 ≠ b
theorem Inv.fpOk {X : Cx} {pins : List (Addr × Obj)} {σ : St} {H H' : Hp} {s : Shared} {b : Addr} (I : Inv X pins σ H s) (hb : s.heap.objs.size ≤ b) (hn : H' b = none) : FpOk X pins H' b := by
  refine ⟨hn, Nat.ne_of_gt (Nat.lt_of_lt_of_le I.lt hb), I.nofs hb, .inr (Nat.le_trans I.sz hb), fun x c e z => ?_, fun p hp z => ?_⟩
  · obtain ⟨v, q⟩ := I.cell x c e
    exact absurd (Nat.lt_of_lt_of_le q.lt (by rw [z]; exact hb)) (Nat.lt_irrefl _)
  · exact absurd (Nat.lt_of_lt_of_le (Heap.lt_size (I.pin p hp).1) (by rw [z]; exact hb)) (Nat.lt_irrefl _)
structure Turn (P : Program) (w : World) (K : PySem.W.Frag) (tg : Expr) (J : It) (fp : List Addr) (it : Addr) (tn : Nat → Heap → Prop) : Prop where
  mem : it ∈ fp
  obj : ∀ i h, tn i h → ∀ b ∈ fp, ∃ o, h.get? b = some o ∧ ∀ v, o.data ≠ .cell v
  keep : ∀ i h h', tn i h → (∀ b ∈ fp, ∀ o, h.get? b = some o → h'.get? b = some o) → tn i h'
  item : ∀ (X : Cx), X.prog = P → X.w = w → X.K = K → X.calm = true → ∀ (i : Nat) (pins : List (Addr × Obj)) (s : Shared) (σ : St) (H : Hp) (E : Value → Shared → Prop), Inv X pins σ H s → (∀ b ∈ fp, FpOk X pins H b) → tn i s.heap → J.go i H →
    wpAny (model P w) X.A (pyNext (.ref it)) (fun r s1 => ∃ u, r = some u ∧
      wpAny (model P w) X.A (letOwnedTupleGo tg (.ref it) u) (fun _ s2 => ∃ x H', Inv X pins σ H' s2 ∧ RelV x u ∧ J.yld i H x H' ∧ tn (i + 1) s2.heap ∧ ∀ b ∈ fp, H' b = none) E s1) E s
  done : ∀ (X : Cx), X.prog = P → X.w = w → X.K = K → X.calm = true → ∀ (i : Nat) (pins : List (Addr × Obj)) (s : Shared) (σ : St) (H : Hp) (E : Value → Shared → Prop), Inv X pins σ H s → (∀ b ∈ fp, FpOk X pins H b) → tn i s.heap → J.stop i H →
    wpAny (model P w) X.A (pyNext (.ref it)) (fun r s1 => r = none ∧ Inv X pins σ H s1) E s
  self : ∀ (A : Around) (i : Nat) (s : Shared) (Q : Value → Shared → Prop) (E : Value → Shared → Prop), tn i s.heap → Q (.ref it) s → wpAny (model P w) A (pyIter (.ref it)) Q E s
noncomputable abbrev TI := St → Hp → (It → Hp → Prop) → Prop
noncomputable def PIE (X : Cx) (pins : List (Addr × Obj)) (σ : St) (tg : Expr) (R : It → Hp → Prop) (itv : Value) (s2 : Shared) : Prop :=
  ∃ (it : Addr) (fp : List Addr) (tn : Nat → Heap → Prop) (J : It) (H' : Hp), itv = .ref it ∧ Inv X pins σ H' s2 ∧ Turn X.prog X.w X.K tg J fp it tn ∧ tn 0 s2.heap ∧ (∀ b ∈ fp, FpOk X pins H' b) ∧ R J H'
noncomputable def PI (X : Cx) (tg iter : Expr) (wi : TI) : Prop :=
  ∀ (pins : List (Addr × Obj)) (s : Shared) (σ : St) (H : Hp) (R : It → Hp → Prop), Inv X pins σ H s → wi σ H R →
    wpAny (model X.prog X.w) X.A (eval iter X.env) (fun v s1 => wpAny (model X.prog X.w) X.A (pyIter v) (PIE X pins σ tg R) X.xe s1) X.xe s

theorem go_of {M : Model} {A : Around} {E : Value → Shared → Prop} {s : Shared} {tg : Expr} {it : Addr} {u : Value} {o : Obj} {n : String} {vs : Array Value} {Q : Unit → Shared → Prop} (ho : s.heap.get? it = some o) (hc : o.cls = .type n) (hd : o.data = .fields vs)
    (hn : ["enumerate", "zip", "dict_itemiterator", "dict_reverseitemiterator", "odict_iterator", "itertools.zip_longest", "itertools.pairwise"].contains n = false) (hQ : Q () s) : wpAny M A (letOwnedTupleGo tg (.ref it) u) Q E s := by
  unfold letOwnedTupleGo
  cases tg <;> first
    | exact wpAny_pure hQ
    | (cases u <;> first
        | exact wpAny_pure hQ
        | (refine wpAny_bind (wpAny_load ho ?_)
           rw [hc, hd]
           show wpAny M A (if (["enumerate", "zip", "dict_itemiterator", "dict_reverseitemiterator", "odict_iterator", "itertools.zip_longest", "itertools.pairwise"].contains n && vs[0]? == some (rawInt _)) = true then _ else _) Q E s
           rw [if_neg (by intro h; rw [hn, Bool.false_and] at h; cases h)]
           exact wpAny_pure hQ))

noncomputable def Itl (K : PySem.W.Frag) (a : Addr) : It :=
  ⟨fun i H => ∃ xs x, SqL K H a xs ∧ xs[i]? = some x, fun i H x H' => H' = H ∧ ∀ xs, SqL K H a xs → xs[i]? = some x, fun i H => ∃ xs, SqL K H a xs ∧ xs.length ≤ i⟩
noncomputable def Itt (K : PySem.W.Frag) (a : Addr) : It :=
  ⟨fun i H => ∃ xs x, SqT K H a xs ∧ xs[i]? = some x, fun i H x H' => H' = H ∧ ∀ xs, SqT K H a xs → xs[i]? = some x, fun i H => ∃ xs, SqT K H a xs ∧ xs.length ≤ i⟩
noncomputable def Itr (lo : Int) (n : Nat) : It := ⟨fun i _ => i < n, fun i H x H' => H' = H ∧ x = .int (lo + i), fun i _ => n ≤ i⟩
theorem turn_list {P : Program} {w : World} {K : PySem.W.Frag} {tg : Expr} (a it : Addr) : Turn P w K tg (Itl K a) [it] it (fun i h => h.IsListIter it a i) where
  mem := by simp
  obj := fun i h st b hb => by
    have e : b = it := by simpa using hb
    subst e
    obtain ⟨o, e, c, d⟩ := st
    exact ⟨o, e, fun v z => by rw [d] at z; cases z⟩
  keep := fun i h h' st k => st.at fun o e => k it (by simp) o e
  item := by
    intro X hP hw hK hc i pins s σ H E I hf st hg
    subst hP hw hK
    obtain ⟨xs, x, hq, hx⟩ := hg
    obtain ⟨its, rv, p, hz⟩ := I.list hq
    obtain ⟨u, hu, ru⟩ := rv.get hx
    obtain ⟨f0, f1, f2, f3, f4, f5⟩ := hf it (by simp)
    refine wpAny_pyNext_list_item st p.isList (x := u) (by simpa using hu) fun h' st' sb => ?_
    have I1 : Inv X pins σ H { s with heap := h' } := I.turned (t' := s.toks) (fun b o hb e => (sb.2 b hb).trans e) f0 f1 f3 f4 f5
    obtain ⟨o, e, c, d⟩ := id st'
    exact ⟨u, rfl, go_of (s := { s with heap := h' }) e c d (by decide) ⟨x, H, I1, ru, ⟨rfl, fun ys hy => by rw [I.list_inj hy hq]; exact hx⟩, st', fun b hb => (hf b hb).1⟩⟩
  done := by
    intro X hP hw hK hc i pins s σ H E I hf st hg
    subst hP hw hK
    obtain ⟨xs, hq, hx⟩ := hg
    obtain ⟨its, rv, p, hz⟩ := I.list hq
    obtain ⟨f0, f1, f2, f3, f4, f5⟩ := hf it (by simp)
    have hl := rv.length
    exact wpAny_pyNext_list_end (I.ok.hd hc) st p.isList (by simp; omega) fun h' eb => ⟨rfl, I.turned (t' := s.toks) (fun b o hb e => eb b o hb e) f0 f1 f3 f4 f5⟩
  self := fun _ _ _ _ _ st h => wpAny_pyIter_listiter st h
theorem turn_tuple {P : Program} {w : World} {K : PySem.W.Frag} {tg : Expr} (a it : Addr) : Turn P w K tg (Itt K a) [it] it (fun i h => h.IsTupleIter it a i) where
  mem := by simp
  obj := fun i h st b hb => by
    have e : b = it := by simpa using hb
    subst e
    obtain ⟨o, e, c, d⟩ := st
    exact ⟨o, e, fun v z => by rw [d] at z; cases z⟩
  keep := fun i h h' st k => st.at fun o e => k it (by simp) o e
  item := by
    intro X hP hw hK hc i pins s σ H E I hf st hg
    subst hP hw hK
    obtain ⟨xs, x, hq, hx⟩ := hg
    obtain ⟨its, rv, p, hz⟩ := I.tuple hq
    obtain ⟨u, hu, ru⟩ := rv.get hx
    obtain ⟨f0, f1, f2, f3, f4, f5⟩ := hf it (by simp)
    refine wpAny_pyNext_tuple_item st (show s.heap.IsTuple a its.toArray from p) (x := u) (by simpa using hu) fun h' st' sb => ?_
    have I1 : Inv X pins σ H { s with heap := h' } := I.turned (t' := s.toks) (fun b o hb e => (sb.2 b hb).trans e) f0 f1 f3 f4 f5
    obtain ⟨o, e, c, d⟩ := id st'
    exact ⟨u, rfl, go_of (s := { s with heap := h' }) e c d (by decide) ⟨x, H, I1, ru, ⟨rfl, fun ys hy => by rw [I.tuple_inj hy hq]; exact hx⟩, st', fun b hb => (hf b hb).1⟩⟩
  done := by
    intro X hP hw hK hc i pins s σ H E I hf st hg
    subst hP hw hK
    obtain ⟨xs, hq, hx⟩ := hg
    obtain ⟨its, rv, p, hz⟩ := I.tuple hq
    obtain ⟨f0, f1, f2, f3, f4, f5⟩ := hf it (by simp)
    have hl := rv.length
    exact wpAny_pyNext_tuple_end (I.ok.hd hc) st (show s.heap.IsTuple a its.toArray from p) (by simp; omega) fun h' eb => ⟨rfl, I.turned (t' := s.toks) (fun b o hb e => eb b o hb e) f0 f1 f3 f4 f5⟩
  self := fun _ _ _ _ _ st h => wpAny_pyIter_tupleiter st h
theorem turn_range {P : Program} {w : World} {K : PySem.W.Frag} {tg : Expr} (it : Addr) (lo : Int) (n : Nat) : Turn P w K tg (Itr lo n) [it] it (fun i h => IsRangeIter h it (lo + (i : Nat) * 1) ((n : Int) - (i : Nat)) 1) where
  mem := by simp
  obj := fun i h st b hb => by
    have e : b = it := by simpa using hb
    subst e
    exact ⟨_, st, fun v z => by
      have z' : Data.fields _ = Data.cell v := z
      cases z'⟩
  keep := fun i h h' st k => k it (by simp) _ st
  item := by
    intro X hP hw hK hc i pins s σ H E I hf st hg
    subst hP hw hK
    obtain ⟨f0, f1, f2, f3, f4, f5⟩ := hf it (by simp)
    have W := Walks.range (prog := X.prog) (w := X.w) (I.ok.hd hc) it lo 1 n
    refine W.item i s _ _ hg st fun v h' tk hv st' kk => ?_
    obtain ⟨t, rfl⟩ := hv
    have I1 : Inv X pins σ H { s with heap := h', toks := tk } := I.turned (fun b o hb e => kk b o (by simpa using hb) e) f0 f1 f3 f4 f5
    refine ⟨_, rfl, go_of (s := { s with heap := h', toks := tk }) (n := "range_iterator") st' rfl rfl (by decide) ⟨.int (lo + i), H, I1, ⟨t, ?_⟩, ⟨rfl, rfl⟩, st', fun b hb => (hf b hb).1⟩⟩
    rw [Int.mul_one]
  done := by
    intro X hP hw hK hc i pins s σ H E I hf st hg
    subst hP hw hK
    obtain ⟨f0, f1, f2, f3, f4, f5⟩ := hf it (by simp)
    exact wpAny_pyNext_range_end (I.ok.hd hc) st (by have : n ≤ i := hg; omega) fun h' eb => ⟨rfl, I.turned (t' := s.toks) (fun b o hb e => eb b o hb e) f0 f1 f3 f4 f5⟩
  self := fun _ _ _ _ _ st h => wpAny_pyIter_rangeiter st h
end L2

namespace L2
open PySem PySem.Spec PyProof.Rows
section
variable {X : Cx} {tg : Expr}
theorem range_it {pins : List (Addr × Obj)} {σ : St} {H : Hp} {s : Shared} {R : It → Hp → Prop} {E : Value → Shared → Prop} {lo hi : Int} {t u v : Tok} {tk : Nat} (I : Inv X pins σ H s) (h1 : -(2 ^ 62) ≤ lo) (h2 : lo < 2 ^ 62) (h3 : -(2 ^ 62) ≤ hi) (h4 : hi < 2 ^ 62)
    (q : R (Itr lo (hi - lo).toNat) H) : wpAny (model X.prog X.w) X.A (pyIter (.ref s.heap.objs.size)) (PIE X pins σ tg R) E { s with heap := s.heap.push { cls := .type "range", data := .fields #[.int lo t, .int hi u, .int 1 v] }, toks := tk } := by
  refine wpAny_pyIter_range (IsRange.new ..) (small_one h1 h2 h3 h4) ?_
  have I1 : Inv X pins σ H { s with heap := s.heap.push { cls := .type "range", data := .fields #[.int lo t, .int hi u, .int 1 v] }, toks := tk } := I.kept fun b o e => Heap.get?_push_of_some _ e
  refine ⟨(s.heap.push { cls := .type "range", data := .fields #[.int lo t, .int hi u, .int 1 v] }).objs.size, [(s.heap.push { cls := .type "range", data := .fields #[.int lo t, .int hi u, .int 1 v] }).objs.size], _, _, H, rfl,
    I1.kept (t' := tk) fun b o e => Heap.get?_push_of_some _ e, turn_range _ lo (hi - lo).toNat, ?_, fun b hb => ?_, q⟩
  · have e1 : lo + ((0 : Nat) : Int) * 1 = lo := by simp
    have e2 : (((hi - lo).toNat : Nat) : Int) - ((0 : Nat) : Int) = Builtin.Range.rangeSize lo hi 1 := by rw [rangeSize_one]; split <;> omega
    show IsRangeIter _ _ (lo + ((0 : Nat) : Int) * 1) ((((hi - lo).toNat : Nat) : Int) - ((0 : Nat) : Int)) 1
    rw [e1, e2]
    exact Heap.get?_push_size _ rfl
  · have e : b = (s.heap.push { cls := .type "range", data := .fields #[.int lo t, .int hi u, .int 1 v] }).objs.size := by simpa using hb
    subst e
    exact I1.fpOk (Nat.le_refl _) (I1.hok.fresh (Nat.le_refl _))
noncomputable def iRng1 (ta : TA) : TI := fun σ H R => ta σ H fun vs H1 => ∃ j : Int, vs = [.int j] ∧ -(2 ^ 62) ≤ j ∧ j < 2 ^ 62 ∧ R (Itr 0 j.toNat) H1
noncomputable def iRng2 (ta : TA) : TI := fun σ H R => ta σ H fun vs H1 => ∃ i j : Int, vs = [.int i, .int j] ∧ (-(2 ^ 62) ≤ i ∧ i < 2 ^ 62 ∧ -(2 ^ 62) ≤ j ∧ j < 2 ^ 62) ∧ R (Itr i (j - i).toNat) H1
theorem pi_range1 {a : Expr} {ta : TA} {p pos : Pos} (hg : Gl X "range") (hm : X.mg "range" = none) (ha : PA X [a] ta) (hs : autoParam (starEach [a] X.env = [(false, eval a X.env)]) L2.auto4._auto_1) : PI X tg (.Call (.Name "range" p) [a] [] pos) (iRng1 ta) := by
  intro pins s σ H R I h
  refine Call_ (ld_blt I hg hm boot_range (PyProof.Rows.callWith_type1 (thn (ha pos pins s σ H _ I h) fun us s1 ⟨vs, H1, I1, r1, q1⟩ => ?_) hs rfl))
  obtain ⟨j, e, q1, q2, q⟩ := q1
  subst e
  cases r1 with
  | cons r rr =>
    cases rr
    obtain ⟨t, rfl⟩ := r
    exact call_range_1 (range_it I1 (by omega) (by omega) q1 q2 (by simpa using q))
theorem pi_range2 {a b : Expr} {ta : TA} {p pos : Pos} (hg : Gl X "range") (hm : X.mg "range" = none) (ha : PA X [a, b] ta) (hs : autoParam (starEach [a, b] X.env = [(false, eval a X.env), (false, eval b X.env)]) L2.auto4._auto_1) (hs2 : autoParam (starEach [b] X.env = [(false, eval b X.env)]) L2.auto4._auto_1) :
    PI X tg (.Call (.Name "range" p) [a, b] [] pos) (iRng2 ta) := by
  intro pins s σ H R I h
  refine Call_ (ld_blt I hg hm boot_range (PyProof.Rows.callWith_type1 (thn (ha pos pins s σ H _ I h) fun us s1 qq0 => ?_) (by rw [hs, hs2]) (by rw [hs2]; rfl)))
  obtain ⟨vs, H1, I1, r1, q1⟩ := qq0
  obtain ⟨i, j, e, ⟨q1, q2, q3, q4⟩, q⟩ := q1
  subst e
  cases r1 with
  | cons r rr =>
    cases rr with
    | cons r' rr =>
      cases rr
      obtain ⟨t, rfl⟩ := r
      obtain ⟨t', rfl⟩ := r'
      exact call_range_2 (range_it I1 q1 q2 q3 q4 q)

noncomputable def tFor (wi : TI) (g : TG) (tb : TS) : TS := fun D σ H => wi σ H fun J H1 => ∃ W : Nat → Nat → St → Hp → Prop, (∃ m, W 0 m σ H1) ∧ ∀ i m σ H, W i m σ H →
  (J.stop i H ∧ D.nx σ H) ∨ (J.go i H ∧ ∃ N : St → Hp → Prop, (∀ σ' H', N σ' H' → ∃ m', m' < m ∧ W (i + 1) m' σ' H') ∧ ∀ x H', J.yld i H x H' → g x σ H' fun σ2 H2 => tb { D with nx := N, ct := N, bk := D.nx } σ2 H2)
noncomputable def pinsAt (fp : List Addr) (h : Heap) : List (Addr × Obj) := fp.filterMap fun b => (h.get? b).map fun o => (b, o)
theorem mem_pinsAt {fp : List Addr} {h : Heap} {b : Addr} {o : Obj} (hb : b ∈ fp) (e : h.get? b = some o) : (b, o) ∈ pinsAt fp h := List.mem_filterMap.mpr ⟨b, hb, by rw [e]; rfl⟩
theorem of_pinsAt {fp : List Addr} {h : Heap} {p : Addr × Obj} (hp : p ∈ pinsAt fp h) : p.1 ∈ fp ∧ h.get? p.1 = some p.2 := by
  obtain ⟨b, hb, e⟩ := List.mem_filterMap.mp hp
  cases q : h.get? b with
  | none => rw [q] at e; cases e
  | some o =>
    rw [q] at e
    have e' : (b, o) = p := Option.some.inj e
    subst e'
    exact ⟨hb, q⟩
theorem Inv.pinned {pins : List (Addr × Obj)} {σ : St} {H : Hp} {s : Shared} {fp : List Addr} (I : Inv X pins σ H s) (hf : ∀ b ∈ fp, FpOk X pins H b) (ho : ∀ b ∈ fp, ∃ o, s.heap.get? b = some o ∧ ∀ v, o.data ≠ .cell v) : Inv X (pins ++ pinsAt fp s.heap) σ H s :=
  I.pins_of fun p hp => (List.mem_append.mp hp).elim (fun z => I.pin p (List.mem_append_right _ z)) fun z => by
    obtain ⟨hb, e⟩ := of_pinsAt z
    obtain ⟨f0, f1, f2, _⟩ := hf p.1 hb
    obtain ⟨o, e', d⟩ := ho p.1 hb
    rw [e] at e'; cases e'
    exact ⟨e, f0, f1, f2, d⟩
theorem Inv.unpinned {pins pl : List (Addr × Obj)} {σ : St} {H : Hp} {s : Shared} (I : Inv X (pins ++ pl) σ H s) : Inv X pins σ H s := I.pins_of fun p hp => I.pin p (List.mem_append_right _ (List.mem_append_left _ hp))
theorem ps_for {iter : Expr} {body : List Stmt} {wi : TI} {g : TG} {tb : TS} {pos : Pos} (hp : PassesOwn (model X.prog X.w) X.A X.env X.xe) (hc : X.calm = true) (hi : PI X tg iter wi) (hg : PG X tg g) (hb : PSs X body tb)
    (hs : autoParam (∀ x, foldedSetIterable iter X.env x = pure x) L2.auto3._auto_1) : PS X (.For tg iter body [] pos) (tFor wi g tb) := by
  intro pins s σ H D I h
  refine wpAny_For (thn (hi pins s σ H _ I h) fun v s1 h1 => thn h1 fun itv s2 h2 => ?_) hs
  obtain ⟨it, fp, tn, J, H2, e, I2, T, st2, f2, W, ⟨m0, w0⟩, turn⟩ := h2
  subst e
  -- what stays true of the iterator's objects through the loop
  have stat : ∀ {H' : Hp}, (∀ b ∈ fp, H' b = none) → ∀ b ∈ fp, FpOk X pins H' b := fun hn b hb => ⟨hn b hb, (f2 b hb).2⟩
  refine codeAny_forLoop_any (fun n s' => ∃ i σ' H', Inv X pins σ' H' s' ∧ tn i s'.heap ∧ (∀ b ∈ fp, H' b = none) ∧ W i n σ' H') ?_ m0 ⟨0, σ, H2, I2, st2, fun b hb => (f2 b hb).1, w0⟩
  rintro n s3 ⟨i, σ3, H3, I3, st3, fr3, w3⟩
  rcases turn i n σ3 H3 w3 with ⟨stop, qn⟩ | ⟨go, N, hN, step⟩
  · refine wpAny_passesOwn hp (thn (T.done X rfl rfl rfl hc i pins s3 σ3 H3 X.xe I3 (stat fr3) st3 stop) fun r s4 qq0 => ?_)
    obtain ⟨hr, I4⟩ := qq0
    subst hr
    exact wpAny_execs_nil ⟨σ3, H3, I4, qn⟩
  · refine wpAny_passesOwn hp (thn (T.item X rfl rfl rfl hc i pins s3 σ3 H3 X.xe I3 (stat fr3) st3 go) fun r s4 qq0 => ?_)
    obtain ⟨u, hr, h4⟩ := qq0
    subst hr
    refine wpAny_passesOwn hp (thn h4 fun _ s5 qq0 => ?_)
    obtain ⟨x, H5, I5, r5, y5, st5, fr5⟩ := qq0
    have I5' := I5.pinned (stat fr5) (T.obj _ _ st5)
    refine wpAny_passesOwn hp (thn (hg _ s5 σ3 H5 x u _ I5' r5 (step x H5 y5)) fun _ s6 qq0 => ?_)
    obtain ⟨σ6, H6, I6, q6⟩ := qq0
    refine wpAny_passesOwn hp (thn (hb _ s6 σ6 H6 _ I6 q6) fun f s7 q7 => ?_)
    have again : ∀ {σ7 : St} {H7 : Hp}, Inv X (pins ++ pinsAt fp s5.heap) σ7 H7 s7 → N σ7 H7 → ∃ m, m < n ∧ ∃ i σ' H', Inv X pins σ' H' s7 ∧ tn i s7.heap ∧ (∀ b ∈ fp, H' b = none) ∧ W i m σ' H' := fun {σ7 H7} I7 n7 => by
      obtain ⟨m', hm, w7⟩ := hN σ7 H7 n7
      refine ⟨m', hm, i + 1, σ7, H7, I7.unpinned, T.keep _ _ _ st5 fun b hb o e => (I7.pin (b, o) (List.mem_append_right _ (List.mem_append_right _ (mem_pinsAt hb e)))).1, fun b hb => ?_, w7⟩
      obtain ⟨o, e, d⟩ := T.obj _ _ st5 b hb
      exact (I7.pin (b, o) (List.mem_append_right _ (List.mem_append_right _ (mem_pinsAt hb e)))).2.1
    cases f with
    | next => obtain ⟨σ7, H7, I7, n7⟩ := q7; exact again I7 n7
    | cont => obtain ⟨σ7, H7, I7, n7⟩ := q7; exact again I7 n7
    | brk => obtain ⟨σ7, H7, I7, q7⟩ := q7; exact ⟨σ7, H7, I7.unpinned, q7⟩
    | ret v => obtain ⟨x7, σ7, H7, I7, r7, q7⟩ := q7; exact ⟨x7, σ7, H7, I7.unpinned, r7, q7⟩
end

theorem for_list {K : PySem.W.Frag} {a : Addr} {xs : List V} {g : TG} {tb : TS} {D : Ends} {σ : St} {H : Hp} (Pv : Nat → St → Hp → Prop) (h0 : Pv 0 σ H) (hl : ∀ i σ H, i ≤ xs.length → Pv i σ H → SqL K H a xs)
    (hs : ∀ i x σ H, xs[i]? = some x → Pv i σ H → g x σ H fun σ2 H2 => tb { D with nx := Pv (i + 1), ct := Pv (i + 1), bk := D.nx } σ2 H2) (hd : ∀ σ H, Pv xs.length σ H → D.nx σ H) :
    ∃ W : Nat → Nat → St → Hp → Prop, (∃ m, W 0 m σ H) ∧ ∀ i m σ H, W i m σ H →
      ((Itl K a).stop i H ∧ D.nx σ H) ∨ ((Itl K a).go i H ∧ ∃ N : St → Hp → Prop, (∀ σ' H', N σ' H' → ∃ m', m' < m ∧ W (i + 1) m' σ' H') ∧ ∀ x H', (Itl K a).yld i H x H' → g x σ H' fun σ2 H2 => tb { D with nx := N, ct := N, bk := D.nx } σ2 H2) := by
  refine ⟨fun i m σ H => m = xs.length - i ∧ i ≤ xs.length ∧ Pv i σ H, ⟨xs.length, by simp, Nat.zero_le _, h0⟩, ?_⟩
  rintro i m σ H ⟨rfl, hi, p⟩
  have q := hl i σ H hi p
  by_cases hlt : i < xs.length
  · refine .inr ⟨⟨xs, xs[i], q, by simp [hlt]⟩, Pv (i + 1), fun σ' H' p' => ⟨xs.length - (i + 1), by omega, rfl, hlt, p'⟩, fun x H' y => ?_⟩
    obtain ⟨e, y⟩ := y
    subst e
    exact hs i x σ _ (y xs q) p
  · have e : i = xs.length := by omega
    subst e
    exact .inl ⟨⟨xs, q, Nat.le_refl _⟩, hd σ H p⟩
theorem for_range {lo : Int} {n : Nat} {g : TG} {tb : TS} {D : Ends} {σ : St} {H : Hp} (Pv : Nat → St → Hp → Prop) (h0 : Pv 0 σ H)
    (hs : ∀ i σ H, i < n → Pv i σ H → g (.int (lo + i)) σ H fun σ2 H2 => tb { D with nx := Pv (i + 1), ct := Pv (i + 1), bk := D.nx } σ2 H2) (hd : ∀ σ H, Pv n σ H → D.nx σ H) :
    ∃ W : Nat → Nat → St → Hp → Prop, (∃ m, W 0 m σ H) ∧ ∀ i m σ H, W i m σ H →
      ((Itr lo n).stop i H ∧ D.nx σ H) ∨ ((Itr lo n).go i H ∧ ∃ N : St → Hp → Prop, (∀ σ' H', N σ' H' → ∃ m', m' < m ∧ W (i + 1) m' σ' H') ∧ ∀ x H', (Itr lo n).yld i H x H' → g x σ H' fun σ2 H2 => tb { D with nx := N, ct := N, bk := D.nx } σ2 H2) := by
  refine ⟨fun i m σ H => m = n - i ∧ i ≤ n ∧ Pv i σ H, ⟨n, by simp, Nat.zero_le _, h0⟩, ?_⟩
  rintro i m σ H ⟨rfl, hi, p⟩
  by_cases hlt : i < n
  · refine .inr ⟨hlt, Pv (i + 1), fun σ' H' p' => ⟨n - (i + 1), by omega, rfl, hlt, p'⟩, fun x H' y => ?_⟩
    obtain ⟨e, y⟩ := y
    subst e y
    exact hs i σ _ hlt p
  · have e : i = n := by omega
    subst e
    exact .inl ⟨Nat.le_refl _, hd σ H p⟩
theorem while_by {c : TT} {tb : TS} {D : Ends} {σ : St} {H : Hp} (Pv : St → Hp → Prop) (μ : St → Hp → Nat) (h0 : Pv σ H)
    (hs : ∀ σ H, Pv σ H → c σ H fun b H1 => if b = true then tb { D with nx := fun σ' H' => Pv σ' H' ∧ μ σ' H' < μ σ H, ct := fun σ' H' => Pv σ' H' ∧ μ σ' H' < μ σ H, bk := D.nx } σ H1 else D.nx σ H1)
    (mono : ∀ σ H Q Q', (∀ b H1, Q b H1 → Q' b H1) → c σ H Q → c σ H Q') : tWhile c tb D σ H := by
  refine ⟨fun m σ H => m = μ σ H ∧ Pv σ H, ⟨_, rfl, h0⟩, ?_⟩
  rintro m σ H ⟨rfl, p⟩
  refine mono σ H _ _ (fun b H1 q => ?_) (hs σ H p)
  cases b with
  | true => exact ⟨_, fun σ' H' ⟨p', l⟩ => ⟨_, l, rfl, p'⟩, q⟩
  | false => exact q
end L2

namespace L2
open PySem PySem.Spec PyProof.Rows

noncomputable abbrev R2 := V → V → Hp → VK → Prop
noncomputable def OpR (X : Cx) (f : Value → Value → Sem Value) (r : R2) : Prop :=
  ∀ (pins : List (Addr × Obj)) (s : Shared) (σ : St) (H : Hp) (x y : V) (v u : Value) (Q : VK), Inv X pins σ H s → RelV x v → RelV y u → r x y H Q →
    wpAny (model X.prog X.w) X.A (f v u) (EP X pins σ Q) X.xe s
noncomputable def UnR (X : Cx) (f : Value → Sem Value) (r : V → Hp → VK → Prop) : Prop :=
  ∀ (pins : List (Addr × Obj)) (s : Shared) (σ : St) (H : Hp) (x : V) (v : Value) (Q : VK), Inv X pins σ H s → RelV x v → r x H Q →
    wpAny (model X.prog X.w) X.A (f v) (EP X pins σ Q) X.xe s
noncomputable def CallR (X : Cx) (f : Value) (r : List V → Hp → VK → Prop) : Prop :=
  ∀ (pins : List (Addr × Obj)) (s : Shared) (σ : St) (H : Hp) (xs : List V) (us : List Value) (Q : VK), Inv X pins σ H s → Vals xs us → r xs H Q →
    wpAny (model X.prog X.w) X.A (call f us) (EP X pins σ Q) X.xe s
noncomputable def tOp (r : R2) (ta tb : TE) : TE := fun σ H Q => ta σ H fun x H1 => tb σ H1 fun y H2 => r x y H2 Q
noncomputable def tUn (r : V → Hp → VK → Prop) (ta : TE) : TE := fun σ H Q => ta σ H fun x H1 => r x H1 Q
noncomputable def rI (C : Int → Int → Prop) (g : Int → Int → V) : R2 := fun x y H Q => ∃ i j, x = .int i ∧ y = .int j ∧ C i j ∧ Q (g i j) H
noncomputable def rI0 (g : Int → Int → V) : R2 := fun x y H Q => ∃ i j, x = .int i ∧ y = .int j ∧ Q (g i j) H
noncomputable def rU (g : Int → V) : V → Hp → VK → Prop := fun x H Q => ∃ i, x = .int i ∧ Q (g i) H

section
variable {X : Cx} {a b c : Expr} {ta tb tc : TE} {pos : Pos}

theorem binT (ha : PE X a ta) (hb : PE X b tb) {pins : List (Addr × Obj)} {s : Shared} {σ : St} {H : Hp} {R : V → V → Hp → Prop} (I : Inv X pins σ H s)
    (h : ta σ H fun x H1 => tb σ H1 fun y H2 => R x y H2) {Q : Value → Shared → Prop} {f : Value → Value → Sem Value}
    (hf : ∀ v u s2 x y H2, Inv X pins σ H2 s2 → RelV x v → RelV y u → R x y H2 → wpAny (model X.prog X.w) X.A (f v u) Q X.xe s2) :
    wpAny (model X.prog X.w) X.A (eval a X.env) (fun v s₁ => wpAny (model X.prog X.w) X.A (eval b X.env) (fun u s₂ => wpAny (model X.prog X.w) X.A (f v u) Q X.xe s₂) X.xe s₁) X.xe s := by
  refine thn (ha pins s σ H _ I h) fun v s1 qq0 => ?_
  obtain ⟨x, H1, I1, r1, q1⟩ := qq0
  refine thn (hb pins s1 σ H1 _ I1 q1) fun u s2 qq0 => ?_
  obtain ⟨y, H2, I2, r2, q2⟩ := qq0
  exact hf v u s2 x y H2 I2 r1 r2 q2

theorem pe_op {op : Operator} {r : R2} (ho : OpR X (binaryOp op) r) (ha : PE X a ta) (hb : PE X b tb) : PE X (.BinOp a op b pos) (tOp r ta tb) := by
  intro pins s σ H Q I h
  exact wpAny_BinOp (binT ha hb I h fun v u s2 x y H2 I2 rx ry q => ho pins s2 σ H2 x y v u Q I2 rx ry q)
theorem pe_un {op : UnaryOp} {r : V → Hp → VK → Prop} (ho : UnR X (unaryOp op) r) (ha : PE X a ta) : PE X (.UnaryOp op a pos) (tUn r ta) := by
  intro pins s σ H Q I h
  exact UnaryOp_ (thn (ha pins s σ H _ I h) fun v s1 ⟨x, H1, I1, r1, q1⟩ => ho pins s1 σ H1 x v Q I1 r1 q1)
theorem opI {f : Value → Value → Sem Value} {C : Int → Int → Prop} {g : Int → Int → Int}
    (rule : ∀ (i j : Int) (t u : Tok) (s : Shared) (Q : Value → Shared → Prop) (E : Value → Shared → Prop), C i j → Q (.int (g i j) s.toks) { s with toks := s.toks + 1 } → wpAny (model X.prog X.w) X.A (f (.int i t) (.int j u)) Q E s) :
    OpR X f (rI C fun i j => .int (g i j)) := by
  intro pins s σ H x y v u Q I rx ry h
  obtain ⟨i, j, rfl, rfl, hc, q⟩ := h
  obtain ⟨t, rfl⟩ := rx
  obtain ⟨t', rfl⟩ := ry
  exact rule i j t t' s _ _ hc ⟨.int (g i j), H, I.tok _, ⟨_, rfl⟩, q⟩
theorem opI0 {f : Value → Value → Sem Value} {g : Int → Int → Int}
    (rule : ∀ (i j : Int) (t u : Tok) (s : Shared) (Q : Value → Shared → Prop) (E : Value → Shared → Prop), Q (.int (g i j) s.toks) { s with toks := s.toks + 1 } → wpAny (model X.prog X.w) X.A (f (.int i t) (.int j u)) Q E s) :
    OpR X f (rI0 fun i j => .int (g i j)) := by
  intro pins s σ H x y v u Q I rx ry h
  obtain ⟨i, j, rfl, rfl, q⟩ := h
  obtain ⟨t, rfl⟩ := rx
  obtain ⟨t', rfl⟩ := ry
  exact rule i j t t' s _ _ ⟨.int (g i j), H, I.tok _, ⟨_, rfl⟩, q⟩
theorem opB0 {f : Value → Value → Sem Value} {g : Int → Int → Bool}
    (rule : ∀ (i j : Int) (t u : Tok) (s : Shared) (Q : Value → Shared → Prop) (E : Value → Shared → Prop), Q (.bool (g i j)) s → wpAny (model X.prog X.w) X.A (f (.int i t) (.int j u)) Q E s) :
    OpR X f (rI0 fun i j => .bl (g i j)) := by
  intro pins s σ H x y v u Q I rx ry h
  obtain ⟨i, j, rfl, rfl, q⟩ := h
  obtain ⟨t, rfl⟩ := rx
  obtain ⟨t', rfl⟩ := ry
  exact rule i j t t' s _ _ ⟨.bl (g i j), H, I, rfl, q⟩

noncomputable def CDiv (i j : Int) : Prop := 0 < j ∧ j < 1073741824
noncomputable def CPow (i j : Int) : Prop := 0 ≤ j ∧ j ≤ 1000000 ∧ i.natAbs < 2 ^ 64
noncomputable def CMul (i j : Int) : Prop := (-(2 ^ 64) < i ∧ i < 2 ^ 64) ∨ (-(2 ^ 64) < j ∧ j < 2 ^ 64)
theorem CMul.ok {i j : Int} (h : CMul i j) : IntMulOk i j := by
  rcases h with ⟨h1, h2⟩ | ⟨h1, h2⟩
  · exact .of_left (intBits_le_64 h1 h2)
  · exact .of_right (intBits_le_64 h1 h2)
theorem op_add : OpR X (binaryOp .Add) (rI0 fun i j => .int (i + j)) := opI0 fun _ _ _ _ _ _ _ q => add_int q
theorem op_sub : OpR X (binaryOp .Sub) (rI0 fun i j => .int (i - j)) := opI0 fun _ _ _ _ _ _ _ q => sub_int q
theorem op_mul : OpR X (binaryOp .Mult) (rI CMul fun i j => .int (i * j)) := opI fun _ _ _ _ _ _ _ hc q => mul_int q hc.ok
theorem op_fdiv : OpR X (binaryOp .FloorDiv) (rI CDiv fun i j => .int (i / j)) := opI fun i j _ _ _ _ _ hc q => by
  have h1 : (0 : Int) < j := hc.1
  have h2 : j < 1073741824 := hc.2
  exact floordiv_int (by omega) (by rw [Int.fdiv_eq_ediv_of_nonneg i (by omega)]; exact q) (.inl (PyProof.noPylong_small (by omega)))
theorem op_mod : OpR X (binaryOp .Mod) (rI (fun _ j => 0 < j) fun i j => .int (i % j)) := opI fun i j _ _ _ _ _ hc q => by
  have h1 : (0 : Int) < j := hc
  exact mod_int' (by omega) (by rw [Int.fmod_eq_emod_of_nonneg i (by omega)]; exact q)
theorem op_pow : OpR X (binaryOp .Pow) (rI CPow fun i j => .int (i ^ j.toNat)) := opI fun _ _ _ _ _ _ _ hc q => pow_int_small hc.1 hc.2.1 hc.2.2 q
theorem unI {f : Value → Sem Value} {g : Int → Int}
    (rule : ∀ (i : Int) (t : Tok) (s : Shared) (Q : Value → Shared → Prop) (E : Value → Shared → Prop), Q (.int (g i) s.toks) { s with toks := s.toks + 1 } → wpAny (model X.prog X.w) X.A (f (.int i t)) Q E s) :
    UnR X f (rU fun i => .int (g i)) := by
  intro pins s σ H x v Q I rx h
  obtain ⟨i, rfl, q⟩ := h
  obtain ⟨t, rfl⟩ := rx
  exact rule i t s _ _ ⟨.int (g i), H, I.tok _, ⟨_, rfl⟩, q⟩
theorem un_neg : UnR X (unaryOp .USub) (rU fun i => .int (-i)) := unI fun _ _ _ _ _ q => neg_int q
end

noncomputable def scal : V → V → Bool
  | .non, .non => true | .non, .int _ => true | .int _, .non => true | .non, .bl _ => true | .bl _, .non => true | .non, .str _ => true | .str _, .non => true
  | .int _, .int _ => true | .bl _, .bl _ => true | .str _, .str _ => true | .byt _, .byt _ => true
  | .int _, .str _ => true | .str _, .int _ => true | .bl _, .str _ => true | .str _, .bl _ => true
  | _, _ => false
noncomputable def rEq : R2 := fun x y H Q => scal x y = true ∧ Q (.bl (decide (x = y))) H
noncomputable def rNe : R2 := fun x y H Q => scal x y = true ∧ Q (.bl (!decide (x = y))) H

theorem dec_int {i j : Int} : decide (V.int i = V.int j) = (i == j) := by
  rw [Bool.eq_iff_iff]
  simp
theorem dec_bl {i j : Bool} : decide (V.bl i = V.bl j) = (i == j) := by
  rw [Bool.eq_iff_iff]
  simp
theorem dec_str {i j : Str} : decide (V.str i = V.str j) = (i == j) := by
  rw [Bool.eq_iff_iff]
  simp
theorem dec_byt {i j : Array UInt8} : decide (V.byt i = V.byt j) = (i.toList == j.toList) := by
  rw [Bool.eq_iff_iff]
  cases i
  cases j
  simp

section
variable {X : Cx} {a b c : Expr} {ta tb tc : TE} {pos : Pos}
theorem fin_bl {pins : List (Addr × Obj)} {σ : St} {H : Hp} {s : Shared} {Q : VK} {k k' : Bool} (I : Inv X pins σ H s) (q : Q (.bl k) H) (e : k = k') : EP X pins σ Q (.bool k') s := by
  subst e
  exact ⟨.bl k, H, I, rfl, q⟩
theorem op_eq : OpR X (compareOp .Eq) rEq := by
  intro pins s σ H x y v u Q I rx ry h
  obtain ⟨hs, q⟩ := h
  cases x with
  | non =>
    cases rx
    cases y with
    | non => cases ry; exact PySem.EqNone.eq_none_none (fin_bl I q (by simp))
    | bl j => cases ry; exact PySem.EqNone.eq_none_bool (fin_bl I q (by simp))
    | int j => obtain ⟨t', rfl⟩ := ry; exact PySem.EqNone.eq_none_int (fin_bl I q (by simp))
    | str j => obtain ⟨t', rfl⟩ := ry; exact PySem.EqNone.eq_none_str (fin_bl I q (by simp))
    | _ => exact absurd (show false = true from hs) Bool.false_ne_true
  | bl i =>
    cases rx
    cases y with
    | non => cases ry; exact PySem.EqNone.eq_bool_none (fin_bl I q (by simp))
    | bl j => cases ry; exact eq_bool (fin_bl I q dec_bl)
    | str j => obtain ⟨t', rfl⟩ := ry; exact PySem.EqMixed.eq_bool_str (fin_bl I q (by simp))
    | _ => exact absurd (show false = true from hs) Bool.false_ne_true
  | int i =>
    obtain ⟨t, rfl⟩ := rx
    cases y with
    | non => cases ry; exact PySem.EqNone.eq_int_none (fin_bl I q (by simp))
    | int j => obtain ⟨t', rfl⟩ := ry; exact eq_int (fin_bl I q dec_int)
    | str j => obtain ⟨t', rfl⟩ := ry; exact PySem.EqMixed.eq_int_str (fin_bl I q (by simp))
    | _ => exact absurd (show false = true from hs) Bool.false_ne_true
  | str i =>
    obtain ⟨t, rfl⟩ := rx
    cases y with
    | non => cases ry; exact PySem.EqNone.eq_str_none (fin_bl I q (by simp))
    | bl j => cases ry; exact PySem.EqMixed.eq_str_bool (fin_bl I q (by simp))
    | int j => obtain ⟨t', rfl⟩ := ry; exact PySem.EqMixed.eq_str_int (fin_bl I q (by simp))
    | str j => obtain ⟨t', rfl⟩ := ry; exact eq_str (fin_bl I q dec_str)
    | _ => exact absurd (show false = true from hs) Bool.false_ne_true
  | byt i =>
    obtain ⟨t, rfl⟩ := rx
    cases y with
    | byt j => obtain ⟨t', rfl⟩ := ry; exact PySem.W.eq_bytes (fin_bl I q dec_byt)
    | _ => exact absurd (show false = true from hs) Bool.false_ne_true
  | _ => cases y <;> exact absurd (show false = true from hs) Bool.false_ne_true
theorem op_ne : OpR X (compareOp .NotEq) rNe := by
  intro pins s σ H x y v u Q I rx ry h
  obtain ⟨hs, q⟩ := h
  cases x with
  | non =>
    cases rx
    cases y with
    | non => cases ry; exact PySem.EqNone.ne_none_none (fin_bl I q (by simp))
    | bl j => cases ry; exact PySem.EqNone.ne_none_bool (fin_bl I q (by simp))
    | int j => obtain ⟨t', rfl⟩ := ry; exact PySem.EqNone.ne_none_int (fin_bl I q (by simp))
    | str j => obtain ⟨t', rfl⟩ := ry; exact PySem.EqNone.ne_none_str (fin_bl I q (by simp))
    | _ => exact absurd (show false = true from hs) Bool.false_ne_true
  | bl i =>
    cases rx
    cases y with
    | non => cases ry; exact PySem.EqNone.ne_bool_none (fin_bl I q (by simp))
    | bl j => cases ry; exact ne_bool (fin_bl I q (congrArg not dec_bl))
    | str j => obtain ⟨t', rfl⟩ := ry; exact PySem.EqMixed.ne_bool_str (fin_bl I q (by simp))
    | _ => exact absurd (show false = true from hs) Bool.false_ne_true
  | int i =>
    obtain ⟨t, rfl⟩ := rx
    cases y with
    | non => cases ry; exact PySem.EqNone.ne_int_none (fin_bl I q (by simp))
    | int j => obtain ⟨t', rfl⟩ := ry; exact ne_int (fin_bl I q (congrArg not dec_int))
    | str j => obtain ⟨t', rfl⟩ := ry; exact PySem.EqMixed.ne_int_str (fin_bl I q (by simp))
    | _ => exact absurd (show false = true from hs) Bool.false_ne_true
  | str i =>
    obtain ⟨t, rfl⟩ := rx
    cases y with
    | non => cases ry; exact PySem.EqNone.ne_str_none (fin_bl I q (by simp))
    | bl j => cases ry; exact PySem.EqMixed.ne_str_bool (fin_bl I q (by simp))
    | int j => obtain ⟨t', rfl⟩ := ry; exact PySem.EqMixed.ne_str_int (fin_bl I q (by simp))
    | str j => obtain ⟨t', rfl⟩ := ry; exact ne_str (fin_bl I q (congrArg not dec_str))
    | _ => exact absurd (show false = true from hs) Bool.false_ne_true
  | byt i =>
    obtain ⟨t, rfl⟩ := rx
    cases y with
    | byt j => obtain ⟨t', rfl⟩ := ry; exact PySem.W.ne_bytes (fin_bl I q (congrArg not dec_byt))
    | _ => exact absurd (show false = true from hs) Bool.false_ne_true
  | _ => cases y <;> exact absurd (show false = true from hs) Bool.false_ne_true

theorem op_lt : OpR X (compareOp .Lt) (rI0 fun i j => .bl (decide (i < j))) := opB0 fun _ _ _ _ _ _ _ q => lt_int q
theorem op_le : OpR X (compareOp .LtE) (rI0 fun i j => .bl (decide (i ≤ j))) := opB0 fun _ _ _ _ _ _ _ q => le_int q
theorem op_gt : OpR X (compareOp .Gt) (rI0 fun i j => .bl (decide (j < i))) := opB0 fun _ _ _ _ _ _ _ q => gt_int q
theorem op_in_str : OpR X (compareOp .In) (fun x y H Q => ∃ i j, x = .str i ∧ y = .str j ∧ Q (.bl (!(Builtin.Str.occurrences j i 0 j.length 1).isEmpty)) H) := by
  intro pins s σ H x y v u Q I rx ry h
  obtain ⟨i, j, rfl, rfl, q⟩ := h
  obtain ⟨t, rfl⟩ := rx
  obtain ⟨t', rfl⟩ := ry
  exact in_str (fin_bl I q rfl)

theorem op_notN : OpR X (compareOp .IsNot) (fun x y H Q => y = .non ∧ Q (.bl (!decide (x = .non))) H) := by
  intro pins s σ H x y v u Q I rx ry h
  obtain ⟨rfl, q⟩ := h
  cases ry
  refine isnot_none_gen (fin_bl I q ?_)
  cases x <;> first
    | (cases rx; rfl)
    | (obtain ⟨t, rfl⟩ := rx; rfl)

theorem OpR.or {f : Value → Value → Sem Value} {r r' : R2} (h : OpR X f r) (h' : OpR X f r') : OpR X f (fun x y H Q => r x y H Q ∨ r' x y H Q) := by
  intro pins s σ H x y v u Q I rx ry q
  rcases q with q | q
  · exact h pins s σ H x y v u Q I rx ry q
  · exact h' pins s σ H x y v u Q I rx ry q

theorem nomark (b : Expr) {op : CmpOp} (h : autoParam (op ≠ .In) L2.auto2._auto_1) (h2 : autoParam (op ≠ .NotIn) L2.auto2._auto_1) : behindInMarks op b = false := by
  have e1 : (op == CmpOp.In) = false := by cases op <;> first | rfl | exact absurd rfl h
  have e2 : (op == CmpOp.NotIn) = false := by cases op <;> first | rfl | exact absurd rfl h2
  cases b <;> simp [behindInMarks, e1, e2]
theorem pe_cmpR {op : CmpOp} {r : R2} (ho : OpR X (compareOp op) r) (ha : PE X a ta) (hb : PE X b tb) (hm : behindInMarks op b = false) : PE X (.Compare a [op] [b] pos) (tOp r ta tb) := by
  intro pins s σ H Q I h
  exact wpAny_Compare1 (binT ha hb I h fun v u s2 x y H2 I2 rx ry q => ho pins s2 σ H2 x y v u Q I2 rx ry q) hm
noncomputable def tTest (t : TE) : TT := fun σ H Q => t σ H fun x H' => ∃ k, x = .bl k ∧ Q k H'
theorem pt_cmpR {op : CmpOp} {r : R2} (ho : OpR X (compareOp op) r) (ha : PE X a ta) (hb : PE X b tb) (hm : behindInMarks op b = false) : PT X (.Compare a [op] [b] pos) (tTest (tOp r ta tb)) := by
  intro pins s σ H Q I h
  refine wpAny_isTrue_Compare1 (thn (ha pins s σ H _ I h) fun v s1 ⟨x, H1, I1, r1, q1⟩ => thn (hb pins s1 σ H1 _ I1 q1) fun u s2 ⟨y, H2, I2, r2, q2⟩ =>
    thn (ho pins s2 σ H2 x y v u _ I2 r1 r2 q2) fun c s3 ⟨z, H3, I3, r3, k, e, q3⟩ => ?_) hm
  subst e
  cases r3
  exact wpAny_truthy_bool ⟨H3, I3, q3⟩
noncomputable def tChain (r r' : R2) (ta tb tc : TE) : TE := fun σ H Q => ta σ H fun x H1 => tb σ H1 fun y H2 => r x y H2 fun z H3 => ∃ k, z = .bl k ∧
  (if k = true then tc σ H3 fun w' H4 => r' y w' H4 Q else Q (.bl false) H3)
theorem pe_chain {op op' : CmpOp} {r r' : R2} (ho : OpR X (compareOp op) r) (ho' : OpR X (compareOp op') r') (ha : PE X a ta) (hb : PE X b tb) (hc : PE X c tc)
    (hm : autoParam (lastMarks [op, op'] [b, c] = false) L2.auto5._auto_1) : PE X (.Compare a [op, op'] [b, c] pos) (tChain r r' ta tb tc) := by
  intro pins s σ H Q I h
  refine Compare_chain (thn (ha pins s σ H _ I h) fun v s1 ⟨x, H1, I1, r1, q1⟩ => chain_link (thn (hb pins s1 σ H1 _ I1 q1) fun u s2 ⟨y, H2, I2, r2, q2⟩ =>
    thn (ho pins s2 σ H2 x y v u _ I2 r1 r2 q2) fun d s3 ⟨z, H3, I3, r3, k, e, q3⟩ => ?_)) hm
  subst e
  cases r3
  refine wpAny_truthy_bool ?_
  cases k with
  | false => exact ite_ff ⟨.bl false, H3, I3, rfl, q3⟩
  | true => exact ite_tt (chain_last (thn (hc pins s3 σ H3 _ I3 q3) fun w' s4 ⟨z', H4, I4, r4, q4⟩ => ho' pins s4 σ H4 y z' u w' Q I4 r2 r4 q4))
theorem pt_chain {op op' : CmpOp} {r r' : R2} (ho : OpR X (compareOp op) r) (ho' : OpR X (compareOp op') r') (ha : PE X a ta) (hb : PE X b tb) (hc : PE X c tc)
    (hm : autoParam (lastMarks [op, op'] [b, c] = false) L2.auto5._auto_1) : PT X (.Compare a [op, op'] [b, c] pos) (tTest (tChain r r' ta tb tc)) := by
  intro pins s σ H Q I h
  refine isTrue_chain (thn (ha pins s σ H _ I h) fun v s1 ⟨x, H1, I1, r1, q1⟩ => test_link (thn (hb pins s1 σ H1 _ I1 q1) fun u s2 ⟨y, H2, I2, r2, q2⟩ =>
    thn (ho pins s2 σ H2 x y v u _ I2 r1 r2 q2) fun d s3 ⟨z, H3, I3, r3, k, e, q3⟩ => ?_)) hm
  subst e
  cases r3
  refine wpAny_truthy_bool ?_
  cases k with
  | false =>
    obtain ⟨k', e', q'⟩ := q3
    cases e'
    exact ite_ff ⟨H3, I3, q'⟩
  | true =>
    refine ite_tt (test_last (thn (hc pins s3 σ H3 _ I3 q3) fun w' s4 ⟨z', H4, I4, r4, q4⟩ => thn (ho' pins s4 σ H4 y z' u w' _ I4 r2 r4 q4) fun d' s5 qq0 => ?_))
    obtain ⟨z2, H5, I5, r5, k2, e2, q5⟩ := qq0
    subst e2
    cases r5
    exact wpAny_truthy_bool ⟨H5, I5, q5⟩

theorem line63 : (sizeLine : Nat) < 2 ^ 63 := by rw [sizeLine_eq]; decide
theorem op_add_str : OpR X (binaryOp .Add) (fun x y H Q => ∃ i j, x = .str i ∧ y = .str j ∧ i.length + j.length ≤ sizeLine ∧ Q (.str (i ++ j)) H) := by
  intro pins s σ H x y v u Q I rx ry h
  obtain ⟨i, j, rfl, rfl, hz, q⟩ := h
  obtain ⟨t, rfl⟩ := rx
  obtain ⟨t', rfl⟩ := ry
  exact add_str (fun t' tk => ⟨.str (i ++ j), H, I.tok _, ⟨_, rfl⟩, q⟩) hz
theorem vals1 {x : V} {us : List Value} (r : Vals [x] us) : ∃ u, us = [u] ∧ RelV x u := by
  cases r with
  | cons r1 r2 => cases r2; exact ⟨_, rfl, r1⟩
theorem vals2 {x y : V} {us : List Value} (r : Vals [x, y] us) : ∃ u w', us = [u, w'] ∧ RelV x u ∧ RelV y w' := by
  cases r with
  | cons r1 r2 =>
    cases r2 with
    | cons r3 r4 => cases r4; exact ⟨_, _, rfl, r1, r3⟩
theorem call_max2 (hc : X.calm = true) : CallR X (.builtin "max") (fun xs H Q => ∃ i j, xs = [.int i, .int j] ∧ Q (.int (if j > i then j else i)) H) := by
  intro pins s σ H xs us Q I r h
  obtain ⟨i, j, rfl, q⟩ := h
  obtain ⟨u, w', rfl, ⟨t, rfl⟩, ⟨t', rfl⟩⟩ := vals2 r
  refine max_two_ints (I.ok.hd hc) fun h' tk k => ⟨_, H, I.kept k, ?_, q⟩
  by_cases hj : j > i
  · rw [if_pos hj, if_pos hj]; exact ⟨_, rfl⟩
  · rw [if_neg hj, if_neg hj]; exact ⟨_, rfl⟩
noncomputable def LenV (K : PySem.W.Frag) (x : V) (H : Hp) (n : Nat) : Prop :=
  match x with
  | .str y => y.length ≤ sizeLine ∧ n = y.length
  | .byt y => y.size ≤ sizeLine ∧ n = y.size
  | .ref p => (∃ xs, SqL K H p xs ∧ n = xs.length) ∨ ∃ xs, SqT K H p xs ∧ n = xs.length
  | _ => False
theorem call_len : CallR X (.builtin "len") (fun xs H Q => ∃ x n, xs = [x] ∧ LenV X.K x H n ∧ Q (.int n) H) := by
  intro pins s σ H xs us Q I r h
  obtain ⟨x, n, rfl, e, q⟩ := h
  obtain ⟨u, rfl, rx⟩ := vals1 r
  have hl := line63
  have hs : sizeLine = 16777216 := sizeLine_eq
  cases x with
  | str y =>
    obtain ⟨t, rfl⟩ := rx
    obtain ⟨hy, e'⟩ : y.length ≤ sizeLine ∧ n = y.length := e
    subst e'
    exact len_str (by omega) ⟨.int _, H, I.tok _, ⟨_, rfl⟩, q⟩
  | byt y =>
    obtain ⟨t, rfl⟩ := rx
    obtain ⟨hy, e'⟩ : y.size ≤ sizeLine ∧ n = y.size := e
    subst e'
    exact PySem.W.len_bytes (by omega) ⟨.int _, H, I.tok _, ⟨_, rfl⟩, q⟩
  | ref p =>
    cases rx
    have e' : (∃ xs, SqL X.K H p xs ∧ n = xs.length) ∨ ∃ xs, SqT X.K H p xs ∧ n = xs.length := e
    rcases e' with ⟨xs, hx, e'⟩ | ⟨xs, hx, e'⟩
    · subst e'
      obtain ⟨its, r', pl, hz⟩ := I.list hx
      have hlen := r'.length
      exact Calls.call_len_list pl.isList (by simp only [List.size_toArray]; omega) ⟨.int xs.length, H, I.tok _, ⟨_, by simp only [List.size_toArray]; rw [hlen]⟩, q⟩
    · subst e'
      obtain ⟨its, r', pl, hz⟩ := I.tuple hx
      have hlen := r'.length
      exact len_tuple pl (by simp only [List.size_toArray]; omega) ⟨.int xs.length, H, I.tok _, ⟨_, by simp only [List.size_toArray]; rw [hlen]⟩, q⟩
  | _ => exact (show False from e).elim
end
end L2

namespace L2
open PySem PySem.Spec PyProof.Rows

structure ObjM (h : Heap) (x dx C : Addr) (mA : Str → Option Value) : Prop where
  obj : h.get? x = some (PySem.W.instObj C dx)
  ns : h.Ns1 dx mA
  ne : dx ≠ x

theorem lookIn_ns {h : Heap} {dx : Addr} {mA : Str → Option Value} (n : h.Ns1 dx mA) : ∃ od, h.get? dx = some od ∧ ∀ name, PySem.W.lookIn name od = some (mA name) := by
  obtain ⟨o, es, ep, ho, hd, hk, _, hm⟩ := n
  refine ⟨o, ho, fun name => ?_⟩
  have e := hm name
  unfold nsFind findBy at e
  rw [← Array.find?_toList] at e
  unfold PySem.W.lookIn
  rw [hd]
  dsimp only
  split
  · rename_i y q
    rw [q] at e
    exact congrArg some e
  · rename_i q
    rw [q] at e
    have a : es.toList.any (·.refKey) = false := by
      rw [List.any_eq_false]
      intro y hy
      obtain ⟨z, t, hkey⟩ := hk y (Array.mem_toList_iff.mp hy)
      simp [DictEntry.refKey, hkey]
    have a' : ¬ es.toList.any (·.refKey) = true := by rw [a]; exact Bool.false_ne_true
    rw [if_neg a']
    exact congrArg some e

theorem ObjM.look {h : Heap} {x dx C : Addr} {mA : Str → Option Value} (I : ObjM h x dx C mA) : ∃ od, PySem.W.InstAt h x (PySem.W.instObj C dx) C (some od) ∧ ∀ name, PySem.W.lookIn name od = some (mA name) :=
  let ⟨od, ho, hl⟩ := lookIn_ns I.ns
  ⟨od, ⟨I.obj, rfl, rfl, ho⟩, hl⟩

section
variable {prog : Program} {w : World} {A : Around} {E : Value → Shared → Prop} {s : Shared} {K : PySem.W.Frag} {x dx C f : Addr} {mA : Str → Option Value} {name : Str} {v : Value}

end

noncomputable def putF (f : Str) (v : V) : List (Str × V) → List (Str × V)
  | [] => [(f, v)]
  | (g, x) :: r => if g = f then (g, v) :: r else (g, x) :: putF f v r
theorem lookup_putF (f g : Str) (v : V) : ∀ fs : List (Str × V), (putF f v fs).lookup g = if g = f then some v else fs.lookup g
  | [] => by
    show List.lookup g [(f, v)] = _
    by_cases h : g = f
    · have hb : (g == f) = true := beq_iff_eq.mpr h
      simp only [List.lookup, hb, if_pos h]
    · have hb : (g == f) = false := beq_eq_false_iff_ne.mpr h
      simp only [List.lookup, hb, if_neg h]
  | (k, x) :: r => by
    have ih := lookup_putF f g v r
    rw [show putF f v ((k, x) :: r) = (if k = f then (k, v) :: r else (k, x) :: putF f v r) from rfl]
    by_cases hk : k = f
    · rw [if_pos hk]
      by_cases h : g = k
      · have hb : (g == k) = true := beq_iff_eq.mpr h
        simp only [List.lookup, hb, if_pos (h.trans hk)]
      · have hb : (g == k) = false := beq_eq_false_iff_ne.mpr h
        simp only [List.lookup, hb, if_neg (fun e : g = f => h (e.trans hk.symm))]
    · rw [if_neg hk]
      by_cases h : g = k
      · have hb : (g == k) = true := beq_iff_eq.mpr h
        simp only [List.lookup, hb, if_neg (fun e : g = f => hk (h.symm.trans e))]
      · have hb : (g == k) = false := beq_eq_false_iff_ne.mpr h
        simp only [List.lookup, hb]
        exact ih
theorem RelO.none_of {o : Option Value} (r : RelO none o) : o = none := by
  cases o with
  | none => rfl
  | some u => exact (show False from r).elim
section
variable {P : Program} {w : World} {H H' : Hp} {h h' : Heap} {a C dx : Addr} {fs fs' : List (Str × V)}
theorem ins_get (hok : HOk P w H h) (e : H a = some (.ins C dx fs)) : ∃ mA, ObjM h a dx C mA ∧ (∀ f, RelO (fs.lookup f) (mA f)) ∧ PySem.Within mA (fs.map (·.1)) ∧ fs.length ≤ 1000 ∧ H dx = some (.own a) := by
  obtain ⟨d, z, ne, ob, mA, n, r, q⟩ := (show ObjOk P w H h a (.ins C dx fs) from hok a _ e)
  exact ⟨mA, ⟨ob, n, ne⟩, r, q, z, d⟩
end

structure Cls (K : PySem.W.Frag) (C : Addr) : Prop where
  pg : PySem.W.plainGet K C Str.empty = true
  hd : PySem.W.hasDictIn K C = true
  po : PySem.W.plainOver K C = true
  sa : PySem.W.findIn K (.ref C) "__setattr__" = some (some (.builtin "object.__setattr__"))
theorem Cls.get {K : PySem.W.Frag} {C : Addr} (c : Cls K C) (f : Str) : PySem.W.plainGet K C f = true := c.pg
noncomputable def NoAttr (K : PySem.W.Frag) (C : Addr) (f : Str) : Prop := PySem.W.findIn K (.ref C) f = some none
structure Con (K : PySem.W.Frag) (C : Addr) (f : Str) (v : V) (u : Value) : Prop where
  at_ : PySem.W.findIn K (.ref C) f = some (some u)
  rel : RelV v u
  get : PySem.W.specialIn K u "__get__" = some none
  cp : PySem.W.copiedNames.contains f = false
structure Meth (K : PySem.W.Frag) (C : Addr) (m : Str) (f : Addr) : Prop where
  at_ : PySem.W.findIn K (.ref C) m = some (some (.ref f))
  fn : PySem.W.isFn K (.ref f) = true
  kp : PySem.W.keepIn K (.ref f) = true

section
variable {X : Cx} {pins : List (Addr × Obj)} {σ : St} {H : Hp} {s : Shared} {a C dx : Addr} {fs : List (Str × V)} {f : Str} {v : V} {A : Around} {E : Value → Shared → Prop}

end

section
variable {X : Cx} {o e value : Expr} {f : Str} {pos pos' tpos : Pos} {ta tv : TE}
end

section
variable {X : Cx} {pins : List (Addr × Obj)} {σ : St} {H : Hp} {s : Shared} {A : Around} {E : Value → Shared → Prop} {Q : Value → Shared → Prop} {c : Value} {b : Bool}
inductive TyOf (K : PySem.W.Frag) (H : Hp) : V → Value → Prop where
  | non : TyOf K H .non (.type "NoneType")
  | bl (x : Bool) : TyOf K H (.bl x) (.type "bool")
  | int (i : Int) : TyOf K H (.int i) (.type "int")
  | str (x : Str) : TyOf K H (.str x) (.type "str")
  | flt (x : UInt64) : TyOf K H (.flt x) (.type "float")
  | lst {a : Addr} {xs : List V} (e : H a = some (.lst xs)) : TyOf K H (.ref a) (.type "list")
  | frz {a : Addr} {o : Obj} {xs : List V} (e : H a = some (.frz o (.lst xs))) : TyOf K H (.ref a) (.type "list")
  | tup {a : Addr} {xs : List V} (e : H a = some (.tup xs)) : TyOf K H (.ref a) (.type "tuple")
  | dK {a : Addr} {kvs : List (Key × V)} (e : H a = some (.dK kvs)) : TyOf K H (.ref a) (.type "dict")
  | dT {a : Addr} {kvs : List (List Key × V)} (e : H a = some (.dT kvs)) : TyOf K H (.ref a) (.type "dict")
  | ins {a C dx : Addr} {fs : List (Str × V)} (e : H a = some (.ins C dx fs)) (cl : Cls K C) (ha : PySem.W.findIn K (.ref C) "__class__" = some (some (.builtin "object.__class__")))
      (hn : PySem.W.specialIn K (.builtin "object.__class__") "__get__" = some (some (.builtin "getset_descriptor.__get__"))) (htk : PySem.W.takesIn K (.builtin "object.__class__") = some true)
      (hm : PySem.W.mroIn K C (.type "object") = some true) : TyOf K H (.ref a) (.ref C)
theorem isinst_ok {x : V} {u t : Value} (I : Inv X pins σ H s) (rx : RelV x u) (ty : TyOf X.K H x t) (e : PySem.W.kitOne X.K t c = some b) (h : ∀ tk, Q (.bool b) { s with toks := tk }) :
    wpAny (model X.prog X.w) A (call (.builtin "isinstance") [u, c]) Q E s := by
  cases ty with
  | non => cases (show u = Value.none from rx); exact PySem.W.kia_one PySem.W.kitx_none I.kIn True.intro e (fun z => nomatch z) h
  | bl y => cases (show u = Value.bool y from rx); exact PySem.W.kia_one PySem.W.kitx_bool I.kIn True.intro e (fun z => nomatch z) h
  | int i => obtain ⟨t, q⟩ := (show ∃ t, u = Value.int i t from rx); cases q; exact PySem.W.kia_one PySem.W.kitx_int I.kIn True.intro e (fun z => nomatch z) h
  | str y => obtain ⟨t, q⟩ := (show ∃ t, u = Value.str y t from rx); cases q; exact PySem.W.kia_one PySem.W.kitx_str I.kIn True.intro e (fun z => nomatch z) h
  | flt y => obtain ⟨t, q⟩ := (show ∃ t, u = Value.float y t from rx); cases q; exact PySem.W.kia_one PySem.W.kitx_float I.kIn True.intro e (fun z => nomatch z) h
  | @lst a xs ea =>
    cases (show u = Value.ref a from rx)
    obtain ⟨_, _, n, _, h1⟩ := (show ObjOk X.prog X.w H s.heap a (.lst xs) from I.hok a _ ea)
    exact PySem.W.kia_one PySem.W.kitx_list I.kIn ⟨_, h1, rfl⟩ e (fun z => nomatch z) h
  | @frz a ob xs ea =>
    cases (show u = Value.ref a from rx)
    obtain ⟨_, _, _, n, _, h1⟩ := (show ObjOk X.prog X.w H s.heap a (.frz ob (.lst xs)) from I.hok a _ ea)
    exact PySem.W.kia_one PySem.W.kitx_list I.kIn ⟨_, h1, rfl⟩ e (fun z => nomatch z) h
  | @tup a xs ea =>
    cases (show u = Value.ref a from rx)
    obtain ⟨_, _, _, p⟩ := (show ObjOk X.prog X.w H s.heap a (.tup xs) from I.hok a _ ea)
    obtain ⟨o, h1, h2, _⟩ := p
    exact PySem.W.kia_one PySem.W.kitx_tuple I.kIn ⟨o, h1, h2⟩ e (fun z => nomatch z) h
  | @dK a kvs ea =>
    cases (show u = Value.ref a from rx)
    obtain ⟨_, _, vs, _, p⟩ := (show ObjOk X.prog X.w H s.heap a (.dK kvs) from I.hok a _ ea)
    obtain ⟨o, es, ep, h1, h2, _⟩ := p
    exact PySem.W.kia_one PySem.W.kitx_dict I.kIn ⟨o, h1, h2.1⟩ e (fun z => nomatch z) h
  | @dT a kvs ea =>
    cases (show u = Value.ref a from rx)
    obtain ⟨_, _, xs, _, o, es, ep, h1, h2, _⟩ := (show ObjOk X.prog X.w H s.heap a (.dT kvs) from I.hok a _ ea)
    exact PySem.W.kia_one PySem.W.kitx_dict I.kIn ⟨o, h1, h2.1⟩ e (fun z => nomatch z) h
  | @ins a C dx fs ea cl ha hn htk hm =>
    cases (show u = Value.ref a from rx)
    obtain ⟨mA, O, _⟩ := ins_get I.hok ea
    obtain ⟨od, J, _⟩ := O.look
    exact PySem.W.kia_one (PySem.W.kitx_own (cl.get _) cl.hd ha hn htk hm) I.kIn J e (fun z => nomatch z) h
end
end L2

namespace L2
open PySem PySem.Spec PyProof.Rows

structure Room (k : Nat) (A : Around) : Prop where
  hd : A.handled = none
  dp : A.depth + 3 * k + 5 < recursionLimit
  un : A.units + 16 * k + 200 < cLine
  gd : A.guards = some []
theorem Room.mono {j k : Nat} {A : Around} (r : Room k A) (h : j ≤ k) : Room j A := ⟨r.hd, by have := r.dp; omega, by have := r.un; omega, r.gd⟩
theorem Room.deeper {k : Nat} {A : Around} (r : Room (k + 1) A) (env : Env) : Room k (A.deeper env) :=
  ⟨r.hd, by have := r.dp; show A.depth + 1 + 3 * k + 5 < _; omega, by have := r.un; show A.units + 3 + 16 * k + 200 < _; omega, r.gd⟩
theorem make_depth {A : Around} {C : Addr} {us : List Value} {kw : List (Str × Value)} : (A.under (.builtin "type.__call__" ⟨.ref C :: us, kw⟩)).depth = A.depth + 1 := by
  first | rfl | simp [Around.under, Code.weight, Code.isCreation, Code.isGuard, Code.isCaller, Code.frames, Code.isFrame, guardIds]
theorem make_units {A : Around} {C : Addr} {us : List Value} {kw : List (Str × Value)} : (A.under (.builtin "type.__call__" ⟨.ref C :: us, kw⟩)).units = A.units + 1 := by
  first | rfl | simp [Around.under, Code.cUnits, Code.frames, Code.isFrame]
theorem make_guards {A : Around} {C : Addr} {us : List Value} {kw : List (Str × Value)} : (A.under (.builtin "type.__call__" ⟨.ref C :: us, kw⟩)).guards = pushGuards [] A.guards := by
  first | rfl | simp [Around.under, Code.guards, Code.isGuard, guardIds]
theorem Room.make {k : Nat} {A : Around} (r : Room (k + 1) A) (C : Addr) (us : List Value) (kw : List (Str × Value)) : Room k (A.under (.builtin "type.__call__" ⟨.ref C :: us, kw⟩)) :=
  ⟨r.hd, by have := r.dp; rw [make_depth]; omega, by have := r.un; rw [make_units]; omega, (make_guards.trans (by rw [r.gd]; rfl))⟩
theorem Room.depth {k : Nat} {A : Around} (r : Room k A) : A.depth < recursionLimit := by have := r.dp; omega
theorem Room.units {k : Nat} {A : Around} (r : Room k A) : A.units + 64 < cLine := by have := r.un; omega
theorem Room.units0 {k : Nat} {A : Around} (r : Room k A) : A.units < cLine := by have := r.un; omega

noncomputable def tNil : TA := fun _ H Q => Q [] H
noncomputable def tCons (ta : TE) (tr : TA) : TA := fun σ H Q => ta σ H fun x H1 => tr σ H1 fun xs H2 => Q (x :: xs) H2
section
variable {X : Cx} {e : Expr} {es : List Expr} {te : TE} {t : TA} {pos : Pos}
theorem pa_nil : PA X [] tNil := fun _ _ _ _ H Q I h => Calls.spliced_nil ⟨[], H, I, .nil, h⟩
theorem pa_cons (ha : PE X e te) (hr : PA X es t) (hs : autoParam (starEach (e :: es) X.env = (false, eval e X.env) :: starEach es X.env) L2.auto4._auto_1) : PA X (e :: es) (tCons te t) := by
  intro pos pins s σ H Q I h
  rw [hs]
  show wpAny _ _ (spliced ((false, eval e X.env) :: backTo pos (starEach es X.env))) _ _ s
  refine Calls.spliced_cons (thn (ha pins s σ H _ I h) fun u s1 qq0 => ?_)
  obtain ⟨x, H1, I1, r1, q1⟩ := qq0
  exact thn (hr pos pins s1 σ H1 _ I1 q1) fun us s2 ⟨xs, H2, I2, r2, q2⟩ => ⟨x :: xs, H2, I2, .cons r1 r2, q2⟩

noncomputable def tTup (t : TA) : TE := fun σ H Q => t σ H fun xs H1 => xs.length ≤ sizeLine ∧ ∀ p, H1 p = none → Q (.ref p) (upd H1 p (.tup xs))
noncomputable def tLst (t : TA) : TE := fun σ H Q => t σ H fun xs H1 => xs.length ≤ sizeLine ∧ ∀ p, H1 p = none → Q (.ref p) (upd H1 p (.lst xs))
theorem pe_tup {x1} (h : PA X es t) : PE X (.Tuple es x1 pos) (tTup t) := by
  intro pins s σ H Q I hq
  refine wpAny_Tuple_spliced (thn (h pos pins s σ H _ I hq) fun us s1 ⟨xs, H1, I1, r, z, q⟩ => ⟨by rw [← r.length]; exact z, ?_⟩)
  have hf : H1 s1.heap.objs.size = none := I1.hok.fresh (Nat.le_refl _)
  refine ⟨.ref s1.heap.objs.size, upd H1 s1.heap.objs.size (.tup xs), I1.laid (t' := s1.toks) (fun b u e => Heap.get?_push_of_some _ e) (Nat.le_refl _) ?_, rfl, q _ hf⟩
  exact ⟨z, us, r, ⟨_, Heap.get?_push_size _ rfl, rfl, _, rfl⟩⟩
theorem pe_lst (h : PA X es t) : PE X (.List es pos) (tLst t) := by
  intro pins s σ H Q I hq
  refine wpAny_List_spliced (thn (h pos pins s σ H _ I hq) fun us s1 ⟨xs, H1, I1, r, z, q⟩ => ⟨by rw [← r.length]; exact z, ?_⟩)
  have hf : H1 s1.heap.objs.size = none := I1.hok.fresh (Nat.le_refl _)
  refine ⟨.ref s1.heap.objs.size, upd H1 s1.heap.objs.size (.lst xs), I1.laid (t' := s1.toks) (fun b u e => Heap.get?_push_of_some _ e) (Nat.le_refl _) ?_, rfl, q _ hf⟩
  exact ⟨z, us, 0, r, Heap.get?_push_size _ rfl⟩
end

noncomputable abbrev Sp := List V → Hp → VK → XK → Prop
noncomputable abbrev CXT := List Env → Hp → Shared → XK → Value → Shared → Prop

structure Env0 (P : Program) (w : World) (K : PySem.W.Frag) (mg : Str → Option Value) (base : Heap) (A : Around) (outer : List Env) (s : Shared) (H : Hp) : Prop where
  frames : A.frames = some outer
  mod : Mod K mg base
  bs : ∀ b o, base.get? b = some o → s.heap.get? b = some o ∧ H b = none
  bsz : base.objs.size ≤ s.heap.objs.size
  funs : s.heap.FunFrames base outer
  frf : ∀ b ∈ frs outer, H b = none
  hok : HOk P w H s.heap
  bare : AllBare s.gens
noncomputable def CE (outer : List Env) (P : Program) (w : World) (H : Hp) (s : Shared) (Q : VK) (u : Value) (s' : Shared) : Prop :=
  ∃ v H', s'.os = s.os ∧ AllBare s'.gens ∧ Un (frs outer) [] H H' s.heap s'.heap ∧ HOk P w H' s'.heap ∧ RelV v u ∧ Q v H'
noncomputable def CR (CX : CXT) (outer : List Env) (P : Program) (w : World) (H : Hp) (s : Shared) (Q : VK) (E : XK) (r : Result) (s' : Shared) : Prop :=
  match r with
  | .ok (.ret u) => CE outer P w H s Q u s'
  | .ok _ => False
  | .error e => CX outer H s E e s'
structure FnOk (P : Program) (w : World) (K : PySem.W.Frag) (mg : Str → Option Value) (base : Heap) (CX : CXT) (k : Nat) (f : Addr) (fd : FuncData) (ps : List Str) (sp : Sp) : Prop where
  len : ∀ vs H Q E, sp vs H Q E → vs.length = ps.length
  run : ∀ (A : Around) (outer : List Env) (s : Shared) (H : Hp) (args : Args) (us : List Value) (vs : List V) (Q : VK) (E : XK), Room k A → Env0 P w K mg base A outer s H → BindsTo s fd args (ps.zip us) → Vals vs us → sp vs H Q E →
    codeAny (model P w) A (.call (.ref f) args) (CR CX outer P w H s Q E) s
theorem Env0.make {P : Program} {w : World} {K : PySem.W.Frag} {mg : Str → Option Value} {base : Heap} {A : Around} {outer : List Env} {s : Shared} {H : Hp} (e : Env0 P w K mg base A outer s H) (C : Addr) (us : List Value) (kw : List (Str × Value)) :
    Env0 P w K mg base (A.under (.builtin "type.__call__" ⟨.ref C :: us, kw⟩)) outer s H := ⟨by first | exact e.frames | (simpa [Around.under, Code.envs, Code.isFrame, pushEnvs] using e.frames), e.mod, e.bs, e.bsz, e.funs, e.frf, e.hok, e.bare⟩
section
variable {X : Cx} {pins : List (Addr × Obj)} {σ : St} {H : Hp} {s s' : Shared}
theorem Inv.env0 (I : Inv X pins σ H s) : Env0 X.prog X.w X.K X.mg X.base X.A X.stack s H :=
  ⟨I.ok.frames, I.ok.mod, I.bs, Nat.le_trans I.ok.bsz I.sz, I.stack, I.stkFree, I.hok, I.bare⟩
theorem Inv.after {Q : VK} {u : Value} (I : Inv X pins σ H s) (h : CE X.stack X.prog X.w H s Q u s') : EP X pins σ Q u s' := by
  obtain ⟨v, H', os, bare, un, hok, r, q⟩ := h
  obtain ⟨hh, g, d, t, os'⟩ := s'
  obtain rfl : os' = s.os := os
  exact ⟨v, H', I.call (h' := hh) (g' := g) (d' := d) (t' := t) (ch := []) un hok bare (fun b z => absurd z (by simp)), r, q⟩
end

noncomputable def tCall (sp : Sp) (dvs : List V) (E : XK) (t : TA) : TE := fun σ H Q => t σ H fun vs H1 => sp (vs ++ dvs) H1 Q E
noncomputable def Binds (K : PySem.W.Frag) (fd : FuncData) (ps : List Str) (ds : List Value) : Prop :=
  ∀ (s : Shared) (us : List Value), K.In s.heap → (us ++ ds).length = ps.length → BindsTo s fd ⟨us, []⟩ (ps.zip (us ++ ds))
theorem Binds.all {K : PySem.W.Frag} {fd : FuncData} {ps : List Str} (h : ∀ us : List Value, us.length = ps.length → bindArgs fd ⟨us, []⟩ = pure (ps.zip us)) : Binds K fd ps [] := fun s us _ hl => by
  rw [List.append_nil] at hl ⊢
  exact .of_eq (h us hl)

noncomputable def Passes (CX : CXT) (X : Cx) (E : XK) : Prop := ∀ (pins : List (Addr × Obj)) (σ : St) (H : Hp) (s : Shared) (e : Value) (s' : Shared), Inv X pins σ H s → CX X.stack H s E e s' → X.xe e s'

section
variable {X : Cx} {CX : CXT} {k : Nat} {f C : Addr} {fd : FuncData} {ps : List Str} {sp : Sp} {dvs : List V} {ds : List Value} {E : XK} {x m : Str} {p pos apos : Pos} {e o : Expr} {es : List Expr} {ta : TE} {t : TA}

theorem run_fn {pins : List (Addr × Obj)} {σ : St} {H : Hp} {s : Shared} {Q : VK} {us : List Value} {vs : List V} (F : FnOk X.prog X.w X.K X.mg X.base CX k f fd ps sp) (hr : Room k X.A) (hb : Binds X.K fd ps ds) (hd : Vals dvs ds) (hx : Passes CX X E)
    (I : Inv X pins σ H s) (r : Vals vs us) (h : sp (vs ++ dvs) H Q E) : wpAny (model X.prog X.w) X.A (call (.ref f) us) (EP X pins σ Q) X.xe s := by
  have r2 : Vals (vs ++ dvs) (us ++ ds) := r.append hd
  have hl : (us ++ ds).length = ps.length := by rw [← r2.length]; exact F.len _ _ _ _ h
  refine wpAny_call (codeAny_mono (F.run X.A X.stack s H ⟨us, []⟩ (us ++ ds) (vs ++ dvs) Q E hr I.env0 (hb s us I.kIn hl) r2 h) fun r s' hq => ?_)
  cases r with
  | error e => exact hx pins σ H s e s' I hq
  | ok fl =>
    cases fl with
    | ret u => exact I.after hq
    | next => exact False.elim hq
    | brk => exact False.elim hq
    | cont => exact False.elim hq

theorem pe_call (F : FnOk X.prog X.w X.K X.mg X.base CX k f fd ps sp) (hr : Room k X.A) (hg : Gl X x) (hm : X.mg x = some (.ref f)) (hk : PySem.W.keepIn X.K (.ref f) = true) (hb : Binds X.K fd ps ds) (hd : Vals dvs ds) (hx : Passes CX X E)
    (ha : PA X (e :: es) t) (hdb : autoParam ((x == ("__debug__" : Str)) = false) L2.auto2._auto_1) (he : autoParam (starEach (e :: es) X.env = (false, eval e X.env) :: starEach es X.env) L2.auto4._auto_1) (hpl : autoParam ((backTo pos (starEach es X.env)).any (·.1) = false) L2.auto4._auto_1) :
    PE X (.Call (.Name x p) (e :: es) [] pos) (tCall sp dvs E t) := by
  intro pins s σ H Q I h
  refine wpAny_Call_Name_kw (ld_glob I hg hm ?_ hdb)
  refine PySem.W.callWith_K (h₀ := X.base) I.ok.mod.kin hk (thn (ha pos pins s σ H _ I h) fun us s1 ⟨vs, H1, I1, r, q⟩ => ⟨I1.kIn, ?_⟩) he hpl
  exact run_fn F hr hb hd hx I1 r q
structure Mk (K : PySem.W.Frag) (C f : Addr) : Prop where
  makes : PySem.W.makesIn K C = true
  init : PySem.W.findIn K (.ref C) "__init__" = some (some (.ref f))
  fn : PySem.W.isFn K (.ref f) = true
  kp : PySem.W.keepIn K (.ref C) = true

end

section
variable {X : Cx} {CX : CXT} {k : Nat} {f C : Addr} {fd : FuncData} {ps ks : List Str} {sp : Sp} {E : XK} {x m : Str} {p pos apos kpos : Pos} {e o : Expr} {es : List Expr} {kws : List Keyword} {te ta : TE} {t tk : TA} {nm : Option Str}
structure KBinds (K : PySem.W.Frag) (fd : FuncData) (ps ks : List Str) (g : List Value → List Value → List Value) (gV : List V → List V → List V) : Prop where
  to : ∀ (s : Shared) (us ws : List Value), K.In s.heap → (g us ws).length = ps.length → BindsTo s fd ⟨us, ks.zip ws⟩ (ps.zip (g us ws))
  rel : ∀ {vs : List V} {us : List Value} {zs : List V} {ws : List Value}, Vals vs us → Vals zs ws → Vals (gV vs zs) (g us ws)
variable {g : List Value → List Value → List Value} {gV : List V → List V → List V}
end

structure FnScope (N P : List Str) (sc : Scope) : Prop where
  kind : sc.kind = .function
  co : sc.isCoroutine = false
  gen : sc.isGenerator = false
  nd : N.Nodup
  pre : N.take P.length = P
  par : ∀ x ∈ P, sc.names.lookup x = some .local ∨ sc.names.lookup x = some .cell
  nofree : ∀ y ∈ sc.names, y.2 ≠ .free

theorem bindL_out {kindOf : Str → Option NameKind} {x : Str} : ∀ {binds : List (Str × Value)} {m : Str → Option Value}, (∀ v, (x, v) ∉ binds) → bindL kindOf binds m x = m x
  | [], _, _ => rfl
  | (n, v) :: r, m, h => by
    unfold bindL
    rw [bindL_out fun w hw => h w (List.mem_cons_of_mem _ hw)]
    split
    · have : x ≠ n := by rintro rfl; exact h v List.mem_cons_self
      simp [this]
    · rfl
theorem bindC_out {kindOf : Str → Option NameKind} {x : Str} : ∀ {binds : List (Str × Value)} {m : Str → Option Value}, (∀ v, (x, v) ∉ binds) → bindC kindOf binds m x = m x
  | [], _, _ => rfl
  | (n, v) :: r, m, h => by
    unfold bindC
    rw [bindC_out fun w hw => h w (List.mem_cons_of_mem _ hw)]
    split
    · rfl
    · have : x ≠ n := by rintro rfl; exact h v List.mem_cons_self
      simp [this]
theorem bindL_get {kindOf : Str → Option NameKind} {x : Str} {v : Value} : ∀ {P : List Str} {vs : List Value} {i : Nat} {m : Str → Option Value}, P.Nodup → P[i]? = some x → vs[i]? = some v → kindOf x = some .local →
    bindL kindOf (P.zip vs) m x = some v
  | [], _, _, _, _, h, _, _ => by simp at h
  | _ :: _, [], _, _, _, _, h, _ => by simp at h
  | p :: P, w :: vs, 0, m, nd, h1, h2, hk => by
    simp at h1 h2; subst h1; subst h2
    show bindL kindOf ((p, w) :: P.zip vs) m p = _
    unfold bindL
    rw [bindL_out fun v hv => (List.nodup_cons.mp nd).1 (List.of_mem_zip hv).1, if_pos hk]
    simp
  | p :: P, w :: vs, i + 1, m, nd, h1, h2, hk => by
    show bindL kindOf ((p, w) :: P.zip vs) m x = _
    unfold bindL
    exact bindL_get (i := i) (List.nodup_cons.mp nd).2 (by simpa using h1) (by simpa using h2) hk
theorem bindC_get {kindOf : Str → Option NameKind} {x : Str} {v : Value} : ∀ {P : List Str} {vs : List Value} {i : Nat} {m : Str → Option Value}, P.Nodup → P[i]? = some x → vs[i]? = some v → kindOf x ≠ some .local →
    bindC kindOf (P.zip vs) m x = some v
  | [], _, _, _, _, h, _, _ => by simp at h
  | _ :: _, [], _, _, _, _, h, _ => by simp at h
  | p :: P, w :: vs, 0, m, nd, h1, h2, hk => by
    simp at h1 h2; subst h1; subst h2
    show bindC kindOf ((p, w) :: P.zip vs) m p = _
    unfold bindC
    rw [bindC_out fun v hv => (List.nodup_cons.mp nd).1 (List.of_mem_zip hv).1, if_neg hk]
    simp
  | p :: P, w :: vs, i + 1, m, nd, h1, h2, hk => by
    show bindC kindOf ((p, w) :: P.zip vs) m x = _
    unfold bindC
    exact bindC_get (i := i) (List.nodup_cons.mp nd).2 (by simpa using h1) (by simpa using h2) hk

noncomputable def start (N : List Str) (vs : List V) : St := vs.map some ++ List.replicate (N.length - vs.length) none

noncomputable def cxOf (CX : CXT) (P : Program) (w : World) (K : PySem.W.Frag) (mg : Str → Option Value) (base : Heap) (N : List Str) (qual : Str) (scope : Scope) (f : Addr) (cd : Value) (A : Around) (outer : List Env) (s : Shared) (H : Hp) (E : XK) : Cx where
  prog := P
  w := w
  K := K
  mg := mg
  base := base
  A := A.deeper (envOfC qual scope s.heap.objs.size f cd)
  N := N
  s₀ := s
  H₀ := H
  env := envOfC qual scope s.heap.objs.size f cd
  outer := outer
  stack := envOfC qual scope s.heap.objs.size f cd :: outer
  ex := []
  calm := true
  fn := fun _ => true
  pn := []
  xe := fun e s' => wpAny (model P w) (A.deeper (envOfC qual scope s.heap.objs.size f cd)) (leaving (envOfC qual scope s.heap.objs.size f cd) e) (fun _ s'' => CX outer H s E e s'') (fun e' s'' => CX outer H s E e' s'') s'

theorem cell_has {sc : Scope} {n : Nat} {x : Str} (h : sc.names.lookup x = some .cell) : ∃ c, (cellsFrom n sc.names []).lookup x = some c := by
  have q := PySem.W.cellsFrom_some sc.names n [] (.inl h)
  exact Option.isSome_iff_exists.mp q

theorem inv_start {CX : CXT} {P : Program} {w : World} {K : PySem.W.Frag} {mg : Str → Option Value} {base : Heap} {N ps : List Str} {qual : Str} {scope : Scope} {f : Addr} {cd : Value} {A : Around} {outer : List Env} {s s1 : Shared} {H : Hp} {E : XK} {us : List Value} {vs : List V}
    (S : FnScope N ps scope) (hd : A.handled = none) (e0 : Env0 P w K mg base A outer s H) (hl : vs.length = ps.length) (r : Vals vs us)
    (x : InCallC s s.heap.objs.size (bindL (envOfC qual scope s.heap.objs.size f cd).kindOf (ps.zip us) fun _ => none) (cellsFrom (s.heap.objs.size + 1) scope.names []) (bindC (envOfC qual scope s.heap.objs.size f cd).kindOf (ps.zip us) fun _ => none) s1) :
    Inv (cxOf CX P w K mg base N qual scope f cd A outer s H E) [] (start N vs) H s1 := by
  have hpl : ps.length ≤ N.length := by have := congrArg List.length S.pre; rw [List.length_take] at this; omega
  obtain ⟨h1, tk, rfl, hk⟩ := x.done
  have noA : ∀ b : Addr, b ∉ (cxOf CX P w K mg base N qual scope f cd A outer s H E).ex := fun b z => absurd (show b ∈ ([] : List Addr) from z) (by simp)
  refine ⟨⟨e0.mod, S.kind, rfl, rfl, Nat.le_refl _, fun y z c h1 h2 => ?_, fun y hy => ?_, fun y c _ h => ?_, fun _ => hd, Around.frames_deeper e0.frames, .inr ⟨rfl, rfl⟩, fun b z => absurd z (noA b), e0.bs, e0.bsz, fun b _ _ => noA b, fun b z => absurd z (noA b), e0.funs, e0.frf⟩,
    rfl, e0.bare, Un.kept hk, ⟨_, x.toInCall.ns, fun i y v h1 h2 h3 => ?_⟩, fun y c h => ⟨_, x.cell y c h⟩, e0.hok.fresh (Nat.le_refl _), fun y c h => ?_, fun p hp => absurd (show p ∈ ([] : List (Addr × Obj)) from hp) (by simp), e0.hok.kept hk, ?_⟩
  · exact name_of_addr x.apart (PySem.mem_of_lookup h1) (PySem.mem_of_lookup h2)
  · have hy : scope.names.lookup y = some .cell ∨ scope.names.lookup y = some .free := hy
    rcases hy with hy | hy
    · exact cell_has hy
    · exact absurd rfl (S.nofree _ (PySem.mem_of_lookup hy))
  · exact Nat.le_of_lt (x.above y c (PySem.mem_of_lookup h))
  · have hi : i < vs.length := by
      unfold start at h2
      by_cases hi : i < vs.length
      · exact hi
      · rw [List.getElem?_append_right (by simpa using hi)] at h2
        rw [List.getElem?_replicate] at h2
        split at h2 <;> cases h2
    have ha : vs[i]? = some v := by
      unfold start at h2
      rw [List.getElem?_append_left (by simpa using hi), List.getElem?_map] at h2
      cases e : vs[i]? with
      | none => rw [e] at h2; cases h2
      | some a => rw [e] at h2; cases h2; rfl
    obtain ⟨u, hu, rv⟩ := r.get ha
    have hp : ps[i]? = some y := by
      rw [← S.pre, List.getElem?_take_of_lt (by omega)]; exact h1
    have ndP : ps.Nodup := by rw [← S.pre]; exact S.nd.sublist (List.take_sublist _ _)
    refine ⟨u, rv, ?_⟩
    rcases S.par y (List.mem_of_getElem? hp) with k | k
    · exact .inl ⟨k, bindL_get ndP hp hu k⟩
    · obtain ⟨c, e⟩ := cell_has (n := s.heap.objs.size + 1) k
      refine .inr ⟨.inl k, c, e, ?_⟩
      have q := x.cell y c e
      rw [bindC_get ndP hp hu (by show scope.names.lookup y ≠ _; rw [k]; decide)] at q
      exact q
  · exact e0.hok.fresh (Nat.le_of_lt (x.above y c (PySem.mem_of_lookup h)))
  · unfold start
    show _ = N.length
    rw [List.length_append, List.length_map, List.length_replicate]
    omega

theorem fn_of {CX : CXT} {P : Program} {w : World} {K : PySem.W.Frag} {mg : Str → Option Value} {base : Heap} {k : Nat} {f : Addr} {name qual : Str} {params : Arguments} {body : List Stmt} {scope : Scope} {dV kV doc pm cdv ct oc : Value} {an od : Option Addr}
    {osl : Array (Option Value)} {N ps : List Str} {sp : Sp} (lk : K.lookup f = some ⟨oc, od, .func (PySem.W.fnOf name qual params body scope dV kV doc pm an cdv ct), osl⟩) (hcd : PySem.W.codeIn K cdv qual = true) (S : FnScope N ps scope)
    (len : ∀ vs H Q E, sp vs H Q E → vs.length = ps.length)
    (hbody : ∀ (A : Around) (outer : List Env) (s : Shared) (H : Hp) (vs : List V) (Q : VK) (E : XK), Room k (A.deeper (envOfC qual scope s.heap.objs.size f cdv)) → sp vs H Q E →
      ∃ t, PSs (cxOf CX P w K mg base N qual scope f cdv A outer s H E) body t ∧ t { nx := fun _ H' => Q .non H', rt := Q } (start N vs) H) :
    FnOk P w K mg base CX (k + 1) f (PySem.W.fnOf name qual params body scope dV kV doc pm an cdv ct) ps sp := by
  refine ⟨len, fun A outer s H args us vs Q E hr e0 hb r hsp => ?_⟩
  have hl := len _ _ _ _ hsp
  have KX : K.In s.heap := e0.mod.kin.keeps fun b o e => (e0.bs b o e).1
  have lim : s.heap.NoLimit := e0.mod.nolimit.keeps fun b o e => (e0.bs b o e).1
  have hkind : ∀ y ∈ ps.zip us, scope.names.lookup y.1 = some .local ∨ (scope.names.lookup y.1 = some .cell ∧ ((cellsFrom (s.heap.objs.size + 1) scope.names []).lookup y.1).isSome = true) := fun ⟨n, v⟩ hy => by
    rcases S.par n (List.of_mem_zip hy).1 with q | q
    · exact .inl q
    · exact .inr ⟨q, PySem.W.cellsFrom_some _ _ _ (.inl q)⟩
  refine codeAny_call_function hr.depth (KX _ _ lk) rfl S.co S.gen rfl (PySem.W.codeRec_of KX hcd) (hb _ _ _ _ ?_)
  refine wpAny_newFunctionEnv_cells S.kind hkind fun env he s1 x => ?_
  subst he
  refine ⟨lim.keeps x.toInCall.keep, codeAny_func ?_⟩
  obtain ⟨t, ht, hq⟩ := hbody A outer s H vs Q E (hr.deeper _) hsp
  have I : Inv (cxOf CX P w K mg base N qual scope f cdv A outer s H E) [] (start N vs) H s1 := inv_start S hr.hd e0 hl r x
  refine wpAny_mono (ht [] s1 (start N vs) H _ I hq) (fun fl s' hs => ?_) fun e s' hs => hs
  have fin : ∀ {σ' : St} {H' : Hp} {v : V} {u : Value}, Inv (cxOf CX P w K mg base N qual scope f cdv A outer s H E) [] σ' H' s' → RelV v u → Q v H' → CE outer P w H s Q u s' :=
    fun {σ' H' v u} J rv q => ⟨v, H', J.os, J.bare, J.base, J.hok, rv, q⟩
  cases fl with
  | ret u =>
    obtain ⟨v, σ', H', J, rv, q⟩ := hs
    exact fin J rv q
  | next =>
    obtain ⟨σ', H', J, q⟩ := hs
    exact fin (v := V.non) (u := Value.none) J rfl q
  | brk =>
    obtain ⟨_, _, _, q⟩ := hs
    exact False.elim q
  | cont =>
    obtain ⟨_, _, _, q⟩ := hs
    exact False.elim q
end L2

namespace L2
open PySem PySem.Spec PyProof.Rows
section
variable {X : Cx} {x : Str} {p pos : Pos} {e : Expr} {es : List Expr} {t : TA} {id T : String} {r : List V → Hp → VK → Prop}

noncomputable def tCB (r : List V → Hp → VK → Prop) (t : TA) : TE := fun σ H Q => t σ H fun vs H1 => r vs H1 Q
theorem pe_callB (hc : CallR X (.builtin id) r) (hg : Gl X x) (hm : X.mg x = none) (hv : bootBuiltins x = some (.builtin id)) (ha : PA X (e :: es) t) (hn : autoParam (x ≠ "__name__") L2.auto2._auto_1) (hdb : autoParam ((x == ("__debug__" : Str)) = false) L2.auto2._auto_1)
    (he : autoParam (starEach (e :: es) X.env = (false, eval e X.env) :: starEach es X.env) L2.auto4._auto_1) (hpl : autoParam ((backTo pos (starEach es X.env)).any (·.1) = false) L2.auto4._auto_1) : PE X (.Call (.Name x p) (e :: es) [] pos) (tCB r t) := by
  intro pins s σ H Q I h
  refine wpAny_Call_Name_kw (ld_blt I hg hm hv ?_ hn hdb)
  exact PyProof.Rows.callWith_builtin1 (thn (ha pos pins s σ H _ I h) fun us s1 ⟨vs, H1, I1, r1, q1⟩ => hc pins s1 σ H1 vs us Q I1 r1 q1) he hpl
theorem pe_callTy (hc : CallR X (.type T) r) (hg : Gl X x) (hm : X.mg x = none) (hv : bootBuiltins x = some (.type T)) (ha : PA X (e :: es) t) (hn : autoParam (x ≠ "__name__") L2.auto2._auto_1) (hdb : autoParam ((x == ("__debug__" : Str)) = false) L2.auto2._auto_1)
    (he : autoParam (starEach (e :: es) X.env = (false, eval e X.env) :: starEach es X.env) L2.auto4._auto_1) (hpl : autoParam ((backTo pos (starEach es X.env)).any (·.1) = false) L2.auto4._auto_1) : PE X (.Call (.Name x p) (e :: es) [] pos) (tCB r t) := by
  intro pins s σ H Q I h
  refine wpAny_Call_Name_kw (ld_blt I hg hm hv ?_ hn hdb)
  exact PyProof.Rows.callWith_type1 (thn (ha pos pins s σ H _ I h) fun us s1 ⟨vs, H1, I1, r1, q1⟩ => hc pins s1 σ H1 vs us Q I1 r1 q1) he hpl
end
end L2

namespace HT
open PySem PyProof.Rows

noncomputable def lexLt : List Int → List Int → Bool
  | [], [] => false
  | [], _ :: _ => true
  | _ :: _, [] => false
  | x :: xs, y :: ys => if x = y then lexLt xs ys else decide (x < y)
theorem lexLt_cons (x y : Int) (xs ys : List Int) : lexLt (x :: xs) (y :: ys) = if x = y then lexLt xs ys else decide (x < y) := rfl
section
open PySem.SeqAt
open PySem.AutoSeq1 (wpAny_loadPart')
open PySem.MeetsSeq PySem.MeetsSeq2 PySem.MeetsSeq3

end

section
variable {prog : Program} {w : World} {A : Around} {E : Value → Shared → Prop} {s : Shared}

noncomputable def sIx (n d : Nat) : Option Int → Nat
  | none => d
  | some v => if v < 0 then (v + (n : Int)).toNat else min v.toNat n
theorem sIx_none (n d : Nat) : sIx n d none = d := rfl
theorem sIx_nat (n d k : Nat) : sIx n d (some (k : Int)) = min k n := by
  show (if (k : Int) < 0 then ((k : Int) + (n : Int)).toNat else min (k : Int).toNat n) = min k n
  rw [if_neg (by omega), Int.toNat_natCast]
theorem sIx_le (n d : Nat) (hd : d ≤ n) (o : Option Int) : sIx n d o ≤ n := by
  cases o with
  | none => exact hd
  | some v =>
    show (if v < 0 then (v + (n : Int)).toNat else min v.toNat n) ≤ n
    by_cases hv : v < 0
    · rw [if_pos hv]; omega
    · rw [if_neg hv]; exact Nat.min_le_right _ _
theorem clip_eq (v : Int) (n d : Nat) : (if v < 0 then max (v + (n : Int)) 0 else min v (n : Int)) = ((sIx n d (some v) : Nat) : Int) := by
  show (if v < 0 then max (v + (n : Int)) 0 else min v (n : Int)) = (((if v < 0 then (v + (n : Int)).toNat else min v.toNat n) : Nat) : Int)
  by_cases hv : v < 0
  · simp only [if_pos hv]; omega
  · simp only [if_neg hv]; omega
theorem adjust_gen (lo hi : Option Int) (n : Nat) : Builtin.Slice.sliceAdjust lo hi 1 (n : Int) = (((sIx n 0 lo : Nat) : Int), ((sIx n n hi : Nat) : Int)) := by
  have h1 : ¬ ((1 : Int) < 0) := by omega
  unfold Builtin.Slice.sliceAdjust
  simp only [h1, if_false]
  refine Prod.ext ?_ ?_
  · cases lo with
    | none => rfl
    | some v => exact clip_eq v n 0
  · cases hi with
    | none => rfl
    | some v => exact clip_eq v n n
theorem places_gen (i j : Nat) : Builtin.Slice.slicePlaces (i : Int) (j : Int) 1 = j - i := by
  unfold Builtin.Slice.slicePlaces
  have h1 : (1 : Int) > 0 := by omega
  simp only [h1, if_true, Int.ediv_one]
  split <;> omega
theorem slicePart_ {v : Value} {o : Option Int} {Q : Option Int → Shared → Prop} (p : IsPart v o) (h : Q o s) : wpAny (model prog w) A (Builtin.Slice.slicePartIndex v) Q E s := by
  cases p with
  | none => exact slicePart_none h
  | int i t => exact slicePart_int h
theorem sliceApplied_gen {sl : Addr} {vl vu : Value} {lo hi : Option Int} {n : Nat} {Q : Int × Int × Nat → Shared → Prop} (hs : s.heap.IsSliceOf sl vl vu .none) (pl : IsPart vl lo) (pu : IsPart vu hi)
    (h : Q (((sIx n 0 lo : Nat) : Int), 1, sIx n n hi - sIx n 0 lo) s) : wpAny (model prog w) A (Builtin.Slice.sliceApplied (.ref sl) (pure (n : Int))) Q E s := by
  obtain ⟨os, hos, hcs, hds⟩ := id hs
  unfold Builtin.Slice.sliceApplied Builtin.Slice.sliceFields
  refine wpAny_bind (wpAny_bind (wpAny_field hos hds (x := vl) rfl (wpAny_bind (wpAny_field hos hds (x := vu) rfl (wpAny_bind (wpAny_field hos hds (x := .none) rfl (wpAny_pure ?_)))))))
  refine wpAny_bind (slicePart_none ?_)
  show wpAny _ _ (if ((1 : Int) == 0) = true then _ else _) _ _ s
  rw [if_neg (by decide)]
  refine wpAny_bind (slicePart_ pl (wpAny_bind (slicePart_ pu (wpAny_bind (wpAny_pure ?_)))))
  show wpAny _ _ (match Builtin.Slice.sliceAdjust lo hi 1 (n : Int) with | (lo, hi) => pure (lo, (1 : Int), Builtin.Slice.slicePlaces lo hi 1)) _ _ s
  rw [adjust_gen lo hi n]
  show wpAny _ _ (pure (((sIx n 0 lo : Nat) : Int), (1 : Int), Builtin.Slice.slicePlaces ((sIx n 0 lo : Nat) : Int) ((sIx n n hi : Nat) : Int) 1)) _ _ s
  rw [places_gen]
  exact wpAny_pure h
theorem pick_gen (xs : Array Value) (i k : Nat) : ((List.range k).filterMap fun (m : Nat) => xs[((i : Int) + (m : Int) * 1).toNat]?).toArray = ((xs.toList.drop i).take k).toArray := by
  have e : (fun (m : Nat) => xs[((i : Int) + (m : Int) * 1).toNat]?) = fun m => xs[i + m]? := by
    funext m
    have : ((i : Int) + (m : Int) * 1).toNat = i + m := by omega
    rw [this]
  rw [e]
  have := pick_run xs i k
  rw [List.filterMap_map] at this
  have e2 : ((fun x => xs[x]?) ∘ fun x => i + x) = fun m => xs[i + m]? := rfl
  rw [e2] at this
  rw [this]

theorem getItem_tuple_cut {t sl : Addr} {items : Array Value} {vl vu : Value} {lo hi : Option Int} {Q : Value → Shared → Prop} (ht : IsTup s.heap t items) (hs : s.heap.IsSliceOf sl vl vu .none) (pl : IsPart vl lo) (pu : IsPart vu hi)
    (hw : ¬ (sIx items.size 0 lo = 0 ∧ sIx items.size items.size hi = items.size))
    (h : Q (.ref s.heap.objs.size) { s with heap := s.heap.push { cls := .type "tuple", data := .seq ((items.toList.drop (sIx items.size 0 lo)).take (sIx items.size items.size hi - sIx items.size 0 lo)).toArray } })
    (hsz : items.size ≤ sizeLine) : wpAny (model prog w) A (getItem (.ref t) (.ref sl)) Q E s := by
  have htake : sizeOk (.seq ((items.toList.drop (sIx items.size 0 lo)).take (sIx items.size items.size hi - sIx items.size 0 lo)).toArray) := by
    show ((items.toList.drop (sIx items.size 0 lo)).take (sIx items.size items.size hi - sIx items.size 0 lo)).toArray.size ≤ sizeLine
    rw [List.size_toArray, List.length_take, List.length_drop, Array.length_toList]
    omega
  have hj : sIx items.size items.size hi ≤ items.size := sIx_le _ _ (Nat.le_refl _) hi
  obtain ⟨os, hos, hcs, hds⟩ := id hs
  have hTs : s.TypeIs (.ref sl) "slice" := ⟨os, hos, hcs⟩
  unfold getItem
  try with_reducible refine wpAny_holding ?_
  first | refine wpAny_bind (wpAny_pure ?_) | skip
  refine wpAny_bind (wpAny_sequenceKey ht.typeIs (by decide) ?_)
  refine wpAny_bind (wpAny_callSpecial?_slot (name := Str.ofString "__getitem__") ht.typeIs PyProof.Rows.slot_tuple_getitem
    (wpAny_call_entry PyProof.Rows.slot_tuple_getitem ht.typeIs entry_tuple_getitem ?_ (args_tuple_getitem _ _)))
  show wpAny _ _ (Builtin.Tuple.tupleItemsOf (.ref t) >>= _) _ _ s
  refine wpAny_bind (tupleItemsOf_ ht ?_)
  refine wpAny_bind (wpAny_typeOf hTs ?_)
  rw [if_pos (by decide)]
  refine wpAny_bind (sliceApplied_gen hs pl pu ?_)
  have hno : ¬ ((((sIx items.size 0 lo : Nat) : Int) == 0 && (1 : Int) == 1 && (sIx items.size items.size hi - sIx items.size 0 lo) == items.size) = true) := by
    intro q
    rw [Bool.and_eq_true, Bool.and_eq_true] at q
    have q1 : ((sIx items.size 0 lo : Nat) : Int) = 0 := eq_of_beq q.1.1
    have q2 : sIx items.size items.size hi - sIx items.size 0 lo = items.size := eq_of_beq q.2
    exact hw ⟨by omega, by omega⟩
  show wpAny _ _ (if (((sIx items.size 0 lo : Nat) : Int) == 0 && (1 : Int) == 1 && (sIx items.size items.size hi - sIx items.size 0 lo) == items.size) = true then _ else _) _ _ s
  rw [if_neg hno, pick_gen]
  first
    | exact wpAny_bind (m := Builtin.Tuple.tupleExact _) (wpAny_newObj_type (wpAny_pure ⟨_, rfl, wpAny_pure h⟩) htake)
    | exact wpAny_bind (m := Builtin.Tuple.tupleExact _) (wpAny_newObj_type (wpAny_bind (wpAny_pure (wpAny_pure ⟨_, rfl, wpAny_pure h⟩))) htake)
    | exact wpAny_bind (wpAny_bind (m := Builtin.Tuple.tupleExact _) (wpAny_newObj_type (wpAny_pure (wpAny_pure ⟨_, rfl, wpAny_pure h⟩)) htake))
    | exact wpAny_bind (wpAny_bind (m := Builtin.Tuple.tupleExact _) (wpAny_newObj_type (wpAny_pure ⟨_, rfl, wpAny_pure h⟩) htake))
end
end HT

namespace L2
open PySem PySem.Spec PyProof.Rows

noncomputable abbrev TO := St → Hp → (Option Int → Hp → Prop) → Prop
noncomputable def PO (X : Cx) (e : Option Expr) (t : TO) : Prop :=
  ∀ (pins : List (Addr × Obj)) (s : Shared) (σ : St) (H : Hp) (Q : Option Int → Hp → Prop), Inv X pins σ H s → t σ H Q →
    wpAny (model X.prog X.w) X.A (evalPart e X.env) (fun u s' => ∃ o H', Inv X pins σ H' s' ∧ IsPart u o ∧ Q o H') X.xe s
noncomputable def tNoPart : TO := fun _ H Q => Q none H
noncomputable def tPart (t : TE) : TO := fun σ H Q => t σ H fun x H1 => ∃ i, x = .int i ∧ Q (some i) H1

theorem intsAre_of {ns : List Int} : ∀ {us : List Value}, Vals (ns.map V.int) us → IntsAre us ns := by
  induction ns with
  | nil => intro us r; rw [List.map_nil] at r; cases r; exact .nil
  | cons n ns ih =>
    intro us r
    rw [List.map_cons] at r
    cases r with
    | cons r1 r2 =>
      obtain ⟨t, e⟩ := r1
      subst e
      exact .cons n t (ih r2)

section
variable {X : Cx} {e : Expr} {te : TE} {lo hi : Option Expr} {tl th : TO} {pos p2 : Pos}

theorem po_none : PO X none tNoPart := by
  intro pins s σ H Q I h
  rw [evalPart_none]
  exact wpAny_pure ⟨none, H, I, .none, h⟩
theorem po_some (h : PE X e te) : PO X (some e) (tPart te) := by
  intro pins s σ H Q I hw
  rw [evalPart_some]
  refine thn (h pins s σ H _ I hw) fun u s1 qq0 => ?_
  obtain ⟨x, H1, I1, r1, q1⟩ := qq0
  obtain ⟨i, rfl, q⟩ := q1
  obtain ⟨t, rfl⟩ := r1
  exact ⟨some i, H1, I1, .int i t, q⟩

noncomputable def SlR (X : Cx) (r : V → Option Int → Option Int → Hp → VK → Prop) : Prop :=
  ∀ (pins : List (Addr × Obj)) (s : Shared) (σ : St) (H : Hp) (x : V) (v vl vu : Value) (lo hi : Option Int) (sl : Addr) (Q : VK), Inv X pins σ H s → RelV x v → s.heap.IsSliceOf sl vl vu .none → IsPart vl lo → IsPart vu hi → r x lo hi H Q →
    ∃ T id, typeLookup (.type T) "__getitem__" = pure (some (.builtin id)) ∧ s.TypeIs v T ∧ wpAny (model X.prog X.w) X.A (getItem v (.ref sl)) (EP X pins σ Q) X.xe s
theorem SlR.or {r r' : V → Option Int → Option Int → Hp → VK → Prop} (h : SlR X r) (h' : SlR X r') : SlR X (fun x lo hi H Q => r x lo hi H Q ∨ r' x lo hi H Q) := by
  intro pins s σ H x v vl vu lo hi sl Q I rx hs pl pu q
  rcases q with q | q
  · exact h pins s σ H x v vl vu lo hi sl Q I rx hs pl pu q
  · exact h' pins s σ H x v vl vu lo hi sl Q I rx hs pl pu q
noncomputable def tSl (r : V → Option Int → Option Int → Hp → VK → Prop) (te : TE) (tl th : TO) : TE := fun σ H Q => te σ H fun x H1 => tl σ H1 fun l H2 => th σ H2 fun u H3 => r x l u H3 Q
theorem pe_slice {r : V → Option Int → Option Int → Hp → VK → Prop} (hr : SlR X r) (he : PE X e te) (hl : PO X lo tl) (hu : PO X hi th) : PE X (.Subscript e (.Slice lo hi none p2) pos) (tSl r te tl th) := by
  intro pins s σ H Q I h
  refine Subscript_ (thn (he pins s σ H _ I h) fun v s1 qq0 => ?_)
  obtain ⟨x, H1, I1, r1, q1⟩ := qq0
  refine wpAny_Slice (thn (hl pins s1 σ H1 _ I1 q1) fun vl s2 ⟨l, H2, I2, pl, q2⟩ => thn (hu pins s2 σ H2 _ I2 q2) fun vu s3 qq0 => ?_)
  obtain ⟨u, H3, I3, pu, q3⟩ := qq0
  rw [evalPart_none]
  refine wpAny_pure ?_
  have I4 : Inv X pins σ H3 { s3 with heap := s3.heap.push { cls := .type "slice", data := .fields #[vl, vu, .none] } } := I3.kept (t' := s3.toks) fun b ob q => Heap.get?_push_of_some _ q
  obtain ⟨T, id, hT, ht, hg⟩ := hr pins { s3 with heap := s3.heap.push { cls := .type "slice", data := .fields #[vl, vu, .none] } } σ H3 x v vl vu l u s3.heap.objs.size Q I4 r1 (Heap.IsSliceOf.new ..) pl pu q3
  show wpAny (model X.prog X.w) X.A (subscriptTail e (.Slice lo hi none p2) v (.ref s3.heap.objs.size)) (EP X pins σ Q) X.xe { s3 with heap := s3.heap.push { cls := .type "slice", data := .fields #[vl, vu, .none] } }
  exact tail_any (ops := [.ref s3.heap.objs.size, v]) ht hT hg (by with_unfolding_all rfl)

noncomputable def cutV (xs : List V) (lo hi : Option Int) : List V := (xs.drop (HT.sIx xs.length 0 lo)).take (HT.sIx xs.length xs.length hi - HT.sIx xs.length 0 lo)
theorem cutV_length (xs : List V) (lo hi : Option Int) : (cutV xs lo hi).length ≤ xs.length := by
  unfold cutV
  rw [List.length_take, List.length_drop]
  omega
noncomputable def rSlT (K : PySem.W.Frag) : V → Option Int → Option Int → Hp → VK → Prop := fun x lo hi H Q => ∃ a xs, x = .ref a ∧ SqT K H a xs ∧
  ¬ (HT.sIx xs.length 0 lo = 0 ∧ HT.sIx xs.length xs.length hi = xs.length) ∧ ∀ p, H p = none → Q (.ref p) (upd H p (.tup (cutV xs lo hi)))
theorem sl_tup : SlR X (rSlT X.K) := by
  intro pins s σ H x v vl vu lo hi sl Q I rx hs pl pu h
  obtain ⟨a, xs, rfl, hx, hw, q⟩ := h
  cases rx
  obtain ⟨its, r, ht, hz⟩ := I.tuple hx
  have hlen : its.toArray.size = xs.length := by rw [List.size_toArray]; exact r.length.symm
  refine ⟨"tuple", _, PyProof.Rows.slot_tuple_getitem.lookup, ht.typeIs, ?_⟩
  refine HT.getItem_tuple_cut ht hs pl pu (by rw [hlen]; exact hw) ?_ (by rw [hlen]; exact hz)
  rw [hlen]
  refine ⟨.ref s.heap.objs.size, _, I.laid (t' := s.toks) (o := .tup (cutV xs lo hi)) (fun b ob q => Heap.get?_push_of_some _ q) (Nat.le_refl _) ?_, rfl, q _ (I.hok.fresh (Nat.le_refl _))⟩
  exact ⟨Nat.le_trans (cutV_length xs lo hi) hz, _, (r.drop (HT.sIx xs.length 0 lo)).take (HT.sIx xs.length xs.length hi - HT.sIx xs.length 0 lo), IsTup.new _ _⟩

end
end L2

namespace L2
open PySem PySem.Spec PyProof.Rows

noncomputable def ixN (n : Nat) (i : Int) : Option Nat := if 0 ≤ i then (if i < n then some i.toNat else none) else if -(n : Int) ≤ i then some (i + n).toNat else none
noncomputable def atI {α : Type} (xs : List α) (i : Int) : Option α := (ixN xs.length i).bind fun j => xs[j]?
theorem ixN_seq {n : Nat} {i : Int} {j : Nat} (h : ixN n i = some j) : seqIndex? i n = some j ∧ j < n ∧ -(n : Int) ≤ i ∧ i < n := by
  unfold ixN at h
  by_cases h0 : 0 ≤ i
  · rw [if_pos h0] at h
    by_cases h1 : i < n
    · rw [if_pos h1] at h
      have e : i.toNat = j := Option.some.inj h
      exact ⟨by rw [seqIndex_of h0 h1, e], by omega, by omega, h1⟩
    · rw [if_neg h1] at h; cases h
  · rw [if_neg h0] at h
    by_cases h1 : -(n : Int) ≤ i
    · rw [if_pos h1] at h
      have e : (i + n).toNat = j := Option.some.inj h
      exact ⟨by rw [seqIndex_neg (by omega) h1, e], by omega, h1, by omega⟩
    · rw [if_neg h1] at h; cases h
theorem atI_get {α : Type} {xs : List α} {i : Int} {v : α} (h : atI xs i = some v) : ∃ j, seqIndex? i xs.length = some j ∧ xs[j]? = some v ∧ j < xs.length ∧ -(xs.length : Int) ≤ i ∧ i < xs.length := by
  unfold atI at h
  cases e : ixN xs.length i with
  | none => rw [e] at h; cases h
  | some j =>
    rw [e] at h
    obtain ⟨h1, h2, h3, h4⟩ := ixN_seq e
    exact ⟨j, h1, h, h2, h3, h4⟩
theorem atI_nat {α : Type} {xs : List α} {j : Nat} {v : α} (h : xs[j]? = some v) : atI xs (j : Int) = some v := by
  have hj : j < xs.length := (List.getElem?_eq_some_iff.mp h).1
  have e : ixN xs.length (j : Int) = some j := by
    unfold ixN
    rw [if_pos (by omega), if_pos (by omega)]; simp
  unfold atI; rw [e]; exact h
noncomputable def PlainIx (b : Expr) : Prop := ∀ o i, subscripted b false o i = operate [o, i] (getItem o i)
noncomputable def IxR (X : Cx) (r : R2) : Prop :=
  ∀ (value slice : Expr) (pins : List (Addr × Obj)) (s : Shared) (σ : St) (H : Hp) (x y : V) (v u : Value) (Q : VK), Inv X pins σ H s → RelV x v → RelV y u → r x y H Q →
    subscripted slice false v u = operate [v, u] (getItem v u) → wpAny (model X.prog X.w) X.A (subscriptTail value slice v u) (EP X pins σ Q) X.xe s
noncomputable def MtR (X : Cx) (id : String) (r : V → List V → Hp → VK → Prop) : Prop :=
  ∀ (pins : List (Addr × Obj)) (s : Shared) (σ : St) (H : Hp) (x : V) (xs : List V) (v : Value) (us : List Value) (Q : VK), Inv X pins σ H s → RelV x v → Vals xs us → r x xs H Q →
    wpAny (model X.prog X.w) X.A (call (.builtin id) (v :: us)) (EP X pins σ Q) X.xe s
section
variable {X : Cx} {a b : Expr} {ta tb : TE} {pos : Pos}
theorem IxR.or {r r' : R2} (h : IxR X r) (h' : IxR X r') : IxR X (fun x y H Q => r x y H Q ∨ r' x y H Q) := by
  intro value slice pins s σ H x y v u Q I rx ry q hs
  rcases q with q | q
  · exact h value slice pins s σ H x y v u Q I rx ry q hs
  · exact h' value slice pins s σ H x y v u Q I rx ry q hs
theorem pe_ix {r : R2} (hr : IxR X r) (ha : PE X a ta) (hb : PE X b tb) (hs : PlainIx b) : PE X (.Subscript a b pos) (tOp r ta tb) := by
  intro pins s σ H Q I h
  exact Subscript_ (binT ha hb I h fun v u s2 x y H2 I2 rx ry q => hr a b pins s2 σ H2 x y v u Q I2 rx ry q (hs _ _))

noncomputable def rIxL (K : PySem.W.Frag) : R2 := fun x y H Q => ∃ p xs i v, x = .ref p ∧ y = .int i ∧ SqL K H p xs ∧ atI xs i = some v ∧ Q v H
noncomputable def rIxT (K : PySem.W.Frag) : R2 := fun x y H Q => ∃ p xs i v, x = .ref p ∧ y = .int i ∧ SqT K H p xs ∧ atI xs i = some v ∧ Q v H
noncomputable def rIxS : R2 := fun x y H Q => ∃ z i c, x = .str z ∧ y = .int i ∧ z.length ≤ sizeLine ∧ atI z.cps.toList i = some c ∧ Q (.str ⟨#[c]⟩) H
theorem ix_list : IxR X (rIxL X.K) := by
  intro value slice pins s σ H x y v u Q I rx ry h hs
  obtain ⟨p, xs, i, z, rfl, rfl, hq, he, q⟩ := h
  cases rx
  obtain ⟨t, rfl⟩ := ry
  obtain ⟨its, r, pl, hz⟩ := I.list hq
  obtain ⟨j, h1, h2, h3, h4, h5⟩ := atI_get he
  obtain ⟨w, ew, rw'⟩ := r.get h2
  have hl := r.length
  have hn := line63
  have fin : EP X pins σ Q w s := ⟨z, H, I, rw', q⟩
  by_cases h0 : 0 ≤ i
  · have hj : i.toNat = j := by
      rw [seqIndex_of h0 h5] at h1
      exact Option.some.inj h1
    exact item_listR pl.isList h0 (by omega) (by rw [hj]; simpa using ew) fin hs
  · have hj : (i + (its.toArray.size : Int)).toNat = j := by
      rw [seqIndex_neg (by omega) h4] at h1
      rw [List.size_toArray, ← hl]
      exact Option.some.inj h1
    exact subscriptTail_builtinR (x := w) pl.isList.typeIs slot_list_getitem.lookup
      (wpAny_getItem_list_neg (Q := fun r s' => r = w ∧ EP X pins σ Q r s') pl.isList (by omega) (by rw [List.size_toArray] <;> omega) (by omega) (by rw [hj]; simpa using ew) ⟨rfl, fin⟩) hs
theorem ix_tup : IxR X (rIxT X.K) := by
  intro value slice pins s σ H x y v u Q I rx ry h hs
  obtain ⟨p, xs, i, z, rfl, rfl, hq, he, q⟩ := h
  cases rx
  obtain ⟨t, rfl⟩ := ry
  obtain ⟨its, r, pl, hz⟩ := I.tuple hq
  obtain ⟨j, h1, h2, h3, h4, h5⟩ := atI_get he
  obtain ⟨w, ew, rw'⟩ := r.get h2
  have hl := r.length
  have hn := line63
  have fin : EP X pins σ Q w s := ⟨z, H, I, rw', q⟩
  exact subscriptTail_builtinR (x := w) pl.typeIs slot_tuple_getitem.lookup
    (getItem_tuple (j := j) (Q := fun r s' => r = w ∧ EP X pins σ Q r s') pl (by omega) (by omega) (by rw [List.size_toArray, ← hl]; exact h1) (by simpa using ew) ⟨rfl, fin⟩) hs
theorem ix_str : IxR X rIxS := by
  intro value slice pins s σ H x y v u Q I rx ry h hs
  obtain ⟨z, i, c, rfl, rfl, hz, he, q⟩ := h
  obtain ⟨t, rfl⟩ := rx
  obtain ⟨t', rfl⟩ := ry
  obtain ⟨j, h1, h2, h3, h4, h5⟩ := atI_get he
  have hl : z.cps.toList.length = z.length := by simp [Str.length]
  rw [hl] at h1 h4 h5
  have hn := line63
  exact tail_any (typeIs_str s z t) slot_str_getitem.lookup (getItem_str (c := c) (by
    have e1 : decide (i < -(2 ^ 63 : Int)) = false := decide_eq_false (by omega)
    have e2 : decide (i ≥ 2 ^ 63) = false := decide_eq_false (by omega)
    rw [e1, e2, Bool.or_false]) (by rw [h1]; simpa using h2) ⟨.str ⟨#[c]⟩, H, I.tok _, ⟨_, rfl⟩, q⟩) hs
noncomputable def rIx (K : PySem.W.Frag) : R2 := fun x y H Q => rIxL K x y H Q ∨ rIxT K x y H Q ∨ rIxS x y H Q
theorem ix_seq : IxR X (rIx X.K) := ix_list.or (ix_tup.or ix_str)

theorem mapSeq_set (its : List Value) (n j : Nat) (u : Value) : Obj.mapSeq (·.setIfInBounds j u) { cls := .type "list", data := .seq its.toArray n } = { cls := .type "list", data := .seq (its.set j u).toArray n } := by
  simp [Obj.mapSeq]
theorem Inv.lst {pins : List (Addr × Obj)} {σ : St} {H : Hp} {s : Shared} {p : Addr} {xs : List V} (I : Inv X pins σ H s) (h : H p = some (.lst xs)) :
    ∃ (its : List Value) (n : Nat), Vals xs its ∧ s.heap.get? p = some { cls := .type "list", data := .seq its.toArray n } ∧ xs.length ≤ sizeLine := by
  obtain ⟨z, its, n, r, e⟩ := I.hok p _ h
  exact ⟨its, n, r, e, z⟩
theorem Inv.lstUpd {pins : List (Addr × Obj)} {σ : St} {H : Hp} {s : Shared} {p : Addr} {xs ys : List V} {its its' : List Value} {n n' : Nat} {f : Obj → Obj} (I : Inv X pins σ H s) (h : H p = some (.lst xs))
    (ho : s.heap.get? p = some { cls := .type "list", data := .seq its.toArray n }) (hf : f { cls := .type "list", data := .seq its.toArray n } = { cls := .type "list", data := .seq its'.toArray n' }) (r : Vals ys its') (hz : ys.length ≤ sizeLine) (t : Nat) :
    Inv X pins σ (upd H p (.lst ys)) { s with heap := s.heap.update p f, toks := t } := by
  have e : (s.heap.update p f).get? p = some { cls := .type "list", data := .seq its'.toArray n' } := by
    rw [Heap.get?_update_self f ho (by rw [hf] <;> rfl), hf]
  refine I.write (x := p) (e := p) (by rw [h]; trivial) (.inl rfl) (fun b u hb q => (Heap.get?_update_other _ _ (Ne.symm hb)).trans q) ⟨_, e⟩ ?_
  exact ⟨hz, its', n', r, e⟩
noncomputable def rSetL : V → V → V → Hp → (Hp → Prop) → Prop := fun o i v H Q => ∃ p xs k j, o = .ref p ∧ i = .int k ∧ H p = some (.lst xs) ∧ ixN xs.length k = some j ∧ Q (upd H p (.lst (xs.set j v)))
theorem set_list : PSet X rSetL := by
  intro pins s σ H o i v ov iv u Q I ro ri rv h
  obtain ⟨p, xs, k, j, rfl, rfl, hp, hj, q⟩ := h
  cases ro
  obtain ⟨t, rfl⟩ := ri
  obtain ⟨its, n, r, ho, hz⟩ := I.lst hp
  obtain ⟨h1, h2, h3, h4⟩ := ixN_seq hj
  have hl := r.length
  have hn := line63
  have I' : Inv X pins σ (upd H p (.lst (xs.set j v))) { s with heap := s.heap.update p (Obj.mapSeq (·.setIfInBounds j u)) } :=
    I.lstUpd hp ho (mapSeq_set its n j u) (r.set rv j) (by rw [List.length_set]; exact hz) s.toks
  by_cases h0 : 0 ≤ k
  · have hk : k.toNat = j := by
      rw [seqIndex_of h0 h4] at h1
      exact Option.some.inj h1
    exact PySem.W.ki_setAt ho h0 (by omega) (by rw [List.size_toArray, ← hl]; exact h4) (by rw [hk]; exact ⟨_, I', q⟩)
  · have hk : (k + (its.toArray.size : Int)).toNat = j := by
      rw [seqIndex_neg (by omega) h3] at h1
      rw [List.size_toArray, ← hl]
      exact Option.some.inj h1
    exact PySem.W.ki_setBack ho (by omega) (by rw [List.size_toArray, ← hl]; exact h3) (by omega) (by rw [hk]; exact ⟨_, I', q⟩)

theorem slice_bounds (lo hi : Option Int) (n : Nat) : (sliceBounds lo hi none n).1 = ((HT.sIx n 0 lo : Nat) : Int) ∧ (sliceBounds lo hi none n).2.1 = ((HT.sIx n n hi : Nat) : Int) ∧ (sliceBounds lo hi none n).2.2 = 1 := by
  refine ⟨?_, ?_, rfl⟩
  · cases lo with
    | none => simp [sliceBounds, HT.sIx]
    | some i =>
      simp only [sliceBounds, HT.sIx, Option.getD_none, show (1 : Int) > 0 by decide, if_true]
      by_cases h : i < 0
      · simp only [h, if_true] <;> omega
      · simp only [h, if_false] <;> omega
  · cases hi with
    | none => simp [sliceBounds, HT.sIx]
    | some i =>
      simp only [sliceBounds, HT.sIx, Option.getD_none, show (1 : Int) > 0 by decide, if_true]
      by_cases h : i < 0
      · simp only [h, if_true] <;> omega
      · simp only [h, if_false] <;> omega
theorem slicePick_cut (its : List Value) (lo hi : Option Int) : slicePick its.toArray lo hi none = ((its.drop (HT.sIx its.length 0 lo)).take (HT.sIx its.length its.length hi - HT.sIx its.length 0 lo)).toArray := by
  obtain ⟨h1, h2, h3⟩ := slice_bounds lo hi its.toArray.size
  unfold slicePick
  rw [h1, h2, h3]
  simp only [sliceRange_one, pick_run, List.size_toArray] <;> rfl
noncomputable def rSlL (K : PySem.W.Frag) : V → Option Int → Option Int → Hp → VK → Prop := fun x lo hi H Q => ∃ a xs, x = .ref a ∧ SqL K H a xs ∧ ∀ p, H p = none → Q (.ref p) (upd H p (.lst (cutV xs lo hi)))
theorem sl_list : SlR X (rSlL X.K) := by
  intro pins s σ H x v vl vu lo hi sl Q I rx hs pl pu h
  obtain ⟨a, xs, rfl, hx, q⟩ := h
  cases rx
  obtain ⟨its, r, ht, hz⟩ := I.list hx
  have hlen := r.length
  refine ⟨"list", _, slot_list_getitem.lookup, ht.isList.typeIs, ?_⟩
  refine wpAny_getItem_list_slice ht.isList hs pl pu .none (by simp) ?_ (by rw [List.size_toArray] <;> omega)
  rw [slicePick_cut, ← hlen]
  refine ⟨.ref s.heap.objs.size, _, I.laid (t' := s.toks) (o := .lst (cutV xs lo hi)) (fun b ob q => Heap.get?_push_of_some _ q) (Nat.le_refl _) ?_, rfl, q _ (I.hok.fresh (Nat.le_refl _))⟩
  exact ⟨Nat.le_trans (cutV_length xs lo hi) hz, _, 0, (r.drop (HT.sIx xs.length 0 lo)).take (HT.sIx xs.length xs.length hi - HT.sIx xs.length 0 lo), Heap.get?_push_size _ rfl⟩

noncomputable def flatV : V → Bool
  | .non => true
  | .bl _ => true
  | .int _ => true
  | .str _ => true
  | _ => false
noncomputable def eqV : V → V → Bool
  | .non, .non => true
  | .bl a, .bl b => a == b
  | .bl a, .int b => (if a then 1 else 0) == b
  | .int a, .bl b => a == (if b then 1 else 0)
  | .int a, .int b => a == b
  | .str a, .str b => a == b
  | _, _ => false
theorem eqAt_V {A : Around} {s : Shared} {y x : V} {u v : Value} (ry : RelV y u) (rx : RelV x v) (fy : flatV y = true) (fx : flatV x = true) : SeqAt.EqAt A s u v (eqV y x) := by
  cases y with
  | non =>
    cases ry
    cases x with
    | non => cases rx; exact SeqAt.EqAt.same _
    | bl b => cases rx; exact SeqAt.EqAt.none_bool b
    | int b => obtain ⟨t, rfl⟩ := rx; exact SeqAt.EqAt.none_int b t
    | str b => obtain ⟨t, rfl⟩ := rx; exact SeqAt.EqAt.none_str b t
    | _ => exact absurd (show false = true from fx) Bool.false_ne_true
  | bl a =>
    cases ry
    cases x with
    | non => cases rx; exact SeqAt.EqAt.bool_none a
    | bl b => cases rx; exact SeqAt.EqAt.bool_bool a b
    | int b => obtain ⟨t, rfl⟩ := rx; exact SeqAt.EqAt.bool_int a b t
    | str b => obtain ⟨t, rfl⟩ := rx; exact SeqAt.EqAt.bool_str a b t
    | _ => exact absurd (show false = true from fx) Bool.false_ne_true
  | int a =>
    obtain ⟨t', rfl⟩ := ry
    cases x with
    | non => cases rx; exact SeqAt.EqAt.int_none a t'
    | bl b => cases rx; exact SeqAt.EqAt.int_bool a t' b
    | int b => obtain ⟨t, rfl⟩ := rx; exact SeqAt.EqAt.int_int a t' b t
    | str b => obtain ⟨t, rfl⟩ := rx; exact SeqAt.EqAt.int_str a t' b t
    | _ => exact absurd (show false = true from fx) Bool.false_ne_true
  | str a =>
    obtain ⟨t', rfl⟩ := ry
    cases x with
    | non => cases rx; exact SeqAt.EqAt.str_none a t'
    | bl b => cases rx; exact SeqAt.EqAt.str_bool a t' b
    | int b => obtain ⟨t, rfl⟩ := rx; exact SeqAt.EqAt.str_int a t' b t
    | str b => obtain ⟨t, rfl⟩ := rx; exact SeqAt.EqAt.str_str a t' b t
    | _ => exact absurd (show false = true from fx) Bool.false_ne_true
  | _ => exact absurd (show false = true from fy) Bool.false_ne_true
noncomputable def eqU (x : V) (u : Value) : Bool := match u with
  | .none => eqV .non x
  | .bool b => eqV (.bl b) x
  | .int i _ => eqV (.int i) x
  | .str z _ => eqV (.str z) x
  | _ => false
theorem eqU_of {x y : V} {u : Value} (r : RelV y u) (f : flatV y = true) : eqU x u = eqV y x := by
  cases y with
  | non => cases r; rfl
  | bl b => cases r; rfl
  | int i => obtain ⟨t, rfl⟩ := r; rfl
  | str z => obtain ⟨t, rfl⟩ := r; rfl
  | _ => exact absurd (show false = true from f) Bool.false_ne_true
theorem any_eqU {x : V} : ∀ {xs : List V} {us : List Value}, Vals xs us → xs.all flatV = true → us.any (eqU x) = xs.any fun y => eqV y x
  | _, _, .nil, _ => rfl
  | y :: xs, u :: us, .cons r t, f => by
    rw [List.all_cons, Bool.and_eq_true] at f
    rw [List.any_cons, List.any_cons, eqU_of r f.1, any_eqU t f.2]
theorem mem_eqAt {A : Around} {s : Shared} {x : V} {v : Value} (rx : RelV x v) (fx : flatV x = true) : ∀ {xs : List V} {us : List Value}, Vals xs us → xs.all flatV = true → ∀ u ∈ us, SeqAt.EqAt A s u v (eqU x u)
  | _, _, .nil, _ => fun u hu => by cases hu
  | y :: xs, u :: us, .cons r t, f => fun u' hu => by
    rw [List.all_cons, Bool.and_eq_true] at f
    rcases List.mem_cons.mp hu with rfl | hu
    · rw [eqU_of r f.1]; exact eqAt_V r rx f.1 fx
    · exact mem_eqAt rx fx t f.2 u' hu
noncomputable def inV (x : V) (xs : List V) : Bool := xs.any fun y => eqV y x
noncomputable def rIn (K : PySem.W.Frag) (neg : Bool) : R2 := fun x y H Q => ∃ p xs, y = .ref p ∧ (SqL K H p xs ∨ SqT K H p xs) ∧ flatV x = true ∧ xs.all flatV = true ∧ Q (.bl (if neg then !inV x xs else inV x xs)) H
theorem op_in_seq : OpR X (compareOp .In) (rIn X.K false) := by
  intro pins s σ H x y v u Q I rx ry h
  obtain ⟨p, xs, rfl, hq, fx, fs, q⟩ := h
  cases ry
  rcases hq with hq | hq
  · obtain ⟨its, r, pl, hz⟩ := I.list hq
    refine SeqAt.in_listAt (eqU x) pl.isList (fun w hw => mem_eqAt rx fx r fs w (by simpa using hw)) ⟨.bl _, H, I, rfl, ?_⟩
    rw [show its.toArray.any (eqU x) = its.any (eqU x) by simp, any_eqU r fs]
    exact q
  · obtain ⟨its, r, pl, hz⟩ := I.tuple hq
    refine SeqAt.in_tupleAt (eqU x) pl (fun w hw => mem_eqAt rx fx r fs w (by simpa using hw)) ⟨.bl _, H, I, rfl, ?_⟩
    rw [show its.toArray.any (eqU x) = its.any (eqU x) by simp, any_eqU r fs]
    exact q
theorem CallR.or {f : Value} {r r' : List V → Hp → VK → Prop} (h : CallR X f r) (h' : CallR X f r') : CallR X f (fun xs H Q => r xs H Q ∨ r' xs H Q) := by
  intro pins s σ H xs us Q I rs q
  rcases q with q | q
  · exact h pins s σ H xs us Q I rs q
  · exact h' pins s σ H xs us Q I rs q
theorem call_list_of : CallR X (.type "list") (fun xs H Q => ∃ p ys, xs = [.ref p] ∧ (SqL X.K H p ys ∨ SqT X.K H p ys) ∧ ∀ l, H l = none → Q (.ref l) (upd H l (.lst ys))) := by
  intro pins s σ H xs us Q I r h
  obtain ⟨p, ys, rfl, hq, q⟩ := h
  obtain ⟨u, rfl, rx⟩ := vals1 r
  cases rx
  have fin : ∀ (its : List Value), Vals ys its → ys.length ≤ sizeLine → ∀ (h' : Heap) (c' : Nat), (∀ b o', s.heap.get? b = some o' → h'.get? b = some o') →
      h'.get? s.heap.objs.size = some { cls := .type "list", dict := none, data := .seq its.toArray c', slots := #[] } → EP X pins σ Q (.ref s.heap.objs.size) { s with heap := h' } := fun its r' hz h' c' kp e =>
    ⟨.ref s.heap.objs.size, _, I.laid (t' := s.toks) kp (Nat.le_refl _) (show ObjOk X.prog X.w _ h' _ (.lst ys) from ⟨hz, its, c', r', e⟩), rfl, q _ (I.hok.fresh (Nat.le_refl _))⟩
  rcases hq with hq | hq
  · obtain ⟨its, r', pl, hz⟩ := I.list hq
    have hlen := r'.length
    obtain ⟨o, ho, hc, n, hd⟩ := pl.isList
    exact call_list_seq p (.inl rfl) ho hc hd (fun h' c' kp e => fin its r' hz h' c' kp e) (by simp only [List.size_toArray] <;> omega)
  · obtain ⟨its, r', pl, hz⟩ := I.tuple hq
    have hlen := r'.length
    obtain ⟨o, ho, hc, n, hd⟩ := pl
    exact call_list_seq p (.inr rfl) ho hc hd (fun h' c' kp e => fin its r' hz h' c' kp e) (by simp only [List.size_toArray] <;> omega)
noncomputable def tyV (K : PySem.W.Frag) (T : String) (x : V) (H : Hp) : Prop := match x with
  | .str _ => T = "str"
  | .int _ => T = "int"
  | .ref p => (T = "list" ∧ ∃ xs, SqL K H p xs) ∨ (T = "tuple" ∧ ∃ o, K.lookup p = some o ∧ o.cls = .type "tuple" ∧ o.dict = none) ∨
      (T = "dict" ∧ ((∃ kvs, H p = some (.dK kvs)) ∨ ∃ kvs, H p = some (.dT kvs))) ∨ (T = "set" ∧ ∃ S n, H p = some (.set S n))
  | _ => False
theorem tyV_is {pins : List (Addr × Obj)} {σ : St} {H : Hp} {s : Shared} {T : String} {x : V} {v : Value} (I : Inv X pins σ H s) (r : RelV x v) (ty : tyV X.K T x H) :
    s.TypeIs v T ∧ ∀ a, v = .ref a → ∃ ob, s.heap.get? a = some ob ∧ ob.dict = none := by
  cases x with
  | str z =>
    obtain ⟨t, rfl⟩ := r
    cases (show T = "str" from ty)
    exact ⟨typeIs_str s z t, fun _ e => nomatch e⟩
  | int i =>
    obtain ⟨t, rfl⟩ := r
    cases (show T = "int" from ty)
    exact ⟨typeIs_int s i t, fun _ e => nomatch e⟩
  | ref p =>
    cases r
    rcases ty with ⟨rfl, xs, hq⟩ | ⟨rfl, o, hk, hc, hd⟩ | ⟨rfl, hk⟩ | ⟨rfl, S, n, hk⟩
    · obtain ⟨its, _, pl, _⟩ := I.list hq
      refine ⟨pl.isList.typeIs, fun a e => ?_⟩
      cases e
      obtain ⟨o, n, e, c, hd, _⟩ := pl
      exact ⟨o, e, hd⟩
    · refine ⟨⟨o, I.kIn p o hk, hc⟩, fun a e => ?_⟩
      cases e
      exact ⟨o, I.kIn _ o hk, hd⟩
    · have z : ∃ o, s.heap.get? p = some o ∧ o.ExactDict := by
        rcases hk with ⟨kvs, hk⟩ | ⟨kvs, hk⟩
        · obtain ⟨_, _, _, _, o, _, _, e, ex, _⟩ := I.hok p _ hk
          exact ⟨o, e, ex⟩
        · obtain ⟨_, _, _, _, o, _, _, e, ex, _⟩ := I.hok p _ hk
          exact ⟨o, e, ex⟩
      obtain ⟨o, e, ex⟩ := z
      refine ⟨⟨o, e, ex.1⟩, fun a e2 => ?_⟩
      cases e2
      exact ⟨o, e, ex.2.1⟩
    · obtain ⟨o, _, _, _, e, ex, _⟩ := I.hok p _ hk
      refine ⟨⟨o, e, ex.1⟩, fun a e2 => ?_⟩
      cases e2
      exact ⟨o, e, ex.2.1⟩
  | _ => exact False.elim ty
noncomputable def tBM (K : PySem.W.Frag) (T : String) (r : V → List V → Hp → VK → Prop) (to : TE) (t : TA) : TE := fun σ H Q => to σ H fun x H1 => tyV K T x H1 ∧ t σ H1 fun xs H2 => r x xs H2 Q
variable {o e : Expr} {es : List Expr} {to : TE} {t : TA} {name : Str} {apos cpos : Pos} {T id : String} {r : V → List V → Hp → VK → Prop}
theorem pe_bm (pa : PlainAttrs T) (slot : Slot T name id) (hty : typeOf (.builtin id) = pure (.type "method_descriptor")) (hm : MtR X id r) (ho : PE X o to) (ha : PA X (e :: es) t)
    (hbase : autoParam (attributeBase o name X.env (eval o X.env) = eval o X.env) L2.auto4._auto_1)
    (hfew : ((backTo cpos (starEach (e :: es) X.env)).all (fun x => !x.1) && (backToKw cpos (keywordEach [] X.env)).all (fun x => x.1.isSome)
      && decide ((e :: es).length + ([] : List Keyword).length + (if ([] : List Keyword).isEmpty then 0 else 1) < 30)) = true := by rfl)
    (hline : autoParam ((apos.endLine == cpos.line) = true) L2.auto4._auto_1) (hs : autoParam (starEach (e :: es) X.env = (false, eval e X.env) :: starEach es X.env) L2.auto4._auto_1) (hplain : autoParam ((backTo cpos (starEach es X.env)).any (·.1) = false) L2.auto4._auto_1) :
    PE X (.Call (.Attribute o name apos) (e :: es) [] cpos) (tBM X.K T r to t) := by
  intro pins s σ H Q I h
  refine wpAny_Call_method_late hbase hfew hline rfl (thn (ho pins s σ H _ I h) fun v s1 qq0 => ?_)
  obtain ⟨x, H1, I1, r1, ty, q1⟩ := qq0
  obtain ⟨h1, h2⟩ := tyV_is I1 r1 ty
  refine ⟨T, id, pa, slot, hty, h1, h2, ?_⟩
  have hA := ha cpos pins s1 σ H1 _ I1 q1
  rw [hs] at hA ⊢
  refine Calls.callWith_builtin (by show (false || (backTo cpos (starEach es X.env)).any (·.1)) = false; rw [hplain] <;> rfl) (Calls.evalArgs_plain ?_)
  exact thn hA fun us s2 ⟨vs, H2, I2, r2, q2⟩ => hm pins s2 σ H2 x vs v us Q I2 r1 r2 q2
end
end L2

namespace L2
open PySem PySem.Spec PyProof.Rows

noncomputable def MtM (X : Cx) (id : String) (r : V → List V → Hp → VK → Prop) : Prop :=
  ∀ (pins : List (Addr × Obj)) (s : Shared) (σ : St) (H : Hp) (x : V) (xs : List V) (v : Value) (us : List Value) (Q : VK), Inv X pins σ H s → RelV x v → Vals xs us → r x xs H Q →
    wpAny (model X.prog X.w) X.A (call (.builtin id) (v :: us)) (EP X pins σ Q) X.xe s

theorem Vals.one : ∀ {x : V} {us : List Value}, Vals [x] us → ∃ u, us = [u] ∧ RelV x u
  | _, _, .cons r .nil => ⟨_, rfl, r⟩
theorem Vals.eraseIdx : ∀ {xs : List V} {us : List Value} (i : Nat), Vals xs us → Vals (xs.eraseIdx i) (us.eraseIdx i)
  | _, _, _, .nil => .nil
  | _, _, 0, .cons _ t => t
  | _, _, i + 1, .cons r t => .cons r (Vals.eraseIdx i t)
theorem Vals.rep {xs : List V} {us : List Value} (h : Vals xs us) : ∀ k : Nat, Vals (List.replicate k xs).flatten (List.replicate k us).flatten
  | 0 => .nil
  | k + 1 => by
    rw [List.replicate_succ, List.replicate_succ, List.flatten_cons, List.flatten_cons]
    exact Vals.append h (Vals.rep h k)
theorem len_erase {α : Type} : ∀ (l : List α) (i : Nat), (l.eraseIdx i).length ≤ l.length
  | [], _ => Nat.le_refl _
  | _ :: _, 0 => Nat.le_succ _
  | _ :: r, i + 1 => Nat.succ_le_succ (len_erase r i)
theorem foldl_rep (its : List Value) : ∀ (k : Nat) (acc : List Value),
    List.foldl (fun x1 x2 => x1 ++ x2) acc.toArray (List.replicate k its.toArray) = (acc ++ (List.replicate k its).flatten).toArray
  | 0, acc => by simp
  | k + 1, acc => by
    have e : acc.toArray ++ its.toArray = (acc ++ its).toArray := by simp
    have e2 : (acc ++ its) ++ (List.replicate k its).flatten = acc ++ (List.replicate (k + 1) its).flatten := by
      rw [List.replicate_succ, List.flatten_cons, List.append_assoc]
    rw [← e2, ← foldl_rep its k (acc ++ its), ← e, List.replicate_succ, List.foldl_cons]

section
variable {X : Cx} {pins : List (Addr × Obj)} {σ : St} {H : Hp} {s : Shared} {l b : Addr} {xs ys zs : List V}

theorem Inv.lset {its its' : List Value} {n : Nat} {f : Array Value → Array Value} {t' : Nat} (I : Inv X pins σ H s) (hH : H l = some (.lst xs))
    (e : s.heap.get? l = some { cls := .type "list", data := .seq its.toArray n }) (hf : f its.toArray = its'.toArray) (hv : Vals ys its') (hz : ys.length ≤ sizeLine) :
    Inv X pins σ (upd H l (.lst ys)) { s with heap := s.heap.update l (Obj.mapSeq f), toks := t' } := by
  have q := PySem.IsL.update e f
  rw [hf] at q
  refine I.write (x := l) (e := l) (by rw [hH]; exact trivial) (.inl rfl) (fun b' u hb hu => (Heap.get?_update_other s.heap (Obj.mapSeq f) (Ne.symm hb)).trans hu) ⟨_, q⟩ ?_
  exact ⟨hz, its', _, hv, q⟩
theorem Inv.lnew {its : List Value} {t' : Nat} (I : Inv X pins σ H s) (hv : Vals ys its) (hz : ys.length ≤ sizeLine) :
    Inv X pins σ (upd H s.heap.objs.size (.lst ys)) { s with heap := s.heap.push { cls := .type "list", data := .seq its.toArray }, toks := t' } :=
  I.laid (fun _ _ q => Heap.get?_push_of_some _ q) (Nat.le_refl _) ⟨hz, its, 0, hv, Heap.get?_push_size _ rfl⟩
theorem Inv.fresh (I : Inv X pins σ H s) : H s.heap.objs.size = none := I.hok.fresh (Nat.le_refl _)
theorem Inv.lstM (I : Inv X pins σ H s) (hH : H l = some (.lst xs)) : xs.length ≤ sizeLine ∧ ∃ (its : List Value) (n : Nat), Vals xs its ∧ xs.length = its.length ∧ s.heap.get? l = some { cls := .type "list", data := .seq its.toArray n } := by
  obtain ⟨z, its, n, r, e⟩ := I.hok l _ hH
  exact ⟨z, its, n, r, r.length, e⟩

theorem notLongL {n : Nat} (h : n ≤ sizeLine) : Builtin.List.listTooLong n = false := by
  unfold Builtin.List.listTooLong
  exact decide_eq_false (by omega)
end

section
variable {X : Cx}

noncomputable def rAppend : V → List V → Hp → VK → Prop := fun x vs H Q => ∃ l xs y, x = .ref l ∧ vs = [y] ∧ H l = some (.lst xs) ∧ xs.length < sizeLine ∧ Q .non (upd H l (.lst (xs ++ [y])))
theorem mt_append : MtM X "list.append" rAppend := by
  intro pins s σ H x vs v us Q I rx rv h
  obtain ⟨l, xs, y, rfl, rfl, hH, hz, q⟩ := h
  cases rx
  obtain ⟨u, rfl, ru⟩ := rv.one
  obtain ⟨z, its, n, r, hl, e⟩ := I.lstM hH
  refine call_meets F.slot_list_append ⟨_, e, rfl⟩ F.entry_list_append (F.args_list_append_2 _ _) (PySem.list_append l its.toArray n u (by rw [List.size_toArray]; omega)) ⟨e, ?_⟩
  refine ⟨.non, _, I.lset (its' := its ++ [u]) hH e (by simp) (r.append (.cons ru .nil)) ?_, rfl, q⟩
  rw [List.length_append, List.length_singleton]
  omega

noncomputable def rExtend : V → List V → Hp → VK → Prop := fun x vs H Q => ∃ l b xs zs, x = .ref l ∧ vs = [.ref b] ∧ H l = some (.lst xs) ∧ H b = some (.lst zs) ∧ xs.length + zs.length ≤ sizeLine ∧ Q .non (upd H l (.lst (xs ++ zs)))
theorem mt_extend : MtM X "list.extend" rExtend := by
  intro pins s σ H x vs v us Q I rx rv h
  obtain ⟨l, b, xs, zs, rfl, rfl, hH, hB, hz, q⟩ := h
  cases rx
  obtain ⟨u, rfl, ru⟩ := rv.one
  cases ru
  obtain ⟨z, its, n, r, hl, e⟩ := I.lstM hH
  obtain ⟨z2, its2, n2, r2, hl2, e2⟩ := I.lstM hB
  have hsz : its.toArray.size + its2.toArray.size ≤ sizeLine := by rw [List.size_toArray, List.size_toArray]; omega
  have hlong : ¬ (!its.toArray.isEmpty && Builtin.List.listTooLong (its.toArray.size + its2.toArray.size)) = true := by
    rw [notLongL hsz, Bool.and_false]
    exact Bool.false_ne_true
  refine call_meets F.slot_list_extend ⟨_, e, rfl⟩ F.entry_list_extend (F.args_list_extend_2 _ _)
    (AutoSeq1.list_extend_list_list_0 l its.toArray n b its2.toArray n2 hlong (by rw [List.size_toArray]; omega) (by omega)) ⟨e, e2, ?_⟩
  refine ⟨.non, _, I.lset (its' := its ++ its2) hH e (by simp) (r.append r2) ?_, rfl, q⟩
  rw [List.length_append]
  omega

noncomputable def rPopAt : V → List V → Hp → VK → Prop := fun x vs H Q => ∃ l xs i k y, x = .ref l ∧ vs = [.int i] ∧ H l = some (.lst xs) ∧ -(2 ^ 63) ≤ i ∧ i < 2 ^ 63 ∧ seqIndex? i xs.length = some k ∧ xs[k]? = some y ∧ Q y (upd H l (.lst (xs.eraseIdx k)))
theorem mt_popAt : MtM X "list.pop" rPopAt := by
  intro pins s σ H x vs v us Q I rx rv h
  obtain ⟨l, xs, i, k, y, rfl, rfl, hH, h1, h2, hk, hy, q⟩ := h
  cases rx
  obtain ⟨u, rfl, ru⟩ := rv.one
  obtain ⟨t, rfl⟩ := ru
  obtain ⟨z, its, n, r, hl, e⟩ := I.lstM hH
  obtain ⟨w, hw, rw'⟩ := r.get hy
  refine call_meets F.slot_list_pop ⟨_, e, rfl⟩ F.entry_list_pop (F.args_list_pop_2 _ _)
    (MeetsSeq.list_pop_at l its.toArray n i t k w (fitsIndex_both h1 h2) (by rw [List.size_toArray, ← hl]; exact hk) (by rw [← Array.getElem?_toList]; exact hw) (by rw [List.size_toArray]; omega)) ⟨e, ?_⟩
  refine ⟨y, _, I.lset (its' := its.eraseIdx k) hH e ?_ (r.eraseIdx k) ?_, rw', q⟩
  · show its.toArray.eraseIdxIfInBounds k = (its.eraseIdx k).toArray
    rw [List.eraseIdxIfInBounds_toArray]
  · have := len_erase xs k
    omega

noncomputable def rCat : R2 := fun x y H Q => ∃ l b xs zs, x = .ref l ∧ y = .ref b ∧ H l = some (.lst xs) ∧ H b = some (.lst zs) ∧ xs.length + zs.length ≤ sizeLine ∧ ∀ p, H p = none → Q (.ref p) (upd H p (.lst (xs ++ zs)))
theorem op_cat : OpR X (binaryOp .Add) rCat := by
  intro pins s σ H x y v u Q I rx ry h
  obtain ⟨l, b, xs, zs, rfl, rfl, hH, hB, hz, q⟩ := h
  cases rx
  cases ry
  obtain ⟨z, its, n, r, hl, e⟩ := I.lstM hH
  obtain ⟨z2, its2, n2, r2, hl2, e2⟩ := I.lstM hB
  refine PySem.P.add_list e e2 ?_ (by rw [List.size_toArray, List.size_toArray]; omega)
  have ea : its.toArray ++ its2.toArray = (its ++ its2).toArray := by simp
  rw [ea]
  exact ⟨.ref _, _, I.lnew (t' := s.toks) (r.append r2) (by rw [List.length_append]; omega), rfl, q _ I.fresh⟩
noncomputable def rRep : R2 := fun x y H Q => ∃ l k xs, x = .ref l ∧ y = .int k ∧ H l = some (.lst xs) ∧ -(2 ^ 63) ≤ k ∧ k < 2 ^ 63 ∧ xs.length * k.toNat ≤ sizeLine ∧
  ∀ p, H p = none → Q (.ref p) (upd H p (.lst (List.replicate k.toNat xs).flatten))
theorem len_rep {α : Type} (xs : List α) (k : Nat) : (List.replicate k xs).flatten.length = k * xs.length := by
  induction k with
  | zero => simp
  | succ k ih => rw [List.replicate_succ, List.flatten_cons, List.length_append, ih, Nat.succ_mul, Nat.add_comm]
theorem op_rep : OpR X (binaryOp .Mult) rRep := by
  intro pins s σ H x y v u Q I rx ry h
  obtain ⟨l, k, xs, rfl, rfl, hH, h1, h2, hz, q⟩ := h
  cases rx
  obtain ⟨t, rfl⟩ := ry
  obtain ⟨z, its, n, r, hl, e⟩ := I.lstM hH
  have hlen : its.toArray.size * k.toNat ≤ sizeLine := by rw [List.size_toArray, ← hl]; exact hz
  have hcap : ¬ its.toArray.size * k.toNat > (2 ^ 63 - 1) / 8 := by
    have : (sizeLine : Nat) ≤ (2 ^ 63 - 1) / 8 := by decide
    omega
  have hfit : ¬ (!Builtin.List.listFitsIndex k) = true := by
    rw [fitsIndex_both h1 h2]
    exact Bool.false_ne_true
  have hlong : ¬ Builtin.List.listTooLong (its.toArray.size * k.toNat) = true := by
    rw [notLongL hlen]
    exact Bool.false_ne_true
  have hnew : List.foldl (fun x1 x2 => x1 ++ x2) #[] (List.replicate (if its.toArray.isEmpty = true then 0 else k.toNat) its.toArray) = (List.replicate k.toNat its).flatten.toArray := by
    have f0 : ∀ m : Nat, List.foldl (fun x1 x2 => x1 ++ x2) #[] (List.replicate m its.toArray) = (List.replicate m its).flatten.toArray := fun m => by
      have := foldl_rep its m []
      rw [List.nil_append] at this
      exact this
    rw [f0]
    cases its with
    | nil => simp
    | cons a r' => rw [if_neg (by simp)]
  refine wpAny_binaryOp_repeat_ref (T := "list") (U := "int") (by decide) ⟨_, e, rfl⟩ (fun s' => typeIs_int s' k t) noFill_list_mul F.fills_int_mul F.slot_int_rmul repeat_list F.slot_int_index.lookup
    (call_meets F.slot_int_rmul (typeIs_int s k t) F.entry_int_rmul (F.args_int_rmul_2 _ _) (int___rmul___int_list k t l its.toArray n)
      ⟨e, rfl, ⟨_, e, rfl⟩, call_meets F.slot_list_mul ⟨_, e, rfl⟩ F.entry_list_mul (F.args_list_mul_2 _ _) (AutoListH.list___mul___list_int_3 l its.toArray n k t hfit hcap hlong) ⟨e, ?_⟩⟩)
  rw [hnew]
  exact ⟨.ref _, _, I.lnew (t' := s.toks) (r.rep k.toNat) (by rw [len_rep, Nat.mul_comm]; exact hz), rfl, q _ I.fresh⟩

end

section
variable {prog : Program} {w : World} {A : Around} {E : Value → Shared → Prop} {s : Shared}
end

section
variable {X : Cx}
end
end L2

namespace Att
open PySem PySem.W PySem.Calls PyProof.Rows

theorem ints_of_wellAll {P : Params} {h : Heap} : ∀ (ns : List Int) (vs : List Value), WellAll P h vs (ns.map WData.int) → IntsAre vs ns := by
  intro ns
  induction ns with
  | nil =>
    intro vs w
    rw [List.map_nil] at w
    cases w
    exact .nil
  | cons n ns ih =>
    intro vs w
    rw [List.map_cons] at w
    cases w with
    | cons a b =>
      cases a
      exact .cons _ _ (ih _ b)

theorem script_of {l : OpenLaw} {n : Nat} (hn : l.most = some n) {P : Params} {h : Heap} {args : List WData} {vals : List Value}
    (hpre : l.row.toRowW.claim.pre args = true) (hwl : WellAll P h vals args) :
    ∃ a vs ns, vals = [Value.ref a] ∧ args = [WData.list (ns.map WData.int)] ∧ h.get? a = some { cls := .type "list", data := .seq vs.toArray } ∧ IntsAre vs ns ∧ ns.length ≤ n := by
  have hsh : WShape.hasAll [] args [.list .int] = true := (pre_splitW hpre).1
  have hc : l.pre.holds [] { args := args } = true := (pre_splitW hpre).2
  obtain ⟨d, r, rfl, h1, h2⟩ := hasAllW_cons hsh
  obtain rfl := hasAllW_nil h2
  obtain ⟨xs, rfl, h3⟩ := hasW_list h1
  obtain ⟨ns, rfl⟩ := items_int h3
  have hlen : ns.length ≤ n := by
    unfold OpenLaw.pre at hc
    have h4 : (WTm.not (.lt (.lit (.int (n : Int))) (.len (.arg 0)))).holds [] { args := [.list (ns.map .int)] } = true := by
      have h4 := (holds_andW hc).1
      rw [hn] at h4
      exact h4
    have h5 := condW_of h4 (w_not (w_lt w_lit (w_len_list (w_arg rfl))))
    rw [List.length_map] at h5
    refine Nat.le_of_not_lt fun q => ?_
    have q' : (n : Int) < ((ns.length : Nat) : Int) := by omega
    first
      | (rw [decide_eq_true q'] at h5; exact absurd h5 (by decide))
      | (simp at h5; omega)
  cases hwl with
  | cons w1 w2 =>
    cases w2
    cases w1 with
    | list ho hall => exact ⟨_, _, ns, rfl, rfl, ho, ints_of_wellAll ns _ hall, hlen⟩

theorem post_true (l : OpenLaw) (args : List WData) : l.row.toRowW.claim.post args (.bool true) args = true :=
  postW_of (r := l.row.toRowW) (X := (true == true))
    (show WShape.has [] (.bool true) .bool = true by first | rfl | decide | simp [WShape.has, WShape.arms, WShape.armsAll])
    (show (WTm.eq .res (.lit (.bool true))).value [] { args := args, res := some (.bool true), after := args } = some (.bool (true == true)) from w_eq_bool (w_res rfl) w_lit) rfl

theorem attach_call {l : OpenLaw} {n : Nat} {q : Program} {loose : List Str} {XP : (Str → Option Value) → Heap → Prop} {YP : World → Heap → Prop} {d : DefRec}
    (hn : l.most = some n) (hdf : d.params.defaults = [])
    (call : ∀ (w : World) (s₀ s₁ : Shared) (mg mb : Str → Option Value) (fa : Addr) (o : Obj) (pm cd doc : Value) (a : Addr) (vs : List Value) (ns : List Int),
      Ground q loose [] XP w s₀ mg mb s₁.heap → YP w s₁.heap →
      s₁.heap.get? fa = some o → o.data = .func (docDef d.name d.params d.body d.scope pm cd doc) → s₁.heap.CodeRec cd d.name → mg d.name = some (.ref fa) →
      s₁.heap.get? a = some { cls := .type "list", data := .seq vs.toArray } → IntsAre vs ns → ns.length ≤ n → s₁.gens = #[] →
      codeAny (model l.prog w) callerA (.call (.ref fa) ⟨[.ref a], []⟩) (fun r s' => r = .ok (.ret (.bool true)) ∧ OldK s₁.heap s'.heap ∧ s'.os = s₁.os ∧ AllBare s'.gens) s₁) :
    WalkO q loose XP YP l.row.toRowW d [] (fun f vs => PySem.call f vs) := by
  intro w s₀ s₁ mg mb G Y fa o pm cd doc dV kV ho hd hcd hD hmg hg args vals as hpre hlay hrd hwl hlo
  obtain rfl : dV = .none := Dflts.none hD hdf
  obtain rfl : kV = .none := Dflts.noKw hD
  obtain ⟨a, vs, ns, rfl, rfl, hobj, hints, hlen⟩ := script_of hn hpre hwl
  refine enter_call (codeAny_mono (call w s₀ s₁ mg mb fa o pm cd doc a vs ns G Y ho (fd_plain hd) hcd hmg hobj hints hlen hg) fun r s' hq => ?_)
  obtain ⟨rfl, h2, h3, h4⟩ := hq
  exact ⟨.inl ⟨.bool true, .bool true, [], rfl, fun _ => rfl, .bool true, post_true l _, fun _ => ⟨List.Pairwise.nil, fun _ hm => (nomatch hm)⟩⟩, h2, h3, h4⟩

section
variable {prog : Program} {w : World} {A : Around} {E : Value → Shared → Prop} {s : Shared} {K : Frag}

end
end Att

namespace L2
open PySem PySem.Spec PyProof.Rows

theorem vals_ints : ∀ {vs : List Value} {ns : List Int}, IntsAre vs ns → Vals (ns.map V.int) vs
  | _, _, .nil => .nil
  | _, _, .cons n t h => .cons ⟨t, rfl⟩ (vals_ints h)

noncomputable def Only (H : Hp) : Prop := ∀ b, H b = none ∨ ∃ o xs, H b = some (.frz o (.lst xs))

theorem law_call {P : Program} {w : World} {K : PySem.W.Frag} {mg mb : Str → Option Value} {CX : CXT} {k : Nat} {fa a : Addr} {fd : FuncData} {x : Str} {sp : Sp} {s₁ : Shared} {vs : List Value} {ns : List Int}
    (KX : K.In s₁.heap) (hns : s₁.heap.Ns mainGlobals mg) (hb : s₁.heap.Ns builtinsNs mb) (hbb : ∀ x : Str, x ≠ "__name__" → mb x = bootBuiltins x) (hlim : s₁.heap.NoLimit) (hsm : ∃ mm, s₁.heap.Ns sysModules mm) (hg : s₁.gens = #[])
    (ha : s₁.heap.get? a = some { cls := .type "list", data := .seq vs.toArray }) (hi : IntsAre vs ns) (hl : ns.length ≤ sizeLine) (hr : Room k callerA)
    (F : ∀ base : Heap, K.In base → base.Ns mainGlobals mg → FnOk P w K mg base CX k fa fd [x] sp) (hbind : ∀ (s : Shared) (u : Value), BindsTo s fd ⟨[u], []⟩ [(x, u)])
    (hsp : ∀ H : Hp, Only H → SqL K H a (ns.map V.int) → sp [.ref a] H (fun v _ => v = .bl true) fun _ _ _ => False)
    (hCX : ∀ H e s', CX [] H s₁ (fun _ _ _ => False) e s' → False) :
    codeAny (model P w) callerA (.call (.ref fa) ⟨[.ref a], []⟩) (fun r s' => r = .ok (.ret (.bool true)) ∧ OldK s₁.heap s'.heap ∧ s'.os = s₁.os ∧ AllBare s'.gens) s₁ := by
  have rv := vals_ints hi
  have lenV := hi.length
  -- from an abstract heap in which nothing but the script may be tracked
  have core : ∀ H : Hp, Only H → SqL K H a (ns.map V.int) → HOk P w H s₁.heap → (∀ b, H b ≠ none → b = a) → (H a ≠ none → K.lookup a = none) →
      codeAny (model P w) callerA (.call (.ref fa) ⟨[.ref a], []⟩) (fun r s' => r = .ok (.ret (.bool true)) ∧ OldK s₁.heap s'.heap ∧ s'.os = s₁.os ∧ AllBare s'.gens) s₁ := by
    intro H hO hS hok hA hK
    have base_of : ∀ {b : Addr} {o : Obj}, s₁.heap.get? b = some o → H b = none → (hidT s₁.heap H).get? b = some o := fun e n => hidT_get e n
    have noA : ∀ {b : Addr} {o : Obj} {es : Array DictEntry} {ep : Nat}, s₁.heap.get? b = some o → o.data = .dict es ep → H b = none := fun {b o es ep} e d => by
      cases q : H b with
      | none => rfl
      | some u =>
        have e' : b = a := hA b (by rw [q]; simp)
        subst e'
        rw [ha] at e; cases e
        have d' : Data.seq vs.toArray _ = Data.dict es ep := d
        cases d'
    have nsK : ∀ {b : Addr} {m : Str → Option Value}, s₁.heap.Ns b m → (hidT s₁.heap H).Ns b m := fun {b m} ⟨o, es, ep, e, d, r⟩ => ⟨o, es, ep, base_of e (noA e d), d, r⟩
    have hKb : K.In (hidT s₁.heap H) := fun b o e => base_of (KX b o e) (by
      cases q : H b with
      | none => rfl
      | some u =>
        have e' : b = a := hA b (by rw [q]; simp)
        subst e'
        rw [hK (by rw [q]; simp)] at e; cases e)
    have hM : Mod K mg (hidT s₁.heap H) := ⟨hKb, nsK hns, ⟨mb, nsK hb, hbb⟩, (let ⟨mc, h1, h2⟩ := hlim; ⟨mc, nsK h1, h2⟩), let ⟨mm, h1⟩ := hsm; ⟨mm, nsK h1⟩⟩
    have e0 : Env0 P w K mg (hidT s₁.heap H) callerA [] s₁ H := ⟨rfl, hM, fun b o e => of_hidT e, Nat.le_of_eq (hidT_size _ _), trivial, fun b hb => absurd (show b ∈ ([] : List Addr) from hb) (by simp), hok, .of_eq hg⟩
    refine codeAny_mono ((F _ hKb (nsK hns)).run callerA [] s₁ H ⟨[.ref a], []⟩ [.ref a] [.ref a] _ _ hr e0 (hbind s₁ (.ref a)) (.cons rfl .nil) (hsp H hO hS)) fun r s' h => ?_
    cases r with
    | error e => exact (hCX H e s' h).elim
    | ok fl =>
      cases fl with
      | next => exact False.elim h
      | brk => exact False.elim h
      | cont => exact False.elim h
      | ret u =>
        obtain ⟨v, H', os, bare, un, hok', r', q⟩ := h
        have q' : v = .bl true := q
        subst q'
        obtain rfl : u = Value.bool true := r'
        refine ⟨rfl, OldK.of_keep fun b o e => ?_, os, bare⟩
        cases q : H b with
        | none => exact un.keep b o e q (by intro z; exact absurd (show b ∈ ([] : List Addr) from z) (by simp)) (by simp)
        | some u =>
          rcases hO b with z | ⟨ob, xs, z⟩
          · rw [q] at z; cases z
          · have z2 := un.frzs b ob _ z
            obtain ⟨e1, _⟩ := hok b _ z
            obtain ⟨e2, _⟩ := hok' b _ z2
            rw [e] at e1; cases e1
            exact e2
  cases hk : K.lookup a with
  | some o =>
    -- the script is one of the module's own objects
    have e := KX a o hk
    rw [ha] at e
    cases e
    refine core (fun _ => none) (fun _ => .inl rfl) (.inr ⟨_, vs.toArray, _, hk, rfl, rfl, rfl, by rw [List.size_toArray, lenV]; exact hl, by simpa using rv⟩) (fun b u z => by have z' : (none : Option HO) = some u := z; cases z') (fun b z => absurd rfl z) fun z => absurd rfl z
  | none =>
    refine core (fun b => if b = a then some (.frz { cls := .type "list", data := .seq vs.toArray } (.lst (ns.map V.int))) else none) (fun b => ?_) (.inl (.inr ⟨{ cls := .type "list", data := .seq vs.toArray }, if_pos rfl⟩)) (fun b u z => ?_) (fun b z => ?_) fun _ => hk
    · by_cases hb : b = a
      · exact .inr ⟨_, _, if_pos hb⟩
      · exact .inl (if_neg hb)
    · by_cases hb : b = a
      · have z' := (if_pos hb).symm.trans z
        cases z'
        subst hb
        exact ⟨ha, by rw [List.length_map]; exact hl, vs, _, rv, ha⟩
      · have z' := (if_neg hb).symm.trans z
        cases z'
    · by_cases hb : b = a
      · exact hb
      · exact absurd (if_neg hb) z
end L2

namespace L2
open PySem PySem.Spec PyProof.Rows

noncomputable abbrev KOf {K : PySem.W.Frag} {h : Heap} (_ : K.In h) : PySem.W.Frag := K

theorem walk_of {l : PySem.W.OpenLaw} {n k : Nat} {q : Program} {loose : List Str} {XP : (Str → Option Value) → Heap → Prop} {YP : World → Heap → Prop} {d : DefRec} {K : Params → PySem.W.Frag} {CX : World → CXT} {sp : World → Sp} {x : Str}
    (hn : l.most = some n) (hn2 : n ≤ sizeLine) (hdf : d.params.defaults = []) (hr : Room k callerA)
    (hY : ∀ (w : World) (h : Heap), YP w h → (K w.params).In h)
    (F : ∀ (w : World) (mg : Str → Option Value) (fa : Addr) (h : Heap), (K w.params).In h → h.Ns mainGlobals mg → mg d.name = some (.ref fa) →
      ∃ fd : FuncData, (∀ (s : Shared) (u : Value), BindsTo s fd ⟨[u], []⟩ [(x, u)]) ∧
        ∀ base : Heap, (K w.params).In base → base.Ns mainGlobals mg → FnOk l.prog w (K w.params) mg base (CX w) k fa fd [x] (sp w))
    (hsp : ∀ (w : World) (H : Hp) (a : Addr) (ns : List Int), ns.length ≤ n → Only H → SqL (K w.params) H a (ns.map V.int) → sp w [.ref a] H (fun v _ => v = .bl true) fun _ _ _ => False)
    (hCX : ∀ (w : World) (H : Hp) (s : Shared) (e : Value) (s' : Shared), CX w [] H s (fun _ _ _ => False) e s' → False) (him : importsNone q = true) :
    PySem.W.WalkO q loose XP YP l.row.toRowW d [] (fun f vs => PySem.call f vs) := by
  refine Att.attach_call hn hdf fun w s₀ s₁ mg mb fa o pm cd doc a vs ns G Y ho hd hcd hmg hobj hints hlen hg => ?_
  have KX := hY w _ Y
  obtain ⟨fd, hb, hF⟩ := F w mg fa _ KX G.T.g hmg
  exact law_call KX G.T.g G.T.b G.T.builtins G.T.nolimit (let ⟨mm, h1, _⟩ := (G.T.seer him).mods; ⟨mm, h1⟩) hg hobj hints (Nat.le_trans hlen hn2) hr hF hb (fun H hO hS => hsp w H a ns hlen hO hS) fun H e s' => hCX w H s₁ e s'
end L2


namespace L2
open PySem PySem.Spec PyProof.Rows

noncomputable def defArgs (s : Stmt) : Arguments := match s with
  | .FunctionDef _ a _ _ _ _ _ _ _ _ => a
  | _ => { posonlyargs := [], args := [], vararg := none, kwonlyargs := [], kw_defaults := [], kwarg := none, defaults := [] }
noncomputable def defBody (s : Stmt) : List Stmt := match s with
  | .FunctionDef _ _ b _ _ _ _ _ _ _ => b
  | _ => []
noncomputable def defScope (s : Stmt) : Scope := match s with
  | .FunctionDef _ _ _ _ _ _ sc _ _ _ => sc
  | _ => { kind := .function, names := [], isGenerator := false, isCoroutine := false }

noncomputable abbrev CX0 : CXT := fun _ _ _ _ _ _ => False
noncomputable abbrev E0 : XK := fun _ _ _ => False
theorem pass0 {X : Cx} : Passes CX0 X E0 := fun _ _ _ _ _ _ _ h => h.elim

structure Fun (K : PySem.W.Frag) (x qual : Str) (st : Stmt) (f : Addr) (fd : FuncData) : Prop where
  ex : ∃ (oc : Value) (od : Option Addr) (kV doc pm : Value) (an : Option Addr) (cdv ct : Value) (osl : Array (Option Value)),
    fd = PySem.W.fnOf x qual (defArgs st) (defBody st) (defScope st) .none kV doc pm an cdv ct ∧ K.lookup f = some ⟨oc, od, .func fd, osl⟩ ∧ PySem.W.codeIn K cdv qual = true
  kp : PySem.W.keepIn K (.ref f) = true
section
variable {P : Program} {w : World} {K : PySem.W.Frag} {mg : Str → Option Value} {base : Heap}
theorem Fun.ok {x qual : Str} {st : Stmt} {f : Addr} {fd : FuncData} {N ps : List Str} {k : Nat} {sp : Sp} (F : Fun K x qual st f fd) (S : FnScope N ps (defScope st)) (len : ∀ vs H Q E, sp vs H Q E → vs.length = ps.length)
    (hbody : ∀ (cdv : Value) (A : Around) (outer : List Env) (s : Shared) (H : Hp) (vs : List V) (Q : VK) (E : XK), Room k (A.deeper (envOfC qual (defScope st) s.heap.objs.size f cdv)) → sp vs H Q E →
      ∃ t, PSs (cxOf CX0 P w K mg base N qual (defScope st) f cdv A outer s H E).nox (defBody st) t ∧ t { nx := fun _ H' => Q .non H', rt := Q } (start N vs) H) : FnOk P w K mg base CX0 (k + 1) f fd ps sp := by
  obtain ⟨oc, od, kV, doc, pm, an, cdv, ct, osl, rfl, lk, hcd⟩ := F.ex
  refine fn_of lk hcd S len fun A outer s H vs Q E hr hsp => ?_
  obtain ⟨t, h, q⟩ := hbody cdv A outer s H vs Q E hr hsp
  exact ⟨t, h.nox, q⟩
theorem Fun.binds {x qual : Str} {st : Stmt} {f : Addr} {fd : FuncData} {ps : List Str} (F : Fun K x qual st f fd)
    (h : ∀ (kV doc pm : Value) (an : Option Addr) (cdv ct : Value) (us : List Value), us.length = ps.length → bindArgs (PySem.W.fnOf x qual (defArgs st) (defBody st) (defScope st) .none kV doc pm an cdv ct) ⟨us, []⟩ = pure (ps.zip us)) : Binds K fd ps [] := by
  obtain ⟨oc, od, kV, doc, pm, an, cdv, ct, osl, rfl, lk, hcd⟩ := F.ex
  exact .all (h kV doc pm an cdv ct)
theorem fun_mk {x qual : Str} {st : Stmt} {f : Addr} {oc : Value} {od an : Option Addr} {osl : Array (Option Value)} {kV doc pm cdv ct : Value} (l : K.lookup f = some ⟨oc, od, .func (PySem.W.fnOf x qual (defArgs st) (defBody st) (defScope st) .none kV doc pm an cdv ct), osl⟩)
    (c : PySem.W.codeIn K cdv qual = true) (k : PySem.W.keepIn K (.ref f) = true) : Fun K x qual st f (PySem.W.fnOf x qual (defArgs st) (defBody st) (defScope st) .none kV doc pm an cdv ct) := ⟨⟨oc, od, kV, doc, pm, an, cdv, ct, osl, rfl, l, c⟩, k⟩
end
section
variable {X : Cx}
end

theorem iteF {A B : Prop} (h : B) : if false = true then A else B := by
  rw [if_neg Bool.false_ne_true]
  exact h
theorem iteT {A B : Prop} (h : A) : if true = true then A else B := by
  rw [if_pos rfl]
  exact h
noncomputable def Same (H H' : Hp) : Prop := ∀ b o, H b = some o → H' b = some o
theorem Same.refl (H : Hp) : Same H H := fun _ _ h => h
theorem Same.trans {H H1 H2 : Hp} (a : Same H H1) (b : Same H1 H2) : Same H H2 := fun c o h => b c o (a c o h)
theorem Same.free {H H' : Hp} (e : Same H H') {l : Addr} (h : H' l = Option.none) : H l = Option.none := by
  cases q : H l with
  | none => rfl
  | some o =>
    rw [e l o q] at h
    cases h
theorem Same.seq {K : PySem.W.Frag} {H H' : Hp} {a : Addr} {xs : List V} (e : Same H H') (h : SqL K H a xs) : SqL K H' a xs := by
  rcases h with (h | ⟨o, h⟩) | h
  · exact .inl (.inl (e _ _ h))
  · exact .inl (.inr ⟨o, e _ _ h⟩)
  · exact .inr h

end L2

set_option maxHeartbeats 4000000
namespace L2
open PySem PySem.Spec PyProof.Rows

noncomputable def clOf (env : Env) : List (Str × NameKind) → List (Str × Addr) → List (Str × Addr)
  | [], acc => acc
  | (n, k) :: r, acc => clOf env r (if k == .free then (match env.cells.lookup n with | some c => (n, c) :: acc | none => acc) else acc)
theorem clOf_mem {env : Env} : ∀ {names : List (Str × NameKind)} {acc : List (Str × Addr)}, (∀ x c, (x, c) ∈ acc → env.cells.lookup x = some c) → ∀ x c, (x, c) ∈ clOf env names acc → env.cells.lookup x = some c
  | [], _, h, x, c, m => h x c m
  | (n, k) :: r, acc, h, x, c, m => by
    refine clOf_mem (names := r) ?_ x c m
    intro y d hm
    cases hk : (k == NameKind.free) with
    | false => rw [hk] at hm; exact h y d hm
    | true =>
      rw [hk] at hm
      simp only [if_true] at hm
      cases e : env.cells.lookup n with
      | none => rw [e] at hm; exact h y d hm
      | some c' =>
        rw [e] at hm
        rcases List.mem_cons.mp hm with z | z
        · cases z; exact e
        · exact h y d z
theorem clOf_sub {env : Env} : ∀ {names : List (Str × NameKind)} {acc : List (Str × Addr)} {p : Str × Addr}, p ∈ acc → p ∈ clOf env names acc
  | [], _, _, h => h
  | (n, k) :: r, acc, p, h => by
    refine clOf_sub (names := r) ?_
    split
    · split
      · exact List.mem_cons_of_mem _ h
      · exact h
    · exact h
theorem clOf_has {env : Env} {x : Str} {c : Addr} (e : env.cells.lookup x = some c) : ∀ {names : List (Str × NameKind)} {acc : List (Str × Addr)}, (x, NameKind.free) ∈ names → (x, c) ∈ clOf env names acc
  | [], _, h => by simp at h
  | (n, k) :: r, acc, h => by
    rcases List.mem_cons.mp h with z | z
    · cases z
      refine clOf_sub (names := r) ?_
      rw [e]
      simp
    · exact clOf_has e (names := r) z
theorem lookup_of_all {l : List (Str × Addr)} {x : Str} {c : Addr} (hm : (x, c) ∈ l) (ha : ∀ d, (x, d) ∈ l → d = c) : l.lookup x = some c := by
  induction l with
  | nil => simp at hm
  | cons p r ih =>
    obtain ⟨n, d⟩ := p
    by_cases e : x = n
    · subst e
      have : d = c := ha d (by simp)
      subst this
      simp [List.lookup_cons]
    · have hb : (x == n) = false := by simpa using e
      rw [List.lookup_cons, hb]
      refine ih ?_ fun d' h' => ha d' (List.mem_cons_of_mem _ h')
      rcases List.mem_cons.mp hm with z | z
      · cases z; exact absurd rfl e
      · exact z
theorem clOf_lookup {env : Env} {names : List (Str × NameKind)} {x : Str} {c : Addr} (e : env.cells.lookup x = some c) (h : (x, NameKind.free) ∈ names) : (clOf env names []).lookup x = some c :=
  lookup_of_all (clOf_has e h) fun d hd => by
    have q := clOf_mem (names := names) (acc := []) (env := env) (by simp) x d hd
    rw [e] at q
    exact (Option.some.inj q).symm
theorem clOf_some {env : Env} {names : List (Str × NameKind)} {x : Str} {c : Addr} (e : (clOf env names []).lookup x = some c) : env.cells.lookup x = some c :=
  clOf_mem (names := names) (acc := []) (env := env) (by simp) x c (PySem.mem_of_lookup e)

theorem closure_eq {env : Env} : ∀ (names : List (Str × NameKind)) (acc : List (Str × Addr)), (∀ x ∈ names, x.2 = NameKind.free → ∃ c, env.cells.lookup x.1 = some c) →
    (forIn (m := Sem) names acc fun x r => match x with
      | (name, kind) => if (kind == NameKind.free) = true then do let c ← cellOf env name; pure (ForInStep.yield ((name, c) :: r)) else pure (ForInStep.yield r)) = pure (clOf env names acc)
  | [], acc, _ => rfl
  | (n, k) :: r, acc, h => by
    rw [List.forIn_cons]
    cases hk : (k == NameKind.free) with
    | false =>
      simp only [hk, Bool.false_eq_true, if_false, pure_bind, clOf]
      exact closure_eq r acc fun x hx => h x (List.mem_cons_of_mem _ hx)
    | true =>
      obtain ⟨c, e⟩ := h (n, k) List.mem_cons_self (by simpa using hk)
      simp only [hk, if_true, pure_bind, clOf, cellOf, e]
      exact closure_eq r ((n, c) :: acc) fun x hx => h x (List.mem_cons_of_mem _ hx)
theorem closureFor_cl {scope : Scope} {env : Env} (h : ∀ x ∈ scope.names, x.2 = NameKind.free → ∃ c, env.cells.lookup x.1 = some c) : closureFor scope env = pure (clOf env scope.names []) := by
  unfold closureFor
  have := closure_eq (env := env) scope.names [] h
  simp only [this, pure_bind]

theorem comp_loop {prog : Program} {w : World} {A : Around} {R : Result → Shared → Prop} {s : Shared} {elt target iter : Expr} {ifs : List Expr} {scope : Scope} {pos : Pos} {it acc : Value} {env : Env} (I : Nat → Shared → Prop)
    (turn : ∀ n s, I n s → wpAny (model prog w) A (pyNext it) (fun r s₁ => match r with
      | none => R (.ok .next) s₁
      | some v => wpAny (model prog w) A (letOwnedTupleGo target it v) (fun _ s₁' => wpAny (model prog w) A (assign target env v) (fun _ s₂ =>
          wpAny (model prog w) A (forIn ifs true fun c r => if r = true then do let ok ← isTrue c env (eval c env); pure (ForInStep.yield ok) else pure (ForInStep.yield r)) (fun ok s₃ =>
            if ok = true then wpAny (model prog w) A (eval elt env) (fun x s₄ =>
              wpAny (model prog w) A (call (.builtin "list.append") [acc, x]) (fun _ s₅ => ∃ m, m < n ∧ I m s₅) (fun _ _ => False) s₄) (fun _ _ => False) s₃
            else ∃ m, m < n ∧ I m s₃) (fun _ _ => False) s₂) (fun _ _ => False) s₁') (fun _ _ => False) s₁) (fun _ _ => False) s)
    (n : Nat) (h : I n s) :
    codeAny (model prog w) A (.compLoop (.ListComp elt [⟨target, iter, ifs, 0⟩] scope pos) 0 it acc env) R s := by
  refine codeAny_loop rfl I (fun n s hI => ?_) n h
  show wpAny _ A ((compTurn (.ListComp elt [⟨target, iter, ifs, 0⟩] scope pos) 0 it acc env).onRaise (fun x => do noteFrame x env; theTreesLotGoes x)) _ _ s
  refine wpAny_noted ?_
  rw [compTurn_list]
  refine wpAny_bind (wpAny_standAt (wpAny_bind (wpAny_mono (turn n s hI) (fun r s₁ h₁ => ?_) fun _ _ h' => h'.elim)))
  cases r with
  | none => exact wpAny_pure h₁
  | some v =>
    refine wpAny_bind (wpAny_mono h₁ (fun _ s₁' h₁' => ?_) fun _ _ h' => h'.elim)
    refine wpAny_bind (wpAny_mono h₁' (fun _ s₂ h₂ => wpAny_bind (wpAny_mono h₂ (fun ok s₃ h₃ => ?_) fun _ _ h' => h'.elim)) fun _ _ h' => h'.elim)
    cases ok with
    | false => exact wpAny_pure ⟨rfl, h₃⟩
    | true =>
      exact wpAny_bind (wpAny_bind (wpAny_mono h₃ (fun x s₄ h₄ => wpAny_bind (wpAny_mono h₄ (fun _ s₅ h₅ => wpAny_pure (wpAny_pure ⟨rfl, h₅⟩)) fun _ _ h' => h'.elim)) fun _ _ h' => h'.elim))
end L2

namespace L2
open PySem PySem.Spec PyProof.Rows

noncomputable def cxC (X : Cx) (N' : List Str) (scope : Scope) (C : Addr) (s₀ : Shared) (H₀ : Hp) (ex : List Addr) : Cx :=
  { X with N := N', s₀ := s₀, H₀ := H₀, env := compEnvC scope (clOf X.env scope.names []) C X.env, outer := X.stack, ex := ex, fn := fun _ => false, pn := [], xe := fun _ _ => False }
noncomputable def subSt (sub : List (Option Nat)) (σ : St) : St := sub.map fun o => o.bind fun j => (σ[j]?).join
structure SubOk (N : List Str) (sc : Scope) (N' : List Str) (scope : Scope) (sub : List (Option Nat)) : Prop where
  kind : scope.kind = .function
  nocell : ∀ x ∈ scope.names, x.2 ≠ .cell
  loc : ∀ x ∈ scope.names, x.2 = .local → scope.names.lookup x.1 = some .local
  free : ∀ x ∈ scope.names, x.2 = .free → sc.names.lookup x.1 = some .cell ∨ sc.names.lookup x.1 = some .free
  len : sub.length = N'.length
  at_ : ∀ (i j : Nat) (x : Str), sub[i]? = some (some j) → N'[i]? = some x → N[j]? = some x ∧ (x, NameKind.free) ∈ scope.names ∧ scope.names.lookup x = some .free
noncomputable def subOkB (N : List Str) (sc : Scope) (N' : List Str) (scope : Scope) (sub : List (Option Nat)) : Bool :=
  decide (scope.kind = .function) && scope.names.all (fun x => decide (x.2 ≠ .cell)) && scope.names.all (fun x => decide (x.2 = .local → scope.names.lookup x.1 = some .local)) &&
  scope.names.all (fun x => decide (x.2 = .free → sc.names.lookup x.1 = some .cell ∨ sc.names.lookup x.1 = some .free)) && decide (sub.length = N'.length) &&
  (List.range sub.length).all fun i => match sub[i]?, N'[i]? with
    | some (some j), some x => decide (N[j]? = some x ∧ (x, NameKind.free) ∈ scope.names ∧ scope.names.lookup x = some .free)
    | _, _ => true
theorem subOk_of {N : List Str} {sc : Scope} {N' : List Str} {scope : Scope} {sub : List (Option Nat)} (h : subOkB N sc N' scope sub = true) : SubOk N sc N' scope sub := by
  simp only [subOkB, Bool.and_eq_true, decide_eq_true_eq, List.all_eq_true] at h
  obtain ⟨⟨⟨⟨⟨h1, h2⟩, h3⟩, h4⟩, h5⟩, h6⟩ := h
  refine ⟨h1, h2, h3, h4, h5, fun i j x e1 e2 => ?_⟩
  have hi : i < sub.length := (List.getElem?_eq_some_iff.mp e1).1
  have q := h6 i (List.mem_range.mpr hi)
  rw [e1, e2] at q
  simpa using q

noncomputable def tTrue : TT := fun _ H Q => Q true H
noncomputable def PIfs (X : Cx) (ifs : List Expr) (t : TT) : Prop :=
  ∀ (pins : List (Addr × Obj)) (s : Shared) (σ : St) (H : Hp) (Q : Bool → Hp → Prop), Inv X pins σ H s → t σ H Q →
    wpAny (model X.prog X.w) X.A (forIn ifs true fun c r => if r = true then do let ok ← isTrue c X.env (eval c X.env); pure (ForInStep.yield ok) else pure (ForInStep.yield r)) (TP X pins σ Q) X.xe s
theorem pifs_nil {X : Cx} : PIfs X [] tTrue := fun _ _ _ H _ I h => wpAny_tests_nil ⟨H, I, h⟩
theorem pifs_one {X : Cx} {c : Expr} {t : TT} (hc : PT X c t) : PIfs X [c] t := fun pins s σ H Q I h => wpAny_tests_one (hc pins s σ H Q I h)

noncomputable def KeepSt (σ σ' : St) : Prop := σ'.length = σ.length ∧ ∀ (i : Nat) (v : V), σ[i]? = some (some v) → σ'[i]? = some (some v)
theorem KeepSt.set {σ : St} {i : Nat} {v : V} (h : σ[i]? = some none) : KeepSt σ (σ.set i (some v)) := by
  refine ⟨by simp, fun j u e => ?_⟩
  by_cases hj : i = j
  · subst hj; rw [h] at e; cases e
  · rw [List.getElem?_set_ne hj]; exact e
noncomputable def tComp (sub : List (Option Nat)) (wi : TI) (g : TG) (tt : TT) (te : TE) : TE := fun σ H Q => wi σ H fun J H1 => ∃ W : Nat → Nat → List V → Hp → Prop, (∃ m, W 0 m [] H1) ∧ ∀ i m ys H, W i m ys H →
  (J.stop i H ∧ ys.length ≤ sizeLine ∧ ∀ D, H D = none → Q (.ref D) (upd H D (.lst ys))) ∨
  (J.go i H ∧ ys.length < sizeLine ∧ ∃ N : List V → Hp → Prop, (∀ ys' H', N ys' H' → ∃ m', m' < m ∧ W (i + 1) m' ys' H') ∧
    ∀ x H', J.yld i H x H' → g x (subSt sub σ) H' fun σ2 H2 => KeepSt (subSt sub σ) σ2 ∧ tt σ2 H2 fun b H3 => if b = true then te σ2 H3 fun y H4 => N (ys ++ [y]) H4 else N ys H3)

theorem relabel_free {scope : Scope} {env : Env} {x : Str} (hx : scope.names.lookup x = some .free) : (relabel scope env).names.lookup x = some .cell ∨ (relabel scope env).names.lookup x = some .free := by
  have : ∀ names : List (Str × NameKind), names.lookup x = some .free →
    (names.map fun (n, k) => if (k == NameKind.free && env.scope.kind == .function && env.kindOf n == some .cell) then (n, NameKind.cell) else (n, k)).lookup x = some .cell ∨
    (names.map fun (n, k) => if (k == NameKind.free && env.scope.kind == .function && env.kindOf n == some .cell) then (n, NameKind.cell) else (n, k)).lookup x = some .free := by
    intro names
    induction names with
    | nil => intro h; simp at h
    | cons p r ih =>
      obtain ⟨n, k⟩ := p
      intro h
      by_cases e : x = n
      · subst e
        have hk : k = .free := by simpa [List.lookup_cons] using h
        subst hk
        by_cases hc : ((NameKind.free == NameKind.free && env.scope.kind == .function && env.kindOf x == some .cell) = true)
        · left; simp only [List.map_cons]; rw [if_pos hc]; simp [List.lookup_cons]
        · right; simp only [List.map_cons]; rw [if_neg hc]; simp [List.lookup_cons]
      · have hb : (x == n) = false := by simpa using e
        rw [List.lookup_cons, hb] at h
        have q := ih h
        simp only [List.map_cons]
        split <;> (rw [List.lookup_cons, hb]; exact q)
  exact this scope.names hx
theorem relabel_back {scope : Scope} {env : Env} {x : Str} (hn : ∀ y ∈ scope.names, y.2 ≠ .cell) (h : (relabel scope env).names.lookup x = some .cell ∨ (relabel scope env).names.lookup x = some .free) : (x, NameKind.free) ∈ scope.names := by
  have key : ∀ k, (k = NameKind.cell ∨ k = NameKind.free) → (relabel scope env).names.lookup x = some k → (x, NameKind.free) ∈ scope.names := by
    intro k hk hl
    have hm := PySem.mem_of_lookup hl
    unfold relabel at hm
    obtain ⟨⟨n, k'⟩, hm1, hm2⟩ := List.mem_map.mp hm
    dsimp only at hm2
    by_cases hc : (k' == NameKind.free && env.scope.kind == .function && env.kindOf n == some .cell) = true
    · rw [if_pos hc] at hm2
      cases hm2
      simp only [Bool.and_eq_true, beq_iff_eq] at hc
      rw [← hc.1.1]; exact hm1
    · rw [if_neg hc] at hm2
      cases hm2
      rcases hk with hk | hk
      · subst hk; exact absurd rfl (hn _ hm1)
      · subst hk; exact hm1
  rcases h with h | h
  · exact key _ (.inl rfl) h
  · exact key _ (.inr rfl) h

section
variable {X : Cx} {tg iter elt : Expr} {ifs : List Expr} {scope : Scope} {pos : Pos} {N' : List Str} {sub : List (Option Nat)} {wi : TI} {g : TG} {tt : TT} {te : TE}

theorem inv_block {pins : List (Addr × Obj)} {σ : St} {H : Hp} {s : Shared} {fp : List Addr} {D : Addr} {h' : Heap} {tk : Nat} {N : List Str} {sc : Scope} (S : SubOk N sc N' scope sub) (hN : X.N = N) (hsc : X.env.scope = sc) (I : Inv X pins σ H s) (hf : ∀ b ∈ fp, FpOk X pins H b) (hfo : ∀ b ∈ fp, b < s.heap.objs.size)
    (hD : D < s.heap.objs.size) (fD : FpOk X pins H D) (hns : h'.Ns s.heap.objs.size fun _ => none) (hk : ∀ b o, s.heap.get? b = some o → h'.get? b = some o) :
    Inv (cxC X N' scope s.heap.objs.size s H (D :: fp)) [] (subSt sub σ) H { s with heap := h', toks := tk } := by
  have hex : ∀ b ∈ D :: fp, FpOk X pins H b ∧ b < s.heap.objs.size := fun b hb => by
    rcases List.mem_cons.mp hb with rfl | z
    · exact ⟨fD, hD⟩
    · exact ⟨hf b z, hfo b z⟩
  refine ⟨⟨I.ok.mod, S.kind, I.ok.glob, I.ok.blt, Nat.le_refl _, fun x y c h1 h2 => I.ok.inj x y c (clOf_some h1) (clOf_some h2), fun x hx => ?_, fun x c hx _ => (nomatch hx), I.ok.hd, I.ok.frames, .inl rfl, fun b hb => ?_, I.bs, Nat.le_trans I.ok.bsz I.sz, fun b o e hb => ?_, fun b hb => ?_, I.stack, I.stkFree⟩,
    rfl, I.bare, Un.kept hk, ⟨_, hns, fun i x v h1 h2 h3 => ?_⟩, fun x c h => ?_, I.hok.fresh (Nat.le_refl _), fun x c h => I.freeC x c (clOf_some h), fun p hp => (nomatch hp), I.hok.kept hk, ?_⟩
  · have hx' : (x, NameKind.free) ∈ scope.names := relabel_back S.nocell hx
    obtain ⟨c, e⟩ := I.ok.has x (by have := S.free _ hx' rfl; rw [← hsc] at this; exact this)
    exact ⟨c, clOf_lookup e hx'⟩
  · obtain ⟨⟨f0, f1, f2, f3, f4, f5⟩, hlt⟩ := hex b hb
    exact ⟨Nat.ne_of_lt hlt, fun x c h => f4 x c (clOf_some h)⟩
  · obtain ⟨⟨f0, f1, f2, f3, f4, f5⟩, hlt⟩ := hex b hb
    rcases f3 with z | z
    · exact I.ok.noex b o e z
    · exact absurd (Nat.lt_of_lt_of_le (Heap.lt_size (I.ok.bs b o e).1) z) (Nat.lt_irrefl _)
  · obtain ⟨⟨f0, f1, f2, f3, f4, f5⟩, hlt⟩ := hex b hb
    intro z
    rcases List.mem_cons.mp (I.stkSub b z) with z | z
    · exact f1 z
    · exact f2 z
  · have hs : ∃ j, sub[i]? = some (some j) ∧ σ[j]? = some (some v) := by
      unfold subSt at h2
      rw [List.getElem?_map] at h2
      cases e : sub[i]? with
      | none => rw [e] at h2; cases h2
      | some o =>
        rw [e] at h2
        cases o with
        | none => cases h2
        | some j =>
          refine ⟨j, rfl, ?_⟩
          have h3 : (σ[j]?).join = some v := Option.some.inj h2
          cases e2 : σ[j]? with
          | none => rw [e2] at h3; cases h3
          | some z => rw [e2] at h3; cases z with
            | none => cases h3
            | some z => cases h3; rfl
    obtain ⟨j, e1, e2⟩ := hs
    obtain ⟨g1, g2, g3⟩ := S.at_ i j x e1 h1
    rw [← hN] at g1
    obtain ⟨m, hn, hl⟩ := I.loc
    have hkf : X.env.kindOf x = some .cell ∨ X.env.kindOf x = some .free := by have := S.free _ g2 rfl; rw [← hsc] at this; exact this
    have hvis : Vis X.env.scope x := by
      rcases hkf with z | z
      · exact .inr (.inl z)
      · exact .inr (.inr z)
    obtain ⟨u, r, l⟩ := hl j x v g1 e2 hvis
    refine ⟨u, r, .inr ⟨relabel_free g3, ?_⟩⟩
    rcases l with ⟨k, _⟩ | ⟨_, c, e, o, ho, hd⟩
    · have k' : X.env.kindOf x = some .local := k
      rcases hkf with z | z <;> (rw [k'] at z; cases z)
    · exact ⟨c, clOf_lookup e g2, o, hk _ _ ho, hd⟩
  · obtain ⟨v, o, ho, hd⟩ := I.cell x c (clOf_some h)
    exact ⟨v, o, hk _ _ ho, hd⟩
  · show (subSt sub σ).length = N'.length
    unfold subSt
    rw [List.length_map]
    exact S.len

theorem pe_comp {N : List Str} {sc : Scope} (S : SubOk N sc N' scope sub) (hc : X.calm = true) (hN : X.N = N) (hsc : X.env.scope = sc) (hi : PI X tg iter wi)
    (hg : ∀ (C : Addr) (s₀ : Shared) (H₀ : Hp) (ex : List Addr), PG (cxC X N' scope C s₀ H₀ ex) tg g)
    (ht : ∀ (C : Addr) (s₀ : Shared) (H₀ : Hp) (ex : List Addr), PIfs (cxC X N' scope C s₀ H₀ ex) ifs tt)
    (he : ∀ (C : Addr) (s₀ : Shared) (H₀ : Hp) (ex : List Addr), PE (cxC X N' scope C s₀ H₀ ex) elt te)
    (hs : autoParam (∀ x, foldedSetIterable iter X.env x = pure x) L2.auto3._auto_1) :
    PE X (.ListComp elt [⟨tg, iter, ifs, 0⟩] scope pos) (tComp sub wi g tt te) := by
  intro pins s σ H Q I h
  rw [eval_ListComp]
  have hcl : ∀ x ∈ scope.names, x.2 = NameKind.free → ∃ c, X.env.cells.lookup x.1 = some c := fun x hx hk => I.ok.has x.1 (by have := S.free x hx hk; rw [← hsc] at this; exact this)
  refine wpAny_comprehension_free (use := none) rfl hs (closureFor_cl hcl) S.kind S.loc ?_
  refine thn (hi pins s σ H _ I h) fun v s1 h1 => thn h1 fun itv s2 h2 => ?_
  obtain ⟨it, fp, tn, J, H2, e, I2, T, st2, f2, W, ⟨m0, w0⟩, turn⟩ := h2
  subst e
  refine wpAny_newObj_type (wpAny_newFunctionEnv S.nocell (by intro y hy; simp at hy) (fun h₁ hns₁ hsb₁ => ?_) S.kind)
  dsimp only at hns₁ hsb₁ ⊢
  generalize hs3 : ({ s2 with heap := s2.heap.push { cls := .type "list", dict := none, data := .seq ([] : List Value).toArray } } : Shared) = s3
  have e3 : s2.heap.push { cls := .type "list", dict := none, data := .seq ([] : List Value).toArray } = s3.heap := by rw [← hs3]
  rw [e3] at hns₁ hsb₁ ⊢
  have hD3 : s3.heap.get? s2.heap.objs.size = some { cls := .type "list", dict := none, data := .seq ([] : List Value).toArray } := by rw [← e3]; exact Heap.get?_push_size _ rfl
  have I3 : Inv X pins σ H2 s3 := by
    rw [← hs3]
    exact I2.kept (t' := s2.toks) fun b o e => Heap.get?_push_of_some _ e
  have k23 : ∀ b o, s2.heap.get? b = some o → s3.heap.get? b = some o := fun b o e => by rw [← e3]; exact Heap.get?_push_of_some _ e
  have hsz : s3.heap.objs.size = s2.heap.objs.size + 1 := by rw [← e3, Heap.size_push]
  have hk31 : ∀ b o, s3.heap.get? b = some o → h₁.get? b = some o := fun b o e => hsb₁.extBut b o (Nat.ne_of_lt (Heap.lt_size e)) (Heap.get?_push_of_some _ e)
  have hDn : H2 s2.heap.objs.size = none := I2.hok.fresh (Nat.le_refl _)
  have fD : FpOk X pins H2 s2.heap.objs.size := I2.fpOk (Nat.le_refl _) hDn
  have hfo : ∀ b ∈ fp, b < s2.heap.objs.size := fun b hb => let ⟨o, e, _⟩ := T.obj _ _ st2 b hb; Heap.lt_size e
  have hDfp : s2.heap.objs.size ∉ fp := fun z => absurd (hfo _ z) (Nat.lt_irrefl _)
  have I4 := inv_block (tk := s3.toks + ([] : List (Str × Value)).length) S hN hsc I3 f2 (fun b hb => by rw [hsz]; exact Nat.lt_succ_of_lt (hfo b hb)) (D := s2.heap.objs.size) (by rw [hsz]; exact Nat.lt_succ_self _) fD hns₁ hk31
  -- facts of the block
  have stat : ∀ {H' : Hp} {ob : Obj}, (∀ b ∈ fp, H' b = none) → ∀ b ∈ fp, FpOk (cxC X N' scope s3.heap.objs.size s3 H2 (s2.heap.objs.size :: fp)) [(s2.heap.objs.size, ob)] H' b := fun {H' ob} hn b hb => by
    obtain ⟨q1, q2⟩ := I4.ok.exf b (List.mem_cons_of_mem _ hb)
    refine ⟨hn b hb, q1, I4.ok.exfs b (List.mem_cons_of_mem _ hb), .inl (List.mem_cons_of_mem _ hb), q2, fun p hp z => ?_⟩
    have hp' : p = (s2.heap.objs.size, ob) := by simpa [cxC] using hp
    subst hp'
    have z' : s2.heap.objs.size = b := z
    exact hDfp (by rw [z']; exact hb)
  generalize hXC : cxC X N' scope s3.heap.objs.size s3 H2 (s2.heap.objs.size :: fp) = XC at I4 stat
  have eP : XC.prog = X.prog := by rw [← hXC]; rfl
  have eW : XC.w = X.w := by rw [← hXC]; rfl
  have eK : XC.K = X.K := by rw [← hXC]; rfl
  have eA : XC.A = X.A := by rw [← hXC]; rfl
  have eE : XC.env = compEnvC scope (clOf X.env scope.names []) s3.heap.objs.size X.env := by rw [← hXC]; rfl
  have eC : XC.calm = true := by rw [← hXC]; exact hc
  have eX : XC.xe = fun _ _ => False := by rw [← hXC]; rfl
  have eH : XC.H₀ = H2 := by rw [← hXC]; rfl
  have eS : XC.s₀ = s3 := by rw [← hXC]; rfl
  have eF : XC.fs = frs X.stack := by rw [← hXC]; rfl
  have eEx : XC.ex = s2.heap.objs.size :: fp := by rw [← hXC]; rfl
  have ePn : XC.pn = [] := by rw [← hXC]; rfl
  have hgC : PG XC tg g := by rw [← hXC]; exact hg _ _ _ _
  have htC : PIfs XC ifs tt := by rw [← hXC]; exact ht _ _ _ _
  have heC : PE XC elt te := by rw [← hXC]; exact he _ _ _ _
  have pinD : ∀ {σ' : St} {H' : Hp} {s' : Shared} {ob : Obj}, Inv XC [] σ' H' s' → H' s2.heap.objs.size = none → s'.heap.get? s2.heap.objs.size = some ob → (∀ v, ob.data ≠ .cell v) → Inv XC [(s2.heap.objs.size, ob)] σ' H' s' := fun {σ' H' s' ob} J hn hg hd =>
    J.pins_of fun p hp => by
      have hp' : p = (s2.heap.objs.size, ob) := by simpa using hp
      subst hp'
      refine ⟨hg, hn, (J.ok.exf _ (by rw [eEx]; exact List.mem_cons_self)).1, J.ok.exfs _ (by rw [eEx]; exact List.mem_cons_self), hd⟩
  have loop : codeAny (model X.prog X.w) X.A (.compLoop (.ListComp elt [⟨tg, iter, ifs, 0⟩] scope pos) 0 (.ref it) (.ref s2.heap.objs.size) (compEnvC scope (clOf X.env scope.names []) s3.heap.objs.size X.env))
      (compPost (model X.prog X.w) X.A X.xe none (EP X pins σ Q) (.ref s2.heap.objs.size) s3.heap.objs.size) { s3 with heap := h₁, toks := s3.toks + ([] : List (Str × Value)).length } := by
    refine comp_loop (fun n s' => ∃ (i : Nat) (ys : List V) (its : List Value) (nn : Nat) (H' : Hp), Inv XC [] (subSt sub σ) H' s' ∧ tn i s'.heap ∧ (∀ b ∈ fp, H' b = none) ∧ H' s2.heap.objs.size = none ∧
      s'.heap.get? s2.heap.objs.size = some { cls := .type "list", data := .seq its.toArray nn } ∧ Vals ys its ∧ W i n ys H') ?_ m0
      ⟨0, [], [], _, H2, I4, T.keep _ _ _ st2 fun b _ o e => hk31 b o (k23 b o e), fun b hb => (f2 b hb).1, hDn, hk31 _ _ hD3, .nil, w0⟩
    rintro n s4 ⟨i, ys, its, nn, H4, J4, st4, fr4, dn4, dg4, rv4, w4⟩
    have P4 := pinD J4 dn4 dg4 (fun v z => by cases z)
    rcases turn i n ys H4 w4 with ⟨stop, hyl, qn⟩ | ⟨go, hyl, N, hN, step⟩
    · have hdone := T.done XC eP eW eK eC i _ s4 _ H4 (fun _ _ => False) P4 (stat fr4) st4 stop
      rw [eA] at hdone
      refine wpAny_mono hdone (fun r s5 ⟨hr, I5⟩ => ?_) fun _ _ z => z
      subst hr
      -- the end
      obtain ⟨m, hn, _⟩ := id I5.loc
      have hCe : XC.env.locals = s3.heap.objs.size := by rw [eE]; rfl
      rw [hCe] at hn
      refine ⟨m, hn, fun h6 hs6 => ?_⟩
      have hDg := (I5.pin (s2.heap.objs.size, _) (by rw [ePn]; exact List.mem_cons_self)).1
      have hDne : s2.heap.objs.size ≠ s3.heap.objs.size := by rw [hsz]; exact Nat.ne_of_lt (Nat.lt_succ_self _)
      have hHC : H4 s3.heap.objs.size = none := by have := I5.free; rw [hCe] at this; exact this
      have k56 : ∀ b o, b ≠ s3.heap.objs.size → s5.heap.get? b = some o → h6.get? b = some o := fun b o hb e => hs6.extBut b o hb e
      have un := I5.base
      rw [eF, eEx, eH, eS] at un
      have nC : ∀ b o, s3.heap.get? b = some o → b ≠ s3.heap.objs.size := fun b o e => Nat.ne_of_lt (Heap.lt_size e)
      have hok6 : HOk X.prog X.w (upd H4 s2.heap.objs.size (.lst ys)) h6 := by
        have h5 := I5.hok
        rw [eP, eW] at h5
        have trk : ∀ b u, H4 b = some u → b ≠ s3.heap.objs.size := fun b u e z => by rw [z, hHC] at e; cases e
        intro b u e
        by_cases hb : b = s2.heap.objs.size
        · subst hb
          rw [upd_same] at e; cases e
          exact ⟨hyl, its, nn, rv4, k56 _ _ hDne hDg⟩
        · rw [upd_ne hb] at e
          have nD : ∀ c u, H4 c = some u → c ≠ s2.heap.objs.size := fun c u e z => by rw [z, dn4] at e; cases e
          refine (h5 b u e).stay (fun c v hc' q => k56 c v ?_ q) (fun c q => by rw [upd_ne (nD c _ q)]; exact q) fun c xs q => by rw [upd_ne (nD c _ q)]; exact q
          rcases hc' with z | z
          · rw [z]; exact trk b u e
          · exact trk c _ z
      have nD2 : ∀ c u, H4 c = some u → c ≠ s2.heap.objs.size := fun c u e z => by rw [z, dn4] at e; cases e
      have un6 : Un (frs X.stack) (s2.heap.objs.size :: fp) H2 (upd H4 s2.heap.objs.size (.lst ys)) s3.heap h6 :=
        ⟨fun b o e nn' hb hx => k56 b o (nC b o e) (un.keep b o e nn' hb hx), fun b o e nn' hb hx => let ⟨sl, q⟩ := un.slot b o e nn' hb hx; ⟨sl, k56 b _ (nC b o e) q⟩,
          fun b o e nn' hx => by rw [upd_ne (fun z => hx (by rw [z]; exact List.mem_cons_self))]; exact un.free b o e nn' hx,
          fun b o e hx => let ⟨o', q⟩ := un.there b o e hx; ⟨o', k56 b o' (nC b o e) q⟩,
          fun b xs e => by have q := un.tups b xs e; rw [upd_ne (nD2 b _ q)]; exact q,
          fun b o u e => by have q := un.frzs b o u e; rw [upd_ne (nD2 b _ q)]; exact q,
          fun b ps e => let ⟨more, q⟩ := un.tbls b ps e; ⟨more, by rw [upd_ne (nD2 b _ q)]; exact q⟩⟩
      have I6 : Inv X pins σ (upd H4 s2.heap.objs.size (.lst ys)) { s5 with heap := h6 } := by
        refine I3.call' (s' := { s5 with heap := h6 }) (ch := s2.heap.objs.size :: fp) ?_ un6 hok6 I5.bare fun b hb => ?_
        · show s5.os = s3.os
          have := I5.os
          rw [eS] at this
          exact this
        · have q : FpOk X pins H2 b := by
            rcases List.mem_cons.mp hb with rfl | z
            · exact fD
            · exact f2 b z
          obtain ⟨f0, f1, f2', f3, f4, f5⟩ := q
          exact ⟨f3, f1, f4, f5⟩
      exact ⟨.ref s2.heap.objs.size, _, I6, rfl, qn _ dn4⟩
    · have hitem := T.item XC eP eW eK eC i _ s4 _ H4 (fun _ _ => False) P4 (stat fr4) st4 go
      rw [eA] at hitem
      refine wpAny_mono hitem (fun r s5 ⟨u, hr, h5⟩ => ?_) fun _ _ z => z
      subst hr
      dsimp only
      refine wpAny_mono h5 (fun _ s6 ⟨x, H6, I6, r6, y6, st6, fr6⟩ => ?_) fun _ _ z => z
      have P6 := I6.pinned (stat fr6) (T.obj _ _ st6)
      rw [← eE, ← eP, ← eW, ← eA]
      refine wpAny_mono (hgC _ s6 _ H6 x u _ P6 r6 (step x H6 y6)) (fun _ s7 ⟨σ7, H7, I7, kp7, q7⟩ => ?_) fun _ _ z => by rw [eX] at z; exact z
      refine wpAny_mono (htC _ s7 σ7 H7 _ I7 q7) (fun ok s8 ⟨H8, I8, q8⟩ => ?_) fun _ _ z => by rw [eX] at z; exact z
      -- back to the turn's start
      have fin : ∀ {H9 : Hp} {s9 : Shared}, Inv XC ([(s2.heap.objs.size, ({ cls := .type "list", data := .seq its.toArray nn } : Obj))] ++ pinsAt fp s6.heap) σ7 H9 s9 → Inv XC [] (subSt sub σ) H9 s9 ∧ tn (i + 1) s9.heap ∧ (∀ b ∈ fp, H9 b = none) ∧ H9 s2.heap.objs.size = none ∧
          s9.heap.get? s2.heap.objs.size = some { cls := .type "list", data := .seq its.toArray nn } := fun {H9 s9} J => by
        have pD := J.pin (s2.heap.objs.size, ({ cls := .type "list", data := .seq its.toArray nn } : Obj)) (by rw [ePn]; simp)
        have pF : ∀ b ∈ fp, ∀ o, s6.heap.get? b = some o → s9.heap.get? b = some o ∧ H9 b = none := fun b hb o e => by
          have q := J.pin (b, o) (by rw [ePn]; exact List.mem_append_right _ (List.mem_append_right _ (mem_pinsAt hb e)))
          exact ⟨q.1, q.2.1⟩
        refine ⟨?_, T.keep _ _ _ st6 fun b hb o e => (pF b hb o e).1, fun b hb => ?_, pD.2.1, pD.1⟩
        · have J0 : Inv XC [] σ7 H9 s9 := J.pins_of fun p hp => nomatch hp
          exact J0.weak kp7.1.symm fun j v e => kp7.2 j v e
        · obtain ⟨o, e, _⟩ := T.obj _ _ st6 b hb
          exact (pF b hb o e).2
      cases ok with
      | false =>
        rw [if_neg (by simp)]
        rw [if_neg (by simp)] at q8
        obtain ⟨m', hm, w8⟩ := hN _ _ q8
        obtain ⟨a1, a2, a3, a4, a5⟩ := fin I8
        exact ⟨m', hm, i + 1, ys, its, nn, H8, a1, a2, a3, a4, a5, rv4, w8⟩
      | true =>
        rw [if_pos rfl]
        rw [if_pos rfl] at q8
        refine wpAny_mono (heC _ s8 σ7 H8 _ I8 q8) (fun xv s9 ⟨y, H9, I9, r9, n9⟩ => ?_) fun _ _ z => by rw [eX] at z; exact z
        obtain ⟨m', hm, w9⟩ := hN _ _ n9
        obtain ⟨a1, a2, a3, a4, a5⟩ := fin I9
        refine wpAny_list_append_plain (items := its.toArray) ⟨nn, a5⟩ (fun h' ⟨n', hp'⟩ sb => ?_) (by simp; rw [← rv4.length]; omega)
        obtain ⟨q1, q2⟩ := I4.ok.exf s2.heap.objs.size (by rw [eEx]; exact List.mem_cons_self)
        have a1' : Inv XC [] (subSt sub σ) H9 { s9 with heap := h' } := a1.turned (t' := s9.toks) (fun b o hb e => (sb.2 b hb).trans e) a4 q1 (.inl (by rw [eEx]; exact List.mem_cons_self)) q2 (fun p hp => by rw [ePn] at hp; exact nomatch hp)
        refine ⟨m', hm, i + 1, ys ++ [y], its ++ [xv], n', H9, a1', T.keep _ _ _ a2 fun b hb o e => (sb.2 b (fun z => hDfp (by rw [← z]; exact hb))).trans e, a3, a4, ?_, rv4.append (.cons r9 .nil), w9⟩
        rw [hp']
        simp
  subst hs3
  exact codeAny_compStart_list loop (T.self _ 0 _ _ _ (T.keep _ _ _ st2 fun b _ o e => hk31 b o (k23 b o e)) loop)
end

noncomputable abbrev CompR (sub : List (Option Nat)) (g : TG) (tt : TT) (te : TE) (σ : St) (Q : VK) (J : It) (H1 : Hp) : Prop := ∃ W : Nat → Nat → List V → Hp → Prop, (∃ m, W 0 m [] H1) ∧ ∀ i m ys H, W i m ys H →
  (J.stop i H ∧ ys.length ≤ sizeLine ∧ ∀ D, H D = none → Q (.ref D) (upd H D (.lst ys))) ∨
  (J.go i H ∧ ys.length < sizeLine ∧ ∃ N : List V → Hp → Prop, (∀ ys' H', N ys' H' → ∃ m', m' < m ∧ W (i + 1) m' ys' H') ∧
    ∀ x H', J.yld i H x H' → g x (subSt sub σ) H' fun σ2 H2 => KeepSt (subSt sub σ) σ2 ∧ tt σ2 H2 fun b H3 => if b = true then te σ2 H3 fun y H4 => N (ys ++ [y]) H4 else N ys H3)
theorem comp_by {sub : List (Option Nat)} {g : TG} {tt : TT} {te : TE} {σ : St} {Q : VK} {J : It} {H : Hp} {n : Nat} (Pv : Nat → List V → Hp → Prop) (hn : n ≤ sizeLine) (h0 : Pv 0 [] H) (hl : ∀ i ys H, Pv i ys H → ys.length ≤ i)
    (hgo : ∀ i ys H, i < n → Pv i ys H → J.go i H) (hstop : ∀ ys H, Pv n ys H → J.stop n H)
    (hs : ∀ i ys H x H', i < n → Pv i ys H → J.yld i H x H' → g x (subSt sub σ) H' fun σ2 H2 => KeepSt (subSt sub σ) σ2 ∧ tt σ2 H2 fun b H3 => if b = true then te σ2 H3 fun y H4 => Pv (i + 1) (ys ++ [y]) H4 else Pv (i + 1) ys H3)
    (hd : ∀ ys H, Pv n ys H → ∀ D, H D = none → Q (.ref D) (upd H D (.lst ys))) : CompR sub g tt te σ Q J H := by
  refine ⟨fun i m ys H => m = n - i ∧ i ≤ n ∧ Pv i ys H, ⟨n, by simp, Nat.zero_le _, h0⟩, ?_⟩
  rintro i m ys H ⟨rfl, hi, p⟩
  have hl' := hl i ys H p
  by_cases hlt : i < n
  · exact .inr ⟨hgo i ys H hlt p, by omega, fun ys' H' => Pv (i + 1) ys' H', fun ys' H' p' => ⟨n - (i + 1), by omega, rfl, hlt, p'⟩, fun x H' y => hs i ys H x H' hlt p y⟩
  · have e : i = n := by omega
    subst e
    exact .inl ⟨hstop ys H p, by omega, hd ys H p⟩
end L2

namespace L2
open PySem PySem.Spec PyProof.Rows

section
variable {κ : Type} [DecidableEq κ]
noncomputable def valV (kvs : List (κ × V)) (k : κ) : Option V := (kvs.find? fun kv => decide (kv.1 = k)).map (·.2)
noncomputable def putK (kvs : List (κ × V)) (k : κ) (v : V) : List (κ × V) :=
  if (kvs.any fun kv => decide (kv.1 = k)) = true then kvs.map (fun kv => if kv.1 = k then (kv.1, v) else kv) else kvs ++ [(k, v)]
theorem valV_pos {p : κ × V} {r : List (κ × V)} {k : κ} (e : p.1 = k) : valV (p :: r) k = some p.2 := by simp [valV, List.find?_cons, e]
theorem valV_neg {p : κ × V} {r : List (κ × V)} {k : κ} (e : ¬ p.1 = k) : valV (p :: r) k = valV r k := by simp [valV, List.find?_cons, e]
theorem valV_any (k : κ) : ∀ kvs : List (κ × V), (kvs.any fun kv => decide (kv.1 = k)) = (valV kvs k).isSome
  | [] => rfl
  | p :: r => by
    rw [List.any_cons]
    by_cases e : p.1 = k
    · simp only [valV_pos e, decide_eq_true e, Bool.true_or, Option.isSome_some]
    · rw [valV_neg e, decide_eq_false e, Bool.false_or]; exact valV_any k r
theorem length_putK (kvs : List (κ × V)) (k : κ) (v : V) : (putK kvs k v).length ≤ kvs.length + 1 := by
  unfold putK
  split
  · rw [List.length_map]; omega
  · rw [List.length_append, List.length_cons, List.length_nil]; omega
theorem putK_new {kvs : List (κ × V)} {k : κ} (v : V) (h : valV kvs k = none) : putK kvs k v = kvs ++ [(k, v)] := by
  unfold putK
  rw [valV_any, h]
  exact if_neg (by decide)

theorem RelO.isSome_eq {o : Option V} {u : Option Value} (r : RelO o u) : o.isSome = u.isSome := by
  cases o with
  | none => cases u with
    | none => rfl
    | some _ => exact (show False from r).elim
  | some _ => cases u with
    | none => exact (show False from r).elim
    | some _ => rfl
theorem KV.val {kvs : List (κ × V)} {vs : List (κ × Value)} (r : KV kvs vs) (k : κ) : RelO (valV kvs k) (valueAt vs k) := by
  unfold KV at r
  induction r with
  | nil => exact True.intro
  | @cons p q ps qs h t ih =>
    obtain ⟨h1, h2⟩ := h
    by_cases e : p.1 = k
    · have e' : q.1 = k := h1.symm.trans e
      have b : valueAt (q :: qs) k = some q.2 := by simp [valueAt, List.find?_cons, e']
      rw [valV_pos e, b]; exact h2
    · have e' : ¬ q.1 = k := fun z => e (h1.trans z)
      have b : valueAt (q :: qs) k = valueAt qs k := by simp [valueAt, List.find?_cons, e']
      rw [valV_neg e, b]; exact ih
theorem KV.any {kvs : List (κ × V)} {vs : List (κ × Value)} (r : KV kvs vs) (k : κ) : (kvs.any fun kv => decide (kv.1 = k)) = vs.any fun kv => decide (kv.1 = k) := by
  unfold KV at r
  induction r with
  | nil => rfl
  | cons h t ih => rw [List.any_cons, List.any_cons, ih, h.1]
theorem KV.repl {kvs : List (κ × V)} {vs : List (κ × Value)} (r : KV kvs vs) (k : κ) {y : V} {u : Value} (ry : RelV y u) :
    KV (kvs.map fun kv => if kv.1 = k then (kv.1, y) else kv) (vs.map fun kv => if kv.1 = k then (kv.1, u) else kv) := by
  unfold KV at r ⊢
  induction r with
  | nil => exact .nil
  | @cons p q ps qs h t ih =>
    rw [List.map_cons, List.map_cons]
    refine .cons ?_ ih
    obtain ⟨h1, h2⟩ := h
    by_cases e : p.1 = k
    · rw [if_pos e, if_pos (h1.symm.trans e)]; exact ⟨h1, ry⟩
    · rw [if_neg e, if_neg (fun z => e (h1.trans z))]; exact ⟨h1, h2⟩
theorem KV.put {kvs : List (κ × V)} {vs : List (κ × Value)} (r : KV kvs vs) (k : κ) {y : V} {u : Value} (ry : RelV y u) : KV (putK kvs k y) (stored vs k u) := by
  unfold putK stored
  rw [r.any k]
  by_cases e : (vs.any fun kv => decide (kv.1 = k)) = true
  · rw [if_pos e, if_pos e]; exact r.repl k ry
  · rw [if_neg e, if_neg e]; exact Paired.snoc r ⟨rfl, ry⟩
theorem KV.length {kvs : List (κ × V)} {vs : List (κ × Value)} (r : KV kvs vs) : kvs.length = vs.length := Paired.length r
end


theorem kV_is {P : Program} {w : World} {k : Key} {u : Value} (r : RelV (kV k) u) : (mixKind P w).is k u = true := by
  cases k with
  | inl i => obtain ⟨t, e⟩ := (show ∃ t, u = Value.int i t from r); subst e; exact mixKind_int P w i t
  | inr x => obtain ⟨t, e⟩ := (show ∃ t, u = Value.str x t from r); subst e; exact mixKind_str P w x t
theorem items_are {P : Program} {w : World} : ∀ {ks : List Key} {us : List Value}, Vals (ks.map kV) us → ItemsAre (mixKind P w) ks us
  | [], _, r => by rw [List.map_nil] at r; cases r; exact .nil
  | k :: ks, _, r => by
    rw [List.map_cons] at r
    cases r with
    | cons h t => exact .cons (kV_is h) (items_are t)

noncomputable abbrev KT (H : Hp) : List (List Key × V) → List (List Key × Addr × Value) → Prop := Paired fun p q => p.1 = q.1 ∧ H q.2.1 = some (.tup (p.1.map kV)) ∧ RelV p.2 q.2.2
theorem KT.val {H : Hp} {kvs : List (List Key × V)} {xs : List (List Key × Addr × Value)} (r : KT H kvs xs) (k : List Key) : RelO (valV kvs k) ((atKey xs k).map (·.2)) := by
  induction r with
  | nil => exact True.intro
  | @cons p q ps qs h t ih =>
    obtain ⟨h1, _, h2⟩ := h
    by_cases e : p.1 = k
    · have e' : q.1 = k := h1.symm.trans e
      have b : atKey (q :: qs) k = some q.2 := by simp [atKey, List.find?_cons, e']
      rw [valV_pos e, b]; exact h2
    · have e' : ¬ q.1 = k := fun z => e (h1.trans z)
      have b : atKey (q :: qs) k = atKey qs k := by simp [atKey, List.find?_cons, e']
      rw [valV_neg e, b]; exact ih
theorem KT.repl {H : Hp} {kvs : List (List Key × V)} {xs : List (List Key × Addr × Value)} (r : KT H kvs xs) (k : List Key) {y : V} {u : Value} (ry : RelV y u) :
    KT H (kvs.map fun kv => if kv.1 = k then (kv.1, y) else kv) (xs.map (putAt k u)) := by
  induction r with
  | nil => exact .nil
  | @cons p q ps qs h t ih =>
    rw [List.map_cons, List.map_cons]
    refine .cons ?_ ih
    obtain ⟨h1, h2, h3⟩ := h
    unfold putAt
    by_cases e : p.1 = k
    · rw [if_pos e, if_pos (h1.symm.trans e)]; exact ⟨h1, h2, ry⟩
    · rw [if_neg e, if_neg (fun z => e (h1.trans z))]; exact ⟨h1, h2, h3⟩
theorem KT.put {H : Hp} {kvs : List (List Key × V)} {xs : List (List Key × Addr × Value)} (r : KT H kvs xs) (k : List Key) {b : Addr} {y : V} {u : Value} (hb : H b = some (.tup (k.map kV))) (ry : RelV y u) :
    KT H (putK kvs k y) (storedH xs k b u) := by
  have e : (kvs.any fun kv => decide (kv.1 = k)) = (atKey xs k).isSome := by
    rw [valV_any, (r.val k).isSome_eq, Option.isSome_map]
  unfold putK storedH
  rw [e]
  by_cases q : (atKey xs k).isSome = true
  · rw [if_pos q, if_pos q]; exact r.repl k ry
  · rw [if_neg q, if_neg q]; exact Paired.snoc r ⟨rfl, hb, ry⟩
theorem KT.keeps {H H' : Hp} {kvs : List (List Key × V)} {xs : List (List Key × Addr × Value)} (r : KT H kvs xs) (ht : ∀ b ys, H b = some (.tup ys) → H' b = some (.tup ys)) : KT H' kvs xs :=
  Paired.mapP r fun _ _ z => ⟨z.1, ht _ _ z.2.1, z.2.2⟩

section
variable {P : Program} {w : World} {H : Hp} {h : Heap} {a : Addr}
theorem rd_of {u : HO} (ok : HOk P w H h) (e : Rd H a u) : ObjOk P w H h a u := e.ok ok
theorem dk_rd {kvs : List (Key × V)} (ok : HOk P w H h) (e : Rd H a (.dK kvs)) : kvs.length ≤ sizeLine ∧ (a == sysModules) = false ∧ ∃ vs, KV kvs vs ∧ h.DictOf (mixKind P w) a vs :=
  show ObjOk P w H h a (.dK kvs) from rd_of ok e
theorem dk_of {kvs : List (Key × V)} (ok : HOk P w H h) (e : H a = some (.dK kvs)) : kvs.length ≤ sizeLine ∧ (a == sysModules) = false ∧ ∃ vs, KV kvs vs ∧ h.DictOf (mixKind P w) a vs := dk_rd ok (.inl e)
theorem key_of {ks : List Key} (ok : HOk P w H h) (e : H a = some (.tup (ks.map kV))) : (tupleKind (mixKind P w)).is h ks a := by
  obtain ⟨_, its, r, o, h1, h2, n, h3⟩ := (show ObjOk P w H h a (.tup (ks.map kV)) from ok a _ e)
  exact ⟨o, its.toArray, n, h1, h2, h3, by simpa using items_are r⟩
theorem dt_rd {kvs : List (List Key × V)} (ok : HOk P w H h) (e : Rd H a (.dT kvs)) : kvs.length ≤ sizeLine ∧ (a == sysModules) = false ∧
    ∃ xs, KT H kvs xs ∧ h.DictOfH (tupleKind (mixKind P w)) a xs := by
  obtain ⟨z, y, xs, r, o, es, ep, h1, h2, h3, h4, h5⟩ := (show ObjOk P w H h a (.dT kvs) from rd_of ok e)
  refine ⟨z, y, xs, r, o, es, ep, h1, h2, h3, h4, fun x hx => ?_, h5⟩
  have all : ∀ {l : List (List Key × V)} {m : List (List Key × Addr × Value)}, KT H l m → ∀ x ∈ m, (tupleKind (mixKind P w)).is h x.1 x.2.1 := by
    intro l m q
    induction q with
    | nil => intro x hx; exact nomatch hx
    | @cons p q ps qs hq t ih =>
      intro x hx
      rcases List.mem_cons.mp hx with e | hx
      · subst e
        exact key_of ok (by rw [← hq.1]; exact hq.2.1)
      · exact ih x hx
  exact all r x hx
theorem dt_of {kvs : List (List Key × V)} (ok : HOk P w H h) (e : H a = some (.dT kvs)) : kvs.length ≤ sizeLine ∧ (a == sysModules) = false ∧
    ∃ xs, KT H kvs xs ∧ h.DictOfH (tupleKind (mixKind P w)) a xs := dt_rd ok (.inl e)
end

noncomputable def DGet (H : Hp) (a : Addr) (y : V) (r : Option V) : Prop :=
  (∃ kvs k, Rd H a (.dK kvs) ∧ y = kV k ∧ r = valV kvs k) ∨ ∃ kvs k b, Rd H a (.dT kvs) ∧ y = .ref b ∧ H b = some (.tup (k.map kV)) ∧ r = valV kvs k
noncomputable def DPut (H : Hp) (a : Addr) (y v : V) (H' : Hp) : Prop :=
  (∃ kvs k, H a = some (.dK kvs) ∧ y = kV k ∧ kvs.length < sizeLine ∧ H' = upd H a (.dK (putK kvs k v))) ∨
  ∃ kvs k b, H a = some (.dT kvs) ∧ y = .ref b ∧ H b = some (.tup (k.map kV)) ∧ kvs.length < sizeLine ∧ H' = upd H a (.dT (putK kvs k v))
theorem DGet.t {H : Hp} {a b : Addr} {kvs : List (List Key × V)} {k : List Key} (e : H a = some (.dT kvs)) (eb : H b = some (.tup (k.map kV))) : DGet H a (.ref b) (valV kvs k) := .inr ⟨kvs, k, b, .inl e, rfl, eb, rfl⟩
theorem DPut.t {H : Hp} {a b : Addr} {kvs : List (List Key × V)} {k : List Key} {v : V} (e : H a = some (.dT kvs)) (eb : H b = some (.tup (k.map kV))) (hl : kvs.length < sizeLine) :
    DPut H a (.ref b) v (upd H a (.dT (putK kvs k v))) := .inr ⟨kvs, k, b, e, rfl, eb, hl, rfl⟩


section
variable {X : Cx} {pins : List (Addr × Obj)} {σ : St} {H : Hp} {s : Shared} {a : Addr} {y v : V} {u r : Value} {o : Option V} {A : Around} {E : Value → Shared → Prop}

theorem Inv.big (I : Inv X pins σ H s) : sysModules < s.heap.objs.size := by
  have h : mainGlobals < s.heap.objs.size := (I.mod.glob.keeps I.bk).lt
  exact Nat.lt_trans (by decide) h

theorem d_in {Q : Value → Shared → Prop} (hu : A.units + 1 < cLine) (I : Inv X pins σ H s) (g : DGet H a y o) (ry : RelV y u) (h : ∀ s', Inv X pins σ H s' → Q (.bool o.isSome) s') :
    wpAny (model X.prog X.w) A (compareOp .In u (.ref a)) Q E s := by
  rcases g with ⟨kvs, k, e, ey, l⟩ | ⟨kvs, k, b, e, ey, eb, l⟩
  · subst ey
    obtain ⟨z, hd, vs, rel, dd⟩ := dk_rd I.hok e
    refine wpAny_in_of (kV_is ry) hd dd.mapOf ?_
    rw [← (rel.val k).isSome_eq, ← l]
    exact h _ (I.tok _)
  · subst ey
    cases (show u = Value.ref b from ry)
    obtain ⟨z, hd, xs, rel, dd⟩ := dt_rd I.hok e
    refine wpAny_in_heap (tupleKind_room_in1 hu) (key_of I.hok eb) hd dd ?_
    have q := (rel.val k).isSome_eq
    rw [Option.isSome_map] at q
    rw [← q, ← l]
    exact h _ (I.tok _)
theorem d_write {h' : Heap} {t' : Nat} {ob : HO} (I : Inv X pins σ H s) (mu : Mut (H a)) (hs : Heap.SameBut a s.heap h') (he : ∃ q, h'.get? a = some q) (new : ObjOk X.prog X.w (upd H a ob) h' a ob) :
    Inv X pins σ (upd H a ob) { s with heap := h', toks := t' } :=
  I.write (x := a) (e := a) mu (.inl rfl) (fun b q hb z => (hs.2 b hb).trans z) he new
theorem dk_new {P : Program} {w : World} {H' : Hp} {h' : Heap} {kvs : List (Key × V)} {vs : List (Key × Value)} (z : kvs.length ≤ sizeLine) (hd : (a == sysModules) = false) (rel : KV kvs vs) (dd : h'.DictOf (mixKind P w) a vs) :
    ObjOk P w H' h' a (.dK kvs) := ⟨z, hd, vs, rel, dd⟩
theorem d_setItem {H' : Hp} {Q : Unit → Shared → Prop} (hu : A.units + 1 < cLine) (I : Inv X pins σ H s) (g : DPut H a y v H') (ry : RelV y u) (rv : RelV v r) (h : ∀ s', Inv X pins σ H' s' → Q () s') :
    wpAny (model X.prog X.w) A (setItem (.ref a) u r) Q E s := by
  rcases g with ⟨kvs, k, e, ey, l, eH⟩ | ⟨kvs, k, b, e, ey, eb, l, eH⟩
  · subst ey eH
    obtain ⟨z, hd, vs, rel, dd⟩ := dk_of I.hok e
    have hz : vs.length ≤ sizeLine := by rw [← rel.length]; exact z
    have hl : (putK kvs k v).length ≤ sizeLine := by have := length_putK kvs k v; omega
    refine wpAny_setItem_pairs (hsz := hz) (kV_is ry) dd fun h' dd' hs => h _ ?_
    have he : ∃ q, h'.get? a = some q := let ⟨q, _, _, hq, _⟩ := dd'; ⟨q, hq⟩
    exact d_write I (by rw [e]; exact True.intro) hs he (dk_new hl hd (rel.put k rv) dd')
  · subst ey eH
    cases (show u = Value.ref b from ry)
    obtain ⟨z, hd, xs, rel, dd⟩ := dt_of I.hok e
    have hz : xs.length ≤ sizeLine := by rw [← Paired.length rel]; exact z
    have hl : (putK kvs k v).length ≤ sizeLine := by have := length_putK kvs k v; omega
    refine wpAny_setItem_heap (hsz := hz) (tupleKind_room_in1 hu) (key_of I.hok eb) dd fun h' dd' hs => h _ ?_
    obtain ⟨q, es, ep, hq, h2, h3, h4, _, h5⟩ := dd'
    refine d_write I (by rw [e]; exact True.intro) hs ⟨q, hq⟩ ⟨hl, hd, _, (rel.put k eb rv).keeps fun c ys ec => ?_, q, es, ep, hq, h2, h3, h4, h5⟩
    rw [upd_ne (ne_of ec e (fun z => nomatch z))]
    exact ec
end

section
variable {X : Cx} {pins : List (Addr × Obj)} {σ : St} {H : Hp} {s : Shared} {a : Addr} {kvs : List (Key × V)} {k : Key} {u : Value} {A : Around} {E : Value → Shared → Prop}
end


section
variable {X : Cx} {o i e value : Expr} {pos pos' tpos : Pos} {td ty tv : TE}
end


theorem dt_empty {P : Program} {w : World} {H : Hp} (h : Heap) (hb : sysModules < h.objs.size) : ObjOk P w H (h.push { cls := .type "dict", data := .dict #[] }) h.objs.size (.dT []) :=
  ⟨Nat.zero_le _, beq_eq_false_iff_ne.mpr (Ne.symm (Nat.ne_of_lt hb)), [], .nil, _, #[], 0, Heap.get?_push_size _ rfl, ⟨rfl, rfl, rfl⟩, rfl, rfl, List.nodup_nil⟩
noncomputable def tDNewT : TE := fun _ H Q => ∀ p, H p = none → Q (.ref p) (upd H p (.dT []))
section
variable {X : Cx} {pos : Pos}
theorem pe_dnewT : PE X (.Dict [] [] pos) tDNewT := fun pins s σ H Q I h =>
  wpAny_Dict_empty ⟨.ref s.heap.objs.size, _, I.laid (a := s.heap.objs.size) (o := .dT []) (t' := s.toks) (fun _ _ q => Heap.get?_push_of_some _ q) (Nat.le_refl _) (dt_empty s.heap I.big), rfl, h _ (I.hok.fresh (Nat.le_refl _))⟩
end

noncomputable def tPairs : List (TE × TE) → St → Hp → (List (V × V) → Hp → Prop) → Prop
  | [], _, H, Q => Q [] H
  | (tk, tv) :: r, σ, H, Q => tk σ H fun x H1 => tv σ H1 fun y H2 => tPairs r σ H2 fun ps H3 => Q ((x, y) :: ps) H3
noncomputable abbrev VV : List (V × V) → List (Value × Value) → Prop := Paired fun p q => RelV p.1 q.1 ∧ RelV p.2 q.2
noncomputable def PPs (X : Cx) (pos : Pos) (keys : List (Option Expr)) (values : List Expr) (trs : List (TE × TE)) : Prop :=
  ∀ (pins : List (Addr × Obj)) (s : Shared) (σ : St) (H : Hp) (Q : List (V × V) → Hp → Prop), Inv X pins σ H s → tPairs trs σ H Q →
    wpAny (model X.prog X.w) X.A (evalPairs (pairTrees keys values X.env pos)) (fun vs s' => ∃ ps H', Inv X pins σ H' s' ∧ VV ps vs ∧ Q ps H') X.xe s
structure M1 (X : Cx) (o : Expr) (m : Str) (apos : Pos) (e : Expr) (cpos : Pos) : Prop where
  base : attributeBase o m X.env (eval o X.env) = eval o X.env
  few : ((backTo cpos (starEach [e] X.env)).all (fun x => !x.1) && (backToKw cpos (keywordEach [] X.env)).all (fun x => x.1.isSome)
    && decide (([e] : List Expr).length + ([] : List Keyword).length + (if ([] : List Keyword).isEmpty then 0 else 1) < 30)) = true
  line : (apos.endLine == cpos.line) = true
  trees : backTo cpos (starEach [e] X.env) = [(false, eval e X.env)]
structure M2 (X : Cx) (o : Expr) (m : Str) (apos : Pos) (e f : Expr) (cpos : Pos) : Prop where
  base : attributeBase o m X.env (eval o X.env) = eval o X.env
  few : ((backTo cpos (starEach [e, f] X.env)).all (fun x => !x.1) && (backToKw cpos (keywordEach [] X.env)).all (fun x => x.1.isSome)
    && decide (([e, f] : List Expr).length + ([] : List Keyword).length + (if ([] : List Keyword).isEmpty then 0 else 1) < 30)) = true
  line : (apos.endLine == cpos.line) = true
  trees : backTo cpos (starEach [e, f] X.env) = [(false, eval e X.env), (false, eval f X.env)]

section
variable {X : Cx} {pins : List (Addr × Obj)} {σ : St} {H : Hp} {s : Shared} {a : Addr} {y d : V} {u r : Value} {o : Option V} {A : Around} {E : Value → Shared → Prop}
end

section
variable {X : Cx} {o e f : Expr} {apos cpos : Pos} {td ty tx : TE}
end

section
variable {X : Cx} {pins : List (Addr × Obj)} {σ : St} {H : Hp} {s : Shared} {a : Addr} {kvs : List (Key × V)} {A : Around} {E : Value → Shared → Prop}
end


section
variable {X : Cx} {pins : List (Addr × Obj)} {σ : St} {H : Hp} {s : Shared} {a : Addr} {y : V} {u : Value} {A : Around} {E : Value → Shared → Prop}
end
end L2

namespace L2
open PySem PySem.Spec PyProof.Rows
section
variable {X : Cx}
section
variable {κ : Type} [DecidableEq κ]
theorem valV_not {kvs : List (κ × V)} {k : κ} (h : valV kvs k = none) : ¬ k ∈ kvs.map (·.1) := by
  intro m
  obtain ⟨p, hp, e⟩ := List.mem_map.mp m
  have q : (kvs.any fun kv => decide (kv.1 = k)) = true := List.any_eq_true.mpr ⟨p, hp, decide_eq_true e⟩
  rw [valV_any, h] at q
  exact absurd q (by simp)
theorem valV_in {kvs : List (κ × V)} {k : κ} {v : V} (h : valV kvs k = some v) : k ∈ kvs.map (·.1) := by
  have q : (kvs.any fun kv => decide (kv.1 = k)) = true := by
    rw [valV_any, h]
    all_goals rfl
  obtain ⟨p, hp, e⟩ := List.any_eq_true.mp q
  exact List.mem_map.mpr ⟨p, hp, of_decide_eq_true e⟩
end
end
end L2

namespace L2
open PySem PySem.Spec PyProof.Rows

noncomputable def Its (x : Str) : It := ⟨fun i _ => i < x.cps.size, fun i H v H' => H' = H ∧ ∃ c, x.cps[i]? = some c ∧ v = .str ⟨#[c]⟩, fun i _ => i = x.cps.size⟩
theorem turn_str {P : Program} {w : World} {K : PySem.W.Frag} {tg : Expr} (it : Addr) (x : Str) (t : Tok) (ty : String)
    (hty : ["enumerate", "zip", "dict_itemiterator", "dict_reverseitemiterator", "odict_iterator", "itertools.zip_longest", "itertools.pairwise"].contains ty = false)
    (W : ∀ A : Around, A.handled = none → Walks P w A it [it] [it] x.cps.size (SignAt x) fun i h => h.IsStrIter it ty x t i)
    (hself : ∀ (A : Around) (i : Nat) (s : Shared) (Q : Value → Shared → Prop) (E : Value → Shared → Prop), s.heap.IsStrIter it ty x t i → Q (.ref it) s → wpAny (model P w) A (pyIter (.ref it)) Q E s) : Turn P w K tg (Its x) [it] it (fun i h => h.IsStrIter it ty x t i) where
  mem := by simp
  obj := fun i h st b hb => by
    have e : b = it := by simpa using hb
    subst e
    obtain ⟨o, e, c, d⟩ := st
    exact ⟨o, e, fun v z => by rw [d] at z; cases z⟩
  keep := fun i h h' st k => by
    obtain ⟨o, e, r⟩ := st
    exact ⟨o, k it (by simp) o e, r⟩
  item := by
    intro X hP hw hK hc i pins s σ H E I hf st hg
    subst hP hw hK
    obtain ⟨f0, f1, f2, f3, f4, f5⟩ := hf it (by simp)
    refine (W X.A (I.ok.hd hc)).item i s _ _ hg st fun v h' tk hv st' kk => ?_
    obtain ⟨c, u, e1, rfl⟩ := hv
    have I1 : Inv X pins σ H { s with heap := h', toks := tk } := I.turned (fun b o hb e => kk b o (by simpa using hb) e) f0 f1 f3 f4 f5
    obtain ⟨o, e, cl, d⟩ := id st'
    exact ⟨_, rfl, go_of (s := { s with heap := h', toks := tk }) e cl d hty ⟨.str ⟨#[c]⟩, H, I1, ⟨u, rfl⟩, ⟨rfl, c, e1, rfl⟩, st', fun b hb => (hf b hb).1⟩⟩
  done := by
    intro X hP hw hK hc i pins s σ H E I hf st hg
    subst hP hw hK
    obtain ⟨f0, f1, f2, f3, f4, f5⟩ := hf it (by simp)
    have hg : i = x.cps.size := hg
    subst hg
    exact (W X.A (I.ok.hd hc)).done s _ _ st fun h' tk kk => ⟨rfl, I.turned (fun b o hb e => kk b o (by simpa using hb) e) f0 f1 f3 f4 f5⟩
  self := hself
section
variable {X : Cx}
theorem all_range {bs : List Bool} : (List.range bs.length).all (fun i => bs.getD i false) = bs.all id := by
  rw [Bool.eq_iff_iff]
  simp only [List.all_eq_true, List.mem_range]
  constructor
  · intro h b hb
    obtain ⟨i, hi, e⟩ := List.mem_iff_getElem.mp hb
    have := h i hi
    rw [List.getD_eq_getElem?_getD, List.getElem?_eq_getElem hi] at this
    simp only [Option.getD_some] at this
    rw [← e]; exact this
  · intro h i hi
    rw [List.getD_eq_getElem?_getD, List.getElem?_eq_getElem hi]
    exact h _ (List.getElem_mem hi)
theorem any_range {bs : List Bool} : (List.range bs.length).any (fun i => bs.getD i false) = bs.any id := by
  rw [Bool.eq_iff_iff]
  simp only [List.any_eq_true, List.mem_range]
  constructor
  · rintro ⟨i, hi, h⟩
    rw [List.getD_eq_getElem?_getD, List.getElem?_eq_getElem hi] at h
    exact ⟨_, List.getElem_mem hi, h⟩
  · rintro ⟨b, hb, h⟩
    obtain ⟨i, hi, e⟩ := List.mem_iff_getElem.mp hb
    refine ⟨i, hi, ?_⟩
    rw [List.getD_eq_getElem?_getD, List.getElem?_eq_getElem hi]
    simp only [Option.getD_some]
    rw [e]; exact h
theorem vals_bl_get : ∀ {bs : List Bool} {us : List Value} {i : Nat} {v : Value}, Vals (bs.map V.bl) us → us[i]? = some v → v = .bool (bs.getD i false)
  | [], _, i, v, .nil, e => by simp at e
  | b :: bs, _, 0, v, .cons r t, e => by simp at e; subst e; exact r
  | b :: bs, _, i + 1, v, .cons r t, e => by
    simp at e
    have := vals_bl_get (bs := bs) t e
    simpa using this
noncomputable def rAll : List V → Hp → VK → Prop := fun xs H Q => ∃ (p : Addr) (bs : List Bool), xs = [.ref p] ∧ H p = some (.lst (bs.map V.bl)) ∧ Q (.bl (bs.all id)) H
theorem call_all (hc : X.calm = true) : CallR X (.builtin "all") rAll := by
  intro pins s σ H xs us Q I r h
  obtain ⟨p, bs, rfl, hp, q⟩ := h
  obtain ⟨u, rfl, ru⟩ := vals1 r
  cases ru
  obtain ⟨hz, its, n, rv, e⟩ := I.hok p _ hp
  refine call_all_walk (wpAny_pyIter_list (items := its.toArray) ⟨_, e, rfl, n, rfl⟩ ?_)
  refine ⟨s.heap.objs.size, _, _, _, _, _, fun i => bs.getD i false, rfl, Walks.list (A := X.A.in1) (I.ok.hd hc) s.heap.objs.size p (Nat.ne_of_lt (Heap.lt_size e)) its.toArray, ⟨⟨_, Heap.get?_push_size _ rfl, rfl, rfl⟩, ⟨_, Heap.get?_push_of_some _ e, rfl, n, rfl⟩⟩, ?_, fun h' tk hk => ?_⟩
  · intro i v s' Q' E' hv hq
    have := vals_bl_get rv (by simpa using hv)
    subst this
    exact wpAny_truthy_bool hq
  · have hl : its.toArray.size = bs.length := by have := rv.length; simpa using this.symm
    rw [hl, all_range]
    refine ⟨.bl _, H, ?_, rfl, q⟩
    exact I.kept fun b o e => hk b o (by simp; exact Nat.ne_of_lt (Heap.lt_size e)) (Heap.get?_push_of_some _ e)
noncomputable def rAny : List V → Hp → VK → Prop := fun xs H Q => ∃ (p : Addr) (bs : List Bool), xs = [.ref p] ∧ H p = some (.lst (bs.map V.bl)) ∧ Q (.bl (bs.any id)) H
theorem call_any (hc : X.calm = true) : CallR X (.builtin "any") rAny := by
  intro pins s σ H xs us Q I r h
  obtain ⟨p, bs, rfl, hp, q⟩ := h
  obtain ⟨u, rfl, ru⟩ := vals1 r
  cases ru
  obtain ⟨hz, its, n, rv, e⟩ := I.hok p _ hp
  refine call_any_walk (wpAny_pyIter_list (items := its.toArray) ⟨_, e, rfl, n, rfl⟩ ?_)
  refine ⟨s.heap.objs.size, _, _, _, _, _, fun i => bs.getD i false, rfl, Walks.list (A := X.A.in1) (I.ok.hd hc) s.heap.objs.size p (Nat.ne_of_lt (Heap.lt_size e)) its.toArray, ⟨⟨_, Heap.get?_push_size _ rfl, rfl, rfl⟩, ⟨_, Heap.get?_push_of_some _ e, rfl, n, rfl⟩⟩, ?_, fun h' tk hk => ?_⟩
  · intro i v s' Q' E' hv hq
    have := vals_bl_get rv (by simpa using hv)
    subst this
    exact wpAny_truthy_bool hq
  · have hl : its.toArray.size = bs.length := by have := rv.length; simpa using this.symm
    rw [hl, any_range]
    refine ⟨.bl _, H, ?_, rfl, q⟩
    exact I.kept fun b o e => hk b o (by simp; exact Nat.ne_of_lt (Heap.lt_size e)) (Heap.get?_push_of_some _ e)

theorem strsAre_of : ∀ {ys : List Str} {us : List Value}, Vals (ys.map V.str) us → StrsAre us ys
  | [], _, .nil => .nil
  | y :: ys, _, .cons r t => by
    obtain ⟨k, e⟩ := (show ∃ t, _ = Value.str y t from r)
    subst e
    exact .cons y k (strsAre_of t)
noncomputable def rJoin : V → List V → Hp → VK → Prop := fun x xs H Q => ∃ (sep : Str) (p : Addr) (ys : List Str), x = .str sep ∧ xs = [.ref p] ∧ H p = some (.lst (ys.map V.str)) ∧ (ys.map (·.length)).sum + ys.length * sep.length ≤ 16777216 ∧ Q (.str (Txt.join sep ys)) H
theorem mt_join : MtR X "str.join" rJoin := by
  intro pins s σ H x xs v us Q I rx r h
  obtain ⟨sep, p, ys, rfl, rfl, hp, hz, q⟩ := h
  obtain ⟨u, rfl, ru⟩ := vals1 r
  cases ru
  obtain ⟨t, rfl⟩ := rx
  obtain ⟨hz', its, n, rv, e⟩ := I.hok p _ hp
  exact join_list (items := its.toArray) ⟨_, e, rfl, n, rfl⟩ (by simpa using strsAre_of rv) hz fun t' k => ⟨.str _, H, I.tok _, ⟨_, rfl⟩, q⟩
noncomputable def rSlS : V → Option Int → Option Int → Hp → VK → Prop := fun v lo hi H Q => ∃ x, v = .str x ∧ x.length ≤ sizeLine ∧ Q (.str (Txt.slice x lo hi)) H
theorem sl_str : SlR X rSlS := by
  intro pins s σ H x v vl vu lo hi sl Q I rx hs pl pu h
  obtain ⟨z, rfl, hz, q⟩ := h
  obtain ⟨t, rfl⟩ := rx
  refine ⟨"str", _, F.slot_str_getitem.lookup, typeIs_str _ _ _, ?_⟩
  have fin : ∀ (t' k : Nat), EP X pins σ Q (.str (Txt.slice z lo hi) t') { s with toks := k } := fun t' k => ⟨.str _, H, I.tok _, ⟨_, rfl⟩, q⟩
  have sz := Nat.le_trans (Txt.slice_le z lo hi) hz
  obtain ⟨o, ho, hc, hd⟩ := hs
  cases pl with
  | none =>
    cases pu with
    | none => exact wpAny_getItem_str_slice (l := none) (u := none) (st := none) ⟨o, ho, hc, hd⟩ rfl (post_val_or_str ⟨sz, fin⟩)
    | int j tj => exact wpAny_getItem_str_slice (l := none) (u := some (j, tj)) (st := none) ⟨o, ho, hc, hd⟩ rfl (post_val_or_str ⟨sz, fin⟩)
  | int i ti =>
    cases pu with
    | none => exact wpAny_getItem_str_slice (l := some (i, ti)) (u := none) (st := none) ⟨o, ho, hc, hd⟩ rfl (post_val_or_str ⟨sz, fin⟩)
    | int j tj => exact wpAny_getItem_str_slice (l := some (i, ti)) (u := some (j, tj)) (st := none) ⟨o, ho, hc, hd⟩ rfl (post_val_or_str ⟨sz, fin⟩)
noncomputable def rMulS : R2 := fun x y H Q => ∃ i n, x = .str i ∧ y = .int n ∧ MulOk i n ∧ Q (.str (Txt.mul i n)) H
theorem op_mul_str : OpR X (binaryOp .Mult) rMulS := by
  intro pins s σ H x y v u Q I rx ry h
  obtain ⟨i, n, rfl, rfl, hk, q⟩ := h
  obtain ⟨t, rfl⟩ := rx
  obtain ⟨t', rfl⟩ := ry
  exact SB.mul hk fun t' k => ⟨.str _, H, I.tok _, ⟨_, rfl⟩, q⟩
noncomputable def sgn (x : Str) : List V := x.cps.toList.map fun c => V.str ⟨#[c]⟩
theorem items_sgn {x : Str} {acc : Array Value} (h : ItemsOf (SignAt x) acc x.cps.size) : Vals (sgn x) acc.toList := by
  obtain ⟨h1, h2⟩ := h
  have key : ∀ (l : List Nat) (a : List Value), l.length = a.length → (∀ (j : Nat) (v : Value), a[j]? = some v → ∃ (c : Nat) (u : Tok), l[j]? = some c ∧ v = Value.str ⟨#[c]⟩ u) → Vals (l.map fun c => V.str ⟨#[c]⟩) a := by
    intro l
    induction l with
    | nil => intro a hl _; cases a with
      | nil => exact .nil
      | cons _ _ => simp at hl
    | cons c l ih =>
      intro a hl hh
      cases a with
      | nil => simp at hl
      | cons v a =>
        obtain ⟨c', u, e1, e2⟩ := hh 0 v (by simp)
        simp at e1; subst e1
        refine .cons ⟨u, e2⟩ (ih a (by simpa using hl) fun j v' e => ?_)
        obtain ⟨c', u, e1, e2⟩ := hh (j + 1) v' (by simpa using e)
        exact ⟨c', u, by simpa using e1, e2⟩
  refine key x.cps.toList acc.toList (by simp [h1]) fun j v e => ?_
  obtain ⟨c, u, e1, e2⟩ := h2 j v (by simpa using e)
  exact ⟨c, u, by simpa using e1, e2⟩
theorem call_list_S (hc : X.calm = true) : CallR X (.type "list") (fun xs H Q => ∃ x, xs = [.str x] ∧ x.cps.size ≤ sizeLine ∧ ∀ p, H p = none → Q (.ref p) (upd H p (.lst (sgn x)))) := by
  intro pins s σ H xs us Q I r h
  obtain ⟨x, rfl, hz, q⟩ := h
  obtain ⟨u, rfl, t, rfl⟩ := vals1 r
  refine call_list_str (I.ok.hd hc) x t (hn := hz) fun h' tk acc' c' hk hS hacc => ?_
  refine ⟨.ref s.heap.objs.size, _, I.laid (o := .lst (sgn x)) hk (Nat.le_refl _) ⟨by simp [sgn]; exact hz, acc'.toList, c', items_sgn hacc, by simpa using hS⟩, rfl, q _ I.fresh⟩
noncomputable def rIsi (K : PySem.W.Frag) : List V → Hp → VK → Prop := fun xs H Q => ∃ x T t b, xs = [x, .ty T] ∧ TyOf K H x t ∧ PySem.W.kitOne K t (.type T) = some b ∧ Q (.bl b) H
theorem call_isi : CallR X (.builtin "isinstance") (rIsi X.K) := by
  intro pins s σ H xs us Q I r h
  obtain ⟨x, T, t, b, rfl, ty, e, q⟩ := h
  obtain ⟨u, v, rfl, ru, rv⟩ := vals2 r
  cases rv
  exact isinst_ok I ru ty e fun tk => ⟨.bl b, H, I.tok _, rfl, q⟩

noncomputable def eqVs : List V → List V → Bool
  | [], [] => true
  | x :: xs, y :: ys => eqV x y && eqVs xs ys
  | _, _ => false
theorem eqVs_range : ∀ (xs ys : List V), xs.length = ys.length → (List.range xs.length).all (fun j => eqV (xs.getD j .non) (ys.getD j .non)) = eqVs xs ys
  | [], [], _ => rfl
  | x :: xs, y :: ys, h => by
    have ih := eqVs_range xs ys (by simpa using h)
    rw [List.length_cons, List.range_succ_eq_map, List.all_cons, List.all_map]
    simp only [eqVs]
    rw [← ih]
    rfl
  | [], y :: ys, h => by simp at h
  | x :: xs, [], h => by simp at h
theorem eqVs_len : ∀ {xs ys : List V}, xs.length ≠ ys.length → eqVs xs ys = false
  | [], [], h => absurd rfl h
  | [], y :: ys, _ => rfl
  | x :: xs, [], _ => rfl
  | x :: xs, y :: ys, h => by simp [eqVs, eqVs_len (xs := xs) (ys := ys) (by simpa using h)]
noncomputable def rEqL (K : PySem.W.Frag) (neg : Bool) : R2 := fun x y H Q => ∃ a b xs ys, x = .ref a ∧ y = .ref b ∧ SqL K H a xs ∧ SqL K H b ys ∧ xs.all flatV = true ∧ ys.all flatV = true ∧ Q (.bl (if neg then !eqVs xs ys else eqVs xs ys)) H
theorem op_eq_lst (hu : X.A.units < cLine) : OpR X (compareOp .Eq) (rEqL X.K false) := by
  intro pins s σ H x y v u Q I rx ry h
  obtain ⟨a, b, xs, ys, rfl, rfl, ha, hb, fx, fy, q⟩ := h
  cases rx
  cases ry
  obtain ⟨its, r1, p1, z1⟩ := I.list ha
  obtain ⟨jts, r2, p2, z2⟩ := I.list hb
  have l1 : its.toArray.size = xs.length := by simpa using r1.length.symm
  have l2 : jts.toArray.size = ys.length := by simpa using r2.length.symm
  by_cases hl : xs.length = ys.length
  · refine SeqAt.eq_listAt (e := fun j => eqV (xs.getD j .non) (ys.getD j .non)) p1.isList p2.isList (by rw [l1, l2]; exact hl) hu (fun j h1 h2 => ?_) ?_
    · have h1' : j < xs.length := by omega
      have h2' : j < ys.length := by omega
      obtain ⟨u1, e1, q1⟩ := r1.get (List.getElem?_eq_getElem h1')
      obtain ⟨u2, e2, q2⟩ := r2.get (List.getElem?_eq_getElem h2')
      have e1' : its.toArray[j] = u1 := by
        have := List.getElem?_eq_some_iff.mp e1
        obtain ⟨_, z⟩ := this
        simpa using z
      have e2' : jts.toArray[j] = u2 := by
        have := List.getElem?_eq_some_iff.mp e2
        obtain ⟨_, z⟩ := this
        simpa using z
      rw [e1', e2']
      have g1 : xs.getD j .non = xs[j] := by rw [List.getD_eq_getElem?_getD, List.getElem?_eq_getElem h1']; rfl
      have g2 : ys.getD j .non = ys[j] := by rw [List.getD_eq_getElem?_getD, List.getElem?_eq_getElem h2']; rfl
      show SeqAt.EqAt X.A.in1 s u1 u2 (eqV (xs.getD j .non) (ys.getD j .non))
      rw [g1, g2]
      exact eqAt_V q1 q2 (List.all_eq_true.mp fx _ (List.getElem_mem h1')) (List.all_eq_true.mp fy _ (List.getElem_mem h2'))
    · rw [l1, eqVs_range xs ys hl]
      exact ⟨.bl _, H, I, rfl, q⟩
  · refine SeqAt.eq_list_lengthsAt p1.isList p2.isList (by rw [l1, l2]; simpa using hl) hu ?_
    rw [if_neg (by simp), eqVs_len hl] at q
    exact ⟨.bl false, H, I, rfl, q⟩
end
end L2

namespace L2
open PySem PySem.Spec PyProof.Rows

noncomputable def Def (K : PySem.W.Frag) (mg : Str → Option Value) (x : Str) (st : Stmt) : Prop := ∃ f fd, Fun K x x st f fd ∧ mg x = some (.ref f)
theorem def_mk {K : PySem.W.Frag} {mg : Str → Option Value} {h : Heap} (X : K.In h) (G : h.Ns mainGlobals mg) {x : Str} {st : Stmt} {f : Addr} {oc : Value} {od an : Option Addr} {osl : Array (Option Value)} {kV doc pm cdv ct : Value}
    (a : PySem.W.nsIn K mainGlobals x = some (some (.ref f)))
    (l : K.lookup f = some ⟨oc, od, .func (PySem.W.fnOf x x (defArgs st) (defBody st) (defScope st) .none kV doc pm an cdv ct), osl⟩)
    (c : PySem.W.codeIn K cdv x = true) (k : PySem.W.keepIn K (.ref f) = true) : Def K mg x st := ⟨f, _, fun_mk l c k, PySem.W.mg_of X G a⟩
noncomputable def Has (P : Program) (w : World) (K : PySem.W.Frag) (mg : Str → Option Value) (base : Heap) (k : Nat) (x : Str) (ps : List Str) (sp : Sp) : Prop :=
  ∃ f fd, mg x = some (.ref f) ∧ PySem.W.keepIn K (.ref f) = true ∧ Binds K fd ps [] ∧ FnOk P w K mg base CX0 k f fd ps sp
section
variable {P : Program} {w : World} {K : PySem.W.Frag} {mg : Str → Option Value} {base : Heap}
theorem has_of {x : Str} {st : Stmt} {N ps : List Str} {k : Nat} {sp : Sp} (D : Def K mg x st) (S : FnScope N ps (defScope st))
    (hb : ∀ (kV doc pm : Value) (an : Option Addr) (cdv ct : Value) (us : List Value), us.length = ps.length → bindArgs (PySem.W.fnOf x x (defArgs st) (defBody st) (defScope st) .none kV doc pm an cdv ct) ⟨us, []⟩ = pure (ps.zip us))
    (len : ∀ vs H Q E, sp vs H Q E → vs.length = ps.length)
    (hbody : ∀ (f : Addr) (cdv : Value) (A : Around) (outer : List Env) (s : Shared) (H : Hp) (vs : List V) (Q : VK) (E : XK), Room k (A.deeper (envOfC x (defScope st) s.heap.objs.size f cdv)) → sp vs H Q E →
      ∃ t, PSs (cxOf CX0 P w K mg base N x (defScope st) f cdv A outer s H E).nox (defBody st) t ∧ t { nx := fun _ H' => Q .non H', rt := Q } (start N vs) H) : Has P w K mg base (k + 1) x ps sp := by
  obtain ⟨f, fd, F, hm⟩ := D
  exact ⟨f, fd, hm, F.kp, F.binds hb, F.ok S len fun cdv A outer s H vs Q E hr h => hbody f cdv A outer s H vs Q E hr h⟩
end
section
variable {X : Cx}
theorem pe_callH {k : Nat} {x : Str} {ps : List Str} {sp : Sp} {p pos : Pos} {e : Expr} {es : List Expr} {t : TA} (F : Has X.prog X.w X.K X.mg X.base k x ps sp) (hr : Room k X.A) (hg : Gl X x)
    (ha : PA X (e :: es) t) (hdb : autoParam ((x == ("__debug__" : Str)) = false) L2.auto2._auto_1) (he : autoParam (starEach (e :: es) X.env = (false, eval e X.env) :: starEach es X.env) L2.auto4._auto_1) (hpl : autoParam ((backTo pos (starEach es X.env)).any (·.1) = false) L2.auto4._auto_1) :
    PE X (.Call (.Name x p) (e :: es) [] pos) (tCall sp [] E0 t) := by
  obtain ⟨f, fd, a, b, c, d⟩ := F
  exact pe_call d hr hg a b c .nil pass0 ha hdb he hpl
noncomputable def rAddA : R2 := fun x y H Q => (∃ i j, x = .int i ∧ y = .int j ∧ Q (.int (i + j)) H) ∨ (∃ i j, x = .str i ∧ y = .str j ∧ i.length + j.length ≤ sizeLine ∧ Q (.str (i ++ j)) H) ∨ rCat x y H Q
theorem op_addA : OpR X (binaryOp .Add) rAddA := op_add.or (op_add_str.or op_cat)
noncomputable def rMulA : R2 := fun x y H Q => (∃ i j, x = .int i ∧ y = .int j ∧ CMul i j ∧ Q (.int (i * j)) H) ∨ rMulS x y H Q ∨ rRep x y H Q
theorem op_mulA : OpR X (binaryOp .Mult) rMulA := op_mul.or (op_mul_str.or op_rep)
theorem glob_str {x : Str} {z : Str} {pos : Pos} (hg : Gl X x) (hm : ∃ t, X.mg x = some (.str z t)) (hd : autoParam ((x == ("__debug__" : Str)) = false) L2.auto2._auto_1) : PE X (.Name x pos) (tC (.str z)) :=
  let ⟨t, e⟩ := hm; pe_glob hg e ⟨t, rfl⟩ hd
theorem glob_int {x : Str} {z : Int} {pos : Pos} (hg : Gl X x) (hm : ∃ t, X.mg x = some (.int z t)) (hd : autoParam ((x == ("__debug__" : Str)) = false) L2.auto2._auto_1) : PE X (.Name x pos) (tC (.int z)) :=
  let ⟨t, e⟩ := hm; pe_glob hg e ⟨t, rfl⟩ hd
theorem pe_ty {x : Str} {T : String} {pos : Pos} (hg : Gl X x) (hm : X.mg x = none) (hv : bootBuiltins x = some (.type T)) (hn : autoParam (x ≠ "__name__") L2.auto2._auto_1) (hd : autoParam ((x == ("__debug__" : Str)) = false) L2.auto2._auto_1) : PE X (.Name x pos) (tC (.ty T)) :=
  pe_bltn hg hm hv rfl hn hd
noncomputable def rInA (K : PySem.W.Frag) : R2 := fun x y H Q => (∃ i j, x = .str i ∧ y = .str j ∧ Q (.bl (!(Builtin.Str.occurrences j i 0 j.length 1).isEmpty)) H) ∨ rIn K false x y H Q
theorem op_inA : OpR X (compareOp .In) (rInA X.K) := op_in_str.or op_in_seq
noncomputable def rEqA (K : PySem.W.Frag) : R2 := fun x y H Q => rEq x y H Q ∨ rEqL K false x y H Q
theorem op_eqA (hu : X.A.units < cLine) : OpR X (compareOp .Eq) (rEqA X.K) := op_eq.or (op_eq_lst hu)
noncomputable def rSl (K : PySem.W.Frag) : V → Option Int → Option Int → Hp → VK → Prop := fun x lo hi H Q => rSlL K x lo hi H Q ∨ rSlT K x lo hi H Q ∨ rSlS x lo hi H Q
theorem sl_seq : SlR X (rSl X.K) := sl_list.or (sl_tup.or sl_str)
noncomputable def iSeq (K : PySem.W.Frag) (tl : TE) : TI := fun σ H R => tl σ H fun x H1 => (∃ a, x = .ref a ∧ (∃ xs, SqL K H1 a xs) ∧ R (Itl K a) H1) ∨ (∃ a, x = .ref a ∧ (∃ xs, SqT K H1 a xs) ∧ R (Itt K a) H1) ∨ (∃ z, x = .str z ∧ R (Its z) H1)
theorem pi_seq {tg l : Expr} {tl : TE} (hl : PE X l tl) : PI X tg l (iSeq X.K tl) := by
  intro pins s σ H R I h
  refine thn (hl pins s σ H _ I h) fun v s1 qq0 => ?_
  obtain ⟨x, H1, I1, r1, q1⟩ := qq0
  rcases q1 with ⟨a, rfl, ⟨xs, hq⟩, q⟩ | ⟨a, rfl, ⟨xs, hq⟩, q⟩ | ⟨z, rfl, q⟩
  · cases r1
    obtain ⟨its, rv, p, hz⟩ := I1.list hq
    refine wpAny_pyIter_list p.isList ?_
    refine ⟨s1.heap.objs.size, [s1.heap.objs.size], _, _, H1, rfl, I1.kept (t' := s1.toks) fun b o e => Heap.get?_push_of_some _ e, turn_list a _, ⟨_, Heap.get?_push_size _ rfl, rfl, rfl⟩, fun b hb => ?_, q⟩
    have e : b = s1.heap.objs.size := by simpa using hb
    subst e
    exact I1.fpOk (Nat.le_refl _) (I1.hok.fresh (Nat.le_refl _))
  · cases r1
    obtain ⟨its, rv, p, hz⟩ := I1.tuple hq
    refine wpAny_pyIter_tuple (show s1.heap.IsTuple a its.toArray from p) ?_
    refine ⟨s1.heap.objs.size, [s1.heap.objs.size], _, _, H1, rfl, I1.kept (t' := s1.toks) fun b o e => Heap.get?_push_of_some _ e, turn_tuple a _, ⟨_, Heap.get?_push_size _ rfl, rfl, rfl⟩, fun b hb => ?_, q⟩
    have e : b = s1.heap.objs.size := by simpa using hb
    subst e
    exact I1.fpOk (Nat.le_refl _) (I1.hok.fresh (Nat.le_refl _))
  · obtain ⟨t, rfl⟩ := r1
    have fin : ∀ (ty : String) (T : Turn X.prog X.w X.K tg (Its z) [s1.heap.objs.size] s1.heap.objs.size (fun i h => h.IsStrIter s1.heap.objs.size ty z t i)) (o : Obj), (s1.heap.push o).IsStrIter s1.heap.objs.size ty z t 0 → PIE X pins σ tg R (.ref s1.heap.objs.size) { s1 with heap := s1.heap.push o } :=
      fun ty T o st => ⟨s1.heap.objs.size, [s1.heap.objs.size], _, _, H1, rfl, I1.kept (t' := s1.toks) fun b o e => Heap.get?_push_of_some _ e, T, st, fun b hb => by
        have e : b = s1.heap.objs.size := by simpa using hb
        subst e
        exact I1.fpOk (Nat.le_refl _) (I1.hok.fresh (Nat.le_refl _)), q⟩
    cases ha : z.cps.all (· < 128)
    · exact wpAny_pyIter_wide ha (fin "str_iterator" (turn_str _ z t _ (by decide) (fun A' hA => Walks.strWide hA _ z t) fun A i s Q E st h => wpAny_pyIter_striter_wide st h) _ ⟨_, Heap.get?_push_size _ rfl, rfl, rfl⟩)
    · exact wpAny_pyIter_ascii ha (fin "str_ascii_iterator" (turn_str _ z t _ (by decide) (fun A' hA => Walks.strAscii hA _ z t) fun A i s Q E st h => wpAny_pyIter_striter_ascii st h) _ ⟨_, Heap.get?_push_size _ rfl, rfl, rfl⟩)
end
section
variable {X : Cx} {K : PySem.W.Frag}
theorem ix_seqK (hK : X.K = K) : IxR X (rIx K) := hK ▸ ix_seq
theorem op_inK (hK : X.K = K) : OpR X (compareOp .In) (rInA K) := hK ▸ op_inA
theorem op_eqK (hK : X.K = K) (hu : X.A.units < cLine) : OpR X (compareOp .Eq) (rEqA K) := hK ▸ op_eqA hu
theorem sl_seqK (hK : X.K = K) : SlR X (rSl K) := hK ▸ sl_seq
theorem pi_seqK {tg l : Expr} {tl : TE} (hK : X.K = K) (hl : PE X l tl) : PI X tg l (iSeq K tl) := hK ▸ pi_seq hl
noncomputable def rLen (K : PySem.W.Frag) : List V → Hp → VK → Prop := fun xs H Q => ∃ x n, xs = [x] ∧ LenV K x H n ∧ Q (.int n) H
theorem call_lenK (hK : X.K = K) : CallR X (.builtin "len") (rLen K) := hK ▸ call_len
theorem call_isiK (hK : X.K = K) : CallR X (.builtin "isinstance") (rIsi K) := hK ▸ call_isi
noncomputable def rListA (K : PySem.W.Frag) : List V → Hp → VK → Prop := fun xs H Q => (∃ p ys, xs = [.ref p] ∧ (SqL K H p ys ∨ SqT K H p ys) ∧ ∀ l, H l = none → Q (.ref l) (upd H l (.lst ys))) ∨ (∃ x, xs = [.str x] ∧ x.cps.size ≤ sizeLine ∧ ∀ p, H p = none → Q (.ref p) (upd H p (.lst (sgn x))))
theorem call_listK (hK : X.K = K) (hc : X.calm = true) : CallR X (.type "list") (rListA K) := hK ▸ call_list_of.or (call_list_S hc)
variable {o e : Expr} {es : List Expr} {to : TE} {t : TA} {name : Str} {apos cpos : Pos} {T id : String} {r : V → List V → Hp → VK → Prop}
theorem pe_bmK (hK : X.K = K) (pa : PlainAttrs T) (slot : Slot T name id) (hty : typeOf (.builtin id) = pure (.type "method_descriptor")) (hm : MtR X id r) (ho : PE X o to) (ha : PA X (e :: es) t)
    (hbase : autoParam (attributeBase o name X.env (eval o X.env) = eval o X.env) L2.auto4._auto_1)
    (hfew : ((backTo cpos (starEach (e :: es) X.env)).all (fun x => !x.1) && (backToKw cpos (keywordEach [] X.env)).all (fun x => x.1.isSome)
      && decide ((e :: es).length + ([] : List Keyword).length + (if ([] : List Keyword).isEmpty then 0 else 1) < 30)) = true := by rfl)
    (hline : autoParam ((apos.endLine == cpos.line) = true) L2.auto4._auto_1) (hs : autoParam (starEach (e :: es) X.env = (false, eval e X.env) :: starEach es X.env) L2.auto4._auto_1) (hplain : autoParam ((backTo cpos (starEach es X.env)).any (·.1) = false) L2.auto4._auto_1) :
    PE X (.Call (.Attribute o name apos) (e :: es) [] cpos) (tBM K T r to t) := by
  subst hK; exact pe_bm pa slot hty hm ho ha hbase hfew hline hs hplain
theorem pg_tupK {ts : List Expr} {k : Nat} {gs : TGs} {n : Nat} {pos : Pos} (hK : X.K = K) (hc : X.calm = true) (h : PGs X ts gs)
    (hn : autoParam ((assignEach ts X.env).length = n) L2.auto4._auto_1) (hst : autoParam ((assignEach ts X.env).findIdx? (·.1) = none) L2.auto4._auto_1) : PG X (.Tuple ts k pos) (gTup K n gs) := by
  subst hK; exact pg_tup hc h hn hst
end
section
variable {X : Cx} {sc scope : Scope} {N' : List Str} {C : Addr} {s₀ : Shared} {H₀ : Hp} {ex : List Addr} {x : Str} {pos : Pos}
theorem pvL (i : Nat) (h : sc.names.lookup x = some .local) (hN : autoParam (X.N[i]? = some x) L2.auto4._auto_1) (hsc : autoParam (X.env.scope = sc) L2.auto4._auto_1) (hd : autoParam ((x == ("__debug__" : Str)) = false) L2.auto6._auto_1) (hcd : autoParam ((x == ("__classdict__" : Str)) = false) L2.auto6._auto_1) :
    PE X (.Name x pos) (tVar i) := pe_var hN (.inl (by rw [hsc]; exact h)) hd hcd
theorem pvC (i : Nat) (h : sc.names.lookup x = some .cell) (hN : autoParam (X.N[i]? = some x) L2.auto4._auto_1) (hsc : autoParam (X.env.scope = sc) L2.auto4._auto_1) (hd : autoParam ((x == ("__debug__" : Str)) = false) L2.auto6._auto_1) (hcd : autoParam ((x == ("__classdict__" : Str)) = false) L2.auto6._auto_1) :
    PE X (.Name x pos) (tVar i) := pe_var hN (.inr (.inl (by rw [hsc]; exact h))) hd hcd
theorem pvBL (i : Nat) (h : scope.names.lookup x = some .local) (hN : autoParam (N'[i]? = some x) L2.auto4._auto_1) (hd : autoParam ((x == ("__debug__" : Str)) = false) L2.auto6._auto_1) (hcd : autoParam ((x == ("__classdict__" : Str)) = false) L2.auto6._auto_1) :
    PE (cxC X N' scope C s₀ H₀ ex) (.Name x pos) (tVar i) := pe_var hN (.inl (lookup_relabel_local h)) hd hcd
theorem pvBF (i : Nat) (h : scope.names.lookup x = some .free) (hN : autoParam (N'[i]? = some x) L2.auto4._auto_1) (hd : autoParam ((x == ("__debug__" : Str)) = false) L2.auto6._auto_1) (hcd : autoParam ((x == ("__classdict__" : Str)) = false) L2.auto6._auto_1) :
    PE (cxC X N' scope C s₀ H₀ ex) (.Name x pos) (tVar i) := pe_var hN (by
      rcases relabel_free (env := X.env) h with z | z
      · exact .inr (.inl z)
      · exact .inr (.inr z)) hd hcd
theorem glF (h : sc.names.lookup x = some .globalImplicit) (hsc : autoParam (X.env.scope = sc) L2.auto4._auto_1) : Gl X x := by
  show X.env.scope.names.lookup x = _
  rw [hsc]; exact h
theorem lookup_relabel_glob {env : Env} : ∀ {names : List (Str × NameKind)} {x : Str}, names.lookup x = some .globalImplicit →
    (names.map fun (n, k) => if (k == NameKind.free && env.scope.kind == .function && env.kindOf n == some .cell) then (n, NameKind.cell) else (n, k)).lookup x = some .globalImplicit
  | [], _, h => by simp at h
  | (n, k) :: r, x, h => by
    have ih := @lookup_relabel_glob env r x
    show List.lookup x ((if (k == NameKind.free && env.scope.kind == .function && env.kindOf n == some .cell) = true then (n, NameKind.cell) else (n, k)) :: _) = _
    cases hx : x == n with
    | true =>
      simp only [List.lookup_cons, hx] at h
      cases h
      simp [List.lookup_cons, hx]
    | false =>
      simp only [List.lookup_cons, hx] at h
      by_cases hc : (k == NameKind.free && env.scope.kind == .function && env.kindOf n == some .cell) = true
      · rw [if_pos hc]; simp only [List.lookup_cons, hx]; exact ih h
      · rw [if_neg hc]; simp only [List.lookup_cons, hx]; exact ih h
theorem glB (h : scope.names.lookup x = some .globalImplicit) : Gl (cxC X N' scope C s₀ H₀ ex) x := lookup_relabel_glob h
theorem pgB (i : Nat) (h : scope.names.lookup x = some .local) (hN : N'.Nodup) (hi : autoParam (N'[i]? = some x) L2.auto4._auto_1) : PG (cxC X N' scope C s₀ H₀ ex) (.Name x pos) (gName i) :=
  pg_name hN hi (.inl (lookup_relabel_local h)) (.inr (lookup_relabel_local h))
end
noncomputable def notComp : Expr → Bool
  | .ListComp .. => false | .SetComp .. => false | .DictComp .. => false | _ => true
theorem sw_no {value : Expr} {target : Option Expr} {line : Nat} {env : Env} (h : notComp value = true) : swapsWith value target line env = pure false := by
  cases value <;> first | rfl | cases h
noncomputable def notSlice : Expr → Bool
  | .Slice .. => false | _ => true
theorem pix {b : Expr} (h : notSlice b = true) : PlainIx b := by
  intro o i
  cases b <;> first | rfl | cases h
noncomputable def notSet : Expr → Bool
  | .Set .. => false | _ => true
theorem fs_no {e : Expr} {env : Env} (h : notSet e = true) : ∀ x, foldedSetIterable e env x = pure x := by
  intro x
  cases e <;> first | rfl | cases h
noncomputable def notStar : Expr → Bool
  | .Starred .. => false | _ => true
theorem se_cons {e : Expr} {es : List Expr} {env : Env} (h : notStar e = true) : starEach (e :: es) env = (false, eval e env) :: starEach es env := by
  cases e <;> first | rfl | cases h
theorem se_any {env : Env} {pos : Pos} : ∀ {es : List Expr}, es.all notStar = true → (backTo pos (starEach es env)).any (·.1) = false
  | [], _ => rfl
  | e :: es, h => by
    simp only [List.all_cons, Bool.and_eq_true] at h
    rw [se_cons h.1]
    show (false || (backTo pos (starEach es env)).any (·.1)) = false
    rw [se_any h.2]; rfl
theorem se_all {env : Env} {pos : Pos} : ∀ {es : List Expr}, es.all notStar = true → (backTo pos (starEach es env)).all (fun x => !x.1) = true
  | [], _ => rfl
  | e :: es, h => by
    simp only [List.all_cons, Bool.and_eq_true] at h
    rw [se_cons h.1]
    show (true && (backTo pos (starEach es env)).all (fun x => !x.1)) = true
    rw [se_all h.2]; rfl
section
variable {X : Cx} {K : PySem.W.Frag} {e : Expr} {es : List Expr} {te : TE} {t : TA} {pos p : Pos}
theorem paC (ha : PE X e te) (hr : PA X es t) (h : autoParam (notStar e = true) L2.auto4._auto_1) : PA X (e :: es) (tCons te t) := pa_cons ha hr (se_cons h)
theorem callH {k : Nat} {x : Str} {ps : List Str} {sp : Sp} (F : Has X.prog X.w X.K X.mg X.base k x ps sp) (hr : Room k X.A) (hg : Gl X x) (ha : PA X (e :: es) t) (hdb : (x == ("__debug__" : Str)) = false) (h : autoParam ((e :: es).all notStar = true) L2.auto4._auto_1) :
    PE X (.Call (.Name x p) (e :: es) [] pos) (tCall sp [] E0 t) := by
  simp only [List.all_cons, Bool.and_eq_true] at h
  exact pe_callH F hr hg ha hdb (se_cons h.1) (se_any h.2)
theorem callB {x : Str} {id : String} {r : List V → Hp → VK → Prop} (hc : CallR X (.builtin id) r) (hg : Gl X x) (hm : X.mg x = none) (hv : bootBuiltins x = some (.builtin id)) (ha : PA X (e :: es) t) (hn : x ≠ "__name__") (hdb : (x == ("__debug__" : Str)) = false) (h : autoParam ((e :: es).all notStar = true) L2.auto4._auto_1) :
    PE X (.Call (.Name x p) (e :: es) [] pos) (tCB r t) := by
  simp only [List.all_cons, Bool.and_eq_true] at h
  exact pe_callB hc hg hm hv ha hn hdb (se_cons h.1) (se_any h.2)
theorem callTy {x : Str} {T : String} {r : List V → Hp → VK → Prop} (hc : CallR X (.type T) r) (hg : Gl X x) (hm : X.mg x = none) (hv : bootBuiltins x = some (.type T)) (ha : PA X (e :: es) t) (hn : x ≠ "__name__") (hdb : (x == ("__debug__" : Str)) = false) (h : autoParam ((e :: es).all notStar = true) L2.auto4._auto_1) :
    PE X (.Call (.Name x p) (e :: es) [] pos) (tCB r t) := by
  simp only [List.all_cons, Bool.and_eq_true] at h
  exact pe_callTy hc hg hm hv ha hn hdb (se_cons h.1) (se_any h.2)
noncomputable def notCall : Expr → Bool
  | .Call .. => false | _ => true
theorem ab_no {o : Expr} {f : Str} {env : Env} {w : Sem Value} (h : notCall o = true) : attributeBase o f env w = w := by
  cases o <;> first | rfl | cases h
theorem methK {o : Expr} {to : TE} {name : Str} {apos cpos : Pos} {T id : String} {r : V → List V → Hp → VK → Prop} (hK : X.K = K) (pa : PlainAttrs T) (slot : Slot T name id) (hty : typeOf (.builtin id) = pure (.type "method_descriptor")) (hm : MtR X id r) (ho : PE X o to) (ha : PA X (e :: es) t)
    (hbase : autoParam (notCall o = true) L2.auto4._auto_1) (hl : autoParam (es.length < 20) L2.auto2._auto_1) (hline : autoParam ((apos.endLine == cpos.line) = true) L2.auto4._auto_1) (h : autoParam ((e :: es).all notStar = true) L2.auto4._auto_1) :
    PE X (.Call (.Attribute o name apos) (e :: es) [] cpos) (tBM K T r to t) := by
  have hA := se_all (env := X.env) (pos := cpos) h
  simp only [List.all_cons, Bool.and_eq_true] at h
  refine pe_bmK hK pa slot hty hm ho ha (ab_no hbase) ?_ hline (se_cons h.1) (se_any h.2)
  rw [hA]
  have : (e :: es).length + ([] : List Keyword).length + (if ([] : List Keyword).isEmpty then 0 else 1) < 30 := by simp; omega
  rw [decide_eq_true this]; rfl
theorem psSet {i : Nat} {x : Str} {pos' : Pos} (hN : X.N.Nodup) (hi : X.N[i]? = some x) (hx : Loc X.env.scope x) (he : PE X e te) (hf : X.fn x = true) (h : autoParam (notComp e = true) L2.auto4._auto_1) : PS X (.Assign [.Name x pos'] e pos) (tAsg te (gName i)) :=
  ps_set hN hi hx he (sw_no h) (.inl hf)
theorem psExpr (he : PE X e te) (h : autoParam (notComp e = true) L2.auto4._auto_1) : PS X (.Expr e pos) (tDrop te) := ps_expr he (sw_no h)
theorem ixE {a b : Expr} {ta tb : TE} (hK : X.K = K) (ha : PE X a ta) (hb : PE X b tb) (h : autoParam (notSlice b = true) L2.auto4._auto_1) : PE X (.Subscript a b pos) (tOp (rIx K) ta tb) := pe_ix (ix_seqK hK) ha hb (pix h)
theorem psFor {tg iter : Expr} {body : List Stmt} {wi : TI} {g : TG} {tb : TS} (hp : PassesOwn (model X.prog X.w) X.A X.env X.xe) (hc : X.calm = true) (hi : PI X tg iter wi) (hg : PG X tg g) (hb : PSs X body tb) (h : autoParam (notSet iter = true) L2.auto4._auto_1) : PS X (.For tg iter body [] pos) (tFor wi g tb) :=
  ps_for hp hc hi hg hb (fs_no h)
end
section
variable {X : Cx} {tg iter elt : Expr} {ifs : List Expr} {scope : Scope} {pos : Pos} {N' : List Str} {sub : List (Option Nat)} {wi : TI} {g : TG} {tt : TT} {te : TE} {N : List Str} {sc : Scope}
theorem compE (S : SubOk N sc N' scope sub) (hc : X.calm = true) (hN : X.N = N) (hsc : X.env.scope = sc) (hi : PI X tg iter wi)
    (hg : ∀ (C : Addr) (s₀ : Shared) (H₀ : Hp) (ex : List Addr), PG (cxC X N' scope C s₀ H₀ ex) tg g)
    (ht : ∀ (C : Addr) (s₀ : Shared) (H₀ : Hp) (ex : List Addr), PIfs (cxC X N' scope C s₀ H₀ ex) ifs tt)
    (he : ∀ (C : Addr) (s₀ : Shared) (H₀ : Hp) (ex : List Addr), PE (cxC X N' scope C s₀ H₀ ex) elt te) (h : autoParam (notSet iter = true) L2.auto4._auto_1) :
    PE X (.ListComp elt [⟨tg, iter, ifs, 0⟩] scope pos) (tComp sub wi g tt te) := pe_comp S hc hN hsc hi hg ht he (fs_no h)
end
theorem bt_len : bootBuiltins "len" = some (.builtin "len") := by decide +kernel
theorem bt_max : bootBuiltins "max" = some (.builtin "max") := by decide +kernel
theorem bt_isinstance : bootBuiltins "isinstance" = some (.builtin "isinstance") := by decide +kernel
theorem bt_all : bootBuiltins "all" = some (.builtin "all") := by decide +kernel
theorem bt_any : bootBuiltins "any" = some (.builtin "any") := by decide +kernel
theorem bt_sorted : bootBuiltins "sorted" = some (.builtin "sorted") := by decide +kernel
theorem bt_list : bootBuiltins "list" = some (.type "list") := by decide +kernel
theorem bt_tuple : bootBuiltins "tuple" = some (.type "tuple") := by decide +kernel
theorem bt_int : bootBuiltins "int" = some (.type "int") := by decide +kernel
theorem bt_str : bootBuiltins "str" = some (.type "str") := by decide +kernel
theorem bt_enumerate : bootBuiltins "enumerate" = some (.type "enumerate") := by decide +kernel
theorem bt_bool : bootBuiltins "bool" = some (.type "bool") := by decide +kernel
theorem iteD {c A B : Prop} [Decidable c] (h1 : c → A) (h2 : ¬ c → B) : if decide c = true then A else B := by
  by_cases h : c
  · rw [if_pos (decide_eq_true h)]; exact h1 h
  · rw [if_neg (by rw [decide_eq_false h]; exact Bool.false_ne_true)]; exact h2 h
theorem atI_int {α : Type} {xs : List α} {k : Int} {v : α} (h0 : 0 ≤ k) (h : xs[k.toNat]? = some v) : atI xs k = some v := by
  have e : ((k.toNat : Nat) : Int) = k := by omega
  rw [← e]
  exact atI_nat h
end L2

namespace L2
open PySem PySem.Spec PyProof.Rows
section
variable {σ : St} {H : Hp} {D : Ends} {ta tb te tc : TE} {tt tu : TT} {Q : VK} {t u : TS} {g : TG}
theorem r_seq (h : t { D with nx := u D } σ H) : tSeq t u D σ H := h
theorem r_next (h : D.nx σ H) : tNext D σ H := h
theorem r_asg (h : te σ H fun x H1 => g x σ H1 D.nx) : tAsg te g D σ H := h
theorem r_name {i : Nat} {v : V} {R : St → Hp → Prop} (h : R (σ.set i (some v)) H) : gName i v σ H R := h
theorem r_sub {to ti : TE} {ts : TSet} {v : V} {R : St → Hp → Prop} (h : to σ H fun o H1 => ti σ H1 fun i H2 => ts o i v H2 fun H3 => R σ H3) : gSub to ti ts v σ H R := h
theorem r_ret (h : te σ H D.rt) : tRet te D σ H := h
theorem r_drop (h : te σ H fun _ H1 => D.nx σ H1) : tDrop te D σ H := h
theorem r_if (h : tt σ H fun b H1 => if b = true then t D σ H1 else u D σ H1) : tIfS tt t u D σ H := h
theorem r_test {R : Bool → Hp → Prop} (h : te σ H fun x H1 => ∃ k, x = .bl k ∧ R k H1) : tTest te σ H R := h
theorem r_tb {R : Bool → Hp → Prop} (h : te σ H fun x H1 => ∃ k, x = .bl k ∧ R k H1) : tB te σ H R := h
theorem r_not {R : Bool → Hp → Prop} (h : tt σ H fun c H1 => R (!c) H1) : tNot tt σ H R := h
theorem r_and {R : Bool → Hp → Prop} (h : tt σ H fun c H1 => if c = true then tu σ H1 R else R false H1) : tAnd tt tu σ H R := h
theorem r_or {R : Bool → Hp → Prop} (h : tt σ H fun c H1 => if c = true then R true H1 else tu σ H1 R) : tOr tt tu σ H R := h
theorem r_andV (h : ta σ H fun x H1 => ∃ c, x = .bl c ∧ if c = true then tb σ H1 Q else Q (.bl false) H1) : tAndV ta tb σ H Q := h
theorem r_orV (h : ta σ H fun x H1 => ∃ c, x = .bl c ∧ if c = true then Q (.bl true) H1 else tb σ H1 Q) : tOrV ta tb σ H Q := h
theorem r_notV (h : ta σ H fun x H1 => ∃ c, x = .bl c ∧ Q (.bl (!c)) H1) : tNotV ta σ H Q := h
theorem r_var {i : Nat} {v : V} (e : σ[i]? = some (some v)) (h : Q v H) : tVar i σ H Q := ⟨v, e, h⟩
theorem r_C {v : V} (h : Q v H) : tC v σ H Q := h
theorem r_op {r : R2} (h : ta σ H fun x H1 => tb σ H1 fun y H2 => r x y H2 Q) : tOp r ta tb σ H Q := h
theorem r_un {r : V → Hp → VK → Prop} (h : ta σ H fun x H1 => r x H1 Q) : tUn r ta σ H Q := h
theorem r_cb {r : List V → Hp → VK → Prop} {a : TA} (h : a σ H fun vs H1 => r vs H1 Q) : tCB r a σ H Q := h
theorem r_cons {a : TA} {R : List V → Hp → Prop} (h : te σ H fun x H1 => a σ H1 fun xs H2 => R (x :: xs) H2) : tCons te a σ H R := h
theorem r_nil {R : List V → Hp → Prop} (h : R [] H) : tNil σ H R := h
theorem r_call {sp : Sp} {E : XK} {a : TA} (h : a σ H fun vs H1 => sp vs H1 Q E) : tCall sp [] E a σ H Q := by
  unfold tCall
  simpa only [List.append_nil] using h
theorem r_tup {a : TA} (h : a σ H fun xs H1 => xs.length ≤ sizeLine ∧ ∀ p, H1 p = none → Q (.ref p) (upd H1 p (.tup xs))) : tTup a σ H Q := h
theorem r_lst {a : TA} (h : a σ H fun xs H1 => xs.length ≤ sizeLine ∧ ∀ p, H1 p = none → Q (.ref p) (upd H1 p (.lst xs))) : tLst a σ H Q := h
theorem r_bm {K : PySem.W.Frag} {T : String} {r : V → List V → Hp → VK → Prop} {a : TA} (h : te σ H fun x H1 => tyV K T x H1 ∧ a σ H1 fun xs H2 => r x xs H2 Q) : tBM K T r te a σ H Q := h
theorem r_sl {r : V → Option Int → Option Int → Hp → VK → Prop} {tl th : TO} (h : te σ H fun x H1 => tl σ H1 fun l H2 => th σ H2 fun u H3 => r x l u H3 Q) : tSl r te tl th σ H Q := h
theorem r_nop {R : Option Int → Hp → Prop} (h : R none H) : tNoPart σ H R := h
theorem r_part {R : Option Int → Hp → Prop} (h : te σ H fun x H1 => ∃ i, x = .int i ∧ R (some i) H1) : tPart te σ H R := h
theorem r_true {R : Bool → Hp → Prop} (h : R true H) : tTrue σ H R := h
theorem r_rng1 {a : TA} {R : It → Hp → Prop} (h : a σ H fun vs H1 => ∃ j : Int, vs = [.int j] ∧ -(2 ^ 62) ≤ j ∧ j < 2 ^ 62 ∧ R (Itr 0 j.toNat) H1) : iRng1 a σ H R := h
theorem r_rng2 {a : TA} {R : It → Hp → Prop} (h : a σ H fun vs H1 => ∃ i j : Int, vs = [.int i, .int j] ∧ (-(2 ^ 62) ≤ i ∧ i < 2 ^ 62 ∧ -(2 ^ 62) ≤ j ∧ j < 2 ^ 62) ∧ R (Itr i (j - i).toNat) H1) : iRng2 a σ H R := h
theorem r_iseq {K : PySem.W.Frag} {R : It → Hp → Prop} (h : te σ H fun x H1 => (∃ a, x = .ref a ∧ (∃ xs, SqL K H1 a xs) ∧ R (Itl K a) H1) ∨ (∃ a, x = .ref a ∧ (∃ xs, SqT K H1 a xs) ∧ R (Itt K a) H1) ∨ (∃ z, x = .str z ∧ R (Its z) H1)) : iSeq K te σ H R := h
theorem r_comp {sub : List (Option Nat)} {wi : TI} (h : wi σ H fun J H1 => CompR sub g tt te σ Q J H1) : tComp sub wi g tt te σ H Q := h
theorem r_for {wi : TI} {tbd : TS} (h : wi σ H fun J H1 => ∃ W : Nat → Nat → St → Hp → Prop, (∃ m, W 0 m σ H1) ∧ ∀ i m σ H, W i m σ H →
  (J.stop i H ∧ D.nx σ H) ∨ (J.go i H ∧ ∃ N : St → Hp → Prop, (∀ σ' H', N σ' H' → ∃ m', m' < m ∧ W (i + 1) m' σ' H') ∧ ∀ x H', J.yld i H x H' → g x σ H' fun σ2 H2 => tbd { D with nx := N, ct := N, bk := D.nx } σ2 H2)) : tFor wi g tbd D σ H := h
variable {i j : Int} {x y : Str} {f : Int → Int → V} {C : Int → Int → Prop} {K : PySem.W.Frag}
theorem r_i0 (h : Q (f i j) H) : rI0 f (.int i) (.int j) H Q := ⟨_, _, rfl, rfl, h⟩
theorem r_i (c : C i j) (h : Q (f i j) H) : rI C f (.int i) (.int j) H Q := ⟨_, _, rfl, rfl, c, h⟩
theorem r_addI (h : Q (.int (i + j)) H) : rAddA (.int i) (.int j) H Q := .inl ⟨_, _, rfl, rfl, h⟩
theorem r_addS (c : x.length + y.length ≤ sizeLine) (h : Q (.str (x ++ y)) H) : rAddA (.str x) (.str y) H Q := .inr (.inl ⟨_, _, rfl, rfl, c, h⟩)
theorem r_addL {a b : Addr} {xs ys : List V} (ha : H a = some (.lst xs)) (hb : H b = some (.lst ys)) (c : xs.length + ys.length ≤ sizeLine) (h : ∀ p, H p = none → Q (.ref p) (upd H p (.lst (xs ++ ys)))) : rAddA (.ref a) (.ref b) H Q :=
  .inr (.inr ⟨a, b, xs, ys, rfl, rfl, ha, hb, c, h⟩)
theorem r_mulI (c : CMul i j) (h : Q (.int (i * j)) H) : rMulA (.int i) (.int j) H Q := .inl ⟨_, _, rfl, rfl, c, h⟩
theorem r_ixL {p : Addr} {xs : List V} {v : V} (s : SqL K H p xs) (e : atI xs i = some v) (h : Q v H) : rIx K (.ref p) (.int i) H Q := .inl ⟨p, xs, i, v, rfl, rfl, s, e, h⟩
theorem r_ixT {p : Addr} {xs : List V} {v : V} (s : SqT K H p xs) (e : atI xs i = some v) (h : Q v H) : rIx K (.ref p) (.int i) H Q := .inr (.inl ⟨p, xs, i, v, rfl, rfl, s, e, h⟩)
theorem r_ixS {c : Nat} (s : x.length ≤ sizeLine) (e : atI x.cps.toList i = some c) (h : Q (.str ⟨#[c]⟩) H) : rIx K (.str x) (.int i) H Q := .inr (.inr ⟨x, i, c, rfl, rfl, s, e, h⟩)
theorem r_setL {p : Addr} {xs : List V} {n : Nat} {v : V} {R : Hp → Prop} (hp : H p = some (.lst xs)) (e : ixN xs.length i = some n) (h : R (upd H p (.lst (xs.set n v)))) : rSetL (.ref p) (.int i) v H R := ⟨p, xs, i, n, rfl, rfl, hp, e, h⟩
theorem r_inS (h : Q (.bl (!(Builtin.Str.occurrences y x 0 y.length 1).isEmpty)) H) : rInA K (.str x) (.str y) H Q := .inl ⟨_, _, rfl, rfl, h⟩
theorem r_bl {b : Bool} {R : Bool → Prop} (h : R b) : ∃ k, V.bl b = .bl k ∧ R k := ⟨b, rfl, h⟩
theorem r_intE {n : Int} {R : Int → Prop} (h : R n) : ∃ k, V.int n = .int k ∧ R k := ⟨n, rfl, h⟩
end
theorem Same.upd {H H' : Hp} {p : Addr} {o : HO} (s : Same H H') (hn : H' p = none) : Same H (upd H' p o) := fun b u e => by
  have q := s b u e
  rw [upd_ne (fun z => by rw [z, hn] at q; cases q)]
  exact q
end L2

namespace L2
open PySem PySem.Spec PyProof.Rows
noncomputable def Chg (p : Addr) (H H' : Hp) : Prop := ∀ b o, b ≠ p → H b = some o → H' b = some o
noncomputable def Pur (H : Hp) (p : Addr) : Prop := ∃ a b c : Int, H p = some (.lst [.int a, .int b, .int c]) ∧ 0 ≤ a ∧ 0 ≤ b ∧ b < 2147483629
theorem Chg.refl (p : Addr) (H : Hp) : Chg p H H := fun _ _ _ e => e
theorem Chg.trans {p : Addr} {H H1 H2 : Hp} (a : Chg p H H1) (b : Chg p H1 H2) : Chg p H H2 := fun c o n e => b c o n (a c o n e)
theorem Chg.new {p q : Addr} {H H1 : Hp} {o : HO} (a : Chg p H H1) (hn : H1 q = none) : Chg p H (upd H1 q o) := fun b u n e => by
  have z := a b u n e
  rw [upd_ne (fun k => by rw [k, hn] at z; cases z)]
  exact z
theorem Chg.at_ {p q : Addr} {H H' : Hp} {o : HO} (a : Chg p H H') (hq : H q = some o) (hn : q ≠ p) : H' q = some o := a q o hn hq
theorem Chg.none_ {p q : Addr} {H H' : Hp} (a : Chg p H H') (hq : H' q = none) (hn : q ≠ p) : H q = none := by
  cases e : H q with
  | none => rfl
  | some o => rw [a q o hn e] at hq; cases hq
theorem Pur.ne {H : Hp} {p q : Addr} (h : Pur H p) (hq : H q = none) : q ≠ p := by
  obtain ⟨a, b, c, e, _⟩ := h
  intro z; subst z; rw [e] at hq; cases hq
theorem Pur.new {H : Hp} {p q : Addr} {o : HO} (h : Pur H p) (hq : H q = none) : Pur (upd H q o) p := by
  have n := h.ne hq
  obtain ⟨a, b, c, e, r⟩ := h
  exact ⟨a, b, c, by rw [upd_ne (Ne.symm n)]; exact e, r⟩
theorem upd_old {H : Hp} {q b : Addr} {o u : HO} (hq : H q = none) (hb : H b = some u) : upd H q o b = some u := by
  rw [upd_ne (fun z => by rw [z, hq] at hb; cases hb)]; exact hb
theorem pickI {ns : List Int} {d : Int} (h0 : 0 ≤ d) (h1 : d < ns.length) : ∃ n, n ∈ ns ∧ atI (ns.map V.int) d = some (.int n) := by
  have hl : d.toNat < ns.length := by omega
  refine ⟨ns[d.toNat], List.getElem_mem hl, atI_int h0 ?_⟩
  rw [List.getElem?_map, List.getElem?_eq_getElem hl]; rfl
theorem pickS {ns : List Str} {d : Int} (h0 : 0 ≤ d) (h1 : d < ns.length) : ∃ n, n ∈ ns ∧ atI (ns.map V.str) d = some (.str n) := by
  have hl : d.toNat < ns.length := by omega
  refine ⟨ns[d.toNat], List.getElem_mem hl, atI_int h0 ?_⟩
  rw [List.getElem?_map, List.getElem?_eq_getElem hl]; rfl
theorem pickN {ns : List Nat} {d : Int} (h0 : 0 ≤ d) (h1 : d < ns.length) : ∃ n, n ∈ ns ∧ atI ns d = some n := by
  have hl : d.toNat < ns.length := by omega
  exact ⟨ns[d.toNat], List.getElem_mem hl, atI_int h0 (List.getElem?_eq_getElem hl)⟩
theorem glued_join (sep : Str) (ys : List Str) : Txt.join sep ys = Str.join sep ys := by
  show Builtin.Str.glued sep ys = Str.join sep ys
  exact PySem.StrLaws.glued_eq_join sep ys
theorem join_cps (ys : List Str) : (Txt.join (Str.ofString "") ys).cps.toList = (ys.map fun y => y.cps.toList).flatten := by
  rw [glued_join]
  have e0 : (Str.ofString "").cps = #[] := by decide +kernel
  have key : ∀ ys : List Str, (Str.join (Str.ofString "") ys).cps.toList = (ys.map fun y => y.cps.toList).flatten := by
    intro ys
    induction ys with
    | nil => rfl
    | cons y r ih =>
      cases r with
      | nil => simp [Str.join]
      | cons z r =>
        show ((y ++ Str.ofString "") ++ Str.join (Str.ofString "") (z :: r)).cps.toList = _
        rw [Str.cps_append, Str.cps_append, e0]
        simp only [Array.append_empty, Array.toList_append, ih, List.map_cons, List.flatten_cons]
  exact key ys
theorem len_cps (x : Str) : x.length = x.cps.toList.length := by simp [Str.length]
theorem join_len {ys : List Str} (h : ∀ y ∈ ys, y.length = 1) : (Txt.join (Str.ofString "") ys).length = ys.length := by
  rw [len_cps, join_cps]
  induction ys with
  | nil => rfl
  | cons y r ih =>
    have h1 := h y (by simp)
    rw [len_cps] at h1
    simp only [List.map_cons, List.flatten_cons, List.length_append, List.length_cons, h1]
    rw [ih fun z hz => h z (by simp [hz])]
    omega
theorem sum_ones {ys : List Str} (h : ∀ y ∈ ys, y.length = 1) : (ys.map (·.length)).sum = ys.length := by
  induction ys with
  | nil => rfl
  | cons y r ih =>
    simp only [List.map_cons, List.sum_cons, List.length_cons, h y (by simp), ih fun z hz => h z (by simp [hz])]
    omega
theorem len1 (c : Nat) : (⟨#[c]⟩ : Str).length = 1 := by simp [Str.length]
section
variable {H : Hp} {Q : VK} {K : PySem.W.Frag}
theorem r_lenL {p : Addr} {xs : List V} (s : SqL K H p xs) (h : Q (.int xs.length) H) : rLen K [V.ref p] H Q := ⟨_, _, rfl, .inl ⟨_, s, rfl⟩, h⟩
theorem r_lenT {p : Addr} {xs : List V} (s : SqT K H p xs) (h : Q (.int xs.length) H) : rLen K [V.ref p] H Q := ⟨_, _, rfl, .inr ⟨_, s, rfl⟩, h⟩
theorem r_lenS {z : Str} (s : z.length ≤ sizeLine) (h : Q (.int z.length) H) : rLen K [V.str z] H Q := ⟨_, _, rfl, ⟨s, rfl⟩, h⟩
theorem r_ii {i j : Int} {R : Int → Int → Prop} (h : R i j) : ∃ a b, [V.int i, V.int j] = [.int a, .int b] ∧ R a b := ⟨_, _, rfl, h⟩
theorem r_isi {x : V} {T : String} {t : Value} {b : Bool} (ty : TyOf K H x t) (e : PySem.W.kitOne K t (.type T) = some b) (h : Q (.bl b) H) : rIsi K [x, .ty T] H Q := ⟨x, T, t, b, rfl, ty, e, h⟩
theorem r_join {sep : Str} {p : Addr} {ys : List Str} (hp : H p = some (.lst (ys.map V.str))) (hz : (ys.map (·.length)).sum + ys.length * sep.length ≤ 16777216) (h : Q (.str (Txt.join sep ys)) H) : rJoin (.str sep) [.ref p] H Q := ⟨sep, p, ys, rfl, rfl, hp, hz, h⟩
theorem r_slL {p : Addr} {xs : List V} {lo hi : Option Int} (s : SqL K H p xs) (h : ∀ q, H q = none → Q (.ref q) (upd H q (.lst (cutV xs lo hi)))) : rSl K (.ref p) lo hi H Q := .inl ⟨p, xs, rfl, s, h⟩
end
section
variable {σ : St} {H : Hp} {Q : VK}
theorem r_listL {K : PySem.W.Frag} {a : Addr} {xs : List V} (s : SqL K H a xs) (h : ∀ p, H p = none → Q (.ref p) (upd H p (.lst xs))) : rListA K [.ref a] H Q := .inl ⟨a, xs, rfl, .inl s, h⟩
end
theorem comp_rng {sub : List (Option Nat)} {g : TG} {tt : TT} {te : TE} {σ : St} {Q : VK} {H : Hp} {lo : Int} {n : Nat} (Pv : Nat → List V → Hp → Prop) (hn : n ≤ sizeLine) (h0 : Pv 0 [] H) (hl : ∀ i ys H, Pv i ys H → ys.length ≤ i)
    (hs : ∀ i ys H, i < n → Pv i ys H → g (.int (lo + i)) (subSt sub σ) H fun σ2 H2 => KeepSt (subSt sub σ) σ2 ∧ tt σ2 H2 fun b H3 => if b = true then te σ2 H3 fun y H4 => Pv (i + 1) (ys ++ [y]) H4 else Pv (i + 1) ys H3)
    (hd : ∀ ys H, Pv n ys H → ∀ D, H D = none → Q (.ref D) (upd H D (.lst ys))) : CompR sub g tt te σ Q (Itr lo n) H :=
  comp_by (n := n) Pv hn h0 hl (fun i ys H hi _ => hi) (fun ys H _ => Nat.le_refl _) (fun i ys H x H' hi p y => by
    obtain ⟨e1, e2⟩ := y
    subst e1 e2
    exact hs i ys _ hi p) hd
theorem comp_str {sub : List (Option Nat)} {g : TG} {tt : TT} {te : TE} {σ : St} {Q : VK} {H : Hp} {z : Str} (Pv : Nat → List V → Hp → Prop) (hn : z.cps.size ≤ sizeLine) (h0 : Pv 0 [] H) (hl : ∀ i ys H, Pv i ys H → ys.length ≤ i)
    (hs : ∀ i ys H c, z.cps.toList[i]? = some c → Pv i ys H → g (.str ⟨#[c]⟩) (subSt sub σ) H fun σ2 H2 => KeepSt (subSt sub σ) σ2 ∧ tt σ2 H2 fun b H3 => if b = true then te σ2 H3 fun y H4 => Pv (i + 1) (ys ++ [y]) H4 else Pv (i + 1) ys H3)
    (hd : ∀ ys H, Pv z.cps.size ys H → ∀ D, H D = none → Q (.ref D) (upd H D (.lst ys))) : CompR sub g tt te σ Q (Its z) H :=
  comp_by (n := z.cps.size) Pv hn h0 hl (fun i ys H hi _ => hi) (fun ys H _ => rfl) (fun i ys H x H' hi p y => by
    obtain ⟨e1, c, e2, e3⟩ := y
    subst e1 e3
    exact hs i ys _ c (by simpa using e2) p) hd
theorem comp_list {sub : List (Option Nat)} {g : TG} {tt : TT} {te : TE} {σ : St} {Q : VK} {H : Hp} {K : PySem.W.Frag} {a : Addr} {xs : List V} (Pv : Nat → List V → Hp → Prop) (hn : xs.length ≤ sizeLine) (h0 : Pv 0 [] H) (hl : ∀ i ys H, Pv i ys H → ys.length ≤ i)
    (hq : ∀ i ys H, Pv i ys H → SqL K H a xs)
    (hs : ∀ i ys H x, xs[i]? = some x → Pv i ys H → g x (subSt sub σ) H fun σ2 H2 => KeepSt (subSt sub σ) σ2 ∧ tt σ2 H2 fun b H3 => if b = true then te σ2 H3 fun y H4 => Pv (i + 1) (ys ++ [y]) H4 else Pv (i + 1) ys H3)
    (hd : ∀ ys H, Pv xs.length ys H → ∀ D, H D = none → Q (.ref D) (upd H D (.lst ys))) : CompR sub g tt te σ Q (Itl K a) H :=
  comp_by (n := xs.length) Pv hn h0 hl (fun i ys H hi p => ⟨xs, xs[i], hq i ys H p, List.getElem?_eq_getElem hi⟩) (fun ys H p => ⟨xs, hq _ ys H p, Nat.le_refl _⟩) (fun i ys H x H' hi p y => by
    obtain ⟨e1, e2⟩ := y
    subst e1
    exact hs i ys _ x (e2 xs (hq i ys _ p)) p) hd
end L2

namespace L2
open PySem PySem.Spec PyProof.Rows
structure JE (X : Cx) (e : Expr) (t : TE) : Prop where
  run : PE X e t
structure JT (X : Cx) (e : Expr) (t : TT) : Prop where
  run : PT X e t
structure JW (X : Cx) (e : Expr) (t : TT) : Prop where
  run : PW X e t
structure JA (X : Cx) (es : List Expr) (t : TA) : Prop where
  run : PA X es t
structure JS (X : Cx) (s : Stmt) (t : TS) : Prop where
  run : PS X s t
structure JB (X : Cx) (s : List Stmt) (t : TS) : Prop where
  run : PSs X s t
structure JI (X : Cx) (tg iter : Expr) (t : TI) : Prop where
  run : PI X tg iter t
structure JG (X : Cx) (tg : Expr) (t : TG) : Prop where
  run : PG X tg t
structure JGs (X : Cx) (tg : List Expr) (t : TGs) : Prop where
  run : PGs X tg t
structure JO (X : Cx) (e : Option Expr) (t : TO) : Prop where
  run : PO X e t
structure JPs (X : Cx) (pos : Pos) (keys : List (Option Expr)) (values : List Expr) (t : List (TE × TE)) : Prop where
  run : PPs X pos keys values t
structure JIfs (X : Cx) (ifs : List Expr) (t : TT) : Prop where
  run : PIfs X ifs t
section
variable {X : Cx} {K : PySem.W.Frag} {sc scope : Scope} {N' : List Str} {C : Addr} {s₀ : Shared} {H₀ : Hp} {ex : List Addr} {x : Str} {pos p p2 pos' apos cpos tpos : Pos} {a b c e o : Expr} {es : List Expr} {ta tb tc te to ti : TE} {t : TA} {tA tB' tt : TT} {rest : List Expr}
theorem j_vL (i : Nat) (h : sc.names.lookup x = some .local) (hN : autoParam (X.N[i]? = some x) L2.auto4._auto_1) (hsc : autoParam (X.env.scope = sc) L2.auto4._auto_1) (hd : autoParam ((x == ("__debug__" : Str)) = false) L2.auto6._auto_1) (hcd : autoParam ((x == ("__classdict__" : Str)) = false) L2.auto6._auto_1) : JE X (.Name x pos) (tVar i) := ⟨pvL i h hN hsc hd hcd⟩
theorem j_vC (i : Nat) (h : sc.names.lookup x = some .cell) (hN : autoParam (X.N[i]? = some x) L2.auto4._auto_1) (hsc : autoParam (X.env.scope = sc) L2.auto4._auto_1) (hd : autoParam ((x == ("__debug__" : Str)) = false) L2.auto6._auto_1) (hcd : autoParam ((x == ("__classdict__" : Str)) = false) L2.auto6._auto_1) : JE X (.Name x pos) (tVar i) := ⟨pvC i h hN hsc hd hcd⟩
theorem j_vBL (i : Nat) (h : scope.names.lookup x = some .local) (hN : autoParam (N'[i]? = some x) L2.auto4._auto_1) (hd : autoParam ((x == ("__debug__" : Str)) = false) L2.auto6._auto_1) (hcd : autoParam ((x == ("__classdict__" : Str)) = false) L2.auto6._auto_1) : JE (cxC X N' scope C s₀ H₀ ex) (.Name x pos) (tVar i) := ⟨pvBL i h hN hd hcd⟩
theorem j_vBF (i : Nat) (h : scope.names.lookup x = some .free) (hN : autoParam (N'[i]? = some x) L2.auto4._auto_1) (hd : autoParam ((x == ("__debug__" : Str)) = false) L2.auto6._auto_1) (hcd : autoParam ((x == ("__classdict__" : Str)) = false) L2.auto6._auto_1) : JE (cxC X N' scope C s₀ H₀ ex) (.Name x pos) (tVar i) := ⟨pvBF i h hN hd hcd⟩
theorem j_int {i j} : JE X (.Constant (.int i) j pos) (tC (.int i)) := ⟨pe_int⟩
theorem j_bl {i j} : JE X (.Constant (.bool i) j pos) (tC (.bl i)) := ⟨pe_bl⟩
theorem j_str {i j} : JE X (.Constant (.str i) j pos) (tC (.str i)) := ⟨pe_str⟩
theorem j_gstr {z : Str} (hg : Gl X x) (hm : ∃ t, X.mg x = some (.str z t)) (hd : (x == ("__debug__" : Str)) = false) : JE X (.Name x pos) (tC (.str z)) := ⟨glob_str hg hm hd⟩
theorem j_gint {z : Int} (hg : Gl X x) (hm : ∃ t, X.mg x = some (.int z t)) (hd : (x == ("__debug__" : Str)) = false) : JE X (.Name x pos) (tC (.int z)) := ⟨glob_int hg hm hd⟩
theorem j_ty {T : String} (hg : Gl X x) (hm : X.mg x = none) (hv : bootBuiltins x = some (.type T)) (hn : x ≠ "__name__") (hd : (x == ("__debug__" : Str)) = false) : JE X (.Name x pos) (tC (.ty T)) := ⟨pe_ty hg hm hv hn hd⟩
theorem j_op {op : Operator} {r : R2} (ho : OpR X (binaryOp op) r) (ha : JE X a ta) (hb : JE X b tb) : JE X (.BinOp a op b pos) (tOp r ta tb) := ⟨pe_op ho ha.run hb.run⟩
theorem j_un {op : UnaryOp} {r : V → Hp → VK → Prop} (ho : UnR X (unaryOp op) r) (ha : JE X a ta) : JE X (.UnaryOp op a pos) (tUn r ta) := ⟨pe_un ho ha.run⟩
theorem j_cmp {op : CmpOp} {r : R2} (ho : OpR X (compareOp op) r) (ha : JE X a ta) (hb : JE X b tb) (hm : behindInMarks op b = false) : JE X (.Compare a [op] [b] pos) (tOp r ta tb) := ⟨pe_cmpR ho ha.run hb.run hm⟩
theorem jt_cmp {op : CmpOp} {r : R2} (ho : OpR X (compareOp op) r) (ha : JE X a ta) (hb : JE X b tb) (hm : behindInMarks op b = false) : JT X (.Compare a [op] [b] pos) (tTest (tOp r ta tb)) := ⟨pt_cmpR ho ha.run hb.run hm⟩
theorem jw_and1 (ha : JT X a tA) : JW X (.BoolOp .And [a] pos) tA := ⟨pw_and1 ha.run⟩
theorem jw_or1 (ha : JT X a tA) : JW X (.BoolOp .Or [a] pos) tA := ⟨pw_or1 ha.run⟩
theorem jw_and (ha : JT X a tA) (hb : JW X (.BoolOp .And (b :: rest) pos) tB') : JW X (.BoolOp .And (a :: b :: rest) pos) (tAnd tA tB') := ⟨pw_and ha.run hb.run⟩
theorem jw_or (ha : JT X a tA) (hb : JW X (.BoolOp .Or (b :: rest) pos) tB') : JW X (.BoolOp .Or (a :: b :: rest) pos) (tOr tA tB') := ⟨pw_or ha.run hb.run⟩
theorem jw_pt (h : JW X e tt) : JT X e tt := ⟨h.run.pt⟩
theorem jt_not (ha : JT X a tA) : JT X (.UnaryOp .Not a pos) (tNot tA) := ⟨pt_not ha.run⟩
noncomputable def plainT : Expr → Bool
  | .BoolOp .. => false | .UnaryOp .. => false | .Compare .. => false | .IfExp .. => false | _ => true
theorem jt_val (h : JE X e te) (hp : autoParam (plainT e = true) L2.auto4._auto_1) : JT X e (tB te) := ⟨pt_val h.run (by
  intro whole
  cases e <;> first | rfl | cases hp)⟩
theorem j_one {op} (h : JE X a te) : JE X (.BoolOp op [a] pos) te := ⟨pe_one h.run⟩
theorem j_and (ha : JE X a ta) (hb : JE X (.BoolOp .And (b :: rest) pos) tb) : JE X (.BoolOp .And (a :: b :: rest) pos) (tAndV ta tb) := ⟨pe_and ha.run hb.run⟩
theorem j_or (ha : JE X a ta) (hb : JE X (.BoolOp .Or (b :: rest) pos) tb) : JE X (.BoolOp .Or (a :: b :: rest) pos) (tOrV ta tb) := ⟨pe_or ha.run hb.run⟩
theorem j_not (ha : JE X a ta) : JE X (.UnaryOp .Not a pos) (tNotV ta) := ⟨pe_not ha.run⟩
theorem j_tup {x1} (h : JA X es t) : JE X (.Tuple es x1 pos) (tTup t) := ⟨pe_tup h.run⟩
theorem j_lst (h : JA X es t) : JE X (.List es pos) (tLst t) := ⟨pe_lst h.run⟩
theorem ja_nil : JA X [] tNil := ⟨pa_nil⟩
theorem ja_cons (ha : JE X e te) (hr : JA X es t) (h : autoParam (notStar e = true) L2.auto4._auto_1) : JA X (e :: es) (tCons te t) := ⟨paC ha.run hr.run h⟩
theorem jo_none : JO X none tNoPart := ⟨po_none⟩
theorem jo_some (h : JE X e te) : JO X (some e) (tPart te) := ⟨po_some h.run⟩
theorem j_slice {r : V → Option Int → Option Int → Hp → VK → Prop} {lo hi : Option Expr} {tl th : TO} (hr : SlR X r) (he : JE X e te) (hl : JO X lo tl) (hu : JO X hi th) : JE X (.Subscript e (.Slice lo hi none p2) pos) (tSl r te tl th) := ⟨pe_slice hr he.run hl.run hu.run⟩
theorem j_ix (hK : X.K = K) (ha : JE X a ta) (hb : JE X b tb) (h : autoParam (notSlice b = true) L2.auto4._auto_1) : JE X (.Subscript a b pos) (tOp (rIx K) ta tb) := ⟨ixE hK ha.run hb.run h⟩
theorem j_call {k : Nat} {ps : List Str} {sp : Sp} (F : Has X.prog X.w X.K X.mg X.base k x ps sp) (hr : Room k X.A) (hg : Gl X x) (ha : JA X (e :: es) t) (hdb : (x == ("__debug__" : Str)) = false) (h : autoParam ((e :: es).all notStar = true) L2.auto4._auto_1) :
    JE X (.Call (.Name x p) (e :: es) [] pos) (tCall sp [] E0 t) := ⟨callH F hr hg ha.run hdb h⟩
theorem j_callB {id : String} {r : List V → Hp → VK → Prop} (hc : CallR X (.builtin id) r) (hg : Gl X x) (hm : X.mg x = none) (hv : bootBuiltins x = some (.builtin id)) (ha : JA X (e :: es) t) (hn : x ≠ "__name__") (hdb : (x == ("__debug__" : Str)) = false) (h : autoParam ((e :: es).all notStar = true) L2.auto4._auto_1) :
    JE X (.Call (.Name x p) (e :: es) [] pos) (tCB r t) := ⟨callB hc hg hm hv ha.run hn hdb h⟩
theorem j_callTy {T : String} {r : List V → Hp → VK → Prop} (hc : CallR X (.type T) r) (hg : Gl X x) (hm : X.mg x = none) (hv : bootBuiltins x = some (.type T)) (ha : JA X (e :: es) t) (hn : x ≠ "__name__") (hdb : (x == ("__debug__" : Str)) = false) (h : autoParam ((e :: es).all notStar = true) L2.auto4._auto_1) :
    JE X (.Call (.Name x p) (e :: es) [] pos) (tCB r t) := ⟨callTy hc hg hm hv ha.run hn hdb h⟩
theorem j_meth {name : Str} {T id : String} {r : V → List V → Hp → VK → Prop} (hK : X.K = K) (pa : PlainAttrs T) (slot : Slot T name id) (hty : typeOf (.builtin id) = pure (.type "method_descriptor")) (hm : MtR X id r) (ho : JE X o to) (ha : JA X (e :: es) t)
    (hbase : autoParam (notCall o = true) L2.auto4._auto_1) (hl : autoParam (es.length < 20) L2.auto2._auto_1) (hline : autoParam ((apos.endLine == cpos.line) = true) L2.auto4._auto_1) (h : autoParam ((e :: es).all notStar = true) L2.auto4._auto_1) : JE X (.Call (.Attribute o name apos) (e :: es) [] cpos) (tBM K T r to t) := ⟨methK hK pa slot hty hm ho.run ha.run hbase hl hline h⟩
theorem jif_nil : JIfs X [] tTrue := ⟨pifs_nil⟩
theorem jif_one (hc : JT X c tt) : JIfs X [c] tt := ⟨pifs_one hc.run⟩
variable {tg iter elt : Expr} {ifs : List Expr} {sub : List (Option Nat)} {wi : TI} {g : TG} {N : List Str}
theorem ji_range1 {ta : TA} (hg : Gl X "range") (hm : X.mg "range" = none) (ha : JA X [a] ta) (h : autoParam (notStar a = true) L2.auto4._auto_1) : JI X tg (.Call (.Name "range" p) [a] [] pos) (iRng1 ta) := ⟨pi_range1 hg hm ha.run (se_cons h)⟩
theorem ji_range2 {ta : TA} (hg : Gl X "range") (hm : X.mg "range" = none) (ha : JA X [a, b] ta) (h : autoParam (notStar a = true) L2.auto4._auto_1) (h2 : autoParam (notStar b = true) L2.auto4._auto_1) : JI X tg (.Call (.Name "range" p) [a, b] [] pos) (iRng2 ta) := ⟨pi_range2 hg hm ha.run (by rw [se_cons h, se_cons h2]; rfl) (by rw [se_cons h2]; rfl)⟩
theorem ji_seq (hK : X.K = K) (hl : JE X e te) : JI X tg e (iSeq K te) := ⟨pi_seqK hK hl.run⟩
theorem jg_name {i : Nat} (hN : X.N.Nodup) (hi : X.N[i]? = some x) (hx : Loc X.env.scope x) (hf : X.fn x = true) : JG X (.Name x pos) (gName i) := ⟨pg_name hN hi hx (.inl hf)⟩
theorem jg_B (i : Nat) (h : scope.names.lookup x = some .local) (hN : N'.Nodup) (hi : autoParam (N'[i]? = some x) L2.auto4._auto_1) : JG (cxC X N' scope C s₀ H₀ ex) (.Name x pos) (gName i) := ⟨pgB i h hN hi⟩
theorem jgs_nil : JGs X [] gNil := ⟨pgs_nil⟩
theorem jgs_cons {gs : TGs} (h1 : JG X e g) (h2 : JGs X es gs) (hs : autoParam ((assignEach (e :: es) X.env).map (·.2) = assign e X.env :: (assignEach es X.env).map (·.2)) L2.auto4._auto_1) : JGs X (e :: es) (gCons g gs) := ⟨pgs_cons h1.run h2.run hs⟩
theorem jg_tup {ts : List Expr} {k : Nat} {gs : TGs} {n : Nat} (hK : X.K = K) (hc : X.calm = true) (h : JGs X ts gs) (hn : autoParam ((assignEach ts X.env).length = n) L2.auto4._auto_1) (hst : autoParam ((assignEach ts X.env).findIdx? (·.1) = none) L2.auto4._auto_1) : JG X (.Tuple ts k pos) (gTup K n gs) := ⟨pg_tupK hK hc h.run hn hst⟩
theorem jg_sub {ts : TSet} (ho : JE X a ta) (hi : JE X b tb) (hs : PSet X ts) (h : autoParam (notSlice b = true) L2.auto4._auto_1) : JG X (.Subscript a b pos) (gSub ta tb ts) := ⟨pg_sub ho.run hi.run hs (by
  intro v
  cases b <;> first | rfl | cases h)⟩
theorem j_comp (S : SubOk N sc N' scope sub) (hc : X.calm = true) (hN : X.N = N) (hsc : X.env.scope = sc) (hi : JI X tg iter wi)
    (hg : ∀ (C : Addr) (s₀ : Shared) (H₀ : Hp) (ex : List Addr), JG (cxC X N' scope C s₀ H₀ ex) tg g)
    (ht : ∀ (C : Addr) (s₀ : Shared) (H₀ : Hp) (ex : List Addr), JIfs (cxC X N' scope C s₀ H₀ ex) ifs tt)
    (he : ∀ (C : Addr) (s₀ : Shared) (H₀ : Hp) (ex : List Addr), JE (cxC X N' scope C s₀ H₀ ex) elt te) (h : autoParam (notSet iter = true) L2.auto4._auto_1) :
    JE X (.ListComp elt [⟨tg, iter, ifs, 0⟩] scope pos) (tComp sub wi g tt te) := ⟨compE S hc hN hsc hi.run (fun C s₀ H₀ ex => (hg C s₀ H₀ ex).run) (fun C s₀ H₀ ex => (ht C s₀ H₀ ex).run) (fun C s₀ H₀ ex => (he C s₀ H₀ ex).run) h⟩
variable {st : Stmt} {sts : List Stmt} {u v : TS}
theorem js_set {i : Nat} (hN : X.N.Nodup) (hi : X.N[i]? = some x) (hx : Loc X.env.scope x) (he : JE X e te) (hf : X.fn x = true) (h : autoParam (notComp e = true) L2.auto4._auto_1) : JS X (.Assign [.Name x pos'] e pos) (tAsg te (gName i)) := ⟨psSet hN hi hx he.run hf h⟩
theorem js_asgS {ts : TSet} (he : JE X e te) (hg : JG X (.Subscript a b pos') g) (h : autoParam (notComp e = true) L2.auto4._auto_1) : JS X (.Assign [.Subscript a b pos'] e pos) (tAsg te g) := ⟨ps_asg he.run hg.run (by show swapsWith e (some (.Subscript a b pos')) pos.line X.env = pure false; exact sw_no h) (by cases e <;> rfl) rfl⟩
theorem js_ret (he : JE X e te) : JS X (.Return (some e) pos) (tRet te) := ⟨ps_ret he.run⟩
theorem js_expr (he : JE X e te) (h : autoParam (notComp e = true) L2.auto4._auto_1) : JS X (.Expr e pos) (tDrop te) := ⟨psExpr he.run h⟩
theorem js_if {sa sb : List Stmt} (hc : JT X c tt) (ha : JB X sa u) (hb : JB X sb v) : JS X (.If c sa sb pos) (tIfS tt u v) := ⟨ps_if hc.run ha.run hb.run⟩
theorem js_for {body : List Stmt} (hp : PassesOwn (model X.prog X.w) X.A X.env X.xe) (hc : X.calm = true) (hi : JI X tg iter wi) (hg : JG X tg g) (hb : JB X body u) (h : autoParam (notSet iter = true) L2.auto4._auto_1) : JS X (.For tg iter body [] pos) (tFor wi g u) := ⟨psFor hp hc hi.run hg.run hb.run h⟩
theorem js_while {body : List Stmt} (hp : PassesOwn (model X.prog X.w) X.A X.env X.xe) (hc : JT X c tt) (hb : JB X body u) : JS X (.While c body [] pos) (tWhile tt u) := ⟨ps_while hp hc.run hb.run⟩
theorem jb_nil : JB X [] tNext := ⟨pss_nil⟩
theorem jb_one (h : JS X st u) : JB X [st] u := ⟨pss_one h.run⟩
theorem jb_cons (h : JS X st u) (h2 : JB X sts v) : JB X (st :: sts) (tSeq u v) := ⟨pss_cons h.run h2.run⟩
end
section
variable {P : Program} {w : World} {K : PySem.W.Frag} {mg : Str → Option Value} {base : Heap}
theorem hasJ {x : Str} {st : Stmt} {N ps : List Str} {k : Nat} {sp : Sp} (D : Def K mg x st) (S : FnScope N ps (defScope st))
    (hb : ∀ (kV doc pm : Value) (an : Option Addr) (cdv ct : Value) (us : List Value), us.length = ps.length → bindArgs (PySem.W.fnOf x x (defArgs st) (defBody st) (defScope st) .none kV doc pm an cdv ct) ⟨us, []⟩ = pure (ps.zip us))
    (len : ∀ vs H Q E, sp vs H Q E → vs.length = ps.length)
    (hbody : ∀ (f : Addr) (cdv : Value) (A : Around) (outer : List Env) (s : Shared) (H : Hp) (vs : List V) (Q : VK) (E : XK), Room k (A.deeper (envOfC x (defScope st) s.heap.objs.size f cdv)) → sp vs H Q E →
      ∃ t, JB (cxOf CX0 P w K mg base N x (defScope st) f cdv A outer s H E).nox (defBody st) t ∧ t { nx := fun _ H' => Q .non H', rt := Q } (start N vs) H) : Has P w K mg base (k + 1) x ps sp :=
  has_of D S hb len fun f cdv A outer s H vs Q E hr h => let ⟨t, j, q⟩ := hbody f cdv A outer s H vs Q E hr h; ⟨t, j.run, q⟩
theorem okJ {x : Str} {st : Stmt} {N ps : List Str} {k : Nat} {sp : Sp} {f : Addr} {fd : FuncData} (F : Fun K x x st f fd) (S : FnScope N ps (defScope st)) (len : ∀ vs H Q E, sp vs H Q E → vs.length = ps.length)
    (hbody : ∀ (f : Addr) (cdv : Value) (A : Around) (outer : List Env) (s : Shared) (H : Hp) (vs : List V) (Q : VK) (E : XK), Room k (A.deeper (envOfC x (defScope st) s.heap.objs.size f cdv)) → sp vs H Q E →
      ∃ t, JB (cxOf CX0 P w K mg base N x (defScope st) f cdv A outer s H E).nox (defBody st) t ∧ t { nx := fun _ H' => Q .non H', rt := Q } (start N vs) H) : FnOk P w K mg base CX0 (k + 1) f fd ps sp :=
  F.ok S len fun cdv A outer s H vs Q E hr h => let ⟨t, j, q⟩ := hbody f cdv A outer s H vs Q E hr h; ⟨t, j.run, q⟩
end
theorem const_mk {K : PySem.W.Frag} {mg : Str → Option Value} {h : Heap} (X : K.In h) (G : h.Ns mainGlobals mg) {x : Str} {v : Value} {f : Tok → Value} (a : PySem.W.nsIn K mainGlobals x = some (some v)) (e : ∃ t, v = f t) : ∃ t, mg x = some (f t) := by
  obtain ⟨t, rfl⟩ := e
  exact ⟨t, PySem.W.mg_of X G a⟩
theorem walkJ {l : PySem.W.OpenLaw} {q : Program} {loose : List Str} {XP : (Str → Option Value) → Heap → Prop} {YP : World → Heap → Prop} {d : DefRec} {K : Params → PySem.W.Frag} {st : Stmt} {k : Nat} {sp : PySem.W.Frag → Sp} {x : Str}
    (hn : l.most = some 63) (hdf : d.params.defaults = []) (hdn : d.name = "law") (hk : Room k callerA) (hY : ∀ (w : World) (h : Heap), YP w h → (K w.params).In h)
    (hb : ∀ (kV doc pm : Value) (an : Option Addr) (cdv ct : Value) (us : List Value), us.length = [x].length → bindArgs (PySem.W.fnOf "law" "law" (defArgs st) (defBody st) (defScope st) .none kV doc pm an cdv ct) ⟨us, []⟩ = pure ([x].zip us))
    (F : ∀ (w : World) (mg : Str → Option Value) (h : Heap), (K w.params).In h → h.Ns mainGlobals mg → Def (K w.params) mg "law" st ∧ ∀ (base : Heap) (f : Addr) (fd : FuncData), Fun (K w.params) "law" "law" st f fd → FnOk l.prog w (K w.params) mg base CX0 k f fd [x] (sp (K w.params)))
    (hsp : ∀ (K : PySem.W.Frag) (H : Hp) (a : Addr) (ns : List Int), ns.length ≤ 63 → SqL K H a (ns.map V.int) → sp K [.ref a] H (fun v _ => v = .bl true) fun _ _ _ => False) (him : autoParam (importsNone q = true) L2.auto6._auto_1) :
    PySem.W.WalkO q loose XP YP l.row.toRowW d [] (fun f vs => PySem.call f vs) :=
  L2.walk_of (n := 63) (k := k) (x := x) (CX := fun _ => CX0) (sp := fun w => sp (K w.params)) hn (by decide) hdf hk hY (fun w mg fa h X G e => by
    obtain ⟨⟨f, fd, Fn, hm⟩, ok⟩ := F w mg h X G
    rw [hdn, hm] at e
    have ef : f = fa := by injection (Option.some.inj e)
    subst ef
    refine ⟨fd, fun s u => ?_, fun base _ _ => ok base f fd Fn⟩
    obtain ⟨oc, od, kV, doc, pm, an, cdv, ct, osl, rfl, lk, hcd⟩ := Fn.ex
    exact .of_eq (hb kV doc pm an cdv ct [u] rfl)) (fun w H a ns hl _ hS => hsp _ H a ns hl hS) (fun _ _ _ _ _ z => z) him
end L2

namespace L2
open PySem PySem.Spec PyProof.Rows
noncomputable def Itp (xs : Nat → List V) (n : Nat) : It := ⟨fun i _ => i < n, fun i H v H' => ∃ T, H T = none ∧ v = .ref T ∧ H' = upd H T (.tup (xs i)), fun i _ => i = n⟩
theorem turn_T {P : Program} {w : World} {K : PySem.W.Frag} {elts : List Expr} {k : Nat} {pos : Pos} {it : Addr} {fp wr : List Addr} {n : Nat} {xs : Nat → List V} {Pt : Nat → Array Value → Prop} {St : Nat → Heap → Prop} {Mid : Nat → Addr → Heap → Prop}
    (W : ∀ A : Around, A.handled = none → WalksT P w A it fp wr n Pt St Mid) (hxs : ∀ i, (xs i).length ≤ sizeLine) (hPt : ∀ i vals, Pt i vals → Vals (xs i) vals.toList) (hmem : it ∈ fp)
    (hobj : ∀ i h, St i h → ∀ b ∈ fp, ∃ o, h.get? b = some o ∧ ∀ v, o.data ≠ .cell v)
    (hself : ∀ (A : Around) (i : Nat) (s : Shared) (Q : Value → Shared → Prop) (E : Value → Shared → Prop), St i s.heap → Q (.ref it) s → wpAny (model P w) A (pyIter (.ref it)) Q E s) :
    Turn P w K (.Tuple elts k pos) (Itp xs n) fp it St where
  mem := hmem
  obj := hobj
  keep := fun i h h' st kk => (W {} rfl).frame i h h' st kk
  item := by
    intro X hP hw hK hc i pins s σ H E I hf st hg
    subst hP hw hK
    have W' := W X.A (I.ok.hd hc)
    refine W'.item i s _ _ hg st fun T vals h' tk hPv hT isT mid kk => ?_
    refine ⟨.ref T, rfl, W'.go elts k pos i T _ _ _ mid fun h'' st'' kk2 => ?_⟩
    have hTn : H T = none := I.hok.fresh hT
    have hTw : T ∉ wr := W'.apart i T h' mid
    have kall : ∀ b o, b ∉ wr → s.heap.get? b = some o → h''.get? b = some o := fun b o hb e => kk2 b o hb (kk b o hb e)
    have nT : ∀ b o, s.heap.get? b = some o → b ≠ T := fun b o e => Nat.ne_of_lt (Nat.lt_of_lt_of_le (Heap.lt_size e) hT)
    have nTH : ∀ b u, H b = some u → b ≠ T := fun b u e z => by rw [z, hTn] at e; cases e
    have nW : ∀ b u, H b = some u → b ∉ wr := fun b u e hb => by rw [(hf b (W'.sub b hb)).1] at e; cases e
    have isT' : h''.IsTuple T vals := by
      obtain ⟨o, ho, r⟩ := isT
      exact ⟨o, kk2 T o hTw ho, r⟩
    have hlT : ∃ o, h''.get? T = some o := let ⟨o, ho, _⟩ := isT'; ⟨o, ho⟩
    have I' : Inv X pins σ (upd H T (.tup (xs i))) { s with heap := h'', toks := tk } := by
      refine I.step (g' := s.gens) (d' := s.drawn) (ch := wr) (fun b hb => ?_) (fun b o _ _ hc e _ => kall b o hc e) (fun b o _ _ hc e _ => ⟨o.slots, kall b o hc e⟩) (fun b o _ e hn => by rw [upd_ne (nT b o e)]; exact hn)
        (fun b o hc e => ⟨o, kall b o hc e⟩) (fun b ys e => by rw [upd_ne (nTH b _ e)]; exact e) (fun b o u e => by rw [upd_ne (nTH b _ e)]; exact e) (fun b ps e => ⟨#[], by rw [upd_ne (nTH b _ e), e]; simp⟩) (fun m hm => ?_) (fun b u e => ?_) I.bare
      · obtain ⟨f0, f1, f2, f3, f4, f5⟩ := hf b (W'.sub b hb)
        exact ⟨f3, f1, f4, f5⟩
      · obtain ⟨o, es, ep, ho, r⟩ := hm
        exact ⟨o, es, ep, kall _ o (fun hb => (hf _ (W'.sub _ hb)).2.1 rfl) ho, r⟩
      · by_cases hb : b = T
        · subst hb
          rw [upd_same] at e; cases e
          obtain ⟨o, ho, hcl, nn, hd⟩ := isT'
          exact ⟨hxs i, vals.toList, hPt i vals hPv, o, ho, hcl, nn, by simpa using hd⟩
        · rw [upd_ne hb] at e
          refine (I.hok b u e).stay (fun c v hc' q => kall c v ?_ q) (fun c q => by rw [upd_ne (nTH c _ q)]; exact q) fun c ys q => by rw [upd_ne (nTH c _ q)]; exact q
          rcases hc' with z | z
          · rw [z]; exact nW b u e
          · exact nW c _ z
    refine ⟨.ref T, upd H T (.tup (xs i)), I', rfl, ⟨T, hTn, rfl, rfl⟩, st'', fun b hb => ?_⟩
    obtain ⟨o, e, _⟩ := hobj i _ st b hb
    rw [upd_ne (nT b o e)]
    exact (hf b hb).1
  done := by
    intro X hP hw hK hc i pins s σ H E I hf st hg
    subst hP hw hK
    have W' := W X.A (I.ok.hd hc)
    have hg : i = n := hg
    subst hg
    refine W'.done s _ _ st fun h' tk kk => ⟨rfl, ?_⟩
    have nW : ∀ b u, H b = some u → b ∉ wr := fun b u e hb => by rw [(hf b (W'.sub b hb)).1] at e; cases e
    refine I.step (g' := s.gens) (d' := s.drawn) (ch := wr) (fun b hb => ?_) (fun b o _ _ hc e _ => kk b o hc e) (fun b o _ _ hc e _ => ⟨o.slots, kk b o hc e⟩) (fun b o _ e hn => hn)
        (fun b o hc e => ⟨o, kk b o hc e⟩) (fun b ys e => e) (fun b o u e => e) (fun b ps e => ⟨#[], by rw [e]; simp⟩) (fun m hm => ?_) (fun b u e => ?_) I.bare
    · obtain ⟨f0, f1, f2, f3, f4, f5⟩ := hf b (W'.sub b hb)
      exact ⟨f3, f1, f4, f5⟩
    · obtain ⟨o, es, ep, ho, r⟩ := hm
      exact ⟨o, es, ep, kk _ o (fun hb => (hf _ (W'.sub _ hb)).2.1 rfl) ho, r⟩
    · refine (I.hok b u e).stay (fun c v hc' q => kk c v ?_ q) (fun c q => q) fun c ys q => q
      rcases hc' with z | z
      · rw [z]; exact nW b u e
      · exact nW c _ z
  self := hself
noncomputable def enumS (x : Str) (i : Nat) : List V := [.int i, .str ⟨#[x.cps.getD i 0]⟩]
end L2

namespace L2
open PySem PySem.Spec PyProof.Rows
section
variable {prog : Program} {w : World} {A : Around} {E : Value → Shared → Prop} {s : Shared}
end
noncomputable def rNeA (K : PySem.W.Frag) : R2 := fun x y H Q => rNe x y H Q ∨ ∃ (a b : Addr) (ns ms : List Int), x = .ref a ∧ y = .ref b ∧ SqL K H a (ns.map V.int) ∧ SqL K H b (ms.map V.int) ∧ Q (.bl (!decide (ns = ms))) H
theorem op_neK {X : Cx} {K : PySem.W.Frag} (hK : X.K = K) (hu : X.A.units + 64 < cLine) : OpR X (compareOp .NotEq) (rNeA K) := by
  subst hK
  intro pins s σ H x y v u Q I rx ry h
  rcases h with h | ⟨a, b, ns, ms, rfl, rfl, ha, hb, q⟩
  · exact op_ne pins s σ H x y v u Q I rx ry h
  · cases rx
    cases ry
    obtain ⟨its, r1, p1, z1⟩ := I.list ha
    obtain ⟨jts, r2, p2, z2⟩ := I.list hb
    exact PySem.W.ne_intsK p1.isList (intsAre_of r1) p2.isList (intsAre_of r2) hu ⟨.bl _, H, I, rfl, q⟩
section
variable {H : Hp} {Q : VK} {K : PySem.W.Frag} {σ : St}
theorem r_gtup {n : Nat} {gs : TGs} {p : Addr} {xs : List V} {R : St → Hp → Prop} (s : SqT K H p xs) (hl : xs.length = n) (h : gs xs σ H R) : gTup K n gs (.ref p) σ H R := ⟨p, xs, rfl, s, hl, h⟩
theorem r_gcons {t : TG} {u : TGs} {v : V} {vs : List V} {R : St → Hp → Prop} (h : t v σ H fun σ' H' => u vs σ' H' R) : gCons t u (v :: vs) σ H R := ⟨v, vs, rfl, h⟩
theorem r_gnil {R : St → Hp → Prop} (h : R σ H) : gNil [] σ H R := ⟨rfl, h⟩
theorem r_append {p : Addr} {xs : List V} {y : V} (hp : H p = some (.lst xs)) (c : xs.length < sizeLine) (h : Q .non (upd H p (.lst (xs ++ [y])))) : rAppend (.ref p) [y] H Q := ⟨p, xs, y, rfl, rfl, hp, c, h⟩
theorem for_Tp {xs : Nat → List V} {n : Nat} {g : TG} {tb : TS} {D : Ends} {H : Hp} (Pv : Nat → St → Hp → Prop) (h0 : Pv 0 σ H)
    (hs : ∀ i σ H T, i < n → Pv i σ H → H T = none → g (.ref T) σ (upd H T (.tup (xs i))) fun σ2 H2 => tb { D with nx := Pv (i + 1), ct := Pv (i + 1), bk := D.nx } σ2 H2) (hd : ∀ σ H, Pv n σ H → D.nx σ H) :
    ∃ W : Nat → Nat → St → Hp → Prop, (∃ m, W 0 m σ H) ∧ ∀ i m σ H, W i m σ H →
      ((Itp xs n).stop i H ∧ D.nx σ H) ∨ ((Itp xs n).go i H ∧ ∃ N : St → Hp → Prop, (∀ σ' H', N σ' H' → ∃ m', m' < m ∧ W (i + 1) m' σ' H') ∧ ∀ x H', (Itp xs n).yld i H x H' → g x σ H' fun σ2 H2 => tb { D with nx := N, ct := N, bk := D.nx } σ2 H2) := by
  refine ⟨fun i m σ H => m = n - i ∧ i ≤ n ∧ Pv i σ H, ⟨n, by simp, Nat.zero_le _, h0⟩, ?_⟩
  rintro i m σ H ⟨rfl, hi, p⟩
  by_cases hlt : i < n
  · refine .inr ⟨hlt, Pv (i + 1), fun σ' H' p' => ⟨n - (i + 1), by omega, rfl, hlt, p'⟩, fun x H' y => ?_⟩
    obtain ⟨T, hT, e1, e2⟩ := y
    subst e1 e2
    exact hs i σ H T hlt p hT
  · have e : i = n := by omega
    subst e
    exact .inl ⟨rfl, hd σ H p⟩
theorem r_u {f : Int → V} {i : Int} (h : Q (f i) H) : rU f (.int i) H Q := ⟨i, rfl, h⟩
theorem r_mulL {a : Addr} {xs : List V} {k : Int} (ha : H a = some (.lst xs)) (h0 : -(2 ^ 63) ≤ k) (h1 : k < 2 ^ 63) (hz : xs.length * k.toNat ≤ sizeLine) (h : ∀ p, H p = none → Q (.ref p) (upd H p (.lst (List.replicate k.toNat xs).flatten))) : rMulA (.ref a) (.int k) H Q :=
  .inr (.inr ⟨a, k, xs, rfl, rfl, ha, h0, h1, hz, h⟩)
theorem for_str {z : Str} {g : TG} {tb : TS} {D : Ends} {H : Hp} (Pv : Nat → St → Hp → Prop) (h0 : Pv 0 σ H)
    (hs : ∀ i σ H c, z.cps.toList[i]? = some c → Pv i σ H → g (.str ⟨#[c]⟩) σ H fun σ2 H2 => tb { D with nx := Pv (i + 1), ct := Pv (i + 1), bk := D.nx } σ2 H2) (hd : ∀ σ H, Pv z.length σ H → D.nx σ H) :
    ∃ W : Nat → Nat → St → Hp → Prop, (∃ m, W 0 m σ H) ∧ ∀ i m σ H, W i m σ H →
      ((Its z).stop i H ∧ D.nx σ H) ∨ ((Its z).go i H ∧ ∃ N : St → Hp → Prop, (∀ σ' H', N σ' H' → ∃ m', m' < m ∧ W (i + 1) m' σ' H') ∧ ∀ x H', (Its z).yld i H x H' → g x σ H' fun σ2 H2 => tb { D with nx := N, ct := N, bk := D.nx } σ2 H2) := by
  refine ⟨fun i m σ H => m = z.cps.size - i ∧ i ≤ z.cps.size ∧ Pv i σ H, ⟨z.cps.size, by simp, Nat.zero_le _, h0⟩, ?_⟩
  rintro i m σ H ⟨rfl, hi, p⟩
  by_cases hlt : i < z.cps.size
  · refine .inr ⟨hlt, Pv (i + 1), fun σ' H' p' => ⟨z.cps.size - (i + 1), by omega, rfl, hlt, p'⟩, fun x H' y => ?_⟩
    obtain ⟨e1, c, e2, e3⟩ := y
    subst e1 e3
    exact hs i σ _ c (by simpa using e2) p
  · have e : i = z.cps.size := by omega
    subst e
    exact .inl ⟨rfl, hd σ H p⟩
end
end L2

namespace L2
open PySem PySem.Spec PyProof.Rows
section
variable {X : Cx} {tg iter elt : Expr} {ifs : List Expr} {scope : Scope} {pos : Pos} {N' : List Str} {sub : List (Option Nat)} {wi : TI} {g : TG} {tt : TT} {te : TE}
theorem comp_use {N : List Str} {sc : Scope} {use : Option (Value → Sem Unit)} {R : Value → Shared → Prop} {p0 : Pos} (S : SubOk N sc N' scope sub) (hc : X.calm = true) (hN : X.N = N) (hsc : X.env.scope = sc) (hi : PI X tg iter wi)
    (hg : ∀ (C : Addr) (s₀ : Shared) (H₀ : Hp) (ex : List Addr), PG (cxC X N' scope C s₀ H₀ ex) tg g)
    (ht : ∀ (C : Addr) (s₀ : Shared) (H₀ : Hp) (ex : List Addr), PIfs (cxC X N' scope C s₀ H₀ ex) ifs tt)
    (he : ∀ (C : Addr) (s₀ : Shared) (H₀ : Hp) (ex : List Addr), PE (cxC X N' scope C s₀ H₀ ex) elt te)
    (hs : ∀ x, foldedSetIterable iter X.env x = pure x) (pins : List (Addr × Obj)) (s : Shared) (σ : St) (H : Hp) (Q : VK) (I : Inv X pins σ H s) (h : tComp sub wi g tt te σ H Q)
    (hend : ∀ (D C : Addr) (s5 : Shared) (H5 : Hp) (m : Str → Option Value), Inv X pins σ H5 s5 → FpOk X pins H5 C → s5.heap.Ns C m → Q (.ref D) H5 → compPost (model X.prog X.w) X.A X.xe use R (.ref D) C (.ok .next) s5) :
    wpAny (model X.prog X.w) X.A (comprehension (.ListComp elt [⟨tg, iter, ifs, 0⟩] scope pos) scope X.env p0 (newList []) false (eval iter X.env) use) R X.xe s := by
  have hcl : ∀ x ∈ scope.names, x.2 = NameKind.free → ∃ c, X.env.cells.lookup x.1 = some c := fun x hx hk => I.ok.has x.1 (by have := S.free x hx hk; rw [← hsc] at this; exact this)
  refine wpAny_comprehension_free (use := use) rfl hs (closureFor_cl hcl) S.kind S.loc ?_
  refine thn (hi pins s σ H _ I h) fun v s1 h1 => thn h1 fun itv s2 h2 => ?_
  obtain ⟨it, fp, tn, J, H2, e, I2, T, st2, f2, W, ⟨m0, w0⟩, turn⟩ := h2
  subst e
  refine wpAny_newObj_type (wpAny_newFunctionEnv S.nocell (by intro y hy; simp at hy) (fun h₁ hns₁ hsb₁ => ?_) S.kind)
  dsimp only at hns₁ hsb₁ ⊢
  generalize hs3 : ({ s2 with heap := s2.heap.push { cls := .type "list", dict := none, data := .seq ([] : List Value).toArray } } : Shared) = s3
  have e3 : s2.heap.push { cls := .type "list", dict := none, data := .seq ([] : List Value).toArray } = s3.heap := by rw [← hs3]
  rw [e3] at hns₁ hsb₁ ⊢
  have hD3 : s3.heap.get? s2.heap.objs.size = some { cls := .type "list", dict := none, data := .seq ([] : List Value).toArray } := by rw [← e3]; exact Heap.get?_push_size _ rfl
  have I3 : Inv X pins σ H2 s3 := by
    rw [← hs3]
    exact I2.kept (t' := s2.toks) fun b o e => Heap.get?_push_of_some _ e
  have k23 : ∀ b o, s2.heap.get? b = some o → s3.heap.get? b = some o := fun b o e => by rw [← e3]; exact Heap.get?_push_of_some _ e
  have hsz : s3.heap.objs.size = s2.heap.objs.size + 1 := by rw [← e3, Heap.size_push]
  have hk31 : ∀ b o, s3.heap.get? b = some o → h₁.get? b = some o := fun b o e => hsb₁.extBut b o (Nat.ne_of_lt (Heap.lt_size e)) (Heap.get?_push_of_some _ e)
  have hDn : H2 s2.heap.objs.size = none := I2.hok.fresh (Nat.le_refl _)
  have fD : FpOk X pins H2 s2.heap.objs.size := I2.fpOk (Nat.le_refl _) hDn
  have hfo : ∀ b ∈ fp, b < s2.heap.objs.size := fun b hb => let ⟨o, e, _⟩ := T.obj _ _ st2 b hb; Heap.lt_size e
  have hDfp : s2.heap.objs.size ∉ fp := fun z => absurd (hfo _ z) (Nat.lt_irrefl _)
  have I4 := inv_block (tk := s3.toks + ([] : List (Str × Value)).length) S hN hsc I3 f2 (fun b hb => by rw [hsz]; exact Nat.lt_succ_of_lt (hfo b hb)) (D := s2.heap.objs.size) (by rw [hsz]; exact Nat.lt_succ_self _) fD hns₁ hk31
  -- facts of the block
  have stat : ∀ {H' : Hp} {ob : Obj}, (∀ b ∈ fp, H' b = none) → ∀ b ∈ fp, FpOk (cxC X N' scope s3.heap.objs.size s3 H2 (s2.heap.objs.size :: fp)) [(s2.heap.objs.size, ob)] H' b := fun {H' ob} hn b hb => by
    obtain ⟨q1, q2⟩ := I4.ok.exf b (List.mem_cons_of_mem _ hb)
    refine ⟨hn b hb, q1, I4.ok.exfs b (List.mem_cons_of_mem _ hb), .inl (List.mem_cons_of_mem _ hb), q2, fun p hp z => ?_⟩
    have hp' : p = (s2.heap.objs.size, ob) := by simpa [cxC] using hp
    subst hp'
    have z' : s2.heap.objs.size = b := z
    exact hDfp (by rw [z']; exact hb)
  generalize hXC : cxC X N' scope s3.heap.objs.size s3 H2 (s2.heap.objs.size :: fp) = XC at I4 stat
  have eP : XC.prog = X.prog := by rw [← hXC]; rfl
  have eW : XC.w = X.w := by rw [← hXC]; rfl
  have eK : XC.K = X.K := by rw [← hXC]; rfl
  have eA : XC.A = X.A := by rw [← hXC]; rfl
  have eE : XC.env = compEnvC scope (clOf X.env scope.names []) s3.heap.objs.size X.env := by rw [← hXC]; rfl
  have eC : XC.calm = true := by rw [← hXC]; exact hc
  have eX : XC.xe = fun _ _ => False := by rw [← hXC]; rfl
  have eH : XC.H₀ = H2 := by rw [← hXC]; rfl
  have eS : XC.s₀ = s3 := by rw [← hXC]; rfl
  have eF : XC.fs = frs X.stack := by rw [← hXC]; rfl
  have eEx : XC.ex = s2.heap.objs.size :: fp := by rw [← hXC]; rfl
  have ePn : XC.pn = [] := by rw [← hXC]; rfl
  have hgC : PG XC tg g := by rw [← hXC]; exact hg _ _ _ _
  have htC : PIfs XC ifs tt := by rw [← hXC]; exact ht _ _ _ _
  have heC : PE XC elt te := by rw [← hXC]; exact he _ _ _ _
  have pinD : ∀ {σ' : St} {H' : Hp} {s' : Shared} {ob : Obj}, Inv XC [] σ' H' s' → H' s2.heap.objs.size = none → s'.heap.get? s2.heap.objs.size = some ob → (∀ v, ob.data ≠ .cell v) → Inv XC [(s2.heap.objs.size, ob)] σ' H' s' := fun {σ' H' s' ob} J hn hg hd =>
    J.pins_of fun p hp => by
      have hp' : p = (s2.heap.objs.size, ob) := by simpa using hp
      subst hp'
      refine ⟨hg, hn, (J.ok.exf _ (by rw [eEx]; exact List.mem_cons_self)).1, J.ok.exfs _ (by rw [eEx]; exact List.mem_cons_self), hd⟩
  have loop : codeAny (model X.prog X.w) X.A (.compLoop (.ListComp elt [⟨tg, iter, ifs, 0⟩] scope pos) 0 (.ref it) (.ref s2.heap.objs.size) (compEnvC scope (clOf X.env scope.names []) s3.heap.objs.size X.env))
      (compPost (model X.prog X.w) X.A X.xe use R (.ref s2.heap.objs.size) s3.heap.objs.size) { s3 with heap := h₁, toks := s3.toks + ([] : List (Str × Value)).length } := by
    refine comp_loop (fun n s' => ∃ (i : Nat) (ys : List V) (its : List Value) (nn : Nat) (H' : Hp), Inv XC [] (subSt sub σ) H' s' ∧ tn i s'.heap ∧ (∀ b ∈ fp, H' b = none) ∧ H' s2.heap.objs.size = none ∧
      s'.heap.get? s2.heap.objs.size = some { cls := .type "list", data := .seq its.toArray nn } ∧ Vals ys its ∧ W i n ys H') ?_ m0
      ⟨0, [], [], _, H2, I4, T.keep _ _ _ st2 fun b _ o e => hk31 b o (k23 b o e), fun b hb => (f2 b hb).1, hDn, hk31 _ _ hD3, .nil, w0⟩
    rintro n s4 ⟨i, ys, its, nn, H4, J4, st4, fr4, dn4, dg4, rv4, w4⟩
    have P4 := pinD J4 dn4 dg4 (fun v z => by cases z)
    rcases turn i n ys H4 w4 with ⟨stop, hyl, qn⟩ | ⟨go, hyl, N, hN, step⟩
    · have hdone := T.done XC eP eW eK eC i _ s4 _ H4 (fun _ _ => False) P4 (stat fr4) st4 stop
      rw [eA] at hdone
      refine wpAny_mono hdone (fun r s5 ⟨hr, I5⟩ => ?_) fun _ _ z => z
      subst hr
      -- the end
      obtain ⟨m, hn, _⟩ := id I5.loc
      have hCe : XC.env.locals = s3.heap.objs.size := by rw [eE]; rfl
      rw [hCe] at hn
      have hDg := (I5.pin (s2.heap.objs.size, _) (by rw [ePn]; exact List.mem_cons_self)).1
      have hDne : s2.heap.objs.size ≠ s3.heap.objs.size := by rw [hsz]; exact Nat.ne_of_lt (Nat.lt_succ_self _)
      have hHC : H4 s3.heap.objs.size = none := by have := I5.free; rw [hCe] at this; exact this
      have k56 : ∀ b o, b ≠ s3.heap.objs.size → s5.heap.get? b = some o → s5.heap.get? b = some o := fun b o hb e => e
      have un := I5.base
      rw [eF, eEx, eH, eS] at un
      have nC : ∀ b o, s3.heap.get? b = some o → b ≠ s3.heap.objs.size := fun b o e => Nat.ne_of_lt (Heap.lt_size e)
      have hok6 : HOk X.prog X.w (upd H4 s2.heap.objs.size (.lst ys)) s5.heap := by
        have h5 := I5.hok
        rw [eP, eW] at h5
        have trk : ∀ b u, H4 b = some u → b ≠ s3.heap.objs.size := fun b u e z => by rw [z, hHC] at e; cases e
        intro b u e
        by_cases hb : b = s2.heap.objs.size
        · subst hb
          rw [upd_same] at e; cases e
          exact ⟨hyl, its, nn, rv4, k56 _ _ hDne hDg⟩
        · rw [upd_ne hb] at e
          have nD : ∀ c u, H4 c = some u → c ≠ s2.heap.objs.size := fun c u e z => by rw [z, dn4] at e; cases e
          refine (h5 b u e).stay (fun c v hc' q => k56 c v ?_ q) (fun c q => by rw [upd_ne (nD c _ q)]; exact q) fun c xs q => by rw [upd_ne (nD c _ q)]; exact q
          rcases hc' with z | z
          · rw [z]; exact trk b u e
          · exact trk c _ z
      have nD2 : ∀ c u, H4 c = some u → c ≠ s2.heap.objs.size := fun c u e z => by rw [z, dn4] at e; cases e
      have un6 : Un (frs X.stack) (s2.heap.objs.size :: fp) H2 (upd H4 s2.heap.objs.size (.lst ys)) s3.heap s5.heap :=
        ⟨fun b o e nn' hb hx => k56 b o (nC b o e) (un.keep b o e nn' hb hx), fun b o e nn' hb hx => let ⟨sl, q⟩ := un.slot b o e nn' hb hx; ⟨sl, k56 b _ (nC b o e) q⟩,
          fun b o e nn' hx => by rw [upd_ne (fun z => hx (by rw [z]; exact List.mem_cons_self))]; exact un.free b o e nn' hx,
          fun b o e hx => let ⟨o', q⟩ := un.there b o e hx; ⟨o', k56 b o' (nC b o e) q⟩,
          fun b xs e => by have q := un.tups b xs e; rw [upd_ne (nD2 b _ q)]; exact q,
          fun b o u e => by have q := un.frzs b o u e; rw [upd_ne (nD2 b _ q)]; exact q,
          fun b ps e => let ⟨more, q⟩ := un.tbls b ps e; ⟨more, by rw [upd_ne (nD2 b _ q)]; exact q⟩⟩
      have I6 : Inv X pins σ (upd H4 s2.heap.objs.size (.lst ys)) s5 := by
        refine I3.call' (s' := s5) (ch := s2.heap.objs.size :: fp) ?_ un6 hok6 I5.bare fun b hb => ?_
        · show s5.os = s3.os
          have := I5.os
          rw [eS] at this
          exact this
        · have q : FpOk X pins H2 b := by
            rcases List.mem_cons.mp hb with rfl | z
            · exact fD
            · exact f2 b z
          obtain ⟨f0, f1, f2', f3, f4, f5⟩ := q
          exact ⟨f3, f1, f4, f5⟩
      have dC : upd H4 s2.heap.objs.size (.lst ys) s3.heap.objs.size = none := by rw [upd_ne (Ne.symm hDne)]; exact hHC
      exact hend _ _ s5 _ m I6 (I3.fpOk (Nat.le_refl _) dC) hn (qn _ dn4)
    · have hitem := T.item XC eP eW eK eC i _ s4 _ H4 (fun _ _ => False) P4 (stat fr4) st4 go
      rw [eA] at hitem
      refine wpAny_mono hitem (fun r s5 ⟨u, hr, h5⟩ => ?_) fun _ _ z => z
      subst hr
      dsimp only
      refine wpAny_mono h5 (fun _ s6 ⟨x, H6, I6, r6, y6, st6, fr6⟩ => ?_) fun _ _ z => z
      have P6 := I6.pinned (stat fr6) (T.obj _ _ st6)
      rw [← eE, ← eP, ← eW, ← eA]
      refine wpAny_mono (hgC _ s6 _ H6 x u _ P6 r6 (step x H6 y6)) (fun _ s7 ⟨σ7, H7, I7, kp7, q7⟩ => ?_) fun _ _ z => by rw [eX] at z; exact z
      refine wpAny_mono (htC _ s7 σ7 H7 _ I7 q7) (fun ok s8 ⟨H8, I8, q8⟩ => ?_) fun _ _ z => by rw [eX] at z; exact z
      -- back to the turn's start
      have fin : ∀ {H9 : Hp} {s9 : Shared}, Inv XC ([(s2.heap.objs.size, ({ cls := .type "list", data := .seq its.toArray nn } : Obj))] ++ pinsAt fp s6.heap) σ7 H9 s9 → Inv XC [] (subSt sub σ) H9 s9 ∧ tn (i + 1) s9.heap ∧ (∀ b ∈ fp, H9 b = none) ∧ H9 s2.heap.objs.size = none ∧
          s9.heap.get? s2.heap.objs.size = some { cls := .type "list", data := .seq its.toArray nn } := fun {H9 s9} J => by
        have pD := J.pin (s2.heap.objs.size, ({ cls := .type "list", data := .seq its.toArray nn } : Obj)) (by rw [ePn]; simp)
        have pF : ∀ b ∈ fp, ∀ o, s6.heap.get? b = some o → s9.heap.get? b = some o ∧ H9 b = none := fun b hb o e => by
          have q := J.pin (b, o) (by rw [ePn]; exact List.mem_append_right _ (List.mem_append_right _ (mem_pinsAt hb e)))
          exact ⟨q.1, q.2.1⟩
        refine ⟨?_, T.keep _ _ _ st6 fun b hb o e => (pF b hb o e).1, fun b hb => ?_, pD.2.1, pD.1⟩
        · have J0 : Inv XC [] σ7 H9 s9 := J.pins_of fun p hp => nomatch hp
          exact J0.weak kp7.1.symm fun j v e => kp7.2 j v e
        · obtain ⟨o, e, _⟩ := T.obj _ _ st6 b hb
          exact (pF b hb o e).2
      cases ok with
      | false =>
        rw [if_neg (by simp)]
        rw [if_neg (by simp)] at q8
        obtain ⟨m', hm, w8⟩ := hN _ _ q8
        obtain ⟨a1, a2, a3, a4, a5⟩ := fin I8
        exact ⟨m', hm, i + 1, ys, its, nn, H8, a1, a2, a3, a4, a5, rv4, w8⟩
      | true =>
        rw [if_pos rfl]
        rw [if_pos rfl] at q8
        refine wpAny_mono (heC _ s8 σ7 H8 _ I8 q8) (fun xv s9 ⟨y, H9, I9, r9, n9⟩ => ?_) fun _ _ z => by rw [eX] at z; exact z
        obtain ⟨m', hm, w9⟩ := hN _ _ n9
        obtain ⟨a1, a2, a3, a4, a5⟩ := fin I9
        refine wpAny_list_append_plain (items := its.toArray) ⟨nn, a5⟩ (fun h' ⟨n', hp'⟩ sb => ?_) (by simp; rw [← rv4.length]; omega)
        obtain ⟨q1, q2⟩ := I4.ok.exf s2.heap.objs.size (by rw [eEx]; exact List.mem_cons_self)
        have a1' : Inv XC [] (subSt sub σ) H9 { s9 with heap := h' } := a1.turned (t' := s9.toks) (fun b o hb e => (sb.2 b hb).trans e) a4 q1 (.inl (by rw [eEx]; exact List.mem_cons_self)) q2 (fun p hp => by rw [ePn] at hp; exact nomatch hp)
        refine ⟨m', hm, i + 1, ys ++ [y], its ++ [xv], n', H9, a1', T.keep _ _ _ a2 fun b hb o e => (sb.2 b (fun z => hDfp (by rw [← z]; exact hb))).trans e, a3, a4, ?_, rv4.append (.cons r9 .nil), w9⟩
        rw [hp']
        simp
  subst hs3
  exact codeAny_compStart_list loop (T.self _ 0 _ _ _ (T.keep _ _ _ st2 fun b _ o e => hk31 b o (k23 b o e)) loop)
theorem ps_setComp {N : List Str} {sc : Scope} {i : Nat} {x : Str} {pos' spos : Pos} (hNd : X.N.Nodup) (hxi : X.N[i]? = some x) (hx : Loc X.env.scope x) (hf : X.fn x = true) (S : SubOk N sc N' scope sub) (hc : X.calm = true) (hN : X.N = N) (hsc : X.env.scope = sc) (hi : PI X tg iter wi)
    (hg : ∀ (C : Addr) (s₀ : Shared) (H₀ : Hp) (ex : List Addr), PG (cxC X N' scope C s₀ H₀ ex) tg g)
    (ht : ∀ (C : Addr) (s₀ : Shared) (H₀ : Hp) (ex : List Addr), PIfs (cxC X N' scope C s₀ H₀ ex) ifs tt)
    (he : ∀ (C : Addr) (s₀ : Shared) (H₀ : Hp) (ex : List Addr), PE (cxC X N' scope C s₀ H₀ ex) elt te)
    (hs : ∀ x, foldedSetIterable iter X.env x = pure x) : PS X (.Assign [.Name x pos'] (.ListComp elt [⟨tg, iter, ifs, 0⟩] scope pos) spos) (tAsg (tComp sub wi g tt te) (gName i)) := by
  intro pins s σ H D I h
  have hsw : ∃ b, swapsWith (.ListComp elt [⟨tg, iter, ifs, 0⟩] scope pos) (some (.Name x pos')) spos.line X.env = pure b := ⟨_, rfl⟩
  obtain ⟨b, hsw⟩ := hsw
  cases b with
  | false => exact ps_set hNd hxi hx (pe_comp S hc hN hsc hi hg ht he hs) hsw (.inl hf) pins s σ H D I h
  | true =>
    rw [exec_Assign_Name_used _ _ _ _ hsw]
    refine wpAny_bind (wpAny_standAt (wpAny_bind ?_))
    show wpAny _ X.A (do let _ ← comprehension (.ListComp elt [⟨tg, iter, ifs, 0⟩] scope pos) scope X.env _ (newList []) false (eval iter X.env) (some (assign (.Name x pos') X.env))) _ _ s
    refine wpAny_bind (wpAny_mono (comp_use (use := some (assign (.Name x pos') X.env)) (R := fun _ s' => SP X pins D .next s') S hc hN hsc hi hg ht he hs pins s σ H _ I h ?_) (fun _ s' hq => wpAny_pure (wpAny_pure hq)) fun _ _ e => e)
    intro Da C s5 H5 m I5 fC hn q
    show wpAny _ X.A (assign (.Name x pos') X.env (.ref Da)) _ _ _
    refine wpAny_assign_Name (store_ok2 I5 hNd hxi hx (v := .ref Da) rfl (fun s6 I6 qq0 => ?_) (.inl hf))
    obtain ⟨a, sb, ha⟩ := qq0
    obtain ⟨f0, f1, f2, f3, f4, f5⟩ := fC
    have hCa : C ≠ a := fun z => by
      rcases ha with e | e
      · exact f1 (z.trans e)
      · exact f4 x a e z.symm
    exact ⟨m, hn.sameBut sb hCa, fun h' hs' => ⟨_, H5, I6.turned (t' := s6.toks) (fun b o hb e => hs'.extBut b o hb e) f0 f1 f3 f4 f5, q⟩⟩
end
section
variable {X : Cx} {tg iter elt : Expr} {ifs : List Expr} {scope : Scope} {pos : Pos} {N' : List Str} {sub : List (Option Nat)} {wi : TI} {g : TG} {tt : TT} {te : TE} {N : List Str} {sc : Scope}
theorem js_setC {i : Nat} {x : Str} {pos' spos : Pos} (hNd : X.N.Nodup) (hxi : X.N[i]? = some x) (hx : Loc X.env.scope x) (S : SubOk N sc N' scope sub) (hc : X.calm = true) (hN : X.N = N) (hsc : X.env.scope = sc) (hi : JI X tg iter wi)
    (hg : ∀ (C : Addr) (s₀ : Shared) (H₀ : Hp) (ex : List Addr), JG (cxC X N' scope C s₀ H₀ ex) tg g)
    (ht : ∀ (C : Addr) (s₀ : Shared) (H₀ : Hp) (ex : List Addr), JIfs (cxC X N' scope C s₀ H₀ ex) ifs tt)
    (he : ∀ (C : Addr) (s₀ : Shared) (H₀ : Hp) (ex : List Addr), JE (cxC X N' scope C s₀ H₀ ex) elt te) (hf : X.fn x = true) (h : autoParam (notSet iter = true) L2.auto4._auto_1) :
    JS X (.Assign [.Name x pos'] (.ListComp elt [⟨tg, iter, ifs, 0⟩] scope pos) spos) (tAsg (tComp sub wi g tt te) (gName i)) :=
  ⟨ps_setComp hNd hxi hx hf S hc hN hsc hi.run (fun C s₀ H₀ ex => (hg C s₀ H₀ ex).run) (fun C s₀ H₀ ex => (ht C s₀ H₀ ex).run) (fun C s₀ H₀ ex => (he C s₀ H₀ ex).run) (fs_no h)⟩
end
end L2

namespace L2
open PySem PySem.Spec PyProof.Rows
section
variable {X : Cx} {pins : List (Addr × Obj)} {σ : St} {H : Hp} {s : Shared}
theorem Inv.newtup {wr : List Addr} {T : Addr} {vals : Array Value} {xs : List V} {h'' : Heap} {tk : Nat} (I : Inv X pins σ H s) (hf : ∀ b ∈ wr, FpOk X pins H b) (hT : s.heap.objs.size ≤ T)
    (kall : ∀ b o, b ∉ wr → s.heap.get? b = some o → h''.get? b = some o) (isT' : h''.IsTuple T vals) (hv : Vals xs vals.toList) (hx : xs.length ≤ sizeLine) : Inv X pins σ (upd H T (.tup xs)) { s with heap := h'', toks := tk } := by
  have hTn : H T = none := I.hok.fresh hT
  have nT : ∀ b o, s.heap.get? b = some o → b ≠ T := fun b o e => Nat.ne_of_lt (Nat.lt_of_lt_of_le (Heap.lt_size e) hT)
  have nTH : ∀ b u, H b = some u → b ≠ T := fun b u e z => by rw [z, hTn] at e; cases e
  have nW : ∀ b u, H b = some u → b ∉ wr := fun b u e hb => by rw [(hf b hb).1] at e; cases e
  refine I.step (g' := s.gens) (d' := s.drawn) (ch := wr) (fun b hb => ?_) (fun b o _ _ hc e _ => kall b o hc e) (fun b o _ _ hc e _ => ⟨o.slots, kall b o hc e⟩) (fun b o _ e hn => by rw [upd_ne (nT b o e)]; exact hn)
    (fun b o hc e => ⟨o, kall b o hc e⟩) (fun b ys e => by rw [upd_ne (nTH b _ e)]; exact e) (fun b o u e => by rw [upd_ne (nTH b _ e)]; exact e) (fun b ps e => ⟨#[], by rw [upd_ne (nTH b _ e), e]; simp⟩) (fun m hm => ?_) (fun b u e => ?_) I.bare
  · obtain ⟨f0, f1, f2, f3, f4, f5⟩ := hf b hb
    exact ⟨f3, f1, f4, f5⟩
  · obtain ⟨o, es, ep, ho, r⟩ := hm
    exact ⟨o, es, ep, kall _ o (fun hb => (hf _ hb).2.1 rfl) ho, r⟩
  · by_cases hb : b = T
    · subst hb
      rw [upd_same] at e; cases e
      obtain ⟨o, ho, hcl, nn, hd⟩ := isT'
      exact ⟨hx, vals.toList, hv, o, ho, hcl, nn, by simpa using hd⟩
    · rw [upd_ne hb] at e
      refine (I.hok b u e).stay (fun c v hc' q => kall c v ?_ q) (fun c q => by rw [upd_ne (nTH c _ q)]; exact q) fun c ys q => by rw [upd_ne (nTH c _ q)]; exact q
      rcases hc' with z | z
      · rw [z]; exact nW b u e
      · exact nW c _ z
theorem Inv.only {wr : List Addr} {h' : Heap} {tk : Nat} (I : Inv X pins σ H s) (hf : ∀ b ∈ wr, FpOk X pins H b) (kk : ∀ b o, b ∉ wr → s.heap.get? b = some o → h'.get? b = some o) : Inv X pins σ H { s with heap := h', toks := tk } := by
  have nW : ∀ b u, H b = some u → b ∉ wr := fun b u e hb => by rw [(hf b hb).1] at e; cases e
  refine I.step (g' := s.gens) (d' := s.drawn) (ch := wr) (fun b hb => ?_) (fun b o _ _ hc e _ => kk b o hc e) (fun b o _ _ hc e _ => ⟨o.slots, kk b o hc e⟩) (fun b o _ e hn => hn)
      (fun b o hc e => ⟨o, kk b o hc e⟩) (fun b ys e => e) (fun b o u e => e) (fun b ps e => ⟨#[], by rw [e]; simp⟩) (fun m hm => ?_) (fun b u e => ?_) I.bare
  · obtain ⟨f0, f1, f2, f3, f4, f5⟩ := hf b hb
    exact ⟨f3, f1, f4, f5⟩
  · obtain ⟨o, es, ep, ho, r⟩ := hm
    exact ⟨o, es, ep, kk _ o (fun hb => (hf _ hb).2.1 rfl) ho, r⟩
  · refine (I.hok b u e).stay (fun c v hc' q => kk c v ?_ q) (fun c q => q) fun c ys q => q
    rcases hc' with z | z
    · rw [z]; exact nW b u e
    · exact nW c _ z
end
noncomputable def Ite (K : PySem.W.Frag) (a : Addr) : It :=
  ⟨fun i H => ∃ xs x, SqL K H a xs ∧ xs[i]? = some x,
   fun i H v H' => ∃ T x, H T = none ∧ v = .ref T ∧ (∀ xs, SqL K H a xs → xs[i]? = some x) ∧ H' = upd H T (.tup [.int i, x]),
   fun i H => ∃ xs, SqL K H a xs ∧ xs.length ≤ i⟩
theorem turn_enumL {P : Program} {w : World} {K : PySem.W.Frag} {elts : List Expr} {k : Nat} {pos : Pos} {e it a : Addr} (hne : e ≠ it) :
    Turn P w K (.Tuple elts k pos) (Ite K a) [e, it] e (fun i h => (∃ old, IsEnum h e it i old) ∧ h.IsListIter it a i) where
  mem := by simp
  obj := fun i h st c hc => by
    obtain ⟨⟨old, he⟩, ⟨o1, e1, c1, d1⟩⟩ := st
    simp only [List.mem_cons, List.mem_nil_iff, or_false] at hc
    rcases hc with rfl | rfl
    · exact ⟨_, he, fun v z => by cases z⟩
    · exact ⟨_, e1, fun v z => by rw [d1] at z; cases z⟩
  keep := fun i h h' st kk => by
    obtain ⟨⟨old, he⟩, h1⟩ := st
    exact ⟨⟨old, kk e (by simp) _ he⟩, h1.at fun o q => kk it (by simp) o q⟩
  item := by
    intro X hP hw hK hc i pins s σ H E I hf st hg
    subst hP hw hK
    obtain ⟨⟨old, he⟩, h1⟩ := st
    obtain ⟨xs, x, hq, hx⟩ := hg
    obtain ⟨its, rv, p, _⟩ := I.list hq
    obtain ⟨u, hu, ru⟩ := rv.get hx
    refine wpAny_pyNext_enum_item he h1 p.isList (x := u) (by simpa using hu) hne fun h' a1 a2 a3 a4 hk => ?_
    refine ⟨_, rfl, wpAny_letOwnedTupleGo_enum a1 fun h'' a1' sb => ?_⟩
    have lt : ∀ {c o}, s.heap.get? c = some o → s.heap.objs.size ≠ c := fun e => Nat.ne_of_gt (Heap.lt_size e)
    have lti : s.heap.objs.size ≠ it := by obtain ⟨o, q, _⟩ := h1; exact lt q
    have isT : h''.IsTuple s.heap.objs.size #[.int i s.toks, u] := ⟨_, sb.extBut _ _ (lt he) a3, rfl, _, rfl⟩
    have kall : ∀ b o, b ∉ [e, it] → s.heap.get? b = some o → h''.get? b = some o := fun b o hb q => by
      simp only [List.mem_cons, List.mem_nil_iff, or_false, not_or] at hb
      exact sb.extBut _ _ hb.1 (hk b o hb.1 hb.2 q)
    have hTn : H s.heap.objs.size = none := I.hok.fresh (Nat.le_refl _)
    refine ⟨.ref s.heap.objs.size, _, I.newtup (tk := s.toks + 1) hf (Nat.le_refl _) kall isT (xs := [.int i, x]) (.cons ⟨_, rfl⟩ (.cons ru .nil)) (by simp; decide), rfl, ⟨_, x, hTn, rfl, fun zs hs => by rw [I.list_inj hs hq]; exact hx, rfl⟩, ?_, fun b hb => ?_⟩
    · exact ⟨⟨_, a1'⟩, a2.extBut sb.extBut (Ne.symm hne)⟩
    · have : s.heap.objs.size ≠ b := by
        simp only [List.mem_cons, List.mem_nil_iff, or_false] at hb
        rcases hb with rfl | rfl
        · exact lt he
        · exact lti
      rw [upd_ne (Ne.symm this)]
      exact (hf b hb).1
  done := by
    intro X hP hw hK hc i pins s σ H E I hf st hg
    subst hP hw hK
    obtain ⟨⟨old, he⟩, h1⟩ := st
    obtain ⟨xs, hq, hx⟩ := hg
    obtain ⟨its, rv, p, _⟩ := I.list hq
    have l1 := rv.length
    refine wpAny_pyNext_enum_end (I.ok.hd hc) he h1 p.isList (by simp; omega) fun h' hk => ⟨rfl, I.only (tk := s.toks) hf fun b o hb q => ?_⟩
    simp only [List.mem_cons, List.mem_nil_iff, or_false, not_or] at hb
    exact hk b o hb.2 q
  self := fun _ _ _ _ _ st h => let ⟨⟨_, he⟩, _⟩ := st; wpAny_pyIter_enum he h
theorem enumS_run {X : Cx} {elts : List Expr} {k : Nat} {tp : Pos} {pins : List (Addr × Obj)} {σ : St} {H1 : Hp} {s1 : Shared} {x : Str} {t : Tok} {R : It → Hp → Prop} (hc : X.calm = true) (I1 : Inv X pins σ H1 s1) (q : R (Itp (enumS x) x.cps.size) H1) :
    wpAny (model X.prog X.w) X.A (call (.type "enumerate") [.str x t]) (fun v s1 => wpAny (model X.prog X.w) X.A (pyIter v) (PIE X pins σ (.Tuple elts k tp) R) X.xe s1) X.xe s1 := by
  refine call_enumerate_str fun h' he hit hsz hk => ?_
  have J1 : Inv X pins σ H1 { s1 with heap := h' } := I1.kept (t' := s1.toks) hk
  have ne1 : s1.heap.objs.size + 1 ≠ s1.heap.objs.size := Nat.succ_ne_self _
  have nm : s1.heap.objs.size + 1 ∉ [s1.heap.objs.size] := fun z => ne1 (List.mem_singleton.mp z)
  have hPt : ∀ (i : Nat) (vals : Array Value), (∃ t y, SignAt x i y ∧ vals = #[.int i t, y]) → Vals (enumS x i) vals.toList := by
    rintro i vals ⟨t, y, ⟨c, u, e1, rfl⟩, rfl⟩
    refine .cons ⟨t, rfl⟩ (.cons ⟨u, ?_⟩ .nil)
    rw [show x.cps.getD i 0 = c by simp [Array.getD_eq_getD_getElem?, e1]]
  have fin : ∀ (ty : String) (Dr : ∀ A : Around, A.handled = none → Draws X.prog X.w A s1.heap.objs.size [s1.heap.objs.size] x.cps.size (SignAt x) fun i h => h.IsStrIter s1.heap.objs.size ty x t i), h'.IsStrIter s1.heap.objs.size ty x t 0 →
      wpAny (model X.prog X.w) X.A (pyIter (.ref (s1.heap.objs.size + 1))) (PIE X pins σ (.Tuple elts k tp) R) X.xe { s1 with heap := h' } := by
    intro ty Dr hit'
    have W : ∀ A : Around, A.handled = none → WalksT X.prog X.w A (s1.heap.objs.size + 1) [s1.heap.objs.size + 1, s1.heap.objs.size] [s1.heap.objs.size + 1, s1.heap.objs.size] x.cps.size
        (fun i vals => ∃ t y, SignAt x i y ∧ vals = #[.int i t, y]) (fun i h => (∃ old, IsEnum h (s1.heap.objs.size + 1) s1.heap.objs.size i old) ∧ h.IsStrIter s1.heap.objs.size ty x t i)
        (fun i T h => (∃ y, IsEnumOut h (s1.heap.objs.size + 1) s1.heap.objs.size ((i : Int) + 1) y T) ∧ h.IsStrIter s1.heap.objs.size ty x t (i + 1) ∧ T ≠ s1.heap.objs.size + 1 ∧ T ≠ s1.heap.objs.size) :=
      fun A hA => WalksT.enumerateD (Dr A.in1 hA) (s1.heap.objs.size + 1) ne1 nm (by simp)
    have hself : ∀ (A : Around) (i : Nat) (s : Shared) (Q : Value → Shared → Prop) (E : Value → Shared → Prop), ((∃ old, IsEnum s.heap (s1.heap.objs.size + 1) s1.heap.objs.size i old) ∧ s.heap.IsStrIter s1.heap.objs.size ty x t i) → Q (.ref (s1.heap.objs.size + 1)) s → wpAny (model X.prog X.w) A (pyIter (.ref (s1.heap.objs.size + 1))) Q E s := by
      rintro A i s Q E ⟨⟨old, he⟩, _⟩ hQ
      exact wpAny_pyIter_enum he hQ
    refine hself _ 0 _ _ _ ⟨⟨_, he⟩, hit'⟩ ?_
    refine ⟨s1.heap.objs.size + 1, [s1.heap.objs.size + 1, s1.heap.objs.size], _, _, H1, rfl, J1, turn_T W (fun i => by simp [enumS]; decide) hPt (by simp) ?_ hself, ⟨⟨_, he⟩, hit'⟩, fun b hb => ?_, q⟩
    · rintro i h ⟨⟨old, he⟩, o, ho, hcl, hd⟩ b hb
      rcases List.mem_cons.mp hb with rfl | hb
      · exact ⟨_, he, fun v z => by cases z⟩
      · rw [List.mem_singleton.mp hb]
        exact ⟨o, ho, fun v z => by rw [hd] at z; cases z⟩
    · have hb' : s1.heap.objs.size ≤ b := by
        rcases List.mem_cons.mp hb with rfl | hb
        · exact Nat.le_succ _
        · rw [List.mem_singleton.mp hb]; exact Nat.le_refl _
      exact I1.fpOk hb' (I1.hok.fresh hb')
  cases hx : x.cps.all (· < 128)
  · exact fin "str_iterator" (fun A hA => Draws.strWide hA _ x t) (by simpa [strIterType, hx] using hit)
  · exact fin "str_ascii_iterator" (fun A hA => Draws.strAscii hA _ x t) (by simpa [strIterType, hx] using hit)
noncomputable def iEnum (K : PySem.W.Frag) (ta : TA) : TI := fun σ H R => ta σ H fun vs H1 => (∃ x : Str, vs = [.str x] ∧ R (Itp (enumS x) x.cps.size) H1) ∨ ∃ a xs, vs = [.ref a] ∧ SqL K H1 a xs ∧ R (Ite K a) H1
theorem ji_enum {X : Cx} {K : PySem.W.Frag} {a : Expr} {ta : TA} {elts : List Expr} {k : Nat} {tp p pos : Pos} (hK : X.K = K) (hc : X.calm = true) (hg : Gl X "enumerate") (hm : X.mg "enumerate" = none) (ha : JA X [a] ta) (h : autoParam (notStar a = true) L2.auto4._auto_1) :
    JI X (.Tuple elts k tp) (.Call (.Name "enumerate" p) [a] [] pos) (iEnum K ta) := ⟨by
  subst hK
  intro pins s σ H R I hq
  -- the text's rule wants the reading's own form: split behind the argument
  refine Call_ (ld_blt I hg hm bt_enumerate (PyProof.Rows.callWith_type1 (thn (ha.run pos pins s σ H _ I hq) fun us s1 qq0 => ?_) (se_cons h) rfl))
  obtain ⟨vs, H1, I1, r1, q1⟩ := qq0
  rcases q1 with ⟨x, e, q⟩ | ⟨l, xs, e, hl, q⟩
  · subst e
    obtain ⟨u, rfl, t, rfl⟩ := vals1 r1
    exact enumS_run hc I1 q
  · subst e
    obtain ⟨u, rfl, ru⟩ := vals1 r1
    cases ru
    obtain ⟨its, rv, p1, _⟩ := I1.list hl
    refine call_enumerate_list p1.isList fun h' z1 z2 z3 hk => ?_
    have J1 : Inv X pins σ H1 { s1 with heap := h' } := I1.kept (t' := s1.toks) hk
    refine wpAny_pyIter_enum z1 ?_
    refine ⟨s1.heap.objs.size + 1, _, _, _, H1, rfl, J1, turn_enumL (Nat.succ_ne_self _), ⟨⟨_, z1⟩, z2⟩, fun b hb => ?_, q⟩
    have hb' : s1.heap.objs.size ≤ b := by
      simp only [List.mem_cons, List.mem_nil_iff, or_false] at hb
      have key : ∀ n c : Nat, (c = n + 1 ∨ c = n) → n ≤ c := fun n c h => by omega
      exact key _ _ hb
    exact I1.fpOk hb' (I1.hok.fresh hb')⟩
end L2

namespace L2
open PySem PySem.Spec PyProof.Rows PySem.SeqAt
mutual
noncomputable def DR (H : Hp) : PyData → V → Prop
  | .none, v => v = .non
  | .bool b, v => v = .bl b
  | .int n, v => v = .int n
  | .str x, v => v = .str x
  | .list ds, v => ∃ a vs, v = .ref a ∧ H a = some (.lst vs) ∧ DRs H ds vs
  | .tuple ds, v => ∃ a vs, v = .ref a ∧ H a = some (.tup vs) ∧ DRs H ds vs
  | .dict _, _ => False
noncomputable def DRs (H : Hp) : List PyData → List V → Prop
  | [], vs => vs = []
  | d :: ds, vs => ∃ v r, vs = v :: r ∧ DR H d v ∧ DRs H ds r
end
theorem DR_int {H : Hp} {n : Int} {v : V} : DR H (.int n) v ↔ v = .int n := by rw [DR]
theorem DR_list {H : Hp} {ds : List PyData} {v : V} : DR H (.list ds) v ↔ ∃ a vs, v = .ref a ∧ H a = some (.lst vs) ∧ DRs H ds vs := by rw [DR]
theorem DR_tuple {H : Hp} {ds : List PyData} {v : V} : DR H (.tuple ds) v ↔ ∃ a vs, v = .ref a ∧ H a = some (.tup vs) ∧ DRs H ds vs := by rw [DR]
theorem DRs_nil {H : Hp} {vs : List V} : DRs H [] vs ↔ vs = [] := by rw [DRs]
theorem DRs_cons {H : Hp} {d : PyData} {ds : List PyData} {vs : List V} : DRs H (d :: ds) vs ↔ ∃ v r, vs = v :: r ∧ DR H d v ∧ DRs H ds r := by rw [DRs]
theorem DRs_append {H : Hp} : ∀ {ds es : List PyData} {vs ws : List V}, DRs H ds vs → DRs H es ws → DRs H (ds ++ es) (vs ++ ws)
  | [], _, _, _, h, q => by rw [DRs_nil] at h; subst h; exact q
  | d :: ds, _, _, _, h, q => by
    rw [DRs_cons] at h
    obtain ⟨v, r, rfl, hd, hr⟩ := h
    exact DRs_cons.mpr ⟨v, r ++ _, rfl, hd, DRs_append hr q⟩
theorem DRs_one {H : Hp} {d : PyData} {v : V} (h : DR H d v) : DRs H [d] [v] := DRs_cons.mpr ⟨v, [], rfl, h, DRs_nil.mpr rfl⟩
theorem DRs_len {H : Hp} : ∀ {ds : List PyData} {vs : List V}, DRs H ds vs → vs.length = ds.length
  | [], _, h => by rw [DRs_nil] at h; subst h; rfl
  | d :: ds, _, h => by rw [DRs_cons] at h; obtain ⟨v, r, rfl, _, hr⟩ := h; simp [DRs_len hr]
theorem DRs_at {H : Hp} : ∀ {ds : List PyData} {vs : List V} {i : Nat} {d : PyData}, DRs H ds vs → ds[i]? = some d → ∃ v, vs[i]? = some v ∧ DR H d v
  | [], _, _, _, _, e => by simp at e
  | d :: ds, _, i, d', h, e => by
    rw [DRs_cons] at h
    obtain ⟨v, r, rfl, hd, hr⟩ := h
    cases i with
    | zero => simp at e; subst e; exact ⟨v, rfl, hd⟩
    | succ i => simp at e; obtain ⟨u, h1, h2⟩ := DRs_at hr e; exact ⟨u, by simpa using h1, h2⟩
mutual
theorem DR.reads {P : Program} {w : World} {H : Hp} {h : Heap} (ok : HOk P w H h) : ∀ (d : PyData) (v : V) (u : Value), DR H d v → RelV v u → ∃ as, Reads h u d as
  | .none, _, u, q, r => by rw [DR] at q; subst q; cases r; exact ⟨_, .none⟩
  | .bool b, _, u, q, r => by rw [DR] at q; subst q; cases r; exact ⟨_, .bool _⟩
  | .int n, _, u, q, r => by rw [DR] at q; subst q; obtain ⟨t, rfl⟩ := r; exact ⟨_, .int _ _⟩
  | .str n, _, u, q, r => by rw [DR] at q; subst q; obtain ⟨t, rfl⟩ := r; exact ⟨_, .str _ _⟩
  | .list ds, v, u, q, r => by
    rw [DR] at q
    obtain ⟨a, vs, rfl, e, t⟩ := q
    cases r
    obtain ⟨_, its, n, rv, g⟩ := ok a _ e
    obtain ⟨as, ra⟩ := DRs.reads ok ds vs its t rv
    exact ⟨_, .list g rfl rfl (by simpa using ra)⟩
  | .tuple ds, v, u, q, r => by
    rw [DR] at q
    obtain ⟨a, vs, rfl, e, t⟩ := q
    cases r
    obtain ⟨_, its, rv, g⟩ := ok a _ e
    obtain ⟨as, ra⟩ := DRs.reads ok ds vs its t rv
    obtain ⟨o, ho, hc, n, hd⟩ := g
    exact ⟨_, .tuple ho hc hd (by simpa using ra)⟩
  | .dict _, _, _, q, _ => by rw [DR] at q; exact q.elim
theorem DRs.reads {P : Program} {w : World} {H : Hp} {h : Heap} (ok : HOk P w H h) : ∀ (ds : List PyData) (vs : List V) (us : List Value), DRs H ds vs → Vals vs us → ∃ as, ReadsAll h us ds as
  | [], _, us, q, r => by rw [DRs] at q; subst q; cases r; exact ⟨_, .nil⟩
  | d :: ds, _, us, q, r => by
    rw [DRs] at q
    obtain ⟨v, r', rfl, q1, q2⟩ := q
    cases r with
    | cons a b =>
      obtain ⟨as, h1⟩ := DR.reads ok d v _ q1 a
      obtain ⟨bs, h2⟩ := DRs.reads ok ds r' _ q2 b
      exact ⟨_, .cons h1 h2⟩
end
noncomputable def rEqD : R2 := fun x y H Q => ∃ d e, DR H d x ∧ DR H e y ∧ shaped d = true ∧ shaped e = true ∧ Q (.bl (PyData.eqv d e)) H
noncomputable def rNeD : R2 := fun x y H Q => ∃ d e, DR H d x ∧ DR H e y ∧ shaped d = true ∧ shaped e = true ∧ Q (.bl (!PyData.eqv d e)) H
section
variable {X : Cx}
theorem op_eqD (hu : X.A.units + 64 < cLine) : OpR X (compareOp .Eq) rEqD := by
  intro pins s σ H x y v u Q I rx ry h
  obtain ⟨d, e, h1, h2, h3, h4, q⟩ := h
  obtain ⟨as, r1⟩ := DR.reads I.hok d x v h1 rx
  obtain ⟨bs, r2⟩ := DR.reads I.hok e y u h2 ry
  exact eq_dataH r1 r2 h3 h4 hu ⟨.bl _, H, I, rfl, q⟩
theorem op_neD (hu : X.A.units + 64 < cLine) : OpR X (compareOp .NotEq) rNeD := by
  intro pins s σ H x y v u Q I rx ry h
  obtain ⟨d, e, h1, h2, h3, h4, q⟩ := h
  obtain ⟨as, r1⟩ := DR.reads I.hok d x v h1 rx
  obtain ⟨bs, r2⟩ := DR.reads I.hok e y u h2 ry
  exact ne_dataH r1 r2 h3 h4 hu ⟨.bl _, H, I, rfl, q⟩
noncomputable def rEqB (K : PySem.W.Frag) : R2 := fun x y H Q => rEqA K x y H Q ∨ rEqD x y H Q
noncomputable def rNeB (K : PySem.W.Frag) : R2 := fun x y H Q => rNeA K x y H Q ∨ rNeD x y H Q
theorem op_eqX {K : PySem.W.Frag} (hK : X.K = K) (hu : X.A.units + 64 < cLine) : OpR X (compareOp .Eq) (rEqB K) := (op_eqK hK (Nat.lt_of_le_of_lt (Nat.le_add_right _ _) hu)).or (op_eqD hu)
theorem op_neX {K : PySem.W.Frag} (hK : X.K = K) (hu : X.A.units + 64 < cLine) : OpR X (compareOp .NotEq) (rNeB K) := (op_neK hK hu).or (op_neD hu)
end
section
variable {H : Hp} {Q : VK} {K : PySem.W.Frag} {σ : St}
theorem r_eqBI {i j : Int} (h : Q (.bl (decide (V.int i = V.int j))) H) : rEqB K (.int i) (.int j) H Q := .inl (.inl ⟨rfl, h⟩)
theorem r_eqBS {i j : Str} (h : Q (.bl (decide (V.str i = V.str j))) H) : rEqB K (.str i) (.str j) H Q := .inl (.inl ⟨rfl, h⟩)
theorem r_neBI {i j : Int} (h : Q (.bl (!decide (V.int i = V.int j))) H) : rNeB K (.int i) (.int j) H Q := .inl (.inl ⟨rfl, h⟩)
theorem r_neBB {i j : Bool} (h : Q (.bl (!decide (V.bl i = V.bl j))) H) : rNeB K (.bl i) (.bl j) H Q := .inl (.inl ⟨rfl, h⟩)
theorem r_eqData {x y : V} {d e : PyData} (h1 : DR H d x) (h2 : DR H e y) (hs : shaped d = true) (hs2 : shaped e = true) (h : Q (.bl (PyData.eqv d e)) H) : rEqB K x y H Q := .inr ⟨d, e, h1, h2, hs, hs2, h⟩
theorem r_neData {x y : V} {d e : PyData} (h1 : DR H d x) (h2 : DR H e y) (hs : shaped d = true) (hs2 : shaped e = true) (h : Q (.bl (!PyData.eqv d e)) H) : rNeB K x y H Q := .inr ⟨d, e, h1, h2, hs, hs2, h⟩
theorem r_enumA {a : TA} {R : It → Hp → Prop} (h : a σ H fun vs H1 => (∃ x : Str, vs = [.str x] ∧ R (Itp (enumS x) x.cps.size) H1) ∨ ∃ a xs, vs = [.ref a] ∧ SqL K H1 a xs ∧ R (Ite K a) H1) : iEnum K a σ H R := h
theorem for_enumL {a : Addr} {xs : List V} {g : TG} {tb : TS} {D : Ends} (Pv : Nat → St → Hp → Prop) (h0 : Pv 0 σ H) (hq : ∀ i σ H, i ≤ xs.length → Pv i σ H → SqL K H a xs)
    (hs : ∀ i σ H T x, xs[i]? = some x → Pv i σ H → H T = none → g (.ref T) σ (upd H T (.tup [.int i, x])) fun σ2 H2 => tb { D with nx := Pv (i + 1), ct := Pv (i + 1), bk := D.nx } σ2 H2) (hd : ∀ σ H, Pv xs.length σ H → D.nx σ H) :
    ∃ W : Nat → Nat → St → Hp → Prop, (∃ m, W 0 m σ H) ∧ ∀ i m σ H, W i m σ H →
      ((Ite K a).stop i H ∧ D.nx σ H) ∨ ((Ite K a).go i H ∧ ∃ N : St → Hp → Prop, (∀ σ' H', N σ' H' → ∃ m', m' < m ∧ W (i + 1) m' σ' H') ∧ ∀ x H', (Ite K a).yld i H x H' → g x σ H' fun σ2 H2 => tb { D with nx := N, ct := N, bk := D.nx } σ2 H2) := by
  refine ⟨fun i m σ H => m = xs.length - i ∧ i ≤ xs.length ∧ Pv i σ H, ⟨xs.length, by simp, Nat.zero_le _, h0⟩, ?_⟩
  rintro i m σ H ⟨rfl, hi, p⟩
  have q1 := hq i σ H hi p
  by_cases hlt : i < xs.length
  · refine .inr ⟨⟨xs, xs[i], q1, List.getElem?_eq_getElem hlt⟩, Pv (i + 1), fun σ' H' p' => ⟨xs.length - (i + 1), by omega, rfl, hlt, p'⟩, fun x H' y => ?_⟩
    obtain ⟨T, u, hT, e1, e2, e4⟩ := y
    subst e1 e4
    exact hs i σ H T u (e2 xs q1) p hT
  · have e : i = xs.length := by omega
    subst e
    exact .inl ⟨⟨xs, q1, Nat.le_refl _⟩, hd σ H p⟩
end
end L2

namespace L2
open PySem PySem.Spec PyProof.Rows
section
variable {prog : Program} {w : World} {A : Around} {E : Value → Shared → Prop} {s : Shared}
end
end L2

namespace L2
open PySem PySem.Spec PyProof.Rows
section
variable {X : Cx} {K : PySem.W.Frag} {a b c e : Expr} {ta tb tc te : TE} {pos p p2 p3 : Pos}
theorem j_chain {op op' : CmpOp} {r r' : R2} (ho : OpR X (compareOp op) r) (ho' : OpR X (compareOp op') r') (ha : JE X a ta) (hb : JE X b tb) (hc : JE X c tc) (hm : autoParam (lastMarks [op, op'] [b, c] = false) L2.auto5._auto_1) :
    JE X (.Compare a [op, op'] [b, c] pos) (tChain r r' ta tb tc) := ⟨pe_chain ho ho' ha.run hb.run hc.run hm⟩
theorem jt_chain {op op' : CmpOp} {r r' : R2} (ho : OpR X (compareOp op) r) (ho' : OpR X (compareOp op') r') (ha : JE X a ta) (hb : JE X b tb) (hc : JE X c tc) (hm : autoParam (lastMarks [op, op'] [b, c] = false) L2.auto5._auto_1) :
    JT X (.Compare a [op, op'] [b, c] pos) (tTest (tChain r r' ta tb tc)) := ⟨pt_chain ho ho' ha.run hb.run hc.run hm⟩
end
end L2

namespace L2
open PySem PySem.Spec PyProof.Rows
noncomputable def TbOk (h : Heap) (T : Addr) : Prop := ∃ oT ts, h.get? T = some oT ∧ oT.data = .fields ts ∧ 3 < ts.size
noncomputable def XObj (C : Addr) (dd : Option Addr) (vs : Array Value) : Obj := { cls := .ref C, dict := dd, data := .fields vs }
noncomputable def frA (l : List Env) : List Addr := l.filterMap (·.frame)
section
variable {M : Model} {A : Around} {E : Value → Shared → Prop}
theorem entry_new {base : Heap} {env : Env} {outer : List Env} {L x C : Addr} {dd : Option Addr} {vs : Array Value} {hd : Value} {had : Bool} {Q : Unit → Shared → Prop} {s : Shared}
    (fr : A.frames = some (env :: outer)) (ff : s.heap.FunFrames base (env :: outer)) (fL : env.frame = some L) (ex : s.heap.get? x = some (XObj C dd vs)) (sz : 1 < vs.size) (nx : x ∉ frA (env :: outer))
    (k : ∀ h' T, h'.get? x = some (XObj C dd (vs.setIfInBounds 1 (.ref T))) → s.heap.objs.size ≤ T → TbOk h' T → (∀ b o, b ≠ x → b ∉ frA (env :: outer) → s.heap.get? b = some o → h'.get? b = some o) →
      (∀ b o, b ≠ x → s.heap.get? b = some o → ∃ sl, h'.get? b = some { o with slots := sl }) → Q () { s with heap := h' }) :
    wpAny M A (do let c ← frameOf env; let pl ← entryPlaceOf L had; let t ← EntryCells.newEntry hd c .none (rawInt L) .none pl; setField (.ref x) 1 t) Q E s := by
  refine wpAny_bind (wpAny_frameOf_fun fr ff fL fun g1 so => ?_)
  refine wpAny_bind (wpAny_entryPlaceOf fun pl isp => ?_)
  unfold EntryCells.newEntry newFields
  refine wpAny_bind (wpAny_newObj_type ?_ (isp.sizeOk5 _ _ _ _ _))
  have x1 : g1.get? x = some (XObj C dd vs) := (so.2.1 x nx).trans ex
  have lts : ([hd, Value.ref L, .none, rawInt L, .none] ++ (if pl.isEmpty then List.replicate 6 Value.none else pl)).toArray.size > 3 := by
    simp only [List.size_toArray, List.length_append, List.length_cons, List.length_nil]; omega
  generalize ([hd, Value.ref L, .none, rawInt L, .none] ++ (if pl.isEmpty then List.replicate 6 Value.none else pl)).toArray = tv at lts
  have x2 : (g1.push { cls := .type "traceback", dict := none, data := .fields tv }).get? x = some (XObj C dd vs) := Heap.get?_push_of_some _ x1
  have nTx : g1.objs.size ≠ x := Nat.ne_of_gt (Heap.lt_size x1)
  have t2 : (g1.push { cls := .type "traceback", dict := none, data := .fields tv }).get? g1.objs.size = some { cls := .type "traceback", dict := none, data := .fields tv } := Heap.get?_push_size _ rfl
  have o2 : ∀ b o, g1.get? b = some o → (g1.push { cls := .type "traceback", dict := none, data := .fields tv }).get? b = some o := fun b o e => Heap.get?_push_of_some _ e
  refine wpAny_setField (vs := vs) x2 rfl sz ?_
  have e3 := Heap.get?_update_self (Obj.mapFields (·.setIfInBounds 1 (Value.ref g1.objs.size))) x2 rfl
  have ot : ∀ b, b ≠ x → ((g1.push { cls := .type "traceback", dict := none, data := .fields tv }).update x (Obj.mapFields (·.setIfInBounds 1 (Value.ref g1.objs.size)))).get? b = (g1.push { cls := .type "traceback", dict := none, data := .fields tv }).get? b := fun b hb => Heap.get?_update_other _ _ (Ne.symm hb)
  refine k _ g1.objs.size e3 (by rw [so.1]; exact Nat.le_refl _) ⟨_, tv, (ot _ nTx).trans t2, rfl, lts⟩ (fun b o hb hf e => ?_) (fun b o hb e => ?_)
  · rw [ot b hb]; exact o2 b o ((so.2.1 b hf).trans e)
  · obtain ⟨sl, q⟩ := so.2.2 b o e
    exact ⟨sl, by rw [ot b hb]; exact o2 b _ q⟩
structure NoteK (fs : List Addr) (x C : Addr) (dd : Option Addr) (hd : Option Addr) (h h' : Heap) (T : Addr) : Prop where
  obj : ∃ vs, h'.get? x = some (XObj C dd vs) ∧ vs[1]? = some (.ref T)
  tb : TbOk h' T
  ne : T ≠ x
  new : h.objs.size ≤ T ∨ hd = some T
  keep : ∀ b o, b ≠ x → some b ≠ hd → b ∉ fs → h.get? b = some o → h'.get? b = some o
  slot : ∀ b o, b ≠ x → some b ≠ hd → h.get? b = some o → ∃ sl, h'.get? b = some { o with slots := sl }
  tail : ∀ b o, hd = some b → h.get? b = some o → ∃ o', h'.get? b = some o'
theorem note1 {base : Heap} {env : Env} {outer : List Env} {L x C : Addr} {dd : Option Addr} {vs : Array Value} {Q : Unit → Shared → Prop} {s : Shared}
    (fr : A.frames = some (env :: outer)) (ff : s.heap.FunFrames base (env :: outer)) (fL : env.frame = some L) (ex : s.heap.get? x = some (XObj C dd vs)) (h1 : vs[1]? = some .none) (nx : x ∉ frA (env :: outer))
    (k : ∀ h' T, NoteK (frA (env :: outer)) x C dd none s.heap h' T → Q () { s with heap := h' }) : wpAny M A (noteFrame (.ref x) env) Q E s := by
  unfold noteFrame
  simp only [fL]
  refine wpAny_bind (wpAny_field ex rfl h1 ?_)
  rw [if_neg (by decide)]
  have sz : 1 < vs.size := (Array.getElem?_eq_some_iff.mp h1).1
  refine entry_new fr ff fL ex sz nx fun h' T a1 a2 a3 a4 a5 => k h' T ⟨⟨_, a1, by simp [sz]⟩, a3, ?_, .inl a2, fun b o hb _ hf e => a4 b o hb hf e, fun b o hb _ e => a5 b o hb e, fun b o z => by cases z⟩
  exact Nat.ne_of_gt (Nat.lt_of_lt_of_le (Heap.lt_size ex) a2)
theorem note2 {base : Heap} {env : Env} {outer : List Env} {L x C T0 : Addr} {dd : Option Addr} {vs : Array Value} {Q : Unit → Shared → Prop} {s : Shared}
    (fr : A.frames = some (env :: outer)) (ff : s.heap.FunFrames base (env :: outer)) (fL : env.frame = some L) (ex : s.heap.get? x = some (XObj C dd vs)) (h1 : vs[1]? = some (.ref T0)) (t0 : TbOk s.heap T0) (ne : T0 ≠ x) (nx : x ∉ frA (env :: outer)) (nT : T0 ∉ frA (env :: outer))
    (k : ∀ h' T, NoteK (frA (env :: outer)) x C dd (some T0) s.heap h' T → Q () { s with heap := h' }) : wpAny M A (noteFrame (.ref x) env) Q E s := by
  obtain ⟨oT, ts, g, d, l3⟩ := id t0
  unfold noteFrame
  simp only [fL]
  refine wpAny_bind (wpAny_field ex rfl h1 ?_)
  rw [if_pos (show (Value.ref T0 != Value.none) = true from by simp)]
  refine wpAny_bind (wpAny_field g d (Array.getElem?_eq_getElem l3) ?_)
  by_cases q : (ts[3] == rawInt L) = true
  · rw [if_pos q]
    exact wpAny_pure (k _ T0 ⟨⟨vs, ex, h1⟩, t0, ne, .inr rfl, fun b o _ _ _ e => e, fun b o _ _ e => ⟨o.slots, e⟩, fun b o _ e => ⟨o, e⟩⟩)
  · rw [if_neg q]
    refine wpAny_bind (wpAny_setField g d l3 ?_)
    have tT := Heap.get?_update_self (Obj.mapFields (·.setIfInBounds 3 Value.none)) g (Obj.isFreed_of_fields (Obj.data_mapFields d _))
    have ot : ∀ b, b ≠ T0 → (s.heap.update T0 (Obj.mapFields (·.setIfInBounds 3 Value.none))).get? b = s.heap.get? b := fun b hb => Heap.get?_update_other _ _ (Ne.symm hb)
    have sz : 1 < vs.size := (Array.getElem?_eq_some_iff.mp h1).1
    have ff2 : (s.heap.update T0 (Obj.mapFields (·.setIfInBounds 3 Value.none))).FunFrames base (env :: outer) := ff.of_keeps fun b o hb hn => by
      refine ⟨o, (ot b (fun z => ?_)).trans hb, rfl⟩
      rw [z, g] at hb; cases hb; exact hn _ d
    refine entry_new (s := { s with heap := s.heap.update T0 (Obj.mapFields (·.setIfInBounds 3 Value.none)) }) fr ff2 fL ((ot x (Ne.symm ne)).trans ex) sz nx fun h' T a1 a2 a3 a4 a5 => k h' T ⟨⟨_, a1, by simp [sz]⟩, a3, ?_, .inl (by rw [Heap.size_update] at a2; exact a2), fun b o hb h0 hf e => a4 b o hb hf ((ot b (fun z => h0 (by rw [z]))).trans e), fun b o hb h0 e => a5 b o hb ((ot b (fun z => h0 (by rw [z]))).trans e), fun b o hb e => ?_⟩
    · exact Nat.ne_of_gt (Nat.lt_of_lt_of_le (Heap.lt_size ex) (by rw [Heap.size_update] at a2; exact a2))
    · cases hb
      obtain ⟨sl, z⟩ := a5 T0 _ ne tT
      exact ⟨_, z⟩
theorem land1 {x C T0 : Addr} {dd : Option Addr} {vs : Array Value} {Q : Unit → Shared → Prop} {s : Shared} (ex : s.heap.get? x = some (XObj C dd vs)) (h1 : vs[1]? = some (.ref T0)) (t0 : TbOk s.heap T0) (ne : T0 ≠ x)
    (k : ∀ h', NoteK [] x C dd (some T0) s.heap h' T0 → Q () { s with heap := h' }) : wpAny M A (setFlight (.ref x) none) Q E s := by
  obtain ⟨oT, ts, g, d, l3⟩ := id t0
  unfold setFlight
  refine wpAny_bind (wpAny_field ex rfl h1 ?_)
  rw [if_pos (show (Value.ref T0 != Value.none) = true from by simp)]
  refine wpAny_setField g d l3 (k _ ?_)
  have d2 := Obj.data_mapFields d (·.setIfInBounds 3 ((none : Option Addr).elim Value.none fun f => rawInt f))
  have tT := Heap.get?_update_self (Obj.mapFields (·.setIfInBounds 3 ((none : Option Addr).elim Value.none fun f => rawInt f))) g (Obj.isFreed_of_fields d2)
  have ot : ∀ b, b ≠ T0 → (s.heap.update T0 (Obj.mapFields (·.setIfInBounds 3 ((none : Option Addr).elim Value.none fun f => rawInt f)))).get? b = s.heap.get? b := fun b hb => Heap.get?_update_other _ _ (Ne.symm hb)
  exact ⟨⟨vs, (ot x (Ne.symm ne)).trans ex, h1⟩, ⟨_, _, tT, d2, by simpa using l3⟩, ne, .inr rfl, fun b o _ h0 _ e => (ot b (fun z => h0 (by rw [z]))).trans e, fun b o _ h0 e => ⟨o.slots, (ot b (fun z => h0 (by rw [z]))).trans e⟩, fun b o hb e => by cases hb; exact ⟨_, tT⟩⟩
end
end L2

namespace L2
open PySem PySem.Spec PyProof.Rows
noncomputable def VEm : List Value := [.type "ValueError", .type "Exception", .type "BaseException", .type "object"]
noncomputable def xIn (K : PySem.W.Frag) (D : Addr) : Bool := match K.lookup D with
  | some ⟨.type "type", _, .cls cd, sl⟩ => (match cd.mro, sl.toList with
    | .ref E :: bm, [_, _, _, _, some (.builtin n), _] => E == D && n == "ValueError.__new__" && cd.hasDel == false && cd.hasDict && PySem.W.tailIn K VEm bm
    | _, _ => false)
  | _ => false
theorem xIn_of {K : PySem.W.Frag} {D : Addr} (q : xIn K D = true) : ∃ nm qn N bs bm sn sub ab col dd k0 k1 k2 k3 k5, K.lookup D = some (excClassObj nm qn D N bs bm true sn sub ab col dd k0 k1 k2 k3 k5 "ValueError.__new__") ∧ ∀ h, K.In h → OwnTail h VEm bm := by
  unfold xIn at q
  split at q
  · rename_i dd cd sl ho
    split at q
    · rename_i D' bm k0 k1 k2 k3 n k5 hm hs
      simp only [Bool.and_eq_true, beq_iff_eq] at q
      obtain ⟨⟨⟨⟨e1, e2⟩, e3⟩, e4⟩, e5⟩ := q
      subst e1 e2
      obtain ⟨nm, bs, mro, ns, qn, hd, sn, sub, ab, col, del⟩ := cd
      dsimp only at hm e3 e4
      subst hm e3 e4
      have hsl : sl = #[k0, k1, k2, k3, some (.builtin "ValueError.__new__"), k5] := by
        obtain ⟨l⟩ := sl
        dsimp only at hs
        rw [hs]
      subst hsl
      exact ⟨nm, qn, ns, bs, bm, sn, sub, ab, col, dd, k0, k1, k2, k3, k5, ho, fun h X => PySem.W.tail_of_in X e5⟩
    · cases q
  · cases q
section
variable {prog : Program} {w : World} {A : Around} {K : PySem.W.Frag} {D f : Addr} {E : Value → Shared → Prop}
theorem type_call_x {h : Heap} {g : Array GenState} {d : Drawn} {t : Nat} {os : OsState} {us : List Value} {Q : Fin → Shared → Prop} (X : K.In h) (hx : xIn K D = true)
    (hi : PySem.W.findIn K (.ref D) "__init__" = some (some (.ref f))) (hf : PySem.W.typeIn K (.ref f) = some (.type "function")) (hl : us.length ≤ sizeLine)
    (k : wpAny (model prog w) A (call (.ref f) (.ref (h.objs.size + 1) :: us)) (fun r s' => r = .none ∧ Q (.done (.ret (.ref (h.objs.size + 1)))) s') E
      ⟨(h.push { cls := .type "tuple", data := .seq us.toArray }).push (XObj D none #[.ref h.objs.size, .none, .none, .none, .bool false, .none]), g, d, t, os⟩) :
    wpAny (model prog w) A (Builtin.«type.__call__» ⟨.ref D :: us, []⟩) Q E ⟨h, g, d, t, os⟩ := by
  obtain ⟨nm, qn, N, bs, bm, sn, sub, ab, col, dd, k0, k1, k2, k3, k5, lk0, tl⟩ := xIn_of hx
  have T := tl h X
  have hD := X _ _ lk0
  have L3 := PySem.W.looks_findIn (M := model prog w) X hi
  have L4 := PySem.W.bind_fn (M := model prog w) X (.ref (h.objs.size + 1)) hf
  repeat (first | with_reducible refine wpAny_loadPart_at hD ?_ | with_reducible refine wpAny_madeBy_exc hD ?_ | wp_step)
  refine codeAny_call_builtin_code (Code.quiet_builtin _ F.excBase_ValueError.quiet) (wpAny_check_new_subT F.excBase_ValueError T hD (codeAny_exc_new_subT F.excBase_ValueError T hD ?_ hl))
  show wpAny _ _ _ _ _ _
  have keep : ∀ b o, h.get? b = some o → ((h.push { cls := .type "tuple", data := .seq us.toArray }).push (XObj D none #[.ref h.objs.size, .none, .none, .none, .bool false, .none])).get? b = some o := fun b o q => Heap.get?_push_of_some _ (Heap.get?_push_of_some _ q)
  have gx : ((h.push { cls := .type "tuple", data := .seq us.toArray }).push (XObj D none #[.ref h.objs.size, .none, .none, .none, .bool false, .none])).get? (h.objs.size + 1) = some (XObj D none #[.ref h.objs.size, .none, .none, .none, .bool false, .none]) := by
    have := Heap.get?_push_size (h.push { cls := .type "tuple", data := .seq us.toArray }) (o := XObj D none #[.ref h.objs.size, .none, .none, .none, .bool false, .none]) rfl
    rwa [Heap.size_push] at this
  have hD1 := keep _ _ hD
  have M3 := L3.keeps keep
  have M4 := L4.keeps keep
  have cD : (Value.ref D :: bm).contains (.ref D) = true := by simp
  unfold XObj at gx M3 M4 hD1 k
  unfold isInstance
  repeat (first | with_reducible refine wpAny_loadPart_at gx ?_ | (with_reducible refine wpAny_isSubtype_exc hD1 ?_; rw [cD]) | wp_step)
  show wpAny _ _ (typeLookup (.ref D) _) _ _ _
  refine M3.at ?_
  refine wpAny_holding (wpAny_bind (M4.at ?_))
  dsimp only
  refine wpAny_bind (wpAny_mono k (fun r s' hr => ?_) fun _ _ z => z)
  obtain ⟨rfl, z⟩ := hr
  wp_walk
  exact z
theorem call_x {s : Shared} {us : List Value} {Q : Value → Shared → Prop} (X : K.In s.heap) (hx : xIn K D = true)
    (hi : PySem.W.findIn K (.ref D) "__init__" = some (some (.ref f))) (hf : PySem.W.typeIn K (.ref f) = some (.type "function")) (hl : us.length ≤ sizeLine)
    (k : wpAny (model prog w) (A.under (.builtin "type.__call__" ⟨.ref D :: us, []⟩)) (call (.ref f) (.ref (s.heap.objs.size + 1) :: us)) (fun r s' => r = .none ∧ Q (.ref (s.heap.objs.size + 1)) s') E
      { s with heap := (s.heap.push { cls := .type "tuple", data := .seq us.toArray }).push (XObj D none #[.ref s.heap.objs.size, .none, .none, .none, .bool false, .none]) }) :
    wpAny (model prog w) A (call (.ref D) us) Q E s := by
  obtain ⟨h, g, d, t, os⟩ := s
  obtain ⟨nm, qn, N, bs, bm, sn, sub, ab, col, dd, k0, k1, k2, k3, k5, lk0, tl⟩ := xIn_of hx
  have hD := X _ _ lk0
  have f1 := tc_lookup
  have f2 := tc_bind (.ref D)
  have hT : (⟨h, g, d, t, os⟩ : Shared).TypeIs (.ref D) "type" := ⟨_, hD, rfl⟩
  refine wpAny_call (codeAny_of_tree ?_)
  show wpAny _ _ (callAny (.ref D) _) _ _ _
  repeat (any_goals (first | assumption | with_reducible refine wpAny_loadPart_at hD ?_ | wp_step))
  refine ⟨rfl, codeAny_call_builtin_at (Code.quiet_builtin _ (by decide +kernel)) entry_typeCall (wpAny_check_type_call_sub hD (type_call_x X hx hi hf hl ?_))⟩
  exact k
end
end L2

namespace L2
open PySem PySem.Spec PyProof.Rows
noncomputable def excO (x C dx : Addr) : HO := .ext fun h => ∃ vs, h.get? x = some (XObj C (some dx) vs)
noncomputable def excRaw (x C : Addr) : HO := .ext fun h => ∃ t, h.get? x = some (XObj C none #[.ref t, .none, .none, .none, .bool false, .none])
theorem excO_ok {P : Program} {w : World} {H : Hp} {h : Heap} {x C dx : Addr} {vs : Array Value} (e : h.get? x = some (XObj C (some dx) vs)) : ObjOk P w H h x (excO x C dx) :=
  ⟨⟨vs, e⟩, ⟨_, e⟩, fun h1 h2 ⟨vs, e⟩ k => ⟨vs, k _ e⟩⟩
structure Head (X : Cx) (pins : List (Addr × Obj)) (H : Hp) (x C dx T : Addr) (h : Heap) : Prop where
  obj : ∃ vs, h.get? x = some (XObj C (some dx) vs) ∧ vs[1]? = some (.ref T)
  tb : TbOk h T
  fp : FpOk X pins H T
  tr : H x = some (excO x C dx)
theorem Head.ne {X : Cx} {pins : List (Addr × Obj)} {H : Hp} {x C dx T : Addr} {h : Heap} (a : Head X pins H x C dx T h) : T ≠ x := fun z => by
  have := a.fp.1
  rw [z, a.tr] at this; cases this
noncomputable def Fly (X : Cx) (pins : List (Addr × Obj)) (H : Hp) (x C dx : Addr) (h : Heap) : Prop :=
  H x = some (excO x C dx) ∧ ((∃ vs, h.get? x = some (XObj C (some dx) vs) ∧ vs[1]? = some .none) ∨ ∃ T, Head X pins H x C dx T h)
section
variable {X : Cx} {pins : List (Addr × Obj)} {σ : St} {H : Hp} {s : Shared} {x C dx : Addr} {h' : Heap} {T : Addr} {hd : Option Addr}
theorem Inv.noted {fs : List Addr} (I : Inv X pins σ H s) (hx : H x = some (excO x C dx)) (hh : ∀ b, hd = some b → FpOk X pins H b) (hf : ∀ b ∈ fs, b ∈ X.env.locals :: X.fs) (N : NoteK fs x C (some dx) hd s.heap h' T) : Inv X pins σ H { s with heap := h' } := by
  obtain ⟨m, ⟨oL, esL, epL, hoL, rL⟩, _⟩ := id I.loc
  have fsF : ∀ b ∈ fs, H b = none := fun b hb => by
    rcases List.mem_cons.mp (hf b hb) with e | hb
    · rw [e]; exact I.free
    · obtain ⟨_, o, ho, _⟩ := I.ok.funs.mem hb
      exact I.base.free b o ho (I.ok.frf b hb) fun z => I.ok.exfs b z hb
  have nx : ∀ b, H b = none → b ≠ x := fun b n z => by rw [z, hx] at n; cases n
  have hdF : ∀ b, hd = some b → H b = none := fun b e => (hh b e).1
  have mem : ∀ b, b ∉ hd.toList → some b ≠ hd := fun b nb z => nb (by rw [← z]; simp)
  refine I.step (g' := s.gens) (d' := s.drawn) (t' := s.toks) (ch := hd.toList) (fun b hb => ?_) (fun b o hL hb hc e n => ?_) (fun b o hL hb hc e n => ?_) (fun _ _ _ _ n => n) (fun b o hc e => ?_) (fun _ _ e => e) (fun _ _ _ e => e) (fun b ps e => ⟨#[], by rw [e]; simp⟩) (fun m hm => ?_) (fun b u e => ?_) I.bare
  · have e : hd = some b := by cases hd <;> simp_all
    obtain ⟨_, a2, _, a4, a5, a6⟩ := hh b e
    exact ⟨a4, a2, a5, a6⟩
  · refine N.keep b o (nx b n) (mem b hc) (fun z => ?_) e
    rcases List.mem_cons.mp (hf b z) with q | q
    · exact hL q
    · exact hb q
  · exact N.slot b o (nx b n) (mem b hc) e
  · by_cases q : b = x
    · obtain ⟨vs, z, _⟩ := N.obj
      exact ⟨_, by rw [q]; exact z⟩
    · obtain ⟨sl, z⟩ := N.slot b o q (mem b hc) e
      exact ⟨_, z⟩
  · obtain ⟨o, es, ep, ho, r⟩ := hm
    obtain ⟨sl, z⟩ := N.slot _ o (nx _ I.free) (fun q => (hh _ q.symm).2.1 rfl) ho
    exact ⟨_, es, ep, z, r⟩
  · by_cases q : b = x
    · subst q
      rw [hx] at e; cases e
      obtain ⟨vs, z, _⟩ := N.obj
      exact excO_ok z
    · refine (I.hok b u e).stay (fun c v hc z => ?_) (fun _ q => q) fun _ _ q => q
      have tc : ∃ u, H c = some u := by
        rcases hc with rfl | hc
        · exact ⟨_, e⟩
        · exact ⟨_, hc⟩
      obtain ⟨uc, tc⟩ := tc
      refine N.keep c v (fun zz => ?_) (fun zz => ?_) (fun zz => ?_) z
      · rcases hc with rfl | hc
        · exact q zz
        · rw [zz, hx] at hc; cases hc
      · rw [hdF c zz.symm] at tc; cases tc
      · rw [fsF c zz] at tc; cases tc
theorem fly_note {A : Around} {E : Value → Shared → Prop} {Q : Unit → Shared → Prop} (I : Inv X pins σ H s) (hst : X.stack = X.env :: X.outer) (hfr : X.env.frame = some X.env.locals) (hA : A.frames = some X.stack) (F : Fly X pins H x C dx s.heap)
    (k : ∀ h' T, Inv X pins σ H { s with heap := h' } → Head X pins H x C dx T h' → Q () { s with heap := h' }) : wpAny (model X.prog X.w) A (noteFrame (.ref x) X.env) Q E s := by
  have ff : s.heap.FunFrames X.base (X.env :: X.outer) := hst ▸ I.stack
  have sub : ∀ b ∈ frA (X.env :: X.outer), b ∈ X.env.locals :: X.fs := fun b hb => I.stkSub b (by rw [hst]; exact hb)
  have nf : ∀ b u, H b = some u → b ∉ frA (X.env :: X.outer) := fun b u e z => by
    rw [I.stkFree b (by rw [hst]; exact z)] at e; cases e
  obtain ⟨hx, ⟨vs, e, h1⟩ | ⟨T0, hT⟩⟩ := F
  · refine note1 (hst ▸ hA) ff hfr e h1 (nf x _ hx) fun h' T N => ?_
    have J := I.noted hx (fun b z => by cases z) sub N
    refine k h' T J ⟨N.obj, N.tb, ?_, hx⟩
    have zT : s.heap.objs.size ≤ T := by rcases N.new with z | z; exact z; cases z
    exact I.fpOk zT (I.hok.fresh zT)
  · obtain ⟨vs, e, h1⟩ := hT.obj
    refine note2 (hst ▸ hA) ff hfr e h1 hT.tb hT.ne (nf x _ hx) (fun z => ?_) fun h' T N => ?_
    · rcases List.mem_cons.mp (sub T0 z) with q | q
      · exact hT.fp.2.1 q
      · exact hT.fp.2.2.1 q
    · have J := I.noted hx (fun b z => by cases z; exact hT.fp) sub N
      refine k h' T J ⟨N.obj, N.tb, ?_, hx⟩
      rcases N.new with z | z
      · exact I.fpOk z (I.hok.fresh z)
      · cases z; exact hT.fp
theorem fly_land {A : Around} {E : Value → Shared → Prop} {Q : Unit → Shared → Prop} (I : Inv X pins σ H s) (F : Head X pins H x C dx T s.heap)
    (k : ∀ h', Inv X pins σ H { s with heap := h' } → Head X pins H x C dx T h' → Q () { s with heap := h' }) : wpAny (model X.prog X.w) A (setFlight (.ref x) none) Q E s := by
  obtain ⟨vs, e, h1⟩ := F.obj
  refine land1 e h1 F.tb F.ne fun h' N => ?_
  exact k h' (I.noted F.tr (fun b z => by cases z; exact F.fp) (fun b z => absurd z (by simp)) N) ⟨N.obj, N.tb, F.fp, F.tr⟩
noncomputable def CX1 (P : Program) (w : World) : CXT := fun outer H s E e s' => ∃ x C dx T H', e = .ref x ∧ s'.os = s.os ∧ AllBare s'.gens ∧ Un (frs outer) [] H H' s.heap s'.heap ∧ HOk P w H' s'.heap ∧ H' x = some (excO x C dx) ∧ H' T = none ∧ s.heap.objs.size ≤ T ∧
  (∃ vs, s'.heap.get? x = some (XObj C (some dx) vs) ∧ vs[1]? = some (.ref T)) ∧ TbOk s'.heap T ∧ E (.ref C) (some x) H'
noncomputable def XE (X : Cx) (pins : List (Addr × Obj)) (R : St → XK) (e : Value) (s' : Shared) : Prop := ∃ x C dx σ H', e = .ref x ∧ Inv X pins σ H' s' ∧ Fly X pins H' x C dx s'.heap ∧ R σ (.ref C) (some x) H'
theorem xe_call {R : St → XK} {e : Value} {s' : Shared} (I : Inv X pins σ H s) (c : CX1 X.prog X.w X.stack H s (R σ) e s') : XE X pins R e s' := by
  obtain ⟨x, C, dx, T, H', rfl, os, bare, un, hok, tx, tT, zT, ob, tb, r⟩ := c
  obtain ⟨hh, g, d, t, os'⟩ := s'
  obtain rfl : os' = s.os := os
  have J := I.call (h' := hh) (g' := g) (d' := d) (t' := t) (ch := []) un hok bare (fun b z => absurd z (by simp))
  exact ⟨x, C, dx, σ, H', rfl, J, ⟨tx, .inr ⟨T, ob, tb, I.fpOk zT tT, tx⟩⟩, r⟩
noncomputable def PassX (X : Cx) (R : St → XK) : Prop := ∀ (pins : List (Addr × Obj)) (e : Value) (s' : Shared), XE X pins R e s' → X.xe e s'
end
theorem pass_def {P : Program} {w : World} {K : PySem.W.Frag} {mg : Str → Option Value} {base : Heap} {N : List Str} {qual : Str} {scope : Scope} {f : Addr} {cd : Value} {A : Around} {outer : List Env} {s : Shared} {H : Hp} {E : XK} :
    PassX (cxOf (CX1 P w) P w K mg base N qual scope f cd A outer s H E) (fun _ => E) := by
  rintro pins e s' ⟨x, C, dx, σ, H', he, I, F, r⟩
  subst he
  show wpAny _ _ (leaving _ _) _ _ _
  unfold leaving
  refine wpAny_bind (fly_note (X := cxOf (CX1 P w) P w K mg base N qual scope f cd A outer s H E) I rfl rfl I.ok.frames F fun h1 T J1 F1 => ?_)
  refine fly_land (X := cxOf (CX1 P w) P w K mg base N qual scope f cd A outer s H E) J1 F1 fun h2 J2 F2 => ?_
  refine ⟨x, C, dx, T, H', rfl, J2.os, J2.bare, J2.base, J2.hok, F2.tr, F2.fp.1, ?_, F2.obj, F2.tb, r⟩
  rcases F2.fp.2.2.2.1 with z | z
  · exact absurd (show T ∈ ([] : List Addr) from z) (by simp)
  · exact z
end L2

namespace L2
open PySem PySem.Spec PyProof.Rows
noncomputable def excD (d : Addr) (fs : List (Str × V)) : HO := .ext fun h => ∃ mA, h.Ns1 d mA ∧ ∀ f, RelO (fs.lookup f) (mA f)
theorem excD_ok {P : Program} {w : World} {H : Hp} {h : Heap} {d : Addr} {fs : List (Str × V)} {mA : Str → Option Value} (n : h.Ns1 d mA) (r : ∀ f, RelO (fs.lookup f) (mA f)) : ObjOk P w H h d (excD d fs) := by
  refine ⟨⟨mA, n, r⟩, let ⟨o, _, _, e, _⟩ := n; ⟨o, e⟩, fun h1 h2 ⟨m, n, r⟩ k => ⟨m, ?_, r⟩⟩
  obtain ⟨o, es, ep, e, q⟩ := n
  exact ⟨o, es, ep, k _ e, q⟩
theorem excD_of {P : Program} {w : World} {H : Hp} {h : Heap} {d : Addr} {fs : List (Str × V)} (ok : HOk P w H h) (e : H d = some (excD d fs)) : ∃ mA, h.Ns1 d mA ∧ ∀ f, RelO (fs.lookup f) (mA f) := (ok _ _ e).1
noncomputable def excNew (x C d : Addr) : HO := .ext fun h => ∃ t, h.get? x = some (XObj C (some d) #[.ref t, .none, .none, .none, .bool false, .none])
theorem excNew_ok {P : Program} {w : World} {H : Hp} {h : Heap} {x C d t : Addr} (e : h.get? x = some (XObj C (some d) #[.ref t, .none, .none, .none, .bool false, .none])) : ObjOk P w H h x (excNew x C d) :=
  ⟨⟨t, e⟩, ⟨_, e⟩, fun h1 h2 ⟨t, e⟩ k => ⟨t, k _ e⟩⟩
theorem excNew_of {P : Program} {w : World} {H : Hp} {h : Heap} {x C d : Addr} (ok : HOk P w H h) (e : H x = some (excNew x C d)) : ∃ t, h.get? x = some (XObj C (some d) #[.ref t, .none, .none, .none, .bool false, .none]) := (ok _ _ e).1
noncomputable def refsThen : List Value → Bool
  | [.type a, .type b, .type c, .type d] => a == "ValueError" && b == "Exception" && c == "BaseException" && d == "object"
  | .ref _ :: r => refsThen r
  | _ => false
theorem refsThen_ve {l : List Value} (e : refsThen l = true) : (∃ a r, l = .ref a :: r ∧ refsThen r = true) ∨ l = VEm := by
  unfold refsThen at e
  split at e
  · simp only [Bool.and_eq_true, beq_iff_eq] at e
    obtain ⟨⟨⟨rfl, rfl⟩, rfl⟩, rfl⟩ := e
    exact .inr rfl
  · exact .inl ⟨_, _, rfl, e⟩
  · cases e
theorem refuse_refs (self : Value) : ∀ (l : List Value), refsThen l = true → refuseLoop self "__setattr__" l = pure ()
  | [], e => by cases e
  | v :: r, e => by
    rcases refsThen_ve e with ⟨a, r', q, e'⟩ | q
    · cases q
      rw [refuseLoop_ref]
      exact refuse_refs self r e'
    · rw [q]
      exact F.store_ValueError.passes self
theorem refs_has : ∀ (l : List Value), refsThen l = true → l.contains (.type "object") = true ∧ l.contains (.type "BaseException") = true
  | [], e => by cases e
  | v :: r, e => by
    rcases refsThen_ve e with ⟨a, r', q, e'⟩ | q
    · cases q
      obtain ⟨h1, h2⟩ := refs_has r e'
      exact ⟨by rw [List.contains_cons, h1, Bool.or_true], by rw [List.contains_cons, h2, Bool.or_true]⟩
    · rw [q]
      decide
noncomputable def xcIn (K : PySem.W.Frag) (C : Addr) : Bool := xIn K C && (PySem.W.clsIn K C).any (fun cd => refsThen cd.mro && cd.hasDict) && PySem.W.findIn K (.ref C) "__setattr__" == some (some (.builtin "object.__setattr__")) &&
  PySem.W.findIn K (.ref C) "__getattribute__" == some (some (.builtin "BaseException.__getattribute__")) && PySem.W.findIn K (.ref C) "__getattr__" == some none
structure XCls (K : PySem.W.Frag) (C : Addr) : Prop where
  xi : xIn K C = true
  ov : ∃ cd, PySem.W.clsIn K C = some cd ∧ refsThen cd.mro = true ∧ cd.hasDict = true
  sa : PySem.W.findIn K (.ref C) "__setattr__" = some (some (.builtin "object.__setattr__"))
  ga : PySem.W.findIn K (.ref C) "__getattribute__" = some (some (.builtin "BaseException.__getattribute__"))
  gh : PySem.W.findIn K (.ref C) "__getattr__" = some none
theorem xcIn_of {K : PySem.W.Frag} {C : Addr} (h : xcIn K C = true) : XCls K C := by
  unfold xcIn at h
  simp only [Bool.and_eq_true, beq_iff_eq] at h
  obtain ⟨⟨⟨⟨h1, h2⟩, h3⟩, h4⟩, h5⟩ := h
  obtain ⟨cd, a, b⟩ := PySem.W.any_some h2
  simp only [Bool.and_eq_true] at b
  exact ⟨h1, ⟨cd, a, b.1, b.2⟩, h3, h4, h5⟩
theorem refs_ne {l : List Value} (e : refsThen l = true) : l.isEmpty = false := by
  cases l with
  | nil => cases e
  | cons _ _ => rfl
section
variable {prog : Program} {w : World} {A : Around} {s : Shared} {K : PySem.W.Frag} {x C : Addr} {R : Result → Shared → Prop}
theorem XCls.mro {c : Value} {b : Bool} (k : XCls K C) (h : ∀ cd, PySem.W.clsIn K C = some cd → refsThen cd.mro = true → cd.mro.contains c = b) : PySem.W.mroIn K C c = some b := by
  obtain ⟨cd, a, o, _⟩ := k.ov
  unfold PySem.W.mroIn
  rw [a, Option.bind_some, if_neg (by rw [refs_ne o]; decide), h cd a o]
theorem XCls.isObj (k : XCls K C) : PySem.W.mroIn K C (.type "object") = some true := k.mro fun cd _ o => (refs_has _ o).1
theorem osa_x {ox : Obj} {od : Option Obj} {name : Str} {tk : Tok} {v : Value} (X : K.In s.heap) (I : PySem.W.InstAt s.heap x ox C od) (c : XCls K C) (ht : NoAttr K C name)
    (h : wpAny (model prog w) A.in1 (Builtin.ObjectAttr.storeInOwnDict (.ref x) (.ref C) (.str name tk) name v false)
      (fun fin s' => match fin with | .done f => R (.ok f) s' | .again c' => c'.quiet = true ∧ codeAny (model prog w) A c' R s') (fun e s' => R (.error e) s') s) :
    codeAny (model prog w) A (.call (.builtin "object.__setattr__") ⟨[.ref x, .str name tk, v], []⟩) R s := by
  obtain ⟨cd, hc, ho, _⟩ := c.ov
  have sub : PySem.W.Looks (model prog w) s.heap (isInstance (.ref x) (.type "object")) true := I.type.andThen (PySem.W.looks_mroIn X c.isObj)
  refine codeAny_call_builtin F.store_object.slot.plain F.store_object.entry (@PySem.W.check_slot (model prog w) _ _ s "object.__setattr__" "object" "__setattr__" (.ref x) [.str name tk, v] [] _ F.store_object.kind F.store_object.split sub (F.store_object.args (.ref x) (.str name tk) v) ?_)
  have hm : PySem.W.Looks (model prog w) s.heap (mroOf (.ref C)) cd.mro := (PySem.W.looks_clsIn X hc).andThen .now
  have L3 : PySem.W.Looks (model prog w) s.heap (Builtin.ObjectAttr.storeTaker? none) none := .now
  rw [PySem.W.osa_eq, refuse_eq]
  refine wpAny_bind (wpAny_bind (I.type.here (wpAny_bind (hm.here ?_))))
  rw [refuse_refs _ _ ho]
  refine wpAny_pure (wpAny_bind (I.type.here (wpAny_bind ((PySem.W.looks_findIn X ht).here (wpAny_bind (L3.here ?_))))))
  exact h
end
theorem upd_swap {H : Hp} {d x : Addr} {a b c : HO} (n : d ≠ x) : upd (upd (upd H d a) x b) d c = upd (upd H x b) d c := by
  funext y
  unfold upd
  by_cases h : y = d
  · simp [h]
  · simp [h]
section
variable {X : Cx} {pins : List (Addr × Obj)} {σ : St} {H : Hp} {s : Shared} {x C d : Addr} {fs : List (Str × V)} {f : Str} {v y : V} {u : Value} {A : Around} {E : Value → Shared → Prop}
theorem setx0 {Q : Unit → Shared → Prop} (I : Inv X pins σ H s) (e : H x = some (excRaw x C)) (c : XCls X.K C) (n : NoAttr X.K C f) (ry : RelV y u)
    (h : ∀ s' d, H d = none → d ≠ x → Inv X pins σ (upd (upd H x (excNew x C d)) d (excD d [(f, y)])) s' → Q () s') : wpAny (model X.prog X.w) A (setAttr (.ref x) f u) Q E s := by
  obtain ⟨⟨t, hx⟩, -, -⟩ : ObjOk X.prog X.w H s.heap x (excRaw x C) := I.hok x _ e
  obtain ⟨cd, hc, ho, hd⟩ := c.ov
  have J : PySem.W.InstAt s.heap x (XObj C none #[.ref t, .none, .none, .none, .bool false, .none]) C none := ⟨hx, rfl, rfl, True.intro⟩
  refine PySem.W.set_plain I.kIn J c.sa (osa_x (s := { s with toks := s.toks + 1 }) I.kIn J c n ?_)
  refine wpAny_bind (wpAny_pure (wpAny_bind (wpAny_bind (wpAny_loadPart hx (wpAny_bind ((PySem.W.looks_clsIn (M := model X.prog X.w) I.kIn hc).here (s := { s with toks := s.toks + 1 }) ?_))))))
  rw [hd]
  have hp : s.heap.objs.size ≠ x := Nat.ne_of_gt (Heap.lt_size hx)
  have hx1 : (s.heap.push { cls := .type "dict", data := .dict #[] }).get? x = some (XObj C none #[.ref t, .none, .none, .none, .bool false, .none]) := Heap.get?_push_of_some _ hx
  have d1 : (s.heap.push { cls := .type "dict", data := .dict #[] }).get? s.heap.objs.size = some { cls := .type "dict", data := .dict #[] } := Heap.get?_push_size _ rfl
  have n1 : ∀ {hh : Heap}, hh.get? s.heap.objs.size = some { cls := .type "dict", data := .dict #[] } → hh.Ns1 s.heap.objs.size (fun _ => none) := fun q => Heap.Ns1.of_empty ⟨_, #[], _, q, rfl, fun e he => absurd he (by simp), fun _ => rfl⟩
  have I1 : Inv X pins σ (upd H s.heap.objs.size (excD s.heap.objs.size [])) { s with heap := s.heap.push { cls := .type "dict", data := .dict #[] }, toks := s.toks + 1 } :=
    I.laid (t' := s.toks + 1) (fun b o q => Heap.get?_push_of_some _ q) (Nat.le_refl _) (excD_ok (n1 d1) fun g => True.intro)
  refine wpAny_bind (wpAny_alloc' ?_)
  refine wpAny_bind (wpAny_update' hx1 ?_)
  have hx2 := Heap.get?_update_self (fun o : Obj => ({ o with dict := some s.heap.objs.size } : Obj)) hx1 rfl
  have ot : ∀ b, b ≠ x → ((s.heap.push { cls := .type "dict", data := .dict #[] }).update x fun o => { o with dict := some s.heap.objs.size }).get? b = (s.heap.push { cls := .type "dict", data := .dict #[] }).get? b := fun b hb => Heap.get?_update_other _ _ (Ne.symm hb)
  have e1 : upd H s.heap.objs.size (excD s.heap.objs.size []) x = some (excRaw x C) := (upd_ne (Ne.symm hp)).trans e
  have I2 : Inv X pins σ (upd (upd H s.heap.objs.size (excD s.heap.objs.size [])) x (excNew x C s.heap.objs.size)) { s with heap := (s.heap.push { cls := .type "dict", data := .dict #[] }).update x fun o => { o with dict := some s.heap.objs.size }, toks := s.toks + 1 } :=
    I1.write (t' := s.toks + 1) (x := x) (e := x) (by rw [e1]; exact True.intro) (.inl rfl) (fun b o hb q => (ot b hb).trans q) ⟨_, hx2⟩ (excNew_ok hx2)
  refine wpAny_pure (wpAny_bind (wpAny_pure (wpAny_bind ?_)))
  refine wpAny_nsSet1 (n1 ((ot _ hp).trans d1)) fun h' hn' hs => ?_
  obtain ⟨oD, esD, epD, hoD, hdD, hcD⟩ := hn'.count (PySem.Within.cons f u PySem.Within.nil)
  refine wpAny_bind (wpAny_lookBehind hoD (by rw [hdD]; exact pastItsLine_dict (Nat.le_trans hcD (by rw [List.length_cons, List.length_nil, sizeLine_eq]; omega))) ?_)
  refine wpAny_pure (h _ s.heap.objs.size (I.hok.fresh (Nat.le_refl _)) hp ?_)
  rw [← upd_swap (a := excD s.heap.objs.size []) hp]
  refine I2.write (x := s.heap.objs.size) (e := s.heap.objs.size) (by rw [upd_ne hp, upd_same]; exact True.intro) (.inl rfl) (fun b o hb q => (hs.2 b hb).trans q) ⟨_, hoD⟩ (excD_ok hn' fun g => ?_)
  by_cases q : g = f
  · have qb : (g == f) = true := beq_iff_eq.mpr q
    simp only [List.lookup, qb, if_pos q]
    exact ry
  · have qb : (g == f) = false := beq_eq_false_iff_ne.mpr q
    simp only [List.lookup, qb, if_neg q]
    exact True.intro
end
end L2

namespace L2
open PySem PySem.Spec PyProof.Rows
section
variable {X : Cx} {pins : List (Addr × Obj)} {σ : St} {H : Hp} {s : Shared} {x C d : Addr} {fs : List (Str × V)} {f : Str} {v y : V} {u : Value} {A : Around} {E : Value → Shared → Prop}
theorem excN_ne {h : Heap} {P : Program} {w : World} (ok : HOk P w H h) (e : H x = some (excNew x C d)) (e2 : H d = some (excD d fs)) : d ≠ x := fun z => by
  subst z
  obtain ⟨t, a⟩ := excNew_of ok e
  obtain ⟨mA, ⟨o, es, ep, b, q, _⟩, _⟩ := excD_of ok e2
  rw [a] at b; cases b; cases q
theorem setx1 {Q : Unit → Shared → Prop} (I : Inv X pins σ H s) (e : H x = some (excNew x C d)) (e2 : H d = some (excD d fs)) (hl : fs.length < 1000) (c : XCls X.K C) (n : NoAttr X.K C f) (ry : RelV y u)
    (h : ∀ s', Inv X pins σ (upd H d (excD d (putF f y fs))) s' → Q () s') : wpAny (model X.prog X.w) A (setAttr (.ref x) f u) Q E s := by
  have ne := excN_ne I.hok e e2
  obtain ⟨vs, hx⟩ := excNew_of I.hok e
  obtain ⟨mA, nA, rA⟩ := excD_of I.hok e2
  obtain ⟨cd, hc, ho, hd⟩ := c.ov
  have J : PySem.W.InstAt s.heap x (XObj C (some d) #[.ref vs, .none, .none, .none, .bool false, .none]) C (some (Classical.choose nA)) := ⟨hx, rfl, rfl, let ⟨_, _, q, _⟩ := Classical.choose_spec nA; q⟩
  refine PySem.W.set_plain I.kIn J c.sa (osa_x (s := { s with toks := s.toks + 1 }) I.kIn J c n ?_)
  refine wpAny_bind (wpAny_pure (wpAny_bind (wpAny_bind (wpAny_loadPart hx (wpAny_bind ((PySem.W.looks_clsIn (M := model X.prog X.w) I.kIn hc).here (s := { s with toks := s.toks + 1 }) ?_))))))
  rw [hd]
  refine wpAny_pure (a := some d) (wpAny_bind (wpAny_pure (wpAny_bind ?_)))
  refine wpAny_nsSet1 (s := { s with toks := s.toks + 1 }) nA fun h' hn' hs => ?_
  have wi : PySem.Within mA (fs.map (·.1)) := fun z hz => by
    have r := rA z
    cases q : fs.lookup z with
    | none => rw [q] at r; exact absurd (RelO.none_of r) hz
    | some a => exact List.mem_map.mpr ⟨(z, a), PySem.mem_of_lookup q, rfl⟩
  obtain ⟨oD, esD, epD, hoD, hdD, hcD⟩ := hn'.count (PySem.Within.cons f u wi)
  refine wpAny_bind (wpAny_lookBehind hoD (by rw [hdD]; exact pastItsLine_dict (Nat.le_trans hcD (by rw [List.length_cons, List.length_map, sizeLine_eq]; omega))) ?_)
  refine wpAny_pure (h _ ?_)
  refine I.write (x := d) (e := d) (by rw [e2]; exact True.intro) (.inl rfl) (fun b o hb q => (hs.2 b hb).trans q) ⟨_, hoD⟩ (excD_ok hn' fun g => ?_)
  rw [lookup_putF]
  by_cases q : g = f
  · rw [if_pos q, if_pos q]; exact ry
  · rw [if_neg q, if_neg q]; exact rA g
end
end L2

namespace L2
open PySem PySem.Spec PyProof.Rows
noncomputable def xclIn (K : PySem.W.Frag) (C : Addr) : Bool := xcIn K C && PySem.W.findIn K (.ref C) "__class__" == some (some (.builtin "object.__class__")) && PySem.W.specialIn K (.builtin "object.__class__") "__get__" == some (some (.builtin "getset_descriptor.__get__")) && PySem.W.takesIn K (.builtin "object.__class__") == some true
structure XCl (K : PySem.W.Frag) (C : Addr) : Prop where
  cls : XCls K C
  ca : PySem.W.findIn K (.ref C) "__class__" = some (some (.builtin "object.__class__"))
  cg : PySem.W.specialIn K (.builtin "object.__class__") "__get__" = some (some (.builtin "getset_descriptor.__get__"))
  ct : PySem.W.takesIn K (.builtin "object.__class__") = some true
theorem xclIn_of {K : PySem.W.Frag} {C : Addr} (h : xclIn K C = true) : XCl K C := by
  unfold xclIn at h
  simp only [Bool.and_eq_true, beq_iff_eq] at h
  exact ⟨xcIn_of h.1.1.1, h.1.1.2, h.1.2, h.2⟩
section
variable {prog : Program} {w : World} {A : Around} {E : Value → Shared → Prop} {s : Shared} {K : PySem.W.Frag} {x C : Addr} {ox od : Obj}
end
noncomputable def IsX (H : Hp) (x C : Addr) (fs : List (Str × V)) : Prop := ∃ d, H x = some (excO x C d) ∧ H d = some (excD d fs)
section
variable {X : Cx} {pins : List (Addr × Obj)} {σ : St} {H : Hp} {s : Shared} {A : Around} {E : Value → Shared → Prop} {Q : Value → Shared → Prop} {c : Value} {b : Bool}
end
end L2

namespace L2
open PySem PySem.Spec PyProof.Rows
noncomputable def HasX (P : Program) (w : World) (K : PySem.W.Frag) (mg : Str → Option Value) (base : Heap) (k : Nat) (x : Str) (ps : List Str) (sp : Sp) : Prop :=
  ∃ f fd, mg x = some (.ref f) ∧ PySem.W.keepIn K (.ref f) = true ∧ Binds K fd ps [] ∧ FnOk P w K mg base (CX1 P w) k f fd ps sp
noncomputable def tCallX (sp : Sp) (R : St → XK) (t : TA) : TE := fun σ H Q => t σ H fun vs H1 => sp vs H1 Q (R σ)
theorem passN {X : Cx} (h : ∀ (e : Value) (s : Shared), X.xe e s = False) : PassX X (fun _ _ _ _ => False) := fun _ _ _ ⟨_, _, _, _, _, _, _, _, z⟩ => z.elim
section
variable {X : Cx} {k : Nat} {f C : Addr} {fd : FuncData} {ps : List Str} {sp : Sp} {R : St → XK} {x : Str} {p pos : Pos} {e : Expr} {es : List Expr} {t : TA} {pins : List (Addr × Obj)} {σ : St} {H : Hp} {s : Shared} {Q : VK} {us : List Value} {vs : List V}
theorem run_fnX (F : FnOk X.prog X.w X.K X.mg X.base (CX1 X.prog X.w) k f fd ps sp) (hr : Room k X.A) (hb : Binds X.K fd ps []) (hx : PassX X R) (I : Inv X pins σ H s) (r : Vals vs us) (h : sp vs H Q (R σ)) :
    wpAny (model X.prog X.w) X.A (call (.ref f) us) (EP X pins σ Q) X.xe s := by
  have hl : (us ++ []).length = ps.length := by rw [List.append_nil, ← r.length]; exact F.len _ _ _ _ h
  have bd := hb s us I.kIn hl
  rw [List.append_nil] at bd
  refine wpAny_call (codeAny_mono (F.run X.A X.stack s H ⟨us, []⟩ us vs Q (R σ) hr I.env0 bd r h) fun rr s' hq => ?_)
  cases rr with
  | error e => exact hx pins e s' (xe_call I hq)
  | ok fl =>
    cases fl with
    | ret u => exact I.after hq
    | next => exact False.elim hq
    | brk => exact False.elim hq
    | cont => exact False.elim hq
theorem pe_callX (F : HasX X.prog X.w X.K X.mg X.base k x ps sp) (hr : Room k X.A) (hg : Gl X x) (hx : PassX X R) (ha : PA X (e :: es) t) (hdb : (x == ("__debug__" : Str)) = false)
    (he : starEach (e :: es) X.env = (false, eval e X.env) :: starEach es X.env) (hpl : (backTo pos (starEach es X.env)).any (·.1) = false) : PE X (.Call (.Name x p) (e :: es) [] pos) (tCallX sp R t) := by
  obtain ⟨f, fd, a, b, c, d⟩ := F
  intro pins s σ H Q I h
  refine wpAny_Call_Name_kw (ld_glob I hg a ?_ hdb)
  refine PySem.W.callWith_K (h₀ := X.base) I.ok.mod.kin b (thn (ha pos pins s σ H _ I h) fun us s1 ⟨vs, H1, I1, r, q⟩ => ⟨I1.kIn, ?_⟩) he hpl
  exact run_fnX d hr c hx I1 r q
noncomputable def sFldX (K : PySem.W.Frag) (ta tv : TE) (f : Str) : TS := fun D σ H => tv σ H fun y H1 => ta σ H1 fun x H2 => ∃ a C, x = .ref a ∧ XCls K C ∧ NoAttr K C f ∧
  ((H2 a = some (excRaw a C) ∧ ∀ d, H2 d = none → d ≠ a → D.nx σ (upd (upd H2 a (excNew a C d)) d (excD d [(f, y)]))) ∨
   (∃ d fs, H2 a = some (excNew a C d) ∧ H2 d = some (excD d fs) ∧ fs.length < 1000 ∧ D.nx σ (upd H2 d (excD d (putF f y fs)))))
theorem ps_fldX {o value : Expr} {ta tv : TE} {fn : Str} {pos' : Pos} (ha : PE X o ta) (hv : PE X value tv) (hs : swapsWith value (some (.Attribute o fn pos')) pos.line X.env = pure false) : PS X (.Assign [.Attribute o fn pos'] value pos) (sFldX X.K ta tv fn) := by
  intro pins s σ H D I h
  refine plainObj_wpAny_Assign_Attribute (thn (hv pins s σ H _ I h) fun u s1 ⟨y, H1, I1, ry, q⟩ => thn (ha pins s1 σ H1 _ I1 q) fun ov s2 qq0 => ?_) hs
  obtain ⟨x, H2, I2, rx, a, C, ex, c, n, q2⟩ := qq0
  subst ex
  obtain rfl : ov = Value.ref a := rx
  rcases q2 with ⟨e, q2⟩ | ⟨d, fs, e, e2, hl, q2⟩
  · exact setx0 I2 e c n ry fun s3 d z1 z2 I3 => ⟨σ, _, I3, q2 d z1 z2⟩
  · exact setx1 I2 e e2 hl c n ry fun s3 I3 => ⟨σ, _, I3, q2⟩
noncomputable def spInit (C : Addr) (fl : List Str) : Sp := fun vs H Q E => ∃ x ws, vs = .ref x :: ws ∧ ws.length = fl.length ∧ H x = some (excRaw x C) ∧ ∀ d, H d = none → d ≠ x → Q .non (upd (upd H x (excNew x C d)) d (excD d (fl.zip ws)))
structure XMk (P : Program) (w : World) (K : PySem.W.Frag) (mg : Str → Option Value) (base : Heap) (k : Nat) (x : Str) (C : Addr) (fl : List Str) : Prop where
  at_ : mg x = some (.ref C)
  cl : XCl K C
  kp : PySem.W.keepIn K (.ref C) = true
  na : ∀ f ∈ fl, NoAttr K C f
  run : ∃ f fd ps, PySem.W.findIn K (.ref C) "__init__" = some (some (.ref f)) ∧ PySem.W.typeIn K (.ref f) = some (.type "function") ∧ Binds K fd ps [] ∧ FnOk P w K mg base CX0 k f fd ps (spInit C fl)
noncomputable def tRaise (C : Addr) (fl : List Str) (R : St → XK) (t : TA) : TS := fun _ σ H => t σ H fun vs H1 => vs.length = fl.length ∧ vs.length ≤ sizeLine ∧ ∀ x H2, Same H1 H2 → IsX H2 x C (fl.zip vs) → R σ (.ref C) (some x) H2
theorem made_x {Q : Value → Shared → Prop} {E : Value → Shared → Prop} {fl : List Str} (M : XMk X.prog X.w X.K X.mg X.base k x C fl) (hr : Room (k + 1) X.A) (I : Inv X pins σ H s) (r : Vals vs us) (hl : vs.length = fl.length) (hz : vs.length ≤ sizeLine)
    (q : ∀ a d s', H a = none → H d = none → d ≠ a → Inv X pins σ (upd (upd (upd H a (excRaw a C)) a (excNew a C d)) d (excD d (fl.zip vs))) s' → Q (.ref a) s') : wpAny (model X.prog X.w) X.A (call (.ref C) us) Q E s := by
  obtain ⟨f, fd, ps, hi, hf, hb, F⟩ := M.run
  refine call_x I.kIn M.cl.cls.xi hi hf (by rw [← r.length]; exact hz) ?_
  have I1 : Inv X pins σ H { s with heap := s.heap.push { cls := .type "tuple", data := .seq us.toArray } } := I.kept (t' := s.toks) fun b o e => Heap.get?_push_of_some _ e
  have sz1 : (s.heap.push { cls := .type "tuple", data := .seq us.toArray }).objs.size = s.heap.objs.size + 1 := Heap.size_push _ _
  have hfr : H (s.heap.objs.size + 1) = none := I.hok.fresh (Nat.le_succ _)
  have gx : ((s.heap.push { cls := .type "tuple", data := .seq us.toArray }).push (XObj C none #[.ref s.heap.objs.size, .none, .none, .none, .bool false, .none])).get? (s.heap.objs.size + 1) = some (XObj C none #[.ref s.heap.objs.size, .none, .none, .none, .bool false, .none]) := by
    rw [← sz1]; exact Heap.get?_push_size _ rfl
  have I2 : Inv X pins σ (upd H (s.heap.objs.size + 1) (excRaw (s.heap.objs.size + 1) C)) { s with heap := (s.heap.push { cls := .type "tuple", data := .seq us.toArray }).push (XObj C none #[.ref s.heap.objs.size, .none, .none, .none, .bool false, .none]) } :=
    I1.laid (t' := s.toks) (fun b o e => Heap.get?_push_of_some _ e) (by show (s.heap.push _).objs.size ≤ _; rw [sz1]; exact Nat.le_refl _) ⟨⟨_, gx⟩, ⟨_, gx⟩, fun h1 h2 ⟨t, z⟩ kk => ⟨t, kk _ z⟩⟩
  have r2 : Vals (V.ref (s.heap.objs.size + 1) :: vs) (Value.ref (s.heap.objs.size + 1) :: us) := .cons rfl r
  have sp0 : spInit C fl (V.ref (s.heap.objs.size + 1) :: vs) (upd H (s.heap.objs.size + 1) (excRaw (s.heap.objs.size + 1) C)) (fun v H2 => v = .non ∧ ∃ d, H d = none ∧ d ≠ s.heap.objs.size + 1 ∧ H2 = upd (upd (upd H (s.heap.objs.size + 1) (excRaw (s.heap.objs.size + 1) C)) (s.heap.objs.size + 1) (excNew (s.heap.objs.size + 1) C d)) d (excD d (fl.zip vs))) E0 :=
    ⟨_, _, rfl, hl, upd_same, fun d hd ne => ⟨rfl, d, by rw [upd_ne ne] at hd; exact hd, ne, rfl⟩⟩
  have hl2 : ((Value.ref (s.heap.objs.size + 1) :: us) ++ []).length = ps.length := by rw [List.append_nil, ← r2.length]; exact F.len _ _ _ _ sp0
  have bd := hb _ (Value.ref (s.heap.objs.size + 1) :: us) I2.kIn hl2
  rw [List.append_nil] at bd
  refine wpAny_call (codeAny_mono (F.run _ X.stack _ _ ⟨Value.ref (s.heap.objs.size + 1) :: us, []⟩ (Value.ref (s.heap.objs.size + 1) :: us) _ _ E0 (hr.make C us []) (I2.env0.make C us []) bd r2 sp0) fun rr s' hq => ?_)
  cases rr with
  | error e => exact False.elim hq
  | ok fl =>
    cases fl with
    | ret u =>
      obtain ⟨v, H', I3, rv, ev, d, hd, ne, eH⟩ := I2.after hq
      subst ev
      rw [eH] at I3
      exact ⟨rv, q _ d s' hfr hd ne I3⟩
    | next => exact False.elim hq
    | brk => exact False.elim hq
    | cont => exact False.elim hq
theorem thrown {env : Env} {C : Addr} {Q : Flow → Shared → Prop} {m : Sem Value} (hc : X.calm = true) (c : XCl X.K C) (hx : PassX X R)
    (h : wpAny (model X.prog X.w) X.A m (fun v s1 => ∃ x d H1, v = .ref x ∧ Inv X pins σ H1 s1 ∧ H1 x = some (excNew x C d) ∧ R σ (.ref C) (some x) (upd H1 x (excO x C d))) X.xe s) :
    wpAny (model X.prog X.w) X.A (raiseStmt env (some m) none) Q X.xe s := by
  obtain ⟨nm, qn, N, bs, bm, sn, sub, ab, col, dd, k0, k1, k2, k3, k5, lk0, tl⟩ := xIn_of c.cls.xi
  unfold raiseStmt
  refine wpAny_bind (thn h fun v s1 qq0 => ?_)
  obtain ⟨x, d, H1, ev, I1, e1, r1⟩ := qq0
  subst ev
  have KI := I1.kIn
  obtain ⟨t, he⟩ := excNew_of I1.hok e1
  have hh : X.A.handled = none := I1.ok.hd hc
  have hcB : (Value.ref C :: bm).contains (.type "BaseException") = true := by
    rw [List.contains_cons, (tl _ KI).hasType (show VEm.contains (.type "BaseException") = true from by decide)]; rfl
  have fin : X.xe (.ref x) s1 := by
    have I2 : Inv X pins σ (upd H1 x (excO x C d)) s1 := I1.write (t' := s1.toks) (x := x) (e := x) (h' := s1.heap) (by rw [e1]; exact True.intro) (.inl rfl) (fun b o _ z => z) ⟨_, he⟩ (excO_ok he)
    exact hx pins _ s1 ⟨x, C, d, σ, _, rfl, I2, ⟨upd_same, .inl ⟨_, he, rfl⟩⟩, r1⟩
  have hD := KI _ _ lk0
  obtain ⟨hp, g, dr, tk, os⟩ := s1
  unfold XObj at he
  repeat (first | with_reducible refine wpAny_loadPart_at he ?_ | with_reducible refine wpAny_loadPart_at hD ?_ | (with_reducible refine wpAny_isSubtype_exc hD ?_; rw [hcB]) | wp_step)
  exact wpAny_raiseNew_none hh fin
end
end L2

namespace L2
open PySem PySem.Spec PyProof.Rows
section
variable {X : Cx} {k : Nat} {C : Addr} {R : St → XK} {x : Str} {p cpos pos : Pos} {e : Expr} {es : List Expr} {t : TA} {fl : List Str}
theorem raised_heap {H : Hp} {a d : Addr} {vs : List V} (ha : H a = none) (hd : H d = none) (ne : d ≠ a) : Same H (upd (upd (upd (upd H a (excRaw a C)) a (excNew a C d)) d (excD d (fl.zip vs))) a (excO a C d)) ∧
    IsX (upd (upd (upd (upd H a (excRaw a C)) a (excNew a C d)) d (excD d (fl.zip vs))) a (excO a C d)) a C (fl.zip vs) := by
  refine ⟨fun b o h => ?_, d, upd_same, by rw [upd_ne ne, upd_same]⟩
  have na : b ≠ a := fun z => by rw [z, ha] at h; cases h
  have nd : b ≠ d := fun z => by rw [z, hd] at h; cases h
  rw [upd_ne na, upd_ne nd, upd_ne na, upd_ne na]
  exact h
theorem ps_raise (M : XMk X.prog X.w X.K X.mg X.base k x C fl) (hr : Room (k + 1) X.A) (hc : X.calm = true) (hg : Gl X x) (hx : PassX X R) (ha : PA X (e :: es) t) (hdb : (x == ("__debug__" : Str)) = false)
    (he : starEach (e :: es) X.env = (false, eval e X.env) :: starEach es X.env) (hpl : (backTo cpos (starEach es X.env)).any (·.1) = false) : PS X (.Raise (some (.Call (.Name x p) (e :: es) [] cpos)) none pos) (tRaise C fl R t) := by
  intro pins s σ H D I h
  rw [arm_exec_Raise]
  refine wpAny_bind (wpAny_standAt (thrown (pins := pins) (σ := σ) (C := C) hc M.cl hx (wpAny_bind (thn (Q := fun v s1 => ∃ x d H1, v = .ref x ∧ Inv X pins σ H1 s1 ∧ H1 x = some (excNew x C d) ∧ R σ (.ref C) (some x) (upd H1 x (excO x C d))) ?_ fun v s3 h3 => wpAny_bind (wpAny_standAt (wpAny_pure h3))))))
  refine wpAny_Call_Name_kw (ld_glob I hg M.at_ ?_ hdb)
  refine PySem.W.callWith_K (h₀ := X.base) I.ok.mod.kin M.kp (thn (ha cpos pins s σ H _ I h) fun us s1 ⟨vs, H1, I1, r, hl, hz, q⟩ => ⟨I1.kIn, ?_⟩) he hpl
  refine made_x M hr I1 r hl hz fun a d s2 z1 z2 ne I2 => ⟨a, d, _, rfl, I2, ?_, ?_⟩
  · rw [upd_ne (Ne.symm ne), upd_same]
  · obtain ⟨w1, w2⟩ := raised_heap (C := C) (fl := fl) (vs := vs) z1 z2 ne
    exact q a _ w1 w2
theorem PS.nox {st : Stmt} {t : TS} (h : PS X.nox st t) : PS X st t := fun pins s σ H D I hw =>
  wpAny_mono (h pins s σ H D (I.wish _) hw) (fun _ _ q => q.unwish) fun _ _ z => False.elim z
end
section
variable {X : Cx} {pins : List (Addr × Obj)} {σ σ' : St} {H : Hp} {s : Shared} {h' : Heap}
end
end L2

namespace L2
open PySem PySem.Spec PyProof.Rows
section
variable {X : Cx} {pins pins' : List (Addr × Obj)} {σ : St} {H : Hp} {s : Shared} {x C d T : Addr} {R : St → XK} {D : Ends}
noncomputable abbrev TH := Ends → St → Addr → Addr → Hp → Prop
noncomputable def PH (X : Cx) (hs : List ExceptHandler) (th : TH) : Prop := ∀ (pins : List (Addr × Obj)) (s : Shared) (σ : St) (H : Hp) (D : Ends) (x C d T : Addr), Inv X pins σ H s → Head X pins H x C d T s.heap → th D σ x C H →
  wpAny (model X.prog X.w) X.A (handleBy (.ref x) X.env hs) (SP X pins D) X.xe s
variable {nm n : Str} {P : Addr} {i : Nat} {p pos : Pos} {b0 : Stmt} {suite : List Stmt} {ts : TS} {th : TH} {hs : List ExceptHandler}
end
end L2

namespace L2
open PySem PySem.Spec PyProof.Rows
noncomputable def clsA (mg : Str → Option Value) (x : Str) : Addr := match mg x with
  | some (.ref a) => a
  | _ => 0
theorem clsA_of {mg : Str → Option Value} {x : Str} {C : Addr} (h : mg x = some (.ref C)) : clsA mg x = C := by unfold clsA; rw [h]
structure CTxt (K : PySem.W.Frag) (mg : Str → Option Value) (x : Str) : Prop where
  at_ : mg x = some (.ref (clsA mg x))
  cl : XCl K (clsA mg x)
theorem ct_mk {K : PySem.W.Frag} {mg : Str → Option Value} {h : Heap} (X : K.In h) (G : h.Ns mainGlobals mg) {x : Str} {C : Addr} (a : PySem.W.nsIn K mainGlobals x = some (some (.ref C))) (b : xclIn K C = true) : CTxt K mg x := by
  have m := PySem.W.mg_of X G a
  have e := clsA_of m
  exact ⟨by rw [e]; exact m, by rw [e]; exact xclIn_of b⟩
structure XTxt (K : PySem.W.Frag) (mg : Str → Option Value) (x : Str) (fl : List Str) (qual : Str) (st : Stmt) : Prop where
  c : CTxt K mg x
  kp : PySem.W.keepIn K (.ref (clsA mg x)) = true
  na : ∀ f ∈ fl, NoAttr K (clsA mg x) f
  ini : ∃ f fd, PySem.W.findIn K (.ref (clsA mg x)) "__init__" = some (some (.ref f)) ∧ PySem.W.typeIn K (.ref f) = some (.type "function") ∧ Fun K "__init__" qual st f fd
noncomputable def noneOf (K : PySem.W.Frag) (C : Addr) (fl : List Str) : Bool := fl.all fun n => PySem.W.findIn K (.ref C) n == some none
theorem xt_mk {K : PySem.W.Frag} {mg : Str → Option Value} {h : Heap} (X : K.In h) (G : h.Ns mainGlobals mg) {x qual : Str} {C f : Addr} {fl : List Str} {st : Stmt} {oc : Value} {od an : Option Addr} {osl : Array (Option Value)} {kV doc pm cdv ct : Value}
    (a : PySem.W.nsIn K mainGlobals x = some (some (.ref C))) (b : xclIn K C = true) (kp : PySem.W.keepIn K (.ref C) = true) (na : noneOf K C fl = true)
    (i : PySem.W.findIn K (.ref C) "__init__" = some (some (.ref f))) (t : PySem.W.typeIn K (.ref f) = some (.type "function"))
    (l : K.lookup f = some ⟨oc, od, .func (PySem.W.fnOf "__init__" qual (defArgs st) (defBody st) (defScope st) .none kV doc pm an cdv ct), osl⟩) (c : PySem.W.codeIn K cdv qual = true) (k : PySem.W.keepIn K (.ref f) = true) : XTxt K mg x fl qual st := by
  have m := PySem.W.mg_of X G a
  have e := clsA_of m
  refine ⟨ct_mk X G a b, by rw [e]; exact kp, fun n hn => ?_, f, _, by rw [e]; exact i, t, fun_mk l c k⟩
  rw [e]
  have := List.all_eq_true.mp na n hn
  exact beq_iff_eq.mp this
structure Sub (K : PySem.W.Frag) (mg : Str → Option Value) (x y : Str) (b : Bool) : Prop where
  mro : PySem.W.mroIn K (clsA mg x) (.ref (clsA mg y)) = some b
  one : PySem.W.kitOne K (.ref (clsA mg x)) (.ref (clsA mg y)) = some b
structure JH (X : Cx) (hs : List ExceptHandler) (th : TH) : Prop where
  run : PH X hs th
section
variable {X : Cx} {K : PySem.W.Frag} {k : Nat} {x n fn : Str} {ps : List Str} {sp : Sp} {R : St → XK} {p pos cpos pos' : Pos} {e o value : Expr} {es : List Expr} {t : TA} {ta tv : TE} {st : Stmt} {u ts : TS} {th : TH} {hs : List ExceptHandler} {i : Nat}
theorem j_callX (F : HasX X.prog X.w X.K X.mg X.base k x ps sp) (hr : Room k X.A) (hg : Gl X x) (hx : PassX X R) (ha : JA X (e :: es) t) (hdb : (x == ("__debug__" : Str)) = false) (h : autoParam ((e :: es).all notStar = true) L2.auto4._auto_1) :
    JE X (.Call (.Name x p) (e :: es) [] pos) (tCallX sp R t) := by
  have h1 : notStar e = true := by simp only [List.all_cons, Bool.and_eq_true] at h; exact h.1
  have h2 : es.all notStar = true := by simp only [List.all_cons, Bool.and_eq_true] at h; exact h.2
  exact ⟨pe_callX F hr hg hx ha.run hdb (se_cons h1) (se_any h2)⟩
theorem js_nox (h : JS X.nox st u) : JS X st u := ⟨h.run.nox⟩
theorem js_fldX (hK : X.K = K) (ha : JE X o ta) (hv : JE X value tv) (h : autoParam (notComp value = true) L2.auto4._auto_1) : JS X (.Assign [.Attribute o fn pos'] value pos) (sFldX K ta tv fn) := by
  subst hK
  exact ⟨ps_fldX ha.run hv.run (sw_no h)⟩
theorem js_raise {fl : List Str} (M : XMk X.prog X.w X.K X.mg X.base k x (clsA X.mg x) fl) (hr : Room (k + 1) X.A) (hc : X.calm = true) (hg : Gl X x) (hx : PassX X R) (ha : JA X (e :: es) t) (hdb : (x == ("__debug__" : Str)) = false) (h : autoParam ((e :: es).all notStar = true) L2.auto4._auto_1) :
    JS X (.Raise (some (.Call (.Name x p) (e :: es) [] cpos)) none pos) (tRaise (clsA X.mg x) fl R t) := by
  have h1 : notStar e = true := by simp only [List.all_cons, Bool.and_eq_true] at h; exact h.1
  have h2 : es.all notStar = true := by simp only [List.all_cons, Bool.and_eq_true] at h; exact h.2
  exact ⟨ps_raise M hr hc hg hx ha.run hdb (se_cons h1) (se_any h2)⟩
end
section
variable {P : Program} {w : World} {K : PySem.W.Frag} {mg : Str → Option Value} {base : Heap}
theorem hasJX {x : Str} {st : Stmt} {N ps : List Str} {k : Nat} {sp : Sp} (D : Def K mg x st) (S : FnScope N ps (defScope st))
    (hb : ∀ (kV doc pm : Value) (an : Option Addr) (cdv ct : Value) (us : List Value), us.length = ps.length → bindArgs (PySem.W.fnOf x x (defArgs st) (defBody st) (defScope st) .none kV doc pm an cdv ct) ⟨us, []⟩ = pure (ps.zip us))
    (len : ∀ vs H Q E, sp vs H Q E → vs.length = ps.length)
    (hbody : ∀ (f : Addr) (cdv : Value) (A : Around) (outer : List Env) (s : Shared) (H : Hp) (vs : List V) (Q : VK) (E : XK), Room k (A.deeper (envOfC x (defScope st) s.heap.objs.size f cdv)) → sp vs H Q E →
      ∃ t, JB (cxOf (CX1 P w) P w K mg base N x (defScope st) f cdv A outer s H E) (defBody st) t ∧ t { nx := fun _ H' => Q .non H', rt := Q } (start N vs) H) : HasX P w K mg base (k + 1) x ps sp := by
  obtain ⟨f, fd, F, hm⟩ := D
  refine ⟨f, fd, hm, F.kp, F.binds hb, ?_⟩
  obtain ⟨oc, od, kV, doc, pm, an, cdv, ct, osl, rfl, lk, hcd⟩ := F.ex
  exact fn_of lk hcd S len fun A outer s H vs Q E hr h => let ⟨t, j, q⟩ := hbody f cdv A outer s H vs Q E hr h; ⟨t, j.run, q⟩
theorem mkX {x qual : Str} {st : Stmt} {N ps : List Str} {fl : List Str} {k : Nat} (D : XTxt K mg x fl qual st) (S : FnScope N ps (defScope st))
    (hb : ∀ (kV doc pm : Value) (an : Option Addr) (cdv ct : Value) (us : List Value), us.length = ps.length → bindArgs (PySem.W.fnOf "__init__" qual (defArgs st) (defBody st) (defScope st) .none kV doc pm an cdv ct) ⟨us, []⟩ = pure (ps.zip us))
    (hl : ps.length = fl.length + 1)
    (hbody : ∀ (f : Addr) (cdv : Value) (A : Around) (outer : List Env) (s : Shared) (H : Hp) (vs : List V) (Q : VK) (E : XK), Room k (A.deeper (envOfC qual (defScope st) s.heap.objs.size f cdv)) → spInit (clsA mg x) fl vs H Q E →
      ∃ t, JB (cxOf CX0 P w K mg base N qual (defScope st) f cdv A outer s H E).nox (defBody st) t ∧ t { nx := fun _ H' => Q .non H', rt := Q } (start N vs) H) : XMk P w K mg base (k + 1) x (clsA mg x) fl := by
  obtain ⟨f, fd, a, b, F⟩ := D.ini
  refine ⟨D.c.at_, D.c.cl, D.kp, D.na, f, fd, ps, a, b, F.binds hb, F.ok S (fun vs H Q E h => ?_) fun cdv A outer s H vs Q E hr h => let ⟨t, j, q⟩ := hbody f cdv A outer s H vs Q E hr h; ⟨t, j.run, q⟩⟩
  obtain ⟨y, ws, rfl, hw, _⟩ := h
  rw [List.length_cons, hw, hl]
end
end L2

namespace L2
open PySem PySem.Spec PyProof.Rows
noncomputable def initOf : Stmt → Stmt
  | .ClassDef _ _ _ (s :: _) _ _ _ _ _ _ _ => s
  | s => s
section
variable {σ : St} {H : Hp} {D : Ends} {Q : VK} {sp : Sp} {R : St → XK} {a : TA} {K : PySem.W.Frag} {C P : Addr} {fl : List Str} {th : TH} {ts : TS} {i : Nat} {ta : TE} {f : Str}
theorem r_callX (h : a σ H fun vs H1 => sp vs H1 Q (R σ)) : tCallX sp R a σ H Q := h
theorem r_raise (h : a σ H fun vs H1 => vs.length = fl.length ∧ vs.length ≤ sizeLine ∧ ∀ x H2, Same H1 H2 → IsX H2 x C (fl.zip vs) → R σ (.ref C) (some x) H2) : tRaise C fl R a D σ H := h
theorem rd1 {f1 p0 p1 : Str} {vs : List V} {E : XK} (c : XCls K C) (n : NoAttr K C f1) (h : spInit C [f1] vs H Q E) : sFldX K (tVar 0) (tVar 1) f1 { nx := fun _ H' => Q .non H', rt := Q } (start [p0, p1] vs) H := by
  obtain ⟨x, ws, rfl, hw, hx, q⟩ := h
  match ws, hw with
  | [v], _ => exact ⟨v, rfl, .ref x, rfl, x, C, rfl, c, n, .inl ⟨hx, fun d hd ne => q d hd ne⟩⟩
end
end L2

namespace L2
open PySem PySem.Spec PyProof.Rows
section
variable {X : Cx} {tg : Expr}
end
section
variable {σ : St} {H : Hp} {Q : VK}
end
section
variable {X : Cx} {e : Expr} {te : TE} {lo hi : Option Expr} {st : Expr} {tl th ts : TO} {pos p2 : Pos}
end
section
variable {σ : St} {H : Hp} {Q : VK} {te : TE}
end
section
variable {X : Cx}
end
section
variable {H : Hp} {Q : VK} {K : PySem.W.Frag}
end
end L2

namespace L2
open PySem PySem.Spec PyProof.Rows
open AutoSeq1 (wpAny_loadPart')
noncomputable def rIsNotA : R2 := fun x y H Q => (y = .non ∧ Q (.bl (!decide (x = .non))) H) ∨ ∃ a b, x = .bl a ∧ y = .bl b ∧ Q (.bl (!(a == b))) H
section
variable {X : Cx}
theorem op_isNotA : OpR X (compareOp .IsNot) rIsNotA := op_notN.or (by
  intro pins s σ H x y v u Q I rx ry h
  obtain ⟨a, b, rfl, rfl, q⟩ := h
  cases rx
  cases ry
  exact isnot_bool ⟨.bl _, H, I, rfl, q⟩)
end
section
variable {H : Hp} {Q : VK} {K : PySem.W.Frag}
theorem r_chain {σ : St} {r r' : R2} {ta tb tc : TE} (h : ta σ H fun x H1 => tb σ H1 fun y H2 => r x y H2 fun z H3 => ∃ k, z = .bl k ∧ if k = true then tc σ H3 fun w H4 => r' y w H4 Q else Q (.bl false) H3) : tChain r r' ta tb tc σ H Q := h
theorem r_isNotB {a b : Bool} (h : Q (.bl (!(a == b))) H) : rIsNotA (.bl a) (.bl b) H Q := .inr ⟨a, b, rfl, rfl, h⟩
end
end L2

namespace L2
open PySem PySem.Spec PyProof.Rows PySem.SeqAt
theorem r_new {xs : List V} {H : Hp} {R : Addr → Prop} (c : Nat.ble xs.length 64 = true) (h : ∀ p, H p = none → R p) : xs.length ≤ sizeLine ∧ ∀ p, H p = none → R p :=
  ⟨Nat.le_trans (Nat.le_of_ble_eq_true c) (by decide), h⟩
theorem iteNT {A B : Prop} (h : A) : if (!false) = true then A else B := (if_pos (show (!false) = true from rfl)).mpr h
theorem iteNF {A B : Prop} (h : B) : if (!true) = true then A else B := by rw [if_neg (by simp)]; exact h
end L2

namespace L2
open PySem PySem.Spec PyProof.Rows PySem.SeqAt
open AutoSeq1 (wpAny_loadPart')
section
variable {X : Cx}
end
section
variable {X : Cx}
end
section
variable {H : Hp} {Q : VK} {K : PySem.W.Frag} {σ : St} {D : Ends}
end
end L2

namespace L2
open PySem PySem.Spec PyProof.Rows
section
variable {X : Cx}
end
section
variable {σ : St} {H : Hp} {Q : VK} {D : Ends}
end
end L2

namespace L2
open PySem PySem.Spec PyProof.Rows
noncomputable def rInD (K : PySem.W.Frag) : R2 := fun x y H Q => rInA K x y H Q ∨ ∃ a o, y = .ref a ∧ DGet H a x o ∧ Q (.bl o.isSome) H
noncomputable def rSetA : TSet := fun o i v H R => rSetL o i v H R ∨ ∃ a H4, o = .ref a ∧ DPut H a i v H4 ∧ R H4
noncomputable def rPopA : V → List V → Hp → VK → Prop := fun x vs H Q => ∃ (l : Addr) (xs : List V) (i : Nat) (y : V), x = .ref l ∧ vs = [.int i] ∧ H l = some (.lst xs) ∧ xs[i]? = some y ∧ i < 2 ^ 62 ∧ Q y (upd H l (.lst (xs.eraseIdx i)))
section
variable {X : Cx}
end
section
variable {X : Cx}
theorem op_inD {K : PySem.W.Frag} (hK : X.K = K) (hu : X.A.units + 64 < cLine) : OpR X (compareOp .In) (rInD K) := (op_inK hK).or (by
  intro pins s σ H x y v u Q I rx ry h
  obtain ⟨a, o, rfl, g, q⟩ := h
  obtain rfl : u = Value.ref a := ry
  exact d_in (by omega) I g rx fun s3 I3 => ⟨.bl o.isSome, H, I3, rfl, q⟩)
theorem set_any (hu : X.A.units + 64 < cLine) : PSet X rSetA := by
  intro pins s σ H o i v ov iv u Q I ro ri rv h
  rcases h with h | ⟨a, H4, rfl, g, q⟩
  · exact set_list pins s σ H o i v ov iv u Q I ro ri rv h
  · obtain rfl : ov = Value.ref a := ro
    exact d_setItem (by omega) I g ri rv fun s4 I4 => ⟨H4, I4, q⟩
theorem mt_popI : MtM X "list.pop" rPopA := by
  intro pins s σ H x vs v us Q I rx rv h
  obtain ⟨l, xs, i, y, rfl, rfl, hH, hy, hi, q⟩ := h
  refine mt_popAt pins s σ H _ _ v us Q I rx rv ⟨l, xs, i, i, y, rfl, rfl, hH, by omega, by omega, ?_, hy, q⟩
  have hl := (List.getElem?_eq_some_iff.mp hy).1
  unfold seqIndex?
  simp
  omega
end
section
variable {σ : St} {H : Hp} {Q : VK} {K : PySem.W.Frag}
theorem r_popI {l : Addr} {xs : List V} {i : Nat} {y : V} (hl : H l = some (.lst xs)) (hy : xs[i]? = some y) (hi : i < 2 ^ 62) (h : Q y (upd H l (.lst (xs.eraseIdx i)))) : rPopA (.ref l) [.int i] H Q := ⟨l, xs, i, y, rfl, rfl, hl, hy, hi, h⟩
theorem r_inSD {x y : Str} (h : Q (.bl (!(Builtin.Str.occurrences y x 0 y.length 1).isEmpty)) H) : rInD K (.str x) (.str y) H Q := .inl (r_inS h)
end
end L2

namespace L2
open PySem PySem.Spec PyProof.Rows
section
variable {X : Cx}
end
end L2

namespace L2
open PySem PySem.Spec PyProof.Rows
open PySem.Sem (wp)
open PySem.AutoSeq1 (wpAny_loadPart')
section
variable {prog : Program} {w : World} {A : Around} {E : Value → Shared → Prop} {s : Shared}
end
end L2

namespace L2
open PySem PySem.Spec PyProof.Rows
section
variable {K : PySem.W.Frag} {σ : St} {H : Hp}
end
section
variable {X : Cx} {e : Expr} {te : TE} {lo hi : Option Expr} {st : Expr} {tl th ts : TO} {pos p2 : Pos}
end
end L2

namespace L2
open PySem PySem.Spec PyProof.Rows
end L2

namespace L2
open PySem PySem.Spec PyProof.Rows
open PySem.Sem (wp)
open PySem.AutoSeq1 (wpAny_loadPart')
section
variable {prog : Program} {w : World} {A : Around} {E : Value → Shared → Prop} {s : Shared}
end
end L2

namespace L2
open PySem PySem.Spec PyProof.Rows
section
variable {prog : Program} {w : World} {A : Around} {E : Value → Shared → Prop} {s : Shared}
end
end L2

namespace L2
open PySem PySem.Spec PyProof.Rows
section
variable {K : PySem.W.Frag} {σ : St} {H : Hp}
end
end L2

namespace L2
open PySem PySem.Spec PyProof.Rows
noncomputable def flD : V → Option PyData
  | .non => some .none
  | .bl b => some (.bool b)
  | .int n => some (.int n)
  | .str z => some (.str z)
  | _ => none
noncomputable def keyD : Key → PyData
  | .inl i => .int i
  | .inr x => .str x
mutual
noncomputable def RD (H : Hp) : PyData → V → Prop
  | .none, v => v = .non
  | .bool b, v => v = .bl b
  | .int n, v => v = .int n
  | .str z, v => v = .str z
  | .list ds, v => ∃ a vs, v = .ref a ∧ H a = some (.lst vs) ∧ RDs H ds vs
  | .tuple ds, v => ∃ a vs, v = .ref a ∧ H a = some (.tup vs) ∧ RDs H ds vs
  | .dict kvs, v => ∃ a ks, v = .ref a ∧ H a = some (.dK ks) ∧ ks.map (fun p => (keyD p.1, flD p.2)) = kvs.map (fun q => (q.1, some q.2))
noncomputable def RDs (H : Hp) : List PyData → List V → Prop
  | [], vs => vs = []
  | d :: ds, vs => ∃ v r, vs = v :: r ∧ RD H d v ∧ RDs H ds r
end
mutual
theorem RD.same {H H' : Hp} (s : Same H H') : ∀ (d : PyData) (v : V), RD H d v → RD H' d v
  | .none, _, h => by rw [RD] at h ⊢; exact h
  | .bool _, _, h => by rw [RD] at h ⊢; exact h
  | .int _, _, h => by rw [RD] at h ⊢; exact h
  | .str _, _, h => by rw [RD] at h ⊢; exact h
  | .list ds, v, h => by rw [RD] at h ⊢; obtain ⟨a, vs, e, q, r⟩ := h; exact ⟨a, vs, e, s _ _ q, RDs.same s ds vs r⟩
  | .tuple ds, v, h => by rw [RD] at h ⊢; obtain ⟨a, vs, e, q, r⟩ := h; exact ⟨a, vs, e, s _ _ q, RDs.same s ds vs r⟩
  | .dict _, _, h => by rw [RD] at h ⊢; obtain ⟨a, vs, e, q, r⟩ := h; exact ⟨a, vs, e, s _ _ q, r⟩
theorem RDs.same {H H' : Hp} (s : Same H H') : ∀ (ds : List PyData) (vs : List V), RDs H ds vs → RDs H' ds vs
  | [], _, h => by rw [RDs] at h ⊢; exact h
  | d :: ds, vs, h => by rw [RDs] at h ⊢; obtain ⟨v, r, e, q, t⟩ := h; exact ⟨v, r, e, RD.same s d v q, RDs.same s ds r t⟩
end
theorem RD_int {H : Hp} {n : Int} {v : V} : RD H (.int n) v ↔ v = .int n := by rw [RD]
theorem RD_str {H : Hp} {n : Str} {v : V} : RD H (.str n) v ↔ v = .str n := by rw [RD]
theorem RD_bool {H : Hp} {n : Bool} {v : V} : RD H (.bool n) v ↔ v = .bl n := by rw [RD]
theorem RD_none {H : Hp} {v : V} : RD H .none v ↔ v = .non := by rw [RD]
theorem RD_list {H : Hp} {ds : List PyData} {v : V} : RD H (.list ds) v ↔ ∃ a vs, v = .ref a ∧ H a = some (.lst vs) ∧ RDs H ds vs := by rw [RD]
theorem RD_tuple {H : Hp} {ds : List PyData} {v : V} : RD H (.tuple ds) v ↔ ∃ a vs, v = .ref a ∧ H a = some (.tup vs) ∧ RDs H ds vs := by rw [RD]
theorem RD_dict {H : Hp} {kvs : List (PyData × PyData)} {v : V} : RD H (.dict kvs) v ↔ ∃ a ks, v = .ref a ∧ H a = some (.dK ks) ∧ ks.map (fun p => (keyD p.1, flD p.2)) = kvs.map (fun q => (q.1, some q.2)) := by rw [RD]
theorem RDs_nil {H : Hp} {vs : List V} : RDs H [] vs ↔ vs = [] := by rw [RDs]
theorem RDs_cons {H : Hp} {d : PyData} {ds : List PyData} {vs : List V} : RDs H (d :: ds) vs ↔ ∃ v r, vs = v :: r ∧ RD H d v ∧ RDs H ds r := by rw [RDs]
theorem RDs_one {H : Hp} {d : PyData} {v : V} {ds : List PyData} {vs : List V} (h : RD H d v) (t : RDs H ds vs) : RDs H (d :: ds) (v :: vs) := RDs_cons.mpr ⟨v, vs, rfl, h, t⟩
structure Sml (d : PyData) : Prop where
  sh : d.showable = true
  dp : d.depth ≤ 58
  lv : d.leavesShort 60 = true
  bk : d.bulk ≤ 10000
end L2

namespace L2
open PySem PySem.Spec PyProof.Rows
open PySem.Sem (wp)
theorem meets_len_raw {prog : Program} {w : World} {d : Addr} (hd : (d == sysModules) = false) :
    MeetsIn prog w (Builtin.«dict.__len__» ⟨[.ref d], []⟩) (fun _ R s => ∃ o es ep, s.heap.get? d = some o ∧ o.data = .dict es ep ∧ R (.ok (.ret (.int es.size s.toks))) { s with toks := s.toks + 1 }) :=
  .of_wp fun A R s ⟨o, es, ep, ho, hdat, h⟩ => by
    show wpAny _ _ (dictSize d >>= _) _ _ s
    unfold dictSize
    refine wpAny_bind (wpAny_bind (wpAny_dictEntries ho hdat (wpAny_pure ?_)))
    show wpAny _ _ (Builtin.Dict.pendingCount d >>= _) _ _ s
    refine wpAny_bind (wpAny_pendingCount_other hd ?_)
    refine wpAny_ret_mkInt ?_
    rw [Nat.add_zero]; exact h
theorem call_len_raw {prog : Program} {w : World} {A : Around} {E : Value → Shared → Prop} {s : Shared} {d : Addr} {o : Obj} {es : Array DictEntry} {ep : Nat} {Q : Value → Shared → Prop} (hd : (d == sysModules) = false)
    (ho : s.heap.get? d = some o) (hc : o.cls = .type "dict") (hdat : o.data = .dict es ep) (hfit : (es.size : Int) < 2 ^ 63)
    (h : Q (.int es.size (s.toks + 1)) { s with toks := s.toks + 1 + 1 }) : wpAny (model prog w) A (call (.builtin "len") [.ref d]) Q E s := by
  have ht : s.TypeIs (.ref d) "dict" := ⟨o, ho, hc⟩
  refine Calls.call_function_entry kind_len plain_len entry_len (args_len1 _) ?_
  unfold Builtin.«len»
  refine wpAny_bind (m := oneArg "len" _) (wpAny_pure ?_)
  refine wpAny_bind (m := callSpecial? (.ref d) (Str.ofString "__len__")) (wpAny_callSpecial?_slot (name := Str.ofString "__len__") ht F.slot_dict_len
    (call_meetsIn F.slot_dict_len ht F.entry_dict_len (F.args_dict_len_1 _) (meets_len_raw hd) ⟨o, es, ep, ho, hdat, ?_⟩))
  show wpAny _ _ _ _ _ { s with toks := s.toks + 1 }
  refine wpAny_bind (wpAny_holding (wpAny_pure ?_))
  refine wpAny_bind (wpAny_letGo ?_)
  show wpAny _ _ (if ((es.size : Nat) : Int) < 0 then _ else _) _ _ _
  rw [if_neg (by omega)]
  show wpAny _ _ (if ((es.size : Nat) : Int) ≥ 2 ^ 63 then _ else _) _ _ _
  rw [if_neg (by omega)]
  exact wpAny_bind (wpAny_mkInt (wpAny_pure ⟨_, rfl, h⟩))
noncomputable def rLenT : List V → Hp → VK → Prop := fun xs H Q => ∃ a kvs, xs = [.ref a] ∧ H a = some (.dT kvs) ∧ Q (.int kvs.length) H
theorem call_lenT {X : Cx} : CallR X (.builtin "len") rLenT := by
  intro pins s σ H xs us Q I r h
  obtain ⟨a, kvs, rfl, ha, q⟩ := h
  obtain ⟨u, rfl, ru⟩ := vals1 r
  cases ru
  obtain ⟨z, hS, xs, rel, o, es, ep, ho, xd, hd, he, _⟩ := I.hok a _ ha
  have e1 : es.size = kvs.length := by
    have a1 := congrArg List.length he
    simp at a1
    rw [a1]; exact (Paired.length rel).symm
  refine call_len_raw hS ho xd.1 hd (by rw [e1]; rw [sizeLine_eq] at z; omega) ?_
  rw [e1]
  exact ⟨.int kvs.length, H, I.tok _, ⟨_, rfl⟩, q⟩
section
variable {X : Cx} {pos : Pos} {σ : St} {H : Hp} {Q : VK} {K : PySem.W.Frag}
theorem j_dnewT : JE X (.Dict [] [] pos) tDNewT := ⟨pe_dnewT⟩
theorem r_dnewT (h : ∀ p, H p = none → Q (.ref p) (upd H p (.dT []))) : tDNewT σ H Q := h
theorem r_lenDT {a : Addr} {kvs : List (List Key × V)} (ha : H a = some (.dT kvs)) (h : Q (.int kvs.length) H) : rLenT [.ref a] H Q := ⟨a, kvs, rfl, ha, h⟩
theorem r_inT {a b : Addr} {kvs : List (List Key × V)} {k : List Key} (ha : H a = some (.dT kvs)) (hb : H b = some (.tup (k.map kV))) (h : Q (.bl (valV kvs k).isSome) H) : rInD K (.ref b) (.ref a) H Q := .inr ⟨a, _, rfl, DGet.t ha hb, h⟩
theorem r_setT {a b : Addr} {kvs : List (List Key × V)} {k : List Key} {v : V} {R : Hp → Prop} (ha : H a = some (.dT kvs)) (hb : H b = some (.tup (k.map kV))) (hl : kvs.length < sizeLine) (h : R (upd H a (.dT (putK kvs k v)))) : rSetA (.ref a) (.ref b) v H R :=
  .inr ⟨a, _, rfl, DPut.t ha hb hl, h⟩
end
end L2

namespace L2
open PySem PySem.Spec PyProof.Rows
end L2

namespace L2
open PySem PySem.Spec PyProof.Rows
structure RoomU (k : Nat) (A : Around) : Prop where
  dp : A.depth + 3 * k + 5 < recursionLimit
  un : A.units + 16 * k + 200 < cLine
  gd : A.guards = some []
structure FnU (P : Program) (w : World) (K : PySem.W.Frag) (mg : Str → Option Value) (base : Heap) (k : Nat) (f : Addr) (fd : FuncData) (ps : List Str) (sp : Sp) : Prop where
  len : ∀ vs H Q E, sp vs H Q E → vs.length = ps.length
  run : ∀ (A : Around) (outer : List Env) (s : Shared) (H : Hp) (args : Args) (us : List Value) (vs : List V) (Q : VK) (E : XK), RoomU k A → Env0 P w K mg base A outer s H → BindsTo s fd args (ps.zip us) → Vals vs us → sp vs H Q E →
    codeAny (model P w) A (.call (.ref f) args) (CR CX0 outer P w H s Q E) s
end L2

namespace L2
open PySem PySem.Spec PyProof.Rows
section
variable {prog : Program} {w : World} {A : Around} {E : Value → Shared → Prop} {s : Shared} {K : PySem.W.Frag} {x C : Addr} {ox : Obj} {od : Option Obj}
end
section
variable {prog : Program} {w : World} {A : Around} {K : PySem.W.Frag} {D : Addr} {E : Value → Shared → Prop}
end
structure X0 (K : PySem.W.Frag) (mg : Str → Option Value) (x : Str) : Prop where
  c : CTxt K mg x
  ini : PySem.W.findIn K (.ref (clsA mg x)) "__init__" = some (some (.builtin "ValueError.__init__"))
  kp : PySem.W.keepIn K (.ref (clsA mg x)) = true
section
variable {X : Cx} {x : Str} {p pos : Pos} {e : Expr} {es : List Expr} {t : TA}
end
end L2

namespace L2
open PySem PySem.Spec PyProof.Rows
open PySem.Sem (wp)
structure ZApart (z TI TO i1 i2 : Addr) (fp1 fp2 : List Addr) : Prop where
  TIz : TI ≠ z
  TOz : TO ≠ z
  i1z : i1 ≠ z
  i2z : i2 ≠ z
  TITO : TI ≠ TO
  TIi1 : TI ≠ i1
  TIi2 : TI ≠ i2
  TOi1 : TO ≠ i1
  TOi2 : TO ≠ i2
  i12 : i1 ≠ i2
  f1 : ∀ b ∈ fp1, b ≠ z ∧ b ≠ TO ∧ b ≠ i2
  f2 : ∀ b ∈ fp2, b ≠ z ∧ b ≠ TO ∧ b ≠ i1
section
variable {prog : Program} {w : World} {A : Around} {E : Value → Shared → Prop} {s : Shared} {z TI TO i1 i2 : Addr} {fp1 fp2 : List Addr} {n1 n2 k1 k2 : Nat} {P1 P2 : Nat → Value → Prop} {St1 St2 : Nat → Heap → Prop} {a b : Value}
end
end L2

namespace L2
open PySem PySem.Spec PyProof.Rows
open PySem.Sem (wp)
section
variable {σ : St} {H : Hp} {K : PySem.W.Frag}
end
end L2

namespace L2
open PySem PySem.Spec PyProof.Rows
open PySem.Sem (wp)
open AutoSeq1 (wpAny_loadPart')
section
variable {X : Cx}
end
section
variable {H : Hp} {Q : VK} {K : PySem.W.Frag}
end
end L2

namespace L2
open PySem PySem.W PySem.Spec PyProof.Rows
noncomputable def Ask (N : Nat) (f : Nat → Nat → Bool) {α : Type} : KasT α → (α → Prop) → Prop
  | .ret a, Q => Q a
  | .ask i j k, Q => i < N ∧ j < N ∧ Ask N f (k (f i j)) Q
theorem Ask.bind {N : Nat} {f : Nat → Nat → Bool} {α β : Type} {Q : β → Prop} {h : α → KasT β} : ∀ (t : KasT α), Ask N f t (fun a => Ask N f (h a) Q) → Ask N f (t.bind h) Q
  | .ret _, z => z
  | .ask i j k, z => ⟨z.1, z.2.1, Ask.bind (k (f i j)) z.2.2⟩
theorem Ask.wp {N : Nat} {f : Nat → Nat → Bool} {α : Type} {cmp : Nat → Nat → (Bool → Shared → Prop) → Shared → Prop} {s : Shared} {Q : α → Shared → Prop}
    (hc : ∀ i j (C : Bool → Shared → Prop), i < N → j < N → C (f i j) s → cmp i j C s) : ∀ (t : KasT α), Ask N f t (fun a => Q a s) → t.kasWp cmp Q s
  | .ret _, z => z
  | .ask i j k, z => hc i j _ z.1 z.2.1 (Ask.wp hc (k (f i j)) z.2.2)
section
variable {g : Nat → Int} {N : Nat}
noncomputable def Kq (g : Nat → Int) (p : Array Nat) (i : Nat) : Int := g (p.getD i 0)
noncomputable def lq (g : Nat → Int) (i j : Nat) : Bool := decide (g i < g j)
noncomputable def Up (g : Nat → Int) (p : Array Nat) (n : Nat) : Prop := ∀ i j, i ≤ j → j < n → Kq g p i ≤ Kq g p j
noncomputable def Dn (g : Nat → Int) (p : Array Nat) (n : Nat) : Prop := ∀ i j, i ≤ j → j < n → Kq g p j ≤ Kq g p i
noncomputable def Pm (N : Nat) (p : Array Nat) : Prop := p.toList.Perm (List.range N)
theorem Pm.size {p : Array Nat} (h : Pm N p) : p.size = N := by
  have := h.length_eq
  simpa using this
theorem Pm.lt {p : Array Nat} (h : Pm N p) (h0 : 0 < N) (i : Nat) : p.getD i 0 < N := by
  by_cases hi : i < p.size
  · have e : p.getD i 0 = p[i] := by simp [Array.getD, hi]
    rw [e]
    exact List.mem_range.mp (h.mem_iff.mp (by simp))
  · have e : p.getD i 0 = 0 := by simp [Array.getD, hi]
    rw [e]; exact h0
theorem Kq_of {p q : Array Nat} {i j : Nat} (h : p[i]? = q[j]?) : Kq g p i = Kq g q j := by
  unfold Kq
  rw [Array.getD_eq_getD_getElem?, Array.getD_eq_getD_getElem?, h]
theorem Pm.rev {p : Array Nat} (h : Pm N p) (i j : Nat) : Pm N (kas_rev p i j) :=
  (Array.perm_iff_toList_perm.mp (mirror_perm p i j _)).trans h
theorem Pm.bub {p : Array Nat} (h : Pm N p) (i j : Nat) : Pm N (bubble p i j) :=
  (Array.perm_iff_toList_perm.mp (bubble_perm p i j)).trans h
theorem Kq_rev {p : Array Nat} {i j : Nat} (hj : j ≤ p.size) (k : Nat) : Kq g (kas_rev p i j) k = if i ≤ k ∧ k < j then Kq g p (i + j - 1 - k) else Kq g p k := by
  have e := getElem?_mirror_all (xs := p) (i := i) hj k
  by_cases h : i ≤ k ∧ k < j
  · rw [if_pos h] at e ⊢; exact Kq_of e
  · rw [if_neg h] at e ⊢; exact Kq_of e
theorem Up.more {p : Array Nat} {m : Nat} (h : Up g p m) (h1 : 1 ≤ m) (h2 : Kq g p (m - 1) ≤ Kq g p m) : Up g p (m + 1) := fun i j hij hj => by
  by_cases e : j = m
  · subst e
    by_cases e2 : i = j
    · rw [e2]; exact Int.le_refl _
    · exact Int.le_trans (h i (j - 1) (by omega) (by omega)) h2
  · exact h i j hij (by omega)
theorem Dn.more {p : Array Nat} {m : Nat} (h : Dn g p m) (h1 : 1 ≤ m) (h2 : Kq g p m ≤ Kq g p (m - 1)) : Dn g p (m + 1) := fun i j hij hj => by
  by_cases e : j = m
  · subst e
    by_cases e2 : i = j
    · rw [e2]; exact Int.le_refl _
    · exact Int.le_trans h2 (h i (j - 1) (by omega) (by omega))
  · exact h i j hij (by omega)
theorem ask_asc {p : Array Nat} {Q : Nat → Prop} (hB : ∀ i, p.getD i 0 < N) : ∀ (f m : Nat), 1 ≤ m → Up g p m → (∀ m', m ≤ m' → m' ≤ m + f → Up g p m' → (m' < m + f → Kq g p m' < Kq g p (m' - 1)) → Q m') → Ask N (lq g) (kas_asc p f m) Q
  | 0, m, _, hU, q => q m (Nat.le_refl _) (Nat.le_refl _) hU (fun h => absurd h (by omega))
  | f + 1, m, h1, hU, q => by
    refine ⟨hB _, hB _, ?_⟩
    by_cases hb : g (p.getD m 0) < g (p.getD (m - 1) 0)
    · have e : lq g (p.getD m 0) (p.getD (m - 1) 0) = true := decide_eq_true hb
      rw [e]
      show Ask _ _ (ite _ _ _) _
      rw [if_pos rfl]
      exact q m (Nat.le_refl _) (by omega) hU fun _ => hb
    · have e : lq g (p.getD m 0) (p.getD (m - 1) 0) = false := decide_eq_false hb
      rw [e]
      show Ask _ _ (ite _ _ _) _
      rw [if_neg (by decide)]
      refine ask_asc hB f (m + 1) (by omega) (hU.more h1 (show g _ ≤ g _ by omega)) fun m' a b c d => q m' (by omega) (by omega) c fun z => d (by omega)
theorem ask_desc {Q : Array Nat × Nat × Nat → Prop} (h0 : 0 < N) : ∀ (f : Nat) (p : Array Nat) (m k : Nat), Pm N p → m + f ≤ N → 1 ≤ m → k + 1 ≤ m → Dn g p m → (∀ i, m - (k + 1) ≤ i → i < m → Kq g p i = Kq g p (m - 1)) →
    (∀ p' m' k', Pm N p' → m ≤ m' → m' ≤ m + f → k' + 1 ≤ m' → Dn g p' m' → (∀ i, m' - (k' + 1) ≤ i → i < m' → Kq g p' i = Kq g p' (m' - 1)) → Q (p', m', k')) → Ask N (lq g) (kas_desc f p m k) Q
  | 0, p, m, k, hP, _, _, hk, hD, hE, q => q p m k hP (Nat.le_refl _) (Nat.le_refl _) hk hD hE
  | f + 1, p, m, k, hP, hm, h1, hk, hD, hE, q => by
    refine ⟨hP.lt h0 _, hP.lt h0 _, ?_⟩
    by_cases hb : g (p.getD m 0) < g (p.getD (m - 1) 0)
    · have e : lq g (p.getD m 0) (p.getD (m - 1) 0) = true := decide_eq_true hb
      rw [e]
      show Ask _ _ (ite _ _ _) _
      rw [if_pos rfl]
      have hb' : Kq g p m ≤ Kq g p (m - 1) := Int.le_of_lt hb
      by_cases hq : k > 0
      · rw [if_pos hq]
        have hs := hP.size
        have same : ∀ i, Kq g (kas_rev p (m - (k + 1)) m) i = Kq g p i := fun i => by
          rw [Kq_rev (by omega)]
          by_cases hi : m - (k + 1) ≤ i ∧ i < m
          · rw [if_pos hi, hE _ (by omega) (by omega), hE i hi.1 hi.2]
          · rw [if_neg hi]
        have hD' : Dn g (kas_rev p (m - (k + 1)) m) (m + 1) := fun i j hij hj => by
          rw [same, same]; exact hD.more h1 hb' i j hij hj
        refine ask_desc h0 f _ (m + 1) 0 (hP.rev _ _) (by omega) (by omega) (by omega) hD' (fun i h2 h3 => ?_) fun p' m' k' a b c d e1 e2 => q p' m' k' a (by omega) (by omega) d e1 e2
        have : i = m + 1 - 1 := by omega
        rw [this]
      · rw [if_neg hq]
        refine ask_desc h0 f _ (m + 1) 0 hP (by omega) (by omega) (by omega) (hD.more h1 hb') (fun i h2 h3 => ?_) fun p' m' k' a b c d e1 e2 => q p' m' k' a (by omega) (by omega) d e1 e2
        have : i = m + 1 - 1 := by omega
        rw [this]
    · have e : lq g (p.getD m 0) (p.getD (m - 1) 0) = false := decide_eq_false hb
      rw [e]
      show Ask _ _ (ite _ _ _) _
      rw [if_neg (by decide)]
      refine ⟨hP.lt h0 _, hP.lt h0 _, ?_⟩
      by_cases hc : g (p.getD (m - 1) 0) < g (p.getD m 0)
      · have e : lq g (p.getD (m - 1) 0) (p.getD m 0) = true := decide_eq_true hc
        rw [e]
        show Ask _ _ (ite _ _ _) _
        rw [if_pos rfl]
        exact q p m k hP (Nat.le_refl _) (by omega) hk hD hE
      · have e : lq g (p.getD (m - 1) 0) (p.getD m 0) = false := decide_eq_false hc
        rw [e]
        show Ask _ _ (ite _ _ _) _
        rw [if_neg (by decide)]
        have eq : Kq g p m = Kq g p (m - 1) := by unfold Kq; omega
        refine ask_desc h0 f _ (m + 1) (k + 1) hP (by omega) (by omega) (by omega) (hD.more h1 (by omega)) (fun i h2 h3 => ?_) fun p' m' k' a b c d e1 e2 => q p' m' k' a (by omega) (by omega) d e1 e2
        rw [Nat.add_sub_cancel]
        by_cases hi : i = m
        · rw [hi]
        · rw [eq]; exact hE i (by omega) (by omega)
theorem ask_tail {Q : Nat × Array Nat → Prop} {p : Array Nat} {n : Nat} (h0 : 0 < N) (hP : Pm N p) (h1 : 1 ≤ n) (hn : n ≤ N) (hD : Dn g p n)
    (q : ∀ m p', Pm N p' → 1 ≤ m → m ≤ N → Up g p' m → Q (m, p')) : Ask N (lq g) (kas_tail3 n N p) Q := by
  unfold kas_tail3
  refine Ask.bind _ ?_
  have hs := hP.size
  have hU : Up g (kas_rev p 0 n) n := fun i j hij hj => by
    rw [Kq_rev (by omega), Kq_rev (by omega), if_pos ⟨by omega, by omega⟩, if_pos ⟨by omega, hj⟩]
    exact hD _ _ (by omega) (by omega)
  exact ask_asc (fun i => (hP.rev 0 n).lt h0 i) (N - n) n h1 hU fun m a b c _ => q m _ (hP.rev 0 n) (by omega) (by omega) c
theorem ask_descP {Q : Nat × Array Nat → Prop} {p : Array Nat} {n : Nat} (h0 : 0 < N) (hP : Pm N p) (hn : n + 1 ≤ N) (hD : Dn g p (n + 1))
    (q : ∀ m p', Pm N p' → 1 ≤ m → m ≤ N → Up g p' m → Q (m, p')) : Ask N (lq g) (kas_descPart n N p) Q := by
  unfold kas_descPart
  refine Ask.bind _ (ask_desc h0 _ p (n + 1) 0 hP (by omega) (by omega) (by omega) hD (fun i a b => by rw [show i = n + 1 - 1 by omega]) fun p' m' k' a b c d e1 e2 => ?_)
  dsimp only
  by_cases hk : k' > 0
  · rw [if_pos hk]
    have hs := a.size
    have same : ∀ i, Kq g (kas_rev p' (m' - (k' + 1)) m') i = Kq g p' i := fun i => by
      rw [Kq_rev (by omega)]
      by_cases hi : m' - (k' + 1) ≤ i ∧ i < m'
      · rw [if_pos hi, e2 _ (by omega) (by omega), e2 i hi.1 hi.2]
      · rw [if_neg hi]
    exact ask_tail h0 (a.rev _ _) (by omega) (by omega) (fun i j hij hj => by rw [same, same]; exact e1 i j hij hj) q
  · rw [if_neg hk]
    exact ask_tail h0 a (by omega) (by omega) e1 q
theorem ask_count {Q : Nat × Array Nat → Prop} {p : Array Nat} (h0 : 0 < N) (hP : Pm N p) (q : ∀ m p', Pm N p' → 1 ≤ m → m ≤ N → Up g p' m → Q (m, p')) : Ask N (lq g) (kas_count N p) Q := by
  unfold kas_count
  refine Ask.bind _ (ask_asc (fun i => hP.lt h0 i) (N - 1) 1 (Nat.le_refl _) (fun i j a b => by rw [show i = j by omega]; exact Int.le_refl _) fun n a b c d => ?_)
  have hs := hP.size
  by_cases hn : n = N
  · rw [if_pos (by rw [hn]; exact beq_self_eq_true N)]
    exact q n p hP a (by omega) c
  · rw [if_neg (by simpa using hn)]
    have hlt := d (by omega)
    by_cases h1 : n > 1
    · rw [if_pos h1]
      refine ⟨hP.lt h0 _, hP.lt h0 _, ?_⟩
      by_cases hb : g (p.getD 0 0) < g (p.getD (n - 1) 0)
      · have e : lq g (p.getD 0 0) (p.getD (n - 1) 0) = true := decide_eq_true hb
        rw [e]
        show Ask _ _ (ite _ _ _) _
        rw [if_pos rfl]
        exact q n p hP a (by omega) c
      · have e : lq g (p.getD 0 0) (p.getD (n - 1) 0) = false := decide_eq_false hb
        rw [e]
        show Ask _ _ (ite _ _ _) _
        rw [if_neg (by decide)]
        have all : ∀ i, i < n → Kq g p i = Kq g p (n - 1) := fun i hi => by
          have x1 := c 0 i (by omega) hi
          have x2 := c i (n - 1) (by omega) (by omega)
          have x3 : ¬ Kq g p 0 < Kq g p (n - 1) := hb
          omega
        have same : ∀ i, Kq g (kas_rev p 0 n) i = Kq g p i := fun i => by
          rw [Kq_rev (by omega)]
          by_cases hi : 0 ≤ i ∧ i < n
          · rw [if_pos hi, all _ (by omega), all i hi.2]
          · rw [if_neg hi]
        refine ask_descP h0 (hP.rev 0 n) (by omega) (fun i j hij hj => ?_) q
        rw [same, same]
        by_cases e : j = n
        · by_cases e2 : i = n
          · rw [e, e2]; exact Int.le_refl _
          · rw [e, all i (by omega)]; exact Int.le_of_lt hlt
        · rw [all i (by omega), all j (by omega)]; exact Int.le_refl _
    · rw [if_neg h1]
      have h2 : n = 1 := by omega
      subst h2
      refine ask_descP h0 hP (by omega) (fun i j hij hj => ?_) q
      by_cases e : i = j
      · rw [e]; exact Int.le_refl _
      · rw [show i = 0 by omega, show j = 1 by omega]; exact Int.le_of_lt hlt
theorem ask_place {Q : Nat → Prop} {p : Array Nat} {k : Nat} (hB : ∀ i, p.getD i 0 < N) (hU : Up g p k) (q : ∀ l, l ≤ k → (∀ i, i < l → Kq g p i ≤ Kq g p k) → (∀ i, l ≤ i → i < k → Kq g p k < Kq g p i) → Q l) :
    ∀ (f l r : Nat), l ≤ r → r ≤ k → r - l ≤ f → (∀ i, i < l → Kq g p i ≤ Kq g p k) → (∀ i, r ≤ i → i < k → Kq g p k < Kq g p i) → Ask N (lq g) (kas_place p k f l r) Q
  | 0, l, r, h1, h2, h3, a, b => q l (by omega) a fun i x y => b i (by omega) y
  | f + 1, l, r, h1, h2, h3, a, b => by
    unfold kas_place
    by_cases hlr : l ≥ r
    · rw [if_pos hlr]
      exact q l (by omega) a fun i x y => b i (by omega) y
    · rw [if_neg hlr]
      refine ⟨hB _, hB _, ?_⟩
      by_cases hb : g (p.getD k 0) < g (p.getD ((l + r) / 2) 0)
      · have e : lq g (p.getD k 0) (p.getD ((l + r) / 2) 0) = true := decide_eq_true hb
        rw [e]
        show Ask _ _ (ite _ _ _) _
        rw [if_pos rfl]
        refine ask_place hB hU q f l ((l + r) / 2) (by omega) (by omega) (by omega) a fun i x y => ?_
        exact Int.lt_of_lt_of_le hb (hU _ _ x y)
      · have e : lq g (p.getD k 0) (p.getD ((l + r) / 2) 0) = false := decide_eq_false hb
        rw [e]
        show Ask _ _ (ite _ _ _) _
        rw [if_neg (by decide)]
        refine ask_place hB hU q f ((l + r) / 2 + 1) r (by omega) (by omega) (by omega) (fun i x => ?_) b
        have x1 := hU i ((l + r) / 2) (by omega) (by omega)
        have x2 : ¬ Kq g p k < Kq g p ((l + r) / 2) := hb
        omega
theorem ask_bin {Q : Array Nat → Prop} (h0 : 0 < N) (q : ∀ p', Pm N p' → Up g p' N → Q p') : ∀ (f : Nat) (p : Array Nat) (k : Nat), Pm N p → k + f = N → Up g p k → Ask N (lq g) (kas_bin f p k) Q
  | 0, p, k, hP, hk, hU => q p hP (by rw [show N = k by omega]; exact hU)
  | f + 1, p, k, hP, hk, hU => by
    unfold kas_bin
    refine Ask.bind _ (ask_place (fun i => hP.lt h0 i) hU (fun l h1 h2 h3 => ?_) k 0 k (by omega) (by omega) (by omega) (fun i hi => absurd hi (by omega)) fun i x y => absurd y (by omega))
    have hs := hP.size
    have hK : ∀ i, Kq g (bubble p k (k - l)) i = if i = l then Kq g p k else if l < i ∧ i ≤ k then Kq g p (i - 1) else Kq g p i := fun i => by
      have e := getElem?_bubble (xs := p) (src := k) (by omega) (k - l) (by omega) i
      have el : k - (k - l) = l := by omega
      rw [el] at e
      by_cases c1 : i = l
      · rw [if_pos c1] at e ⊢; exact Kq_of e
      · rw [if_neg c1] at e ⊢
        by_cases c2 : l < i ∧ i ≤ k
        · rw [if_pos c2] at e ⊢; exact Kq_of e
        · rw [if_neg c2] at e ⊢; exact Kq_of e
    refine ask_bin h0 q f _ (k + 1) (hP.bub _ _) (by omega) fun i j hij hj => ?_
    rw [hK, hK]
    by_cases c1 : i = l
    · rw [if_pos c1]
      by_cases d1 : j = l
      · rw [if_pos d1]; exact Int.le_refl _
      · rw [if_neg d1, if_pos ⟨by omega, by omega⟩]
        exact Int.le_of_lt (h3 _ (by omega) (by omega))
    · rw [if_neg c1]
      by_cases c2 : l < i ∧ i ≤ k
      · rw [if_pos c2, if_neg (by omega), if_pos ⟨by omega, by omega⟩]
        exact hU _ _ (by omega) (by omega)
      · rw [if_neg c2]
        by_cases d1 : j = l
        · rw [if_pos d1]; exact h2 i (by omega)
        · rw [if_neg d1]
          by_cases d2 : l < j ∧ j ≤ k
          · rw [if_pos d2]; exact hU _ _ (by omega) (by omega)
          · rw [if_neg d2]; exact hU _ _ hij (by omega)
theorem ask_sort {Q : Array Nat → Prop} (h0 : 0 < N) (q : ∀ p', Pm N p' → Up g p' N → Q p') : Ask N (lq g) (kas_sort N) Q := by
  unfold kas_sort
  refine Ask.bind _ (ask_count h0 (List.Perm.refl _) fun m p' hP h1 h2 hU => ?_)
  dsimp only
  by_cases hm : m < N
  · rw [if_pos hm, show max m 1 = m by omega]
    exact ask_bin h0 q (N - m) p' m hP (by omega) hU
  · rw [if_neg hm]
    exact q p' hP (by rw [show N = m by omega]; exact hU)
end
end L2

namespace L2
open PySem PySem.W PySem.Spec PyProof.Rows
section
variable {prog : Program} {w : World} {A : Around} {E : Value → Shared → Prop} {s : Shared}
noncomputable def But (a : Addr) (h h' : Heap) : Prop := ∀ b o, b ≠ a → h.get? b = some o → h'.get? b = some o
theorem but_three {h : Heap} {a : Addr} {f : Obj → Obj} {x y : Obj} : But a h (((h.update a f).push x).push y) := fun b o nb e => by
  have e1 : (h.update a f).get? b = some o := by rw [Heap.get?_update_ne _ _ _ _ nb]; exact e
  exact Heap.get?_push_of_some _ (Heap.get?_push_of_some _ e1)
theorem zip_snd (vs : List Value) : (vs.toArray.zip vs.toArray).map (·.2) = vs.toArray := by
  apply Array.toList_inj.mp
  simp only [Array.toList_map, Array.toList_zip]
  exact List.map_snd_zip (Nat.le_refl _)
theorem self_getD (vs : List Value) : (List.range vs.length).map (fun i => vs.getD i .none) = vs := by
  refine List.ext_getElem (by simp) fun i h1 h2 => ?_
  simp [h2]
theorem tup_sort {a : Addr} {vs : List Value} {n : Nat} {κ : SortKind} {g : Nat → Int} {P : PySem.Fin → Shared → Prop}
    (ho : s.heap.get? a = some (seqObj "list" vs.toArray n)) (few : vs.length < 64)
    (hK : 2 ≤ vs.length → ∀ (s' : Shared) (R : SortKind → Shared → Prop), But a s.heap s'.heap → R κ s' → wpAny (model prog w) A (keyKind' vs.toArray) R E s')
    (hC : ∀ (s' : Shared) (i j : Nat) (R : Bool → Shared → Prop), But a s.heap s'.heap → i < vs.length → j < vs.length → R (lq g i j) s' → wpAny (model prog w) A (keyLt' κ (vs.getD i .none) (vs.getD j .none)) R (fun _ _ => False) s')
    (h : ∀ p : Array Nat, Pm vs.length p → Up g p vs.length → P (.done (.ret .none)) { s with heap := sortedHeap s.heap a vs (p.toList.map fun i => vs.getD i .none).toArray }) :
    wpAny (model prog w) A (Builtin.«list.sort» ⟨[.ref a], []⟩) P E s := by
  rw [list_sort_plain]
  have la : a < s.heap.objs.size := Heap.lt_size ho
  refine wpAny_bind (listItems_at ho rfl (wpAny_bind (listUpdate_at ho rfl ?_)))
  obtain ⟨k, hk⟩ : ∃ k, (s.heap.update a (Obj.mapSeq fun _ => #[])).get? a = some (seqObj "list" #[] k) := ⟨_, get?_update_seq ho (fun _ => #[])⟩
  refine wpAny_bind (seqEpoch_at hk rfl (wpAny_bind (wpAny_newTuple (wpAny_bind (wpAny_newList (wpAny_holding ?_))))))
  have hk2 : (((s.heap.update a (Obj.mapSeq fun _ => #[])).push (seqObj "tuple" vs.toArray 0)).push (seqObj "list" #[] 0)).get? a = some (seqObj "list" #[] k) :=
    Heap.get?_push_of_some _ (Heap.get?_push_of_some _ hk)
  have bt := but_three (h := s.heap) (a := a) (f := Obj.mapSeq fun _ => #[]) (x := seqObj "tuple" vs.toArray 0) (y := seqObj "list" #[] 0)
  show wpAny (model prog w) A _ P E { s with heap := (((s.heap.update a (Obj.mapSeq fun _ => #[])).push (seqObj "tuple" vs.toArray 0)).push (seqObj "list" #[] 0)) }
  dsimp only
  have sz : vs.toArray.size = vs.length := by simp
  have hs : 64 ≤ sizeLine := by decide
  by_cases h2 : vs.toArray.size < 2
  · rw [if_pos h2, if_pos h2]
    refine wpAny_bind (wpAny_pure ?_)
    rw [StateT.run_pure]
    refine wpAny_bind (wpAny_pure ?_)
    dsimp only
    have ez : (arrOf (SortSt.mk' general' (vs.toArray.zip vs.toArray) #[] 7 none)).map (·.2) = vs.toArray := zip_snd vs
    rw [ez]
    refine wpAny_bind (seqEpoch_at hk2 rfl (wpAny_bind (listUpdate_at hk2 rfl ?_ (hsz2 := by rw [sz]; omega))))
    simp only [bne_self_eq_false, Bool.false_eq_true, if_false]
    have := h (List.range vs.length).toArray (List.Perm.refl _) (fun i j x y => by rw [show i = j by omega]; exact Int.le_refl _)
    rw [show (List.range vs.length).toArray.toList.map (fun i => vs.getD i .none) = vs from self_getD vs] at this
    exact wpAny_pure this
  · rw [if_neg h2, if_neg h2]
    refine wpAny_bind (hK (by omega) _ _ bt ?_)
    refine wpAny_bind (wpAny_mono (kat_run (ks := vs) (vs := vs) (κ := κ) (E := E) (G := fun p s' => s' = { s with heap := ((s.heap.update a (Obj.mapSeq fun _ => #[])).push (seqObj "tuple" vs.toArray 0)).push (seqObj "list" #[] 0) } ∧ Pm vs.length p ∧ Up g p vs.length)
      (Q := fun st' s' => s' = { s with heap := ((s.heap.update a (Obj.mapSeq fun _ => #[])).push (seqObj "tuple" vs.toArray 0)).push (seqObj "list" #[] 0) } ∧ failedOf st' = none ∧ ∃ p, Pm vs.length p ∧ Up g p vs.length ∧ (arrOf st').map (·.2) = (p.toList.map fun i => vs.getD i .none).toArray) rfl (by omega) few
      (fun p st' s' hz har hf hg => ⟨hg.1, hf, p, hg.2.1, hg.2.2, kat_snds rfl har⟩) (Ask.wp (N := vs.length) (f := lq g) (fun i j C hi hj c => hC _ i j C bt hi hj c) _ (ask_sort (by omega) fun p' hP hU => ⟨rfl, hP, hU⟩))) ?_ fun _ _ e => e)
    rintro ⟨⟨⟩, st'⟩ s' ⟨rfl, hf, p, hP, hU, har⟩
    dsimp only
    dsimp only at har
    rw [har]
    have lp : p.size = vs.length := hP.size
    refine wpAny_bind (seqEpoch_at hk2 rfl (wpAny_bind (listUpdate_at hk2 rfl ?_ (hsz2 := by simp; omega))))
    rw [hf]
    simp only [bne_self_eq_false, Bool.false_eq_true, if_false]
    exact wpAny_pure (h p hP hU)
end
end L2

namespace L2
open PySem PySem.W PySem.Spec PyProof.Rows
theorem lx_irr : ∀ a : List Int, HT.lexLt a a = false
  | [] => rfl
  | x :: xs => by rw [HT.lexLt_cons, if_pos rfl]; exact lx_irr xs
theorem lx_trans : ∀ {a b c : List Int}, HT.lexLt a b = true → HT.lexLt b c = true → HT.lexLt a c = true
  | [], [], _, h, _ => by cases h
  | [], _ :: _, [], _, h => by cases h
  | [], _ :: _, _ :: _, _, _ => rfl
  | _ :: _, [], _, h, _ => by cases h
  | _ :: _, _ :: _, [], _, h => by cases h
  | x :: xs, y :: ys, z :: zs, h1, h2 => by
    rw [HT.lexLt_cons] at h1 h2 ⊢
    by_cases e1 : x = y
    · rw [if_pos e1] at h1
      by_cases e2 : y = z
      · rw [if_pos e2] at h2
        rw [if_pos (by omega)]; exact lx_trans h1 h2
      · rw [if_neg e2] at h2
        rw [if_neg (by omega), e1]; exact h2
    · rw [if_neg e1] at h1
      have h1' := of_decide_eq_true h1
      by_cases e2 : y = z
      · rw [if_neg (by omega)]; exact decide_eq_true (by omega)
      · rw [if_neg e2] at h2
        have h2' := of_decide_eq_true h2
        rw [if_neg (by omega)]; exact decide_eq_true (by omega)
theorem lx_total : ∀ {a b : List Int}, HT.lexLt a b = false → HT.lexLt b a = false → a = b
  | [], [], _, _ => rfl
  | [], _ :: _, h, _ => by cases h
  | _ :: _, [], _, h => by cases h
  | x :: xs, y :: ys, h1, h2 => by
    rw [HT.lexLt_cons] at h1 h2
    by_cases e : x = y
    · rw [if_pos e] at h1
      rw [if_pos e.symm] at h2
      rw [e, lx_total h1 h2]
    · rw [if_neg e] at h1
      rw [if_neg (fun z => e z.symm)] at h2
      have h1' := of_decide_eq_false h1
      have h2' := of_decide_eq_false h2
      omega
noncomputable def rk (ts : List (List Int)) (i : Nat) : Int := ((ts.countP fun u => HT.lexLt u (ts.getD i [])) : Nat)
theorem rk_lt {ts : List (List Int)} {i j : Nat} (hi : i < ts.length) : lq (rk ts) i j = HT.lexLt (ts.getD i []) (ts.getD j []) := by
  unfold lq rk
  have mi : ts.getD i [] ∈ ts := by rw [List.getD_eq_getElem?_getD, List.getElem?_eq_getElem hi]; exact List.getElem_mem hi
  cases h : HT.lexLt (ts.getD i []) (ts.getD j []) with
  | true =>
    refine decide_eq_true ?_
    have key : ∀ l : List (List Int), ts.getD i [] ∈ l → l.countP (fun u => HT.lexLt u (ts.getD i [])) < l.countP (fun u => HT.lexLt u (ts.getD j [])) := by
      intro l
      induction l with
      | nil => intro h; cases h
      | cons u l ih =>
        intro hm
        rw [List.countP_cons, List.countP_cons]
        have le : l.countP (fun u => HT.lexLt u (ts.getD i [])) ≤ l.countP (fun u => HT.lexLt u (ts.getD j [])) := List.countP_mono_left fun x _ hx => lx_trans hx h
        by_cases e : u = ts.getD i []
        · rw [e, lx_irr, h, if_neg (by decide), if_pos rfl]
          omega
        · have hm' : ts.getD i [] ∈ l := (List.mem_cons.mp hm).resolve_left fun z => e z.symm
          have := ih hm'
          by_cases c : HT.lexLt u (ts.getD i []) = true
          · rw [if_pos c, if_pos (lx_trans c h)]; omega
          · rw [if_neg c]; split <;> omega
    have := key ts mi
    omega
  | false =>
    refine decide_eq_false ?_
    have le : ts.countP (fun u => HT.lexLt u (ts.getD j [])) ≤ ts.countP (fun u => HT.lexLt u (ts.getD i [])) := List.countP_mono_left fun x _ hx => by
      cases c : HT.lexLt (ts.getD j []) (ts.getD i []) with
      | true => exact lx_trans hx c
      | false => rw [lx_total h c]; exact hx
    omega
section
variable {prog : Program} {w : World} {A : Around} {E : Value → Shared → Prop} {s : Shared}
theorem kl_int {b fin : Bool} {Q : Bool → Shared → Prop} : ∀ (n : Nat) {vs us : List Value} {ns ms : List Int}, IntsAre vs ns → IntsAre us ms → fin = decide (ns.length < ms.length) → Q (HT.lexLt ns ms) s → KatLex prog w A b fin Q (vs.zip us) n s := by
  intro n vs us ns ms h1
  induction h1 generalizing n us ms with
  | nil =>
    intro h2 hf q
    cases h2 with
    | nil => rw [hf]; exact q
    | cons y t h2 => rw [hf]; exact q
  | cons x t h1 ih =>
    intro h2 hf q
    cases h2 with
    | nil => rw [hf]; exact q
    | cons y u h2 =>
      rw [List.zip_cons_cons]
      refine kat_cons (wpAny_eqBool_int ?_)
      rw [HT.lexLt_cons] at q
      by_cases e : x = y
      · rw [if_pos e] at q
        rw [show (x == y) = true by rw [e]; exact beq_self_eq_true y]
        refine kat_yes (ih (n + 1) h2 ?_ q)
        rw [hf]
        simp
      · rw [if_neg e] at q
        rw [show (x == y) = false by simpa using e]
        refine kat_no ?_
        cases hb : (b && n == 0) with
        | true => exact oneLt_int q
        | false => exact kat_one _ _ (lt_int q)
theorem tl_lt {Q : Bool → Shared → Prop} {x y : Addr} {vs us : List Value} {ns ms : List Int} (hx : IsTup s.heap x vs.toArray) (hy : IsTup s.heap y us.toArray) (h1 : IntsAre vs ns) (h2 : IntsAre us ms) (q : Q (HT.lexLt ns ms) s) :
    wpAny (model prog w) A (keyLt' (tuples' true) (.ref x) (.ref y)) Q E s := by
  obtain ⟨ox, gx, _, n1, dx⟩ := hx
  obtain ⟨oy, gy, _, n2, dy⟩ := hy
  refine kat_lt gx dx gy dy (kl_int 0 h1 h2 ?_ q)
  have l1 := h1.length
  have l2 := h2.length
  simp [l1, l2]
noncomputable def Tps (H : Hp) (vs : List V) (ts : List (List Int)) : Prop := vs.length = ts.length ∧ ∀ i, i < vs.length → ∃ a, vs[i]? = some (.ref a) ∧ H a = some (.tup ((ts.getD i []).map V.int)) ∧ ts.getD i [] ≠ []
noncomputable def rSortT : List V → Hp → VK → Prop := fun xs H Q => ∃ (p : Addr) (vs : List V) (ts : List (List Int)), xs = [.ref p] ∧ H p = some (.lst vs) ∧ vs.length < 64 ∧ Tps H vs ts ∧
  ∀ (q : Addr) (ix : List Nat), H q = none → ix.Perm (List.range vs.length) → (ix.map fun i => ts.getD i []).Pairwise (fun a b => HT.lexLt b a = false) → Q (.ref q) (upd H q (.lst (ix.map fun i => vs.getD i .non)))
theorem kind_tups {vs : List Value} {ts : List (List Int)} {Q : SortKind → Shared → Prop} (h2 : 2 ≤ vs.length) (h : ∀ i, i < vs.length → ∃ a its, vs[i]? = some (.ref a) ∧ IsTup s.heap a its.toArray ∧ IntsAre its (ts.getD i []) ∧ ts.getD i [] ≠ []) (q : Q (tuples' true) s) :
    wpAny (model prog w) A (keyKind' vs.toArray) Q E s := by
  have key : ∀ (l : List Value), (∀ v ∈ l, ∃ a its ns, v = .ref a ∧ IsTup s.heap a its.toArray ∧ IntsAre its ns ∧ ns ≠ []) → ∃ fs : List Value, fs.length = l.length ∧ KatTups s.heap l fs ∧ ∀ v ∈ fs, ∃ n t, v = Value.int n t := by
    intro l
    induction l with
    | nil => exact fun _ => ⟨[], rfl, KatTups.nil, fun v hv => by cases hv⟩
    | cons v l ih =>
      intro hl
      obtain ⟨fs, lf, kf, inf⟩ := ih fun u hu => hl u (List.mem_cons_of_mem _ hu)
      obtain ⟨a, its, ns, rfl, ⟨o, go, co, n, dn⟩, hI, hne⟩ := hl v List.mem_cons_self
      cases hI with
      | nil => exact absurd rfl hne
      | cons x t hI =>
        refine ⟨.int x t :: fs, by simp [lf], KatTups.cons go co dn (by simp) kf, fun v hv => ?_⟩
        rcases List.mem_cons.mp hv with rfl | hv
        · exact ⟨x, t, rfl⟩
        · exact inf v hv
  obtain ⟨fs, lf, kf, inf⟩ := key vs fun v hv => by
    obtain ⟨i, hi, rfl⟩ := List.mem_iff_getElem.mp hv
    obtain ⟨a, its, e, it, ia, ne⟩ := h i hi
    rw [List.getElem?_eq_getElem hi] at e
    exact ⟨a, its, _, Option.some.inj e, it, ia, ne⟩
  refine kat_kind (T := .type "int") kf (by omega) (fun v hv => ?_) rfl q
  obtain ⟨n, t, rfl⟩ := inf v hv
  exact Looks.of_pure rfl
theorem sorted_tups {l : Addr} {vs : List Value} {ts : List (List Int)} {Q : Value → Shared → Prop} (hl : s.heap.IsList l vs.toArray) (few : vs.length < 64) (lt : vs.length = ts.length)
    (h : ∀ i, i < vs.length → ∃ a its, vs[i]? = some (.ref a) ∧ IsTup s.heap a its.toArray ∧ IntsAre its (ts.getD i []) ∧ ts.getD i [] ≠ [])
    (q : ∀ p : Array Nat, Pm vs.length p → Up (rk ts) p vs.length → Q (.ref (s.heap.objs.size + 1)) { s with heap := sortedAll s.heap vs (p.toList.map fun i => vs.getD i .none).toArray }) :
    wpAny (model prog w) A (call (.builtin "sorted") [.ref l]) Q E s := by
  refine Calls.call_function_entry kind_sorted plain_sorted entry_sorted (args_sorted1 _) ?_
  unfold Builtin.«sorted»
  have hs : 64 ≤ sizeLine := by decide
  refine wpAny_bind (m := checkCount "sorted" 1 1 _) (wpAny_pure (wpAny_bind (collect_list hl ?_ (hsz := by omega))))
  refine wpAny_bind (wpAny_newList ?_)
  have z1 : ((s.heap.push (seqObj "list" #[] 0)).update s.heap.objs.size (Obj.mapSeq (· ++ vs.toArray))).objs.size = s.heap.objs.size + 1 := by rw [Heap.size_update, size_push']
  have old : ∀ b o, s.heap.get? b = some o → (((s.heap.push (seqObj "list" #[] 0)).update s.heap.objs.size (Obj.mapSeq (· ++ vs.toArray))).push (seqObj "list" vs.toArray 0)).get? b = some o := fun b o e => by
    have lb := Heap.lt_size e
    refine Heap.get?_push_of_some _ ?_
    rw [Heap.get?_update_ne _ _ _ _ (Nat.ne_of_lt lb)]
    exact Heap.get?_push_of_some _ e
  have hoL : (((s.heap.push (seqObj "list" #[] 0)).update s.heap.objs.size (Obj.mapSeq (· ++ vs.toArray))).push (seqObj "list" vs.toArray 0)).get? (s.heap.objs.size + 1) = some (seqObj "list" vs.toArray 0) :=
    z1 ▸ Heap.get?_push_size _ rfl
  show wpAny _ _ _ _ _ { s with heap := (((s.heap.push (seqObj "list" #[] 0)).update s.heap.objs.size (Obj.mapSeq (· ++ vs.toArray))).push (seqObj "list" vs.toArray 0)) }
  rw [z1]
  have tup : ∀ {s' : Shared}, But (s.heap.objs.size + 1) (((s.heap.push (seqObj "list" #[] 0)).update s.heap.objs.size (Obj.mapSeq (· ++ vs.toArray))).push (seqObj "list" vs.toArray 0)) s'.heap →
      ∀ i, i < vs.length → ∃ a its, vs[i]? = some (.ref a) ∧ IsTup s'.heap a its.toArray ∧ IntsAre its (ts.getD i []) ∧ ts.getD i [] ≠ [] := fun {s'} bt i hi => by
    obtain ⟨a, its, e, ⟨o, go, r⟩, ia, ne⟩ := h i hi
    have lb := Heap.lt_size go
    exact ⟨a, its, e, ⟨o, bt a o (Nat.ne_of_lt (Nat.lt_succ_of_lt lb)) (old a o go), r⟩, ia, ne⟩
  refine wpAny_bind (wpAny_holding (wpAny_call_entry slot_list_sort ⟨_, hoL, rfl⟩ entry_list_sort (tup_sort (κ := tuples' true) (g := rk ts) hoL few (fun h2 s' R bt r => kind_tups h2 (tup bt) r) (fun s' i j R bt hi hj r => ?_) fun p hP hU => ⟨_, rfl, ?_⟩) (args_list_sort _)))
  · obtain ⟨a, its, e, it, ia, ne⟩ := tup bt i hi
    obtain ⟨a2, its2, e2, it2, ia2, ne2⟩ := tup bt j hj
    rw [List.getD_eq_getElem?_getD, List.getD_eq_getElem?_getD, e, e2]
    rw [rk_lt (by omega)] at r
    exact tl_lt it it2 ia ia2 r
  · exact wpAny_pure ⟨_, rfl, q p hP hU⟩
end
section
variable {X : Cx}
theorem vals_pick {vs : List V} {its : List Value} (r : Vals vs its) : ∀ ix : List Nat, (∀ i ∈ ix, i < vs.length) → Vals (ix.map fun i => vs.getD i .non) (ix.map fun i => its.getD i .none)
  | [], _ => .nil
  | i :: ix, h => by
    have hi := h i List.mem_cons_self
    obtain ⟨u, eu, ru⟩ := r.get (List.getElem?_eq_getElem hi)
    refine .cons ?_ (vals_pick r ix fun k hk => h k (List.mem_cons_of_mem _ hk))
    show RelV (vs.getD i .non) (its.getD i .none)
    rw [List.getD_eq_getElem?_getD, List.getD_eq_getElem?_getD, eu, List.getElem?_eq_getElem hi]
    exact ru
theorem call_sortedT : CallR X (.builtin "sorted") rSortT := by
  intro pins s σ H xs us Q I r h
  obtain ⟨p, vs, ts, rfl, hp, few, ⟨lt, ht⟩, q⟩ := h
  obtain ⟨u, rfl, ru⟩ := vals1 r
  cases ru
  obtain ⟨hz, its, n, rv, g⟩ := I.hok p _ hp
  have hl := rv.length
  refine sorted_tups (vs := its) (ts := ts) ⟨_, g, rfl, n, rfl⟩ (by omega) (by omega) (fun i hi => ?_) fun pm hP hU => ?_
  · obtain ⟨a, e, ha, ne⟩ := ht i (by omega)
    obtain ⟨v, ev, rv'⟩ := rv.get e
    cases rv'
    obtain ⟨_, it, rt, tt⟩ := I.hok a _ ha
    exact ⟨a, it, ev, tt, intsAre_of rt, ne⟩
  · rw [← hl] at hP hU
    obtain ⟨e, he⟩ := sortedAll_at s.heap its (pm.toList.map fun i => its.getD i .none).toArray
    have mem : ∀ i ∈ pm.toList, i < vs.length := fun i hi => List.mem_range.mp (hP.mem_iff.mp hi)
    have lp : pm.toList.length = vs.length := by have := hP.length_eq; simpa using this
    have hs : 64 ≤ sizeLine := by decide
    refine ⟨.ref (s.heap.objs.size + 1), _, I.laid (t' := s.toks) (o := .lst (pm.toList.map fun i => vs.getD i .non)) (fun b ob q => sortedAll_old q) (Nat.le_succ _) ⟨by rw [List.length_map]; omega, _, e, vals_pick rv _ mem, he⟩, rfl, q _ pm.toList (I.hok.fresh (Nat.le_succ _)) hP ?_⟩
    rw [List.pairwise_iff_getElem]
    intro i j hi hj hij
    rw [List.length_map] at hi hj
    have hU' := hU i j (by omega) (by omega)
    have gi : pm.getD i 0 = pm.toList[i] := by
      have : i < pm.size := by simpa using hi
      simp [Array.getD, this]
    have gj : pm.getD j 0 = pm.toList[j] := by
      have : j < pm.size := by simpa using hj
      simp [Array.getD, this]
    unfold Kq at hU'
    rw [gi, gj] at hU'
    rw [List.getElem_map, List.getElem_map]
    have lj := mem _ (List.getElem_mem hj)
    rw [← rk_lt (by omega)]
    exact decide_eq_false (by omega)
end
section
variable {H : Hp} {Q : VK}
theorem r_sortedT {p : Addr} {vs : List V} {ts : List (List Int)} (hp : H p = some (.lst vs)) (few : vs.length < 64) (ht : Tps H vs ts)
    (h : ∀ (q : Addr) (ix : List Nat), H q = none → ix.Perm (List.range vs.length) → (ix.map fun i => ts.getD i []).Pairwise (fun a b => HT.lexLt b a = false) → Q (.ref q) (upd H q (.lst (ix.map fun i => vs.getD i .non)))) : rSortT [.ref p] H Q := ⟨p, vs, ts, rfl, hp, few, ht, h⟩
end
end L2

namespace My
open PySem L2
noncomputable def top (i : Nat) : Stmt := PySem.Challenge.pw_panethread_k14_whole_no_thread_beats_hea.main.body.getD i (.Pass ⟨0, 0, 0, 0⟩)
noncomputable abbrev s_is_number : Stmt := top 7
noncomputable abbrev s_is_pair : Stmt := top 8
noncomputable abbrev s_is_row : Stmt := top 10
noncomputable abbrev s_need_row : Stmt := top 11
noncomputable abbrev s_need_rows : Stmt := top 12
noncomputable abbrev s_lengths_below : Stmt := top 14
noncomputable abbrev s_lengths : Stmt := top 15
noncomputable abbrev s_longest : Stmt := top 16
noncomputable abbrev s_is_match : Stmt := top 17
noncomputable abbrev s_is_ahead : Stmt := top 18
noncomputable abbrev s_is_thread : Stmt := top 19
noncomputable abbrev s_pairs_of : Stmt := top 21
noncomputable abbrev s_is_stack : Stmt := top 22
noncomputable abbrev s_holds_all_once : Stmt := top 23
noncomputable abbrev s_has_one_ahead : Stmt := top 24
noncomputable abbrev s_are_heaps : Stmt := top 25
noncomputable abbrev s_shows : Stmt := top 26
noncomputable abbrev s_law_cell : Stmt := top 28
noncomputable abbrev s_law_purse : Stmt := top 29
noncomputable abbrev s_law_take : Stmt := top 30
noncomputable abbrev s_law_letters : Stmt := top 31
noncomputable abbrev s_law_drawn : Stmt := top 32
noncomputable abbrev s_law_row : Stmt := top 33
noncomputable abbrev s_law_table : Stmt := top 34
noncomputable abbrev s_law_pairs : Stmt := top 35
noncomputable abbrev s_law_ahead : Stmt := top 36
noncomputable abbrev s_law_shuffled : Stmt := top 37
noncomputable abbrev s_law_some_thread : Stmt := top 38
noncomputable abbrev s_law_some_heaps : Stmt := top 39
noncomputable abbrev s_law : Stmt := top 40
noncomputable abbrev i_NoRow : Stmt := initOf (top 2)
local macro_rules | `(tactic| walk_at "sts") => `(tactic| (with_reducible repeat (first | refine r_op ?_ | refine iteT ?_ | refine iteF ?_ | refine iteNT ?_ | refine iteNF ?_ | refine r_var (by with_unfolding_all rfl) ?_ | refine r_C ?_ | refine r_i0 ?_ | refine r_addI ?_ | refine r_cons ?_ | refine r_nil ?_ | refine r_seq ?_ | refine r_asg ?_ | refine r_name ?_ | refine r_ret ?_ | refine r_next ?_ | refine r_if ?_ | refine r_test ?_ | refine r_bl ?_ | refine r_cb ?_ | refine r_call ?_ | refine r_tb ?_ | refine r_not ?_ | refine r_and ?_ | refine r_or ?_ | refine r_andV ?_ | refine r_orV ?_ | refine r_notV ?_ | refine r_sub ?_ | refine r_drop ?_ | refine r_un ?_ | refine r_tup ?_ | refine r_lst ?_ | refine r_bm ?_ | refine r_sl ?_ | refine r_nop ?_ | refine r_part ?_ | refine r_true ?_ | refine r_rng1 ?_ | refine r_rng2 ?_ | refine r_iseq ?_ | refine r_comp ?_ | refine r_for ?_ | refine r_u ?_ | refine r_gcons ?_ | refine r_gnil ?_ | refine r_gtup (SqT.of (by first | assumption | exact upd_same)) (by rfl) ?_ | refine r_callX ?_ | refine r_chain ?_ | refine r_raise ?_ | refine r_isNotB ?_ | refine r_ii ?_ | refine r_eqBI ?_ | refine r_eqBS ?_ | refine r_neBI ?_ | refine r_neBB ?_ | refine r_enumA ?_ | refine r_inS ?_ | refine r_intE ?_ | refine r_i (by with_unfolding_all first | assumption | omega | (dsimp only <;> omega) | exact ⟨by omega, by omega⟩ | exact .inl ⟨by omega, by omega⟩ | exact .inr ⟨by omega, by omega⟩ | exact ⟨by decide, by decide, by decide⟩) ?_ | refine r_mulI (by with_unfolding_all first | assumption | omega | (dsimp only <;> omega) | exact ⟨by omega, by omega⟩ | exact .inl ⟨by omega, by omega⟩ | exact .inr ⟨by omega, by omega⟩ | exact ⟨by decide, by decide, by decide⟩) ?_ | refine r_ixL (SqL.of (by first | assumption | exact upd_same)) (by with_unfolding_all rfl) ?_ | refine r_ixT (SqT.of (by first | assumption | exact upd_same)) (by with_unfolding_all rfl) ?_ | refine r_setL (by first | assumption | exact upd_same) (by with_unfolding_all rfl) ?_ | refine r_inSD ?_ | refine r_dnewT ?_)))
local macro_rules | `(tactic| walk_at "stn") => `(tactic| (with_reducible repeat (first | refine r_op ?_ | refine iteT ?_ | refine iteF ?_ | refine iteNT ?_ | refine iteNF ?_ | refine r_var (by with_unfolding_all rfl) ?_ | refine r_C ?_ | refine r_i0 ?_ | refine r_addI ?_ | refine r_cons ?_ | refine r_nil ?_ | refine r_asg ?_ | refine r_name ?_ | refine r_ret ?_ | refine r_next ?_ | refine r_if ?_ | refine r_test ?_ | refine r_bl ?_ | refine r_cb ?_ | refine r_call ?_ | refine r_tb ?_ | refine r_not ?_ | refine r_and ?_ | refine r_or ?_ | refine r_andV ?_ | refine r_orV ?_ | refine r_notV ?_ | refine r_sub ?_ | refine r_drop ?_ | refine r_un ?_ | refine r_tup ?_ | refine r_lst ?_ | refine r_bm ?_ | refine r_sl ?_ | refine r_nop ?_ | refine r_part ?_ | refine r_true ?_ | refine r_rng1 ?_ | refine r_rng2 ?_ | refine r_iseq ?_ | refine r_comp ?_ | refine r_for ?_ | refine r_u ?_ | refine r_gcons ?_ | refine r_gnil ?_ | refine r_gtup (SqT.of (by first | assumption | exact upd_same)) (by rfl) ?_ | refine r_callX ?_ | refine r_chain ?_ | refine r_raise ?_ | refine r_isNotB ?_ | refine r_ii ?_ | refine r_eqBI ?_ | refine r_eqBS ?_ | refine r_neBI ?_ | refine r_neBB ?_ | refine r_enumA ?_ | refine r_inS ?_ | refine r_intE ?_ | refine r_i (by with_unfolding_all first | assumption | omega | (dsimp only <;> omega) | exact ⟨by omega, by omega⟩ | exact .inl ⟨by omega, by omega⟩ | exact .inr ⟨by omega, by omega⟩ | exact ⟨by decide, by decide, by decide⟩) ?_ | refine r_mulI (by with_unfolding_all first | assumption | omega | (dsimp only <;> omega) | exact ⟨by omega, by omega⟩ | exact .inl ⟨by omega, by omega⟩ | exact .inr ⟨by omega, by omega⟩ | exact ⟨by decide, by decide, by decide⟩) ?_ | refine r_ixL (SqL.of (by first | assumption | exact upd_same)) (by with_unfolding_all rfl) ?_ | refine r_ixT (SqT.of (by first | assumption | exact upd_same)) (by with_unfolding_all rfl) ?_ | refine r_setL (by first | assumption | exact upd_same) (by with_unfolding_all rfl) ?_ | refine r_inSD ?_ | refine r_dnewT ?_)))
noncomputable def mx (i j : Int) : Int := if j > i then j else i
noncomputable def lt (S P : List Nat) (i j : Nat) : Int := match i, j with
  | 0, _ => 0
  | _ + 1, 0 => 0
  | i + 1, j + 1 => if S[i]? = P[j]? then mx (mx (lt S P i (j + 1)) (lt S P (i + 1) j)) (lt S P i j + 1) else mx (lt S P i (j + 1)) (lt S P (i + 1) j)
termination_by i + j
theorem lt_0 (S P : List Nat) (j : Nat) : lt S P 0 j = 0 := by rw [lt]
theorem lt_z (S P : List Nat) (i : Nat) : lt S P i 0 = 0 := by cases i <;> rw [lt]
theorem lt_s (S P : List Nat) (i j : Nat) : lt S P (i + 1) (j + 1) = if S[i]? = P[j]? then mx (mx (lt S P i (j + 1)) (lt S P (i + 1) j)) (lt S P i j + 1) else mx (lt S P i (j + 1)) (lt S P (i + 1) j) := by rw [lt]
noncomputable def rowT (S P : List Nat) (i n : Nat) : List Int := (List.range n).map (lt S P i)
theorem rowT_len (S P : List Nat) (i n : Nat) : (rowT S P i n).length = n := by simp [rowT]
theorem rowT_at {S P : List Nat} {i n j : Nat} (h : j < n) : (rowT S P i n)[j]? = some (lt S P i j) := by
  unfold rowT
  rw [List.getElem?_map, List.getElem?_range h]; rfl
theorem rowT_succ (S P : List Nat) (i n : Nat) : rowT S P i (n + 1) = rowT S P i n ++ [lt S P i n] := by
  unfold rowT
  rw [List.range_succ, List.map_append]; rfl
noncomputable def LETT : Str := Str.ofString "abcdefghijklmnopqrstuvwxyz"
noncomputable def GOOD : List Nat := (LETT ++ Str.ofString ".").cps.toList
noncomputable def Row (z : Str) : Prop := z.length ≤ 48 ∧ ∀ c ∈ z.cps.toList, c ∈ GOOD
noncomputable def badC (l : Str) (c : Nat) : Bool := (Builtin.Str.occurrences l ⟨#[c]⟩ 0 l.length 1).isEmpty
theorem good_ok : ∀ c ∈ GOOD, badC (LETT ++ Str.ofString ".") c = false := by decide +kernel
noncomputable def spBelow : Sp := fun vs H Q _ => ∃ (a : Addr) (S : List Nat) (i c : Nat) (top : Str), vs = [.ref a, .str ⟨#[c]⟩, .str top] ∧ S[i]? = some c ∧ top.length ≤ 48 ∧ H a = some (.lst ((rowT S top.cps.toList i (top.length + 1)).map V.int)) ∧
  ∀ r H', H r = none → Same H H' → H' r = some (.lst ((rowT S top.cps.toList (i + 1) (top.length + 1)).map V.int)) → Q (.ref r) H'
noncomputable def spCell (K : PySem.W.Frag) : Sp := fun vs H Q _ => ∃ (a : Addr) (ns : List Int) (k : Int), vs = [.ref a, .int k] ∧ SqL K H a (ns.map V.int) ∧ 0 ≤ k ∧ ∀ n, Q (.int n) H
noncomputable def spPurse : Sp := fun vs H Q _ => ∃ n : Int, vs = [.int n] ∧ ∀ p H', H p = none → Chg p H H' → Pur H' p → Q (.ref p) H'
noncomputable def spTake : Sp := fun vs H Q _ => ∃ (p : Addr) (n : Int), vs = [.ref p, .int n] ∧ Pur H p ∧ 0 < n ∧ n < 1073741824 ∧ ∀ d H', 0 ≤ d → d < n → Pur H' p → Chg p H H' → Q (.int d) H'
noncomputable def GoodS (ys : List Str) : Prop := ∀ y ∈ ys, ∃ c, y = ⟨#[c]⟩ ∧ c ∈ GOOD
theorem GoodS.ones {ys : List Str} (h : GoodS ys) : ∀ y ∈ ys, y.length = 1 := fun y hy => by
  obtain ⟨c, rfl, _⟩ := h y hy
  exact len1 c
theorem lett_good : ∀ c ∈ (Str.ofString "abcdefghijklmnopqrstuvwxyz").cps.toList, c ∈ GOOD := by decide +kernel
theorem row_of {zs : List Str} (h : GoodS zs) (hl : zs.length ≤ 48) : Row (Txt.join (Str.ofString "") zs) := by
  refine ⟨by rw [join_len h.ones]; exact hl, fun c hc => ?_⟩
  rw [join_cps] at hc
  obtain ⟨l, hl1, hl2⟩ := List.mem_flatten.mp hc
  obtain ⟨y, hy, e⟩ := List.mem_map.mp hl1
  obtain ⟨d, rfl, hd⟩ := h y hy
  subst e
  simp at hl2
  subst hl2
  exact hd
noncomputable def spLetters : Sp := fun vs H Q _ => ∃ (p : Addr), vs = [.ref p] ∧ Pur H p ∧ ∀ (q : Addr) (ys : List Str) (H' : Hp), H q = none → Pur H' p → Chg p H H' → H' q = some (.lst (ys.map V.str)) → ys ≠ [] → ys.length ≤ 26 → GoodS ys → Q (.ref q) H'
noncomputable def spDrawn : Sp := fun vs H Q _ => ∃ (p q : Addr) (ys : List Str) (m : Int), vs = [.ref p, .ref q, .int m] ∧ Pur H p ∧ H q = some (.lst (ys.map V.str)) ∧ ys ≠ [] ∧ ys.length ≤ 27 ∧ GoodS ys ∧ 0 ≤ m ∧ m ≤ 48 ∧
  ∀ (z : Str) (H' : Hp), Row z → Pur H' p → Chg p H H' → Q (.str z) H'
theorem over {H H' : Hp} {r : Addr} {o : HO} (s : Same H H') (hn : H r = none) : Same H (upd H' r o) := fun b u e => by
  rw [upd_ne (fun z => by rw [z, hn] at e; cases e)]; exact s b u e
theorem at_row {S P : List Nat} {i n j : Nat} (h : j < n) : atI ((rowT S P i n).map V.int) (j : Int) = some (.int (lt S P i j)) := by
  refine atI_nat ?_
  rw [List.getElem?_map, rowT_at h]; rfl
noncomputable def Thing (K : PySem.W.Frag) (H : Hp) (v : V) : Prop := (∃ z, v = .str z ∧ z.length ≤ 5000) ∨ ∃ T, TyOf K H v (.type T) ∧ PySem.W.kitOne K (.type T) (.type "str") = some false
noncomputable def among (z l : Str) : Bool := z.cps.toList.all fun c => !(Builtin.Str.occurrences l ⟨#[c]⟩ 0 l.length 1).isEmpty
noncomputable def readB (v : V) (l : Str) (m : Int) : Bool := match v with
  | .str z => decide ((z.length : Int) ≤ m) && among z l
  | _ => false
noncomputable def spIs (K : PySem.W.Frag) (l : Str) (m : Int) : Sp := fun vs H Q _ => ∃ (v : V), vs = [v] ∧ Thing K H v ∧ ∀ H', Same H H' → Q (.bl (readB v l m)) H'
structure Txt (K : PySem.W.Frag) (mg : Str → Option Value) : Prop where
  b_all : mg "all" = none
  b_any : mg "any" = none
  b_bool : mg "bool" = none
  b_enumerate : mg "enumerate" = none
  b_int : mg "int" = none
  b_isinstance : mg "isinstance" = none
  b_len : mg "len" = none
  b_list : mg "list" = none
  b_max : mg "max" = none
  b_range : mg "range" = none
  b_sorted : mg "sorted" = none
  b_str : mg "str" = none
  b_tuple : mg "tuple" = none
  c_LETTERS : ∃ t, mg "LETTERS" = some (.str "abcdefghijklmnopqrstuvwxyz" t)
  c_MOST_SIGNS : ∃ t, mg "MOST_SIGNS" = some (.int 48 t)
  c_POINT : ∃ t, mg "POINT" = some (.str "." t)
  d_is_number : Def K mg "is_number" s_is_number
  d_is_pair : Def K mg "is_pair" s_is_pair
  d_is_row : Def K mg "is_row" s_is_row
  d_need_row : Def K mg "need_row" s_need_row
  d_need_rows : Def K mg "need_rows" s_need_rows
  d_lengths_below : Def K mg "lengths_below" s_lengths_below
  d_lengths : Def K mg "lengths" s_lengths
  d_longest : Def K mg "longest" s_longest
  d_is_match : Def K mg "is_match" s_is_match
  d_is_ahead : Def K mg "is_ahead" s_is_ahead
  d_is_thread : Def K mg "is_thread" s_is_thread
  d_pairs_of : Def K mg "pairs_of" s_pairs_of
  d_is_stack : Def K mg "is_stack" s_is_stack
  d_holds_all_once : Def K mg "holds_all_once" s_holds_all_once
  d_has_one_ahead : Def K mg "has_one_ahead" s_has_one_ahead
  d_are_heaps : Def K mg "are_heaps" s_are_heaps
  d_shows : Def K mg "shows" s_shows
  d_law_cell : Def K mg "_law_cell" s_law_cell
  d_law_purse : Def K mg "_law_purse" s_law_purse
  d_law_take : Def K mg "_law_take" s_law_take
  d_law_letters : Def K mg "_law_letters" s_law_letters
  d_law_drawn : Def K mg "_law_drawn" s_law_drawn
  d_law_row : Def K mg "_law_row" s_law_row
  d_law_table : Def K mg "_law_table" s_law_table
  d_law_pairs : Def K mg "_law_pairs" s_law_pairs
  d_law_ahead : Def K mg "_law_ahead" s_law_ahead
  d_law_shuffled : Def K mg "_law_shuffled" s_law_shuffled
  d_law_some_thread : Def K mg "_law_some_thread" s_law_some_thread
  d_law_some_heaps : Def K mg "_law_some_heaps" s_law_some_heaps
  d_law : Def K mg "law" s_law
  x_NoRow : XTxt K mg "NoRow" ["found"] "NoRow.__init__" i_NoRow
section
variable {P : Program} {w : World} {K : PySem.W.Frag} {mg : Str → Option Value} {base : Heap}
theorem nd_is_row_0 : (["sign"] : List Str).Nodup := by decide +kernel
theorem k_need_row_is_row : (defScope s_need_row).names.lookup ("is_row" : Str) = some NameKind.globalImplicit := by decide +kernel
theorem k_need_row_thing : (defScope s_need_row).names.lookup ("thing" : Str) = some NameKind.local := by decide +kernel
theorem k_need_row_NoRow : (defScope s_need_row).names.lookup ("NoRow" : Str) = some NameKind.globalImplicit := by decide +kernel
theorem k_need_rows_need_row : (defScope s_need_rows).names.lookup ("need_row" : Str) = some NameKind.globalImplicit := by decide +kernel
theorem k_need_rows_top : (defScope s_need_rows).names.lookup ("top" : Str) = some NameKind.local := by decide +kernel
theorem k_need_rows_side : (defScope s_need_rows).names.lookup ("side" : Str) = some NameKind.local := by decide +kernel
theorem k_lengths_table : (defScope s_lengths).names.lookup ("table" : Str) = some NameKind.local := by decide +kernel
theorem k_lengths_side : (defScope s_lengths).names.lookup ("side" : Str) = some NameKind.local := by decide +kernel
theorem k_lengths_sign : (defScope s_lengths).names.lookup ("sign" : Str) = some NameKind.local := by decide +kernel
theorem k_lengths_lengths_below : (defScope s_lengths).names.lookup ("lengths_below" : Str) = some NameKind.globalImplicit := by decide +kernel
theorem k_lengths_top : (defScope s_lengths).names.lookup ("top" : Str) = some NameKind.local := by decide +kernel
theorem k_lengths_len : (defScope s_lengths).names.lookup ("len" : Str) = some NameKind.globalImplicit := by decide +kernel
theorem k_lengths_need_rows : (defScope s_lengths).names.lookup ("need_rows" : Str) = some NameKind.globalImplicit := by decide +kernel
theorem ki_NoRow_self : (defScope i_NoRow).names.lookup ("self" : Str) = some NameKind.local := by decide +kernel
theorem ki_NoRow_found : (defScope i_NoRow).names.lookup ("found" : Str) = some NameKind.local := by decide +kernel
theorem k_is_row_all : (defScope s_is_row).names.lookup ("all" : Str) = some NameKind.globalImplicit := by decide +kernel
theorem k_is_row_thing : (defScope s_is_row).names.lookup ("thing" : Str) = some NameKind.local := by decide +kernel
theorem k_is_row_len : (defScope s_is_row).names.lookup ("len" : Str) = some NameKind.globalImplicit := by decide +kernel
theorem k_is_row_MOST_SIGNS : (defScope s_is_row).names.lookup ("MOST_SIGNS" : Str) = some NameKind.globalImplicit := by decide +kernel
theorem k_is_row_isinstance : (defScope s_is_row).names.lookup ("isinstance" : Str) = some NameKind.globalImplicit := by decide +kernel
theorem k_is_row_str : (defScope s_is_row).names.lookup ("str" : Str) = some NameKind.globalImplicit := by decide +kernel
theorem k_lengths_below_row : (defScope s_lengths_below).names.lookup ("row" : Str) = some NameKind.local := by decide +kernel
theorem k_lengths_below_enumerate : (defScope s_lengths_below).names.lookup ("enumerate" : Str) = some NameKind.globalImplicit := by decide +kernel
theorem k_lengths_below_top : (defScope s_lengths_below).names.lookup ("top" : Str) = some NameKind.local := by decide +kernel
theorem k_lengths_below_other : (defScope s_lengths_below).names.lookup ("other" : Str) = some NameKind.local := by decide +kernel
theorem k_lengths_below_column : (defScope s_lengths_below).names.lookup ("column" : Str) = some NameKind.local := by decide +kernel
theorem k_lengths_below_length : (defScope s_lengths_below).names.lookup ("length" : Str) = some NameKind.local := by decide +kernel
theorem k_lengths_below_sign : (defScope s_lengths_below).names.lookup ("sign" : Str) = some NameKind.local := by decide +kernel
theorem k_lengths_below_max : (defScope s_lengths_below).names.lookup ("max" : Str) = some NameKind.globalImplicit := by decide +kernel
theorem k_lengths_below_above : (defScope s_lengths_below).names.lookup ("above" : Str) = some NameKind.local := by decide +kernel
noncomputable def RB (v : V) : Bool := readB v (LETT ++ Str.ofString ".") 48
noncomputable def RowB (z : Str) : Prop := z.length ≤ 48 ∧ RB (.str z) = true
noncomputable def bf (v u : V) : Option V := if RB v = true then (if RB u = true then none else some u) else some v
theorem notStr {H : Hp} {v : V} {ty : String} {l : Str} {m : Int} (h : TyOf K H v (.type ty)) (k : PySem.W.kitOne K (.type ty) (.type "str") = some false) : readB v l m = false := by
  cases v with
  | str z =>
    cases h
    have : PySem.W.kitOne K (.type "str") (.type "str") = some true := rfl
    rw [this] at k; cases k
  | _ => rfl
theorem sc_is_row : FnScope ["thing"] ["thing"] (defScope s_is_row) := ⟨rfl, rfl, rfl, by decide +kernel, rfl, by decide +kernel, by decide +kernel⟩
theorem h_is_row (T : Txt K mg) : Has P w K mg base 1 "is_row" ["thing"] (spIs K (LETT ++ Str.ofString ".") 48) := by
  refine hasJ T.d_is_row sc_is_row (fun _ _ _ _ _ _ us hl => L2.usN1 (fun _ => rfl) us hl) ?_ fun f cdv A outer s H vs Q E hr h => ?_
  · rintro vs H Q E ⟨p, rfl, _⟩; rfl
  obtain ⟨v, rfl, hT, q⟩ := h
  have hu := hr.units0
  have hu64 := hr.units
  refine ⟨_, (jb_cons (js_if (jw_pt (jw_or (jt_not (jt_val (j_callB (call_isiK (K := K) rfl) (glF k_is_row_isinstance) T.b_isinstance bt_isinstance (ja_cons (j_vL 0 k_is_row_thing) (ja_cons (j_ty (glF k_is_row_str) T.b_str bt_str (by decide +kernel) (by decide +kernel)) ja_nil)) (by decide +kernel) (by decide +kernel)))) (jw_or1 (jt_cmp op_gt (j_callB (call_lenK (K := K) rfl) (glF k_is_row_len) T.b_len bt_len (ja_cons (j_vL 0 k_is_row_thing) ja_nil) (by decide +kernel) (by decide +kernel)) (j_gint (glF k_is_row_MOST_SIGNS) T.c_MOST_SIGNS (by decide +kernel)) (by first | exact nomark _ | with_unfolding_all rfl))))) (jb_one (js_ret j_bl)) jb_nil) (jb_one (js_ret (j_callB (call_all rfl) (glF k_is_row_all) T.b_all bt_all (ja_cons (j_comp (sub := [none]) (subOk_of (N := ["thing"]) (sc := defScope s_is_row) (N' := ["sign"]) (by decide +kernel)) rfl rfl rfl (ji_seq (K := K) rfl (j_vL 0 k_is_row_thing)) (fun C s₀ H₀ ex => (jg_B 0 (by decide +kernel) nd_is_row_0)) (fun C s₀ H₀ ex => jif_nil) (fun C s₀ H₀ ex => (j_cmp (op_inD (K := K) rfl hu64) (j_vBL 0 (by decide +kernel)) (j_op op_addA (j_gstr (glB (by decide +kernel)) T.c_LETTERS (by decide +kernel)) (j_gstr (glB (by decide +kernel)) T.c_POINT (by decide +kernel))) (by first | exact nomark _ | with_unfolding_all rfl)))) ja_nil) (by decide +kernel) (by decide +kernel))))), ?_⟩
  walk_at "sts"
  rcases hT with ⟨z, rfl, hz⟩ | ⟨ty, hty, hk⟩
  · have hz1 : z.length ≤ sizeLine := Nat.le_trans hz (by decide)
    refine r_isi (.str z) rfl ?_
    walk_at "sts"
    try with_reducible refine iteF ?_
    walk_at "sts"
    refine r_lenS hz1 ?_
    walk_at "sts"
    refine iteD (fun h1 => ?_) (fun h1 => ?_)
    · walk_at "sts"
      have : readB (.str z) (LETT ++ Str.ofString ".") 48 = false := by
        unfold readB
        dsimp only
        rw [decide_eq_false (by omega)]; rfl
      have q' := q H (Same.refl H)
      rw [this] at q'
      exact q'
    · walk_at "sts"
      refine .inr (.inr ⟨z, rfl, ?_⟩)
      refine comp_str (fun i us H' => H' = H ∧ us = ((z.cps.toList.take i).map fun c => !badC (LETT ++ Str.ofString ".") c).map V.bl) hz1 ⟨rfl, rfl⟩ ?_ ?_ ?_
      · rintro i us H' ⟨rfl, rfl⟩
        simp; omega
      · rintro i us H' c hc ⟨rfl, rfl⟩
        walk_at "sts"
        refine ⟨KeepSt.set rfl, ?_⟩
        walk_at "sts"
        try with_reducible refine iteT ?_
        walk_at "sts"
        refine r_addS (Nat.le_trans (show (Str.ofString "abcdefghijklmnopqrstuvwxyz").length + (Str.ofString ".").length ≤ 1000 by decide +kernel) (by decide)) ?_
        walk_at "sts"
        refine ⟨rfl, ?_⟩
        rw [List.take_add_one, hc]
        simp [LETT, badC]
      · rintro us H' ⟨rfl, rfl⟩ D hD
        walk_at "sts"
        refine ⟨D, _, rfl, upd_same, ?_⟩
        have e1 : z.cps.toList.take z.cps.size = z.cps.toList := List.take_of_length_le (by simp)
        have e2 : readB (.str z) (LETT ++ Str.ofString ".") 48 = (List.map (fun c => !badC (LETT ++ Str.ofString ".") c) (z.cps.toList.take z.cps.size)).all id := by
          unfold readB
          dsimp only
          rw [decide_eq_true (by omega), Bool.true_and, e1, List.all_map]; rfl
        have q' := q _ ((Same.refl H').upd hD (o := .lst (List.map V.bl (List.map (fun c => !badC (LETT ++ Str.ofString ".") c) (List.take z.cps.size z.cps.toList)))))
        rw [e2] at q'
        exact q'
  · refine r_isi hty hk ?_
    walk_at "sts"
    try with_reducible refine iteT ?_
    walk_at "sts"
    try with_reducible refine iteT ?_
    walk_at "sts"
    have q' := q H (Same.refl H)
    rw [notStr hty hk] at q'
    exact q'
theorem sci_NoRow : FnScope ["self", "found"] ["self", "found"] (defScope i_NoRow) := ⟨rfl, rfl, rfl, by decide +kernel, rfl, by decide +kernel, by decide +kernel⟩
theorem mk_NoRow (T : Txt K mg) : XMk P w K mg base 1 "NoRow" (clsA mg "NoRow") ["found"] := mkX T.x_NoRow sci_NoRow (fun _ _ _ _ _ _ us hl => L2.usN2 (fun _ _ => rfl) us hl) rfl fun f cdv A outer s H vs Q E hr h => ⟨_, (jb_one (js_fldX (K := K) rfl (j_vL 0 ki_NoRow_self) (j_vL 1 ki_NoRow_found))), rd1 T.x_NoRow.c.cl.cls (T.x_NoRow.na _ (by simp)) h⟩
noncomputable def spNeedX (K : PySem.W.Frag) (mg : Str → Option Value) : Sp := fun vs H Q E => ∃ v : V, vs = [v] ∧ Thing K H v ∧ (RB v = true → ∀ H', Same H H' → Q .non H') ∧
  (RB v = false → ∀ e H', Same H H' → IsX H' e (clsA mg "NoRow") [("found", v)] → E (.ref (clsA mg "NoRow")) (some e) H')
theorem sc_need_row : FnScope ["thing"] ["thing"] (defScope s_need_row) := ⟨rfl, rfl, rfl, by decide +kernel, rfl, by decide +kernel, by decide +kernel⟩
theorem h_need_row (T : Txt K mg) : HasX P w K mg base 3 "need_row" ["thing"] (spNeedX K mg) := by
  have h_is_row := h_is_row (P := P) (w := w) (base := base) T
  refine hasJX T.d_need_row sc_need_row (fun _ _ _ _ _ _ us hl => L2.usN1 (fun _ => rfl) us hl) ?_ fun f cdv A outer s H vs Q E hr h => ?_
  · rintro vs H Q E ⟨v, rfl, _⟩; rfl
  obtain ⟨v, rfl, hT, q1, q2⟩ := h
  have hu := hr.units0
  have hu64 := hr.units
  refine ⟨_, (jb_one (js_if (jt_not (jt_val (j_call h_is_row (hr.mono (by decide)) (glF k_need_row_is_row) (ja_cons (j_vL 0 k_need_row_thing) ja_nil) (by decide +kernel)))) (jb_one (js_raise (mk_NoRow (P := P) (w := w) (base := base) T) (hr.mono (by decide)) rfl (glF k_need_row_NoRow) pass_def (ja_cons (j_vL 0 k_need_row_thing) ja_nil) (by decide +kernel))) jb_nil)), ?_⟩
  walk_at "sts"
  refine ⟨v, rfl, hT, fun H1 S1 => ?_⟩
  cases hb : readB v (LETT ++ Str.ofString ".") 48 with
  | true =>
    walk_at "sts"
    try with_reducible refine iteF ?_
    walk_at "sts"
    exact q1 hb _ S1
  | false =>
    walk_at "sts"
    try with_reducible refine iteT ?_
    walk_at "sts"
    exact ⟨rfl, (show 1 ≤ sizeLine by decide), fun x H2 S2 X2 => q2 hb x H2 (S1.trans S2) X2⟩
noncomputable def spX (K : PySem.W.Frag) (mg : Str → Option Value) (g : Str → Str → Hp → VK → Prop) : Sp := fun vs H Q E => ∃ v u : V, vs = [v, u] ∧ Thing K H v ∧ Thing K H u ∧
  (∀ w, bf v u = some w → ∀ e H', Same H H' → IsX H' e (clsA mg "NoRow") [("found", w)] → E (.ref (clsA mg "NoRow")) (some e) H') ∧
  (∀ side top : Str, v = .str side → u = .str top → RowB side → RowB top → g side top H Q)
theorem RB_row {v : V} (h : RB v = true) : ∃ z, v = .str z ∧ RowB z := by
  cases v with
  | str z =>
    refine ⟨z, rfl, ?_, h⟩
    unfold RB readB at h
    simp only [Bool.and_eq_true, decide_eq_true_eq] at h
    omega
  | _ => cases h
theorem row_RB {z : Str} (h : Row z) : RB (.str z) = true := by
  unfold RB readB
  simp only [Bool.and_eq_true, decide_eq_true_eq]
  refine ⟨by have := h.1; omega, List.all_eq_true.mpr fun c hc => ?_⟩
  have := good_ok c (h.2 c hc)
  unfold badC at this
  rw [this]; rfl
theorem Row.b {z : Str} (h : Row z) : RowB z := ⟨h.1, row_RB h⟩
theorem row_thing {H : Hp} {z : Str} (h : RowB z) : Thing K H (.str z) := .inl ⟨z, rfl, by have := h.1; omega⟩
theorem bf_rows {z y : Str} (h : RowB z) (h' : RowB y) : bf (.str z) (.str y) = none := by
  unfold bf; rw [if_pos h.2, if_pos h'.2]
theorem spX.good {g : Str → Str → Hp → VK → Prop} {H : Hp} {Q : VK} {E : XK} {z y : Str} (h : RowB z) (h' : RowB y) (q : g z y H Q) : spX K mg g [.str z, .str y] H Q E :=
  ⟨_, _, rfl, row_thing h, row_thing h', (fun w e => by rw [bf_rows h h'] at e; cases e), fun s t e1 e2 _ _ => by cases e1; cases e2; exact q⟩
noncomputable def gNon : Str → Str → Hp → VK → Prop := fun _ _ H Q => ∀ H', Same H H' → Q .non H'
theorem Thing.same {H H' : Hp} {v : V} (h : Thing K H v) (s : Same H H') : Thing K H' v := by
  rcases h with h | ⟨T, t, k⟩
  · exact .inl h
  · refine .inr ⟨T, ?_, k⟩
    cases t with
    | non => exact .non
    | bl x => exact .bl x
    | int i => exact .int i
    | str x => exact .str x
    | flt x => exact .flt x
    | lst e => exact .lst (s _ _ e)
    | frz e => exact .frz (s _ _ e)
    | tup e => exact .tup (s _ _ e)
    | dK e => exact .dK (s _ _ e)
    | dT e => exact .dT (s _ _ e)
theorem sc_need_rows : FnScope ["side", "top"] ["side", "top"] (defScope s_need_rows) := ⟨rfl, rfl, rfl, by decide +kernel, rfl, by decide +kernel, by decide +kernel⟩
theorem h_need_rows (T : Txt K mg) : HasX P w K mg base 4 "need_rows" ["side", "top"] (spX K mg gNon) := by
  have h_need_row := h_need_row (P := P) (w := w) (base := base) T
  refine hasJX T.d_need_rows sc_need_rows (fun _ _ _ _ _ _ us hl => L2.usN2 (fun _ _ => rfl) us hl) ?_ fun f cdv A outer s H vs Q E hr h => ?_
  · rintro vs H Q E ⟨v, u, rfl, _⟩; rfl
  obtain ⟨v, u, rfl, hv, hu', qx, q⟩ := h
  have hu := hr.units0
  have hu64 := hr.units
  refine ⟨_, (jb_cons (js_expr (j_callX h_need_row (hr.mono (by decide)) (glF k_need_rows_need_row) pass_def (ja_cons (j_vL 0 k_need_rows_side) ja_nil) (by decide +kernel))) (jb_one (js_expr (j_callX h_need_row (hr.mono (by decide)) (glF k_need_rows_need_row) pass_def (ja_cons (j_vL 1 k_need_rows_top) ja_nil) (by decide +kernel))))), ?_⟩
  walk_at "sts"
  refine ⟨v, rfl, hv, fun hb H1 S1 => ?_, fun hb e H' S X => qx v (by unfold bf; rw [if_neg (by rw [hb]; decide)]) e H' S X⟩
  walk_at "sts"
  refine ⟨u, rfl, hu'.same S1, fun hb2 H2 S2 => ?_, fun hb2 e H' S X => qx u (by unfold bf; rw [if_pos hb, if_neg (by rw [hb2]; decide)]) e H' (S1.trans S) X⟩
  walk_at "sts"
  obtain ⟨z, rfl, hz⟩ := RB_row hb
  obtain ⟨y, rfl, hy⟩ := RB_row hb2
  exact q z y rfl rfl hz hy _ (S1.trans S2)
theorem sc_lengths_below : FnScope ["above", "sign", "top", "row", "column", "other", "length"] ["above", "sign", "top"] (defScope s_lengths_below) := ⟨rfl, rfl, rfl, by decide +kernel, rfl, by decide +kernel, by decide +kernel⟩
theorem h_lengths_below (T : Txt K mg) : Has P w K mg base 1 "lengths_below" ["above", "sign", "top"] spBelow := by
  refine hasJ T.d_lengths_below sc_lengths_below (fun _ _ _ _ _ _ us hl => L2.usN3 (fun _ _ _ => rfl) us hl) ?_ fun f cdv A outer s H vs Q E hr h => ?_
  · rintro vs H Q E ⟨a, S, i, c, top, rfl, _⟩; rfl
  obtain ⟨a, S, i, c, top, rfl, hc, ht, ha, q⟩ := h
  have hu := hr.units0
  have hu64 := hr.units
  refine ⟨_, (jb_cons (js_set (i := 3) sc_lengths_below.nd rfl (Or.inl k_lengths_below_row) (j_lst (ja_cons j_int ja_nil)) rfl) (jb_cons (js_for PassesOwn.never rfl (ji_enum (K := K) rfl rfl (glF k_lengths_below_enumerate) T.b_enumerate (ja_cons (j_vL 2 k_lengths_below_top) ja_nil)) (jg_tup (K := K) rfl rfl (jgs_cons (jg_name (i := 4) sc_lengths_below.nd rfl (Or.inl k_lengths_below_column) rfl) (jgs_cons (jg_name (i := 5) sc_lengths_below.nd rfl (Or.inl k_lengths_below_other) rfl) jgs_nil))) (jb_cons (js_set (i := 6) sc_lengths_below.nd rfl (Or.inl k_lengths_below_length) (j_callB (call_max2 rfl) (glF k_lengths_below_max) T.b_max bt_max (ja_cons (j_ix (K := K) rfl (j_vL 0 k_lengths_below_above) (j_op op_addA (j_vL 4 k_lengths_below_column) j_int)) (ja_cons (j_ix (K := K) rfl (j_vL 3 k_lengths_below_row) (j_vL 4 k_lengths_below_column)) ja_nil)) (by decide +kernel) (by decide +kernel)) rfl) (jb_cons (js_if (jt_cmp (op_eqX (K := K) rfl hu64) (j_vL 1 k_lengths_below_sign) (j_vL 5 k_lengths_below_other) (by first | exact nomark _ | with_unfolding_all rfl)) (jb_one (js_set (i := 6) sc_lengths_below.nd rfl (Or.inl k_lengths_below_length) (j_callB (call_max2 rfl) (glF k_lengths_below_max) T.b_max bt_max (ja_cons (j_vL 6 k_lengths_below_length) (ja_cons (j_op op_addA (j_ix (K := K) rfl (j_vL 0 k_lengths_below_above) (j_vL 4 k_lengths_below_column)) j_int) ja_nil)) (by decide +kernel) (by decide +kernel)) rfl)) jb_nil) (jb_one (js_expr (j_meth (K := K) rfl PySem.F.plainAttrs_list PySem.F.slot_list_append PySem.F.type_list_append mt_append (j_vL 3 k_lengths_below_row) (ja_cons (j_vL 6 k_lengths_below_length) ja_nil))))))) (jb_one (js_ret (j_vL 3 k_lengths_below_row))))), ?_⟩
  walk_at "sts"
  refine ⟨by decide, fun r nr => ?_⟩
  walk_at "sts"
  refine .inl ⟨top, rfl, ?_⟩
  have hsz : top.cps.size = top.length := rfl
  refine for_Tp (fun j σ H' => Same H H' ∧ H' r = some (.lst ((rowT S top.cps.toList (i + 1) (j + 1)).map V.int)) ∧ ∃ x4 x5 x6, σ = [some (.ref a), some (.str ⟨#[c]⟩), some (.str top), some (.ref r), x4, x5, x6])
    ⟨(Same.refl H).upd nr, by rw [upd_same]; unfold rowT; simp [lt_z], none, none, none, rfl⟩ ?_ ?_
  · rintro j σ H1 T0 hj ⟨S1, hr1, x4, x5, x6, rfl⟩ nT
    have hj' : j < top.length := hj
    have ed : top.cps.toList[j]? = some (top.cps.getD j 0) := by
      rw [Array.getD_eq_getD_getElem?]
      have : top.cps[j]? = some top.cps[j] := Array.getElem?_eq_getElem hj
      simp [this, hj]
    refine r_gtup (xs := [.int j, .str ⟨#[top.cps.getD j 0]⟩]) (SqT.of upd_same) rfl ?_
    have ha2 : upd H1 T0 (.tup (enumS top j)) a = some (.lst ((rowT S top.cps.toList i (top.length + 1)).map V.int)) := upd_old nT (S1 _ _ ha)
    have hr2 : upd H1 T0 (.tup (enumS top j)) r = some (.lst ((rowT S top.cps.toList (i + 1) (j + 1)).map V.int)) := upd_old nT hr1
    have S2 : Same H (upd H1 T0 (.tup (enumS top j))) := S1.upd nT
    have hl : ((rowT S top.cps.toList (i + 1) (j + 1)).map V.int).length < sizeLine := by
      rw [List.length_map, rowT_len]
      exact Nat.lt_of_lt_of_le (show j + 1 < 1000 by omega) (by decide)
    walk_at "sts"
    refine r_ixL (SqL.of ha2) (at_row (j := j + 1) (by omega)) ?_
    walk_at "sts"
    refine r_ixL (SqL.of hr2) (at_row (j := j) (by omega)) ?_
    walk_at "sts"
    refine iteD (fun hk => ?_) (fun hk => ?_)
    · have ec : c = top.cps.getD j 0 := by
        have := Str.mk.inj (V.str.inj hk)
        simpa using this
      walk_at "sts"
      refine r_ixL (SqL.of ha2) (at_row (j := j) (by omega)) ?_
      walk_at "sts"
      refine ⟨.inl ⟨rfl, _, SqL.of hr2⟩, ?_⟩
      walk_at "sts"
      refine r_append hr2 hl ?_
      refine ⟨over S2 nr, ?_, _, _, _, rfl⟩
      have ev : lt S top.cps.toList (i + 1) (j + 1) = mx (mx (lt S top.cps.toList i (j + 1)) (lt S top.cps.toList (i + 1) j)) (lt S top.cps.toList i j + 1) := by rw [lt_s, if_pos (by rw [hc, ed, ec])]
      rw [upd_same, rowT_succ S _ (i + 1) (j + 1), ev, List.map_append]; rfl
    · have ec : ¬ S[i]? = top.cps.toList[j]? := by
        rw [hc, ed]
        intro z
        exact hk (by rw [Option.some.inj z])
      walk_at "sts"
      refine ⟨.inl ⟨rfl, _, SqL.of hr2⟩, ?_⟩
      walk_at "sts"
      refine r_append hr2 hl ?_
      refine ⟨over S2 nr, ?_, _, _, _, rfl⟩
      have ev : lt S top.cps.toList (i + 1) (j + 1) = mx (lt S top.cps.toList i (j + 1)) (lt S top.cps.toList (i + 1) j) := by rw [lt_s, if_neg ec]
      rw [upd_same, rowT_succ S _ (i + 1) (j + 1), ev, List.map_append]; rfl
  · rintro σ H1 ⟨S1, hr1, x4, x5, x6, rfl⟩
    walk_at "sts"
    exact q r H1 nr S1 hr1
structure Tab (H : Hp) (t : Addr) (rs : List Addr) (rows : List (List Int)) : Prop where
  at_ : H t = some (.lst (rs.map V.ref))
  len : rs.length = rows.length
  nd : rs.Nodup
  ne : t ∉ rs
  row : ∀ (i : Nat) (r : Addr) (xs : List Int), rs[i]? = some r → rows[i]? = some xs → H r = some (.lst (xs.map V.int))
theorem zeros (S P : List Nat) (n : Nat) : (List.replicate n [V.int 0]).flatten = (rowT S P 0 n).map V.int := by
  induction n with
  | zero => rfl
  | succ n ih =>
    rw [rowT_succ, List.map_append, ← ih, lt_0, List.replicate_succ', List.flatten_append]; rfl
theorem atI_m1 {α : Type} {xs : List α} {n : Nat} {v : α} (h : xs.length = n + 1) (e : xs[n]? = some v) : atI xs (-1) = some v := by
  unfold atI ixN
  rw [h, if_neg (by omega), if_pos (by omega)]
  show xs[((-1 : Int) + ((n + 1 : Nat) : Int)).toNat]? = some v
  rw [show ((-1 : Int) + ((n + 1 : Nat) : Int)).toNat = n by omega]; exact e
noncomputable def tabT (S P : List Nat) (m n : Nat) : List (List Int) := (List.range m).map fun i => rowT S P i n
noncomputable def gLens : Str → Str → Hp → VK → Prop := fun side top H Q =>
  ∀ t rs H', H t = none → (∀ r ∈ rs, H r = none) → Same H H' → Tab H' t rs (tabT side.cps.toList top.cps.toList (side.length + 1) (top.length + 1)) → Q (.ref t) H'
theorem sc_lengths : FnScope ["side", "top", "table", "sign"] ["side", "top"] (defScope s_lengths) := ⟨rfl, rfl, rfl, by decide +kernel, rfl, by decide +kernel, by decide +kernel⟩
theorem h_lengths (T : Txt K mg) : HasX P w K mg base 5 "lengths" ["side", "top"] (spX K mg gLens) := by
  have h_need_rows := h_need_rows (P := P) (w := w) (base := base) T
  have h_lengths_below := h_lengths_below (P := P) (w := w) (base := base) T
  refine hasJX T.d_lengths sc_lengths (fun _ _ _ _ _ _ us hl => L2.usN2 (fun _ _ => rfl) us hl) ?_ fun f cdv A outer s H vs Q E hr h => ?_
  · rintro vs H Q E ⟨v, u, rfl, _⟩; rfl
  obtain ⟨v, u, rfl, hv, hu', qx, q⟩ := h
  have hu := hr.units0
  have hu64 := hr.units
  refine ⟨_, (jb_cons (js_expr (j_callX h_need_rows (hr.mono (by decide)) (glF k_lengths_need_rows) pass_def (ja_cons (j_vL 0 k_lengths_side) (ja_cons (j_vL 1 k_lengths_top) ja_nil)) (by decide +kernel))) (jb_cons (js_set (i := 2) sc_lengths.nd rfl (Or.inl k_lengths_table) (j_lst (ja_cons (j_op op_mulA (j_lst (ja_cons j_int ja_nil)) (j_op op_addA (j_callB (call_lenK (K := K) rfl) (glF k_lengths_len) T.b_len bt_len (ja_cons (j_vL 1 k_lengths_top) ja_nil) (by decide +kernel) (by decide +kernel)) j_int)) ja_nil)) rfl) (jb_cons (js_nox (js_for PassesOwn.never rfl (ji_seq (K := K) rfl (j_vL 0 k_lengths_side)) (jg_name (i := 3) sc_lengths.nd rfl (Or.inl k_lengths_sign) rfl) (jb_one (js_expr (j_meth (K := K) rfl PySem.F.plainAttrs_list PySem.F.slot_list_append PySem.F.type_list_append mt_append (j_vL 2 k_lengths_table) (ja_cons (j_call h_lengths_below (hr.mono (by decide)) (glF k_lengths_lengths_below) (ja_cons (j_ix (K := K) rfl (j_vL 2 k_lengths_table) (j_un un_neg j_int)) (ja_cons (j_vL 3 k_lengths_sign) (ja_cons (j_vL 1 k_lengths_top) ja_nil))) (by decide +kernel)) ja_nil)))))) (jb_one (js_ret (j_vL 2 k_lengths_table)))))), ?_⟩
  walk_at "sts"
  refine ⟨v, u, rfl, hv, hu', qx, fun side top e1 e2 hs ht H1 S1 => ?_⟩
  subst e1 e2
  have lt1 : top.length ≤ sizeLine := Nat.le_trans ht.1 (by decide)
  walk_at "sts"
  refine ⟨by simp; decide, fun p0 n0 => ?_⟩
  walk_at "sts"
  refine r_lenS lt1 ?_
  walk_at "sts"
  refine r_mulL upd_same (by omega) (by have := ht.1; omega) (Nat.le_trans (show [V.int 0].length * ((top.length : Int) + 1).toNat ≤ 1000 by have := ht.1; simp; omega) (by decide)) fun p1 n1 => ?_
  walk_at "sts"
  refine ⟨by simp; decide, fun t n2 => ?_⟩
  walk_at "sts"
  refine .inr (.inr ⟨side, rfl, ?_⟩)
  have e0 : (List.replicate ((top.length : Int) + 1).toNat [V.int 0]).flatten = (rowT side.cps.toList top.cps.toList 0 (top.length + 1)).map V.int := by
    rw [show ((top.length : Int) + 1).toNat = top.length + 1 by omega]
    exact zeros _ _ _
  rw [e0] at n2 ⊢
  have nt1 : H1 t = none := (((Same.refl H1).upd n0).upd n1).free n2
  have nt : H t = none := S1.free nt1
  have npt : p1 ≠ t := fun z => by rw [z, upd_same] at n2; cases n2
  refine for_str (z := side) (fun i σ H' => Same H H' ∧ (∃ rs, (∀ r ∈ rs, H r = none) ∧ Tab H' t rs (tabT side.cps.toList top.cps.toList (i + 1) (top.length + 1))) ∧ ∃ x3, σ = [some (.str side), some (.str top), some (.ref t), x3])
    ⟨(((S1.upd n0).upd n1).upd n2), ⟨[p1], fun r hr => by rw [List.mem_singleton.mp hr]; exact S1.free (((Same.refl H1).upd n0).free n1), ⟨upd_same, by simp [tabT], by simp, by simpa using Ne.symm npt, fun i r xs e1 e2 => ?_⟩⟩, none, rfl⟩ ?_ ?_
  · have hi : i = 0 := by
      have := (List.getElem?_eq_some_iff.mp e1).1
      simp at this; exact this
    subst hi
    simp [tabT] at e1 e2
    subst e1 e2
    exact upd_old n2 upd_same
  · rintro i σ H2 c hc ⟨S2, ⟨rs, fr, TB⟩, x3, rfl⟩
    have hi : i < side.length := by
      have := (List.getElem?_eq_some_iff.mp hc).1
      simpa [Str.length] using this
    have hrl : rs.length = i + 1 := by rw [TB.len]; simp [tabT]
    obtain ⟨r, er⟩ : ∃ r, rs[i]? = some r := ⟨_, List.getElem?_eq_getElem (show i < rs.length by omega)⟩
    have hrow := TB.row i r (rowT side.cps.toList top.cps.toList i (top.length + 1)) er (by unfold tabT; rw [List.getElem?_map, List.getElem?_range (by omega)]; rfl)
    walk_at "sts"
    refine ⟨.inl ⟨rfl, _, SqL.of TB.at_⟩, ?_⟩
    walk_at "sts"
    refine r_ixL (SqL.of TB.at_) (atI_m1 (n := i) (v := .ref r) (by simp [hrl]) (by rw [List.getElem?_map, er]; rfl)) ?_
    walk_at "sts"
    refine ⟨r, side.cps.toList, i, c, top, rfl, hc, ht.1, hrow, fun r2 H3 nr2 S3 hr2 => ?_⟩
    walk_at "sts"
    refine r_append (S3 _ _ TB.at_) (by rw [List.length_map, hrl]; exact Nat.lt_of_lt_of_le (show i + 1 < 1000 by have := hs.1; omega) (by decide)) ?_
    have nr2t : r2 ≠ t := fun z => by rw [z, TB.at_] at nr2; cases nr2
    have nrs : ∀ r' ∈ rs, r' ≠ t := fun r' hr' z => TB.ne (by rw [← z]; exact hr')
    have nin : r2 ∉ rs := fun z => by
      obtain ⟨k, hk, ek⟩ := List.mem_iff_getElem.mp z
      have hk2 : k < (tabT side.cps.toList top.cps.toList (i + 1) (top.length + 1)).length := by rw [← TB.len]; exact hk
      have := TB.row k r2 _ (by rw [List.getElem?_eq_getElem hk, ek]) (List.getElem?_eq_getElem hk2)
      rw [this] at nr2; cases nr2
    refine ⟨over (S2.trans S3) nt, ⟨rs ++ [r2], fun r hr => (List.mem_append.mp hr).elim (fr r) fun z => by rw [List.mem_singleton.mp z]; exact S2.free nr2, ⟨by rw [upd_same]; simp, by simp [hrl, tabT], ?_, ?_, fun k r' xs e1 e2 => ?_⟩⟩, _, rfl⟩
    · rw [List.nodup_append]
      exact ⟨TB.nd, by simp, fun a ha b hb z => nin (by rw [List.mem_singleton.mp hb] at z; rw [← z]; exact ha)⟩
    · intro z
      rcases List.mem_append.mp z with z | z
      · exact TB.ne z
      · exact nr2t (List.mem_singleton.mp z).symm
    · by_cases hk : k < rs.length
      · rw [List.getElem?_append_left hk] at e1
        rw [upd_ne (nrs r' (List.mem_of_getElem? e1))]
        refine S3 _ _ (TB.row k r' xs e1 ?_)
        unfold tabT at e2 ⊢
        rw [List.getElem?_map, List.getElem?_range (by omega)] at e2
        rw [List.getElem?_map, List.getElem?_range (by omega)]
        exact e2
      · have hk2 : k < (rs ++ [r2]).length := (List.getElem?_eq_some_iff.mp e1).1
        simp at hk2
        have hk3 : k = i + 1 := by omega
        subst hk3
        rw [List.getElem?_append_right (by omega), hrl] at e1
        simp at e1
        subst e1
        unfold tabT at e2
        rw [List.getElem?_map, List.getElem?_range (by omega)] at e2
        have e3 := Option.some.inj e2
        rw [upd_ne nr2t, ← e3]
        exact hr2
  · rintro σ H2 ⟨S2, ⟨rs, fr, TB⟩, x3, rfl⟩
    walk_at "sts"
    exact q _ _ rfl rfl hs ht t rs H2 nt fr S2 TB
end

theorem mx_l (i j : Int) : i ≤ mx i j := by unfold mx; split <;> omega
theorem mx_r (i j : Int) : j ≤ mx i j := by unfold mx; split <;> omega
theorem mx_le {i j k : Int} (h : i ≤ k) (h' : j ≤ k) : mx i j ≤ k := by unfold mx; split <;> omega
theorem lt_m1 (S P : List Nat) (i j : Nat) : lt S P i j ≤ lt S P (i + 1) j := by
  cases j with
  | zero => rw [lt_z, lt_z]; exact Int.le_refl _
  | succ j =>
    rw [lt_s]
    split
    · exact Int.le_trans (mx_l _ _) (mx_l _ _)
    · exact mx_l _ _
theorem lt_m2 (S P : List Nat) (i j : Nat) : lt S P i j ≤ lt S P i (j + 1) := by
  cases i with
  | zero => rw [lt_0, lt_0]; exact Int.le_refl _
  | succ i =>
    rw [lt_s S P i j]
    split
    · exact Int.le_trans (mx_r _ _) (mx_l _ _)
    · exact mx_r _ _
theorem lt_st (S P : List Nat) : ∀ (n i j : Nat), i + j ≤ n → lt S P (i + 1) j ≤ lt S P i j + 1 ∧ lt S P i (j + 1) ≤ lt S P i j + 1
  | n, i, j, h => by
    have key1 : lt S P (i + 1) j ≤ lt S P i j + 1 := by
      cases j with
      | zero => rw [lt_z, lt_z]; omega
      | succ j =>
        cases n with
        | zero => omega
        | succ n =>
          have a := (lt_st S P n i j (by omega)).1
          have b := lt_m2 S P i j
          rw [lt_s]
          split
          · exact mx_le (mx_le (by omega) (by omega)) (by omega)
          · exact mx_le (by omega) (by omega)
    have key2 : lt S P i (j + 1) ≤ lt S P i j + 1 := by
      cases i with
      | zero => rw [lt_0, lt_0]; omega
      | succ i =>
        cases n with
        | zero => omega
        | succ n =>
          have a := (lt_st S P n i j (by omega)).2
          have b := lt_m1 S P i j
          rw [lt_s]
          split
          · exact mx_le (mx_le (by omega) (by omega)) (by omega)
          · exact mx_le (by omega) (by omega)
    exact ⟨key1, key2⟩
theorem lt_eq {S P : List Nat} {i j : Nat} (h : S[i]? = P[j]?) : lt S P (i + 1) (j + 1) = lt S P i j + 1 := by
  have a := lt_st S P (i + j) i j (Nat.le_refl _)
  rw [lt_s, if_pos h]
  have l : mx (mx (lt S P i (j + 1)) (lt S P (i + 1) j)) (lt S P i j + 1) ≤ lt S P i j + 1 := mx_le (mx_le a.2 a.1) (Int.le_refl _)
  have r := mx_r (mx (lt S P i (j + 1)) (lt S P (i + 1) j)) (lt S P i j + 1)
  omega
theorem lt_up1 (S P : List Nat) (i j k : Nat) : lt S P i j ≤ lt S P (i + k) j := by
  induction k with
  | zero => exact Int.le_refl _
  | succ k ih => exact Int.le_trans ih (lt_m1 S P (i + k) j)
theorem lt_up2 (S P : List Nat) (i j k : Nat) : lt S P i j ≤ lt S P i (j + k) := by
  induction k with
  | zero => exact Int.le_refl _
  | succ k ih => exact Int.le_trans ih (lt_m2 S P i (j + k))
theorem lt_le {S P : List Nat} {i j i' j' : Nat} (h : i ≤ i') (h' : j ≤ j') : lt S P i j ≤ lt S P i' j' := by
  obtain ⟨k, rfl⟩ := Nat.le.dest h
  obtain ⟨l, rfl⟩ := Nat.le.dest h'
  exact Int.le_trans (lt_up1 S P i j k) (lt_up2 S P (i + k) j l)
theorem lt_nn (S P : List Nat) (i j : Nat) : 0 ≤ lt S P i j := by
  have := lt_le (S := S) (P := P) (Nat.zero_le i) (Nat.le_refl j)
  rwa [lt_0] at this
theorem lt_top (S P : List Nat) : ∀ (i j : Nat), lt S P i j ≤ i
  | 0, j => by rw [lt_0]; omega
  | i + 1, j => by
    have a := (lt_st S P (i + j) i j (Nat.le_refl _)).1
    have b := lt_top S P i j
    omega
noncomputable abbrev PP := Nat × Nat
noncomputable def pD (p : PP) : PyData := .tuple [.int p.1, .int p.2]
noncomputable def rowP (S P : List Nat) (i n : Nat) : List PP := ((List.range n).filter fun j => decide (S[i]? = P[j]?)).map fun j => (i, j)
noncomputable def prs (S P : List Nat) : Nat → List PP
  | 0 => []
  | m + 1 => prs S P m ++ rowP S P m P.length
theorem rowP_succ (S P : List Nat) (i n : Nat) : rowP S P i (n + 1) = rowP S P i n ++ if S[i]? = P[n]? then [(i, n)] else [] := by
  unfold rowP
  rw [List.range_succ, List.filter_append, List.map_append]
  by_cases h : S[i]? = P[n]?
  · simp [List.filter_cons, h]
  · simp [List.filter_cons, h]
theorem rowP_len (S P : List Nat) (i n : Nat) : (rowP S P i n).length ≤ n := by
  unfold rowP
  rw [List.length_map]
  exact Nat.le_trans (List.length_filter_le _ _) (by simp)
theorem prs_len (S P : List Nat) (m : Nat) : (prs S P m).length ≤ m * P.length := by
  induction m with
  | zero => simp [prs]
  | succ m ih =>
    have := rowP_len S P m P.length
    rw [prs, List.length_append, Nat.succ_mul]
    omega
theorem mem_rowP {S P : List Nat} {i n : Nat} {p : PP} (h : p ∈ rowP S P i n) : p.1 = i ∧ p.2 < n ∧ S[p.1]? = P[p.2]? := by
  unfold rowP at h
  obtain ⟨j, hj, rfl⟩ := List.mem_map.mp h
  obtain ⟨h1, h2⟩ := List.mem_filter.mp hj
  exact ⟨rfl, List.mem_range.mp h1, of_decide_eq_true h2⟩
theorem mem_prs {S P : List Nat} {m : Nat} {p : PP} (h : p ∈ prs S P m) : p.1 < m ∧ p.2 < P.length ∧ S[p.1]? = P[p.2]? := by
  induction m with
  | zero => cases h
  | succ m ih =>
    rw [prs] at h
    rcases List.mem_append.mp h with h | h
    · obtain ⟨a, b, c⟩ := ih h
      exact ⟨by omega, b, c⟩
    · obtain ⟨a, b, c⟩ := mem_rowP h
      exact ⟨by omega, b, c⟩
noncomputable def TK (H H' : Hp) : Prop := ∀ b xs, H b = some (.tup xs) → H' b = some (.tup xs)
theorem TK.refl (H : Hp) : TK H H := fun _ _ e => e
theorem TK.trans {H H1 H2 : Hp} (a : TK H H1) (b : TK H1 H2) : TK H H2 := fun c xs e => b c xs (a c xs e)
theorem TK.same {H H' : Hp} (s : Same H H') : TK H H' := fun b xs e => s b _ e
theorem TK.lst {H : Hp} {q : Addr} {xs : List V} {o : HO} (h : H q = some (.lst xs)) : TK H (upd H q o) := fun b ys e => by
  rw [upd_ne (fun z => by rw [z, h] at e; cases e)]; exact e
theorem TK.new {H : Hp} {q : Addr} {o : HO} (h : H q = none) : TK H (upd H q o) := fun b ys e => by
  rw [upd_ne (fun z => by rw [z, h] at e; cases e)]; exact e
theorem DR_pD {H : Hp} {p : PP} {v : V} : DR H (pD p) v ↔ ∃ a, v = .ref a ∧ H a = some (.tup [.int p.1, .int p.2]) := by
  unfold pD
  rw [DR_tuple]
  constructor
  · rintro ⟨a, vs, e, h, r⟩
    rw [DRs_cons] at r
    obtain ⟨v1, r1, rfl, h1, r2⟩ := r
    rw [DRs_cons] at r2
    obtain ⟨v2, r3, rfl, h2, r4⟩ := r2
    rw [DRs_nil] at r4
    rw [DR_int] at h1 h2
    subst h1 h2 r4
    exact ⟨a, e, h⟩
  · rintro ⟨a, e, h⟩
    exact ⟨a, _, e, h, DRs_cons.mpr ⟨_, _, rfl, DR_int.mpr rfl, DRs_one (DR_int.mpr rfl)⟩⟩
theorem DRs_keep {H H' : Hp} (t : TK H H') : ∀ (ps : List PP) (vs : List V), DRs H (ps.map pD) vs → DRs H' (ps.map pD) vs
  | [], vs, h => by rw [List.map_nil, DRs_nil] at h ⊢; exact h
  | p :: ps, vs, h => by
    rw [List.map_cons, DRs_cons] at h ⊢
    obtain ⟨v, r, e, hd, hr⟩ := h
    obtain ⟨a, ea, ha⟩ := DR_pD.mp hd
    exact ⟨v, r, e, DR_pD.mpr ⟨a, ea, t _ _ ha⟩, DRs_keep t ps r hr⟩
noncomputable def PL (H : Hp) (q : Addr) (ps : List PP) : Prop := ∃ vs, H q = some (.lst vs) ∧ DRs H (ps.map pD) vs
theorem PL.keep {H H' : Hp} {q : Addr} {ps : List PP} (h : PL H q ps) (t : TK H H') (e : ∀ vs, H q = some (.lst vs) → H' q = some (.lst vs)) : PL H' q ps := by
  obtain ⟨vs, h1, h2⟩ := h
  exact ⟨vs, e vs h1, DRs_keep t ps vs h2⟩
theorem PL.same {H H' : Hp} {q : Addr} {ps : List PP} (h : PL H q ps) (s : Same H H') : PL H' q ps := h.keep (TK.same s) fun _ e => s _ _ e
theorem PL.len {H : Hp} {q : Addr} {ps : List PP} (h : PL H q ps) : ∃ vs, H q = some (.lst vs) ∧ vs.length = ps.length ∧ DRs H (ps.map pD) vs := by
  obtain ⟨vs, h1, h2⟩ := h
  exact ⟨vs, h1, by have := DRs_len h2; simpa using this, h2⟩
theorem PL.push {H : Hp} {q T : Addr} {ps : List PP} {i j : Nat} (h : PL H q ps) (hT : H T = some (.tup [.int i, .int j])) : ∃ vs, H q = some (.lst vs) ∧ vs.length = ps.length ∧ PL (upd H q (.lst (vs ++ [.ref T]))) q (ps ++ [(i, j)]) := by
  obtain ⟨vs, h1, hl, h2⟩ := h.len
  refine ⟨vs, h1, hl, vs ++ [.ref T], upd_same, ?_⟩
  rw [List.map_append]
  refine DRs_append (DRs_keep (TK.lst h1) ps vs h2) (DRs_one (DR_pD.mpr ⟨T, rfl, TK.lst h1 _ _ hT⟩))
theorem PL.at_ {H : Hp} {q : Addr} {ps : List PP} {vs : List V} {k : Nat} {v : V} (h : DRs H (ps.map pD) vs) (e : vs[k]? = some v) : ∃ p a, ps[k]? = some p ∧ v = .ref a ∧ H a = some (.tup [.int p.1, .int p.2]) := by
  have hl := DRs_len h
  rw [List.length_map] at hl
  have hk : k < ps.length := by have := (List.getElem?_eq_some_iff.mp e).1; omega
  obtain ⟨u, h1, h2⟩ := DRs_at (i := k) (d := pD ps[k]) h (by rw [List.getElem?_map, List.getElem?_eq_getElem hk]; rfl)
  rw [e] at h1
  cases h1
  obtain ⟨a, ea, ha⟩ := DR_pD.mp h2
  exact ⟨ps[k], a, List.getElem?_eq_getElem hk, ea, ha⟩
theorem shaped_ps (ps : List PP) : PySem.SeqAt.shaped (.list (ps.map pD)) = true := by
  have key : ∀ ps : List PP, PyData.canLayAll0 (ps.map pD) = true ∧ PyData.depthAll (ps.map pD) ≤ 1 := by
    intro ps
    induction ps with
    | nil => exact ⟨rfl, by simp [PyData.depthAll]⟩
    | cons p ps ih =>
      rw [List.map_cons]
      refine ⟨?_, ?_⟩
      · rw [PyData.canLayAll0, ih.1]; simp [pD, PyData.canLay0, PyData.canLayAll0]
      · rw [PyData.depthAll]
        have : PyData.depth (pD p) ≤ 1 := by simp [pD, PyData.depth, PyData.depthAll]
        omega
  obtain ⟨a, b⟩ := key ps
  unfold PySem.SeqAt.shaped
  rw [PyData.canLay0, a, PyData.depth, decide_eq_true (by omega)]; rfl
structure HTab (H : Hp) (t : Addr) (rs : List Addr) (hs : List (List PP)) : Prop where
  at_ : H t = some (.lst (rs.map V.ref))
  len : rs.length = hs.length
  nd : rs.Nodup
  ne : t ∉ rs
  row : ∀ (i : Nat) (r : Addr) (ps : List PP), rs[i]? = some r → hs[i]? = some ps → PL H r ps
theorem HTab.same {H H' : Hp} {t : Addr} {rs : List Addr} {hs : List (List PP)} (h : HTab H t rs hs) (s : Same H H') : HTab H' t rs hs :=
  ⟨s _ _ h.at_, h.len, h.nd, h.ne, fun i r ps e1 e2 => (h.row i r ps e1 e2).same s⟩
theorem HTab.push {H : Hp} {t : Addr} {rs : List Addr} {hs : List (List PP)} {k : Nat} {r T : Addr} {ps : List PP} {i j : Nat} (h : HTab H t rs hs) (er : rs[k]? = some r) (eh : hs[k]? = some ps) (hT : H T = some (.tup [.int i, .int j])) :
    ∃ vs, H r = some (.lst vs) ∧ vs.length = ps.length ∧ HTab (upd H r (.lst (vs ++ [.ref T]))) t rs (hs.set k (ps ++ [(i, j)])) := by
  obtain ⟨vs, h1, hl, h2⟩ := (h.row k r ps er eh).push hT
  have hm : r ∈ rs := List.mem_of_getElem? er
  have ntr : t ≠ r := fun z => h.ne (by rw [z]; exact hm)
  refine ⟨vs, h1, hl, ⟨by rw [upd_ne ntr]; exact h.at_, by rw [List.length_set]; exact h.len, h.nd, h.ne, fun i' r' ps' e1 e2 => ?_⟩⟩
  by_cases hik : i' = k
  · subst hik
    rw [er] at e1
    cases e1
    rw [List.getElem?_set_self (by rw [← h.len]; exact (List.getElem?_eq_some_iff.mp er).1)] at e2
    cases e2
    exact h2
  · rw [List.getElem?_set_ne (Ne.symm hik)] at e2
    have nrr : r' ≠ r := fun z => by
      subst z
      obtain ⟨q1, _⟩ := List.getElem?_eq_some_iff.mp e1
      exact hik ((List.getElem?_inj q1 h.nd).mp (e1.trans er.symm))
    exact (h.row i' r' ps' e1 e2).keep (TK.lst h1) fun _ e => by rw [upd_ne nrr]; exact e
noncomputable def spPairs : Sp := fun vs H Q _ => ∃ side top : Str, vs = [.str side, .str top] ∧ Row side ∧ Row top ∧ ∀ q H', H q = none → Same H H' → PL H' q (prs side.cps.toList top.cps.toList side.length) → Q (.ref q) H'
theorem cps_at {z : Str} {j : Nat} (hj : j < z.cps.size) : z.cps.toList[j]? = some (z.cps.getD j 0) := by
  rw [Array.getD_eq_getD_getElem?]
  have : z.cps[j]? = some z.cps[j] := Array.getElem?_eq_getElem hj
  simp [this, hj]
theorem sign_eq {a b : Nat} : V.str ⟨#[a]⟩ = V.str ⟨#[b]⟩ ↔ a = b := by
  constructor
  · intro h
    have := Str.mk.inj (V.str.inj h)
    simpa using this
  · rintro rfl; rfl
theorem Tab.grow {S P : List Nat} {H2 H3 : Hp} {t r2 : Addr} {rs : List Addr} {i n : Nat} (TB : Tab H2 t rs (tabT S P (i + 1) n)) (S3 : Same H2 H3) (nr2 : H2 r2 = none) (hr2 : H3 r2 = some (.lst ((rowT S P (i + 1) n).map V.int))) :
    Tab (upd H3 t (.lst (rs.map V.ref ++ [.ref r2]))) t (rs ++ [r2]) (tabT S P (i + 2) n) := by
  have hrl : rs.length = i + 1 := by rw [TB.len]; simp [tabT]
  have nr2t : r2 ≠ t := fun z => by rw [z, TB.at_] at nr2; cases nr2
  have nrs : ∀ r' ∈ rs, r' ≠ t := fun r' hr' z => TB.ne (by rw [← z]; exact hr')
  have nin : r2 ∉ rs := fun z => by
    obtain ⟨k, hk, ek⟩ := List.mem_iff_getElem.mp z
    have hk2 : k < (tabT S P (i + 1) n).length := by rw [← TB.len]; exact hk
    have := TB.row k r2 _ (by rw [List.getElem?_eq_getElem hk, ek]) (List.getElem?_eq_getElem hk2)
    rw [this] at nr2; cases nr2
  refine ⟨by rw [upd_same]; simp, by simp [hrl, tabT], ?_, ?_, fun k r' xs e1 e2 => ?_⟩
  · rw [List.nodup_append]
    exact ⟨TB.nd, by simp, fun a ha b hb z => nin (by rw [List.mem_singleton.mp hb] at z; rw [← z]; exact ha)⟩
  · intro z
    rcases List.mem_append.mp z with z | z
    · exact TB.ne z
    · exact nr2t (List.mem_singleton.mp z).symm
  · by_cases hk : k < rs.length
    · rw [List.getElem?_append_left hk] at e1
      rw [upd_ne (nrs r' (List.mem_of_getElem? e1))]
      refine S3 _ _ (TB.row k r' xs e1 ?_)
      unfold tabT at e2 ⊢
      rw [List.getElem?_map, List.getElem?_range (by omega)] at e2
      rw [List.getElem?_map, List.getElem?_range (by omega)]
      exact e2
    · have hk2 : k < (rs ++ [r2]).length := (List.getElem?_eq_some_iff.mp e1).1
      simp at hk2
      have hk3 : k = i + 1 := by omega
      subst hk3
      rw [List.getElem?_append_right (by omega), hrl] at e1
      simp at e1
      subst e1
      unfold tabT at e2
      rw [List.getElem?_map, List.getElem?_range (by omega)] at e2
      have e3 := Option.some.inj e2
      rw [upd_ne nr2t, ← e3]
      exact hr2
theorem tab_at {H : Hp} {t : Addr} {rs : List Addr} {S P : List Nat} {m n : Nat} (TB : Tab H t rs (tabT S P m n)) {k : Int} {i : Nat} (hk : k = (i : Int)) (hi : i < m) : ∃ r, atI (rs.map V.ref) k = some (.ref r) ∧ rs[i]? = some r ∧ H r = some (.lst ((rowT S P i n).map V.int)) := by
  subst hk
  have hrl : rs.length = m := by rw [TB.len]; simp [tabT]
  obtain ⟨r, er⟩ : ∃ r, rs[i]? = some r := ⟨_, List.getElem?_eq_getElem (show i < rs.length by omega)⟩
  refine ⟨r, atI_nat (by rw [List.getElem?_map, er]; rfl), er, TB.row i r _ er (by unfold tabT; rw [List.getElem?_map, List.getElem?_range hi]; rfl)⟩
theorem row_at {S P : List Nat} {i n j : Nat} {k : Int} (hk : k = (j : Int)) (h : j < n) : atI ((rowT S P i n).map V.int) k = some (.int (lt S P i j)) := by
  subst hk; exact at_row h
theorem sgn_at {z : Str} {k : Int} {j : Nat} (hk : k = (j : Int)) (h : j < z.length) : ∃ c, z.cps.toList[j]? = some c ∧ atI z.cps.toList k = some c := by
  subst hk
  have : j < z.cps.toList.length := by simpa [Str.length] using h
  exact ⟨_, List.getElem?_eq_getElem this, atI_nat (List.getElem?_eq_getElem this)⟩

section
variable {P : Program} {w : World} {K : PySem.W.Frag} {mg : Str → Option Value} {base : Heap}
theorem k_pairs_of_pairs : (defScope s_pairs_of).names.lookup ("pairs" : Str) = some NameKind.local := by decide +kernel
theorem k_pairs_of_enumerate : (defScope s_pairs_of).names.lookup ("enumerate" : Str) = some NameKind.globalImplicit := by decide +kernel
theorem k_pairs_of_side : (defScope s_pairs_of).names.lookup ("side" : Str) = some NameKind.local := by decide +kernel
theorem k_pairs_of_sign : (defScope s_pairs_of).names.lookup ("sign" : Str) = some NameKind.local := by decide +kernel
theorem k_pairs_of_i : (defScope s_pairs_of).names.lookup ("i" : Str) = some NameKind.local := by decide +kernel
theorem k_pairs_of_top : (defScope s_pairs_of).names.lookup ("top" : Str) = some NameKind.local := by decide +kernel
theorem k_pairs_of_other : (defScope s_pairs_of).names.lookup ("other" : Str) = some NameKind.local := by decide +kernel
theorem k_pairs_of_j : (defScope s_pairs_of).names.lookup ("j" : Str) = some NameKind.local := by decide +kernel
theorem k_pairs_of_need_rows : (defScope s_pairs_of).names.lookup ("need_rows" : Str) = some NameKind.globalImplicit := by decide +kernel
noncomputable def gPairs : Str → Str → Hp → VK → Prop := fun side top H Q => ∀ (q : Addr) (H' : Hp), H q = none → Same H H' → PL H' q (prs side.cps.toList top.cps.toList side.length) → Q (.ref q) H'
theorem sc_pairs_of : FnScope ["side", "top", "pairs", "i", "sign", "j", "other"] ["side", "top"] (defScope s_pairs_of) := ⟨rfl, rfl, rfl, by decide +kernel, rfl, by decide +kernel, by decide +kernel⟩
theorem h_pairs_of (T : Txt K mg) : HasX P w K mg base 5 "pairs_of" ["side", "top"] (spX K mg gPairs) := by
  have h_need_rows := h_need_rows (P := P) (w := w) (base := base) T
  refine hasJX T.d_pairs_of sc_pairs_of (fun _ _ _ _ _ _ us hl => L2.usN2 (fun _ _ => rfl) us hl) ?_ fun f cdv A outer s H vs Q E hr h => ?_
  · rintro vs H Q E ⟨v, u, rfl, _⟩; rfl
  obtain ⟨v, u, rfl, hv, hu', qx, q⟩ := h
  have hu := hr.units0
  have hu64 := hr.units
  refine ⟨_, (jb_cons (js_expr (j_callX h_need_rows (hr.mono (by decide)) (glF k_pairs_of_need_rows) pass_def (ja_cons (j_vL 0 k_pairs_of_side) (ja_cons (j_vL 1 k_pairs_of_top) ja_nil)) (by decide +kernel))) (jb_cons (js_set (i := 2) sc_pairs_of.nd rfl (Or.inl k_pairs_of_pairs) (j_lst ja_nil) rfl) (jb_cons (js_nox (js_for PassesOwn.never rfl (ji_enum (K := K) rfl rfl (glF k_pairs_of_enumerate) T.b_enumerate (ja_cons (j_vL 0 k_pairs_of_side) ja_nil)) (jg_tup (K := K) rfl rfl (jgs_cons (jg_name (i := 3) sc_pairs_of.nd rfl (Or.inl k_pairs_of_i) rfl) (jgs_cons (jg_name (i := 4) sc_pairs_of.nd rfl (Or.inl k_pairs_of_sign) rfl) jgs_nil))) (jb_one (js_for PassesOwn.never rfl (ji_enum (K := K) rfl rfl (glF k_pairs_of_enumerate) T.b_enumerate (ja_cons (j_vL 1 k_pairs_of_top) ja_nil)) (jg_tup (K := K) rfl rfl (jgs_cons (jg_name (i := 5) sc_pairs_of.nd rfl (Or.inl k_pairs_of_j) rfl) (jgs_cons (jg_name (i := 6) sc_pairs_of.nd rfl (Or.inl k_pairs_of_other) rfl) jgs_nil))) (jb_one (js_if (jt_cmp (op_eqX (K := K) rfl hu64) (j_vL 4 k_pairs_of_sign) (j_vL 6 k_pairs_of_other) (by first | exact nomark _ | with_unfolding_all rfl)) (jb_one (js_expr (j_meth (K := K) rfl PySem.F.plainAttrs_list PySem.F.slot_list_append PySem.F.type_list_append mt_append (j_vL 2 k_pairs_of_pairs) (ja_cons (j_tup (ja_cons (j_vL 3 k_pairs_of_i) (ja_cons (j_vL 5 k_pairs_of_j) ja_nil))) ja_nil)))) jb_nil)))))) (jb_one (js_ret (j_vL 2 k_pairs_of_pairs)))))), ?_⟩
  walk_at "sts"
  refine ⟨v, u, rfl, hv, hu', qx, fun side top e1 e2 hs ht H1 S1 => ?_⟩
  subst e1 e2
  walk_at "sts"
  refine ⟨by simp, fun pq npq => ?_⟩
  walk_at "sts"
  refine .inl ⟨side, rfl, ?_⟩
  have nH : H pq = none := S1.free npq
  refine for_Tp (fun i σ H' => Same H H' ∧ PL H' pq (prs side.cps.toList top.cps.toList i) ∧ ∃ x3 x4 x5 x6, σ = [some (.str side), some (.str top), some (.ref pq), x3, x4, x5, x6])
    ⟨S1.upd npq, ⟨[], upd_same, DRs_nil.mpr rfl⟩, none, none, none, none, rfl⟩ ?_ ?_
  · rintro i σ H2 T0 hi ⟨S2, PL2, x3, x4, x5, x6, rfl⟩ nT
    refine r_gtup (xs := [.int i, .str ⟨#[side.cps.getD i 0]⟩]) (SqT.of upd_same) rfl ?_
    have PL3 := PL2.same ((Same.refl H2).upd nT (o := .tup (enumS side i)))
    have S3 := S2.upd nT (o := .tup (enumS side i))
    walk_at "sts"
    refine .inl ⟨top, rfl, ?_⟩
    refine for_Tp (fun j σ H' => Same H H' ∧ PL H' pq (prs side.cps.toList top.cps.toList i ++ rowP side.cps.toList top.cps.toList i j) ∧ ∃ x5 x6, σ = [some (.str side), some (.str top), some (.ref pq), some (.int i), some (.str ⟨#[side.cps.getD i 0]⟩), x5, x6])
      ⟨S3, by simpa [rowP] using PL3, _, _, rfl⟩ ?_ ?_
    · rintro j σ H4 T1 hj ⟨S4, PL4, x5, x6, rfl⟩ nT1
      refine r_gtup (xs := [.int j, .str ⟨#[top.cps.getD j 0]⟩]) (SqT.of upd_same) rfl ?_
      have PL5 := PL4.same ((Same.refl H4).upd nT1 (o := .tup (enumS top j)))
      have S5 := S4.upd nT1 (o := .tup (enumS top j))
      obtain ⟨vs0, e0, _⟩ := id PL5
      have es := cps_at (z := side) hi
      have et := cps_at (z := top) hj
      walk_at "sts"
      refine iteD (fun hk => ?_) (fun hk => ?_)
      · have ec : side.cps.toList[i]? = top.cps.toList[j]? := by rw [es, et, sign_eq.mp hk]
        walk_at "sts"
        refine ⟨.inl ⟨rfl, _, SqL.of e0⟩, ?_⟩
        walk_at "sts"
        refine ⟨by simp; decide, fun T2 nT2 => ?_⟩
        walk_at "sts"
        obtain ⟨vs, h1, hl, h2⟩ := (PL5.same ((Same.refl _).upd nT2 (o := .tup [.int i, .int j]))).push (T := T2) upd_same
        have hz : vs.length < sizeLine := by
          have a := prs_len side.cps.toList top.cps.toList i
          have b := rowP_len side.cps.toList top.cps.toList i j
          have c : i * top.cps.toList.length ≤ 48 * 48 := Nat.mul_le_mul (by have := hs.1; have : side.cps.size = side.length := rfl; omega) (by have := ht.1; rw [len_cps] at this; exact this)
          have d : j < 48 := by have := ht.1; have : top.cps.size = top.length := rfl; omega
          rw [hl, List.length_append]
          exact Nat.lt_of_lt_of_le (show _ < 5000 by omega) (by decide)
        refine r_append h1 hz ⟨over (S5.upd nT2) nH, ?_, _, _, rfl⟩
        rw [rowP_succ, if_pos ec, ← List.append_assoc]
        exact h2
      · have ec : ¬ side.cps.toList[i]? = top.cps.toList[j]? := by
          rw [es, et]
          intro z
          exact hk (by rw [Option.some.inj z])
        walk_at "sts"
        refine ⟨S5, ?_, _, _, rfl⟩
        rw [rowP_succ, if_neg ec, List.append_nil]
        exact PL5
    · rintro σ H4 ⟨S4, PL4, x5, x6, rfl⟩
      refine ⟨S4, ?_, _, _, _, _, rfl⟩
      have e : top.cps.size = top.cps.toList.length := by simp
      rw [e] at PL4
      exact PL4
  · rintro σ H2 ⟨S2, PL2, x3, x4, x5, x6, rfl⟩
    walk_at "sts"
    exact q _ _ rfl rfl hs ht pq H2 nH S2 PL2
end

section
variable {P : Program} {w : World} {K : PySem.W.Frag} {mg : Str → Option Value} {base : Heap}
theorem k_is_number_isinstance : (defScope s_is_number).names.lookup ("isinstance" : Str) = some NameKind.globalImplicit := by decide +kernel
theorem k_is_number_bool : (defScope s_is_number).names.lookup ("bool" : Str) = some NameKind.globalImplicit := by decide +kernel
theorem k_is_number_thing : (defScope s_is_number).names.lookup ("thing" : Str) = some NameKind.local := by decide +kernel
theorem k_is_number_int : (defScope s_is_number).names.lookup ("int" : Str) = some NameKind.globalImplicit := by decide +kernel
theorem k_is_pair_is_number : (defScope s_is_pair).names.lookup ("is_number" : Str) = some NameKind.globalImplicit := by decide +kernel
theorem k_is_pair_thing : (defScope s_is_pair).names.lookup ("thing" : Str) = some NameKind.local := by decide +kernel
theorem k_is_pair_len : (defScope s_is_pair).names.lookup ("len" : Str) = some NameKind.globalImplicit := by decide +kernel
theorem k_is_pair_isinstance : (defScope s_is_pair).names.lookup ("isinstance" : Str) = some NameKind.globalImplicit := by decide +kernel
theorem k_is_pair_tuple : (defScope s_is_pair).names.lookup ("tuple" : Str) = some NameKind.globalImplicit := by decide +kernel
noncomputable def tyN : PyData → String
  | .none => "NoneType" | .bool _ => "bool" | .int _ => "int" | .str _ => "str" | .list _ => "list" | .tuple _ => "tuple" | .dict _ => "dict"
theorem rd_ty {H : Hp} {d : PyData} {v : V} (h : RD H d v) : TyOf K H v (.type (tyN d)) := by
  cases d with
  | none => rw [RD_none] at h; subst h; exact .non
  | bool b => rw [RD_bool] at h; subst h; exact .bl _
  | int n => rw [RD_int] at h; subst h; exact .int _
  | str n => rw [RD_str] at h; subst h; exact .str _
  | list ds => obtain ⟨a, vs, rfl, e, _⟩ := RD_list.mp h; exact .lst e
  | tuple ds => obtain ⟨a, vs, rfl, e, _⟩ := RD_tuple.mp h; exact .tup e
  | dict ds => obtain ⟨a, vs, rfl, e, _⟩ := RD_dict.mp h; exact .dK e
noncomputable def isNumD : PyData → Bool
  | .int _ => true
  | _ => false
noncomputable def isTupD : PyData → Bool
  | .tuple _ => true
  | _ => false
noncomputable def isLstD : PyData → Bool
  | .list _ => true
  | _ => false
theorem kit_tup (d : PyData) : PySem.W.kitOne K (.type (tyN d)) (.type "tuple") = some (isTupD d) := by cases d <;> rfl
theorem kit_lst (d : PyData) : PySem.W.kitOne K (.type (tyN d)) (.type "list") = some (isLstD d) := by cases d <;> rfl
noncomputable def spNum : Sp := fun vs H Q _ => ∃ (v : V) (d : PyData), vs = [v] ∧ RD H d v ∧ Q (.bl (isNumD d)) H
theorem sc_is_number : FnScope ["thing"] ["thing"] (defScope s_is_number) := ⟨rfl, rfl, rfl, by decide +kernel, rfl, by decide +kernel, by decide +kernel⟩
theorem h_is_number (T : Txt K mg) : Has P w K mg base 1 "is_number" ["thing"] spNum := by
  refine hasJ T.d_is_number sc_is_number (fun _ _ _ _ _ _ us hl => L2.usN1 (fun _ => rfl) us hl) ?_ fun f cdv A outer s H vs Q E hr h => ?_
  · rintro vs H Q E ⟨v, d, rfl, _⟩; rfl
  obtain ⟨v, d, rfl, hd, q⟩ := h
  have hu := hr.units0
  have hu64 := hr.units
  refine ⟨_, (jb_one (js_ret (j_and (j_callB (call_isiK (K := K) rfl) (glF k_is_number_isinstance) T.b_isinstance bt_isinstance (ja_cons (j_vL 0 k_is_number_thing) (ja_cons (j_ty (glF k_is_number_int) T.b_int bt_int (by decide +kernel) (by decide +kernel)) ja_nil)) (by decide +kernel) (by decide +kernel)) (j_one (j_not (j_callB (call_isiK (K := K) rfl) (glF k_is_number_isinstance) T.b_isinstance bt_isinstance (ja_cons (j_vL 0 k_is_number_thing) (ja_cons (j_ty (glF k_is_number_bool) T.b_bool bt_bool (by decide +kernel) (by decide +kernel)) ja_nil)) (by decide +kernel) (by decide +kernel))))))), ?_⟩
  walk_at "sts"
  cases d with
  | int n =>
    refine r_isi (rd_ty hd) rfl ?_
    walk_at "sts"
    refine r_isi (rd_ty hd) rfl ?_
    walk_at "sts"
    exact q
  | bool n =>
    refine r_isi (b := true) (rd_ty hd) rfl ?_
    walk_at "sts"
    refine r_isi (b := true) (rd_ty hd) rfl ?_
    walk_at "sts"
    exact q
  | none =>
    refine r_isi (rd_ty hd) rfl ?_
    walk_at "sts"
    exact q
  | str n =>
    refine r_isi (rd_ty hd) rfl ?_
    walk_at "sts"
    exact q
  | list n =>
    refine r_isi (rd_ty hd) rfl ?_
    walk_at "sts"
    exact q
  | tuple n =>
    refine r_isi (rd_ty hd) rfl ?_
    walk_at "sts"
    exact q
  | dict n =>
    refine r_isi (rd_ty hd) rfl ?_
    walk_at "sts"
    exact q
noncomputable def isPairD : PyData → Bool
  | .tuple [a, b] => isNumD a && isNumD b
  | _ => false
noncomputable def spPair : Sp := fun vs H Q _ => ∃ (v : V) (d : PyData), vs = [v] ∧ RD H d v ∧ Q (.bl (isPairD d)) H
theorem RDs_len {H : Hp} : ∀ {ds : List PyData} {vs : List V}, RDs H ds vs → vs.length = ds.length
  | [], _, h => by rw [RDs_nil] at h; subst h; rfl
  | d :: ds, _, h => by rw [RDs_cons] at h; obtain ⟨v, r, rfl, _, hr⟩ := h; simp [RDs_len hr]
theorem RDs_two {H : Hp} {a b : PyData} {vs : List V} (h : RDs H [a, b] vs) : ∃ v u, vs = [v, u] ∧ RD H a v ∧ RD H b u := by
  rw [RDs_cons] at h
  obtain ⟨v, r, rfl, h1, h2⟩ := h
  rw [RDs_cons] at h2
  obtain ⟨u, r, rfl, h3, h4⟩ := h2
  rw [RDs_nil] at h4
  subst h4
  exact ⟨v, u, rfl, h1, h3⟩
theorem isPair_len {ds : List PyData} (h : ds.length ≠ 2) : isPairD (.tuple ds) = false := by
  match ds, h with
  | [], _ => rfl
  | [_], _ => rfl
  | [_, _], h => exact absurd rfl h
  | _ :: _ :: _ :: _, _ => rfl
theorem sc_is_pair : FnScope ["thing"] ["thing"] (defScope s_is_pair) := ⟨rfl, rfl, rfl, by decide +kernel, rfl, by decide +kernel, by decide +kernel⟩
theorem h_is_pair (T : Txt K mg) : Has P w K mg base 2 "is_pair" ["thing"] spPair := by
  have h_is_number := h_is_number (P := P) (w := w) (base := base) T
  refine hasJ T.d_is_pair sc_is_pair (fun _ _ _ _ _ _ us hl => L2.usN1 (fun _ => rfl) us hl) ?_ fun f cdv A outer s H vs Q E hr h => ?_
  · rintro vs H Q E ⟨v, d, rfl, _⟩; rfl
  obtain ⟨v, d, rfl, hd, q⟩ := h
  have hu := hr.units0
  have hu64 := hr.units
  refine ⟨_, (jb_one (js_ret (j_and (j_callB (call_isiK (K := K) rfl) (glF k_is_pair_isinstance) T.b_isinstance bt_isinstance (ja_cons (j_vL 0 k_is_pair_thing) (ja_cons (j_ty (glF k_is_pair_tuple) T.b_tuple bt_tuple (by decide +kernel) (by decide +kernel)) ja_nil)) (by decide +kernel) (by decide +kernel)) (j_and (j_cmp (op_eqX (K := K) rfl hu64) (j_callB (call_lenK (K := K) rfl) (glF k_is_pair_len) T.b_len bt_len (ja_cons (j_vL 0 k_is_pair_thing) ja_nil) (by decide +kernel) (by decide +kernel)) j_int (by first | exact nomark _ | with_unfolding_all rfl)) (j_and (j_call h_is_number (hr.mono (by decide)) (glF k_is_pair_is_number) (ja_cons (j_ix (K := K) rfl (j_vL 0 k_is_pair_thing) j_int) ja_nil) (by decide +kernel)) (j_one (j_call h_is_number (hr.mono (by decide)) (glF k_is_pair_is_number) (ja_cons (j_ix (K := K) rfl (j_vL 0 k_is_pair_thing) j_int) ja_nil) (by decide +kernel)))))))), ?_⟩
  walk_at "sts"
  refine r_isi (rd_ty hd) (kit_tup d) ?_
  by_cases ht : isTupD d = true
  · cases d with
    | tuple ds =>
      rw [ht]
      obtain ⟨a, us, rfl, e, r⟩ := RD_tuple.mp hd
      have hl := RDs_len r
      walk_at "sts"
      refine r_lenT (SqT.of e) ?_
      walk_at "sts"
      by_cases h2 : ds.length = 2
      · rw [decide_eq_true (by rw [hl, h2]; rfl)]
        match ds, h2, r with
        | [d1, d2], _, r =>
          obtain ⟨v1, v2, rfl, r1, r2⟩ := RDs_two r
          walk_at "sts"
          refine ⟨v1, d1, rfl, r1, ?_⟩
          walk_at "sts"
          cases hn : isNumD d1 with
          | true =>
            walk_at "sts"
            refine ⟨v2, d2, rfl, r2, ?_⟩
            walk_at "sts"
            have : isPairD (.tuple [d1, d2]) = isNumD d2 := by show (isNumD d1 && isNumD d2) = _; rw [hn]; rfl
            rw [this] at q
            exact q
          | false =>
            walk_at "sts"
            have : isPairD (.tuple [d1, d2]) = false := by show (isNumD d1 && isNumD d2) = _; rw [hn]; rfl
            rw [this] at q
            exact q
      · rw [decide_eq_false (by intro z; injection z with z; omega)]
        walk_at "sts"
        rw [isPair_len h2] at q
        exact q
    | _ => cases ht
  · have : isTupD d = false := by simpa using ht
    rw [this]
    walk_at "sts"
    have : isPairD d = false := by cases d <;> first | rfl | cases this
    rw [this] at q
    exact q
end

section
variable {P : Program} {w : World} {K : PySem.W.Frag} {mg : Str → Option Value} {base : Heap}
theorem k_is_match_side : (defScope s_is_match).names.lookup ("side" : Str) = some NameKind.local := by decide +kernel
theorem k_is_match_i : (defScope s_is_match).names.lookup ("i" : Str) = some NameKind.local := by decide +kernel
theorem k_is_match_top : (defScope s_is_match).names.lookup ("top" : Str) = some NameKind.local := by decide +kernel
theorem k_is_match_j : (defScope s_is_match).names.lookup ("j" : Str) = some NameKind.local := by decide +kernel
theorem k_is_match_len : (defScope s_is_match).names.lookup ("len" : Str) = some NameKind.globalImplicit := by decide +kernel
theorem k_is_match_thing : (defScope s_is_match).names.lookup ("thing" : Str) = some NameKind.local := by decide +kernel
theorem k_is_match_is_pair : (defScope s_is_match).names.lookup ("is_pair" : Str) = some NameKind.globalImplicit := by decide +kernel
theorem k_is_ahead_pair : (defScope s_is_ahead).names.lookup ("pair" : Str) = some NameKind.local := by decide +kernel
theorem k_is_ahead_other : (defScope s_is_ahead).names.lookup ("other" : Str) = some NameKind.local := by decide +kernel
noncomputable def matchI (z y : Str) (i j : Int) : Bool := decide (0 ≤ i) && decide (i < z.length) && decide (0 ≤ j) && decide (j < y.length) && decide (z.cps.toList[i.toNat]? = y.cps.toList[j.toNat]?)
noncomputable def matchD (z y : Str) : PyData → Bool
  | .tuple [.int i, .int j] => matchI z y i j
  | _ => false
theorem matchD_no {z y : Str} {d : PyData} (h : isPairD d = false) : matchD z y d = false := by
  unfold matchD
  split
  · cases h
  · rfl
theorem pair_of {d : PyData} (h : isPairD d = true) : ∃ i j, d = .tuple [.int i, .int j] := by
  unfold isPairD at h
  split at h
  · rename_i a b
    rw [Bool.and_eq_true] at h
    cases a <;> cases b <;> simp only [isNumD, Bool.false_eq_true, and_false, false_and] at h <;> exact ⟨_, _, rfl⟩
  · cases h
theorem RD_pair {H : Hp} {i j : Int} {v : V} : RD H (.tuple [.int i, .int j]) v ↔ ∃ a, v = .ref a ∧ H a = some (.tup [.int i, .int j]) := by
  rw [RD_tuple]
  constructor
  · rintro ⟨a, vs, rfl, e, r⟩
    obtain ⟨v1, v2, rfl, r1, r2⟩ := RDs_two r
    rw [RD_int] at r1 r2
    subst r1 r2
    exact ⟨a, rfl, e⟩
  · rintro ⟨a, rfl, e⟩
    exact ⟨a, _, rfl, e, RDs_one (RD_int.mpr rfl) (RDs_one (RD_int.mpr rfl) (RDs_nil.mpr rfl))⟩
noncomputable def spMatch : Sp := fun vs H Q _ => ∃ (z y : Str) (v : V) (d : PyData), vs = [.str z, .str y, v] ∧ RD H d v ∧ z.length ≤ 48 ∧ y.length ≤ 48 ∧ Q (.bl (matchD z y d)) H
theorem sc_is_match : FnScope ["side", "top", "thing", "i", "j"] ["side", "top", "thing"] (defScope s_is_match) := ⟨rfl, rfl, rfl, by decide +kernel, rfl, by decide +kernel, by decide +kernel⟩
theorem h_is_match (T : Txt K mg) : Has P w K mg base 3 "is_match" ["side", "top", "thing"] spMatch := by
  have h_is_pair := h_is_pair (P := P) (w := w) (base := base) T
  refine hasJ T.d_is_match sc_is_match (fun _ _ _ _ _ _ us hl => L2.usN3 (fun _ _ _ => rfl) us hl) ?_ fun f cdv A outer s H vs Q E hr h => ?_
  · rintro vs H Q E ⟨z, y, v, d, rfl, _⟩; rfl
  obtain ⟨z, y, v, d, rfl, hd, hz, hy, q⟩ := h
  have hu := hr.units0
  have hu64 := hr.units
  refine ⟨_, (jb_cons (js_if (jt_not (jt_val (j_call h_is_pair (hr.mono (by decide)) (glF k_is_match_is_pair) (ja_cons (j_vL 2 k_is_match_thing) ja_nil) (by decide +kernel)))) (jb_one (js_ret j_bl)) jb_nil) (jb_cons (js_set (i := 3) sc_is_match.nd rfl (Or.inl k_is_match_i) (j_ix (K := K) rfl (j_vL 2 k_is_match_thing) j_int) rfl) (jb_cons (js_set (i := 4) sc_is_match.nd rfl (Or.inl k_is_match_j) (j_ix (K := K) rfl (j_vL 2 k_is_match_thing) j_int) rfl) (jb_one (js_ret (j_and (j_chain op_le op_lt j_int (j_vL 3 k_is_match_i) (j_callB (call_lenK (K := K) rfl) (glF k_is_match_len) T.b_len bt_len (ja_cons (j_vL 0 k_is_match_side) ja_nil) (by decide +kernel) (by decide +kernel))) (j_and (j_chain op_le op_lt j_int (j_vL 4 k_is_match_j) (j_callB (call_lenK (K := K) rfl) (glF k_is_match_len) T.b_len bt_len (ja_cons (j_vL 1 k_is_match_top) ja_nil) (by decide +kernel) (by decide +kernel))) (j_one (j_cmp (op_eqX (K := K) rfl hu64) (j_ix (K := K) rfl (j_vL 0 k_is_match_side) (j_vL 3 k_is_match_i)) (j_ix (K := K) rfl (j_vL 1 k_is_match_top) (j_vL 4 k_is_match_j)) (by first | exact nomark _ | with_unfolding_all rfl)))))))))), ?_⟩
  walk_at "sts"
  refine ⟨v, d, rfl, hd, ?_⟩
  walk_at "sts"
  have lz : z.length ≤ sizeLine := Nat.le_trans hz (by decide)
  have ly : y.length ≤ sizeLine := Nat.le_trans hy (by decide)
  cases hp : isPairD d with
  | false =>
    walk_at "sts"
    rw [matchD_no hp] at q
    exact q
  | true =>
    obtain ⟨i, j, rfl⟩ := pair_of hp
    obtain ⟨a, rfl, e⟩ := RD_pair.mp hd
    walk_at "sts"
    replace q : Q (.bl (matchI z y i j)) H := q
    unfold matchI at q
    by_cases h1 : 0 ≤ i
    · rw [decide_eq_true h1] at q ⊢
      walk_at "sts"
      refine r_lenS lz ?_
      walk_at "sts"
      by_cases h2 : i < z.length
      · rw [decide_eq_true h2] at q ⊢
        walk_at "sts"
        by_cases h3 : 0 ≤ j
        · rw [decide_eq_true h3] at q ⊢
          walk_at "sts"
          refine r_lenS ly ?_
          walk_at "sts"
          by_cases h4 : j < y.length
          · rw [decide_eq_true h4] at q ⊢
            obtain ⟨c, hc, ac⟩ := sgn_at (z := z) (k := i) (j := i.toNat) (by omega) (by omega)
            obtain ⟨d, hd, ad⟩ := sgn_at (z := y) (k := j) (j := j.toNat) (by omega) (by omega)
            rw [hc, hd] at q
            walk_at "sts"
            refine r_ixS lz ac ?_
            walk_at "sts"
            refine r_ixS ly ad ?_
            walk_at "sts"
            have : decide (V.str ⟨#[c]⟩ = V.str ⟨#[d]⟩) = decide (some c = some d) := by
              refine decide_eq_decide.mpr ?_
              rw [sign_eq]; simp
            rw [this]
            exact q
          · rw [decide_eq_false h4] at q ⊢
            walk_at "sts"
            simpa using q
        · rw [decide_eq_false h3] at q ⊢
          walk_at "sts"
          simpa using q
      · rw [decide_eq_false h2] at q ⊢
        walk_at "sts"
        simpa using q
    · rw [decide_eq_false h1] at q ⊢
      walk_at "sts"
      simpa using q
noncomputable def spAhead : Sp := fun vs H Q _ => ∃ (a b : Addr) (i j k l : Int), vs = [.ref a, .ref b] ∧ H a = some (.tup [.int i, .int j]) ∧ H b = some (.tup [.int k, .int l]) ∧ Q (.bl (decide (i < k) && decide (j < l))) H
theorem sc_is_ahead : FnScope ["pair", "other"] ["pair", "other"] (defScope s_is_ahead) := ⟨rfl, rfl, rfl, by decide +kernel, rfl, by decide +kernel, by decide +kernel⟩
theorem h_is_ahead (T : Txt K mg) : Has P w K mg base 1 "is_ahead" ["pair", "other"] spAhead := by
  refine hasJ T.d_is_ahead sc_is_ahead (fun _ _ _ _ _ _ us hl => L2.usN2 (fun _ _ => rfl) us hl) ?_ fun f cdv A outer s H vs Q E hr h => ?_
  · rintro vs H Q E ⟨a, b, i, j, k, l, rfl, _⟩; rfl
  obtain ⟨a, b, i, j, k, l, rfl, ha, hb, q⟩ := h
  have hu := hr.units0
  have hu64 := hr.units
  refine ⟨_, (jb_one (js_ret (j_and (j_cmp op_lt (j_ix (K := K) rfl (j_vL 0 k_is_ahead_pair) j_int) (j_ix (K := K) rfl (j_vL 1 k_is_ahead_other) j_int) (by first | exact nomark _ | with_unfolding_all rfl)) (j_one (j_cmp op_lt (j_ix (K := K) rfl (j_vL 0 k_is_ahead_pair) j_int) (j_ix (K := K) rfl (j_vL 1 k_is_ahead_other) j_int) (by first | exact nomark _ | with_unfolding_all rfl)))))), ?_⟩
  walk_at "sts"
  by_cases h1 : i < k
  · rw [decide_eq_true h1] at q ⊢
    walk_at "sts"
    exact q
  · rw [decide_eq_false h1] at q ⊢
    walk_at "sts"
    exact q
end

section
variable {P : Program} {w : World} {K : PySem.W.Frag} {mg : Str → Option Value} {base : Heap}
theorem nd_is_thread_0 : (["place", "thing"] : List Str).Nodup := by decide +kernel
theorem nd_is_thread_1 : (["pair", "side", "top"] : List Str).Nodup := by decide +kernel
theorem k_is_thread_all : (defScope s_is_thread).names.lookup ("all" : Str) = some NameKind.globalImplicit := by decide +kernel
theorem k_is_thread_range : (defScope s_is_thread).names.lookup ("range" : Str) = some NameKind.globalImplicit := by decide +kernel
theorem k_is_thread_len : (defScope s_is_thread).names.lookup ("len" : Str) = some NameKind.globalImplicit := by decide +kernel
theorem k_is_thread_thing : (defScope s_is_thread).names.lookup ("thing" : Str) = some NameKind.cell := by decide +kernel
theorem k_is_thread_isinstance : (defScope s_is_thread).names.lookup ("isinstance" : Str) = some NameKind.globalImplicit := by decide +kernel
theorem k_is_thread_list : (defScope s_is_thread).names.lookup ("list" : Str) = some NameKind.globalImplicit := by decide +kernel
theorem k_is_thread_need_rows : (defScope s_is_thread).names.lookup ("need_rows" : Str) = some NameKind.globalImplicit := by decide +kernel
theorem k_is_thread_top : (defScope s_is_thread).names.lookup ("top" : Str) = some NameKind.cell := by decide +kernel
theorem k_is_thread_side : (defScope s_is_thread).names.lookup ("side" : Str) = some NameKind.cell := by decide +kernel
theorem RDs_at {H : Hp} : ∀ {ds : List PyData} {vs : List V} {i : Nat} {x : V}, RDs H ds vs → vs[i]? = some x → ∃ d, ds[i]? = some d ∧ RD H d x
  | [], _, i, x, h, e => by rw [RDs_nil] at h; subst h; simp at e
  | d :: ds, _, 0, x, h, e => by
    rw [RDs_cons] at h
    obtain ⟨v, r, rfl, hd, _⟩ := h
    simp at e
    subst e
    exact ⟨d, rfl, hd⟩
  | d :: ds, _, i + 1, x, h, e => by
    rw [RDs_cons] at h
    obtain ⟨v, r, rfl, _, hr⟩ := h
    obtain ⟨d', h1, h2⟩ := RDs_at hr (by simpa using e)
    exact ⟨d', by simpa using h1, h2⟩
noncomputable def aheadD : PyData → PyData → Bool
  | .tuple [.int i, .int j], .tuple [.int k, .int l] => decide (i < k) && decide (j < l)
  | _, _ => false
noncomputable def threadD (z y : Str) : PyData → Bool
  | .list ds => ds.all (matchD z y) && (List.range (ds.length - 1)).all fun k => aheadD (ds.getD k .none) (ds.getD (k + 1) .none)
  | _ => false
theorem match_pair {z y : Str} {d : PyData} (h : matchD z y d = true) : ∃ i j, d = .tuple [.int i, .int j] := by
  refine pair_of ?_
  cases hp : isPairD d with
  | true => rfl
  | false => rw [matchD_no hp] at h; cases h
noncomputable def spX3 (K : PySem.W.Frag) (mg : Str → Option Value) (g : Str → Str → V → Hp → VK → Prop) : Sp := fun vs H Q E => ∃ v u t : V, vs = [v, u, t] ∧ Thing K H v ∧ Thing K H u ∧
  (∀ w, bf v u = some w → ∀ e H', Same H H' → IsX H' e (clsA mg "NoRow") [("found", w)] → E (.ref (clsA mg "NoRow")) (some e) H') ∧
  (∀ side top : Str, v = .str side → u = .str top → RowB side → RowB top → g side top t H Q)
theorem spX3.good {g : Str → Str → V → Hp → VK → Prop} {H : Hp} {Q : VK} {E : XK} {z y : Str} {t : V} (h : RowB z) (h' : RowB y) (q : g z y t H Q) : spX3 K mg g [.str z, .str y, t] H Q E :=
  ⟨_, _, _, rfl, row_thing h, row_thing h', (fun w e => by rw [bf_rows h h'] at e; cases e), fun s t e1 e2 _ _ => by cases e1; cases e2; exact q⟩
noncomputable def gIsTh : Str → Str → V → Hp → VK → Prop := fun side top t H Q => ∃ d, RD H d t ∧ (∀ ds, d = .list ds → ds.length ≤ 5000) ∧ ∀ H', Same H H' → Q (.bl (threadD side top d)) H'
theorem sc_is_thread : FnScope ["side", "top", "thing"] ["side", "top", "thing"] (defScope s_is_thread) := ⟨rfl, rfl, rfl, by decide +kernel, rfl, by decide +kernel, by decide +kernel⟩
theorem h_is_thread (T : Txt K mg) : HasX P w K mg base 5 "is_thread" ["side", "top", "thing"] (spX3 K mg gIsTh) := by
  have h_need_rows := h_need_rows (P := P) (w := w) (base := base) T
  have h_is_match := h_is_match (P := P) (w := w) (base := base) T
  have h_is_ahead := h_is_ahead (P := P) (w := w) (base := base) T
  refine hasJX T.d_is_thread sc_is_thread (fun _ _ _ _ _ _ us hl => L2.usN3 (fun _ _ _ => rfl) us hl) ?_ fun f cdv A outer s H vs Q E hr h => ?_
  · rintro vs H Q E ⟨v, u, t, rfl, _⟩; rfl
  obtain ⟨v, u, t, rfl, hv, hu', qx, q⟩ := h
  have hu := hr.units0
  have hu64 := hr.units
  refine ⟨_, (jb_cons (js_expr (j_callX h_need_rows (hr.mono (by decide)) (glF k_is_thread_need_rows) pass_def (ja_cons (j_vC 0 k_is_thread_side) (ja_cons (j_vC 1 k_is_thread_top) ja_nil)) (by decide +kernel))) (jb_cons (js_if (jw_pt (jw_or (jt_not (jt_val (j_callB (call_isiK (K := K) rfl) (glF k_is_thread_isinstance) T.b_isinstance bt_isinstance (ja_cons (j_vC 2 k_is_thread_thing) (ja_cons (j_ty (glF k_is_thread_list) T.b_list bt_list (by decide +kernel) (by decide +kernel)) ja_nil)) (by decide +kernel) (by decide +kernel)))) (jw_or1 (jt_not (jt_val (j_callB (call_all rfl) (glF k_is_thread_all) T.b_all bt_all (ja_cons (j_comp (sub := [none, some 0, some 1]) (subOk_of (N := ["side", "top", "thing"]) (sc := defScope s_is_thread) (N' := ["pair", "side", "top"]) (by decide +kernel)) rfl rfl rfl (ji_seq (K := K) rfl (j_vC 2 k_is_thread_thing)) (fun C s₀ H₀ ex => (jg_B 0 (by decide +kernel) nd_is_thread_1)) (fun C s₀ H₀ ex => jif_nil) (fun C s₀ H₀ ex => (j_call h_is_match (hr.mono (by decide)) (glB (by decide +kernel)) (ja_cons (j_vBF 1 (by decide +kernel)) (ja_cons (j_vBF 2 (by decide +kernel)) (ja_cons (j_vBL 0 (by decide +kernel)) ja_nil))) (by decide +kernel)))) ja_nil) (by decide +kernel) (by decide +kernel))))))) (jb_one (js_ret j_bl)) jb_nil) (jb_one (js_ret (j_callB (call_all rfl) (glF k_is_thread_all) T.b_all bt_all (ja_cons (j_comp (sub := [none, some 2]) (subOk_of (N := ["side", "top", "thing"]) (sc := defScope s_is_thread) (N' := ["place", "thing"]) (by decide +kernel)) rfl rfl rfl (ji_range1 (glF k_is_thread_range) T.b_range (ja_cons (j_op op_sub (j_callB (call_lenK (K := K) rfl) (glF k_is_thread_len) T.b_len bt_len (ja_cons (j_vC 2 k_is_thread_thing) ja_nil) (by decide +kernel) (by decide +kernel)) j_int) ja_nil)) (fun C s₀ H₀ ex => (jg_B 0 (by decide +kernel) nd_is_thread_0)) (fun C s₀ H₀ ex => jif_nil) (fun C s₀ H₀ ex => (j_call h_is_ahead (hr.mono (by decide)) (glB (by decide +kernel)) (ja_cons (j_ix (K := K) rfl (j_vBF 1 (by decide +kernel)) (j_vBL 0 (by decide +kernel))) (ja_cons (j_ix (K := K) rfl (j_vBF 1 (by decide +kernel)) (j_op op_addA (j_vBL 0 (by decide +kernel)) j_int)) ja_nil)) (by decide +kernel)))) ja_nil) (by decide +kernel) (by decide +kernel)))))), ?_⟩
  walk_at "sts"
  refine ⟨v, u, rfl, hv, hu', qx, fun side top e1 e2 hs ht H1 S1 => ?_⟩
  subst e1 e2
  obtain ⟨d, hd0, hsz, q2⟩ := q _ _ rfl rfl hs ht
  have hd := RD.same S1 _ _ hd0
  walk_at "sts"
  cases hL : isLstD d with
  | true =>
    obtain ⟨ds, rfl⟩ : ∃ ds, d = .list ds := by cases d <;> first | exact ⟨_, rfl⟩ | cases hL
    obtain ⟨a, us, rfl, e, r⟩ := RD_list.mp hd
    have hl := RDs_len r
    have h5 := hsz ds rfl
    have hz : us.length ≤ sizeLine := Nat.le_trans (show us.length ≤ 5000 by omega) (by decide)
    refine r_isi (.lst e) rfl ?_
    walk_at "sts"
    refine .inl ⟨a, rfl, ⟨_, SqL.of e⟩, ?_⟩
    refine comp_list (xs := us) (fun i ys H' => H' = H1 ∧ ys = ((ds.take i).map (matchD side top)).map V.bl) hz ⟨rfl, rfl⟩ ?_ ?_ ?_ ?_
    · rintro i ys H' ⟨_, rfl⟩
      simp; omega
    · rintro i ys H' ⟨rfl, rfl⟩
      exact SqL.of e
    · rintro i ys H' x hx ⟨rfl, rfl⟩
      obtain ⟨d, h1, h2⟩ := RDs_at r hx
      walk_at "sts"
      refine ⟨KeepSt.set rfl, ?_⟩
      walk_at "sts"
      refine ⟨side, top, x, d, rfl, h2, hs.1, ht.1, rfl, ?_⟩
      rw [List.take_add_one, h1]
      simp
    · rintro ys H' ⟨rfl, rfl⟩ D hD
      rw [hl, List.take_length]
      walk_at "sts"
      refine ⟨D, _, rfl, upd_same, ?_⟩
      walk_at "sts"
      have e2 : ((ds.map (matchD side top)).all id) = ds.all (matchD side top) := by rw [List.all_map]; rfl
      rw [e2]
      have S2 : Same H' (upd H' D (.lst ((ds.map (matchD side top)).map V.bl))) := (Same.refl H').upd hD
      cases hm : ds.all (matchD side top) with
      | false =>
        walk_at "sts"
        have : threadD side top (.list ds) = false := by
          show (ds.all (matchD side top) && _) = false
          rw [hm, Bool.false_and]
        rw [this] at q2
        exact q2 _ (S1.trans S2)
      | true =>
        have e3 := S2 _ _ e
        have r3 := RDs.same S2 _ _ r
        generalize upd H' D (.lst ((ds.map (matchD side top)).map V.bl)) = H3 at S2 e3 r3 ⊢
        walk_at "sts"
        refine r_lenL (SqL.of e3) ?_
        walk_at "sts"
        refine ⟨_, rfl, by omega, by omega, ?_⟩
        rw [show ((us.length : Int) - 1).toNat = ds.length - 1 by omega]
        refine comp_rng (n := ds.length - 1) (fun i ys H' => H' = H3 ∧ ys = ((List.range i).map fun k => aheadD (ds.getD k .none) (ds.getD (k + 1) .none)).map V.bl) (by omega) ⟨rfl, rfl⟩ ?_ ?_ ?_
        · rintro i ys H' ⟨_, rfl⟩
          simp
        · rintro i ys H' hi ⟨rfl, rfl⟩
          have g1 : us[i]? = some (us[i]'(by omega)) := List.getElem?_eq_getElem _
          have g2 : us[i + 1]? = some (us[i + 1]'(by omega)) := List.getElem?_eq_getElem _
          obtain ⟨d1, h1, k1⟩ := RDs_at r3 g1
          obtain ⟨d2, h2, k2⟩ := RDs_at r3 g2
          obtain ⟨i1, j1, rfl⟩ := match_pair (List.all_eq_true.mp hm d1 (List.mem_of_getElem? h1))
          obtain ⟨i2, j2, rfl⟩ := match_pair (List.all_eq_true.mp hm d2 (List.mem_of_getElem? h2))
          obtain ⟨a1, ea1, f1⟩ := RD_pair.mp k1
          obtain ⟨a2, ea2, f2⟩ := RD_pair.mp k2
          rw [ea1] at g1
          rw [ea2] at g2
          walk_at "sts"
          refine ⟨KeepSt.set rfl, ?_⟩
          walk_at "sts"
          refine r_ixL (SqL.of e3) (atI_int (by omega) (by rw [show (0 + (i : Int)).toNat = i by omega]; exact g1)) ?_
          walk_at "sts"
          refine r_ixL (SqL.of e3) (atI_int (by omega) (by rw [show (0 + (i : Int) + 1).toNat = i + 1 by omega]; exact g2)) ?_
          walk_at "sts"
          refine ⟨a1, a2, i1, j1, i2, j2, rfl, f1, f2, rfl, ?_⟩
          rw [List.range_succ, List.map_append, List.map_append]
          simp [h1, h2, aheadD]
        · rintro ys H' ⟨rfl, rfl⟩ D2 hD2
          walk_at "sts"
          refine ⟨D2, _, rfl, upd_same, ?_⟩
          walk_at "sts"
          have : threadD side top (.list ds) = (((List.range (ds.length - 1)).map fun k => aheadD (ds.getD k .none) (ds.getD (k + 1) .none)).all id) := by
            show (ds.all (matchD side top) && _) = _
            rw [hm, Bool.true_and, List.all_map]; rfl
          rw [this] at q2
          exact q2 _ ((S1.trans S2).upd hD2)
  | false =>
    refine r_isi (rd_ty hd) (by rw [kit_lst, hL]) ?_
    walk_at "sts"
    have : threadD side top d = false := by unfold threadD; split <;> first | rfl | cases hL
    rw [this] at q2
    exact q2 _ S1
end

section
variable {P : Program} {w : World} {K : PySem.W.Frag} {mg : Str → Option Value} {base : Heap}
theorem nd_is_stack_0 : (["pair", "side", "top"] : List Str).Nodup := by decide +kernel
theorem k_is_stack_all : (defScope s_is_stack).names.lookup ("all" : Str) = some NameKind.globalImplicit := by decide +kernel
theorem k_is_stack_thing : (defScope s_is_stack).names.lookup ("thing" : Str) = some NameKind.local := by decide +kernel
theorem k_is_stack_len : (defScope s_is_stack).names.lookup ("len" : Str) = some NameKind.globalImplicit := by decide +kernel
theorem k_is_stack_isinstance : (defScope s_is_stack).names.lookup ("isinstance" : Str) = some NameKind.globalImplicit := by decide +kernel
theorem k_is_stack_list : (defScope s_is_stack).names.lookup ("list" : Str) = some NameKind.globalImplicit := by decide +kernel
theorem k_holds_all_once_len : (defScope s_holds_all_once).names.lookup ("len" : Str) = some NameKind.globalImplicit := by decide +kernel
theorem k_holds_all_once_seen : (defScope s_holds_all_once).names.lookup ("seen" : Str) = some NameKind.local := by decide +kernel
theorem k_holds_all_once_pairs_of : (defScope s_holds_all_once).names.lookup ("pairs_of" : Str) = some NameKind.globalImplicit := by decide +kernel
theorem k_holds_all_once_top : (defScope s_holds_all_once).names.lookup ("top" : Str) = some NameKind.local := by decide +kernel
theorem k_holds_all_once_side : (defScope s_holds_all_once).names.lookup ("side" : Str) = some NameKind.local := by decide +kernel
theorem k_holds_all_once_heaps : (defScope s_holds_all_once).names.lookup ("heaps" : Str) = some NameKind.local := by decide +kernel
theorem k_holds_all_once_heap : (defScope s_holds_all_once).names.lookup ("heap" : Str) = some NameKind.local := by decide +kernel
theorem k_holds_all_once_pair : (defScope s_holds_all_once).names.lookup ("pair" : Str) = some NameKind.local := by decide +kernel
theorem k_has_one_ahead_enumerate : (defScope s_has_one_ahead).names.lookup ("enumerate" : Str) = some NameKind.globalImplicit := by decide +kernel
theorem k_has_one_ahead_heap : (defScope s_has_one_ahead).names.lookup ("heap" : Str) = some NameKind.local := by decide +kernel
theorem k_has_one_ahead_pair : (defScope s_has_one_ahead).names.lookup ("pair" : Str) = some NameKind.local := by decide +kernel
theorem k_has_one_ahead_place : (defScope s_has_one_ahead).names.lookup ("place" : Str) = some NameKind.local := by decide +kernel
theorem k_has_one_ahead_earlier : (defScope s_has_one_ahead).names.lookup ("earlier" : Str) = some NameKind.local := by decide +kernel
theorem k_has_one_ahead_is_ahead : (defScope s_has_one_ahead).names.lookup ("is_ahead" : Str) = some NameKind.globalImplicit := by decide +kernel
noncomputable def stackD (z y : Str) : PyData → Bool
  | .list ds => !ds.isEmpty && ds.all (matchD z y)
  | _ => false
noncomputable def spStack : Sp := fun vs H Q _ => ∃ (z y : Str) (v : V) (d : PyData), vs = [.str z, .str y, v] ∧ RD H d v ∧ z.length ≤ 48 ∧ y.length ≤ 48 ∧ (∀ ds, d = .list ds → ds.length ≤ 5000) ∧ ∀ H', Same H H' → Q (.bl (stackD z y d)) H'
theorem sc_is_stack : FnScope ["side", "top", "thing"] ["side", "top", "thing"] (defScope s_is_stack) := ⟨rfl, rfl, rfl, by decide +kernel, rfl, by decide +kernel, by decide +kernel⟩
theorem h_is_stack (T : Txt K mg) : Has P w K mg base 4 "is_stack" ["side", "top", "thing"] spStack := by
  have h_is_match := h_is_match (P := P) (w := w) (base := base) T
  refine hasJ T.d_is_stack sc_is_stack (fun _ _ _ _ _ _ us hl => L2.usN3 (fun _ _ _ => rfl) us hl) ?_ fun f cdv A outer s H vs Q E hr h => ?_
  · rintro vs H Q E ⟨z, y, v, d, rfl, _⟩; rfl
  obtain ⟨z, y, v, d, rfl, hd, hs, ht, hsz, q⟩ := h
  have hu := hr.units0
  have hu64 := hr.units
  refine ⟨_, (jb_cons (js_if (jw_pt (jw_or (jt_not (jt_val (j_callB (call_isiK (K := K) rfl) (glF k_is_stack_isinstance) T.b_isinstance bt_isinstance (ja_cons (j_vL 2 k_is_stack_thing) (ja_cons (j_ty (glF k_is_stack_list) T.b_list bt_list (by decide +kernel) (by decide +kernel)) ja_nil)) (by decide +kernel) (by decide +kernel)))) (jw_or1 (jt_cmp (op_eqX (K := K) rfl hu64) (j_callB (call_lenK (K := K) rfl) (glF k_is_stack_len) T.b_len bt_len (ja_cons (j_vL 2 k_is_stack_thing) ja_nil) (by decide +kernel) (by decide +kernel)) j_int (by first | exact nomark _ | with_unfolding_all rfl))))) (jb_one (js_ret j_bl)) jb_nil) (jb_one (js_ret (j_callB (call_all rfl) (glF k_is_stack_all) T.b_all bt_all (ja_cons (j_comp (sub := [none, some 0, some 1]) (subOk_of (N := ["side", "top", "thing"]) (sc := defScope s_is_stack) (N' := ["pair", "side", "top"]) (by decide +kernel)) rfl rfl rfl (ji_seq (K := K) rfl (j_vL 2 k_is_stack_thing)) (fun C s₀ H₀ ex => (jg_B 0 (by decide +kernel) nd_is_stack_0)) (fun C s₀ H₀ ex => jif_nil) (fun C s₀ H₀ ex => (j_call h_is_match (hr.mono (by decide)) (glB (by decide +kernel)) (ja_cons (j_vBF 1 (by decide +kernel)) (ja_cons (j_vBF 2 (by decide +kernel)) (ja_cons (j_vBL 0 (by decide +kernel)) ja_nil))) (by decide +kernel)))) ja_nil) (by decide +kernel) (by decide +kernel))))), ?_⟩
  walk_at "sts"
  cases hL : isLstD d with
  | true =>
    obtain ⟨ds, rfl⟩ : ∃ ds, d = .list ds := by cases d <;> first | exact ⟨_, rfl⟩ | cases hL
    obtain ⟨a, us, rfl, e, r⟩ := RD_list.mp hd
    have hl := RDs_len r
    have h5 := hsz ds rfl
    have hz : us.length ≤ sizeLine := Nat.le_trans (show us.length ≤ 5000 by omega) (by decide)
    refine r_isi (.lst e) rfl ?_
    walk_at "sts"
    refine r_lenL (SqL.of e) ?_
    walk_at "sts"
    refine iteD (fun h0 => ?_) (fun h0 => ?_)
    · walk_at "sts"
      have : ds = [] := List.length_eq_zero_iff.mp (by injection h0 with h0; omega)
      subst this
      exact q _ (Same.refl _)
    · have h0' : ds ≠ [] := fun z => h0 (by rw [hl, z]; rfl)
      walk_at "sts"
      refine .inl ⟨a, rfl, ⟨_, SqL.of e⟩, ?_⟩
      refine comp_list (xs := us) (fun i ys H' => H' = H ∧ ys = ((ds.take i).map (matchD z y)).map V.bl) hz ⟨rfl, rfl⟩ ?_ ?_ ?_ ?_
      · rintro i ys H' ⟨_, rfl⟩
        simp; omega
      · rintro i ys H' ⟨rfl, rfl⟩
        exact SqL.of e
      · rintro i ys H' x hx ⟨rfl, rfl⟩
        obtain ⟨d, h1, h2⟩ := RDs_at r hx
        walk_at "sts"
        refine ⟨KeepSt.set rfl, ?_⟩
        walk_at "sts"
        refine ⟨z, y, x, d, rfl, h2, hs, ht, rfl, ?_⟩
        rw [List.take_add_one, h1]
        simp
      · rintro ys H' ⟨rfl, rfl⟩ D hD
        rw [hl, List.take_length]
        walk_at "sts"
        refine ⟨D, _, rfl, upd_same, ?_⟩
        walk_at "sts"
        have e2 : stackD z y (.list ds) = ((ds.map (matchD z y)).all id) := by
          show (!ds.isEmpty && ds.all (matchD z y)) = _
          rw [List.all_map]
          cases ds with
          | nil => exact absurd rfl h0'
          | cons _ _ => rfl
        rw [e2] at q
        exact q _ ((Same.refl _).upd hD)
  | false =>
    refine r_isi (rd_ty hd) (by rw [kit_lst, hL]) ?_
    walk_at "sts"
    have : stackD z y d = false := by unfold stackD; split <;> first | rfl | cases hL
    rw [this] at q
    exact q _ (Same.refl _)
noncomputable def prI : PyData → Int × Int
  | .tuple [.int i, .int j] => (i, j)
  | _ => (0, 0)
noncomputable def itD : PyData → List PyData
  | .list ds => ds
  | _ => []
noncomputable def fl (hs : List PyData) : List (Int × Int) := (hs.map fun h => (itD h).map prI).flatten
noncomputable def keyP (p : Int × Int) : List Key := [Sum.inl p.1, Sum.inl p.2]
theorem keyP_inj {p q : Int × Int} (h : keyP p = keyP q) : p = q := by
  unfold keyP at h
  injection h with h1 h2
  injection h2 with h2 _
  exact Prod.ext (Sum.inl.inj h1) (Sum.inl.inj h2)
theorem fl_take {hs : List PyData} {i : Nat} {h : PyData} (e : hs[i]? = some h) : fl (hs.take (i + 1)) = fl (hs.take i) ++ (itD h).map prI := by
  unfold fl
  rw [List.take_add_one, e, List.map_append, List.flatten_append]
  simp
theorem fl_split {hs : List PyData} {i : Nat} {h : PyData} (e : hs[i]? = some h) : fl hs = fl (hs.take i) ++ (itD h).map prI ++ fl (hs.drop (i + 1)) := by
  have hi := (List.getElem?_eq_some_iff.mp e).1
  rw [← fl_take e]
  unfold fl
  rw [← List.flatten_append, ← List.map_append, List.take_append_drop]
noncomputable def HPs (hs : List PyData) : Prop := (fl hs).length ≤ 5000 ∧ ∀ h ∈ hs, ∃ ds, h = .list ds ∧ ∀ d ∈ ds, ∃ i j, d = .tuple [.int i, .int j]
noncomputable def onceD (z y : Str) (hs : List PyData) : Bool := decide (fl hs).Nodup && decide ((fl hs).length = (prs z.cps.toList y.cps.toList z.length).length)
noncomputable def spOnce (K : PySem.W.Frag) (mg : Str → Option Value) : Sp := fun vs H Q _ => ∃ (z y : Str) (a : Addr) (us : List V) (hs : List PyData), vs = [.str z, .str y, .ref a] ∧ H a = some (.lst us) ∧ RDs H hs us ∧ HPs hs ∧ RowB z ∧ RowB y ∧ ∀ H', Same H H' → Q (.bl (onceD z y hs)) H'
theorem dup_not {α : Type} {l r : List α} {a : α} (h : a ∈ l) : ¬ (l ++ a :: r).Nodup := fun n => by
  rw [List.nodup_append] at n
  exact n.2.2 a h a List.mem_cons_self rfl
theorem sc_holds_all_once : FnScope ["side", "top", "heaps", "seen", "heap", "pair"] ["side", "top", "heaps"] (defScope s_holds_all_once) := ⟨rfl, rfl, rfl, by decide +kernel, rfl, by decide +kernel, by decide +kernel⟩
theorem h_holds_all_once (T : Txt K mg) : Has P w K mg base 6 "holds_all_once" ["side", "top", "heaps"] (spOnce K mg) := by
  have h_pairs_of := h_pairs_of (P := P) (w := w) (base := base) T
  refine hasJ T.d_holds_all_once sc_holds_all_once (fun _ _ _ _ _ _ us hl => L2.usN3 (fun _ _ _ => rfl) us hl) ?_ fun f cdv A outer s H vs Q E hr h => ?_
  · rintro vs H Q E ⟨z, y, a, us, hs, rfl, _⟩; rfl
  obtain ⟨z, y, a, us, hs, rfl, ha, hr0, hP, hz, hy, q⟩ := h
  have hu := hr.units0
  have hu64 := hr.units
  refine ⟨_, (jb_cons (js_set (i := 3) sc_holds_all_once.nd rfl (Or.inl k_holds_all_once_seen) j_dnewT rfl) (jb_cons (js_for PassesOwn.never rfl (ji_seq (K := K) rfl (j_vL 2 k_holds_all_once_heaps)) (jg_name (i := 4) sc_holds_all_once.nd rfl (Or.inl k_holds_all_once_heap) rfl) (jb_one (js_for PassesOwn.never rfl (ji_seq (K := K) rfl (j_vL 4 k_holds_all_once_heap)) (jg_name (i := 5) sc_holds_all_once.nd rfl (Or.inl k_holds_all_once_pair) rfl) (jb_cons (js_if (jt_cmp (op_inD (K := K) rfl hu64) (j_vL 5 k_holds_all_once_pair) (j_vL 3 k_holds_all_once_seen) (by first | exact nomark _ | with_unfolding_all rfl)) (jb_one (js_ret j_bl)) jb_nil) (jb_one (js_asgS (ts := rSetA) j_bl (jg_sub (j_vL 3 k_holds_all_once_seen) (j_vL 5 k_holds_all_once_pair) (set_any hu64)))))))) (jb_one (js_ret (j_cmp (op_eqX (K := K) rfl hu64) (j_callB call_lenT (glF k_holds_all_once_len) T.b_len bt_len (ja_cons (j_vL 3 k_holds_all_once_seen) ja_nil) (by decide +kernel) (by decide +kernel)) (j_callB (call_lenK (K := K) rfl) (glF k_holds_all_once_len) T.b_len bt_len (ja_cons (j_callX h_pairs_of (hr.mono (by decide)) (glF k_holds_all_once_pairs_of) (passN fun _ _ => rfl) (ja_cons (j_vL 0 k_holds_all_once_side) (ja_cons (j_vL 1 k_holds_all_once_top) ja_nil)) (by decide +kernel)) ja_nil) (by decide +kernel) (by decide +kernel)) (by first | exact nomark _ | with_unfolding_all rfl)))))), ?_⟩
  walk_at "sts"
  intro sd nsd
  walk_at "sts"
  refine .inl ⟨a, rfl, ⟨_, SqL.of (upd_old nsd ha)⟩, ?_⟩
  have hl := RDs_len hr0
  have hs5 : 20000 < sizeLine := by decide
  have hP1 := hP.1
  refine for_list (xs := us) (fun i σ H' => Same H H' ∧ (fl (hs.take i)).Nodup ∧ (∃ kvs, H' sd = some (.dT kvs) ∧ kvs.map (·.1) = (fl (hs.take i)).map keyP) ∧ ∃ x4 x5, σ = [some (.str z), some (.str y), some (.ref a), some (.ref sd), x4, x5])
    ⟨(Same.refl H).upd nsd, by simp [fl], ⟨[], upd_same, by simp [fl]⟩, none, none, rfl⟩ (fun i σ H' _ h => SqL.of (h.1 _ _ ha)) ?_ ?_
  · rintro i x σ H1 hi ⟨S1, nd1, ⟨kvs, hk, hkl⟩, x4, x5, rfl⟩
    obtain ⟨dh, g1, g2⟩ := RDs_at hr0 hi
    obtain ⟨ds, rfl, hdp⟩ := hP.2 dh (List.mem_of_getElem? g1)
    obtain ⟨c, ws, rfl, hc, hw⟩ := RD_list.mp g2
    have hwl := RDs_len hw
    have spl := fl_split g1
    have spl2 : fl hs = fl (hs.take i) ++ ds.map prI ++ fl (hs.drop (i + 1)) := spl
    have fls : (fl (hs.take i)).length + ds.length ≤ 5000 := by
      have := congrArg List.length spl2
      simp at this
      omega
    rw [fl_take g1]
    show _
    walk_at "sts"
    refine .inl ⟨c, rfl, ⟨_, SqL.of (S1 _ _ hc)⟩, ?_⟩
    refine for_list (xs := ws) (fun j σ H' => Same H H' ∧ (fl (hs.take i) ++ (ds.take j).map prI).Nodup ∧ (∃ kvs, H' sd = some (.dT kvs) ∧ kvs.map (·.1) = (fl (hs.take i) ++ (ds.take j).map prI).map keyP) ∧ ∃ x5, σ = [some (.str z), some (.str y), some (.ref a), some (.ref sd), some (.ref c), x5])
      ⟨S1, by simpa using nd1, ⟨kvs, hk, by simpa using hkl⟩, _, rfl⟩ (fun i σ H' _ h => SqL.of (h.1 _ _ hc)) ?_ ?_
    · rintro j x σ H2 hj ⟨S2, nd2, ⟨kvs2, hk2, hkl2⟩, x5, rfl⟩
      have hj' : j < ws.length := (List.getElem?_eq_some_iff.mp hj).1
      obtain ⟨dp, g3, g4⟩ := RDs_at (RDs.same S2 _ _ hw) hj
      obtain ⟨p1, p2, rfl⟩ := hdp dp (List.mem_of_getElem? g3)
      obtain ⟨b, rfl, hb⟩ := RD_pair.mp g4
      have hb' : H2 b = some (.tup ((keyP (p1, p2)).map kV)) := hb
      have lk : kvs2.length ≤ 5000 := by
        have := congrArg List.length hkl2
        simp at this
        omega
      have tk : (ds.take (j + 1)).map prI = (ds.take j).map prI ++ [(p1, p2)] := by
        rw [List.take_add_one, g3, List.map_append]; rfl
      walk_at "sts"
      refine r_inT hk2 hb' ?_
      cases hg : valV kvs2 (keyP (p1, p2)) with
      | some v =>
        rw [Option.isSome_some]
        walk_at "sts"
        have hm := valV_in hg
        rw [hkl2] at hm
        obtain ⟨p', hp', ep⟩ := List.mem_map.mp hm
        have ep' := keyP_inj ep
        rw [ep'] at hp'
        have no : onceD z y hs = false := by
          unfold onceD
          have dr : ds.map prI = (ds.take j).map prI ++ (p1, p2) :: (ds.drop (j + 1)).map prI := by
            have : ds = ds.take j ++ .tuple [.int p1, .int p2] :: ds.drop (j + 1) := by
              have hjd := (List.getElem?_eq_some_iff.mp g3).1
              have e := (List.getElem?_eq_some_iff.mp g3).2
              rw [← e, List.getElem_cons_drop, List.take_append_drop]
            conv => lhs; rw [this]
            rw [List.map_append]; rfl
          have : ¬ (fl hs).Nodup := by
            rw [spl2, dr, ← List.append_assoc, List.append_assoc, List.cons_append]
            exact dup_not hp'
          rw [decide_eq_false this, Bool.false_and]
        rw [no] at q
        exact q _ S2
      | none =>
        rw [Option.isSome_none]
        walk_at "sts"
        refine r_setT hk2 hb' (by omega) ?_
        rw [putK_new _ hg]
        have S3 : Same H (upd H2 sd (.dT (kvs2 ++ [(keyP (p1, p2), .bl true)]))) := over S2 nsd
        refine ⟨S3, ?_, ⟨_, upd_same, ?_⟩, _, rfl⟩
        · rw [tk, ← List.append_assoc, List.nodup_append]
          refine ⟨nd2, by simp, fun a1 h1 b1 h2 e => ?_⟩
          rw [List.mem_singleton.mp h2] at e
          subst e
          refine valV_not hg ?_
          rw [hkl2]
          exact List.mem_map.mpr ⟨_, h1, rfl⟩
        · rw [tk, List.map_append, hkl2]; simp [List.map_append]
    · rintro σ H2 ⟨S2, nd2, ⟨kvs2, hk2, hkl2⟩, x5, rfl⟩
      rw [hwl, List.take_length] at nd2 hkl2
      exact ⟨S2, nd2, ⟨kvs2, hk2, hkl2⟩, _, _, rfl⟩
  · rintro σ H1 ⟨S1, nd1, ⟨kvs, hk, hkl⟩, x4, x5, rfl⟩
    rw [hl, List.take_length] at nd1 hkl
    have lk : kvs.length = (fl hs).length := by
      have := congrArg List.length hkl
      simpa using this
    walk_at "sts"
    refine r_lenDT hk ?_
    walk_at "sts"
    refine spX.good hz hy fun q1 H3 nq1 S3 PL3 => ?_
    obtain ⟨vs, hv, hvl, hvd⟩ := PL3.len
    walk_at "sts"
    refine r_lenL (SqL.of hv) ?_
    walk_at "sts"
    have e : decide (V.int (kvs.length : Int) = V.int (vs.length : Int)) = onceD z y hs := by
      unfold onceD
      rw [decide_eq_true nd1, Bool.true_and, lk, hvl]
      refine decide_eq_decide.mpr ⟨fun h => by injection h with h; omega, fun h => by rw [h]⟩
    rw [e]
    exact q _ (S1.trans S3)
noncomputable def meetD (d e : PyData) : Bool := aheadD d e || aheadD e d
noncomputable def oneAD (ds : List PyData) : Bool := (List.range ds.length).any fun i => (ds.take i).any fun e => meetD e (ds.getD i .none)
noncomputable def spOneA : Sp := fun vs H Q _ => ∃ (a : Addr) (us : List V) (ds : List PyData), vs = [.ref a] ∧ H a = some (.lst us) ∧ RDs H ds us ∧ ds.length ≤ 5000 ∧ (∀ d ∈ ds, ∃ i j, d = .tuple [.int i, .int j]) ∧ ∀ H', Same H H' → Q (.bl (oneAD ds)) H'
theorem cutV_to {xs : List V} {k : Nat} : cutV xs none (some (k : Int)) = xs.take k := by
  unfold cutV
  rw [HT.sIx_none, HT.sIx_nat, List.drop_zero, Nat.sub_zero]
  by_cases h : k ≤ xs.length
  · rw [Nat.min_eq_left h]
  · rw [Nat.min_eq_right (by omega), List.take_length, List.take_of_length_le (by omega)]
theorem sc_has_one_ahead : FnScope ["heap", "place", "pair", "earlier"] ["heap"] (defScope s_has_one_ahead) := ⟨rfl, rfl, rfl, by decide +kernel, rfl, by decide +kernel, by decide +kernel⟩
theorem h_has_one_ahead (T : Txt K mg) : Has P w K mg base 2 "has_one_ahead" ["heap"] spOneA := by
  have h_is_ahead := h_is_ahead (P := P) (w := w) (base := base) T
  refine hasJ T.d_has_one_ahead sc_has_one_ahead (fun _ _ _ _ _ _ us hl => L2.usN1 (fun _ => rfl) us hl) ?_ fun f cdv A outer s H vs Q E hr h => ?_
  · rintro vs H Q E ⟨a, us, ds, rfl, _⟩; rfl
  obtain ⟨a, us, ds, rfl, ha, hr0, hdl, hdp, q⟩ := h
  have hu := hr.units0
  have hu64 := hr.units
  refine ⟨_, (jb_cons (js_for PassesOwn.never rfl (ji_enum (K := K) rfl rfl (glF k_has_one_ahead_enumerate) T.b_enumerate (ja_cons (j_vL 0 k_has_one_ahead_heap) ja_nil)) (jg_tup (K := K) rfl rfl (jgs_cons (jg_name (i := 1) sc_has_one_ahead.nd rfl (Or.inl k_has_one_ahead_place) rfl) (jgs_cons (jg_name (i := 2) sc_has_one_ahead.nd rfl (Or.inl k_has_one_ahead_pair) rfl) jgs_nil))) (jb_one (js_for PassesOwn.never rfl (ji_seq (K := K) rfl (j_slice (sl_seqK (K := K) rfl) (j_vL 0 k_has_one_ahead_heap) jo_none (jo_some (j_vL 1 k_has_one_ahead_place)))) (jg_name (i := 3) sc_has_one_ahead.nd rfl (Or.inl k_has_one_ahead_earlier) rfl) (jb_one (js_if (jw_pt (jw_or (jt_val (j_call h_is_ahead (hr.mono (by decide)) (glF k_has_one_ahead_is_ahead) (ja_cons (j_vL 3 k_has_one_ahead_earlier) (ja_cons (j_vL 2 k_has_one_ahead_pair) ja_nil)) (by decide +kernel))) (jw_or1 (jt_val (j_call h_is_ahead (hr.mono (by decide)) (glF k_has_one_ahead_is_ahead) (ja_cons (j_vL 2 k_has_one_ahead_pair) (ja_cons (j_vL 3 k_has_one_ahead_earlier) ja_nil)) (by decide +kernel)))))) (jb_one (js_ret j_bl)) jb_nil))))) (jb_one (js_ret j_bl))), ?_⟩
  walk_at "sts"
  have hl := RDs_len hr0
  have pr : ∀ {k : Nat} {x : V} {H' : Hp}, Same H H' → us[k]? = some x → ∃ (b : Addr) (i j : Int), x = .ref b ∧ H' b = some (.tup [.int i, .int j]) ∧ ds[k]? = some (.tuple [.int i, .int j]) := fun S e => by
    obtain ⟨d, g1, g2⟩ := RDs_at hr0 e
    obtain ⟨i, j, rfl⟩ := hdp d (List.mem_of_getElem? g1)
    obtain ⟨b, rfl, hb⟩ := RD_pair.mp g2
    exact ⟨b, i, j, rfl, S _ _ hb, g1⟩
  refine .inr ⟨a, _, rfl, SqL.of ha, ?_⟩
  refine for_enumL (xs := us) (fun i σ H' => Same H H' ∧ ((List.range i).any fun i => (ds.take i).any fun e => meetD e (ds.getD i .none)) = false ∧ ∃ x1 x2 x3, σ = [some (.ref a), x1, x2, x3]) ⟨Same.refl _, rfl, none, none, none, rfl⟩ (fun i σ H' _ h => SqL.of (h.1 _ _ ha)) ?_ ?_
  · rintro i σ H1 T0 x hx ⟨S1, no1, x1, x2, x3, rfl⟩ nT
    have hi : i < us.length := (List.getElem?_eq_some_iff.mp hx).1
    obtain ⟨b, bi, bj, rfl, hb, eb⟩ := pr S1 hx
    have gb : ds.getD i .none = .tuple [.int bi, .int bj] := by rw [List.getD_eq_getElem?_getD, eb]; rfl
    refine r_gtup (SqT.of upd_same) rfl ?_
    have S2 := S1.upd nT (o := .tup [.int i, .ref b])
    have hb2 := upd_old nT hb (o := .tup [.int i, .ref b])
    generalize upd H1 T0 (.tup [.int i, .ref b]) = H2 at S2 hb2 ⊢
    walk_at "sts"
    refine r_slL (SqL.of (S2 _ _ ha)) fun m nm => ?_
    rw [cutV_to]
    refine .inl ⟨m, rfl, ⟨_, SqL.of upd_same⟩, ?_⟩
    refine for_list (xs := us.take i) (fun j σ H' => H' = upd H2 m (.lst (us.take i)) ∧ ((ds.take j).any fun e => meetD e (ds.getD i .none)) = false ∧ ∃ x3, σ = [some (.ref a), some (.int i), some (.ref b), x3])
      ⟨rfl, rfl, _, rfl⟩ (fun i σ H' _ h => by rw [h.1]; exact SqL.of upd_same) ?_ ?_
    · rintro j x σ H3 hj ⟨rfl, no2, x3, rfl⟩
      have hj' : j < i := by
        have := (List.getElem?_eq_some_iff.mp hj).1
        simp at this; omega
      rw [List.getElem?_take_of_lt hj'] at hj
      have S3 := S2.upd nm (o := .lst (us.take i))
      obtain ⟨c, ci, cj, rfl, hc, ec⟩ := pr S3 hj
      have hb3 := upd_old nm hb2 (o := .lst (us.take i))
      have stop : meetD (.tuple [.int ci, .int cj]) (.tuple [.int bi, .int bj]) = true → oneAD ds = true := fun h => by
        unfold oneAD
        rw [List.any_eq_true]
        refine ⟨i, List.mem_range.mpr (by omega), ?_⟩
        rw [List.any_eq_true]
        refine ⟨_, List.mem_of_getElem? (i := j) (by rw [List.getElem?_take_of_lt hj']; exact ec), ?_⟩
        rw [gb]; exact h
      walk_at "sts"
      refine ⟨c, b, ci, cj, bi, bj, rfl, hc, hb3, ?_⟩
      cases hA : (decide (ci < bi) && decide (cj < bj)) with
      | true =>
        walk_at "sts"
        rw [stop (by show (_ || _) = true; rw [show aheadD (.tuple [.int ci, .int cj]) (.tuple [.int bi, .int bj]) = true from hA]; rfl)] at q
        exact q _ S3
      | false =>
        walk_at "sts"
        refine ⟨b, c, bi, bj, ci, cj, rfl, hb3, hc, ?_⟩
        cases hA2 : (decide (bi < ci) && decide (bj < cj)) with
        | true =>
          walk_at "sts"
          rw [stop (by show (_ || _) = true; rw [show aheadD (.tuple [.int bi, .int bj]) (.tuple [.int ci, .int cj]) = true from hA2, Bool.or_true])] at q
          exact q _ S3
        | false =>
          walk_at "sts"
          refine ⟨rfl, ?_, _, rfl⟩
          rw [List.take_add_one, ec, List.any_append, no2, gb]
          show (false || (meetD (.tuple [.int ci, .int cj]) (.tuple [.int bi, .int bj]) || false)) = false
          have : meetD (.tuple [.int ci, .int cj]) (.tuple [.int bi, .int bj]) = false := by
            show (_ || _) = false
            rw [show aheadD (.tuple [.int ci, .int cj]) (.tuple [.int bi, .int bj]) = false from hA, show aheadD (.tuple [.int bi, .int bj]) (.tuple [.int ci, .int cj]) = false from hA2]; rfl
          rw [this]; rfl
    · rintro σ H3 ⟨rfl, no2, x3, rfl⟩
      refine ⟨S2.upd nm, ?_, _, _, _, rfl⟩
      rw [List.length_take, Nat.min_eq_left (by omega)] at no2
      rw [List.range_succ, List.any_append, no1]
      show (false || ((ds.take i).any (fun e => meetD e (ds.getD i .none)) || false)) = false
      rw [no2]; rfl
  · rintro σ H1 ⟨S1, no1, x1, x2, x3, rfl⟩
    walk_at "sts"
    have : oneAD ds = false := by
      unfold oneAD
      rw [← hl]; exact no1
    rw [this] at q
    exact q _ S1
end

section
variable {P : Program} {w : World} {K : PySem.W.Frag} {mg : Str → Option Value} {base : Heap}
theorem nd_are_heaps_0 : (["heap"] : List Str).Nodup := by decide +kernel
theorem nd_are_heaps_1 : (["heap", "side", "top"] : List Str).Nodup := by decide +kernel
theorem k_are_heaps_any : (defScope s_are_heaps).names.lookup ("any" : Str) = some NameKind.globalImplicit := by decide +kernel
theorem k_are_heaps_thing : (defScope s_are_heaps).names.lookup ("thing" : Str) = some NameKind.local := by decide +kernel
theorem k_are_heaps_holds_all_once : (defScope s_are_heaps).names.lookup ("holds_all_once" : Str) = some NameKind.globalImplicit := by decide +kernel
theorem k_are_heaps_top : (defScope s_are_heaps).names.lookup ("top" : Str) = some NameKind.cell := by decide +kernel
theorem k_are_heaps_side : (defScope s_are_heaps).names.lookup ("side" : Str) = some NameKind.cell := by decide +kernel
theorem k_are_heaps_all : (defScope s_are_heaps).names.lookup ("all" : Str) = some NameKind.globalImplicit := by decide +kernel
theorem k_are_heaps_isinstance : (defScope s_are_heaps).names.lookup ("isinstance" : Str) = some NameKind.globalImplicit := by decide +kernel
theorem k_are_heaps_list : (defScope s_are_heaps).names.lookup ("list" : Str) = some NameKind.globalImplicit := by decide +kernel
theorem k_are_heaps_need_rows : (defScope s_are_heaps).names.lookup ("need_rows" : Str) = some NameKind.globalImplicit := by decide +kernel
theorem k_shows_len : (defScope s_shows).names.lookup ("len" : Str) = some NameKind.globalImplicit := by decide +kernel
theorem k_shows_thing : (defScope s_shows).names.lookup ("thing" : Str) = some NameKind.local := by decide +kernel
theorem k_shows_are_heaps : (defScope s_shows).names.lookup ("are_heaps" : Str) = some NameKind.globalImplicit := by decide +kernel
theorem k_shows_top : (defScope s_shows).names.lookup ("top" : Str) = some NameKind.local := by decide +kernel
theorem k_shows_side : (defScope s_shows).names.lookup ("side" : Str) = some NameKind.local := by decide +kernel
theorem k_shows_is_thread : (defScope s_shows).names.lookup ("is_thread" : Str) = some NameKind.globalImplicit := by decide +kernel
theorem k_shows_isinstance : (defScope s_shows).names.lookup ("isinstance" : Str) = some NameKind.globalImplicit := by decide +kernel
theorem k_shows_tuple : (defScope s_shows).names.lookup ("tuple" : Str) = some NameKind.globalImplicit := by decide +kernel
theorem k_shows_need_rows : (defScope s_shows).names.lookup ("need_rows" : Str) = some NameKind.globalImplicit := by decide +kernel
theorem k_longest_lengths : (defScope s_longest).names.lookup ("lengths" : Str) = some NameKind.globalImplicit := by decide +kernel
theorem k_longest_top : (defScope s_longest).names.lookup ("top" : Str) = some NameKind.local := by decide +kernel
theorem k_longest_side : (defScope s_longest).names.lookup ("side" : Str) = some NameKind.local := by decide +kernel
noncomputable def HBd (d : PyData) : Prop := ∀ ds, d = .list ds → ds.length ≤ 5000 ∧ (fl ds).length ≤ 5000 ∧ ∀ h ∈ ds, ∀ es, h = .list es → es.length ≤ 5000
noncomputable def heapsD (z y : Str) : PyData → Bool
  | .list hs => hs.all (stackD z y) && (onceD z y hs && !hs.any fun h => oneAD (itD h))
  | _ => false
noncomputable def gAreH : Str → Str → V → Hp → VK → Prop := fun side top t H Q => ∃ d, RD H d t ∧ HBd d ∧ ∀ H', Same H H' → Q (.bl (heapsD side top d)) H'
theorem sc_are_heaps : FnScope ["side", "top", "thing"] ["side", "top", "thing"] (defScope s_are_heaps) := ⟨rfl, rfl, rfl, by decide +kernel, rfl, by decide +kernel, by decide +kernel⟩
theorem h_are_heaps (T : Txt K mg) : HasX P w K mg base 7 "are_heaps" ["side", "top", "thing"] (spX3 K mg gAreH) := by
  have h_need_rows := h_need_rows (P := P) (w := w) (base := base) T
  have h_is_stack := h_is_stack (P := P) (w := w) (base := base) T
  have h_holds_all_once := h_holds_all_once (P := P) (w := w) (base := base) T
  have h_has_one_ahead := h_has_one_ahead (P := P) (w := w) (base := base) T
  refine hasJX T.d_are_heaps sc_are_heaps (fun _ _ _ _ _ _ us hl => L2.usN3 (fun _ _ _ => rfl) us hl) ?_ fun f cdv A outer s H vs Q E hr h => ?_
  · rintro vs H Q E ⟨v, u, t, rfl, _⟩; rfl
  obtain ⟨v, u, t, rfl, hv, hu', qx, q⟩ := h
  have hu := hr.units0
  have hu64 := hr.units
  refine ⟨_, (jb_cons (js_expr (j_callX h_need_rows (hr.mono (by decide)) (glF k_are_heaps_need_rows) pass_def (ja_cons (j_vC 0 k_are_heaps_side) (ja_cons (j_vC 1 k_are_heaps_top) ja_nil)) (by decide +kernel))) (jb_cons (js_if (jw_pt (jw_or (jt_not (jt_val (j_callB (call_isiK (K := K) rfl) (glF k_are_heaps_isinstance) T.b_isinstance bt_isinstance (ja_cons (j_vL 2 k_are_heaps_thing) (ja_cons (j_ty (glF k_are_heaps_list) T.b_list bt_list (by decide +kernel) (by decide +kernel)) ja_nil)) (by decide +kernel) (by decide +kernel)))) (jw_or1 (jt_not (jt_val (j_callB (call_all rfl) (glF k_are_heaps_all) T.b_all bt_all (ja_cons (j_comp (sub := [none, some 0, some 1]) (subOk_of (N := ["side", "top", "thing"]) (sc := defScope s_are_heaps) (N' := ["heap", "side", "top"]) (by decide +kernel)) rfl rfl rfl (ji_seq (K := K) rfl (j_vL 2 k_are_heaps_thing)) (fun C s₀ H₀ ex => (jg_B 0 (by decide +kernel) nd_are_heaps_1)) (fun C s₀ H₀ ex => jif_nil) (fun C s₀ H₀ ex => (j_call h_is_stack (hr.mono (by decide)) (glB (by decide +kernel)) (ja_cons (j_vBF 1 (by decide +kernel)) (ja_cons (j_vBF 2 (by decide +kernel)) (ja_cons (j_vBL 0 (by decide +kernel)) ja_nil))) (by decide +kernel)))) ja_nil) (by decide +kernel) (by decide +kernel))))))) (jb_one (js_ret j_bl)) jb_nil) (jb_cons (js_if (jt_not (jt_val (j_call h_holds_all_once (hr.mono (by decide)) (glF k_are_heaps_holds_all_once) (ja_cons (j_vC 0 k_are_heaps_side) (ja_cons (j_vC 1 k_are_heaps_top) (ja_cons (j_vL 2 k_are_heaps_thing) ja_nil))) (by decide +kernel)))) (jb_one (js_ret j_bl)) jb_nil) (jb_one (js_ret (j_not (j_callB (call_any rfl) (glF k_are_heaps_any) T.b_any bt_any (ja_cons (j_comp (sub := [none]) (subOk_of (N := ["side", "top", "thing"]) (sc := defScope s_are_heaps) (N' := ["heap"]) (by decide +kernel)) rfl rfl rfl (ji_seq (K := K) rfl (j_vL 2 k_are_heaps_thing)) (fun C s₀ H₀ ex => (jg_B 0 (by decide +kernel) nd_are_heaps_0)) (fun C s₀ H₀ ex => jif_nil) (fun C s₀ H₀ ex => (j_call h_has_one_ahead (hr.mono (by decide)) (glB (by decide +kernel)) (ja_cons (j_vBL 0 (by decide +kernel)) ja_nil) (by decide +kernel)))) ja_nil) (by decide +kernel) (by decide +kernel)))))))), ?_⟩
  walk_at "sts"
  refine ⟨v, u, rfl, hv, hu', qx, fun side top e1 e2 hs ht H1 S1 => ?_⟩
  subst e1 e2
  obtain ⟨d, hd0, hbd, q2⟩ := q _ _ rfl rfl hs ht
  have hd := RD.same S1 _ _ hd0
  walk_at "sts"
  cases hL : isLstD d with
  | true =>
    obtain ⟨ds, rfl⟩ : ∃ ds, d = .list ds := by cases d <;> first | exact ⟨_, rfl⟩ | cases hL
    obtain ⟨a, us, rfl, e, r⟩ := RD_list.mp hd
    have hl := RDs_len r
    obtain ⟨h5, hfl, h6⟩ := hbd ds rfl
    have hz : us.length ≤ sizeLine := Nat.le_trans (show us.length ≤ 5000 by omega) (by decide)
    refine r_isi (.lst e) rfl ?_
    walk_at "sts"
    refine .inl ⟨a, rfl, ⟨_, SqL.of e⟩, ?_⟩
    refine comp_list (xs := us) (fun i ys H' => Same H1 H' ∧ ys = ((ds.take i).map (stackD side top)).map V.bl) hz ⟨Same.refl _, rfl⟩ ?_ ?_ ?_ ?_
    · rintro i ys H' ⟨_, rfl⟩
      simp; omega
    · rintro i ys H' ⟨S2, rfl⟩
      exact SqL.of (S2 _ _ e)
    · rintro i ys H' x hx ⟨S2, rfl⟩
      obtain ⟨d, h1, h2⟩ := RDs_at (RDs.same S2 _ _ r) hx
      walk_at "sts"
      refine ⟨KeepSt.set rfl, ?_⟩
      walk_at "sts"
      refine ⟨side, top, x, d, rfl, h2, hs.1, ht.1, fun es ee => by have := h6 d (List.mem_of_getElem? h1) es ee; omega, fun H3 S3 => ⟨S2.trans S3, ?_⟩⟩
      rw [List.take_add_one, h1]
      simp
    · rintro ys H' ⟨S2, rfl⟩ D hD
      rw [hl, List.take_length]
      walk_at "sts"
      refine ⟨D, _, rfl, upd_same, ?_⟩
      walk_at "sts"
      have e2 : ((ds.map (stackD side top)).all id) = ds.all (stackD side top) := by rw [List.all_map]; rfl
      rw [e2]
      have S3 : Same H1 (upd H' D (.lst ((ds.map (stackD side top)).map V.bl))) := S2.upd hD
      generalize upd H' D (.lst ((ds.map (stackD side top)).map V.bl)) = H3 at S3 ⊢
      replace q2 : ∀ H', Same H H' → Q (.bl (ds.all (stackD side top) && (onceD side top ds && !ds.any fun h => oneAD (itD h)))) H' := q2
      cases hm : ds.all (stackD side top) with
      | false =>
        walk_at "sts"
        rw [hm, Bool.false_and] at q2
        exact q2 _ (S1.trans S3)
      | true =>
        rw [hm, Bool.true_and] at q2
        have hp : HPs ds := ⟨hfl, fun h hh => by
          have sd := List.all_eq_true.mp hm h hh
          cases h with
          | list es =>
            refine ⟨es, rfl, fun x hx => ?_⟩
            have : (!es.isEmpty && es.all (matchD side top)) = true := sd
            rw [Bool.and_eq_true] at this
            exact match_pair (List.all_eq_true.mp this.2 x hx)
          | _ => cases sd⟩
        walk_at "sts"
        refine ⟨side, top, a, us, ds, rfl, S3 _ _ e, RDs.same S3 _ _ r, hp, hs, ht, fun H4 S4 => ?_⟩
        have S14 := S3.trans S4
        cases hO : onceD side top ds with
        | false =>
          walk_at "sts"
          rw [hO, Bool.false_and] at q2
          exact q2 _ (S1.trans S14)
        | true =>
          rw [hO, Bool.true_and] at q2
          walk_at "sts"
          refine .inl ⟨a, rfl, ⟨_, SqL.of (S14 _ _ e)⟩, ?_⟩
          refine comp_list (xs := us) (fun i ys H' => Same H1 H' ∧ ys = ((ds.take i).map fun h => oneAD (itD h)).map V.bl) hz ⟨S14, rfl⟩ ?_ ?_ ?_ ?_
          · rintro i ys H' ⟨_, rfl⟩
            simp; omega
          · rintro i ys H' ⟨S5, _⟩
            exact SqL.of (S5 _ _ e)
          · rintro i ys H' x hx ⟨S5, rfl⟩
            obtain ⟨d, g1, g2⟩ := RDs_at (RDs.same S5 _ _ r) hx
            obtain ⟨es, rfl, gp⟩ := hp.2 d (List.mem_of_getElem? g1)
            obtain ⟨c, ws, rfl, hc, hw⟩ := RD_list.mp g2
            have h7 := h6 _ (List.mem_of_getElem? g1) es rfl
            walk_at "sts"
            refine ⟨KeepSt.set rfl, ?_⟩
            walk_at "sts"
            refine ⟨c, ws, es, rfl, hc, hw, by omega, gp, fun H6 S6 => ⟨S5.trans S6, ?_⟩⟩
            rw [List.take_add_one, g1]
            simp [itD]
          · rintro ys H' ⟨S5, rfl⟩ D2 hD2
            rw [hl, List.take_length]
            walk_at "sts"
            refine ⟨D2, _, rfl, upd_same, ?_⟩
            walk_at "sts"
            have e3 : ((ds.map fun h => oneAD (itD h)).any id) = ds.any fun h => oneAD (itD h) := by rw [List.any_map]; rfl
            rw [e3]
            exact q2 _ (S1.trans (S5.upd hD2))
  | false =>
    refine r_isi (rd_ty hd) (by rw [kit_lst, hL]) ?_
    walk_at "sts"
    have : heapsD side top d = false := by unfold heapsD; split <;> first | rfl | cases hL
    rw [this] at q2
    exact q2 _ S1
theorem heapsD_list {z y : Str} {d : PyData} (h : heapsD z y d = true) : ∃ ds, d = .list ds := by
  cases d <;> first | exact ⟨_, rfl⟩ | cases h
theorem threadD_list {z y : Str} {d : PyData} (h : threadD z y d = true) : ∃ ds, d = .list ds := by
  cases d <;> first | exact ⟨_, rfl⟩ | cases h
noncomputable def showsD (z y : Str) : PyData → Bool
  | .tuple [d1, d2] => threadD z y d1 && (heapsD z y d2 && decide ((itD d1).length = (itD d2).length))
  | _ => false
theorem showsD_len {z y : Str} {ds : List PyData} (h : ds.length ≠ 2) : showsD z y (.tuple ds) = false := by
  match ds, h with
  | [], _ => rfl
  | [_], _ => rfl
  | [_, _], h => exact absurd rfl h
  | _ :: _ :: _ :: _, _ => rfl
noncomputable def gShows : Str → Str → V → Hp → VK → Prop := fun side top t H Q => ∃ d, RD H d t ∧ (∀ x y, d = .tuple [x, y] → (∀ ds, x = .list ds → ds.length ≤ 5000) ∧ HBd y) ∧ ∀ H', Same H H' → Q (.bl (showsD side top d)) H'
theorem sc_shows : FnScope ["side", "top", "thing"] ["side", "top", "thing"] (defScope s_shows) := ⟨rfl, rfl, rfl, by decide +kernel, rfl, by decide +kernel, by decide +kernel⟩
theorem h_shows (T : Txt K mg) : HasX P w K mg base 8 "shows" ["side", "top", "thing"] (spX3 K mg gShows) := by
  have h_need_rows := h_need_rows (P := P) (w := w) (base := base) T
  have h_is_thread := h_is_thread (P := P) (w := w) (base := base) T
  have h_are_heaps := h_are_heaps (P := P) (w := w) (base := base) T
  refine hasJX T.d_shows sc_shows (fun _ _ _ _ _ _ us hl => L2.usN3 (fun _ _ _ => rfl) us hl) ?_ fun f cdv A outer s H vs Q E hr h => ?_
  · rintro vs H Q E ⟨v, u, t, rfl, _⟩; rfl
  obtain ⟨v, u, t, rfl, hv, hu', qx, q⟩ := h
  have hu := hr.units0
  have hu64 := hr.units
  refine ⟨_, (jb_cons (js_expr (j_callX h_need_rows (hr.mono (by decide)) (glF k_shows_need_rows) pass_def (ja_cons (j_vL 0 k_shows_side) (ja_cons (j_vL 1 k_shows_top) ja_nil)) (by decide +kernel))) (jb_cons (js_if (jw_pt (jw_or (jt_not (jt_val (j_callB (call_isiK (K := K) rfl) (glF k_shows_isinstance) T.b_isinstance bt_isinstance (ja_cons (j_vL 2 k_shows_thing) (ja_cons (j_ty (glF k_shows_tuple) T.b_tuple bt_tuple (by decide +kernel) (by decide +kernel)) ja_nil)) (by decide +kernel) (by decide +kernel)))) (jw_or1 (jt_cmp (op_neX (K := K) rfl hu64) (j_callB (call_lenK (K := K) rfl) (glF k_shows_len) T.b_len bt_len (ja_cons (j_vL 2 k_shows_thing) ja_nil) (by decide +kernel) (by decide +kernel)) j_int (by first | exact nomark _ | with_unfolding_all rfl))))) (jb_one (js_ret j_bl)) jb_nil) (jb_cons (js_if (jw_pt (jw_or (jt_not (jt_val (j_callX h_is_thread (hr.mono (by decide)) (glF k_shows_is_thread) pass_def (ja_cons (j_vL 0 k_shows_side) (ja_cons (j_vL 1 k_shows_top) (ja_cons (j_ix (K := K) rfl (j_vL 2 k_shows_thing) j_int) ja_nil))) (by decide +kernel)))) (jw_or1 (jt_not (jt_val (j_callX h_are_heaps (hr.mono (by decide)) (glF k_shows_are_heaps) pass_def (ja_cons (j_vL 0 k_shows_side) (ja_cons (j_vL 1 k_shows_top) (ja_cons (j_ix (K := K) rfl (j_vL 2 k_shows_thing) j_int) ja_nil))) (by decide +kernel))))))) (jb_one (js_ret j_bl)) jb_nil) (jb_one (js_ret (j_cmp (op_eqX (K := K) rfl hu64) (j_callB (call_lenK (K := K) rfl) (glF k_shows_len) T.b_len bt_len (ja_cons (j_ix (K := K) rfl (j_vL 2 k_shows_thing) j_int) ja_nil) (by decide +kernel) (by decide +kernel)) (j_callB (call_lenK (K := K) rfl) (glF k_shows_len) T.b_len bt_len (ja_cons (j_ix (K := K) rfl (j_vL 2 k_shows_thing) j_int) ja_nil) (by decide +kernel) (by decide +kernel)) (by first | exact nomark _ | with_unfolding_all rfl))))))), ?_⟩
  walk_at "sts"
  refine ⟨v, u, rfl, hv, hu', qx, fun side top e1 e2 hs ht H1 S1 => ?_⟩
  subst e1 e2
  obtain ⟨d, hd0, hbd, q2⟩ := q _ _ rfl rfl hs ht
  have hd := RD.same S1 _ _ hd0
  walk_at "sts"
  cases hL : isTupD d with
  | true =>
    obtain ⟨ds, rfl⟩ : ∃ ds, d = .tuple ds := by cases d <;> first | exact ⟨_, rfl⟩ | cases hL
    obtain ⟨a, us, rfl, e, r⟩ := RD_tuple.mp hd
    have hl := RDs_len r
    refine r_isi (.tup e) rfl ?_
    walk_at "sts"
    refine r_lenT (SqT.of e) ?_
    walk_at "sts"
    by_cases h2 : ds.length = 2
    · rw [decide_eq_true (show V.int (us.length : Int) = V.int 2 by rw [hl, h2]; rfl)]
      match ds, h2, r, hbd, q2 with
      | [d1, d2], _, r, hbd, q2 =>
        obtain ⟨v1, v2, rfl, r1, r2⟩ := RDs_two r
        obtain ⟨b1, b2⟩ := hbd d1 d2 rfl
        replace q2 : ∀ H', Same H H' → Q (.bl (threadD side top d1 && (heapsD side top d2 && decide ((itD d1).length = (itD d2).length)))) H' := q2
        walk_at "sts"
        refine spX3.good hs ht ⟨d1, r1, b1, fun H2 S2 => ?_⟩
        cases h1 : threadD side top d1 with
        | false =>
          walk_at "sts"
          rw [h1, Bool.false_and] at q2
          exact q2 _ (S1.trans S2)
        | true =>
          rw [h1, Bool.true_and] at q2
          have e2 := S2 _ _ e
          walk_at "sts"
          refine spX3.good hs ht ⟨d2, RD.same S2 _ _ r2, b2, fun H3 S3 => ?_⟩
          cases hb : heapsD side top d2 with
          | false =>
            walk_at "sts"
            rw [hb, Bool.false_and] at q2
            exact q2 _ ((S1.trans S2).trans S3)
          | true =>
            rw [hb, Bool.true_and] at q2
            have e3 := S3 _ _ e2
            have S13 := S2.trans S3
            obtain ⟨ds1, rfl⟩ := threadD_list h1
            obtain ⟨ds2, rfl⟩ := heapsD_list hb
            obtain ⟨a1, w1, rfl, f1, g1⟩ := RD_list.mp (RD.same S13 _ _ r1)
            obtain ⟨a2, w2, rfl, f2, g2⟩ := RD_list.mp (RD.same S13 _ _ r2)
            have l1 := RDs_len g1
            have l2 := RDs_len g2
            walk_at "sts"
            refine r_lenL (SqL.of f1) ?_
            walk_at "sts"
            refine r_lenL (SqL.of f2) ?_
            walk_at "sts"
            have e9 : decide (V.int (w1.length : Int) = V.int (w2.length : Int)) = decide ((itD (.list ds1)).length = (itD (.list ds2)).length) := by
              refine decide_eq_decide.mpr ⟨fun h => ?_, fun h => ?_⟩
              · injection h with h
                show ds1.length = ds2.length
                omega
              · have h' : ds1.length = ds2.length := h
                rw [l1, l2, h']
            rw [e9]
            exact q2 _ (S1.trans S13)
    · rw [decide_eq_false (show ¬ V.int (us.length : Int) = V.int 2 by intro z; injection z with z; omega)]
      walk_at "sts"
      rw [showsD_len h2] at q2
      exact q2 _ S1
  | false =>
    refine r_isi (rd_ty hd) (by rw [kit_tup, hL]) ?_
    walk_at "sts"
    have : showsD side top d = false := by unfold showsD; split <;> first | rfl | cases hL
    rw [this] at q2
    exact q2 _ S1
noncomputable def gLong : Str → Str → Hp → VK → Prop := fun side top H Q => ∀ H', Same H H' → Q (.int (lt side.cps.toList top.cps.toList side.length top.length)) H'
theorem sc_longest : FnScope ["side", "top"] ["side", "top"] (defScope s_longest) := ⟨rfl, rfl, rfl, by decide +kernel, rfl, by decide +kernel, by decide +kernel⟩
theorem h_longest (T : Txt K mg) : HasX P w K mg base 6 "longest" ["side", "top"] (spX K mg gLong) := by
  have h_lengths := h_lengths (P := P) (w := w) (base := base) T
  refine hasJX T.d_longest sc_longest (fun _ _ _ _ _ _ us hl => L2.usN2 (fun _ _ => rfl) us hl) ?_ fun f cdv A outer s H vs Q E hr h => ?_
  · rintro vs H Q E ⟨v, u, rfl, _⟩; rfl
  obtain ⟨v, u, rfl, hv, hu', qx, q⟩ := h
  have hu := hr.units0
  have hu64 := hr.units
  refine ⟨_, (jb_one (js_ret (j_ix (K := K) rfl (j_ix (K := K) rfl (j_callX h_lengths (hr.mono (by decide)) (glF k_longest_lengths) pass_def (ja_cons (j_vL 0 k_longest_side) (ja_cons (j_vL 1 k_longest_top) ja_nil)) (by decide +kernel)) (j_un un_neg j_int)) (j_un un_neg j_int)))), ?_⟩
  walk_at "sts"
  refine ⟨v, u, rfl, hv, hu', qx, fun side top e1 e2 hs ht t rs H1 nt fr S1 TB => ?_⟩
  subst e1 e2
  have hrl : rs.length = side.length + 1 := by rw [TB.len]; simp [tabT]
  obtain ⟨r1, a1, er1, b1⟩ := tab_at TB (k := (side.length : Int)) (i := side.length) rfl (by omega)
  walk_at "sts"
  refine r_ixL (SqL.of TB.at_) (atI_m1 (n := side.length) (v := .ref r1) (by simp [hrl]) (by rw [List.getElem?_map, er1]; rfl)) ?_
  walk_at "sts"
  refine r_ixL (SqL.of b1) (atI_m1 (n := top.length) (v := .int (lt side.cps.toList top.cps.toList side.length top.length)) (by rw [List.length_map, rowT_len]) (by rw [List.getElem?_map, rowT_at (by omega)]; rfl)) ?_
  exact q _ _ rfl rfl hs ht _ S1
end

noncomputable def Ah (p q : PP) : Prop := p.1 < q.1 ∧ p.2 < q.2
noncomputable def Mt (S P : List Nat) (p : PP) : Prop := p.1 < S.length ∧ p.2 < P.length ∧ S[p.1]? = P[p.2]?
theorem chain_le {S P : List Nat} : ∀ (l : List PP) (m n : Nat), l.reverse.Pairwise Ah → (∀ p ∈ l, p.1 < m ∧ p.2 < n ∧ S[p.1]? = P[p.2]?) → (l.length : Int) ≤ lt S P m n
  | [], m, n, _, _ => lt_nn S P m n
  | q :: l, m, n, hc, hm => by
    rw [List.reverse_cons, List.pairwise_append] at hc
    obtain ⟨h1, _, h3⟩ := hc
    obtain ⟨q1, q2, q3⟩ := hm q List.mem_cons_self
    have ih := chain_le l q.1 q.2 h1 fun p hp => by
      have a := h3 p (List.mem_reverse.mpr hp) q (List.mem_singleton.mpr rfl)
      exact ⟨a.1, a.2, (hm p (List.mem_cons_of_mem _ hp)).2.2⟩
    have e := lt_eq q3
    have : lt S P (q.1 + 1) (q.2 + 1) ≤ lt S P m n := lt_le (by omega) (by omega)
    rw [List.length_cons]
    omega
theorem thread_le {S P : List Nat} {c : List PP} (hc : c.Pairwise Ah) (hm : ∀ p ∈ c, Mt S P p) : (c.length : Int) ≤ lt S P S.length P.length := by
  have := chain_le (S := S) (P := P) c.reverse S.length P.length (by rw [List.reverse_reverse]; exact hc) fun p hp => hm p (List.mem_reverse.mp hp)
  rwa [List.length_reverse] at this
theorem chain_ex {S P : List Nat} : ∀ (n i j : Nat), i + j ≤ n → i ≤ S.length → j ≤ P.length → ∃ c : List PP, c.Pairwise Ah ∧ (∀ p ∈ c, p.1 < i ∧ p.2 < j ∧ S[p.1]? = P[p.2]?) ∧ (c.length : Int) = lt S P i j
  | _, 0, j, _, _, _ => ⟨[], .nil, (fun p hp => by cases hp), by rw [lt_0]; rfl⟩
  | _, i + 1, 0, _, _, _ => ⟨[], .nil, (fun p hp => by cases hp), by rw [lt_z]; rfl⟩
  | 0, i + 1, j + 1, h, _, _ => by omega
  | n + 1, i + 1, j + 1, h, hi, hj => by
    by_cases e : S[i]? = P[j]?
    · obtain ⟨c, h1, h2, h3⟩ := chain_ex (S := S) (P := P) n i j (by omega) (by omega) (by omega)
      refine ⟨c ++ [(i, j)], ?_, fun p hp => ?_, ?_⟩
      · rw [List.pairwise_append]
        refine ⟨h1, by simp, fun a ha b hb => ?_⟩
        rw [List.mem_singleton.mp hb]
        exact ⟨(h2 a ha).1, (h2 a ha).2.1⟩
      · rcases List.mem_append.mp hp with hp | hp
        · obtain ⟨a, b, c⟩ := h2 p hp
          exact ⟨by omega, by omega, c⟩
        · rw [List.mem_singleton.mp hp]
          exact ⟨by show i < i + 1; omega, by show j < j + 1; omega, e⟩
      · rw [lt_eq e, List.length_append]
        simp [h3]
    · rw [lt_s, if_neg e]
      unfold mx
      split
      · obtain ⟨c, h1, h2, h3⟩ := chain_ex (S := S) (P := P) n (i + 1) j (by omega) (by omega) (by omega)
        exact ⟨c, h1, fun p hp => ⟨(h2 p hp).1, by have := (h2 p hp).2.1; omega, (h2 p hp).2.2⟩, h3⟩
      · obtain ⟨c, h1, h2, h3⟩ := chain_ex (S := S) (P := P) n i (j + 1) (by omega) (by omega) (by omega)
        exact ⟨c, h1, fun p hp => ⟨by have := (h2 p hp).1; omega, (h2 p hp).2⟩, h3⟩
theorem pigeon : ∀ (c : List PP) (hs : List (List PP)), c.Pairwise Ah → (∀ p ∈ c, ∃ h ∈ hs, p ∈ h) → (∀ h ∈ hs, ∀ p ∈ h, ∀ q ∈ h, ¬ Ah p q) → c.length ≤ hs.length
  | [], hs, _, _, _ => Nat.zero_le _
  | p :: c, hs, hc, hm, hn => by
    obtain ⟨h, hh, hp⟩ := hm p List.mem_cons_self
    obtain ⟨l, r, rfl⟩ := List.append_of_mem hh
    rw [List.pairwise_cons] at hc
    have ih := pigeon c (l ++ r) hc.2 (fun q hq => by
      obtain ⟨h', hh', hq'⟩ := hm q (List.mem_cons_of_mem _ hq)
      refine ⟨h', ?_, hq'⟩
      rcases List.mem_append.mp hh' with z | z
      · exact List.mem_append_left _ z
      · rcases List.mem_cons.mp z with z | z
        · subst z
          exact absurd (hc.1 q hq) (hn _ hh p hp q hq')
        · exact List.mem_append_right _ z) (fun h' hh' => hn h' (by
      rcases List.mem_append.mp hh' with z | z
      · exact List.mem_append_left _ z
      · exact List.mem_append_right _ (List.mem_cons_of_mem _ z)))
    rw [List.length_append] at ih
    rw [List.length_cons, List.length_append, List.length_cons]
    omega
theorem long_le {S P : List Nat} {hs : List (List PP)} (hall : ∀ p, Mt S P p → p ∈ hs.flatten) (hn : ∀ h ∈ hs, ∀ p ∈ h, ∀ q ∈ h, ¬ Ah p q) : lt S P S.length P.length ≤ (hs.length : Int) := by
  obtain ⟨c, h1, h2, h3⟩ := chain_ex (S := S) (P := P) _ S.length P.length (Nat.le_refl _) (Nat.le_refl _) (Nat.le_refl _)
  have := pigeon c hs h1 (fun p hp => by
    obtain ⟨h, hh, hp'⟩ := List.mem_flatten.mp (hall p (h2 p hp))
    exact ⟨h, hh, hp'⟩) hn
  omega
theorem mem_prs' {S P : List Nat} : ∀ {m : Nat} {p : PP}, p.1 < m → p.2 < P.length → S[p.1]? = P[p.2]? → p ∈ prs S P m
  | 0, p, h, _, _ => by omega
  | m + 1, p, h, h2, h3 => by
    rw [prs]
    by_cases e : p.1 < m
    · exact List.mem_append_left _ (mem_prs' e h2 h3)
    · refine List.mem_append_right _ ?_
      have e' : p.1 = m := by omega
      unfold rowP
      exact List.mem_map.mpr ⟨p.2, List.mem_filter.mpr ⟨List.mem_range.mpr h2, decide_eq_true (by rw [← e']; exact h3)⟩, by rw [← e']⟩
theorem prs_nd (S P : List Nat) : ∀ m, (prs S P m).Nodup
  | 0 => .nil
  | m + 1 => by
    rw [prs, List.nodup_append]
    refine ⟨prs_nd S P m, ?_, fun a ha b hb e => ?_⟩
    · unfold rowP
      refine List.Pairwise.map _ ?_ (List.Pairwise.filter _ List.nodup_range)
      intro a b hab e
      exact hab (Prod.mk.inj e).2
    · have := (mem_prs ha).1
      have := (mem_rowP hb).1
      subst e
      omega
theorem match_pD {z y : Str} {p : PP} (h : Mt z.cps.toList y.cps.toList p) : matchD z y (pD p) = true := by
  obtain ⟨h1, h2, h3⟩ := h
  show matchI z y (p.1 : Int) (p.2 : Int) = true
  unfold matchI
  have l1 : z.length = z.cps.toList.length := len_cps z
  have l2 : y.length = y.cps.toList.length := len_cps y
  rw [decide_eq_true (show (0 : Int) ≤ (p.1 : Int) by omega), decide_eq_true (show (p.1 : Int) < (z.length : Int) by omega), decide_eq_true (show (0 : Int) ≤ (p.2 : Int) by omega), decide_eq_true (show (p.2 : Int) < (y.length : Int) by omega), Int.toNat_natCast, Int.toNat_natCast, decide_eq_true h3]
  rfl
theorem ahead_pD {p q : PP} : aheadD (pD p) (pD q) = (decide (p.1 < q.1) && decide (p.2 < q.2)) := by
  show (decide ((p.1 : Int) < (q.1 : Int)) && decide ((p.2 : Int) < (q.2 : Int))) = _
  congr 1
  · exact decide_eq_decide.mpr (by omega)
  · exact decide_eq_decide.mpr (by omega)
theorem ahead_iff {p q : PP} : aheadD (pD p) (pD q) = true ↔ Ah p q := by
  rw [ahead_pD, Bool.and_eq_true, decide_eq_true_eq, decide_eq_true_eq]; rfl
theorem thread_pD {z y : Str} {c : List PP} (hc : c.Pairwise Ah) (hm : ∀ p ∈ c, Mt z.cps.toList y.cps.toList p) : threadD z y (.list (c.map pD)) = true := by
  show ((c.map pD).all (matchD z y) && (List.range ((c.map pD).length - 1)).all fun k => aheadD ((c.map pD).getD k .none) ((c.map pD).getD (k + 1) .none)) = true
  rw [Bool.and_eq_true, List.all_eq_true, List.all_eq_true]
  refine ⟨fun d hd => ?_, fun k hk => ?_⟩
  · obtain ⟨p, hp, rfl⟩ := List.mem_map.mp hd
    exact match_pD (hm p hp)
  · have hk' := List.mem_range.mp hk
    rw [List.length_map] at hk'
    have e1 : (c.map pD).getD k .none = pD c[k] := by rw [List.getD_eq_getElem?_getD, List.getElem?_map, List.getElem?_eq_getElem (by omega)]; rfl
    have e2 : (c.map pD).getD (k + 1) .none = pD c[k + 1] := by rw [List.getD_eq_getElem?_getD, List.getElem?_map, List.getElem?_eq_getElem (by omega)]; rfl
    rw [e1, e2, ahead_iff]
    exact List.pairwise_iff_getElem.mp hc k (k + 1) (by omega) (by omega) (by omega)
noncomputable def hD (h : List PP) : PyData := .list (h.map pD)
noncomputable def cP (p : PP) : Int × Int := ((p.1 : Int), (p.2 : Int))
theorem cP_inj {p q : PP} (h : cP p = cP q) : p = q := by
  unfold cP at h
  obtain ⟨h1, h2⟩ := Prod.mk.inj h
  exact Prod.ext (by omega) (by omega)
theorem fl_hD : ∀ hs : List (List PP), fl (hs.map hD) = hs.flatten.map cP
  | [] => rfl
  | h :: hs => by
    have ih := fl_hD hs
    unfold fl at ih ⊢
    rw [List.map_cons, List.map_cons, List.flatten_cons, ih, List.flatten_cons, List.map_append]
    congr 1
    show (h.map pD).map prI = h.map cP
    rw [List.map_map]; rfl
theorem one_hD {h : List PP} (hn : ∀ p ∈ h, ∀ q ∈ h, ¬ Ah p q) : oneAD (itD (hD h)) = false := by
  show oneAD (h.map pD) = false
  unfold oneAD
  rw [List.any_eq_false]
  intro i hi
  have hi' : i < h.length := by have := List.mem_range.mp hi; simpa using this
  rw [Bool.not_eq_true, List.any_eq_false]
  intro e he
  have e1 : (h.map pD).getD i .none = pD h[i] := by rw [List.getD_eq_getElem?_getD, List.getElem?_map, List.getElem?_eq_getElem hi']; rfl
  obtain ⟨p, hp, rfl⟩ := List.mem_map.mp (List.mem_of_mem_take he)
  rw [e1]
  intro z
  have z' : (aheadD (pD p) (pD h[i]) || aheadD (pD h[i]) (pD p)) = true := z
  rw [Bool.or_eq_true, ahead_iff, ahead_iff] at z'
  rcases z' with z' | z'
  · exact hn p hp _ (List.getElem_mem hi') z'
  · exact hn _ (List.getElem_mem hi') p hp z'
theorem flat_nd {hs : List (List PP)} {ps : List PP} (hp : hs.flatten.Perm ps) (nd : ps.Nodup) : (fl (hs.map hD)).Nodup := by
  rw [fl_hD]
  refine List.Pairwise.map _ (fun a b hab e => hab (cP_inj e)) (hp.nodup_iff.mpr nd)
theorem heaps_pD {z y : Str} {hs : List (List PP)} (h0 : ∀ h ∈ hs, h ≠ []) (hp : hs.flatten.Perm (prs z.cps.toList y.cps.toList z.length)) (hn : ∀ h ∈ hs, ∀ p ∈ h, ∀ q ∈ h, ¬ Ah p q) : heapsD z y (.list (hs.map hD)) = true := by
  have l1 : z.length = z.cps.toList.length := len_cps z
  have mt : ∀ h ∈ hs, ∀ p ∈ h, Mt z.cps.toList y.cps.toList p := fun h hh p hp' => by
    have := mem_prs (hp.mem_iff.mp (List.mem_flatten.mpr ⟨h, hh, hp'⟩))
    exact ⟨by omega, this.2.1, this.2.2⟩
  show ((hs.map hD).all (stackD z y) && (onceD z y (hs.map hD) && !(hs.map hD).any fun h => oneAD (itD h))) = true
  rw [Bool.and_eq_true, Bool.and_eq_true]
  refine ⟨?_, ?_, ?_⟩
  · rw [List.all_eq_true]
    intro d hd
    obtain ⟨h, hh, rfl⟩ := List.mem_map.mp hd
    show (!(h.map pD).isEmpty && (h.map pD).all (matchD z y)) = true
    rw [Bool.and_eq_true]
    refine ⟨?_, ?_⟩
    · cases h with
      | nil => exact absurd rfl (h0 _ hh)
      | cons a b => rfl
    · rw [List.all_eq_true]
      intro d hd
      obtain ⟨p, hp', rfl⟩ := List.mem_map.mp hd
      exact match_pD (mt h hh p hp')
  · unfold onceD
    rw [decide_eq_true (flat_nd hp (prs_nd _ _ _)), Bool.true_and]
    refine decide_eq_true ?_
    rw [fl_hD, List.length_map]
    exact hp.length_eq
  · rw [Bool.not_eq_true', List.any_eq_false]
    intro d hd
    obtain ⟨h, hh, rfl⟩ := List.mem_map.mp hd
    rw [one_hD (hn h hh)]; decide
theorem heaps_again {z y : Str} {hs : List (List PP)} {p : PP} (hp : p ∈ hs.flatten) : heapsD z y (.list (hs.map hD ++ [hD [p]])) = false := by
  show ((hs.map hD ++ [hD [p]]).all (stackD z y) && (onceD z y (hs.map hD ++ [hD [p]]) && _)) = false
  have : onceD z y (hs.map hD ++ [hD [p]]) = false := by
    unfold onceD
    have e : hs.map hD ++ [hD [p]] = (hs ++ [[p]]).map hD := by rw [List.map_append]; rfl
    rw [decide_eq_false, Bool.false_and]
    rw [e, fl_hD, List.flatten_append, List.map_append]
    exact dup_not (List.mem_map.mpr ⟨p, hp, rfl⟩)
  rw [this, Bool.false_and, Bool.and_false]
theorem thread_twice {z y : Str} {p : PP} : threadD z y (.list [pD p, pD p]) = false := by
  show ([pD p, pD p].all (matchD z y) && ([0].all fun k => aheadD ([pD p, pD p].getD k .none) ([pD p, pD p].getD (k + 1) .none))) = false
  have : aheadD (pD p) (pD p) = false := by
    rw [ahead_pD, decide_eq_false (by omega)]; rfl
  simp [this]

local macro_rules | `(tactic| walk_at "sts") => `(tactic| (with_reducible repeat (first | refine r_op ?_ | refine iteT ?_ | refine iteF ?_ | refine iteNT ?_ | refine iteNF ?_ | refine r_var (by with_unfolding_all rfl) ?_ | refine r_C ?_ | refine r_i0 ?_ | refine r_addI ?_ | refine r_cons ?_ | refine r_nil ?_ | refine r_seq ?_ | refine r_asg ?_ | refine r_name ?_ | refine r_ret ?_ | refine r_next ?_ | refine r_if ?_ | refine r_test ?_ | refine r_bl ?_ | refine r_cb ?_ | refine r_call ?_ | refine r_tb ?_ | refine r_not ?_ | refine r_and ?_ | refine r_or ?_ | refine r_andV ?_ | refine r_orV ?_ | refine r_notV ?_ | refine r_sub ?_ | refine r_drop ?_ | refine r_un ?_ | refine r_tup ?_ | refine r_lst ?_ | refine r_bm ?_ | refine r_sl ?_ | refine r_nop ?_ | refine r_part ?_ | refine r_true ?_ | refine r_rng1 ?_ | refine r_rng2 ?_ | refine r_iseq ?_ | refine r_comp ?_ | refine r_for ?_ | refine r_u ?_ | refine r_gcons ?_ | refine r_gnil ?_ | refine r_gtup (SqT.of (by first | assumption | exact upd_same)) (by rfl) ?_ | refine r_callX ?_ | refine r_chain ?_ | refine r_raise ?_ | refine r_isNotB ?_ | refine r_ii ?_ | refine r_eqBI ?_ | refine r_eqBS ?_ | refine r_neBI ?_ | refine r_neBB ?_ | refine r_enumA ?_ | refine r_inS ?_ | refine r_intE ?_ | refine r_i (by with_unfolding_all first | assumption | omega | (dsimp only <;> omega) | exact ⟨by omega, by omega⟩ | exact .inl ⟨by omega, by omega⟩ | exact .inr ⟨by omega, by omega⟩ | exact ⟨by decide, by decide, by decide⟩) ?_ | refine r_mulI (by with_unfolding_all first | assumption | omega | (dsimp only <;> omega) | exact ⟨by omega, by omega⟩ | exact .inl ⟨by omega, by omega⟩ | exact .inr ⟨by omega, by omega⟩ | exact ⟨by decide, by decide, by decide⟩) ?_ | refine r_ixL (SqL.of (by first | assumption | exact upd_same)) (by with_unfolding_all rfl) ?_ | refine r_ixT (SqT.of (by first | assumption | exact upd_same)) (by with_unfolding_all rfl) ?_ | refine r_setL (by first | assumption | exact upd_same) (by with_unfolding_all rfl) ?_)))
local macro_rules | `(tactic| walk_at "stn") => `(tactic| (with_reducible repeat (first | refine r_op ?_ | refine iteT ?_ | refine iteF ?_ | refine iteNT ?_ | refine iteNF ?_ | refine r_var (by with_unfolding_all rfl) ?_ | refine r_C ?_ | refine r_i0 ?_ | refine r_addI ?_ | refine r_cons ?_ | refine r_nil ?_ | refine r_asg ?_ | refine r_name ?_ | refine r_ret ?_ | refine r_next ?_ | refine r_if ?_ | refine r_test ?_ | refine r_bl ?_ | refine r_cb ?_ | refine r_call ?_ | refine r_tb ?_ | refine r_not ?_ | refine r_and ?_ | refine r_or ?_ | refine r_andV ?_ | refine r_orV ?_ | refine r_notV ?_ | refine r_sub ?_ | refine r_drop ?_ | refine r_un ?_ | refine r_tup ?_ | refine r_lst ?_ | refine r_bm ?_ | refine r_sl ?_ | refine r_nop ?_ | refine r_part ?_ | refine r_true ?_ | refine r_rng1 ?_ | refine r_rng2 ?_ | refine r_iseq ?_ | refine r_comp ?_ | refine r_for ?_ | refine r_u ?_ | refine r_gcons ?_ | refine r_gnil ?_ | refine r_gtup (SqT.of (by first | assumption | exact upd_same)) (by rfl) ?_ | refine r_callX ?_ | refine r_chain ?_ | refine r_raise ?_ | refine r_isNotB ?_ | refine r_ii ?_ | refine r_eqBI ?_ | refine r_eqBS ?_ | refine r_neBI ?_ | refine r_neBB ?_ | refine r_enumA ?_ | refine r_inS ?_ | refine r_intE ?_ | refine r_i (by with_unfolding_all first | assumption | omega | (dsimp only <;> omega) | exact ⟨by omega, by omega⟩ | exact .inl ⟨by omega, by omega⟩ | exact .inr ⟨by omega, by omega⟩ | exact ⟨by decide, by decide, by decide⟩) ?_ | refine r_mulI (by with_unfolding_all first | assumption | omega | (dsimp only <;> omega) | exact ⟨by omega, by omega⟩ | exact .inl ⟨by omega, by omega⟩ | exact .inr ⟨by omega, by omega⟩ | exact ⟨by decide, by decide, by decide⟩) ?_ | refine r_ixL (SqL.of (by first | assumption | exact upd_same)) (by with_unfolding_all rfl) ?_ | refine r_ixT (SqT.of (by first | assumption | exact upd_same)) (by with_unfolding_all rfl) ?_ | refine r_setL (by first | assumption | exact upd_same) (by with_unfolding_all rfl) ?_)))
section
variable {P : Program} {w : World} {K : PySem.W.Frag} {mg : Str → Option Value} {base : Heap}
theorem nd_law_pairs_0 : (["_law_j", "_law_i", "_law_side", "_law_top"] : List Str).Nodup := by decide +kernel
theorem nd_law_letters_1 : (["_law_k", "_law_letters_here", "_law_first", "_law_step"] : List Str).Nodup := by decide +kernel
theorem nd_law_drawn_2 : (["_law_k", "_law_signs", "_law_purse_here"] : List Str).Nodup := by decide +kernel
theorem k_law_table__law_table_here : (defScope s_law_table).names.lookup ("_law_table_here" : Str) = some NameKind.local := by decide +kernel
theorem k_law_table__law_side : (defScope s_law_table).names.lookup ("_law_side" : Str) = some NameKind.local := by decide +kernel
theorem k_law_table__law_sign : (defScope s_law_table).names.lookup ("_law_sign" : Str) = some NameKind.local := by decide +kernel
theorem k_law_table__law_row_here : (defScope s_law_table).names.lookup ("_law_row_here" : Str) = some NameKind.local := by decide +kernel
theorem k_law_table_range : (defScope s_law_table).names.lookup ("range" : Str) = some NameKind.globalImplicit := by decide +kernel
theorem k_law_table_len : (defScope s_law_table).names.lookup ("len" : Str) = some NameKind.globalImplicit := by decide +kernel
theorem k_law_table__law_top : (defScope s_law_table).names.lookup ("_law_top" : Str) = some NameKind.local := by decide +kernel
theorem k_law_table__law_at : (defScope s_law_table).names.lookup ("_law_at" : Str) = some NameKind.local := by decide +kernel
theorem k_law_table__law_most : (defScope s_law_table).names.lookup ("_law_most" : Str) = some NameKind.local := by decide +kernel
theorem k_law_table_max : (defScope s_law_table).names.lookup ("max" : Str) = some NameKind.globalImplicit := by decide +kernel
theorem k_law_pairs__law_found : (defScope s_law_pairs).names.lookup ("_law_found" : Str) = some NameKind.local := by decide +kernel
theorem k_law_pairs_range : (defScope s_law_pairs).names.lookup ("range" : Str) = some NameKind.globalImplicit := by decide +kernel
theorem k_law_pairs_len : (defScope s_law_pairs).names.lookup ("len" : Str) = some NameKind.globalImplicit := by decide +kernel
theorem k_law_pairs__law_side : (defScope s_law_pairs).names.lookup ("_law_side" : Str) = some NameKind.cell := by decide +kernel
theorem k_law_pairs__law_i : (defScope s_law_pairs).names.lookup ("_law_i" : Str) = some NameKind.cell := by decide +kernel
theorem k_law_pairs__law_top : (defScope s_law_pairs).names.lookup ("_law_top" : Str) = some NameKind.cell := by decide +kernel
theorem k_law_row__law_drawn : (defScope s_law_row).names.lookup ("_law_drawn" : Str) = some NameKind.globalImplicit := by decide +kernel
theorem k_law_row__law_most : (defScope s_law_row).names.lookup ("_law_most" : Str) = some NameKind.local := by decide +kernel
theorem k_law_row__law_signs : (defScope s_law_row).names.lookup ("_law_signs" : Str) = some NameKind.local := by decide +kernel
theorem k_law_row__law_purse_here : (defScope s_law_row).names.lookup ("_law_purse_here" : Str) = some NameKind.local := by decide +kernel
theorem k_law_row__law_take : (defScope s_law_row).names.lookup ("_law_take" : Str) = some NameKind.globalImplicit := by decide +kernel
theorem k_law_ahead__law_one : (defScope s_law_ahead).names.lookup ("_law_one" : Str) = some NameKind.local := by decide +kernel
theorem k_law_ahead__law_other : (defScope s_law_ahead).names.lookup ("_law_other" : Str) = some NameKind.local := by decide +kernel
theorem k_law_cell__law_k : (defScope s_law_cell).names.lookup ("_law_k" : Str) = some NameKind.local := by decide +kernel
theorem k_law_cell_len : (defScope s_law_cell).names.lookup ("len" : Str) = some NameKind.globalImplicit := by decide +kernel
theorem k_law_cell__law_script : (defScope s_law_cell).names.lookup ("_law_script" : Str) = some NameKind.local := by decide +kernel
theorem k_law_purse__law_cell_here : (defScope s_law_purse).names.lookup ("_law_cell_here" : Str) = some NameKind.local := by decide +kernel
theorem k_law_purse_max : (defScope s_law_purse).names.lookup ("max" : Str) = some NameKind.globalImplicit := by decide +kernel
theorem k_law_take__law_number : (defScope s_law_take).names.lookup ("_law_number" : Str) = some NameKind.local := by decide +kernel
theorem k_law_take__law_many : (defScope s_law_take).names.lookup ("_law_many" : Str) = some NameKind.local := by decide +kernel
theorem k_law_take__law_purse_here : (defScope s_law_take).names.lookup ("_law_purse_here" : Str) = some NameKind.local := by decide +kernel
theorem k_law_take__law_digit : (defScope s_law_take).names.lookup ("_law_digit" : Str) = some NameKind.local := by decide +kernel
theorem k_law_letters_range : (defScope s_law_letters).names.lookup ("range" : Str) = some NameKind.globalImplicit := by decide +kernel
theorem k_law_letters__law_many : (defScope s_law_letters).names.lookup ("_law_many" : Str) = some NameKind.local := by decide +kernel
theorem k_law_letters__law_take : (defScope s_law_letters).names.lookup ("_law_take" : Str) = some NameKind.globalImplicit := by decide +kernel
theorem k_law_letters__law_purse_here : (defScope s_law_letters).names.lookup ("_law_purse_here" : Str) = some NameKind.local := by decide +kernel
theorem k_law_letters__law_step : (defScope s_law_letters).names.lookup ("_law_step" : Str) = some NameKind.cell := by decide +kernel
theorem k_law_letters__law_first : (defScope s_law_letters).names.lookup ("_law_first" : Str) = some NameKind.cell := by decide +kernel
theorem k_law_letters__law_letters_here : (defScope s_law_letters).names.lookup ("_law_letters_here" : Str) = some NameKind.cell := by decide +kernel
theorem k_law_drawn_range : (defScope s_law_drawn).names.lookup ("range" : Str) = some NameKind.globalImplicit := by decide +kernel
theorem k_law_drawn__law_size : (defScope s_law_drawn).names.lookup ("_law_size" : Str) = some NameKind.local := by decide +kernel
theorem k_law_drawn__law_take : (defScope s_law_drawn).names.lookup ("_law_take" : Str) = some NameKind.globalImplicit := by decide +kernel
theorem k_law_drawn__law_most : (defScope s_law_drawn).names.lookup ("_law_most" : Str) = some NameKind.local := by decide +kernel
theorem k_law_drawn__law_purse_here : (defScope s_law_drawn).names.lookup ("_law_purse_here" : Str) = some NameKind.cell := by decide +kernel
theorem sc_law_cell : FnScope ["_law_script", "_law_k"] ["_law_script", "_law_k"] (defScope s_law_cell) := ⟨rfl, rfl, rfl, by decide +kernel, rfl, by decide +kernel, by decide +kernel⟩
theorem h_law_cell (T : Txt K mg) : Has P w K mg base 1 "_law_cell" ["_law_script", "_law_k"] (spCell K) := by
  refine hasJ T.d_law_cell sc_law_cell (fun _ _ _ _ _ _ us hl => L2.usN2 (fun _ _ => rfl) us hl) ?_ fun f cdv A outer s H vs Q E hr h => ?_
  · rintro vs H Q E ⟨a, ns, k, rfl, _⟩; rfl
  obtain ⟨a, ns, k, rfl, hS, h0, q⟩ := h
  refine ⟨_, (jb_cons (js_if (jt_cmp op_lt (j_vL 1 k_law_cell__law_k) (j_callB (call_lenK (K := K) rfl) (glF k_law_cell_len) T.b_len bt_len (ja_cons (j_vL 0 k_law_cell__law_script) ja_nil) (by decide +kernel) (by decide +kernel)) (by first | exact nomark _ | with_unfolding_all rfl)) (jb_one (js_ret (j_ix (K := K) rfl (j_vL 0 k_law_cell__law_script) (j_vL 1 k_law_cell__law_k)))) jb_nil) (jb_one (js_ret (j_op op_addA (j_op op_mulA j_int (j_vL 1 k_law_cell__law_k)) j_int)))), ?_⟩
  walk_at "sts"
  refine ⟨_, _, rfl, .inl ⟨_, hS, rfl⟩, ?_⟩
  walk_at "sts"
  refine iteD (fun hk => ?_) (fun hk => ?_)
  · rw [List.length_map] at hk
    walk_at "sts"
    refine r_ixL hS (atI_int (v := .int (ns.getD k.toNat 0)) h0 ?_) (q _)
    rw [List.getElem?_map, List.getD_eq_getElem?_getD, List.getElem?_eq_getElem (by omega)]; rfl
  · walk_at "sts"
    exact q _
theorem sc_law_purse : FnScope ["_law_cell_here"] ["_law_cell_here"] (defScope s_law_purse) := ⟨rfl, rfl, rfl, by decide +kernel, rfl, by decide +kernel, by decide +kernel⟩
theorem h_law_purse (T : Txt K mg) : Has P w K mg base 1 "_law_purse" ["_law_cell_here"] spPurse := by
  refine hasJ T.d_law_purse sc_law_purse (fun _ _ _ _ _ _ us hl => L2.usN1 (fun _ => rfl) us hl) ?_ fun f cdv A outer s H vs Q E hr h => ?_
  · rintro vs H Q E ⟨a, rfl, _⟩; rfl
  obtain ⟨n, rfl, q⟩ := h
  refine ⟨_, (jb_one (js_ret (j_lst (ja_cons (j_callB (call_max2 rfl) (glF k_law_purse_max) T.b_max bt_max (ja_cons j_int (ja_cons (j_op op_sub (j_vL 0 k_law_purse__law_cell_here) (j_op op_pow j_int j_int)) ja_nil)) (by decide +kernel) (by decide +kernel)) (ja_cons (j_op op_mod (j_vL 0 k_law_purse__law_cell_here) j_int) (ja_cons j_int ja_nil)))))), ?_⟩
  walk_at "sts"
  refine ⟨by simp; decide, fun p hp => q p _ hp ((Chg.refl p H).new hp) ⟨_, _, _, upd_same, ?_, ?_, ?_⟩⟩
  · split <;> omega
  · omega
  · omega
theorem sc_law_take : FnScope ["_law_purse_here", "_law_many", "_law_digit", "_law_number"] ["_law_purse_here", "_law_many"] (defScope s_law_take) := ⟨rfl, rfl, rfl, by decide +kernel, rfl, by decide +kernel, by decide +kernel⟩
theorem h_law_take (T : Txt K mg) : Has P w K mg base 1 "_law_take" ["_law_purse_here", "_law_many"] spTake := by
  refine hasJ T.d_law_take sc_law_take (fun _ _ _ _ _ _ us hl => L2.usN2 (fun _ _ => rfl) us hl) ?_ fun f cdv A outer s H vs Q E hr h => ?_
  · rintro vs H Q E ⟨a, n, rfl, _⟩; rfl
  obtain ⟨p, n, rfl, ⟨a, b, c, hp, ha, hb, hb2⟩, hn, hn2, q⟩ := h
  refine ⟨_, (jb_cons (js_asgS (ts := rSetL) (j_op op_addA (j_ix (K := K) rfl (j_vL 0 k_law_take__law_purse_here) j_int) j_int) (jg_sub (j_vL 0 k_law_take__law_purse_here) j_int set_list)) (jb_cons (js_if (jt_cmp op_gt (j_ix (K := K) rfl (j_vL 0 k_law_take__law_purse_here) j_int) j_int (by first | exact nomark _ | with_unfolding_all rfl)) (jb_cons (js_set (i := 2) sc_law_take.nd rfl (Or.inl k_law_take__law_digit) (j_op op_mod (j_ix (K := K) rfl (j_vL 0 k_law_take__law_purse_here) j_int) (j_vL 1 k_law_take__law_many)) rfl) (jb_cons (js_asgS (ts := rSetL) (j_op op_fdiv (j_ix (K := K) rfl (j_vL 0 k_law_take__law_purse_here) j_int) (j_vL 1 k_law_take__law_many)) (jg_sub (j_vL 0 k_law_take__law_purse_here) j_int set_list)) (jb_one (js_ret (j_vL 2 k_law_take__law_digit))))) jb_nil) (jb_cons (js_set (i := 3) sc_law_take.nd rfl (Or.inl k_law_take__law_number) (j_op op_mod (j_op op_addA (j_op op_addA (j_op op_mulA (j_ix (K := K) rfl (j_vL 0 k_law_take__law_purse_here) j_int) j_int) (j_op op_mulA j_int (j_ix (K := K) rfl (j_vL 0 k_law_take__law_purse_here) j_int))) j_int) j_int) rfl) (jb_cons (js_set (i := 3) sc_law_take.nd rfl (Or.inl k_law_take__law_number) (j_op op_mod (j_op op_mulA (j_vL 3 k_law_take__law_number) (j_vL 3 k_law_take__law_number)) j_int) rfl) (jb_cons (js_set (i := 3) sc_law_take.nd rfl (Or.inl k_law_take__law_number) (j_op op_mod (j_op op_mulA (j_op op_addA (j_vL 3 k_law_take__law_number) (j_op op_mulA j_int (j_ix (K := K) rfl (j_vL 0 k_law_take__law_purse_here) j_int))) j_int) j_int) rfl) (jb_one (js_ret (j_op op_mod (j_op op_fdiv (j_op op_mod (j_op op_mulA (j_vL 3 k_law_take__law_number) (j_vL 3 k_law_take__law_number)) j_int) j_int) (j_vL 1 k_law_take__law_many))))))))), ?_⟩
  walk_at "sts"
  refine iteD (fun h1 => ?_) (fun h1 => ?_)
  · walk_at "sts"
    refine q _ _ (Int.emod_nonneg _ (by omega)) (Int.emod_lt_of_pos _ hn) ⟨_, _, _, upd_same, Int.ediv_nonneg ha (by omega), hb, hb2⟩ fun b' o hb' e => ?_
    rw [upd_ne hb', upd_ne hb']; exact e
  · walk_at "sts"
    refine q _ _ (Int.emod_nonneg _ (by omega)) (Int.emod_lt_of_pos _ hn) ⟨_, _, _, upd_same, ha, hb, hb2⟩ fun b' o hb' e => ?_
    rw [upd_ne hb']; exact e
theorem sc_law_letters : FnScope ["_law_purse_here", "_law_letters_here", "_law_first", "_law_step", "_law_many"] ["_law_purse_here"] (defScope s_law_letters) := ⟨rfl, rfl, rfl, by decide +kernel, rfl, by decide +kernel, by decide +kernel⟩
theorem h_law_letters (T : Txt K mg) : Has P w K mg base 2 "_law_letters" ["_law_purse_here"] spLetters := by
  have h_law_take := h_law_take (P := P) (w := w) (base := base) T
  refine hasJ T.d_law_letters sc_law_letters (fun _ _ _ _ _ _ us hl => L2.usN1 (fun _ => rfl) us hl) ?_ fun f cdv A outer s H vs Q E hr h => ?_
  · rintro vs H Q E ⟨a, rfl, _⟩; rfl
  obtain ⟨p, rfl, hP, q⟩ := h
  refine ⟨_, (jb_cons (js_set (i := 1) sc_law_letters.nd rfl (Or.inr k_law_letters__law_letters_here) j_str rfl) (jb_cons (js_set (i := 2) sc_law_letters.nd rfl (Or.inr k_law_letters__law_first) (j_call h_law_take (hr.mono (by decide)) (glF k_law_letters__law_take) (ja_cons (j_vL 0 k_law_letters__law_purse_here) (ja_cons j_int ja_nil)) (by decide +kernel)) rfl) (jb_cons (js_set (i := 3) sc_law_letters.nd rfl (Or.inr k_law_letters__law_step) (j_ix (K := K) rfl (j_lst (ja_cons j_int (ja_cons j_int (ja_cons j_int (ja_cons j_int (ja_cons j_int (ja_cons j_int ja_nil))))))) (j_call h_law_take (hr.mono (by decide)) (glF k_law_letters__law_take) (ja_cons (j_vL 0 k_law_letters__law_purse_here) (ja_cons j_int ja_nil)) (by decide +kernel))) rfl) (jb_cons (js_set (i := 4) sc_law_letters.nd rfl (Or.inl k_law_letters__law_many) (j_ix (K := K) rfl (j_lst (ja_cons j_int (ja_cons j_int (ja_cons j_int (ja_cons j_int (ja_cons j_int (ja_cons j_int (ja_cons j_int (ja_cons j_int ja_nil))))))))) (j_call h_law_take (hr.mono (by decide)) (glF k_law_letters__law_take) (ja_cons (j_vL 0 k_law_letters__law_purse_here) (ja_cons j_int ja_nil)) (by decide +kernel))) rfl) (jb_one (js_ret (j_comp (sub := [none, some 1, some 2, some 3]) (subOk_of (N := ["_law_purse_here", "_law_letters_here", "_law_first", "_law_step", "_law_many"]) (sc := defScope s_law_letters) (N' := ["_law_k", "_law_letters_here", "_law_first", "_law_step"]) (by decide +kernel)) rfl rfl rfl (ji_range1 (glF k_law_letters_range) T.b_range (ja_cons (j_vL 4 k_law_letters__law_many) ja_nil)) (fun C s₀ H₀ ex => (jg_B 0 (by decide +kernel) nd_law_letters_1)) (fun C s₀ H₀ ex => jif_nil) (fun C s₀ H₀ ex => (j_ix (K := K) rfl (j_vBF 1 (by decide +kernel)) (j_op op_mod (j_op op_addA (j_vBF 2 (by decide +kernel)) (j_op op_mulA (j_vBF 3 (by decide +kernel)) (j_vBL 0 (by decide +kernel)))) j_int)))))))))), ?_⟩
  walk_at "sts"
  refine ⟨p, 26, rfl, hP, by omega, by omega, fun d1 H1 a1 b1 P1 C1 => ?_⟩
  walk_at "sts"
  refine ⟨by decide, fun m1 n1 => ?_⟩
  walk_at "sts"
  refine ⟨p, 6, rfl, P1.new n1, by omega, by omega, fun d2 H2 a2 b2 P2 C2 => ?_⟩
  obtain ⟨w1, hw1, e1⟩ := pickI (ns := [1, 3, 5, 7, 9, 11]) a2 b2
  refine r_ixL (SqL.of (C2.at_ upd_same (P1.ne n1))) e1 ?_
  walk_at "sts"
  refine ⟨by decide, fun m2 n2 => ?_⟩
  walk_at "sts"
  refine ⟨p, 8, rfl, P2.new n2, by omega, by omega, fun d3 H3 a3 b3 P3 C3 => ?_⟩
  obtain ⟨w2, hw2, e2⟩ := pickI (ns := [1, 2, 2, 3, 3, 4, 5, 26]) a3 b3
  refine r_ixL (SqL.of (C3.at_ upd_same (P2.ne n2))) e2 ?_
  walk_at "sts"
  have g2 : 1 ≤ w2 ∧ w2 ≤ 26 := by
    have : ∀ n ∈ ([1, 2, 2, 3, 3, 4, 5, 26] : List Int), 1 ≤ n ∧ n ≤ 26 := by decide
    exact this w2 hw2
  refine ⟨_, rfl, by omega, by omega, ?_⟩
  refine comp_rng (fun i ys H' => H' = H3 ∧ ∃ zs : List Str, ys = zs.map V.str ∧ zs.length = i ∧ GoodS zs) (Nat.le_trans (show w2.toNat ≤ 1000 by omega) (by decide)) ⟨rfl, [], rfl, rfl, by intro y hy; cases hy⟩ (by rintro i ys H ⟨_, zs, rfl, hl, _⟩; simp [hl]) ?_ ?_
  · rintro i ys H' hi ⟨rfl, zs, rfl, hl, hz⟩
    walk_at "sts"
    refine ⟨KeepSt.set rfl, ?_⟩
    walk_at "sts"
    try with_reducible refine iteT ?_
    walk_at "sts"
    obtain ⟨c, hc, ec⟩ := pickN (ns := (Str.ofString "abcdefghijklmnopqrstuvwxyz").cps.toList) (d := (d1 + w1 * (0 + (i : Int))) % 26) (by omega) (by
      have : (Str.ofString "abcdefghijklmnopqrstuvwxyz").cps.toList.length = 26 := by decide +kernel
      omega)
    refine r_ixS (by decide +kernel) ec ⟨rfl, zs ++ [⟨#[c]⟩], by simp, by simp [hl], fun y hy => ?_⟩
    rcases List.mem_append.mp hy with h | h
    · exact hz y h
    · rw [List.mem_singleton.mp h]; exact ⟨c, rfl, lett_good c hc⟩
  · rintro ys H' ⟨rfl, zs, rfl, hl, hz⟩ D hD
    have nP : D ≠ p := P3.ne hD
    refine q D zs _ ?_ (P3.new hD) ?_ upd_same (by intro z; subst z; simp at hl; omega) (by omega) hz
    · exact C1.none_ ((Chg.new (Chg.refl p H1) n1).trans C2 |>.none_ (((Chg.new (Chg.refl p H2) n2).trans C3).none_ hD nP) nP) nP
    · exact (C1.trans ((Chg.new (Chg.refl p H1) n1).trans (C2.trans ((Chg.new (Chg.refl p H2) n2).trans C3)))).new hD
theorem sc_law_drawn : FnScope ["_law_purse_here", "_law_signs", "_law_most", "_law_size"] ["_law_purse_here", "_law_signs", "_law_most"] (defScope s_law_drawn) := ⟨rfl, rfl, rfl, by decide +kernel, rfl, by decide +kernel, by decide +kernel⟩
theorem h_law_drawn (T : Txt K mg) : Has P w K mg base 2 "_law_drawn" ["_law_purse_here", "_law_signs", "_law_most"] spDrawn := by
  have h_law_take := h_law_take (P := P) (w := w) (base := base) T
  refine hasJ T.d_law_drawn sc_law_drawn (fun _ _ _ _ _ _ us hl => L2.usN3 (fun _ _ _ => rfl) us hl) ?_ fun f cdv A outer s H vs Q E hr h => ?_
  · rintro vs H Q E ⟨p, q, ys, m, rfl, _⟩; rfl
  obtain ⟨p, r, ys, m, rfl, hP, hr0, hne, hle, hone, hm0, hm1, q⟩ := h
  have nrp : r ≠ p := by
    obtain ⟨a, b, c, e, _⟩ := hP
    intro z; subst z; rw [hr0] at e
    have e' := HO.lst.inj (Option.some.inj e)
    cases ys with
    | nil => cases e'
    | cons y ys => cases e'
  refine ⟨_, (jb_cons (js_set (i := 3) sc_law_drawn.nd rfl (Or.inl k_law_drawn__law_size) (j_call h_law_take (hr.mono (by decide)) (glF k_law_drawn__law_take) (ja_cons (j_vC 0 k_law_drawn__law_purse_here) (ja_cons (j_ix (K := K) rfl (j_lst (ja_cons j_int (ja_cons j_int (ja_cons j_int (ja_cons j_int (ja_cons j_int (ja_cons j_int (ja_cons j_int (ja_cons (j_op op_addA (j_vL 2 k_law_drawn__law_most) j_int) ja_nil))))))))) (j_call h_law_take (hr.mono (by decide)) (glF k_law_drawn__law_take) (ja_cons (j_vC 0 k_law_drawn__law_purse_here) (ja_cons j_int ja_nil)) (by decide +kernel))) ja_nil)) (by decide +kernel)) rfl) (jb_one (js_ret (j_meth (K := K) rfl PySem.F.plainAttrs_str PySem.F.slot_str_join PySem.F.type_str_join mt_join j_str (ja_cons (j_comp (sub := [none, some 1, some 0]) (subOk_of (N := ["_law_purse_here", "_law_signs", "_law_most", "_law_size"]) (sc := defScope s_law_drawn) (N' := ["_law_k", "_law_signs", "_law_purse_here"]) (by decide +kernel)) rfl rfl rfl (ji_range1 (glF k_law_drawn_range) T.b_range (ja_cons (j_vL 3 k_law_drawn__law_size) ja_nil)) (fun C s₀ H₀ ex => (jg_B 0 (by decide +kernel) nd_law_drawn_2)) (fun C s₀ H₀ ex => jif_nil) (fun C s₀ H₀ ex => (j_ix (K := K) rfl (j_vBF 1 (by decide +kernel)) (j_call h_law_take (hr.mono (by decide)) (glB (by decide +kernel)) (ja_cons (j_vBF 2 (by decide +kernel)) (ja_cons (j_callB (call_lenK (K := K) rfl) (glB (by decide +kernel)) T.b_len bt_len (ja_cons (j_vBF 1 (by decide +kernel)) ja_nil) (by decide +kernel) (by decide +kernel)) ja_nil)) (by decide +kernel))))) ja_nil))))), ?_⟩
  walk_at "sts"
  refine ⟨by simp; decide, fun m1 n1 => ?_⟩
  walk_at "sts"
  refine ⟨p, 8, rfl, hP.new n1, by omega, by omega, fun d2 H2 a2 b2 P2 C2 => ?_⟩
  obtain ⟨w1, hw1, e1⟩ := pickI (ns := [3, 5, 7, 9, 9, 9, 13, m + 1]) a2 b2
  refine r_ixL (SqL.of (C2.at_ upd_same (hP.ne n1))) e1 ?_
  have g1 : 1 ≤ w1 ∧ w1 ≤ 49 := by
    simp only [List.mem_cons, List.mem_nil_iff, or_false] at hw1
    omega
  walk_at "sts"
  refine ⟨p, w1, rfl, P2, by omega, by omega, fun d3 H3 a3 b3 P3 C3 => ?_⟩
  have C03 : Chg p H H3 := ((Chg.refl p H).new n1).trans (C2.trans C3)
  walk_at "sts"
  refine ⟨rfl, ?_⟩
  walk_at "sts"
  refine ⟨_, rfl, by omega, by omega, ?_⟩
  refine comp_rng (fun i us H' => Pur H' p ∧ Chg p H3 H' ∧ ∃ zs : List Str, us = zs.map V.str ∧ zs.length = i ∧ GoodS zs) (Nat.le_trans (show d3.toNat ≤ 1000 by omega) (by decide)) ⟨P3, Chg.refl _ _, [], rfl, rfl, by intro y hy; cases hy⟩ (by rintro i ys H ⟨_, _, zs, rfl, hl, _⟩; simp [hl]) ?_ ?_
  · rintro i us H4 hi ⟨P4, C4, zs, rfl, hl, hz⟩
    have hr4 : H4 r = some (.lst (ys.map V.str)) := C4.at_ (C03.at_ hr0 nrp) nrp
    walk_at "sts"
    refine ⟨KeepSt.set rfl, ?_⟩
    walk_at "sts"
    try with_reducible refine iteT ?_
    walk_at "sts"
    refine r_lenL (SqL.of hr4) ?_
    walk_at "sts"
    have hlen : 0 < ys.length := List.length_pos_iff.mpr hne
    refine ⟨p, _, rfl, P4, by simp; omega, by simp; omega, fun d5 H5 a5 b5 P5 C5 => ?_⟩
    rw [List.length_map] at b5
    obtain ⟨y, hy, ey⟩ := pickS (ns := ys) a5 b5
    refine r_ixL (SqL.of (C5.at_ hr4 nrp)) ey ⟨P5, C4.trans C5, zs ++ [y], by simp, by simp [hl], fun x hx => ?_⟩
    rcases List.mem_append.mp hx with h | h
    · exact hz x h
    · rw [List.mem_singleton.mp h]; exact hone y hy
  · rintro us H4 ⟨P4, C4, zs, rfl, hl, hz⟩ D hD
    walk_at "sts"
    have hs1 := sum_ones hz.ones
    have e0 : (Str.ofString "").length = 0 := by decide +kernel
    refine r_join upd_same (by rw [hs1, e0]; omega) ?_
    exact q _ _ (row_of hz (by omega)) (P4.new hD) ((C03.trans C4).new hD)
theorem purNe {H : Hp} {p r : Addr} {ys : List Str} (hP : Pur H p) (hr0 : H r = some (.lst (ys.map V.str))) : r ≠ p := by
  obtain ⟨a, b, c, e, _⟩ := hP
  intro z; subst z; rw [hr0] at e
  have e' := HO.lst.inj (Option.some.inj e)
  cases ys with
  | nil => cases e'
  | cons y ys => cases e'
noncomputable def spLengths : Sp := fun vs H Q _ => ∃ side top : Str, vs = [.str side, .str top] ∧ Row side ∧ Row top ∧
  ∀ t rs H', H t = none → (∀ r ∈ rs, H r = none) → Same H H' → Tab H' t rs (tabT side.cps.toList top.cps.toList (side.length + 1) (top.length + 1)) → Q (.ref t) H'
theorem sc_law_table : FnScope ["_law_side", "_law_top", "_law_table_here", "_law_sign", "_law_row_here", "_law_at", "_law_most"] ["_law_side", "_law_top"] (defScope s_law_table) := ⟨rfl, rfl, rfl, by decide +kernel, rfl, by decide +kernel, by decide +kernel⟩
theorem h_law_table (T : Txt K mg) : Has P w K mg base 1 "_law_table" ["_law_side", "_law_top"] spLengths := by
  refine hasJ T.d_law_table sc_law_table (fun _ _ _ _ _ _ us hl => L2.usN2 (fun _ _ => rfl) us hl) ?_ fun f cdv A outer s H vs Q E hr h => ?_
  · rintro vs H Q E ⟨side, top, rfl, _⟩; rfl
  obtain ⟨side, top, rfl, hs, ht, q⟩ := h
  have hu := hr.units0
  have hu64 := hr.units
  refine ⟨_, (jb_cons (js_set (i := 2) sc_law_table.nd rfl (Or.inl k_law_table__law_table_here) (j_lst (ja_cons (j_op op_mulA (j_lst (ja_cons j_int ja_nil)) (j_op op_addA (j_callB (call_lenK (K := K) rfl) (glF k_law_table_len) T.b_len bt_len (ja_cons (j_vL 1 k_law_table__law_top) ja_nil) (by decide +kernel) (by decide +kernel)) j_int)) ja_nil)) rfl) (jb_cons (js_for PassesOwn.never rfl (ji_seq (K := K) rfl (j_vL 0 k_law_table__law_side)) (jg_name (i := 3) sc_law_table.nd rfl (Or.inl k_law_table__law_sign) rfl) (jb_cons (js_set (i := 4) sc_law_table.nd rfl (Or.inl k_law_table__law_row_here) (j_lst (ja_cons j_int ja_nil)) rfl) (jb_cons (js_for PassesOwn.never rfl (ji_range1 (glF k_law_table_range) T.b_range (ja_cons (j_callB (call_lenK (K := K) rfl) (glF k_law_table_len) T.b_len bt_len (ja_cons (j_vL 1 k_law_table__law_top) ja_nil) (by decide +kernel) (by decide +kernel)) ja_nil)) (jg_name (i := 5) sc_law_table.nd rfl (Or.inl k_law_table__law_at) rfl) (jb_cons (js_set (i := 6) sc_law_table.nd rfl (Or.inl k_law_table__law_most) (j_callB (call_max2 rfl) (glF k_law_table_max) T.b_max bt_max (ja_cons (j_ix (K := K) rfl (j_ix (K := K) rfl (j_vL 2 k_law_table__law_table_here) (j_un un_neg j_int)) (j_op op_addA (j_vL 5 k_law_table__law_at) j_int)) (ja_cons (j_ix (K := K) rfl (j_vL 4 k_law_table__law_row_here) (j_vL 5 k_law_table__law_at)) ja_nil)) (by decide +kernel) (by decide +kernel)) rfl) (jb_cons (js_if (jt_cmp (op_eqX (K := K) rfl hu64) (j_vL 3 k_law_table__law_sign) (j_ix (K := K) rfl (j_vL 1 k_law_table__law_top) (j_vL 5 k_law_table__law_at)) (by first | exact nomark _ | with_unfolding_all rfl)) (jb_one (js_set (i := 6) sc_law_table.nd rfl (Or.inl k_law_table__law_most) (j_op op_addA (j_ix (K := K) rfl (j_ix (K := K) rfl (j_vL 2 k_law_table__law_table_here) (j_un un_neg j_int)) (j_vL 5 k_law_table__law_at)) j_int) rfl)) jb_nil) (jb_one (js_expr (j_meth (K := K) rfl PySem.F.plainAttrs_list PySem.F.slot_list_append PySem.F.type_list_append mt_append (j_vL 4 k_law_table__law_row_here) (ja_cons (j_vL 6 k_law_table__law_most) ja_nil))))))) (jb_one (js_expr (j_meth (K := K) rfl PySem.F.plainAttrs_list PySem.F.slot_list_append PySem.F.type_list_append mt_append (j_vL 2 k_law_table__law_table_here) (ja_cons (j_vL 4 k_law_table__law_row_here) ja_nil))))))) (jb_one (js_ret (j_vL 2 k_law_table__law_table_here))))), ?_⟩
  walk_at "sts"
  have lt1 : top.length ≤ sizeLine := Nat.le_trans ht.1 (by decide)
  have ht1 := ht.1
  have hs1 := hs.1
  refine ⟨by simp; decide, fun p0 n0 => ?_⟩
  walk_at "sts"
  refine r_lenS lt1 ?_
  walk_at "sts"
  refine r_mulL upd_same (by omega) (by omega) (Nat.le_trans (show [V.int 0].length * ((top.length : Int) + 1).toNat ≤ 1000 by simp; omega) (by decide)) fun p1 n1 => ?_
  walk_at "sts"
  refine ⟨by simp; decide, fun t n2 => ?_⟩
  walk_at "sts"
  refine .inr (.inr ⟨side, rfl, ?_⟩)
  have e0 : (List.replicate ((top.length : Int) + 1).toNat [V.int 0]).flatten = (rowT side.cps.toList top.cps.toList 0 (top.length + 1)).map V.int := by
    rw [show ((top.length : Int) + 1).toNat = top.length + 1 by omega]
    exact zeros _ _ _
  rw [e0] at n2 ⊢
  have nt : H t = none := (((Same.refl H).upd n0).upd n1).free n2
  have npt : p1 ≠ t := fun z => by rw [z, upd_same] at n2; cases n2
  refine for_str (z := side) (fun i σ H' => Same H H' ∧ (∃ rs, (∀ r ∈ rs, H r = none) ∧ Tab H' t rs (tabT side.cps.toList top.cps.toList (i + 1) (top.length + 1))) ∧ ∃ x3 x4 x5 x6, σ = [some (.str side), some (.str top), some (.ref t), x3, x4, x5, x6])
    ⟨((((Same.refl H).upd n0).upd n1).upd n2), ⟨[p1], fun r hr => by rw [List.mem_singleton.mp hr]; exact ((Same.refl H).upd n0).free n1, ⟨upd_same, by simp [tabT], by simp, by simpa using Ne.symm npt, fun i r xs e1 e2 => ?_⟩⟩, none, none, none, none, rfl⟩ ?_ ?_
  · have hi : i = 0 := by
      have := (List.getElem?_eq_some_iff.mp e1).1
      simp at this; exact this
    subst hi
    simp [tabT] at e1 e2
    subst e1 e2
    exact upd_old n2 upd_same
  · rintro i σ H2 c hc ⟨S2, ⟨rs, fr, TB⟩, x3, x4, x5, x6, rfl⟩
    have hi : i < side.length := by
      have := (List.getElem?_eq_some_iff.mp hc).1
      simpa [Str.length] using this
    have hrl : rs.length = i + 1 := by rw [TB.len]; simp [tabT]
    obtain ⟨r, er⟩ : ∃ r, rs[i]? = some r := ⟨_, List.getElem?_eq_getElem (show i < rs.length by omega)⟩
    have hrow := TB.row i r (rowT side.cps.toList top.cps.toList i (top.length + 1)) er (by unfold tabT; rw [List.getElem?_map, List.getElem?_range (by omega)]; rfl)
    walk_at "sts"
    refine ⟨by simp; decide, fun r2 nr2 => ?_⟩
    walk_at "sts"
    refine r_lenS lt1 ?_
    walk_at "sts"
    refine ⟨_, rfl, by omega, by omega, ?_⟩
    refine for_range (fun j σ H' => Same H2 H' ∧ H' r2 = some (.lst ((rowT side.cps.toList top.cps.toList (i + 1) (j + 1)).map V.int)) ∧ ∃ x5 x6, σ = [some (.str side), some (.str top), some (.ref t), some (.str ⟨#[c]⟩), some (.ref r2), x5, x6])
      ⟨(Same.refl H2).upd nr2, by rw [upd_same]; simp [rowT, lt_z], _, _, rfl⟩ ?_ ?_
    · rintro j σ H3 hj ⟨S3, hr3, x5, x6, rfl⟩
      have hj' : j < top.length := by omega
      have hl : ((rowT side.cps.toList top.cps.toList (i + 1) (j + 1)).map V.int).length < sizeLine := by
        rw [List.length_map, rowT_len]
        exact Nat.lt_of_lt_of_le (show j + 1 < 1000 by omega) (by decide)
      obtain ⟨d, ed, fd⟩ := sgn_at (z := top) (k := 0 + (j : Int)) (j := j) (by omega) hj'
      have tl : atI (rs.map V.ref) (-1) = some (.ref r) := atI_m1 (n := i) (by simp [hrl]) (by rw [List.getElem?_map, er]; rfl)
      walk_at "sts"
      refine r_ixL (SqL.of (S3 _ _ TB.at_)) tl ?_
      walk_at "sts"
      refine r_ixL (SqL.of (S3 _ _ hrow)) (row_at (j := j + 1) (by omega) (by omega)) ?_
      walk_at "sts"
      refine r_ixL (SqL.of hr3) (row_at (j := j) (by omega) (by omega)) ?_
      walk_at "sts"
      refine r_ixS lt1 fd ?_
      walk_at "sts"
      refine iteD (fun hk => ?_) (fun hk => ?_)
      · have ec : side.cps.toList[i]? = top.cps.toList[j]? := by rw [hc, ed, sign_eq.mp hk]
        walk_at "sts"
        refine r_ixL (SqL.of (S3 _ _ TB.at_)) tl ?_
        walk_at "sts"
        refine r_ixL (SqL.of (S3 _ _ hrow)) (row_at (j := j) (by omega) (by omega)) ?_
        walk_at "sts"
        refine ⟨.inl ⟨rfl, _, SqL.of hr3⟩, ?_⟩
        walk_at "sts"
        refine r_append hr3 hl ⟨over S3 nr2, ?_, _, _, rfl⟩
        rw [upd_same, rowT_succ _ _ (i + 1) (j + 1), lt_eq ec, List.map_append]; rfl
      · have ec : ¬ side.cps.toList[i]? = top.cps.toList[j]? := by
          rw [hc, ed]
          intro z
          exact hk (by rw [Option.some.inj z])
        walk_at "sts"
        refine ⟨.inl ⟨rfl, _, SqL.of hr3⟩, ?_⟩
        walk_at "sts"
        refine r_append hr3 hl ⟨over S3 nr2, ?_, _, _, rfl⟩
        rw [upd_same, rowT_succ _ _ (i + 1) (j + 1), lt_s, if_neg ec, List.map_append]; rfl
    · rintro σ H3 ⟨S3, hr3, x5, x6, rfl⟩
      rw [show ((top.length : Int)).toNat = top.length by omega] at hr3
      walk_at "sts"
      refine ⟨.inl ⟨rfl, _, SqL.of (S3 _ _ TB.at_)⟩, ?_⟩
      walk_at "sts"
      refine r_append (S3 _ _ TB.at_) (by rw [List.length_map, hrl]; exact Nat.lt_of_lt_of_le (show i + 1 < 1000 by omega) (by decide)) ?_
      exact ⟨over (S2.trans S3) nt, ⟨rs ++ [r2], fun r hr => (List.mem_append.mp hr).elim (fr r) fun z => by rw [List.mem_singleton.mp z]; exact S2.free nr2, TB.grow S3 nr2 hr3⟩, _, _, _, _, rfl⟩
  · rintro σ H2 ⟨S2, ⟨rs, fr, TB⟩, x3, x4, x5, x6, rfl⟩
    walk_at "sts"
    exact q t rs H2 nt fr S2 TB
theorem sc_law_pairs : FnScope ["_law_side", "_law_top", "_law_found", "_law_i"] ["_law_side", "_law_top"] (defScope s_law_pairs) := ⟨rfl, rfl, rfl, by decide +kernel, rfl, by decide +kernel, by decide +kernel⟩
theorem h_law_pairs (T : Txt K mg) : Has P w K mg base 1 "_law_pairs" ["_law_side", "_law_top"] spPairs := by
  refine hasJ T.d_law_pairs sc_law_pairs (fun _ _ _ _ _ _ us hl => L2.usN2 (fun _ _ => rfl) us hl) ?_ fun f cdv A outer s H vs Q E hr h => ?_
  · rintro vs H Q E ⟨side, top, rfl, _⟩; rfl
  obtain ⟨side, top, rfl, hs, ht, q⟩ := h
  have hu := hr.units0
  have hu64 := hr.units
  refine ⟨_, (jb_cons (js_set (i := 2) sc_law_pairs.nd rfl (Or.inl k_law_pairs__law_found) (j_lst ja_nil) rfl) (jb_cons (js_for PassesOwn.never rfl (ji_range1 (glF k_law_pairs_range) T.b_range (ja_cons (j_callB (call_lenK (K := K) rfl) (glF k_law_pairs_len) T.b_len bt_len (ja_cons (j_vC 0 k_law_pairs__law_side) ja_nil) (by decide +kernel) (by decide +kernel)) ja_nil)) (jg_name (i := 3) sc_law_pairs.nd rfl (Or.inr k_law_pairs__law_i) rfl) (jb_one (js_expr (j_meth (K := K) rfl PySem.F.plainAttrs_list PySem.F.slot_list_extend PySem.F.type_list_extend mt_extend (j_vL 2 k_law_pairs__law_found) (ja_cons (j_comp (sub := [none, some 3, some 0, some 1]) (subOk_of (N := ["_law_side", "_law_top", "_law_found", "_law_i"]) (sc := defScope s_law_pairs) (N' := ["_law_j", "_law_i", "_law_side", "_law_top"]) (by decide +kernel)) rfl rfl rfl (ji_range1 (glF k_law_pairs_range) T.b_range (ja_cons (j_callB (call_lenK (K := K) rfl) (glF k_law_pairs_len) T.b_len bt_len (ja_cons (j_vC 1 k_law_pairs__law_top) ja_nil) (by decide +kernel) (by decide +kernel)) ja_nil)) (fun C s₀ H₀ ex => (jg_B 0 (by decide +kernel) nd_law_pairs_0)) (fun C s₀ H₀ ex => (jif_one (jt_cmp (op_eqX (K := K) rfl hu64) (j_ix (K := K) rfl (j_vBF 2 (by decide +kernel)) (j_vBF 1 (by decide +kernel))) (j_ix (K := K) rfl (j_vBF 3 (by decide +kernel)) (j_vBL 0 (by decide +kernel))) (by first | exact nomark _ | with_unfolding_all rfl)))) (fun C s₀ H₀ ex => (j_tup (ja_cons (j_vBF 1 (by decide +kernel)) (ja_cons (j_vBL 0 (by decide +kernel)) ja_nil))))) ja_nil))))) (jb_one (js_ret (j_vL 2 k_law_pairs__law_found))))), ?_⟩
  walk_at "sts"
  have ls : side.length ≤ sizeLine := Nat.le_trans hs.1 (by decide)
  have lt1 : top.length ≤ sizeLine := Nat.le_trans ht.1 (by decide)
  have ht1 := ht.1
  have hs1 := hs.1
  refine ⟨by simp, fun pq npq => ?_⟩
  walk_at "sts"
  refine r_lenS ls ?_
  walk_at "sts"
  refine ⟨_, rfl, by omega, by omega, ?_⟩
  refine for_range (fun i σ H' => Same H H' ∧ PL H' pq (prs side.cps.toList top.cps.toList i) ∧ ∃ x3, σ = [some (.str side), some (.str top), some (.ref pq), x3])
    ⟨(Same.refl H).upd npq, ⟨[], upd_same, DRs_nil.mpr rfl⟩, none, rfl⟩ ?_ ?_
  · rintro i σ H2 hi ⟨S2, PL2, x3, rfl⟩
    obtain ⟨vs, e0, hvl, hvd⟩ := PL2.len
    obtain ⟨d1, ed1, fd1⟩ := sgn_at (z := side) (k := 0 + (i : Int)) (j := i) (by omega) (by omega)
    walk_at "sts"
    refine ⟨.inl ⟨rfl, _, SqL.of e0⟩, ?_⟩
    walk_at "sts"
    refine r_lenS lt1 ?_
    walk_at "sts"
    refine ⟨_, rfl, by omega, by omega, ?_⟩
    refine comp_rng (fun j ys H' => Same H2 H' ∧ DRs H' ((rowP side.cps.toList top.cps.toList i j).map pD) ys) (Nat.le_trans (show _ ≤ 1000 by omega) (by decide)) ⟨Same.refl _, DRs_nil.mpr rfl⟩ (by
      rintro j ys H' ⟨_, hd⟩
      have a := DRs_len hd
      have b := rowP_len side.cps.toList top.cps.toList i j
      rw [List.length_map] at a
      omega) ?_ ?_
    · rintro j ys H3 hj ⟨S3, hd⟩
      obtain ⟨d2, ed2, fd2⟩ := sgn_at (z := top) (k := 0 + (j : Int)) (j := j) (by omega) (by omega)
      walk_at "sts"
      refine ⟨KeepSt.set rfl, ?_⟩
      walk_at "sts"
      refine r_ixS ls fd1 ?_
      walk_at "sts"
      refine r_ixS lt1 fd2 ?_
      walk_at "sts"
      refine iteD (fun hk => ?_) (fun hk => ?_)
      · have ec : side.cps.toList[i]? = top.cps.toList[j]? := by rw [ed1, ed2, sign_eq.mp hk]
        walk_at "sts"
        refine ⟨by simp; decide, fun T nT => ⟨S3.upd nT, ?_⟩⟩
        rw [rowP_succ, if_pos ec, List.map_append]
        refine DRs_append (DRs_keep (TK.new nT) _ _ hd) (DRs_one (DR_pD.mpr ⟨T, rfl, ?_⟩))
        rw [upd_same]; simp
      · have ec : ¬ side.cps.toList[i]? = top.cps.toList[j]? := by
          rw [ed1, ed2]
          intro z
          exact hk (by rw [Option.some.inj z])
        refine ⟨S3, ?_⟩
        rw [rowP_succ, if_neg ec, List.append_nil]
        exact hd
    · rintro ys H3 ⟨S3, hd⟩ D hD
      have e1 : upd H3 D (.lst ys) pq = some (.lst vs) := upd_old hD (S3 _ _ e0)
      have b := rowP_len side.cps.toList top.cps.toList i ((top.length : Int)).toNat
      have a := DRs_len hd
      have c := prs_len side.cps.toList top.cps.toList i
      have d : i * top.cps.toList.length ≤ 48 * 48 := Nat.mul_le_mul (by omega) (by rw [← len_cps]; exact ht1)
      rw [List.length_map] at a
      walk_at "sts"
      refine ⟨pq, D, vs, ys, rfl, rfl, e1, upd_same, Nat.le_trans (show _ ≤ 5000 by omega) (by decide), ?_⟩
      refine ⟨over ((S2.trans S3).upd hD) npq, ⟨vs ++ ys, upd_same, ?_⟩, _, rfl⟩
      have tk := (TK.new (H := H3) (o := .lst ys) hD).trans (TK.lst (o := .lst (vs ++ ys)) e1)
      have el : ((top.length : Int)).toNat = top.cps.toList.length := by rw [← len_cps]; omega
      rw [el] at hd
      rw [prs, List.map_append]
      exact DRs_append (DRs_keep ((TK.same S3).trans tk) _ _ hvd) (DRs_keep tk _ _ hd)
  · rintro σ H2 ⟨S2, PL2, x3, rfl⟩
    rw [show ((side.length : Int)).toNat = side.length by omega] at PL2
    walk_at "sts"
    exact q pq H2 npq S2 PL2
noncomputable def spRow3 : Sp := fun vs H Q _ => ∃ (p q : Addr) (ys : List Str) (m : Int), vs = [.ref p, .ref q, .int m] ∧ Pur H p ∧ H q = some (.lst (ys.map V.str)) ∧ ys ≠ [] ∧ ys.length ≤ 26 ∧ GoodS ys ∧ 0 ≤ m ∧ m ≤ 48 ∧
  ∀ (z : Str) (H' : Hp), Row z → Pur H' p → Chg p H H' → Q (.str z) H'
theorem sc_law_row : FnScope ["_law_purse_here", "_law_signs", "_law_most"] ["_law_purse_here", "_law_signs", "_law_most"] (defScope s_law_row) := ⟨rfl, rfl, rfl, by decide +kernel, rfl, by decide +kernel, by decide +kernel⟩
theorem h_law_row (T : Txt K mg) : Has P w K mg base 3 "_law_row" ["_law_purse_here", "_law_signs", "_law_most"] spRow3 := by
  have h_law_take := h_law_take (P := P) (w := w) (base := base) T
  have h_law_drawn := h_law_drawn (P := P) (w := w) (base := base) T
  refine hasJ T.d_law_row sc_law_row (fun _ _ _ _ _ _ us hl => L2.usN3 (fun _ _ _ => rfl) us hl) ?_ fun f cdv A outer s H vs Q E hr h => ?_
  · rintro vs H Q E ⟨p, r, ys, m, rfl, _⟩; rfl
  obtain ⟨p, r, ys, m, rfl, hP, hr0, hne, hle, hone, m0, m1, q⟩ := h
  have hu := hr.units0
  have hu64 := hr.units
  refine ⟨_, (jb_cons (js_if (jt_cmp (op_eqX (K := K) rfl hu64) (j_call h_law_take (hr.mono (by decide)) (glF k_law_row__law_take) (ja_cons (j_vL 0 k_law_row__law_purse_here) (ja_cons j_int ja_nil)) (by decide +kernel)) j_int (by first | exact nomark _ | with_unfolding_all rfl)) (jb_one (js_ret (j_call h_law_drawn (hr.mono (by decide)) (glF k_law_row__law_drawn) (ja_cons (j_vL 0 k_law_row__law_purse_here) (ja_cons (j_op op_addA (j_vL 1 k_law_row__law_signs) (j_lst (ja_cons j_str ja_nil))) (ja_cons (j_vL 2 k_law_row__law_most) ja_nil))) (by decide +kernel)))) jb_nil) (jb_one (js_ret (j_call h_law_drawn (hr.mono (by decide)) (glF k_law_row__law_drawn) (ja_cons (j_vL 0 k_law_row__law_purse_here) (ja_cons (j_vL 1 k_law_row__law_signs) (ja_cons (j_vL 2 k_law_row__law_most) ja_nil))) (by decide +kernel))))), ?_⟩
  walk_at "sts"
  have nrp := purNe hP hr0
  refine ⟨p, 3, rfl, hP, by omega, by omega, fun d2 H2 a2 b2 P2 C2 => ?_⟩
  walk_at "sts"
  have hr2 := C2.at_ hr0 nrp
  refine iteD (fun h1 => ?_) (fun h1 => ?_)
  · walk_at "sts"
    refine ⟨by simp; decide, fun m1 n1 => ?_⟩
    refine r_addL (upd_old n1 hr2) upd_same (by simp; exact Nat.le_trans (show ys.length + 1 ≤ 1000 by omega) (by decide)) fun m2 n2 => ?_
    walk_at "sts"
    refine ⟨p, m2, ys ++ [Str.ofString "."], m, rfl, (P2.new n1).new n2, by rw [upd_same]; simp, by simp, by simp; omega, fun y hy => ?_, by omega, by omega, fun z H' hz P' C' => q z H' hz P' ((((C2.new n1).new n2)).trans C')⟩
    rcases List.mem_append.mp hy with h | h
    · exact hone y h
    · rw [List.mem_singleton.mp h]; exact ⟨46, by decide +kernel, by decide +kernel⟩
  · walk_at "sts"
    exact ⟨p, r, ys, m, rfl, P2, hr2, hne, by omega, hone, by omega, by omega, fun z H' hz P' C' => q z H' hz P' (C2.trans C')⟩
theorem sc_law_ahead : FnScope ["_law_one", "_law_other"] ["_law_one", "_law_other"] (defScope s_law_ahead) := ⟨rfl, rfl, rfl, by decide +kernel, rfl, by decide +kernel, by decide +kernel⟩
theorem h_law_ahead (T : Txt K mg) : Has P w K mg base 1 "_law_ahead" ["_law_one", "_law_other"] spAhead := by
  refine hasJ T.d_law_ahead sc_law_ahead (fun _ _ _ _ _ _ us hl => L2.usN2 (fun _ _ => rfl) us hl) ?_ fun f cdv A outer s H vs Q E hr h => ?_
  · rintro vs H Q E ⟨a, b, i, j, k, l, rfl, _⟩; rfl
  obtain ⟨a, b, i, j, k, l, rfl, ha, hb, q⟩ := h
  have hu := hr.units0
  have hu64 := hr.units
  refine ⟨_, (jb_one (js_ret (j_and (j_cmp op_lt (j_ix (K := K) rfl (j_vL 0 k_law_ahead__law_one) j_int) (j_ix (K := K) rfl (j_vL 1 k_law_ahead__law_other) j_int) (by first | exact nomark _ | with_unfolding_all rfl)) (j_one (j_cmp op_lt (j_ix (K := K) rfl (j_vL 0 k_law_ahead__law_one) j_int) (j_ix (K := K) rfl (j_vL 1 k_law_ahead__law_other) j_int) (by first | exact nomark _ | with_unfolding_all rfl)))))), ?_⟩
  walk_at "sts"
  by_cases h1 : i < k
  · rw [decide_eq_true h1] at q ⊢
    walk_at "sts"
    exact q
  · rw [decide_eq_false h1] at q ⊢
    walk_at "sts"
    exact q
end

section
variable {P : Program} {w : World} {K : PySem.W.Frag} {mg : Str → Option Value} {base : Heap}
theorem k_law_shuffled__law_found : (defScope s_law_shuffled).names.lookup ("_law_found" : Str) = some NameKind.local := by decide +kernel
theorem k_law_shuffled__law_left : (defScope s_law_shuffled).names.lookup ("_law_left" : Str) = some NameKind.local := by decide +kernel
theorem k_law_shuffled__law_take : (defScope s_law_shuffled).names.lookup ("_law_take" : Str) = some NameKind.globalImplicit := by decide +kernel
theorem k_law_shuffled_len : (defScope s_law_shuffled).names.lookup ("len" : Str) = some NameKind.globalImplicit := by decide +kernel
theorem k_law_shuffled__law_purse_here : (defScope s_law_shuffled).names.lookup ("_law_purse_here" : Str) = some NameKind.local := by decide +kernel
theorem k_law_shuffled_list : (defScope s_law_shuffled).names.lookup ("list" : Str) = some NameKind.globalImplicit := by decide +kernel
theorem k_law_shuffled__law_things : (defScope s_law_shuffled).names.lookup ("_law_things" : Str) = some NameKind.local := by decide +kernel
noncomputable def MR (r : R2) : Prop := ∀ x y H Q Q', (∀ v H1, Q v H1 → Q' v H1) → r x y H Q → r x y H Q'
noncomputable def ME (te : TE) : Prop := ∀ σ H Q Q', (∀ v H1, Q v H1 → Q' v H1) → te σ H Q → te σ H Q'
noncomputable def MT (te : TT) : Prop := ∀ σ H Q Q', (∀ v H1, Q v H1 → Q' v H1) → te σ H Q → te σ H Q'
theorem me_var (i : Nat) : ME (tVar i) := by
  rintro σ H Q Q' h ⟨v, e, q⟩
  exact ⟨v, e, h _ _ q⟩
theorem me_op {r : R2} {ta tb : TE} (hr : MR r) (ha : ME ta) (hb : ME tb) : ME (tOp r ta tb) := fun σ H Q Q' h q => ha σ H _ _ (fun x H1 q1 => hb σ H1 _ _ (fun y H2 q2 => hr _ _ _ _ _ h q2) q1) q
theorem mt_test {te : TE} (h : ME te) : MT (tTest te) := fun σ H Q Q' hq q => h σ H _ _ (fun x H1 ⟨k, e, q1⟩ => ⟨k, e, hq _ _ q1⟩) q
theorem mr_neB : MR (rNeB K) := by
  intro x y H Q Q' h z
  rcases z with (z | ⟨a, b, ns, ms, e1, e2, e3, e4, q⟩) | ⟨d, e, e1, e2, e3, e4, q⟩
  · exact .inl (.inl ⟨z.1, h _ _ z.2⟩)
  · exact .inl (.inr ⟨a, b, ns, ms, e1, e2, e3, e4, h _ _ q⟩)
  · exact .inr ⟨d, e, e1, e2, e3, e4, h _ _ q⟩
theorem me_lst0 : ME (tLst tNil) := fun σ H Q Q' h q => ⟨q.1, fun p np => h _ _ (q.2 p np)⟩
noncomputable def Zl (H : Hp) (zs : List (V × PP)) : Prop := ∀ z ∈ zs, DR H (pD z.2) z.1
theorem Zl.drs {H : Hp} : ∀ {zs : List (V × PP)}, Zl H zs → DRs H ((zs.map (·.2)).map pD) (zs.map (·.1))
  | [], _ => DRs_nil.mpr rfl
  | z :: zs, h => DRs_cons.mpr ⟨_, _, rfl, h z List.mem_cons_self, Zl.drs fun y hy => h y (List.mem_cons_of_mem _ hy)⟩
theorem Zl.keep {H H' : Hp} {zs : List (V × PP)} (h : Zl H zs) (t : TK H H') : Zl H' zs := fun z hz => by
  obtain ⟨a, e, ha⟩ := DR_pD.mp (h z hz)
  exact DR_pD.mpr ⟨a, e, t _ _ ha⟩
theorem TK.chg {H H' : Hp} {p : Addr} (hP : Pur H p) (c : Chg p H H') : TK H H' := fun b xs e => by
  obtain ⟨a1, a2, a3, ep, _⟩ := hP
  exact c b _ (fun z => by rw [z, ep] at e; cases e) e
theorem chgPut {p r : Addr} {H H' : Hp} {o : HO} (c : Chg p H H') (hn : H r = none) : Chg p H (upd H' r o) := fun b u nb e => by
  rw [upd_ne (fun z => by rw [z, hn] at e; cases e)]
  exact c b u nb e
theorem purPut {H : Hp} {p r : Addr} {o : HO} (h : Pur H p) (n : r ≠ p) : Pur (upd H r o) p := by
  obtain ⟨a, b, c, e, x⟩ := h
  exact ⟨a, b, c, (upd_ne (fun z => n z.symm)).trans e, x⟩
theorem eqv_nil (ps : List PP) : PyData.eqv (.list (ps.map pD)) (.list []) = ps.isEmpty := by
  cases ps with
  | nil => simp [PyData.eqv, PyData.eqvAll]
  | cons p ps => simp [PyData.eqv, PyData.eqvAll]
theorem map_erase {α β : Type} (f : α → β) : ∀ (l : List α) (k : Nat), (l.map f).eraseIdx k = (l.eraseIdx k).map f
  | [], _ => rfl
  | _ :: _, 0 => rfl
  | a :: l, k + 1 => by
    show f a :: (l.map f).eraseIdx k = _
    rw [map_erase f l k]; rfl
theorem erase_perm {α : Type} : ∀ (l : List α) (k : Nat) (h : k < l.length), (l[k] :: l.eraseIdx k).Perm l
  | a :: l, 0, _ => List.Perm.refl _
  | a :: l, k + 1, h => (List.Perm.swap _ _ _).trans (List.Perm.cons a (erase_perm l k (by simpa using h)))
noncomputable def spShuf : Sp := fun vs H Q _ => ∃ (p q : Addr) (zs : List (V × PP)), vs = [.ref p, .ref q] ∧ Pur H p ∧ H q = some (.lst (zs.map (·.1))) ∧ q ≠ p ∧ zs.length ≤ 5000 ∧ Zl H zs ∧
  ∀ (r : Addr) (ys : List (V × PP)) (H' : Hp), H r = none → Pur H' p → Chg p H H' → H' r = some (.lst (ys.map (·.1))) → ys.Perm zs → Q (.ref r) H'
theorem sc_law_shuffled : FnScope ["_law_purse_here", "_law_things", "_law_left", "_law_found"] ["_law_purse_here", "_law_things"] (defScope s_law_shuffled) := ⟨rfl, rfl, rfl, by decide +kernel, rfl, by decide +kernel, by decide +kernel⟩
theorem h_law_shuffled (T : Txt K mg) : Has P w K mg base 2 "_law_shuffled" ["_law_purse_here", "_law_things"] spShuf := by
  have h_law_take := h_law_take (P := P) (w := w) (base := base) T
  refine hasJ T.d_law_shuffled sc_law_shuffled (fun _ _ _ _ _ _ us hl => L2.usN2 (fun _ _ => rfl) us hl) ?_ fun f cdv A outer s H vs Q E hr h => ?_
  · rintro vs H Q E ⟨p, q, zs, rfl, _⟩; rfl
  obtain ⟨p, q, zs, rfl, hP, hq, nqp, hlen, hZ, qq⟩ := h
  have hu := hr.units0
  have hu64 := hr.units
  refine ⟨_, (jb_cons (js_set (i := 2) sc_law_shuffled.nd rfl (Or.inl k_law_shuffled__law_left) (j_callTy (call_listK (K := K) rfl rfl) (glF k_law_shuffled_list) T.b_list bt_list (ja_cons (j_vL 1 k_law_shuffled__law_things) ja_nil) (by decide +kernel) (by decide +kernel)) rfl) (jb_cons (js_set (i := 3) sc_law_shuffled.nd rfl (Or.inl k_law_shuffled__law_found) (j_lst ja_nil) rfl) (jb_cons (js_while PassesOwn.never (jt_cmp (op_neX (K := K) rfl hu64) (j_vL 2 k_law_shuffled__law_left) (j_lst ja_nil) (by first | exact nomark _ | with_unfolding_all rfl)) (jb_one (js_expr (j_meth (K := K) rfl PySem.F.plainAttrs_list PySem.F.slot_list_append PySem.F.type_list_append mt_append (j_vL 3 k_law_shuffled__law_found) (ja_cons (j_meth (K := K) rfl PySem.F.plainAttrs_list PySem.F.slot_list_pop PySem.F.type_list_pop mt_popI (j_vL 2 k_law_shuffled__law_left) (ja_cons (j_call h_law_take (hr.mono (by decide)) (glF k_law_shuffled__law_take) (ja_cons (j_vL 0 k_law_shuffled__law_purse_here) (ja_cons (j_callB (call_lenK (K := K) rfl) (glF k_law_shuffled_len) T.b_len bt_len (ja_cons (j_vL 2 k_law_shuffled__law_left) ja_nil) (by decide +kernel) (by decide +kernel)) ja_nil)) (by decide +kernel)) ja_nil)) ja_nil))))) (jb_one (js_ret (j_vL 3 k_law_shuffled__law_found)))))), ?_⟩
  walk_at "sts"
  have hs : 10000 ≤ sizeLine := by decide
  refine r_listL (SqL.of hq) fun L nL => ?_
  have nLp := hP.ne nL
  have P1 := hP.new nL (o := .lst (zs.map (·.1)))
  have C1 := (Chg.refl p H).new nL (o := .lst (zs.map (·.1)))
  have eL := upd_same (H := H) (a := L) (o := .lst (zs.map (·.1)))
  generalize upd H L (.lst (zs.map (·.1))) = H1 at P1 C1 eL ⊢
  walk_at "sts"
  refine r_new rfl fun F nF => ?_
  have nFp := P1.ne nF
  have nFH : H F = none := by
    cases e : H F with
    | none => rfl
    | some o => rw [C1 _ _ nFp e] at nF; cases nF
  have nLF : L ≠ F := fun z => by rw [z, nF] at eL; cases eL
  have P2 := P1.new nF (o := .lst [])
  have C2 := C1.new nF (o := .lst [])
  have eL2 := upd_old nF eL (o := .lst [])
  have eF := upd_same (H := H1) (a := F) (o := .lst [])
  generalize upd H1 F (.lst []) = H2 at P2 C2 eL2 eF ⊢
  walk_at "sts"
  refine while_by (fun σ G => Chg p H G ∧ Pur G p ∧ (∃ ls fs : List (V × PP), G L = some (.lst (ls.map (·.1))) ∧ G F = some (.lst (fs.map (·.1))) ∧ (fs ++ ls).Perm zs) ∧ σ = [some (.ref p), some (.ref q), some (.ref L), some (.ref F)])
    (fun _ G => match G L with | some (.lst xs) => xs.length | _ => 0) ⟨C2, P2, ⟨zs, [], eL2, eF, List.Perm.refl _⟩, rfl⟩ ?_ (mt_test (me_op mr_neB (me_var 2) me_lst0))
  rintro σ G ⟨CG, PG, ⟨ls, fs, gL, gF, pm⟩, rfl⟩
  have lls : fs.length + ls.length ≤ 5000 := by
    have := pm.length_eq
    simp at this
    omega
  have hZl : Zl H ls := fun z hz => hZ z (pm.mem_iff.mp (List.mem_append_right _ hz))
  walk_at "sts"
  refine r_new rfl fun E nE => ?_
  have nEp := PG.ne nE
  have P3 := PG.new nE (o := .lst [])
  have C3 := CG.new nE (o := .lst [])
  have gL3 := upd_old nE gL (o := .lst [])
  have gF3 := upd_old nE gF (o := .lst [])
  have gE3 := upd_same (H := G) (a := E) (o := .lst [])
  have gL' : (match G L with | some (.lst xs) => xs.length | _ => 0) = ls.length := by rw [gL]; simp
  rw [gL']
  generalize upd G E (.lst []) = G3 at P3 C3 gL3 gF3 gE3 ⊢
  walk_at "sts"
  refine r_neData (d := .list ((ls.map (·.2)).map pD)) (e := .list []) (DR_list.mpr ⟨L, _, rfl, gL3, (hZl.keep (TK.chg hP C3)).drs⟩) (DR_list.mpr ⟨E, [], rfl, gE3, DRs_nil.mpr rfl⟩) (shaped_ps _) rfl ?_
  rw [eqv_nil]
  by_cases hls : ls = []
  · subst hls
    rw [show (List.map (fun z : V × PP => z.2) []).isEmpty = true from rfl]
    walk_at "sts"
    exact qq F fs G3 nFH P3 C3 gF3 (by simpa using pm)
  · have hpos : 0 < ls.length := List.length_pos_iff.mpr hls
    rw [show (List.map (fun z : V × PP => z.2) ls).isEmpty = false from by cases ls with | nil => exact absurd rfl hls | cons _ _ => rfl]
    walk_at "sts"
    refine ⟨.inl ⟨rfl, _, SqL.of gF3⟩, ?_⟩
    walk_at "sts"
    refine ⟨.inl ⟨rfl, _, SqL.of gL3⟩, ?_⟩
    walk_at "sts"
    refine r_lenL (SqL.of gL3) ?_
    walk_at "sts"
    refine ⟨p, _, rfl, P3, by simp; omega, by simp; omega, fun d G4 d0 d1 P4 C4 => ?_⟩
    obtain ⟨k, rfl⟩ : ∃ k : Nat, d = k := ⟨d.toNat, (Int.toNat_of_nonneg d0).symm⟩
    have hk : k < ls.length := by simp at d1; omega
    have gL4 := C4.at_ gL3 nLp
    have gF4 := C4.at_ gF3 nFp
    walk_at "sts"
    refine r_popI gL4 (y := ls[k].1) (by rw [List.getElem?_map, List.getElem?_eq_getElem hk]; rfl) (by omega) ?_
    rw [map_erase]
    have P5 := purPut (o := .lst ((ls.eraseIdx k).map (·.1))) P4 nLp
    have C5 := chgPut (o := .lst ((ls.eraseIdx k).map (·.1))) (C3.trans C4) nL
    have gL5 := upd_same (H := G4) (a := L) (o := .lst ((ls.eraseIdx k).map (·.1)))
    have gF5 : upd G4 L (.lst ((ls.eraseIdx k).map (·.1))) F = _ := (upd_ne nLF.symm).trans gF4
    generalize upd G4 L (.lst ((ls.eraseIdx k).map (·.1))) = G5 at P5 C5 gL5 gF5 ⊢
    walk_at "sts"
    refine r_append gF5 (by simp; omega) ?_
    have e6 : fs.map (·.1) ++ [ls[k].1] = (fs ++ [ls[k]]).map (·.1) := by simp
    rw [e6]
    have gL6 : upd G5 F (.lst ((fs ++ [ls[k]]).map (·.1))) L = _ := (upd_ne nLF).trans gL5
    refine ⟨⟨chgPut C5 nFH, purPut P5 nFp, ⟨ls.eraseIdx k, fs ++ [ls[k]], gL6, upd_same, ?_⟩, rfl⟩, ?_⟩
    · refine List.Perm.trans ?_ pm
      rw [List.append_assoc]
      exact List.Perm.append_left _ (erase_perm ls k hk)
    · rw [gL6]
      show ((ls.eraseIdx k).map (·.1)).length < ls.length
      rw [List.length_map, List.length_eraseIdx_of_lt hk]
      omega
end

section
variable {P : Program} {w : World} {K : PySem.W.Frag} {mg : Str → Option Value} {base : Heap}
theorem nd_law_some_thread_0 : (["_law_other", "_law_pair"] : List Str).Nodup := by decide +kernel
theorem k_law_some_thread_sorted : (defScope s_law_some_thread).names.lookup ("sorted" : Str) = some NameKind.globalImplicit := by decide +kernel
theorem k_law_some_thread__law_thread : (defScope s_law_some_thread).names.lookup ("_law_thread" : Str) = some NameKind.local := by decide +kernel
theorem k_law_some_thread__law_shuffled : (defScope s_law_some_thread).names.lookup ("_law_shuffled" : Str) = some NameKind.globalImplicit := by decide +kernel
theorem k_law_some_thread__law_pairs_here : (defScope s_law_some_thread).names.lookup ("_law_pairs_here" : Str) = some NameKind.local := by decide +kernel
theorem k_law_some_thread__law_purse_here : (defScope s_law_some_thread).names.lookup ("_law_purse_here" : Str) = some NameKind.local := by decide +kernel
theorem k_law_some_thread__law_pair : (defScope s_law_some_thread).names.lookup ("_law_pair" : Str) = some NameKind.cell := by decide +kernel
theorem k_law_some_thread_all : (defScope s_law_some_thread).names.lookup ("all" : Str) = some NameKind.globalImplicit := by decide +kernel
theorem nodup_lt : ∀ (n : Nat) (l : List Nat), l.Nodup → (∀ x ∈ l, x < n) → l.length ≤ n
  | 0, l, _, h => by
    cases l with
    | nil => exact Nat.le_refl _
    | cons a l => exact absurd (h a List.mem_cons_self) (by omega)
  | n + 1, l, hn, h => by
    have ih := nodup_lt n (l.erase n) (hn.erase n) fun x hx => by
      have := (hn.mem_erase_iff).mp hx
      have := h x this.2
      omega
    rw [List.length_erase] at ih
    split at ih <;> omega
noncomputable def Cm (p q : PP) : Prop := Ah p q ∨ Ah q p
theorem Cm.symm {p q : PP} (h : Cm p q) : Cm q p := h.elim .inr .inl
noncomputable def meB (p q : PP) : Bool := (decide ((p.1 : Int) < q.1) && decide ((p.2 : Int) < q.2)) || (decide ((q.1 : Int) < p.1) && decide ((q.2 : Int) < p.2))
theorem meB_iff {p q : PP} : meB p q = true ↔ Cm p q := by
  unfold meB Cm Ah
  rw [Bool.or_eq_true, Bool.and_eq_true, Bool.and_eq_true, decide_eq_true_eq, decide_eq_true_eq, decide_eq_true_eq, decide_eq_true_eq]
  omega
theorem cm_few {ws : List (V × PP)} (h : ws.Pairwise fun a b => Cm a.2 b.2) (hb : ∀ z ∈ ws, z.2.1 < 48) : ws.length ≤ 48 := by
  have := nodup_lt 48 (ws.map fun z => z.2.1) (List.Pairwise.map _ (fun a b hab e => by
    rcases hab with hab | hab
    · have := hab.1; omega
    · have := hab.1; omega) h) (fun x hx => by
      obtain ⟨z, hz, rfl⟩ := List.mem_map.mp hx
      exact hb z hz)
  simpa using this
noncomputable def spSomeT : Sp := fun vs H Q _ => ∃ (p q : Addr) (zs : List (V × PP)), vs = [.ref p, .ref q] ∧ Pur H p ∧ H q = some (.lst (zs.map (·.1))) ∧ q ≠ p ∧ zs.length ≤ 5000 ∧ Zl H zs ∧ (∀ z ∈ zs, z.2.1 < 48) ∧
  ∀ (r : Addr) (ys : List (V × PP)) (H' : Hp), H r = none → Pur H' p → Chg p H H' → H' r = some (.lst (ys.map (·.1))) → (ys.map (·.2)).Pairwise Ah → (∀ z ∈ ys, z ∈ zs) → Q (.ref r) H'
theorem pD_at {H : Hp} {z : V × PP} (h : DR H (pD z.2) z.1) : ∃ a, z.1 = .ref a ∧ H a = some (.tup [.int z.2.1, .int z.2.2]) := DR_pD.mp h
theorem sc_law_some_thread : FnScope ["_law_purse_here", "_law_pairs_here", "_law_thread", "_law_pair"] ["_law_purse_here", "_law_pairs_here"] (defScope s_law_some_thread) := ⟨rfl, rfl, rfl, by decide +kernel, rfl, by decide +kernel, by decide +kernel⟩
theorem h_law_some_thread (T : Txt K mg) : Has P w K mg base 3 "_law_some_thread" ["_law_purse_here", "_law_pairs_here"] spSomeT := by
  have h_law_shuffled := h_law_shuffled (P := P) (w := w) (base := base) T
  have h_law_ahead := h_law_ahead (P := P) (w := w) (base := base) T
  refine hasJ T.d_law_some_thread sc_law_some_thread (fun _ _ _ _ _ _ us hl => L2.usN2 (fun _ _ => rfl) us hl) ?_ fun f cdv A outer s H vs Q E hr h => ?_
  · rintro vs H Q E ⟨p, q, zs, rfl, _⟩; rfl
  obtain ⟨p, q, zs, rfl, hP, hq, nqp, hlen, hZ, hb, qq⟩ := h
  have hu := hr.units0
  have hu64 := hr.units
  refine ⟨_, (jb_cons (js_set (i := 2) sc_law_some_thread.nd rfl (Or.inl k_law_some_thread__law_thread) (j_lst ja_nil) rfl) (jb_cons (js_for PassesOwn.never rfl (ji_seq (K := K) rfl (j_call h_law_shuffled (hr.mono (by decide)) (glF k_law_some_thread__law_shuffled) (ja_cons (j_vL 0 k_law_some_thread__law_purse_here) (ja_cons (j_vL 1 k_law_some_thread__law_pairs_here) ja_nil)) (by decide +kernel))) (jg_name (i := 3) sc_law_some_thread.nd rfl (Or.inr k_law_some_thread__law_pair) rfl) (jb_one (js_if (jt_val (j_callB (call_all rfl) (glF k_law_some_thread_all) T.b_all bt_all (ja_cons (j_comp (sub := [none, some 3]) (subOk_of (N := ["_law_purse_here", "_law_pairs_here", "_law_thread", "_law_pair"]) (sc := defScope s_law_some_thread) (N' := ["_law_other", "_law_pair"]) (by decide +kernel)) rfl rfl rfl (ji_seq (K := K) rfl (j_vL 2 k_law_some_thread__law_thread)) (fun C s₀ H₀ ex => (jg_B 0 (by decide +kernel) nd_law_some_thread_0)) (fun C s₀ H₀ ex => jif_nil) (fun C s₀ H₀ ex => (j_or (j_call h_law_ahead (hr.mono (by decide)) (glB (by decide +kernel)) (ja_cons (j_vBF 1 (by decide +kernel)) (ja_cons (j_vBL 0 (by decide +kernel)) ja_nil)) (by decide +kernel)) (j_one (j_call h_law_ahead (hr.mono (by decide)) (glB (by decide +kernel)) (ja_cons (j_vBL 0 (by decide +kernel)) (ja_cons (j_vBF 1 (by decide +kernel)) ja_nil)) (by decide +kernel)))))) ja_nil) (by decide +kernel) (by decide +kernel))) (jb_one (js_expr (j_meth (K := K) rfl PySem.F.plainAttrs_list PySem.F.slot_list_append PySem.F.type_list_append mt_append (j_vL 2 k_law_some_thread__law_thread) (ja_cons (j_vC 3 k_law_some_thread__law_pair) ja_nil)))) jb_nil))) (jb_one (js_ret (j_callB call_sortedT (glF k_law_some_thread_sorted) T.b_sorted bt_sorted (ja_cons (j_vL 2 k_law_some_thread__law_thread) ja_nil) (by decide +kernel) (by decide +kernel)))))), ?_⟩
  walk_at "sts"
  have hs : 10000 ≤ sizeLine := by decide
  refine r_new rfl fun t nt => ?_
  have ntp := hP.ne nt
  have P1 := hP.new nt (o := .lst [])
  have C1 := (Chg.refl p H).new nt (o := .lst [])
  have et := upd_same (H := H) (a := t) (o := .lst [])
  generalize upd H t (.lst []) = H1 at P1 C1 et ⊢
  walk_at "sts"
  refine ⟨p, q, zs, rfl, P1, C1.at_ hq nqp, nqp, hlen, hZ.keep (TK.chg hP C1), fun r ys H2 nr P2 C2 hr' pm => ?_⟩
  have nrp := P1.ne nr
  have C12 := C1.trans C2
  have et2 := C2.at_ et ntp
  have lys := pm.length_eq
  walk_at "sts"
  refine .inl ⟨r, rfl, ⟨_, SqL.of hr'⟩, ?_⟩
  have ntr : t ≠ r := fun z => by rw [z, nr] at et; cases et
  refine for_list (xs := ys.map (·.1)) (fun i σ G => Chg p H G ∧ Pur G p ∧ G r = some (.lst (ys.map (·.1))) ∧ (∃ ws : List (V × PP), G t = some (.lst (ws.map (·.1))) ∧ (∀ z ∈ ws, z ∈ ys) ∧ ws.Pairwise fun a b => Cm a.2 b.2) ∧ ∃ x3, σ = [some (.ref p), some (.ref q), some (.ref t), x3])
    ⟨C12, P2, hr', ⟨[], et2, (fun z hz => by cases hz), .nil⟩, none, rfl⟩ (fun i σ G _ h => SqL.of h.2.2.1) ?_ ?_
  · rintro i x σ G hx ⟨CG, PG, gr, ⟨ws, gt, sub, cm⟩, x3, rfl⟩
    obtain ⟨z0, ez, rfl⟩ : ∃ z, ys[i]? = some z ∧ x = z.1 := by
      rw [List.getElem?_map] at hx
      cases e : ys[i]? with
      | none => rw [e] at hx; cases hx
      | some z => rw [e] at hx; exact ⟨z, rfl, (Option.some.inj hx).symm⟩
    have mz := List.mem_of_getElem? ez
    have hZG : Zl G zs := hZ.keep (TK.chg hP CG)
    obtain ⟨za, eza, hza⟩ := pD_at (hZG z0 (pm.mem_iff.mp mz))
    have few := cm_few cm fun z hz => hb z (pm.mem_iff.mp (sub z hz))
    rw [eza]
    walk_at "sts"
    refine .inl ⟨t, rfl, ⟨_, SqL.of gt⟩, ?_⟩
    refine comp_list (xs := ws.map (·.1)) (fun k bs G' => G' = G ∧ bs = ((ws.take k).map fun z => meB z0.2 z.2).map V.bl) (by simp; omega) ⟨rfl, rfl⟩ ?_ ?_ ?_ ?_
    · rintro k bs G' ⟨_, rfl⟩
      simp; omega
    · rintro k bs G' ⟨rfl, _⟩
      exact SqL.of gt
    · rintro k bs G' y hy ⟨rfl, rfl⟩
      obtain ⟨z1, ez1, rfl⟩ : ∃ z, ws[k]? = some z ∧ y = z.1 := by
        rw [List.getElem?_map] at hy
        cases e : ws[k]? with
        | none => rw [e] at hy; cases hy
        | some z => rw [e] at hy; exact ⟨z, rfl, (Option.some.inj hy).symm⟩
      obtain ⟨zb, ezb, hzb⟩ := pD_at (hZG z1 (pm.mem_iff.mp (sub z1 (List.mem_of_getElem? ez1))))
      have fin : ((ws.take k).map fun z => meB z0.2 z.2).map V.bl ++ [V.bl (meB z0.2 z1.2)] = ((ws.take (k + 1)).map fun z => meB z0.2 z.2).map V.bl := by
        rw [List.take_add_one, ez1]; simp
      rw [ezb]
      walk_at "sts"
      refine ⟨KeepSt.set rfl, ?_⟩
      walk_at "sts"
      refine ⟨za, zb, _, _, _, _, rfl, hza, hzb, ?_⟩
      cases h1 : (decide ((z0.2.1 : Int) < z1.2.1) && decide ((z0.2.2 : Int) < z1.2.2)) with
      | true =>
        walk_at "sts"
        refine ⟨rfl, ?_⟩
        rw [← fin]
        unfold meB
        rw [h1]; rfl
      | false =>
        walk_at "sts"
        refine ⟨zb, za, _, _, _, _, rfl, hzb, hza, rfl, ?_⟩
        rw [← fin]
        unfold meB
        rw [h1]; rfl
    · rintro bs G' ⟨rfl, rfl⟩ D nD
      have e1 : (ws.take (ws.map (·.1)).length) = ws := by rw [List.length_map, List.take_length]
      rw [e1]
      have nDp := PG.ne nD
      have P5 := PG.new nD (o := .lst ((ws.map fun z => meB z0.2 z.2).map V.bl))
      have C5 := CG.new nD (o := .lst ((ws.map fun z => meB z0.2 z.2).map V.bl))
      have gr5 := upd_old nD gr (o := .lst ((ws.map fun z => meB z0.2 z.2).map V.bl))
      have gt5 := upd_old nD gt (o := .lst ((ws.map fun z => meB z0.2 z.2).map V.bl))
      have hD5 := upd_same (H := G') (a := D) (o := .lst ((ws.map fun z => meB z0.2 z.2).map V.bl))
      generalize upd G' D (.lst ((ws.map fun z => meB z0.2 z.2).map V.bl)) = G5 at P5 C5 gr5 gt5 hD5 ⊢
      walk_at "sts"
      refine ⟨D, _, rfl, hD5, ?_⟩
      walk_at "sts"
      cases hal : (ws.map fun z => meB z0.2 z.2).all id with
      | false =>
        walk_at "sts"
        exact ⟨C5, P5, gr5, ⟨ws, gt5, sub, cm⟩, _, rfl⟩
      | true =>
        walk_at "sts"
        refine ⟨.inl ⟨rfl, _, SqL.of gt5⟩, ?_⟩
        walk_at "sts"
        refine r_append gt5 (by simp; omega) ?_
        have e6 : ws.map (·.1) ++ [.ref za] = (ws ++ [z0]).map (·.1) := by simp [eza]
        rw [e6]
        refine ⟨chgPut C5 nt, purPut P5 ntp, (upd_ne ntr.symm).trans gr5, ⟨ws ++ [z0], upd_same, fun z hz => ?_, ?_⟩, _, rfl⟩
        · rcases List.mem_append.mp hz with hz | hz
          · exact sub z hz
          · rw [List.mem_singleton.mp hz]; exact mz
        · rw [List.pairwise_append]
          refine ⟨cm, by simp, fun a ha b hb' => ?_⟩
          rw [List.mem_singleton.mp hb']
          rw [List.all_map, List.all_eq_true] at hal
          exact (meB_iff.mp (hal a ha)).symm
  · rintro σ G ⟨CG, PG, gr, ⟨ws, gt, sub, cm⟩, x3, rfl⟩
    have few := cm_few cm fun z hz => hb z (pm.mem_iff.mp (sub z hz))
    have hZG : Zl G zs := hZ.keep (TK.chg hP CG)
    have hZw : Zl G ws := fun z hz => hZG z (pm.mem_iff.mp (sub z hz))
    walk_at "sts"
    refine r_sortedT gt (by simp; omega) (ts := ws.map fun z => [(z.2.1 : Int), (z.2.2 : Int)]) ⟨by simp, fun i hi => ?_⟩ fun d ix nd pix srt => ?_
    · rw [List.length_map] at hi
      obtain ⟨a, ea, ha⟩ := pD_at (hZw _ (List.getElem_mem hi))
      refine ⟨a, by rw [List.getElem?_map, List.getElem?_eq_getElem hi, ← ea]; rfl, ?_, ?_⟩
      · rw [List.getD_eq_getElem?_getD, List.getElem?_map, List.getElem?_eq_getElem hi]; exact ha
      · rw [List.getD_eq_getElem?_getD, List.getElem?_map, List.getElem?_eq_getElem hi]
        exact fun z => by cases z
    · rw [List.length_map] at pix
      have pw : (ix.map fun i => ws.getD i (.non, 0, 0)).Perm ws := by
        refine (pix.map _).trans ?_
        have : (List.range ws.length).map (fun i => ws.getD i (.non, 0, 0)) = ws := by
          refine List.ext_getElem (by simp) fun i h1 h2 => ?_
          simp [h2]
        rw [this]
      have e7 : (ix.map fun i => (ws.map (·.1)).getD i .non) = (ix.map fun i => ws.getD i (.non, 0, 0)).map (·.1) := by
        rw [List.map_map]
        refine List.map_congr_left fun i _ => ?_
        show (ws.map (·.1)).getD i .non = (ws.getD i (.non, 0, 0)).1
        rw [List.getD_eq_getElem?_getD, List.getD_eq_getElem?_getD, List.getElem?_map]
        cases ws[i]? <;> rfl
      rw [e7]
      have e8 : (ix.map fun i => (ws.map fun z => [(z.2.1 : Int), (z.2.2 : Int)]).getD i []) = (ix.map fun i => ws.getD i (.non, 0, 0)).map fun z => [(z.2.1 : Int), (z.2.2 : Int)] := by
        rw [List.map_map]
        refine List.map_congr_left fun i hi => ?_
        have hi' := List.mem_range.mp (pix.mem_iff.mp hi)
        show (ws.map fun z => [(z.2.1 : Int), (z.2.2 : Int)]).getD i [] = _
        rw [List.getD_eq_getElem?_getD, List.getElem?_map, List.getElem?_eq_getElem hi']
        simp [hi']
      rw [e8] at srt
      generalize (ix.map fun i => ws.getD i (.non, 0, 0)) = us at pw srt ⊢
      have cmu : us.Pairwise fun a b => Cm a.2 b.2 := (pw.pairwise_iff (fun h => Cm.symm h)).mpr cm
      refine qq d us _ ?_ (PG.new nd) (CG.new nd) upd_same ?_ (fun z hz => pm.mem_iff.mp (sub z (pw.mem_iff.mp hz)))
      · cases e : H d with
        | none => rfl
        | some o => rw [CG _ _ (PG.ne nd) e] at nd; cases nd
      · rw [List.pairwise_map] at srt ⊢
        rw [List.pairwise_iff_getElem] at srt cmu ⊢
        intro i j hi hj hij
        have s := srt i j hi hj hij
        rcases cmu i j hi hj hij with c | c
        · exact c
        · have : HT.lexLt [(us[j].2.1 : Int), (us[j].2.2 : Int)] [(us[i].2.1 : Int), (us[i].2.2 : Int)] = true := by
            have h1 := c.1
            rw [HT.lexLt_cons, if_neg (by omega)]
            exact decide_eq_true (by omega)
          rw [this] at s; cases s
end

section
variable {P : Program} {w : World} {K : PySem.W.Frag} {mg : Str → Option Value} {base : Heap}
theorem nd_law_some_heaps_0 : (["_law_other", "_law_pair"] : List Str).Nodup := by decide +kernel
theorem k_law_some_heaps__law_heaps : (defScope s_law_some_heaps).names.lookup ("_law_heaps" : Str) = some NameKind.local := by decide +kernel
theorem k_law_some_heaps__law_shuffled : (defScope s_law_some_heaps).names.lookup ("_law_shuffled" : Str) = some NameKind.globalImplicit := by decide +kernel
theorem k_law_some_heaps__law_pairs_here : (defScope s_law_some_heaps).names.lookup ("_law_pairs_here" : Str) = some NameKind.local := by decide +kernel
theorem k_law_some_heaps__law_purse_here : (defScope s_law_some_heaps).names.lookup ("_law_purse_here" : Str) = some NameKind.local := by decide +kernel
theorem k_law_some_heaps__law_pair : (defScope s_law_some_heaps).names.lookup ("_law_pair" : Str) = some NameKind.cell := by decide +kernel
theorem k_law_some_heaps__law_there : (defScope s_law_some_heaps).names.lookup ("_law_there" : Str) = some NameKind.local := by decide +kernel
theorem k_law_some_heaps_range : (defScope s_law_some_heaps).names.lookup ("range" : Str) = some NameKind.globalImplicit := by decide +kernel
theorem k_law_some_heaps_len : (defScope s_law_some_heaps).names.lookup ("len" : Str) = some NameKind.globalImplicit := by decide +kernel
theorem k_law_some_heaps__law_start : (defScope s_law_some_heaps).names.lookup ("_law_start" : Str) = some NameKind.local := by decide +kernel
theorem k_law_some_heaps__law_k : (defScope s_law_some_heaps).names.lookup ("_law_k" : Str) = some NameKind.local := by decide +kernel
theorem k_law_some_heaps__law_meets : (defScope s_law_some_heaps).names.lookup ("_law_meets" : Str) = some NameKind.local := by decide +kernel
theorem k_law_some_heaps__law_take : (defScope s_law_some_heaps).names.lookup ("_law_take" : Str) = some NameKind.globalImplicit := by decide +kernel
theorem meB_no {p q : PP} : meB p q = false ↔ ¬ Cm p q := by
  rw [← meB_iff]
  cases meB p q <;> simp
theorem Ah_irr (p : PP) : ¬ Ah p p := fun h => by have := h.1; omega
noncomputable def Put (hs0 : List (List PP)) (pr : PP) (b : Bool) (hs : List (List PP)) : Prop := (b = false ∧ hs = hs0) ∨ (b = true ∧ ∃ k h, hs0[k]? = some h ∧ (∀ x ∈ h, ¬ Cm pr x) ∧ hs = hs0.set k (h ++ [pr]))
theorem set_flat {pr : PP} : ∀ (hs : List (List PP)) (k : Nat) (h : List PP), hs[k]? = some h → (hs.set k (h ++ [pr])).flatten.Perm (hs.flatten ++ [pr])
  | [], k, h, e => by simp at e
  | g :: hs, 0, h, e => by
    have e' : g = h := by simpa using e
    subst e'
    rw [List.set_cons_zero, List.flatten_cons, List.flatten_cons, List.append_assoc, List.append_assoc]
    exact List.Perm.append_left _ List.perm_append_comm
  | g :: hs, k + 1, h, e => by
    rw [List.set_cons_succ, List.flatten_cons, List.flatten_cons, List.append_assoc]
    exact List.Perm.append_left _ (set_flat hs k h (by simpa using e))
structure Hg (hs : List (List PP)) (ps : List PP) : Prop where
  pm : hs.flatten.Perm ps
  ne : ∀ h ∈ hs, h ≠ []
  no : ∀ h ∈ hs, ∀ p ∈ h, ∀ q ∈ h, ¬ Ah p q
theorem no_snoc {h : List PP} {pr : PP} (hn : ∀ p ∈ h, ∀ q ∈ h, ¬ Ah p q) (hc : ∀ x ∈ h, ¬ Cm pr x) : ∀ p ∈ h ++ [pr], ∀ q ∈ h ++ [pr], ¬ Ah p q := fun p hp q hq => by
  rcases List.mem_append.mp hp with hp | hp
  · rcases List.mem_append.mp hq with hq | hq
    · exact hn p hp q hq
    · rw [List.mem_singleton.mp hq]; exact fun z => hc p hp (.inr z)
  · rw [List.mem_singleton.mp hp]
    rcases List.mem_append.mp hq with hq | hq
    · exact fun z => hc q hq (.inl z)
    · rw [List.mem_singleton.mp hq]; exact Ah_irr pr
theorem Hg.put {hs0 hs : List (List PP)} {ps : List PP} {pr : PP} (h : Hg hs0 ps) (p : Put hs0 pr true hs) : Hg hs (ps ++ [pr]) := by
  rcases p with ⟨z, _⟩ | ⟨_, k, g, eg, hc, rfl⟩
  · cases z
  · have mg := List.mem_of_getElem? eg
    refine ⟨(set_flat hs0 k g eg).trans (h.pm.append_right _), fun x hx => ?_, fun x hx => ?_⟩
    · rcases List.mem_or_eq_of_mem_set hx with hx | rfl
      · exact h.ne x hx
      · simp
    · rcases List.mem_or_eq_of_mem_set hx with hx | rfl
      · exact h.no x hx
      · exact no_snoc (h.no g mg) hc
theorem Hg.snoc {hs : List (List PP)} {ps : List PP} {pr : PP} (h : Hg hs ps) : Hg (hs ++ [[pr]]) (ps ++ [pr]) := by
  refine ⟨by rw [List.flatten_append]; exact h.pm.append_right _, fun x hx => ?_, fun x hx => ?_⟩
  · rcases List.mem_append.mp hx with hx | hx
    · exact h.ne x hx
    · rw [List.mem_singleton.mp hx]; simp
  · rcases List.mem_append.mp hx with hx | hx
    · exact h.no x hx
    · rw [List.mem_singleton.mp hx]
      intro p hp q hq
      rw [List.mem_singleton.mp hp, List.mem_singleton.mp hq]
      exact Ah_irr pr
theorem HTab.keepC {H G G' : Hp} {p t : Addr} {rs : List Addr} {hs : List (List PP)} (h : HTab G t rs hs) (c : Chg p G G') (hP : Pur G p) (nt : t ≠ p) (nr : ∀ r ∈ rs, r ≠ p) : HTab G' t rs hs :=
  ⟨c _ _ nt h.at_, h.len, h.nd, h.ne, fun i r ps e1 e2 => (h.row i r ps e1 e2).keep (TK.chg hP c) fun vs e => c _ _ (nr r (List.mem_of_getElem? e1)) e⟩
theorem HTab.snoc {G : Hp} {t N T : Addr} {rs : List Addr} {hs : List (List PP)} {pr : PP} (h : HTab G t rs hs) (nN : G N = none) (hT : G T = some (.tup [.int pr.1, .int pr.2])) :
    HTab (upd (upd G N (.lst [.ref T])) t (.lst (rs.map V.ref ++ [.ref N]))) t (rs ++ [N]) (hs ++ [[pr]]) := by
  have ntN : t ≠ N := fun z => by rw [← z, h.at_] at nN; cases nN
  have nNr : N ∉ rs := fun z => by
    obtain ⟨i, hi, e⟩ := List.mem_iff_getElem.mp z
    have hi2 : i < hs.length := by rw [← h.len]; exact hi
    obtain ⟨vs, hv, _⟩ := h.row i N hs[i] (by rw [List.getElem?_eq_getElem hi, e]) (List.getElem?_eq_getElem hi2)
    rw [hv] at nN; cases nN
  have tk : TK G (upd (upd G N (.lst [.ref T])) t (.lst (rs.map V.ref ++ [.ref N]))) := (TK.new nN).trans (TK.lst ((upd_ne ntN).trans h.at_))
  refine ⟨by rw [upd_same]; simp, by simp [h.len], ?_, ?_, fun i r ps e1 e2 => ?_⟩
  · rw [List.nodup_append]
    exact ⟨h.nd, by simp, fun a ha b hb e => by rw [List.mem_singleton.mp hb] at e; rw [e] at ha; exact nNr ha⟩
  · intro z
    rcases List.mem_append.mp z with z | z
    · exact h.ne z
    · exact ntN (List.mem_singleton.mp z)
  · by_cases hi : i < rs.length
    · rw [List.getElem?_append_left hi] at e1
      rw [List.getElem?_append_left (by rw [← h.len]; exact hi)] at e2
      have mr := List.mem_of_getElem? e1
      refine (h.row i r ps e1 e2).keep tk fun vs e => ?_
      rw [upd_ne (fun z => h.ne (by rw [← z]; exact mr)), upd_ne (fun z => nNr (by rw [← z]; exact mr))]
      exact e
    · have hi2 : i < rs.length + 1 := by have := (List.getElem?_eq_some_iff.mp e1).1; simpa using this
      have ei : i = rs.length := by omega
      subst ei
      rw [List.getElem?_append_right (Nat.le_refl _), Nat.sub_self] at e1
      rw [List.getElem?_append_right (by rw [h.len]; exact Nat.le_refl _), h.len, Nat.sub_self] at e2
      cases e1
      cases e2
      refine ⟨[.ref T], by rw [upd_ne ntN.symm, upd_same], DRs_one (DR_pD.mpr ⟨T, rfl, tk _ _ hT⟩)⟩
noncomputable def spSomeH : Sp := fun vs H Q _ => ∃ (p q : Addr) (zs : List (V × PP)), vs = [.ref p, .ref q] ∧ Pur H p ∧ H q = some (.lst (zs.map (·.1))) ∧ q ≠ p ∧ zs.length ≤ 5000 ∧ Zl H zs ∧
  ∀ (t : Addr) (rs : List Addr) (hs : List (List PP)) (H' : Hp), H t = none → (∀ r ∈ rs, H r = none) → Pur H' p → Chg p H H' → HTab H' t rs hs → Hg hs (zs.map (·.2)) → Q (.ref t) H'
theorem sc_law_some_heaps : FnScope ["_law_purse_here", "_law_pairs_here", "_law_heaps", "_law_pair", "_law_start", "_law_there", "_law_k", "_law_meets"] ["_law_purse_here", "_law_pairs_here"] (defScope s_law_some_heaps) := ⟨rfl, rfl, rfl, by decide +kernel, rfl, by decide +kernel, by decide +kernel⟩
theorem h_law_some_heaps (T : Txt K mg) : Has P w K mg base 3 "_law_some_heaps" ["_law_purse_here", "_law_pairs_here"] spSomeH := by
  have h_law_shuffled := h_law_shuffled (P := P) (w := w) (base := base) T
  have h_law_take := h_law_take (P := P) (w := w) (base := base) T
  have h_law_ahead := h_law_ahead (P := P) (w := w) (base := base) T
  refine hasJ T.d_law_some_heaps sc_law_some_heaps (fun _ _ _ _ _ _ us hl => L2.usN2 (fun _ _ => rfl) us hl) ?_ fun f cdv A outer s H vs Q E hr h => ?_
  · rintro vs H Q E ⟨p, q, zs, rfl, _⟩; rfl
  obtain ⟨p, q, zs, rfl, hP, hq, nqp, hlen, hZ, qq⟩ := h
  have hu := hr.units0
  have hu64 := hr.units
  refine ⟨_, (jb_cons (js_set (i := 2) sc_law_some_heaps.nd rfl (Or.inl k_law_some_heaps__law_heaps) (j_lst ja_nil) rfl) (jb_cons (js_for PassesOwn.never rfl (ji_seq (K := K) rfl (j_call h_law_shuffled (hr.mono (by decide)) (glF k_law_some_heaps__law_shuffled) (ja_cons (j_vL 0 k_law_some_heaps__law_purse_here) (ja_cons (j_vL 1 k_law_some_heaps__law_pairs_here) ja_nil)) (by decide +kernel))) (jg_name (i := 3) sc_law_some_heaps.nd rfl (Or.inr k_law_some_heaps__law_pair) rfl) (jb_cons (js_set (i := 4) sc_law_some_heaps.nd rfl (Or.inl k_law_some_heaps__law_start) (j_call h_law_take (hr.mono (by decide)) (glF k_law_some_heaps__law_take) (ja_cons (j_vL 0 k_law_some_heaps__law_purse_here) (ja_cons (j_op op_addA (j_callB (call_lenK (K := K) rfl) (glF k_law_some_heaps_len) T.b_len bt_len (ja_cons (j_vL 2 k_law_some_heaps__law_heaps) ja_nil) (by decide +kernel) (by decide +kernel)) j_int) ja_nil)) (by decide +kernel)) rfl) (jb_cons (js_set (i := 5) sc_law_some_heaps.nd rfl (Or.inl k_law_some_heaps__law_there) j_bl rfl) (jb_cons (js_for PassesOwn.never rfl (ji_range2 (glF k_law_some_heaps_range) T.b_range (ja_cons (j_vL 4 k_law_some_heaps__law_start) (ja_cons (j_callB (call_lenK (K := K) rfl) (glF k_law_some_heaps_len) T.b_len bt_len (ja_cons (j_vL 2 k_law_some_heaps__law_heaps) ja_nil) (by decide +kernel) (by decide +kernel)) ja_nil))) (jg_name (i := 6) sc_law_some_heaps.nd rfl (Or.inl k_law_some_heaps__law_k) rfl) (jb_cons (js_setC (i := 7) sc_law_some_heaps.nd rfl (Or.inl k_law_some_heaps__law_meets) (sub := [none, some 3]) (subOk_of (N := ["_law_purse_here", "_law_pairs_here", "_law_heaps", "_law_pair", "_law_start", "_law_there", "_law_k", "_law_meets"]) (sc := defScope s_law_some_heaps) (N' := ["_law_other", "_law_pair"]) (by decide +kernel)) rfl rfl rfl (ji_seq (K := K) rfl (j_ix (K := K) rfl (j_vL 2 k_law_some_heaps__law_heaps) (j_vL 6 k_law_some_heaps__law_k))) (fun C s₀ H₀ ex => (jg_B 0 (by decide +kernel) nd_law_some_heaps_0)) (fun C s₀ H₀ ex => (jif_one (jw_pt (jw_or (jt_val (j_call h_law_ahead (hr.mono (by decide)) (glB (by decide +kernel)) (ja_cons (j_vBF 1 (by decide +kernel)) (ja_cons (j_vBL 0 (by decide +kernel)) ja_nil)) (by decide +kernel))) (jw_or1 (jt_val (j_call h_law_ahead (hr.mono (by decide)) (glB (by decide +kernel)) (ja_cons (j_vBL 0 (by decide +kernel)) (ja_cons (j_vBF 1 (by decide +kernel)) ja_nil)) (by decide +kernel)))))))) (fun C s₀ H₀ ex => (j_vBL 0 (by decide +kernel))) rfl) (jb_one (js_if (jw_pt (jw_and (jt_cmp (op_eqX (K := K) rfl hu64) (j_vL 7 k_law_some_heaps__law_meets) (j_lst ja_nil) (by first | exact nomark _ | with_unfolding_all rfl)) (jw_and1 (jt_not (jt_val (j_vL 5 k_law_some_heaps__law_there)))))) (jb_cons (js_expr (j_meth (K := K) rfl PySem.F.plainAttrs_list PySem.F.slot_list_append PySem.F.type_list_append mt_append (j_ix (K := K) rfl (j_vL 2 k_law_some_heaps__law_heaps) (j_vL 6 k_law_some_heaps__law_k)) (ja_cons (j_vC 3 k_law_some_heaps__law_pair) ja_nil))) (jb_one (js_set (i := 5) sc_law_some_heaps.nd rfl (Or.inl k_law_some_heaps__law_there) j_bl rfl))) jb_nil)))) (jb_one (js_if (jt_not (jt_val (j_vL 5 k_law_some_heaps__law_there))) (jb_one (js_expr (j_meth (K := K) rfl PySem.F.plainAttrs_list PySem.F.slot_list_append PySem.F.type_list_append mt_append (j_vL 2 k_law_some_heaps__law_heaps) (ja_cons (j_lst (ja_cons (j_vC 3 k_law_some_heaps__law_pair) ja_nil)) ja_nil)))) jb_nil)))))) (jb_one (js_ret (j_vL 2 k_law_some_heaps__law_heaps))))), ?_⟩
  walk_at "sts"
  have hs5 : 20000 ≤ sizeLine := by decide
  refine r_new rfl fun t nt => ?_
  have ntp := hP.ne nt
  have P1 := hP.new nt (o := .lst [])
  have C1 := (Chg.refl p H).new nt (o := .lst [])
  have et := upd_same (H := H) (a := t) (o := .lst [])
  generalize upd H t (.lst []) = H1 at P1 C1 et ⊢
  walk_at "sts"
  refine ⟨p, q, zs, rfl, P1, C1.at_ hq nqp, nqp, hlen, hZ.keep (TK.chg hP C1), fun r ys H2 nr P2 C2 hr' pm => ?_⟩
  have nrp := P1.ne nr
  have C12 := C1.trans C2
  have et2 := C2.at_ et ntp
  have lys := pm.length_eq
  have ntr : t ≠ r := fun z => by rw [z, nr] at et; cases et
  have purN : ∀ x, H x = none → x ≠ p := fun x hx => hP.ne hx
  walk_at "sts"
  refine .inl ⟨r, rfl, ⟨_, SqL.of hr'⟩, ?_⟩
  refine for_list (xs := ys.map (·.1)) (fun i σ G => Chg p H G ∧ Pur G p ∧ G r = some (.lst (ys.map (·.1))) ∧ (∃ rs hs, HTab G t rs hs ∧ (∀ x ∈ rs, H x = none) ∧ r ∉ rs ∧ Hg hs ((ys.take i).map (·.2))) ∧ ∃ x3 x4 x5 x6 x7, σ = [some (.ref p), some (.ref q), some (.ref t), x3, x4, x5, x6, x7])
    ⟨C12, P2, hr', ⟨[], [], ⟨et2, rfl, .nil, (fun z => by cases z), (fun i r ps e => by simp at e)⟩, (fun x hx => by cases hx), (fun z => by cases z), ⟨List.Perm.refl _, (fun h hh => by cases hh), (fun h hh => by cases hh)⟩⟩, none, none, none, none, none, rfl⟩ (fun i σ G _ h => SqL.of h.2.2.1) ?_ ?_
  · rintro i x σ G hx ⟨CG, PG, gr, ⟨rs, hs, HT, fr, nrr, hg⟩, x3, x4, x5, x6, x7, rfl⟩
    obtain ⟨z0, ez, rfl⟩ : ∃ z, ys[i]? = some z ∧ x = z.1 := by
      rw [List.getElem?_map] at hx
      cases e : ys[i]? with
      | none => rw [e] at hx; cases hx
      | some z => rw [e] at hx; exact ⟨z, rfl, (Option.some.inj hx).symm⟩
    have mz := List.mem_of_getElem? ez
    have hi : i < ys.length := (List.getElem?_eq_some_iff.mp ez).1
    obtain ⟨za, eza, hza⟩ := pD_at ((hZ.keep (TK.chg hP CG)) z0 (pm.mem_iff.mp mz))
    have lfl : hs.flatten.length ≤ 5000 := by
      have := hg.pm.length_eq
      rw [List.length_map, List.length_take] at this
      omega
    have lhs : hs.length ≤ hs.flatten.length := by
      have key : ∀ l : List (List PP), (∀ h ∈ l, h ≠ []) → l.length ≤ l.flatten.length := by
        intro l
        induction l with
        | nil => intro _; exact Nat.le_refl _
        | cons a l ih =>
          intro hn
          have := ih fun h hh => hn h (List.mem_cons_of_mem _ hh)
          have ha : 0 < a.length := List.length_pos_iff.mpr (hn a List.mem_cons_self)
          rw [List.flatten_cons, List.length_append, List.length_cons]
          omega
      exact key hs hg.ne
    have lrs : rs.length = hs.length := HT.len
    rw [eza]
    walk_at "sts"
    refine r_lenL (SqL.of HT.at_) ?_
    walk_at "sts"
    rw [List.length_map]
    refine ⟨p, _, rfl, PG, by omega, by omega, fun d G2 d0 d1 P2' C2' => ?_⟩
    have CG2 := CG.trans C2'
    have gr2 := C2'.at_ gr nrp
    have HT2 := HT.keepC (H := H) C2' PG ntp fun x hx => purN x (fr x hx)
    have hza2 := TK.chg PG C2' _ _ hza
    walk_at "sts"
    refine r_lenL (SqL.of HT2.at_) ?_
    walk_at "sts"
    rw [List.length_map]
    refine ⟨⟨by omega, by omega, by omega, by omega⟩, ?_⟩
    obtain ⟨st, rfl⟩ : ∃ k : Nat, d = k := ⟨d.toNat, (Int.toNat_of_nonneg d0).symm⟩
    refine for_range (fun j σ G => Chg p H G ∧ Pur G p ∧ G r = some (.lst (ys.map (·.1))) ∧ TK G2 G ∧ ∃ b hs', HTab G t rs hs' ∧ Put hs z0.2 b hs' ∧ ∃ x6 x7, σ = [some (.ref p), some (.ref q), some (.ref t), some (.ref za), some (.int st), some (.bl b), x6, x7])
      ⟨CG2, P2', gr2, TK.refl _, false, hs, HT2, .inl ⟨rfl, rfl⟩, _, _, rfl⟩ ?_ ?_
    · rintro j σ G3 hj ⟨C3, P3, gr3, tk3, b, hs', HT3, pt, x6, x7, rfl⟩
      have hk : st + j < rs.length := by omega
      have hk' : st + j < hs'.length := by rw [← HT3.len]; exact hk
      have ek : (st : Int) + (j : Int) = ((st + j : Nat) : Int) := by omega
      have er : rs[st + j]? = some rs[st + j] := List.getElem?_eq_getElem hk
      have eh : hs'[st + j]? = some hs'[st + j] := List.getElem?_eq_getElem hk'
      have mrk := List.mem_of_getElem? er
      have hza3 := tk3 _ _ hza2
      obtain ⟨vs, gv, lv, dv⟩ := (HT3.row _ _ _ er eh).len
      have lhk : hs'[st + j].length ≤ 5001 := by
        have l1 : hs'[st + j].length ≤ hs'.flatten.length := (List.sublist_flatten_of_mem (List.getElem_mem hk')).length_le
        have l2 : hs'.flatten.length ≤ hs.flatten.length + 1 := by
          rcases pt with ⟨_, rfl⟩ | ⟨_, k, g, eg, _, rfl⟩
          · omega
          · rw [(set_flat hs k g eg).length_eq, List.length_append]; exact Nat.le_refl _
        omega
      rw [ek]
      have hat : atI (rs.map V.ref) ((st + j : Nat) : Int) = some (.ref rs[st + j]) := atI_nat (by rw [List.getElem?_map, er]; rfl)
      generalize rs[st + j] = rk at *
      generalize hs'[st + j] = hk0 at *
      walk_at "sts"
      refine r_ixL (SqL.of HT3.at_) hat ?_
      walk_at "sts"
      refine .inl ⟨rk, rfl, ⟨_, SqL.of gv⟩, ?_⟩
      refine comp_list (xs := vs) (fun m bs G' => G' = G3 ∧ DRs G3 (((hk0.take m).filter fun x => meB z0.2 x).map pD) bs) (by omega) ⟨rfl, DRs_nil.mpr rfl⟩ ?_ ?_ ?_ ?_
      · rintro m bs G' ⟨_, hd⟩
        have := DRs_len hd
        rw [List.length_map] at this
        have := List.length_filter_le (fun x => meB z0.2 x) (hk0.take m)
        rw [List.length_take] at this
        omega
      · rintro m bs G' ⟨rfl, _⟩
        exact SqL.of gv
      · rintro m bs G' y hy ⟨rfl, hd⟩
        obtain ⟨pp, a, ep, rfl, ha⟩ := PL.at_ (q := rk) dv hy
        have tk1 : hk0.take (m + 1) = hk0.take m ++ [pp] := by rw [List.take_add_one, ep]; rfl
        have yes : meB z0.2 pp = true → DRs G' (((hk0.take (m + 1)).filter fun x => meB z0.2 x).map pD) (bs ++ [.ref a]) := fun h => by
          rw [tk1, List.filter_append, List.map_append]
          refine DRs_append hd ?_
          rw [List.filter_cons, if_pos h]
          exact DRs_one (DR_pD.mpr ⟨a, rfl, ha⟩)
        have no : meB z0.2 pp = false → DRs G' (((hk0.take (m + 1)).filter fun x => meB z0.2 x).map pD) bs := fun h => by
          rw [tk1, List.filter_append, List.filter_cons, if_neg (by rw [h]; decide), List.filter_nil, List.append_nil]
          exact hd
        walk_at "sts"
        refine ⟨KeepSt.set rfl, ?_⟩
        walk_at "sts"
        refine ⟨za, a, _, _, _, _, rfl, hza3, ha, ?_⟩
        cases h1 : (decide ((z0.2.1 : Int) < pp.1) && decide ((z0.2.2 : Int) < pp.2)) with
        | true =>
          walk_at "sts"
          exact ⟨rfl, yes (by unfold meB; rw [h1]; rfl)⟩
        | false =>
          walk_at "sts"
          refine ⟨a, za, _, _, _, _, rfl, ha, hza3, ?_⟩
          cases h2 : (decide ((pp.1 : Int) < z0.2.1) && decide ((pp.2 : Int) < z0.2.2)) with
          | true =>
            walk_at "sts"
            exact ⟨rfl, yes (by unfold meB; rw [h1, h2]; rfl)⟩
          | false =>
            walk_at "sts"
            exact ⟨rfl, no (by unfold meB; rw [h1, h2]; rfl)⟩
      · rintro bs G' ⟨rfl, hd⟩ D nD
        rw [lv, List.take_length] at hd
        have nDp := P3.ne nD
        have P4 := P3.new nD (o := .lst bs)
        have C4 := C3.new nD (o := .lst bs)
        have tk4 := tk3.trans (TK.new nD (o := .lst bs))
        have gr4 := upd_old nD gr3 (o := .lst bs)
        have HT4 := HT3.same ((Same.refl G').upd nD (o := .lst bs))
        have hd4 := DRs_keep (TK.new nD (o := .lst bs)) _ _ hd
        have hD4 := upd_same (H := G') (a := D) (o := .lst bs)
        generalize upd G' D (.lst bs) = G4 at P4 C4 tk4 gr4 HT4 hd4 hD4 ⊢
        walk_at "sts"
        refine r_new rfl fun E nE => ?_
        have P5 := P4.new nE (o := .lst [])
        have C5 := C4.new nE (o := .lst [])
        have tk5 := tk4.trans (TK.new nE (o := .lst []))
        have gr5 := upd_old nE gr4 (o := .lst [])
        have HT5 := HT4.same ((Same.refl G4).upd nE (o := .lst []))
        have hd5 := DRs_keep (TK.new nE (o := .lst [])) _ _ hd4
        have hD5 := upd_old nE hD4 (o := .lst [])
        have hE5 := upd_same (H := G4) (a := E) (o := .lst [])
        generalize upd G4 E (.lst []) = G5 at P5 C5 tk5 gr5 HT5 hd5 hD5 hE5 ⊢
        walk_at "sts"
        refine r_eqData (d := .list ((hk0.filter fun x => meB z0.2 x).map pD)) (e := .list []) (DR_list.mpr ⟨D, _, rfl, hD5, hd5⟩) (DR_list.mpr ⟨E, [], rfl, hE5, DRs_nil.mpr rfl⟩) (shaped_ps _) rfl ?_
        rw [eqv_nil]
        cases hem : (hk0.filter fun x => meB z0.2 x).isEmpty with
        | false =>
          walk_at "sts"
          exact ⟨C5, P5, gr5, tk5, b, hs', HT5, pt, _, _, rfl⟩
        | true =>
          walk_at "sts"
          cases b with
          | true =>
            walk_at "sts"
            exact ⟨C5, P5, gr5, tk5, true, hs', HT5, pt, _, _, rfl⟩
          | false =>
            obtain ⟨_, rfl⟩ : false = false ∧ hs' = hs := by
              rcases pt with z | ⟨z, _⟩
              · exact z
              · cases z
            have hc : ∀ x ∈ hk0, ¬ Cm z0.2 x := fun x hx => meB_no.mp (by
              cases hm : meB z0.2 x with
              | false => rfl
              | true =>
                have : x ∈ hk0.filter fun x => meB z0.2 x := List.mem_filter.mpr ⟨hx, hm⟩
                rw [List.isEmpty_iff.mp hem] at this
                cases this)
            have hza5 := tk5 _ _ hza2
            obtain ⟨ws, gw, lw, HT6⟩ := HT5.push er eh hza5
            walk_at "sts"
            refine r_ixL (SqL.of HT5.at_) hat ?_
            walk_at "sts"
            refine ⟨.inl ⟨rfl, _, SqL.of gw⟩, ?_⟩
            walk_at "sts"
            refine r_append gw (by omega) ?_
            walk_at "sts"
            have nrk : rk ≠ p := purN rk (fr rk mrk)
            have nrr' : r ≠ rk := fun z => nrr (by rw [z]; exact mrk)
            exact ⟨chgPut C5 (fr rk mrk), purPut P5 nrk, (upd_ne nrr').trans gr5, tk5.trans (TK.lst gw), true, _, HT6, .inr ⟨rfl, _, _, eh, hc, rfl⟩, _, _, rfl⟩
    · rintro σ G3 ⟨C3, P3, gr3, tk3, b, hs', HT3, pt, x6, x7, rfl⟩
      have tk1 : (ys.take (i + 1)).map (·.2) = (ys.take i).map (·.2) ++ [z0.2] := by rw [List.take_add_one, ez, List.map_append]; rfl
      cases b with
      | true =>
        walk_at "sts"
        exact ⟨C3, P3, gr3, ⟨rs, hs', HT3, fr, nrr, by rw [tk1]; exact hg.put pt⟩, _, _, _, _, _, rfl⟩
      | false =>
        obtain ⟨_, rfl⟩ : false = false ∧ hs' = hs := by
          rcases pt with z | ⟨z, _⟩
          · exact z
          · cases z
        have hza3 := tk3 _ _ hza2
        walk_at "sts"
        refine ⟨.inl ⟨rfl, _, SqL.of HT3.at_⟩, ?_⟩
        walk_at "sts"
        refine r_new rfl fun N nN => ?_
        have nNp := P3.ne nN
        have nNH : H N = none := by
          cases e : H N with
          | none => rfl
          | some o => rw [C3 _ _ nNp e] at nN; cases nN
        have ntN : t ≠ N := fun z => by rw [← z, HT3.at_] at nN; cases nN
        have nrN : r ≠ N := fun z => by rw [← z, gr3] at nN; cases nN
        walk_at "sts"
        refine r_append ((upd_ne ntN).trans HT3.at_) (by rw [List.length_map]; omega) ?_
        refine ⟨chgPut (chgPut C3 nNH) nt, purPut (purPut P3 nNp) ntp, (upd_ne ntr.symm).trans ((upd_ne nrN).trans gr3), ⟨rs ++ [N], hs' ++ [[z0.2]], HT3.snoc nN hza3, fun x hx => ?_, fun z => ?_, by rw [tk1]; exact hg.snoc⟩, _, _, _, _, _, rfl⟩
        · rcases List.mem_append.mp hx with hx | hx
          · exact fr x hx
          · rw [List.mem_singleton.mp hx]; exact nNH
        · rcases List.mem_append.mp z with z | z
          · exact nrr z
          · exact nrN (List.mem_singleton.mp z)
  · rintro σ G ⟨CG, PG, gr, ⟨rs, hs, HT, fr, nrr, hg⟩, x3, x4, x5, x6, x7, rfl⟩
    rw [List.length_map, List.take_length] at hg
    walk_at "sts"
    exact qq t rs hs G nt fr PG CG HT ⟨hg.pm.trans (pm.map _), hg.ne, hg.no⟩
end

section
variable {P : Program} {w : World} {K : PySem.W.Frag} {mg : Str → Option Value} {base : Heap}
theorem k_law__law_script : (defScope s_law).names.lookup ("_law_script" : Str) = some NameKind.local := by decide +kernel
theorem k_law__law_cell : (defScope s_law).names.lookup ("_law_cell" : Str) = some NameKind.globalImplicit := by decide +kernel
theorem k_law__law_cell_here : (defScope s_law).names.lookup ("_law_cell_here" : Str) = some NameKind.local := by decide +kernel
theorem k_law__law_pairs_here : (defScope s_law).names.lookup ("_law_pairs_here" : Str) = some NameKind.local := by decide +kernel
theorem k_law_is_thread : (defScope s_law).names.lookup ("is_thread" : Str) = some NameKind.globalImplicit := by decide +kernel
theorem k_law__law_again : (defScope s_law).names.lookup ("_law_again" : Str) = some NameKind.local := by decide +kernel
theorem k_law__law_top : (defScope s_law).names.lookup ("_law_top" : Str) = some NameKind.local := by decide +kernel
theorem k_law__law_side : (defScope s_law).names.lookup ("_law_side" : Str) = some NameKind.local := by decide +kernel
theorem k_law_are_heaps : (defScope s_law).names.lookup ("are_heaps" : Str) = some NameKind.globalImplicit := by decide +kernel
theorem k_law__law_heaps : (defScope s_law).names.lookup ("_law_heaps" : Str) = some NameKind.local := by decide +kernel
theorem k_law__law_take : (defScope s_law).names.lookup ("_law_take" : Str) = some NameKind.globalImplicit := by decide +kernel
theorem k_law_len : (defScope s_law).names.lookup ("len" : Str) = some NameKind.globalImplicit := by decide +kernel
theorem k_law__law_purse_here : (defScope s_law).names.lookup ("_law_purse_here" : Str) = some NameKind.local := by decide +kernel
theorem k_law__law_found : (defScope s_law).names.lookup ("_law_found" : Str) = some NameKind.local := by decide +kernel
theorem k_law__law_thread : (defScope s_law).names.lookup ("_law_thread" : Str) = some NameKind.local := by decide +kernel
theorem k_law_isinstance : (defScope s_law).names.lookup ("isinstance" : Str) = some NameKind.globalImplicit := by decide +kernel
theorem k_law_bool : (defScope s_law).names.lookup ("bool" : Str) = some NameKind.globalImplicit := by decide +kernel
theorem k_law_shows : (defScope s_law).names.lookup ("shows" : Str) = some NameKind.globalImplicit := by decide +kernel
theorem k_law__law_most : (defScope s_law).names.lookup ("_law_most" : Str) = some NameKind.local := by decide +kernel
theorem k_law_longest : (defScope s_law).names.lookup ("longest" : Str) = some NameKind.globalImplicit := by decide +kernel
theorem k_law__law_table : (defScope s_law).names.lookup ("_law_table" : Str) = some NameKind.globalImplicit := by decide +kernel
theorem k_law__law_some_heaps : (defScope s_law).names.lookup ("_law_some_heaps" : Str) = some NameKind.globalImplicit := by decide +kernel
theorem k_law__law_some_thread : (defScope s_law).names.lookup ("_law_some_thread" : Str) = some NameKind.globalImplicit := by decide +kernel
theorem k_law__law_pairs : (defScope s_law).names.lookup ("_law_pairs" : Str) = some NameKind.globalImplicit := by decide +kernel
theorem k_law__law_row : (defScope s_law).names.lookup ("_law_row" : Str) = some NameKind.globalImplicit := by decide +kernel
theorem k_law__law_letters_here : (defScope s_law).names.lookup ("_law_letters_here" : Str) = some NameKind.local := by decide +kernel
theorem k_law__law_letters : (defScope s_law).names.lookup ("_law_letters" : Str) = some NameKind.globalImplicit := by decide +kernel
theorem k_law__law_purse : (defScope s_law).names.lookup ("_law_purse" : Str) = some NameKind.globalImplicit := by decide +kernel
theorem cut_map (ns : List Int) (lo hi : Option Int) : ∃ ms : List Int, cutV (ns.map V.int) lo hi = ms.map V.int := by
  unfold cutV
  exact ⟨_, by rw [← List.map_drop, ← List.map_take]⟩
noncomputable def spLaw (K : PySem.W.Frag) : Sp := fun vs H Q _ => ∃ (a : Addr) (ns : List Int), vs = [.ref a] ∧ SqL K H a (ns.map V.int) ∧ ns.length ≤ 63 ∧ ∀ H', Q (.bl true) H'
theorem RDs_pD {H : Hp} : ∀ {ps : List PP} {vs : List V}, DRs H (ps.map pD) vs → RDs H (ps.map pD) vs
  | [], vs, h => by rw [List.map_nil, DRs_nil] at h; subst h; exact RDs_nil.mpr rfl
  | p :: ps, vs, h => by
    rw [List.map_cons, DRs_cons] at h
    obtain ⟨v, r, rfl, h1, h2⟩ := h
    obtain ⟨a, ea, ha⟩ := DR_pD.mp h1
    exact RDs_one (RD_pair.mpr ⟨a, ea, ha⟩) (RDs_pD h2)
theorem RD_hD {H : Hp} {r : Addr} {h : List PP} (p : PL H r h) : RD H (hD h) (.ref r) := by
  obtain ⟨vs, e, d⟩ := p
  exact RD_list.mpr ⟨r, vs, rfl, e, RDs_pD d⟩
theorem RDs_rows {H : Hp} : ∀ {rs : List Addr} {hs : List (List PP)}, rs.length = hs.length → (∀ (i : Nat) (r : Addr) (ps : List PP), rs[i]? = some r → hs[i]? = some ps → PL H r ps) → RDs H (hs.map hD) (rs.map V.ref)
  | [], [], _, _ => RDs_nil.mpr rfl
  | [], _ :: _, h, _ => by simp at h
  | _ :: _, [], h, _ => by simp at h
  | r :: rs, g :: hs, h, k => RDs_one (RD_hD (k 0 r g rfl rfl)) (RDs_rows (by simpa using h) fun i r' ps e1 e2 => k (i + 1) r' ps (by simpa using e1) (by simpa using e2))
theorem HTab.rd {H : Hp} {t : Addr} {rs : List Addr} {hs : List (List PP)} (h : HTab H t rs hs) : RD H (.list (hs.map hD)) (.ref t) := RD_list.mpr ⟨t, _, rfl, h.at_, RDs_rows h.len h.row⟩
theorem zip_of {H : Hp} {vs : List V} {ps : List PP} (h : DRs H (ps.map pD) vs) : ∃ zs : List (V × PP), zs.map (·.1) = vs ∧ zs.map (·.2) = ps ∧ Zl H zs := by
  induction ps generalizing vs with
  | nil => rw [List.map_nil, DRs_nil] at h; subst h; exact ⟨[], rfl, rfl, fun z hz => by cases hz⟩
  | cons p ps ih =>
    rw [List.map_cons, DRs_cons] at h
    obtain ⟨v, r, rfl, h1, h2⟩ := h
    obtain ⟨zs, e1, e2, e3⟩ := ih h2
    refine ⟨(v, p) :: zs, by simp [e1], by simp [e2], fun z hz => ?_⟩
    rcases List.mem_cons.mp hz with rfl | hz
    · exact h1
    · exact e3 z hz
theorem RDs_app {H : Hp} : ∀ {ds es : List PyData} {vs us : List V}, RDs H ds vs → RDs H es us → RDs H (ds ++ es) (vs ++ us)
  | [], es, vs, us, h, k => by rw [RDs_nil] at h; subst h; exact k
  | d :: ds, es, vs, us, h, k => by
    rw [RDs_cons] at h
    obtain ⟨v, r, rfl, h1, h2⟩ := h
    exact RDs_one h1 (RDs_app h2 k)
theorem bTT : (true == true) = true := rfl
theorem bFF : (false == false) = true := rfl
theorem hbd_of {hs : List (List PP)} (h1 : hs.flatten.length ≤ 5000) (h2 : hs.length ≤ 5000) : HBd (.list (hs.map hD)) := fun ds e => by
  injection e with e
  subst e
  refine ⟨by rw [List.length_map]; exact h2, by rw [fl_hD, List.length_map]; exact h1, fun h hh es ee => ?_⟩
  obtain ⟨g, hg, rfl⟩ := List.mem_map.mp hh
  have ee' : PyData.list (g.map pD) = .list es := ee
  injection ee' with ee'
  rw [← ee', List.length_map]
  exact Nat.le_trans (List.sublist_flatten_of_mem hg).length_le h1
theorem pur_same {H H' : Hp} {p : Addr} (h : Pur H p) (s : Same H H') : Pur H' p := by
  obtain ⟨a, b, c, e, x⟩ := h
  exact ⟨a, b, c, s _ _ e, x⟩
theorem sc_law : FnScope ["_law_script", "_law_cell_here", "_law_purse_here", "_law_letters_here", "_law_side", "_law_top", "_law_pairs_here", "_law_thread", "_law_heaps", "_law_most", "_law_found", "_law_again"] ["_law_script"] (defScope s_law) := ⟨rfl, rfl, rfl, by decide +kernel, rfl, by decide +kernel, by decide +kernel⟩
theorem ok_law (T : Txt K mg) {f0 : Addr} {fd0 : FuncData} (F0 : Fun K "law" "law" s_law f0 fd0) : FnOk P w K mg base CX0 9 f0 fd0 ["_law_script"] (spLaw K) := by
  have h_law_purse := h_law_purse (P := P) (w := w) (base := base) T
  have h_law_letters := h_law_letters (P := P) (w := w) (base := base) T
  have h_law_row := h_law_row (P := P) (w := w) (base := base) T
  have h_law_pairs := h_law_pairs (P := P) (w := w) (base := base) T
  have h_law_some_thread := h_law_some_thread (P := P) (w := w) (base := base) T
  have h_law_some_heaps := h_law_some_heaps (P := P) (w := w) (base := base) T
  have h_shows := h_shows (P := P) (w := w) (base := base) T
  have h_law_cell := h_law_cell (P := P) (w := w) (base := base) T
  have h_law_table := h_law_table (P := P) (w := w) (base := base) T
  have h_is_thread := h_is_thread (P := P) (w := w) (base := base) T
  have h_are_heaps := h_are_heaps (P := P) (w := w) (base := base) T
  have h_longest := h_longest (P := P) (w := w) (base := base) T
  have h_law_take := h_law_take (P := P) (w := w) (base := base) T
  refine okJ F0 sc_law ?_ fun f cdv A outer s H vs Q E hr h => ?_
  · rintro vs H Q E ⟨a, ns, rfl, _⟩; rfl
  obtain ⟨a, ns, rfl, hS, hlen, q⟩ := h
  have hu := hr.units0
  have hu64 := hr.units
  refine ⟨_, (jb_cons (js_for PassesOwn.never rfl (ji_seq (K := K) rfl (j_op op_addA (j_slice (sl_seqK (K := K) rfl) (j_vL 0 k_law__law_script) jo_none (jo_some j_int)) (j_lst (ja_cons (j_call h_law_cell (hr.mono (by decide)) (glF k_law__law_cell) (ja_cons (j_vL 0 k_law__law_script) (ja_cons j_int ja_nil)) (by decide +kernel)) ja_nil)))) (jg_name (i := 1) sc_law.nd rfl (Or.inl k_law__law_cell_here) rfl) (jb_cons (js_set (i := 2) sc_law.nd rfl (Or.inl k_law__law_purse_here) (j_call h_law_purse (hr.mono (by decide)) (glF k_law__law_purse) (ja_cons (j_vL 1 k_law__law_cell_here) ja_nil) (by decide +kernel)) rfl) (jb_cons (js_set (i := 3) sc_law.nd rfl (Or.inl k_law__law_letters_here) (j_call h_law_letters (hr.mono (by decide)) (glF k_law__law_letters) (ja_cons (j_vL 2 k_law__law_purse_here) ja_nil) (by decide +kernel)) rfl) (jb_cons (js_set (i := 4) sc_law.nd rfl (Or.inl k_law__law_side) (j_call h_law_row (hr.mono (by decide)) (glF k_law__law_row) (ja_cons (j_vL 2 k_law__law_purse_here) (ja_cons (j_vL 3 k_law__law_letters_here) (ja_cons j_int ja_nil))) (by decide +kernel)) rfl) (jb_cons (js_set (i := 5) sc_law.nd rfl (Or.inl k_law__law_top) (j_call h_law_row (hr.mono (by decide)) (glF k_law__law_row) (ja_cons (j_vL 2 k_law__law_purse_here) (ja_cons (j_vL 3 k_law__law_letters_here) (ja_cons j_int ja_nil))) (by decide +kernel)) rfl) (jb_cons (js_set (i := 6) sc_law.nd rfl (Or.inl k_law__law_pairs_here) (j_call h_law_pairs (hr.mono (by decide)) (glF k_law__law_pairs) (ja_cons (j_vL 4 k_law__law_side) (ja_cons (j_vL 5 k_law__law_top) ja_nil)) (by decide +kernel)) rfl) (jb_cons (js_set (i := 7) sc_law.nd rfl (Or.inl k_law__law_thread) (j_call h_law_some_thread (hr.mono (by decide)) (glF k_law__law_some_thread) (ja_cons (j_vL 2 k_law__law_purse_here) (ja_cons (j_vL 6 k_law__law_pairs_here) ja_nil)) (by decide +kernel)) rfl) (jb_cons (js_set (i := 8) sc_law.nd rfl (Or.inl k_law__law_heaps) (j_call h_law_some_heaps (hr.mono (by decide)) (glF k_law__law_some_heaps) (ja_cons (j_vL 2 k_law__law_purse_here) (ja_cons (j_vL 6 k_law__law_pairs_here) ja_nil)) (by decide +kernel)) rfl) (jb_cons (js_set (i := 9) sc_law.nd rfl (Or.inl k_law__law_most) (j_ix (K := K) rfl (j_ix (K := K) rfl (j_call h_law_table (hr.mono (by decide)) (glF k_law__law_table) (ja_cons (j_vL 4 k_law__law_side) (ja_cons (j_vL 5 k_law__law_top) ja_nil)) (by decide +kernel)) (j_un un_neg j_int)) (j_un un_neg j_int)) rfl) (jb_cons (js_if (jw_pt (jw_or (jt_cmp op_isNotA (j_callX h_is_thread (hr.mono (by decide)) (glF k_law_is_thread) (passN fun _ _ => rfl) (ja_cons (j_vL 4 k_law__law_side) (ja_cons (j_vL 5 k_law__law_top) (ja_cons (j_vL 7 k_law__law_thread) ja_nil))) (by decide +kernel)) j_bl (by first | exact nomark _ | with_unfolding_all rfl)) (jw_or1 (jt_cmp op_isNotA (j_callX h_are_heaps (hr.mono (by decide)) (glF k_law_are_heaps) (passN fun _ _ => rfl) (ja_cons (j_vL 4 k_law__law_side) (ja_cons (j_vL 5 k_law__law_top) (ja_cons (j_vL 8 k_law__law_heaps) ja_nil))) (by decide +kernel)) j_bl (by first | exact nomark _ | with_unfolding_all rfl))))) (jb_one (js_ret j_bl)) jb_nil) (jb_cons (js_if (jw_pt (jw_or (jt_cmp (op_neX (K := K) rfl hu64) (j_callX h_longest (hr.mono (by decide)) (glF k_law_longest) (passN fun _ _ => rfl) (ja_cons (j_vL 4 k_law__law_side) (ja_cons (j_vL 5 k_law__law_top) ja_nil)) (by decide +kernel)) (j_vL 9 k_law__law_most) (by first | exact nomark _ | with_unfolding_all rfl)) (jw_or1 (jt_not (jt_chain op_le op_le (j_callB (call_lenK (K := K) rfl) (glF k_law_len) T.b_len bt_len (ja_cons (j_vL 7 k_law__law_thread) ja_nil) (by decide +kernel) (by decide +kernel)) (j_vL 9 k_law__law_most) (j_callB (call_lenK (K := K) rfl) (glF k_law_len) T.b_len bt_len (ja_cons (j_vL 8 k_law__law_heaps) ja_nil) (by decide +kernel) (by decide +kernel))))))) (jb_one (js_ret j_bl)) jb_nil) (jb_cons (js_set (i := 10) sc_law.nd rfl (Or.inl k_law__law_found) (j_callX h_shows (hr.mono (by decide)) (glF k_law_shows) (passN fun _ _ => rfl) (ja_cons (j_vL 4 k_law__law_side) (ja_cons (j_vL 5 k_law__law_top) (ja_cons (j_tup (ja_cons (j_vL 7 k_law__law_thread) (ja_cons (j_vL 8 k_law__law_heaps) ja_nil))) ja_nil))) (by decide +kernel)) rfl) (jb_cons (js_if (jw_pt (jw_or (jt_not (jt_val (j_callB (call_isiK (K := K) rfl) (glF k_law_isinstance) T.b_isinstance bt_isinstance (ja_cons (j_vL 10 k_law__law_found) (ja_cons (j_ty (glF k_law_bool) T.b_bool bt_bool (by decide +kernel) (by decide +kernel)) ja_nil)) (by decide +kernel) (by decide +kernel)))) (jw_or1 (jt_cmp (op_neX (K := K) rfl hu64) (j_vL 10 k_law__law_found) (j_cmp (op_eqX (K := K) rfl hu64) (j_callB (call_lenK (K := K) rfl) (glF k_law_len) T.b_len bt_len (ja_cons (j_vL 7 k_law__law_thread) ja_nil) (by decide +kernel) (by decide +kernel)) (j_callB (call_lenK (K := K) rfl) (glF k_law_len) T.b_len bt_len (ja_cons (j_vL 8 k_law__law_heaps) ja_nil) (by decide +kernel) (by decide +kernel)) (by first | exact nomark _ | with_unfolding_all rfl)) (by first | exact nomark _ | with_unfolding_all rfl))))) (jb_one (js_ret j_bl)) jb_nil) (jb_one (js_if (jt_cmp (op_neX (K := K) rfl hu64) (j_vL 6 k_law__law_pairs_here) (j_lst ja_nil) (by first | exact nomark _ | with_unfolding_all rfl)) (jb_cons (js_set (i := 11) sc_law.nd rfl (Or.inl k_law__law_again) (j_ix (K := K) rfl (j_vL 6 k_law__law_pairs_here) (j_call h_law_take (hr.mono (by decide)) (glF k_law__law_take) (ja_cons (j_vL 2 k_law__law_purse_here) (ja_cons (j_callB (call_lenK (K := K) rfl) (glF k_law_len) T.b_len bt_len (ja_cons (j_vL 6 k_law__law_pairs_here) ja_nil) (by decide +kernel) (by decide +kernel)) ja_nil)) (by decide +kernel))) rfl) (jb_one (js_if (jw_pt (jw_or (jt_cmp op_isNotA (j_callX h_are_heaps (hr.mono (by decide)) (glF k_law_are_heaps) (passN fun _ _ => rfl) (ja_cons (j_vL 4 k_law__law_side) (ja_cons (j_vL 5 k_law__law_top) (ja_cons (j_op op_addA (j_vL 8 k_law__law_heaps) (j_lst (ja_cons (j_lst (ja_cons (j_vL 11 k_law__law_again) ja_nil)) ja_nil))) ja_nil))) (by decide +kernel)) j_bl (by first | exact nomark _ | with_unfolding_all rfl)) (jw_or1 (jt_cmp op_isNotA (j_callX h_is_thread (hr.mono (by decide)) (glF k_law_is_thread) (passN fun _ _ => rfl) (ja_cons (j_vL 4 k_law__law_side) (ja_cons (j_vL 5 k_law__law_top) (ja_cons (j_op op_mulA (j_lst (ja_cons (j_vL 11 k_law__law_again) ja_nil)) j_int) ja_nil))) (by decide +kernel)) j_bl (by first | exact nomark _ | with_unfolding_all rfl))))) (jb_one (js_ret j_bl)) jb_nil))) jb_nil))))))))))))))) (jb_one (js_ret j_bl))), ?_⟩
  walk_at "sts"
  have hs5 : 20000 ≤ sizeLine := by decide
  refine r_slL hS fun m1 n1 => ?_
  obtain ⟨ms, hms⟩ := cut_map ns none (some 4)
  have lm : ms.length ≤ 63 := by
    have := cutV_length (ns.map V.int) none (some 4)
    rw [hms] at this
    simp at this
    omega
  rw [hms]
  walk_at "sts"
  refine ⟨a, ns, 4, rfl, ((Same.refl H).upd n1).seq hS, by omega, fun c5 => ?_⟩
  walk_at "sts"
  refine ⟨by simp; decide, fun m2 n2 => ?_⟩
  refine r_addL (upd_old n2 upd_same) upd_same (by simp; omega) fun L n3 => ?_
  have e3 : ms.map V.int ++ [V.int c5] = (ms ++ [c5]).map V.int := by simp
  rw [e3]
  refine .inl ⟨L, rfl, ⟨_, SqL.of upd_same⟩, ?_⟩
  refine for_list (xs := (ms ++ [c5]).map V.int) (fun i σ H' => H' L = some (.lst ((ms ++ [c5]).map V.int)) ∧ ∃ x1 x2 x3 x4 x5 x6 x7 x8 x9 x10 x11, σ = [some (.ref a), x1, x2, x3, x4, x5, x6, x7, x8, x9, x10, x11])
    ⟨upd_same, none, none, none, none, none, none, none, none, none, none, none, rfl⟩ (fun i σ H' _ h => SqL.of h.1) ?_ ?_
  · rintro i y σ H1 hi ⟨hL, x1, x2, x3, x4, x5, x6, x7, x8, x9, x10, x11, rfl⟩
    obtain ⟨n, rfl⟩ : ∃ n, y = V.int n := by
      rw [List.getElem?_map] at hi
      cases e : (ms ++ [c5])[i]? with
      | none => rw [e] at hi; cases hi
      | some n => rw [e] at hi; exact ⟨n, (Option.some.inj hi).symm⟩
    walk_at "sts"
    refine ⟨n, rfl, fun p H2 hp C2 P2 => ?_⟩
    have nLp : L ≠ p := fun z => by rw [z, hp] at hL; cases hL
    have hL2 := C2.at_ hL nLp
    walk_at "sts"
    refine ⟨p, rfl, P2, fun r ys H3 nr P3 C3 hr3 hne hle hg => ?_⟩
    have hL3 := C3.at_ hL2 nLp
    walk_at "sts"
    refine ⟨p, r, ys, 16, rfl, P3, hr3, hne, by omega, hg, by omega, by omega, fun side H4 hs P4 C4 => ?_⟩
    have hL4 := C4.at_ hL3 nLp
    have hr4 := C4.at_ hr3 (purNe P3 hr3)
    walk_at "sts"
    refine ⟨p, r, ys, 16, rfl, P4, hr4, hne, by omega, hg, by omega, by omega, fun top H5 ht P5 C5 => ?_⟩
    have hL5 := C5.at_ hL4 nLp
    have hsb := hs.b
    have htb := ht.b
    have lz := hs.1
    have ly := ht.1
    have l1 : side.length = side.cps.toList.length := len_cps side
    have l2 : top.length = top.cps.toList.length := len_cps top
    walk_at "sts"
    refine ⟨side, top, rfl, hs, ht, fun q1 H6 nq S6 PL6 => ?_⟩
    have hL6 := S6 _ _ hL5
    have P6 := pur_same P5 S6
    have nqp := P5.ne nq
    obtain ⟨vs, hv, lv, dv⟩ := PL6.len
    obtain ⟨zs, rfl, ez, hZ⟩ := zip_of dv
    have lps := prs_len side.cps.toList top.cps.toList side.length
    have lps2 : side.length * top.cps.toList.length ≤ 48 * 48 := Nat.mul_le_mul lz (by omega)
    have lzs : zs.length ≤ 5000 := by rw [← List.length_map (f := (·.1)), lv]; omega
    have mt : ∀ z ∈ zs, Mt side.cps.toList top.cps.toList z.2 := fun z hz => by
      have : z.2 ∈ prs side.cps.toList top.cps.toList side.length := by rw [← ez]; exact List.mem_map.mpr ⟨z, hz, rfl⟩
      have := mem_prs this
      exact ⟨by omega, this.2.1, this.2.2⟩
    walk_at "sts"
    refine ⟨p, q1, zs, rfl, P6, hv, nqp, lzs, hZ, fun z hz => by have := (mt z hz).1; omega, fun t ws H7 nt P7 C7 ht7 ah sub => ?_⟩
    have hL7 := C7.at_ hL6 nLp
    have hv7 := C7.at_ hv nqp
    have hZ7 := hZ.keep (TK.chg P6 C7)
    have ntp := P6.ne nt
    have mtw : ∀ c ∈ ws.map (·.2), Mt side.cps.toList top.cps.toList c := fun c hc => by
      obtain ⟨z, hz, rfl⟩ := List.mem_map.mp hc
      exact mt z (sub z hz)
    have b1 := thread_le ah mtw
    rw [← l1, ← l2, List.length_map] at b1
    walk_at "sts"
    refine ⟨p, q1, zs, rfl, P7, hv7, nqp, lzs, hZ7, fun th rs hs8 H8 nth fr P8 C8 HT8 hg8 => ?_⟩
    rw [ez] at hg8
    have hL8 := C8.at_ hL7 nLp
    have hv8 := C8.at_ hv7 nqp
    have ht8 := C8.at_ ht7 ntp
    have hZ8 := hZ7.keep (TK.chg P7 C8)
    have hW8 : Zl H8 ws := fun z hz => hZ8 z (sub z hz)
    have b2 := long_le (S := side.cps.toList) (P := top.cps.toList) (hs := hs8) (fun c hc => hg8.pm.mem_iff.mpr (mem_prs' (by rw [l1]; exact hc.1) hc.2.1 hc.2.2)) hg8.no
    rw [← l1, ← l2] at b2
    have lfl0 : hs8.flatten.length ≤ 4000 := by rw [hg8.pm.length_eq]; omega
    have lfl : hs8.flatten.length ≤ 5000 := by omega
    have b3 := lt_top side.cps.toList top.cps.toList side.length top.length
    have lhs0 : hs8.length ≤ 4000 := by
      have key : ∀ l : List (List PP), (∀ h ∈ l, h ≠ []) → l.length ≤ l.flatten.length := by
        intro l
        induction l with
        | nil => intro _; exact Nat.le_refl _
        | cons a l ih =>
          intro hn
          have := ih fun h hh => hn h (List.mem_cons_of_mem _ hh)
          have ha : 0 < a.length := List.length_pos_iff.mpr (hn a List.mem_cons_self)
          rw [List.flatten_cons, List.length_append, List.length_cons]
          omega
      exact Nat.le_trans (key hs8 hg8.ne) lfl0
    have lhs : hs8.length ≤ 5000 := by omega
    have tD : threadD side top (.list ((ws.map (·.2)).map pD)) = true := thread_pD ah mtw
    have hD8 : heapsD side top (.list (hs8.map hD)) = true := heaps_pD hg8.ne hg8.pm hg8.no
    have lrs := HT8.len
    walk_at "sts"
    refine ⟨side, top, rfl, hs, ht, fun tb rs9 H9 ntb fr9 S9 TB => ?_⟩
    have hrl : rs9.length = side.length + 1 := by rw [TB.len]; simp [tabT]
    obtain ⟨r1, a1, er1, b1'⟩ := tab_at TB (k := (side.length : Int)) (i := side.length) rfl (by omega)
    walk_at "sts"
    refine r_ixL (SqL.of TB.at_) (atI_m1 (n := side.length) (v := .ref r1) (by simp [hrl]) (by rw [List.getElem?_map, er1]; rfl)) ?_
    walk_at "sts"
    refine r_ixL (SqL.of b1') (atI_m1 (n := top.length) (v := .int (lt side.cps.toList top.cps.toList side.length top.length)) (by rw [List.length_map, rowT_len]) (by rw [List.getElem?_map, rowT_at (by omega)]; rfl)) ?_
    generalize hmo : lt side.cps.toList top.cps.toList side.length top.length = mo at b1 b2 b3 ⊢
    have hT9 := HT8.same S9
    have ht9 := S9 _ _ ht8
    have hW9 : Zl H9 ws := hW8.keep (TK.same S9)
    have rdT : ∀ {G : Hp}, Same H9 G → RD G (.list ((ws.map (·.2)).map pD)) (.ref t) := fun s => RD.same s _ _ (RD_list.mpr ⟨t, _, rfl, ht9, RDs_pD hW9.drs⟩)
    have rdH : ∀ {G : Hp}, Same H9 G → RD G (.list (hs8.map hD)) (.ref th) := fun s => RD.same s _ _ hT9.rd
    have bT : ∀ ds, PyData.list ((ws.map (·.2)).map pD) = .list ds → ds.length ≤ 5000 := fun ds e => by
      injection e with e
      rw [← e, List.length_map, List.length_map]; omega
    walk_at "sts"
    refine spX3.good hsb htb ⟨_, rdT (Same.refl _), bT, fun G1 S1 => ?_⟩
    rw [tD]
    walk_at "sts"
    rw [bTT]
    walk_at "sts"
    refine spX3.good hsb htb ⟨_, rdH S1, hbd_of lfl lhs, fun G2 S2 => ?_⟩
    rw [hD8]
    have S12 := S1.trans S2
    walk_at "sts"
    rw [bTT]
    walk_at "sts"
    refine spX.good hsb htb fun G3 S3 => ?_
    rw [hmo]
    have S13 := S12.trans S3
    walk_at "sts"
    rw [decide_eq_true rfl]
    walk_at "sts"
    refine r_lenL (SqL.of (S13 _ _ ht9)) ?_
    walk_at "sts"
    rw [List.length_map, decide_eq_true (show (ws.length : Int) ≤ mo by omega)]
    walk_at "sts"
    refine r_lenL (SqL.of (hT9.same S13).at_) ?_
    walk_at "sts"
    rw [List.length_map, decide_eq_true (show mo ≤ (rs.length : Int) by omega)]
    walk_at "sts"
    refine r_new rfl fun tp ntp' => ?_
    have S14 := S13.upd ntp' (o := .tup [.ref t, .ref th])
    have ftp := upd_same (H := G3) (a := tp) (o := .tup [.ref t, .ref th])
    generalize upd G3 tp (.tup [.ref t, .ref th]) = G4 at S14 ftp ⊢
    walk_at "sts"
    refine spX3.good hsb htb ⟨.tuple [.list ((ws.map (·.2)).map pD), .list (hs8.map hD)], RD_tuple.mpr ⟨tp, _, rfl, ftp, RDs_one (rdT S14) (RDs_one (rdH S14) (RDs_nil.mpr rfl))⟩, fun x y e => ?_, fun G5 S5 => ?_⟩
    · injection e with e
      injection e with e1 e2
      injection e2 with e2 _
      subst e1 e2
      exact ⟨bT, hbd_of lfl lhs⟩
    have sD : showsD side top (.tuple [.list ((ws.map (·.2)).map pD), .list (hs8.map hD)]) = decide (V.int (ws.length : Int) = V.int (rs.length : Int)) := by
      show (threadD side top (.list ((ws.map (·.2)).map pD)) && (heapsD side top (.list (hs8.map hD)) && decide (((ws.map (·.2)).map pD).length = (hs8.map hD).length))) = _
      rw [tD, hD8, Bool.true_and, Bool.true_and, List.length_map, List.length_map, List.length_map]
      exact decide_eq_decide.mpr ⟨fun h => by rw [h, lrs], fun h => by injection h with h; omega⟩
    rw [sD]
    have S15 := S14.trans S5
    walk_at "sts"
    refine r_isi (.bl _) (b := true) (by rfl) ?_
    walk_at "sts"
    refine r_lenL (SqL.of (S15 _ _ ht9)) ?_
    walk_at "sts"
    refine r_lenL (SqL.of (hT9.same S15).at_) ?_
    walk_at "sts"
    rw [List.length_map, List.length_map, decide_eq_true rfl]
    walk_at "sts"
    have hv15 := S15 _ _ (S9 _ _ hv8)
    have hZ15 : Zl G5 zs := (hZ8.keep (TK.same S9)).keep (TK.same S15)
    have P15 := pur_same (pur_same P8 S9) S15
    have hL15 := S15 _ _ (S9 _ _ hL8)
    refine r_new rfl fun E nE => ?_
    have hv16 := upd_old nE hv15 (o := .lst [])
    have hZ16 : Zl (upd G5 E (.lst [])) zs := hZ15.keep (TK.new nE)
    have P16 := P15.new nE (o := .lst [])
    have hL16 := upd_old nE hL15 (o := .lst [])
    have hE16 := upd_same (H := G5) (a := E) (o := .lst [])
    have S16 := S15.upd nE (o := .lst [])
    generalize upd G5 E (.lst []) = G6 at hv16 hZ16 P16 hL16 hE16 S16 ⊢
    refine r_neData (d := .list ((zs.map (·.2)).map pD)) (e := .list []) (DR_list.mpr ⟨q1, _, rfl, hv16, hZ16.drs⟩) (DR_list.mpr ⟨E, [], rfl, hE16, DRs_nil.mpr rfl⟩) (shaped_ps _) rfl ?_
    rw [eqv_nil]
    by_cases hzs : zs = []
    · rw [show (List.map (fun z : V × PP => z.2) zs).isEmpty = true from by rw [hzs]; rfl]
      walk_at "sts"
      exact ⟨hL16, _, _, _, _, _, _, _, _, _, _, _, rfl⟩
    · have hpos : 0 < zs.length := List.length_pos_iff.mpr hzs
      rw [show (List.map (fun z : V × PP => z.2) zs).isEmpty = false from by cases zs with | nil => exact absurd rfl hzs | cons _ _ => rfl]
      walk_at "sts"
      refine r_lenL (SqL.of hv16) ?_
      walk_at "sts"
      refine ⟨p, _, rfl, P16, by simp; omega, by simp; omega, fun d G7 d0 d1 P17 C17 => ?_⟩
      obtain ⟨k, rfl⟩ : ∃ k : Nat, d = k := ⟨d.toNat, (Int.toNat_of_nonneg d0).symm⟩
      have hk : k < zs.length := by simp at d1; omega
      have hv17 := C17.at_ hv16 nqp
      have hZ17 := hZ16.keep (TK.chg P16 C17)
      have hL17 := C17.at_ hL16 nLp
      have hT17 : HTab G7 th rs hs8 := (hT9.same S16).keepC (H := H9) C17 P16 (P7.ne nth) fun x hx => P7.ne (fr x hx)
      obtain ⟨aa, eaa, haa⟩ := pD_at (hZ17 _ (List.getElem_mem hk))
      have mk : zs[k].2 ∈ hs8.flatten := hg8.pm.mem_iff.mpr (by rw [← ez]; exact List.mem_map.mpr ⟨_, List.getElem_mem hk, rfl⟩)
      walk_at "sts"
      refine r_ixL (SqL.of hv17) (atI_nat (v := .ref aa) (by rw [List.getElem?_map, List.getElem?_eq_getElem hk, ← eaa]; rfl)) ?_
      generalize zs[k].2 = pp at mk haa
      walk_at "sts"
      refine r_new rfl fun u1 nu1 => ?_
      have hT18 := hT17.same ((Same.refl G7).upd nu1 (o := .lst [.ref aa]))
      have f18 := upd_same (H := G7) (a := u1) (o := .lst [.ref aa])
      have a18 := upd_old nu1 haa (o := .lst [.ref aa])
      have hL18 := upd_old nu1 hL17 (o := .lst [.ref aa])
      generalize upd G7 u1 (.lst [.ref aa]) = G8 at hT18 f18 a18 hL18 ⊢
      walk_at "sts"
      refine r_new rfl fun u2 nu2 => ?_
      have hT19 := hT18.same ((Same.refl G8).upd nu2 (o := .lst [.ref u1]))
      have f19 := upd_old nu2 f18 (o := .lst [.ref u1])
      have g19 := upd_same (H := G8) (a := u2) (o := .lst [.ref u1])
      have a19 := upd_old nu2 a18 (o := .lst [.ref u1])
      have hL19 := upd_old nu2 hL18 (o := .lst [.ref u1])
      generalize upd G8 u2 (.lst [.ref u1]) = G9 at hT19 f19 g19 a19 hL19 ⊢
      refine r_addL hT19.at_ g19 (by rw [List.length_map]; show rs.length + 1 ≤ sizeLine; omega) fun u3 nu3 => ?_
      have sm := (Same.refl G9).upd nu3 (o := .lst (rs.map V.ref ++ [.ref u1]))
      have f20 := upd_same (H := G9) (a := u3) (o := .lst (rs.map V.ref ++ [.ref u1]))
      generalize upd G9 u3 (.lst (rs.map V.ref ++ [.ref u1])) = G10 at sm f20 ⊢
      have hT20 := hT19.same sm
      have a20 := sm _ _ a19
      have one20 : RD G10 (hD [pp]) (.ref u1) := RD_list.mpr ⟨u1, _, rfl, sm _ _ f19, RDs_one (RD_pair.mpr ⟨aa, rfl, a20⟩) (RDs_nil.mpr rfl)⟩
      have e20 : hs8.map hD ++ [hD [pp]] = (hs8 ++ [[pp]]).map hD := by simp
      have rd20 : RD G10 (.list (hs8.map hD ++ [hD [pp]])) (.ref u3) := RD_list.mpr ⟨u3, _, rfl, f20, RDs_app (RDs_rows hT20.len hT20.row) (RDs_one one20 (RDs_nil.mpr rfl))⟩
      walk_at "sts"
      refine spX3.good hsb htb ⟨_, rd20, ?_, fun G11 S11 => ?_⟩
      · rw [e20]
        refine hbd_of ?_ ?_
        · rw [List.flatten_append, List.length_append, hg8.pm.length_eq]; simp; omega
        · simp; omega
      rw [heaps_again mk]
      walk_at "sts"
      rw [bFF]
      walk_at "sts"
      have a21 := S11 _ _ a20
      have hL21 := S11 _ _ (sm _ _ hL19)
      refine r_new rfl fun u4 nu4 => ?_
      walk_at "sts"
      refine r_mulL upd_same (by omega) (by omega) (by simp; omega) fun u5 nu5 => ?_
      have a22 := upd_old nu5 (upd_old nu4 a21 (o := .lst [.ref aa])) (o := .lst (List.replicate (2 : Int).toNat [V.ref aa]).flatten)
      have hL22 := upd_old nu5 (upd_old nu4 hL21 (o := .lst [.ref aa])) (o := .lst (List.replicate (2 : Int).toNat [V.ref aa]).flatten)
      have f22 : upd (upd G11 u4 (.lst [.ref aa])) u5 (.lst (List.replicate (2 : Int).toNat [V.ref aa]).flatten) u5 = some (.lst [.ref aa, .ref aa]) := upd_same
      generalize upd (upd G11 u4 (.lst [.ref aa])) u5 (.lst (List.replicate (2 : Int).toNat [V.ref aa]).flatten) = G12 at a22 hL22 f22 ⊢
      walk_at "sts"
      refine spX3.good hsb htb ⟨.list [pD pp, pD pp], RD_list.mpr ⟨u5, _, rfl, f22, RDs_one (RD_pair.mpr ⟨aa, rfl, a22⟩) (RDs_one (RD_pair.mpr ⟨aa, rfl, a22⟩) (RDs_nil.mpr rfl))⟩, fun ds e => ?_, fun G13 S13' => ?_⟩
      · injection e with e
        rw [← e]; simp
      rw [thread_twice]
      walk_at "sts"
      rw [bFF]
      walk_at "sts"
      exact ⟨S13' _ _ hL22, _, _, _, _, _, _, _, _, _, _, _, rfl⟩
  · rintro σ H1 ⟨hL, x1, x2, x3, x4, x5, x6, x7, x8, x9, x10, x11, rfl⟩
    walk_at "sts"
    exact q _
end

end My
open PySem PySem.W PyProof.Rows
set_option maxRecDepth 100000 in
set_option maxHeartbeats 0 in
theorem PySem.Challenge.cw_panethread_k14_whole_no_thread_beats_hea_holds : PySem.Challenge.rw_panethread_k14_whole_no_thread_beats_hea.Holds := by
  w_on; o_law; k_head; (case hw => w_witness2)
  k_fill
  refine L2.walkJ (l := PySem.Challenge.rw_panethread_k14_whole_no_thread_beats_hea) (st := My.s_law) (k := 9) (x := "_law_script") (sp := My.spLaw) rfl rfl rfl ⟨rfl, by decide, by decide, rfl⟩ (fun w h Y => PySem.W.kIn_of Y) (fun _ _ _ _ _ _ us hl => L2.usN1 (fun _ => rfl) us hl) ?F (fun K H a ns hl hS => ⟨a, ns, rfl, hS, hl, fun _ => rfl⟩)
  case F =>
    intro w mg h KX G
    have b_all : mg "all" = none := by
      refine' PySem.W.mg_none_of KX G ?a
      (case a => k_is)
    have b_any : mg "any" = none := by
      refine' PySem.W.mg_none_of KX G ?a
      (case a => k_is)
    have b_bool : mg "bool" = none := by
      refine' PySem.W.mg_none_of KX G ?a
      (case a => k_is)
    have b_enumerate : mg "enumerate" = none := by
      refine' PySem.W.mg_none_of KX G ?a
      (case a => k_is)
    have b_int : mg "int" = none := by
      refine' PySem.W.mg_none_of KX G ?a
      (case a => k_is)
    have b_isinstance : mg "isinstance" = none := by
      refine' PySem.W.mg_none_of KX G ?a
      (case a => k_is)
    have b_len : mg "len" = none := by
      refine' PySem.W.mg_none_of KX G ?a
      (case a => k_is)
    have b_list : mg "list" = none := by
      refine' PySem.W.mg_none_of KX G ?a
      (case a => k_is)
    have b_max : mg "max" = none := by
      refine' PySem.W.mg_none_of KX G ?a
      (case a => k_is)
    have b_range : mg "range" = none := by
      refine' PySem.W.mg_none_of KX G ?a
      (case a => k_is)
    have b_sorted : mg "sorted" = none := by
      refine' PySem.W.mg_none_of KX G ?a
      (case a => k_is)
    have b_str : mg "str" = none := by
      refine' PySem.W.mg_none_of KX G ?a
      (case a => k_is)
    have b_tuple : mg "tuple" = none := by
      refine' PySem.W.mg_none_of KX G ?a
      (case a => k_is)
    have c_LETTERS : ∃ t, mg "LETTERS" = some (.str "abcdefghijklmnopqrstuvwxyz" t) := by
      refine' L2.const_mk KX G ?a ?h
      (case a => k_is); (case h => exact ⟨_, by with_unfolding_all rfl⟩)
    have c_MOST_SIGNS : ∃ t, mg "MOST_SIGNS" = some (.int 48 t) := by
      refine' L2.const_mk KX G ?a ?h
      (case a => k_is); (case h => exact ⟨_, by with_unfolding_all rfl⟩)
    have c_POINT : ∃ t, mg "POINT" = some (.str "." t) := by
      refine' L2.const_mk KX G ?a ?h
      (case a => k_is); (case h => exact ⟨_, by with_unfolding_all rfl⟩)
    have d_is_number : L2.Def (L2.KOf KX) mg "is_number" My.s_is_number := by
      dsimp only [L2.KOf]
      refine' L2.def_mk KX G ?a ?l ?c ?k
      (case a => k_is); (case l => k_is); (case c => k_is); (case k => k_is)
    have d_is_pair : L2.Def (L2.KOf KX) mg "is_pair" My.s_is_pair := by
      dsimp only [L2.KOf]
      refine' L2.def_mk KX G ?a ?l ?c ?k
      (case a => k_is); (case l => k_is); (case c => k_is); (case k => k_is)
    have d_is_row : L2.Def (L2.KOf KX) mg "is_row" My.s_is_row := by
      dsimp only [L2.KOf]
      refine' L2.def_mk KX G ?a ?l ?c ?k
      (case a => k_is); (case l => k_is); (case c => k_is); (case k => k_is)
    have d_need_row : L2.Def (L2.KOf KX) mg "need_row" My.s_need_row := by
      dsimp only [L2.KOf]
      refine' L2.def_mk KX G ?a ?l ?c ?k
      (case a => k_is); (case l => k_is); (case c => k_is); (case k => k_is)
    have d_need_rows : L2.Def (L2.KOf KX) mg "need_rows" My.s_need_rows := by
      dsimp only [L2.KOf]
      refine' L2.def_mk KX G ?a ?l ?c ?k
      (case a => k_is); (case l => k_is); (case c => k_is); (case k => k_is)
    have d_lengths_below : L2.Def (L2.KOf KX) mg "lengths_below" My.s_lengths_below := by
      dsimp only [L2.KOf]
      refine' L2.def_mk KX G ?a ?l ?c ?k
      (case a => k_is); (case l => k_is); (case c => k_is); (case k => k_is)
    have d_lengths : L2.Def (L2.KOf KX) mg "lengths" My.s_lengths := by
      dsimp only [L2.KOf]
      refine' L2.def_mk KX G ?a ?l ?c ?k
      (case a => k_is); (case l => k_is); (case c => k_is); (case k => k_is)
    have d_longest : L2.Def (L2.KOf KX) mg "longest" My.s_longest := by
      dsimp only [L2.KOf]
      refine' L2.def_mk KX G ?a ?l ?c ?k
      (case a => k_is); (case l => k_is); (case c => k_is); (case k => k_is)
    have d_is_match : L2.Def (L2.KOf KX) mg "is_match" My.s_is_match := by
      dsimp only [L2.KOf]
      refine' L2.def_mk KX G ?a ?l ?c ?k
      (case a => k_is); (case l => k_is); (case c => k_is); (case k => k_is)
    have d_is_ahead : L2.Def (L2.KOf KX) mg "is_ahead" My.s_is_ahead := by
      dsimp only [L2.KOf]
      refine' L2.def_mk KX G ?a ?l ?c ?k
      (case a => k_is); (case l => k_is); (case c => k_is); (case k => k_is)
    have d_is_thread : L2.Def (L2.KOf KX) mg "is_thread" My.s_is_thread := by
      dsimp only [L2.KOf]
      refine' L2.def_mk KX G ?a ?l ?c ?k
      (case a => k_is); (case l => k_is); (case c => k_is); (case k => k_is)
    have d_pairs_of : L2.Def (L2.KOf KX) mg "pairs_of" My.s_pairs_of := by
      dsimp only [L2.KOf]
      refine' L2.def_mk KX G ?a ?l ?c ?k
      (case a => k_is); (case l => k_is); (case c => k_is); (case k => k_is)
    have d_is_stack : L2.Def (L2.KOf KX) mg "is_stack" My.s_is_stack := by
      dsimp only [L2.KOf]
      refine' L2.def_mk KX G ?a ?l ?c ?k
      (case a => k_is); (case l => k_is); (case c => k_is); (case k => k_is)
    have d_holds_all_once : L2.Def (L2.KOf KX) mg "holds_all_once" My.s_holds_all_once := by
      dsimp only [L2.KOf]
      refine' L2.def_mk KX G ?a ?l ?c ?k
      (case a => k_is); (case l => k_is); (case c => k_is); (case k => k_is)
    have d_has_one_ahead : L2.Def (L2.KOf KX) mg "has_one_ahead" My.s_has_one_ahead := by
      dsimp only [L2.KOf]
      refine' L2.def_mk KX G ?a ?l ?c ?k
      (case a => k_is); (case l => k_is); (case c => k_is); (case k => k_is)
    have d_are_heaps : L2.Def (L2.KOf KX) mg "are_heaps" My.s_are_heaps := by
      dsimp only [L2.KOf]
      refine' L2.def_mk KX G ?a ?l ?c ?k
      (case a => k_is); (case l => k_is); (case c => k_is); (case k => k_is)
    have d_shows : L2.Def (L2.KOf KX) mg "shows" My.s_shows := by
      dsimp only [L2.KOf]
      refine' L2.def_mk KX G ?a ?l ?c ?k
      (case a => k_is); (case l => k_is); (case c => k_is); (case k => k_is)
    have d_law_cell : L2.Def (L2.KOf KX) mg "_law_cell" My.s_law_cell := by
      dsimp only [L2.KOf]
      refine' L2.def_mk KX G ?a ?l ?c ?k
      (case a => k_is); (case l => k_is); (case c => k_is); (case k => k_is)
    have d_law_purse : L2.Def (L2.KOf KX) mg "_law_purse" My.s_law_purse := by
      dsimp only [L2.KOf]
      refine' L2.def_mk KX G ?a ?l ?c ?k
      (case a => k_is); (case l => k_is); (case c => k_is); (case k => k_is)
    have d_law_take : L2.Def (L2.KOf KX) mg "_law_take" My.s_law_take := by
      dsimp only [L2.KOf]
      refine' L2.def_mk KX G ?a ?l ?c ?k
      (case a => k_is); (case l => k_is); (case c => k_is); (case k => k_is)
    have d_law_letters : L2.Def (L2.KOf KX) mg "_law_letters" My.s_law_letters := by
      dsimp only [L2.KOf]
      refine' L2.def_mk KX G ?a ?l ?c ?k
      (case a => k_is); (case l => k_is); (case c => k_is); (case k => k_is)
    have d_law_drawn : L2.Def (L2.KOf KX) mg "_law_drawn" My.s_law_drawn := by
      dsimp only [L2.KOf]
      refine' L2.def_mk KX G ?a ?l ?c ?k
      (case a => k_is); (case l => k_is); (case c => k_is); (case k => k_is)
    have d_law_row : L2.Def (L2.KOf KX) mg "_law_row" My.s_law_row := by
      dsimp only [L2.KOf]
      refine' L2.def_mk KX G ?a ?l ?c ?k
      (case a => k_is); (case l => k_is); (case c => k_is); (case k => k_is)
    have d_law_table : L2.Def (L2.KOf KX) mg "_law_table" My.s_law_table := by
      dsimp only [L2.KOf]
      refine' L2.def_mk KX G ?a ?l ?c ?k
      (case a => k_is); (case l => k_is); (case c => k_is); (case k => k_is)
    have d_law_pairs : L2.Def (L2.KOf KX) mg "_law_pairs" My.s_law_pairs := by
      dsimp only [L2.KOf]
      refine' L2.def_mk KX G ?a ?l ?c ?k
      (case a => k_is); (case l => k_is); (case c => k_is); (case k => k_is)
    have d_law_ahead : L2.Def (L2.KOf KX) mg "_law_ahead" My.s_law_ahead := by
      dsimp only [L2.KOf]
      refine' L2.def_mk KX G ?a ?l ?c ?k
      (case a => k_is); (case l => k_is); (case c => k_is); (case k => k_is)
    have d_law_shuffled : L2.Def (L2.KOf KX) mg "_law_shuffled" My.s_law_shuffled := by
      dsimp only [L2.KOf]
      refine' L2.def_mk KX G ?a ?l ?c ?k
      (case a => k_is); (case l => k_is); (case c => k_is); (case k => k_is)
    have d_law_some_thread : L2.Def (L2.KOf KX) mg "_law_some_thread" My.s_law_some_thread := by
      dsimp only [L2.KOf]
      refine' L2.def_mk KX G ?a ?l ?c ?k
      (case a => k_is); (case l => k_is); (case c => k_is); (case k => k_is)
    have d_law_some_heaps : L2.Def (L2.KOf KX) mg "_law_some_heaps" My.s_law_some_heaps := by
      dsimp only [L2.KOf]
      refine' L2.def_mk KX G ?a ?l ?c ?k
      (case a => k_is); (case l => k_is); (case c => k_is); (case k => k_is)
    have d_law : L2.Def (L2.KOf KX) mg "law" My.s_law := by
      dsimp only [L2.KOf]
      refine' L2.def_mk KX G ?a ?l ?c ?k
      (case a => k_is); (case l => k_is); (case c => k_is); (case k => k_is)
    have x_NoRow : L2.XTxt (L2.KOf KX) mg "NoRow" ["found"] "NoRow.__init__" My.i_NoRow := by
      dsimp only [L2.KOf]
      refine' L2.xt_mk KX G ?a ?b ?kp ?na ?i ?t ?l ?c ?k
      (case a => k_is); (case b => kernel_rfl); (case kp => k_is); (case na => kernel_rfl); (case i => k_is); (case t => k_is); (case l => k_is); (case c => k_is); (case k => k_is)
    exact ⟨d_law, fun base f fd F => My.ok_law ⟨b_all, b_any, b_bool, b_enumerate, b_int, b_isinstance, b_len, b_list, b_max, b_range, b_sorted, b_str, b_tuple, c_LETTERS, c_MOST_SIGNS, c_POINT, d_is_number, d_is_pair, d_is_row, d_need_row, d_need_rows, d_lengths_below, d_lengths, d_longest, d_is_match, d_is_ahead, d_is_thread, d_pairs_of, d_is_stack, d_holds_all_once, d_has_one_ahead, d_are_heaps, d_shows, d_law_cell, d_law_purse, d_law_take, d_law_letters, d_law_drawn, d_law_row, d_law_table, d_law_pairs, d_law_ahead, d_law_shuffled, d_law_some_thread, d_law_some_heaps, d_law, x_NoRow⟩ F⟩
