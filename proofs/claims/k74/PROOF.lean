import PyProof.Rows.All
import Wide.All
import OpenK.AllK
import Wide.FinOn
import Lean
import PyProof.EqAt
import PyProof.EqKinds
import PyProof.TupleCall
import PyProof.ReprRoads
import KE.KSortTup
import PySem.Challenge.RW_panethread_k74_whole_no_others_are_worth
-- CHANGE: your row's module here, as the last of these rows
set_option compiler.extract_closed false
set_option Elab.async false
set_option linter.all false
set_option maxRecDepth 100000
namespace L2
@[elab_as_elim] theorem usN1 {p : List PySem.Value → Prop} (h : ∀ a0 : PySem.Value, p [a0]) (us : List PySem.Value) (hl : us.length = 1) : p us := by
  rcases us with _ | ⟨a0, us0⟩
  · cases hl
  rcases us0 with _ | ⟨b, us⟩
  · exact h a0
  · cases hl
@[elab_as_elim] theorem usN2 {p : List PySem.Value → Prop} (h : ∀ a0 a1 : PySem.Value, p [a0, a1]) (us : List PySem.Value) (hl : us.length = 2) : p us := by
  rcases us with _ | ⟨a0, us0⟩
  · cases hl
  rcases us0 with _ | ⟨a1, us1⟩
  · cases hl
  rcases us1 with _ | ⟨b, us⟩
  · exact h a0 a1
  · cases hl
@[elab_as_elim] theorem usN3 {p : List PySem.Value → Prop} (h : ∀ a0 a1 a2 : PySem.Value, p [a0, a1, a2]) (us : List PySem.Value) (hl : us.length = 3) : p us := by
  rcases us with _ | ⟨a0, us0⟩
  · cases hl
  rcases us0 with _ | ⟨a1, us1⟩
  · cases hl
  rcases us1 with _ | ⟨a2, us2⟩
  · cases hl
  rcases us2 with _ | ⟨b, us⟩
  · exact h a0 a1 a2
  · cases hl
@[elab_as_elim] theorem usN4 {p : List PySem.Value → Prop} (h : ∀ a0 a1 a2 a3 : PySem.Value, p [a0, a1, a2, a3]) (us : List PySem.Value) (hl : us.length = 4) : p us := by
  rcases us with _ | ⟨a0, us0⟩
  · cases hl
  rcases us0 with _ | ⟨a1, us1⟩
  · cases hl
  rcases us1 with _ | ⟨a2, us2⟩
  · cases hl
  rcases us2 with _ | ⟨a3, us3⟩
  · cases hl
  rcases us3 with _ | ⟨b, us⟩
  · exact h a0 a1 a2 a3
  · cases hl
theorem auto1 (h : True := by first | exact .inl rfl | exact .inr rfl | assumption) : True := h
theorem auto2 (h : True := by decide) : True := h
theorem auto3 (h : True := by intro _; rfl) : True := h
theorem auto4 (h : True := by rfl) : True := h
theorem auto5 (h : True := by with_unfolding_all rfl) : True := h
theorem auto6 (h : True := by decide +kernel) : True := h
open PySem PySem.Spec PyProof.Rows

noncomputable abbrev Key := Sum Int Str
noncomputable def keyIs : Key → Value → Bool
  | .inl k, v => Value.isInt k v
  | .inr x, v => Value.isStrOf x v
noncomputable def keyH (w : World) : Key → Int
  | .inl k => hashInt k
  | .inr x => hashStr w x
theorem keyIs_shape : ∀ {k : Key} {v : Value}, keyIs k v = true → (∃ i t, k = Sum.inl i ∧ v = Value.int i t) ∨ (∃ x t, k = Sum.inr x ∧ v = Value.str x t)
  | .inl i, v, h => by
    obtain ⟨t, e⟩ := Value.isInt_shape (k := i) (v := v) h
    exact .inl ⟨i, t, rfl, e⟩
  | .inr x, v, h => by
    obtain ⟨t, e⟩ := Value.isStrOf_shape (x := x) (v := v) h
    exact .inr ⟨x, t, rfl, e⟩
theorem key_ll (a b : Int) : decide ((Sum.inl a : Key) = Sum.inl b) = (a == b) := by
  by_cases e : a = b
  · subst e; simp
  · have h : ¬ (Sum.inl a : Key) = Sum.inl b := fun q => e (Sum.inl.inj q)
    rw [decide_eq_false h]
    exact (beq_eq_false_iff_ne.mpr e).symm
theorem key_rr (a b : Str) : decide ((Sum.inr a : Key) = Sum.inr b) = decide (a = b) := by
  by_cases e : a = b
  · subst e; simp
  · have h : ¬ (Sum.inr a : Key) = Sum.inr b := fun q => e (Sum.inr.inj q)
    rw [decide_eq_false h, decide_eq_false e]
theorem key_lr (a : Int) (b : Str) : decide ((Sum.inl a : Key) = Sum.inr b) = false := decide_eq_false (fun q => nomatch q)
theorem key_rl (a : Str) (b : Int) : decide ((Sum.inr a : Key) = Sum.inl b) = false := decide_eq_false (fun q => nomatch q)

noncomputable def mixKind (prog : Program) (w : World) : PySem.KeyKind prog w Key where
  is := keyIs
  hash := keyH w
  inj := fun v a b ha hb => by
    rcases keyIs_shape ha with ⟨i, t, rfl, rfl⟩ | ⟨x, t, rfl, rfl⟩
    · rcases keyIs_shape hb with ⟨j, u, rfl, e⟩ | ⟨y, u, rfl, e⟩
      · injection e with e1 _; rw [e1]
      · exact nomatch e
    · rcases keyIs_shape hb with ⟨j, u, rfl, e⟩ | ⟨y, u, rfl, e⟩
      · exact nomatch e
      · injection e with e1 _; rw [e1]
  byValue := fun k v h => by
    rcases keyIs_shape h with ⟨i, t, rfl, rfl⟩ | ⟨x, t, rfl, rfl⟩ <;> rfl
  pyHash := fun hv h => by
    rcases keyIs_shape hv with ⟨i, t, rfl, rfl⟩ | ⟨x, t, rfl, rfl⟩
    · exact wpAny_pyHash_int h
    · exact wpAny_pyHash_str h
  eqBool := fun hu hv h => by
    rcases keyIs_shape hu with ⟨i, t, rfl, rfl⟩ | ⟨x, t, rfl, rfl⟩
    · rcases keyIs_shape hv with ⟨j, u, rfl, rfl⟩ | ⟨y, u, rfl, rfl⟩
      · rw [key_ll] at h; exact wpAny_eqBool_int h
      · rw [key_lr] at h; exact SeqAt.EqAt.int_str i t y u _ _ _ _ h
    · rcases keyIs_shape hv with ⟨j, u, rfl, rfl⟩ | ⟨y, u, rfl, rfl⟩
      · rw [key_rl] at h; exact SeqAt.EqAt.str_int x t j u _ _ _ _ h
      · rw [key_rr] at h; exact wpAny_eqBool_str h
  «strs» := fun k x t v h => by
    rcases keyIs_shape h with ⟨i, u, rfl, e⟩ | ⟨y, u, rfl, e⟩
    · exact nomatch e
    · injection e with e1 _
      subst e1
      cases v <;> rfl

end L2

namespace L2
open PySem PySem.Spec PyProof.Rows

inductive V where
  | non | bl (b : Bool) | int (i : Int) | str (x : Str) | byt (b : Array UInt8) | flt (b : UInt64) | ref (a : Addr) | ty (n : String)
  deriving DecidableEq

noncomputable def RelV : V → Value → Prop
  | .non, u => u = Value.none
  | .bl b, u => u = Value.bool b
  | .int i, u => ∃ t, u = Value.int i t
  | .str x, u => ∃ t, u = Value.str x t
  | .byt b, u => ∃ t, u = Value.bytes b t
  | .flt b, u => ∃ t, u = Value.float b t
  | .ref a, u => u = Value.ref a
  | .ty n, u => u = Value.type n

noncomputable abbrev Vals : List V → List Value → Prop := Paired RelV
theorem Vals.length {xs : List V} {us : List Value} (r : Vals xs us) : xs.length = us.length := Paired.length r
theorem Vals.get : ∀ {xs : List V} {us : List Value} {i : Nat} {x : V}, Vals xs us → xs[i]? = some x → ∃ u, us[i]? = some u ∧ RelV x u
  | _, _, _, _, .nil, e => by simp at e
  | _, _, 0, _, .cons r _, e => by simp at e; subst e; exact ⟨_, rfl, r⟩
  | _, _, i + 1, x, .cons _ t, e => by
    obtain ⟨u, h1, h2⟩ := Vals.get (i := i) (x := x) t (by simpa using e)
    exact ⟨u, by simpa using h1, h2⟩
theorem Vals.set {x : V} {u : Value} (r : RelV x u) : ∀ {xs : List V} {us : List Value} (i : Nat), Vals xs us → Vals (xs.set i x) (us.set i u)
  | _, _, _, .nil => .nil
  | _, _, 0, .cons _ t => .cons r t
  | _, _, i + 1, .cons q t => .cons q (Vals.set r i t)
theorem Vals.append : ∀ {xs ys : List V} {us ws : List Value}, Vals xs us → Vals ys ws → Vals (xs ++ ys) (us ++ ws)
  | _, _, _, _, .nil, s => s
  | _, _, _, _, .cons r t, s => .cons r (Vals.append t s)
theorem Vals.take : ∀ {xs : List V} {us : List Value} (n : Nat), Vals xs us → Vals (xs.take n) (us.take n)
  | _, _, 0, _ => .nil
  | _, _, _ + 1, .nil => .nil
  | _, _, n + 1, .cons r t => .cons r (Vals.take n t)
theorem Vals.drop : ∀ {xs : List V} {us : List Value} (n : Nat), Vals xs us → Vals (xs.drop n) (us.drop n)
  | _, _, 0, r => r
  | _, _, _ + 1, .nil => .nil
  | _, _, n + 1, .cons _ t => Vals.drop n t
noncomputable def RelO : Option V → Option Value → Prop
  | some v, some u => RelV v u
  | none, none => True
  | _, _ => False
noncomputable def KV {κ : Type} : List (κ × V) → List (κ × Value) → Prop := Paired fun (p : κ × V) (q : κ × Value) => p.1 = q.1 ∧ RelV p.2 q.2

noncomputable def kV : Key → V
  | .inl i => .int i
  | .inr x => .str x

inductive HO where
  /-- a list -/
  | lst (xs : List V)
  /-- a tuple (never changes) -/
  | tup (xs : List V)
  /-- a dict whose keys are ints and texts; one whose keys are tuples of ints and texts (the empty one is both) -/
  | dK (kvs : List (Key × V)) | dT (kvs : List (List Key × V))
  /-- a set of ints: its members, its size -/
  | set (S : Int → Bool) (n : Nat)
  /-- an instance of the class at C, its dict at dx, its attributes -/
  | ins (C dx : Addr) (fs : List (Str × V))
  /-- the dict of the instance at x -/
  | own (x : Addr)
  /-- the dict of an exception -/
  | xd (fs : List (Str × V))
  /-- a bound method, f of x -/
  | met (f x : Addr)
  /-- a range object lo, lo + 1, .. below hi -/
  | rng (lo hi : Int)
  /-- a thing that is known to the object (the script; a dict while a loop walks it): read, never written while it is so -/
  | frz (o : Obj) (u : HO)
  /-- a code object's table -/
  | tbl (ps : Array Value)
  /-- any other thing, by what is true of its one object (a def of one's own: SetO a S n := HO.ext fun h => ..) -/
  | ext (φ : Heap → Prop)

noncomputable abbrev Hp := Addr → Option HO
noncomputable def upd (H : Hp) (a : Addr) (o : HO) : Hp := fun b => if b = a then some o else H b
theorem upd_same {H : Hp} {a : Addr} {o : HO} : upd H a o a = some o := by unfold upd; rw [if_pos rfl]
theorem upd_ne {H : Hp} {a b : Addr} {o : HO} (h : b ≠ a) : upd H a o b = H b := by unfold upd; rw [if_neg h]
theorem ne_of_none {H : Hp} {a b : Addr} {o : HO} (h : H a = some o) (h' : H b = none) : a ≠ b := by
  intro e; subst e; rw [h] at h'; cases h'

section
variable (P : Program) (w : World)
noncomputable def ObjOk (H : Hp) (h : Heap) (a : Addr) : HO → Prop
  | .lst xs => xs.length ≤ sizeLine ∧ ∃ (its : List Value) (n : Nat), Vals xs its ∧ h.get? a = some { cls := .type "list", data := .seq its.toArray n }
  | .tup xs => xs.length ≤ sizeLine ∧ ∃ its : List Value, Vals xs its ∧ IsTup h a its.toArray
  | .dK kvs => kvs.length ≤ sizeLine ∧ (a == sysModules) = false ∧ ∃ vs, KV kvs vs ∧ h.DictOf (mixKind P w) a vs
  | .dT kvs => kvs.length ≤ sizeLine ∧ (a == sysModules) = false ∧ ∃ xs : List (List Key × Addr × Value),
      Paired (fun (p : List Key × V) (q : List Key × Addr × Value) => p.1 = q.1 ∧ H q.2.1 = some (.tup (p.1.map kV)) ∧ RelV p.2 q.2.2) kvs xs ∧
      ∃ o es ep, h.get? a = some o ∧ o.ExactDict ∧ o.data = .dict es ep ∧ es.toList = xs.map (entryOfKey (tupleKind (mixKind P w))) ∧ (xs.map (·.1)).Nodup
  | .set S n => h.SetOf (intKind P w) a S n
  | .ins C dx fs => H dx = some (.own a) ∧ fs.length ≤ 1000 ∧ dx ≠ a ∧ h.get? a = some (PySem.W.instObj C dx) ∧
      ∃ mA, h.Ns1 dx mA ∧ (∀ f, RelO (fs.lookup f) (mA f)) ∧ PySem.Within mA (fs.map (·.1))
  | .own _ => ∃ o, h.get? a = some o
  | .xd fs => ∃ mA, h.Ns1 a mA ∧ ∀ f, RelO (fs.lookup f) (mA f)
  | .rng lo hi => ∃ t u v, h.get? a = some { cls := .type "range", data := .fields #[.int lo t, .int hi u, .int 1 v] }
  | .frz o u => h.get? a = some o ∧ ObjOk H h a u
  | .tbl ps => h.get? a = some { cls := .none, data := .fields ps }
  | .met f x => h.get? a = some (PySem.W.methodObj (.ref f) (.ref x))
  | .ext φ => φ h ∧ (∃ o, h.get? a = some o) ∧ ∀ h1 h2 : Heap, φ h1 → (∀ o, h1.get? a = some o → h2.get? a = some o) → φ h2
noncomputable def HOk (H : Hp) (h : Heap) : Prop := ∀ a o, H a = some o → ObjOk P w H h a o
end

section
variable {P : Program} {w : World} {H H' : Hp} {h h' : Heap} {a : Addr} {o : HO}
theorem ObjOk.lt (x : ObjOk P w H h a o) : a < h.objs.size := by
  cases o with
  | lst xs => obtain ⟨_, _, _, _, e⟩ := x; exact Heap.lt_size e
  | tup xs => obtain ⟨_, _, _, p⟩ := x; exact p.lt
  | dK kvs => obtain ⟨_, _, _, _, o, _, _, e, _⟩ := x; exact Heap.lt_size e
  | dT kvs => obtain ⟨_, _, _, _, o, _, _, e, _⟩ := x; exact Heap.lt_size e
  | set S n => obtain ⟨o, _, _, _, e, _⟩ := x; exact Heap.lt_size e
  | ins C dx fs => obtain ⟨_, _, _, e, _⟩ := x; exact Heap.lt_size e
  | own y => obtain ⟨_, e⟩ := x; exact Heap.lt_size e
  | xd fs => obtain ⟨_, ⟨_, _, _, e, _⟩, _⟩ := x; exact Heap.lt_size e
  | rng lo hi => obtain ⟨_, _, _, e⟩ := x; exact Heap.lt_size e
  | frz ob u => obtain ⟨e, _⟩ := x; exact Heap.lt_size e
  | tbl ps => exact Heap.lt_size (show h.get? a = some _ from x)
  | met f y => exact Heap.lt_size (show h.get? a = some _ from x)
  | ext φ => obtain ⟨_, ⟨_, e⟩, _⟩ := x; exact Heap.lt_size e
theorem Paired.mapP {α β : Type} {F G : α → β → Prop} : ∀ {l₁ : List α} {l₂ : List β}, Paired F l₁ l₂ → (∀ a b, F a b → G a b) → Paired G l₁ l₂
  | _, _, .nil, _ => .nil
  | _, _, .cons r t, f => .cons (f _ _ r) (Paired.mapP t f)
theorem ObjOk.stay (x : ObjOk P w H h a o) (k : ∀ b u, (b = a ∨ H b = some (.own a)) → h.get? b = some u → h'.get? b = some u)
    (ho : ∀ b, H b = some (.own a) → H' b = some (.own a)) (ht : ∀ b xs, H b = some (.tup xs) → H' b = some (.tup xs)) : ObjOk P w H' h' a o := by
  induction o with
  | lst xs => obtain ⟨z, its, n, r, e⟩ := x; exact ⟨z, its, n, r, k _ _ (.inl rfl) e⟩
  | tup xs => obtain ⟨z, its, r, ob, e, c⟩ := x; exact ⟨z, its, r, ob, k _ _ (.inl rfl) e, c⟩
  | dK kvs => obtain ⟨z, y, vs, r, ob, es, ep, e, c⟩ := x; exact ⟨z, y, vs, r, ob, es, ep, k _ _ (.inl rfl) e, c⟩
  | dT kvs =>
    obtain ⟨z, y, xs, r, ob, es, ep, e, c⟩ := x
    exact ⟨z, y, xs, Paired.mapP r fun p q z => ⟨z.1, ht _ _ z.2.1, z.2.2⟩, ob, es, ep, k _ _ (.inl rfl) e, c⟩
  | set S n => obtain ⟨ob, es, ep, t, e, c⟩ := x; exact ⟨ob, es, ep, t, k _ _ (.inl rfl) e, c⟩
  | ins C dx fs =>
    obtain ⟨d, z, ne, e, mA, ⟨od, es, ep, e2, c⟩, r⟩ := x
    exact ⟨ho _ d, z, ne, k _ _ (.inl rfl) e, mA, ⟨od, es, ep, k _ _ (.inr d) e2, c⟩, r⟩
  | own y => obtain ⟨ob, e⟩ := x; exact ⟨ob, k _ _ (.inl rfl) e⟩
  | xd fs => obtain ⟨mA, ⟨od, es, ep, e, c⟩, r⟩ := x; exact ⟨mA, ⟨od, es, ep, k _ _ (.inl rfl) e, c⟩, r⟩
  | rng lo hi => obtain ⟨t, u, v, e⟩ := x; exact ⟨t, u, v, k _ _ (.inl rfl) e⟩
  | frz ob u ih => obtain ⟨e, q⟩ := x; exact ⟨k _ _ (.inl rfl) e, ih q⟩
  | tbl ps =>
    have e : h.get? a = some { cls := .none, data := .fields ps } := x
    show h'.get? a = some { cls := .none, data := .fields ps }
    exact k a _ (.inl rfl) e
  | met f y =>
    have e : h.get? a = some (PySem.W.methodObj (.ref f) (.ref y)) := x
    show h'.get? a = some (PySem.W.methodObj (.ref f) (.ref y))
    exact k a _ (.inl rfl) e
  | ext φ => obtain ⟨p, ⟨o, e⟩, st⟩ := x; exact ⟨st _ _ p fun o q => k _ _ (.inl rfl) q, ⟨o, k _ _ (.inl rfl) e⟩, st⟩
theorem HOk.lt (x : HOk P w H h) (e : H a = some o) : a < h.objs.size := (x a o e).lt
theorem HOk.fresh (x : HOk P w H h) (e : h.objs.size ≤ a) : H a = none := by
  cases q : H a with
  | none => rfl
  | some u => exact absurd (Nat.lt_of_lt_of_le (x.lt q) e) (Nat.lt_irrefl _)
theorem HOk.kept (x : HOk P w H h) (k : ∀ b u, h.get? b = some u → h'.get? b = some u) : HOk P w H h' := fun a o e =>
  (x a o e).stay (fun b u _ q => k b u q) (fun _ q => q) fun _ _ q => q
theorem HOk.laid (x : HOk P w H h) (k : ∀ b u, h.get? b = some u → h'.get? b = some u) (hp : h.objs.size ≤ a) (new : ObjOk P w (upd H a o) h' a o) : HOk P w (upd H a o) h' := fun b u e => by
  have hn := x.fresh hp
  by_cases hb : b = a
  · subst hb; rw [upd_same] at e; cases e; exact new
  · rw [upd_ne hb] at e
    exact (x b u e).stay (fun c v _ q => k c v q) (fun c q => by rw [upd_ne (ne_of_none q hn)]; exact q) fun c xs q => by rw [upd_ne (ne_of_none q hn)]; exact q
end

noncomputable def Rd (H : Hp) (a : Addr) (u : HO) : Prop := H a = some u ∨ ∃ o, H a = some (.frz o u)
theorem Rd.ok {P : Program} {w : World} {H : Hp} {h : Heap} {a : Addr} {u : HO} (r : Rd H a u) (x : HOk P w H h) : ObjOk P w H h a u := by
  rcases r with r | ⟨o, r⟩
  · exact x a u r
  · obtain ⟨_, q⟩ := x a _ r
    exact q
noncomputable def Mut : Option HO → Prop
  | some (.lst _) => True
  | some (.dK _) => True
  | some (.dT _) => True
  | some (.set _ _) => True
  | some (.ins _ _ _) => True
  | some (.ext _) => True
  | _ => False
section
variable {P : Program} {w : World} {H : Hp} {h h' : Heap} {x e : Addr} {o' : HO}
theorem HOk.write (ok : HOk P w H h) (mu : Mut (H x)) (he : e = x ∨ H e = some (.own x)) (k : ∀ b u, b ≠ e → h.get? b = some u → h'.get? b = some u) (heo : ∃ u, h'.get? e = some u)
    (new : ObjOk P w (upd H x o') h' x o') : HOk P w (upd H x o') h' := fun b u q => by
  have nown : ∀ c y, H c = some (.own y) → c ≠ x := fun c y r z => by subst z; rw [r] at mu; exact mu
  have ntup : ∀ c xs, H c = some (.tup xs) → c ≠ x := fun c xs r z => by subst z; rw [r] at mu; exact mu
  by_cases hb : b = x
  · subst hb; rw [upd_same] at q; cases q; exact new
  · rw [upd_ne hb] at q
    by_cases hbe : b = e
    · have q' : H b = some (.own x) := by
        rcases he with z | z
        · exact absurd (hbe.trans z) hb
        · rw [hbe]; exact z
      rw [q] at q'; cases q'
      obtain ⟨v, hv⟩ := heo
      exact ⟨v, by rw [hbe]; exact hv⟩
    · refine (ok b u q).stay (fun c v hc r => k c v ?_ r) (fun c r => by rw [upd_ne (nown c b r)]; exact r) fun c xs r => by rw [upd_ne (ntup c xs r)]; exact r
      rcases hc with rfl | hc
      · exact hbe
      · rintro rfl
        rcases he with z | z
        · exact nown c b hc z
        · rw [hc] at z; cases z; exact hb rfl
end

structure Un (fs ex : List Addr) (H H' : Hp) (h h' : Heap) : Prop where
  keep : ∀ b o, h.get? b = some o → H b = none → b ∉ fs → b ∉ ex → h'.get? b = some o
  slot : ∀ b o, h.get? b = some o → H b = none → b ∈ fs → b ∉ ex → ∃ sl, h'.get? b = some { o with slots := sl }
  free : ∀ b o, h.get? b = some o → H b = none → b ∉ ex → H' b = none
  there : ∀ b o, h.get? b = some o → b ∉ ex → ∃ o', h'.get? b = some o'
  tups : ∀ b xs, H b = some (.tup xs) → H' b = some (.tup xs)
  frzs : ∀ b o u, H b = some (.frz o u) → H' b = some (.frz o u)
  tbls : ∀ b ps, H b = some (.tbl ps) → ∃ more, H' b = some (.tbl (ps ++ more))
section
variable {fs fs' ex ex' : List Addr} {H H1 H2 : Hp} {h h1 h2 h' : Heap} {a x e : Addr} {o : HO}
theorem Un.any (u : Un fs ex H H1 h h1) {b : Addr} {ob : Obj} (q : h.get? b = some ob) (n : H b = none) (hx : b ∉ ex) : ∃ sl, h1.get? b = some { ob with slots := sl } := by
  by_cases hb : b ∈ fs
  · exact u.slot b ob q n hb hx
  · exact ⟨ob.slots, u.keep b ob q n hb hx⟩
theorem Un.kept (k : ∀ b u, h.get? b = some u → h'.get? b = some u) : Un fs ex H H h h' :=
  ⟨fun b ob q _ _ _ => k b ob q, fun b ob q _ _ _ => ⟨ob.slots, k b ob q⟩, fun _ _ _ n _ => n, fun b ob q _ => ⟨ob, k b ob q⟩, fun _ _ q => q, fun _ _ _ q => q, fun _ ps q => ⟨#[], by rw [q]; simp⟩⟩
theorem Un.refl : Un fs ex H H h h := Un.kept fun _ _ q => q
theorem Un.laid (k : ∀ b u, h.get? b = some u → h'.get? b = some u) (hp : h.objs.size ≤ a) (hn : H a = none) : Un fs ex H (upd H a o) h h' where
  keep := fun b u q _ _ _ => k b u q
  slot := fun b u q _ _ _ => ⟨u.slots, k b u q⟩
  free := fun b u q n _ => by rw [upd_ne (Nat.ne_of_lt (Nat.lt_of_lt_of_le (Heap.lt_size q) hp))]; exact n
  there := fun b u q _ => ⟨u, k b u q⟩
  tups := fun b xs q => by rw [upd_ne (ne_of_none q hn)]; exact q
  frzs := fun b u xs q => by rw [upd_ne (ne_of_none q hn)]; exact q
  tbls := fun b ps q => ⟨#[], by rw [upd_ne (ne_of_none q hn), q]; simp⟩
theorem Un.write (mu : Mut (H x)) (he : e = x ∨ H e = some (.own x)) (k : ∀ b u, b ≠ e → h.get? b = some u → h'.get? b = some u) (heo : ∃ u, h'.get? e = some u) : Un fs ex H (upd H x o) h h' := by
  have hx : ∀ b, H b = none → b ≠ x := fun b n z => by subst z; rw [n] at mu; exact mu
  have hb : ∀ b, H b = none → b ≠ e := fun b n z => by
    subst z
    rcases he with r | r
    · exact hx b n r
    · rw [n] at r; cases r
  have hm : ∀ b u, H b = some u → ¬ Mut (some u) → b ≠ x := fun b u q nm z => by subst z; rw [q] at mu; exact nm mu
  refine ⟨fun b u q n _ _ => k b u (hb b n) q, fun b u q n _ _ => ⟨u.slots, k b u (hb b n) q⟩, fun b u q n _ => by rw [upd_ne (hx b n)]; exact n, fun b u q _ => ?_,
    fun b xs q => by rw [upd_ne (hm b _ q fun z => z)]; exact q, fun b u xs q => by rw [upd_ne (hm b _ q fun z => z)]; exact q, fun b ps q => ⟨#[], by rw [upd_ne (hm b _ q fun z => z), q]; simp⟩⟩
  by_cases hbe : b = e
  · subst hbe; exact heo
  · exact ⟨u, k b u hbe q⟩
end

noncomputable def trk (h : Heap) (H : Hp) : List Addr := (List.range h.objs.size).filter fun a => (H a).isSome
noncomputable def hidT (h : Heap) (H : Hp) : Heap := PySem.W.hideAll h (trk h H)
theorem hidT_size (h : Heap) (H : Hp) : (hidT h H).objs.size = h.objs.size := PySem.W.hideAll_size _ _
theorem hidT_get {h : Heap} {H : Hp} {b : Addr} {o : Obj} (e : h.get? b = some o) (n : H b = none) : (hidT h H).get? b = some o :=
  PySem.W.hideAll_get _ e fun hm => by
    have q : (H b).isSome = true := (List.mem_filter.mp hm).2
    rw [n] at q; simp at q
theorem of_hidT {h : Heap} {H : Hp} {b : Addr} {o : Obj} (e : (hidT h H).get? b = some o) : h.get? b = some o ∧ H b = none := by
  have e' : h.get? b = some o := PySem.W.of_hideAll (trk h H) e
  refine ⟨e', ?_⟩
  cases q : H b with
  | none => rfl
  | some x =>
    have hm : b ∈ trk h H := List.mem_filter.mpr ⟨List.mem_range.mpr (Heap.lt_size e'), by simp [q]⟩
    have z : (hidT h H).get? b = none := PySem.W.hideAll_none (trk h H) hm
    rw [z] at e; cases e

end L2

namespace L2
open PySem PySem.Spec PyProof.Rows

structure Mod (K : PySem.W.Frag) (mg : Str → Option Value) (base : Heap) : Prop where
  kin : K.In base
  glob : base.Ns mainGlobals mg
  blt : ∃ mb, base.Ns builtinsNs mb ∧ ∀ x : Str, x ≠ "__name__" → mb x = bootBuiltins x
  nolimit : base.NoLimit
  sysm : ∃ mm, base.Ns sysModules mm

structure Cx where
  prog : Program
  w : World
  K : PySem.W.Frag
  mg : Str → Option Value
  base : Heap
  A : Around
  N : List Str
  s₀ : Shared
  H₀ : Hp
  env : Env
  outer : List Env
  stack : List Env
  ex : List Addr
  fn : Str → Bool
  calm : Bool
  pn : List (Addr × Obj)
  xe : Value → Shared → Prop
noncomputable def frs (l : List Env) : List Addr := l.filterMap (·.frame)
noncomputable abbrev Cx.fs (X : Cx) : List Addr := frs X.outer

noncomputable def Vis (sc : Scope) (x : Str) : Prop := sc.names.lookup x = some .local ∨ sc.names.lookup x = some .cell ∨ sc.names.lookup x = some .free
noncomputable def Loc (sc : Scope) (x : Str) : Prop := sc.names.lookup x = some .local ∨ sc.names.lookup x = some .cell
noncomputable def Look (env : Env) (h : Heap) (m : Str → Option Value) (x : Str) (u : Value) : Prop :=
  (env.kindOf x = some .local ∧ m x = some u) ∨ ((env.kindOf x = some .cell ∨ env.kindOf x = some .free) ∧ ∃ c, env.cells.lookup x = some c ∧ h.IsCell c (some u))

structure Cx.Ok (X : Cx) : Prop where
  mod : Mod X.K X.mg X.base
  kind : X.env.scope.kind = .function
  glob : X.env.globals = mainGlobals
  blt : X.env.builtins = builtinsNs
  above : X.s₀.heap.objs.size ≤ X.env.locals
  inj : ∀ x y c, X.env.cells.lookup x = some c → X.env.cells.lookup y = some c → x = y
  has : ∀ x, (X.env.kindOf x = some .cell ∨ X.env.kindOf x = some .free) → ∃ c, X.env.cells.lookup x = some c
  cab : ∀ x c, X.fn x = true → X.env.cells.lookup x = some c → X.s₀.heap.objs.size ≤ c
  hd : X.calm = true → X.A.handled = none
  frames : X.A.frames = some X.stack
  stk : X.stack = X.outer ∨ (X.stack = X.env :: X.outer ∧ X.env.frame = some X.env.locals)
  exf : ∀ b ∈ X.ex, b ≠ X.env.locals ∧ ∀ x c, X.env.cells.lookup x = some c → c ≠ b
  bs : ∀ b o, X.base.get? b = some o → X.s₀.heap.get? b = some o ∧ X.H₀ b = none
  bsz : X.base.objs.size ≤ X.s₀.heap.objs.size
  noex : ∀ b o, X.base.get? b = some o → b ∉ X.ex
  exfs : ∀ b ∈ X.ex, b ∉ X.fs
  funs : X.s₀.heap.FunFrames X.base X.outer
  frf : ∀ b ∈ X.fs, X.H₀ b = none

structure Inv (X : Cx) (pins : List (Addr × Obj)) (σ : List (Option V)) (H : Hp) (s : Shared) : Prop where
  ok : X.Ok
  os : s.os = X.s₀.os
  bare : AllBare s.gens
  base : Un X.fs X.ex X.H₀ H X.s₀.heap s.heap
  loc : ∃ m, s.heap.Ns X.env.locals m ∧ ∀ (i : Nat) (x : Str) (v : V), X.N[i]? = some x → σ[i]? = some (some v) → Vis X.env.scope x → ∃ u, RelV v u ∧ Look X.env s.heap m x u
  cell : ∀ x c, X.env.cells.lookup x = some c → ∃ v, s.heap.IsCell c v
  free : H X.env.locals = none
  freeC : ∀ x c, X.env.cells.lookup x = some c → H c = none
  pin : ∀ p ∈ X.pn ++ pins, s.heap.get? p.1 = some p.2 ∧ H p.1 = none ∧ p.1 ≠ X.env.locals ∧ p.1 ∉ X.fs ∧ ∀ v, p.2.data ≠ .cell v
  hok : HOk X.prog X.w H s.heap
  len : σ.length = X.N.length

section
variable {X : Cx} {pins : List (Addr × Obj)} {σ : List (Option V)} {H H' : Hp} {s : Shared} {h' : Heap}

theorem Cx.Ok.nofr (ok : X.Ok) {b : Addr} {o : Obj} (e : X.base.get? b = some o) : b ∉ X.fs := fun hb => by
  have := (ok.funs.mem hb).1
  rw [e] at this; cases this
theorem Inv.bs (I : Inv X pins σ H s) : ∀ b o, X.base.get? b = some o → s.heap.get? b = some o ∧ H b = none := fun b o e =>
  ⟨I.base.keep b o (I.ok.bs b o e).1 (I.ok.bs b o e).2 (I.ok.nofr e) (I.ok.noex b o e), I.base.free b o (I.ok.bs b o e).1 (I.ok.bs b o e).2 (I.ok.noex b o e)⟩
theorem Inv.bk (I : Inv X pins σ H s) : ∀ b o, X.base.get? b = some o → s.heap.get? b = some o := fun b o e => (I.bs b o e).1
theorem Inv.mod (I : Inv X pins σ H s) : Mod X.K X.mg X.base := I.ok.mod
theorem Inv.kIn (I : Inv X pins σ H s) : X.K.In s.heap := I.ok.mod.kin.keeps I.bk
theorem Inv.lt (I : Inv X pins σ H s) : X.env.locals < s.heap.objs.size := let ⟨_, hn, _⟩ := I.loc; hn.lt
theorem Inv.sz (I : Inv X pins σ H s) : X.s₀.heap.objs.size ≤ s.heap.objs.size := Nat.le_trans I.ok.above (Nat.le_of_lt I.lt)
theorem Inv.nofs (I : Inv X pins σ H s) {a : Addr} (h : s.heap.objs.size ≤ a) : a ∉ X.fs := fun hb => by
  obtain ⟨_, o, ho, _⟩ := I.ok.funs.mem hb
  exact absurd (Nat.lt_of_lt_of_le (Heap.lt_size ho) (Nat.le_trans I.sz h)) (Nat.lt_irrefl _)
theorem Inv.cne (I : Inv X pins σ H s) : ∀ x c, X.env.cells.lookup x = some c → c ≠ X.env.locals := fun x c e z => by
  obtain ⟨v, o, ho, hd⟩ := I.cell x c e
  obtain ⟨m, ⟨o', es, ep, ho', hd', _⟩, _⟩ := I.loc
  rw [z, ho'] at ho; cases ho; rw [hd'] at hd; cases hd
theorem Inv.funs (I : Inv X pins σ H s) : s.heap.FunFrames X.base X.outer := by
  have all : ∀ (l : List Env), (∀ b ∈ frs l, b ∈ X.fs) → X.s₀.heap.FunFrames X.base l → s.heap.FunFrames X.base l := by
    intro l
    induction l with
    | nil => intro _ _; trivial
    | cons env r ih =>
      intro hs hl
      obtain ⟨hk, ⟨L, o, hf, hn, ho, hd⟩, hr⟩ := hl
      have hL : L ∈ X.fs := hs L (by unfold frs; rw [List.filterMap_cons, hf]; exact List.mem_cons_self)
      obtain ⟨sl, e⟩ := I.base.slot L o ho (I.ok.frf L hL) hL fun z => I.ok.exfs L z hL
      exact ⟨hk, ⟨L, _, hf, hn, e, hd⟩, ih (fun b hb => hs b (by unfold frs; rw [List.filterMap_cons, hf]; exact List.mem_cons_of_mem _ hb)) hr⟩
  exact all X.outer (fun _ hb => hb) I.ok.funs

theorem Inv.stack (I : Inv X pins σ H s) : s.heap.FunFrames X.base X.stack := by
  rcases I.ok.stk with e | ⟨e, hf⟩
  · rw [e]; exact I.funs
  · rw [e]
    obtain ⟨m, hn, _⟩ := I.loc
    refine .cons (by rw [I.ok.kind]; decide) hf hn ?_ I.funs
    exact Heap.get?_none_of_le (Nat.le_trans I.ok.bsz I.ok.above)
theorem Inv.stkSub (I : Inv X pins σ H s) : ∀ b ∈ frs X.stack, b ∈ X.env.locals :: X.fs := fun b hb => by
  rcases I.ok.stk with e | ⟨e, hf⟩
  · rw [e] at hb; exact List.mem_cons_of_mem _ hb
  · rw [e] at hb
    unfold frs at hb
    rw [List.filterMap_cons, hf] at hb
    exact hb
theorem Inv.stkFree (I : Inv X pins σ H s) : ∀ b ∈ frs X.stack, H b = none := fun b hb => by
  rcases List.mem_cons.mp (I.stkSub b hb) with e | hb
  · rw [e]; exact I.free
  · obtain ⟨_, o, ho, _⟩ := I.ok.funs.mem hb
    exact I.base.free b o ho (I.ok.frf b hb) fun z => I.ok.exfs b z hb

theorem Inv.step {g' : Array GenState} {t' : Nat} {d' : Drawn} {ch : List Addr} (I : Inv X pins σ H s)
    (hch : ∀ b ∈ ch, (b ∈ X.ex ∨ X.s₀.heap.objs.size ≤ b) ∧ b ≠ X.env.locals ∧ (∀ x c, X.env.cells.lookup x = some c → c ≠ b) ∧ ∀ p ∈ X.pn ++ pins, p.1 ≠ b)
    (keep : ∀ b o, b ≠ X.env.locals → b ∉ X.fs → b ∉ ch → s.heap.get? b = some o → H b = none → h'.get? b = some o)
    (slot : ∀ b o, b ≠ X.env.locals → b ∈ X.fs → b ∉ ch → s.heap.get? b = some o → H b = none → ∃ sl, h'.get? b = some { o with slots := sl }) (free : ∀ b o, b ∉ ch → s.heap.get? b = some o → H b = none → H' b = none)
    (there : ∀ b o, b ∉ ch → s.heap.get? b = some o → ∃ o', h'.get? b = some o')
    (tups : ∀ b xs, H b = some (.tup xs) → H' b = some (.tup xs)) (frzs : ∀ b o u, H b = some (.frz o u) → H' b = some (.frz o u)) (tbls : ∀ b ps, H b = some (.tbl ps) → ∃ more, H' b = some (.tbl (ps ++ more)))
    (ns : ∀ m, s.heap.Ns X.env.locals m → h'.Ns X.env.locals m) (hok : HOk X.prog X.w H' h') (hg : AllBare g') :
    Inv X pins σ H' { s with heap := h', gens := g', drawn := d', toks := t' } := by
  have neL : ∀ b o, X.s₀.heap.get? b = some o → b ≠ X.env.locals := fun b o e => Nat.ne_of_lt (Nat.lt_of_lt_of_le (Heap.lt_size e) I.ok.above)
  have neC : ∀ b o, X.s₀.heap.get? b = some o → b ∉ X.ex → b ∉ ch := fun b o e hx hb => by
    rcases (hch b hb).1 with z | z
    · exact hx z
    · exact absurd (Nat.lt_of_lt_of_le (Heap.lt_size e) z) (Nat.lt_irrefl _)
  have cellK : ∀ x c, X.env.cells.lookup x = some c → ∀ v, s.heap.IsCell c v → h'.IsCell c v := fun x c e v ⟨o, ho, hd⟩ => by
    have nch : c ∉ ch := fun z => (hch c z).2.2.1 x c e rfl
    by_cases hc : c ∈ X.fs
    · obtain ⟨sl, q⟩ := slot c o (I.cne x c e) hc nch ho (I.freeC x c e)
      exact ⟨_, q, hd⟩
    · exact ⟨o, keep c o (I.cne x c e) hc nch ho (I.freeC x c e), hd⟩
  refine ⟨I.ok, I.os, hg, ⟨fun b o e n hb hx => ?_, fun b o e n hb hx => ?_, fun b o e n hx => ?_, fun b o e hx => ?_, fun b xs e => tups b xs (I.base.tups b xs e), fun b o xs e => frzs b o xs (I.base.frzs b o xs e), fun b ps e => ?_⟩, ?_, fun x c e => ?_, ?_, fun x c e => ?_, fun p hp => ?_, hok, I.len⟩
  · exact keep b o (neL b o e) hb (neC b o e hx) (I.base.keep b o e n hb hx) (I.base.free b o e n hx)
  · obtain ⟨sl, e1⟩ := I.base.slot b o e n hb hx
    obtain ⟨sl', e2⟩ := slot b _ (neL b o e) hb (neC b o e hx) e1 (I.base.free b o e n hx)
    exact ⟨sl', e2⟩
  · obtain ⟨o', e1⟩ := I.base.there b o e hx
    exact free b o' (neC b o e hx) e1 (I.base.free b o e n hx)
  · obtain ⟨o', e1⟩ := I.base.there b o e hx
    exact there b o' (neC b o e hx) e1
  · obtain ⟨m1, e1⟩ := I.base.tbls b ps e
    obtain ⟨m2, e2⟩ := tbls b _ e1
    exact ⟨m1 ++ m2, by rw [e2, Array.append_assoc]⟩
  · obtain ⟨m, hn, hl⟩ := I.loc
    refine ⟨m, ns m hn, fun i x v e1 e2 e3 => ?_⟩
    obtain ⟨u, r, l⟩ := hl i x v e1 e2 e3
    refine ⟨u, r, ?_⟩
    rcases l with l | ⟨k, c, e, z⟩
    · exact .inl l
    · exact .inr ⟨k, c, e, cellK x c e _ z⟩
  · obtain ⟨v, z⟩ := I.cell x c e
    exact ⟨v, cellK x c e v z⟩
  · obtain ⟨m, ⟨o, _, _, ho, _⟩, _⟩ := I.loc
    exact free _ o (fun z => (hch _ z).2.1 rfl) ho I.free
  · obtain ⟨v, o, ho, hd⟩ := I.cell x c e
    exact free c o (fun z => (hch c z).2.2.1 x c e rfl) ho (I.freeC x c e)
  · obtain ⟨e, n, ne, nf, d⟩ := I.pin p hp
    have nch : p.1 ∉ ch := fun z => (hch p.1 z).2.2.2 p hp rfl
    exact ⟨keep p.1 p.2 ne nf nch e n, free p.1 p.2 nch e n, ne, nf, d⟩
theorem Inv.un {t' : Nat} (I : Inv X pins σ H s) (u : Un X.fs [] H H' s.heap h') (hok : HOk X.prog X.w H' h') : Inv X pins σ H' { s with heap := h', toks := t' } := by
  obtain ⟨m, ⟨o, es, ep, ho, r⟩, _⟩ := id I.loc
  obtain ⟨sl, hL⟩ := u.any ho I.free (by simp)
  exact I.step (g' := s.gens) (d' := s.drawn) (ch := []) (fun _ z => nomatch z) (fun b o _ hb _ e n => u.keep b o e n hb (by simp)) (fun b o _ hb _ e n => u.slot b o e n hb (by simp)) (fun b o _ e n => u.free b o e n (by simp)) (fun b o _ e => u.there b o e (by simp)) u.tups u.frzs u.tbls (fun m' hm => by
    obtain ⟨o', es', ep', ho', r'⟩ := hm
    rw [ho] at ho'; cases ho'
    exact ⟨_, es', ep', hL, r'⟩) hok I.bare
theorem Inv.call {g' : Array GenState} {t' : Nat} {d' : Drawn} {ch : List Addr} (I : Inv X pins σ H s) (u : Un (frs X.stack) ch H H' s.heap h') (hok : HOk X.prog X.w H' h') (hg : AllBare g')
    (hch : ∀ b ∈ ch, (b ∈ X.ex ∨ X.s₀.heap.objs.size ≤ b) ∧ b ≠ X.env.locals ∧ (∀ x c, X.env.cells.lookup x = some c → c ≠ b) ∧ ∀ p ∈ X.pn ++ pins, p.1 ≠ b) :
    Inv X pins σ H' { s with heap := h', gens := g', drawn := d', toks := t' } := by
  obtain ⟨m, ⟨o, es, ep, ho, r⟩, _⟩ := id I.loc
  obtain ⟨sl, hL⟩ := u.any ho I.free fun z => (hch _ z).2.1 rfl
  exact I.step (ch := ch) hch (fun b o hL hb hc e n => u.keep b o e n (fun z => (List.mem_cons.mp (I.stkSub b z)).elim hL hb) hc) (fun b o _ _ hc e n => u.any e n hc) (fun b o hc e n => u.free b o e n hc) (fun b o hc e => u.there b o e hc) u.tups u.frzs u.tbls (fun m' hm => by
    obtain ⟨o', es', ep', ho', r'⟩ := hm
    rw [ho] at ho'; cases ho'
    exact ⟨_, es', ep', hL, r'⟩) hok hg
theorem Inv.turned {t' : Nat} {it : Addr} (I : Inv X pins σ H s) (k : ∀ b o, b ≠ it → s.heap.get? b = some o → h'.get? b = some o) (hn : H it = none) (hL : it ≠ X.env.locals)
    (h1 : it ∈ X.ex ∨ X.s₀.heap.objs.size ≤ it) (h2 : ∀ x c, X.env.cells.lookup x = some c → c ≠ it) (h3 : ∀ p ∈ X.pn ++ pins, p.1 ≠ it) : Inv X pins σ H { s with heap := h', toks := t' } := by
  have nit : ∀ b u, H b = some u → b ≠ it := fun b u e z => by rw [z, hn] at e; cases e
  refine I.step (g' := s.gens) (d' := s.drawn) (ch := [it]) (fun b hb => ?_) (fun b o _ _ hc e _ => k b o (fun z => hc (by simp [z])) e) (fun b o _ _ hc e _ => ⟨o.slots, k b o (fun z => hc (by simp [z])) e⟩) (fun _ _ _ _ n => n)
    (fun b o hc e => ⟨o, k b o (fun z => hc (by simp [z])) e⟩) (fun _ _ e => e) (fun _ _ _ e => e) (fun b ps e => ⟨#[], by rw [e]; simp⟩) (fun m hm => ?_) (fun b u e => ?_) I.bare
  · have e : b = it := by simpa using hb
    subst e
    exact ⟨h1, hL, h2, h3⟩
  · obtain ⟨o, es, ep, ho, r⟩ := hm
    exact ⟨o, es, ep, k _ o (Ne.symm hL) ho, r⟩
  · refine (I.hok b u e).stay (fun c v hc q => k c v ?_ q) (fun _ q => q) fun _ _ q => q
    rcases hc with z | z
    · rw [z]; exact nit b u e
    · exact nit c _ z
theorem Inv.tok (I : Inv X pins σ H s) (t : Nat) : Inv X pins σ H { s with toks := t } := I.un (h' := s.heap) (t' := t) Un.refl I.hok
theorem Inv.kept {t' : Nat} (I : Inv X pins σ H s) (k : ∀ b u, s.heap.get? b = some u → h'.get? b = some u) : Inv X pins σ H { s with heap := h', toks := t' } := I.un (Un.kept k) (I.hok.kept k)
theorem Inv.laid {a : Addr} {o : HO} {t' : Nat} (I : Inv X pins σ H s) (k : ∀ b u, s.heap.get? b = some u → h'.get? b = some u) (hp : s.heap.objs.size ≤ a) (new : ObjOk X.prog X.w (upd H a o) h' a o) :
    Inv X pins σ (upd H a o) { s with heap := h', toks := t' } := I.un (Un.laid k hp (I.hok.fresh hp)) (I.hok.laid k hp new)
theorem Inv.write {x e : Addr} {o : HO} {t' : Nat} (I : Inv X pins σ H s) (mu : Mut (H x)) (he : e = x ∨ H e = some (.own x)) (k : ∀ b u, b ≠ e → s.heap.get? b = some u → h'.get? b = some u) (heo : ∃ u, h'.get? e = some u)
    (new : ObjOk X.prog X.w (upd H x o) h' x o) : Inv X pins σ (upd H x o) { s with heap := h', toks := t' } := I.un (Un.write mu he k heo) (I.hok.write mu he k heo new)
theorem Inv.weak {σ' : List (Option V)} (I : Inv X pins σ H s) (hl : σ'.length = σ.length) (w : ∀ (i : Nat) v, σ'[i]? = some (some v) → σ[i]? = some (some v)) : Inv X pins σ' H s :=
  ⟨I.ok, I.os, I.bare, I.base, let ⟨m, hn, hl'⟩ := I.loc; ⟨m, hn, fun i x v e1 e2 e3 => hl' i x v e1 (w i v e2) e3⟩, I.cell, I.free, I.freeC, I.pin, I.hok, hl.trans I.len⟩
theorem Inv.pins_of {pins' : List (Addr × Obj)} (I : Inv X pins σ H s) (h : ∀ p ∈ pins', s.heap.get? p.1 = some p.2 ∧ H p.1 = none ∧ p.1 ≠ X.env.locals ∧ p.1 ∉ X.fs ∧ ∀ v, p.2.data ≠ .cell v) : Inv X pins' σ H s :=
  ⟨I.ok, I.os, I.bare, I.base, I.loc, I.cell, I.free, I.freeC, fun p hp => (List.mem_append.mp hp).elim (fun z => I.pin p (List.mem_append_left _ z)) (h p), I.hok, I.len⟩

theorem nodup_ix {N : List Str} (hN : N.Nodup) {i j : Nat} {x : Str} (a : N[i]? = some x) (b : N[j]? = some x) : i = j := by
  obtain ⟨h1, e1⟩ := List.getElem?_eq_some_iff.mp a
  obtain ⟨h2, e2⟩ := List.getElem?_eq_some_iff.mp b
  exact (List.getElem_inj hN).mp (e1.trans e2.symm)

theorem store_ok2 {M : Model} {A : Around} {E : Value → Shared → Prop} {i : Nat} {x : Str} {v : V} {u : Value} {Q : Unit → Shared → Prop} (I : Inv X pins σ H s) (hN : X.N.Nodup) (hi : X.N[i]? = some x) (hx : Loc X.env.scope x) (r : RelV v u)
    (h : ∀ s', Inv X pins (σ.set i (some v)) H s' → (∃ a, Heap.SameBut a s.heap s'.heap ∧ (a = X.env.locals ∨ X.env.cells.lookup x = some a)) → Q () s') (hf : autoParam (X.fn x = true ∨ X.env.scope.names.lookup x = some .local) L2.auto1._auto_1) : wpAny M A (storeName X.env x u) Q E s := by
  obtain ⟨m, hn, hl⟩ := id I.loc
  have hcls : (X.env.scope.kind == .class || (X.env.scope.kind == .module && X.env.locals != X.env.globals)) = false := by rw [I.ok.kind]; rfl
  have hiσ : i < σ.length := by rw [I.len]; exact (List.getElem?_eq_some_iff.mp hi).1
  have cne := I.cne
  have tracked : ∀ {a : Addr} {h' : Heap}, (∃ o, s.heap.get? a = some o ∧ H a = none) → Heap.SameBut a s.heap h' → HOk X.prog X.w H h' := fun {a h'} ha hs b ob e => by
    obtain ⟨_, _, hfree⟩ := ha
    refine (I.hok b ob e).stay (fun c w' hc q => (hs.2 c ?_).trans q) (fun _ q => q) fun _ _ q => q
    rintro rfl
    rcases hc with rfl | hc
    · rw [hfree] at e; cases e
    · rw [hfree] at hc; cases hc
  rcases hx with hk | hk
  · refine wpAny_storeName_local hk hn (fun h' hn' hs => ?_) hcls
    obtain ⟨oL, _, _, hoL, _⟩ := id hn
    refine h _ ⟨I.ok, I.os, I.bare, ⟨fun b o e n hb hx => ?_, fun b o e n hb hx => ?_, I.base.free, fun b o e hx => ?_, I.base.tups, I.base.frzs, I.base.tbls⟩, ⟨_, hn', fun j y v' e1 e2 e3 => ?_⟩, fun y c e => ?_, I.free, I.freeC, fun p hp => ?_, tracked ⟨oL, hoL, I.free⟩ hs, by simpa using I.len⟩ ⟨_, hs, .inl rfl⟩
    · exact (hs.2 b (Nat.ne_of_lt (Nat.lt_of_lt_of_le (Heap.lt_size e) I.ok.above))).trans (I.base.keep b o e n hb hx)
    · obtain ⟨sl, e1⟩ := I.base.slot b o e n hb hx
      exact ⟨sl, (hs.2 b (Nat.ne_of_lt (Nat.lt_of_lt_of_le (Heap.lt_size e) I.ok.above))).trans e1⟩
    · obtain ⟨o', e1⟩ := I.base.there b o e hx
      exact ⟨o', (hs.2 b (Nat.ne_of_lt (Nat.lt_of_lt_of_le (Heap.lt_size e) I.ok.above))).trans e1⟩
    · by_cases hj : j = i
      · subst hj
        rw [hi] at e1; cases e1
        rw [List.getElem?_set_self hiσ] at e2
        cases e2
        exact ⟨u, r, .inl ⟨hk, by simp⟩⟩
      · rw [List.getElem?_set_ne (Ne.symm hj)] at e2
        obtain ⟨u', r', q⟩ := hl j y v' e1 e2 e3
        refine ⟨u', r', ?_⟩
        rcases q with ⟨k, e⟩ | ⟨k, c, e, z⟩
        · refine .inl ⟨k, ?_⟩
          have : y ≠ x := fun e => hj (nodup_ix hN e1 (e ▸ hi))
          simp [this, e]
        · exact .inr ⟨k, c, e, z.sameBut hs (cne y c e)⟩
    · obtain ⟨w', z⟩ := I.cell y c e
      exact ⟨w', z.sameBut hs (cne y c e)⟩
    · obtain ⟨e, n, ne, nf, d⟩ := I.pin p hp
      exact ⟨(hs.2 p.1 ne).trans e, n, ne, nf, d⟩
  · have hfn : X.fn x = true := by
      rcases hf with z | z
      · exact z
      · rw [z] at hk; cases hk
    obtain ⟨c, hc⟩ := I.ok.has x (.inl hk)
    obtain ⟨w', z⟩ := I.cell x c hc
    refine wpAny_storeName_cell I.ok.kind hk hc z (fun h' hc' hs => ?_)
    obtain ⟨oc, hoc, hocd⟩ := id z
    refine h { s with heap := h' } ⟨I.ok, I.os, I.bare, ⟨fun b o e n hb hx => ?_, fun b o e n hb hx => ?_, I.base.free, fun b o e hx => ?_, I.base.tups, I.base.frzs, I.base.tbls⟩, ⟨m, hn.sameBut hs (Ne.symm (cne x c hc)), fun j y v' e1 e2 e3 => ?_⟩, fun y c' e => ?_, I.free, I.freeC, fun p hp => ?_, tracked ⟨oc, hoc, I.freeC x c hc⟩ hs, by simpa using I.len⟩ ⟨c, hs, .inr hc⟩
    · exact (hs.2 b (Nat.ne_of_lt (Nat.lt_of_lt_of_le (Heap.lt_size e) (I.ok.cab x c hfn hc)))).trans (I.base.keep b o e n hb hx)
    · obtain ⟨sl, e1⟩ := I.base.slot b o e n hb hx
      exact ⟨sl, (hs.2 b (Nat.ne_of_lt (Nat.lt_of_lt_of_le (Heap.lt_size e) (I.ok.cab x c hfn hc)))).trans e1⟩
    · obtain ⟨o', e1⟩ := I.base.there b o e hx
      exact ⟨o', (hs.2 b (Nat.ne_of_lt (Nat.lt_of_lt_of_le (Heap.lt_size e) (I.ok.cab x c hfn hc)))).trans e1⟩
    · by_cases hj : j = i
      · subst hj
        rw [hi] at e1; cases e1
        rw [List.getElem?_set_self hiσ] at e2
        cases e2
        exact ⟨u, r, .inr ⟨.inl hk, c, hc, hc'⟩⟩
      · rw [List.getElem?_set_ne (Ne.symm hj)] at e2
        obtain ⟨u', r', q⟩ := hl j y v' e1 e2 e3
        refine ⟨u', r', ?_⟩
        rcases q with q | ⟨k, c', e, z'⟩
        · exact .inl q
        · refine .inr ⟨k, c', e, z'.sameBut hs ?_⟩
          rintro rfl
          exact hj (nodup_ix hN e1 (I.ok.inj _ _ _ e hc ▸ hi))
    · by_cases hcc : c' = c
      · subst hcc; exact ⟨_, hc'⟩
      · obtain ⟨w2, z2⟩ := I.cell y c' e
        exact ⟨w2, z2.sameBut hs hcc⟩
    · obtain ⟨e, n, ne, nf, d⟩ := I.pin p hp
      refine ⟨(hs.2 p.1 ?_).trans e, n, ne, nf, d⟩
      intro q
      rw [q, hoc] at e
      have q' : oc = p.2 := Option.some.inj e
      exact d w' (by rw [← q']; exact hocd)
theorem store_ok {M : Model} {A : Around} {E : Value → Shared → Prop} {i : Nat} {x : Str} {v : V} {u : Value} {Q : Unit → Shared → Prop} (I : Inv X pins σ H s) (hN : X.N.Nodup) (hi : X.N[i]? = some x) (hx : Loc X.env.scope x) (r : RelV v u)
    (h : ∀ s', Inv X pins (σ.set i (some v)) H s' → Q () s') (hf : autoParam (X.fn x = true ∨ X.env.scope.names.lookup x = some .local) L2.auto1._auto_1) : wpAny M A (storeName X.env x u) Q E s :=
  store_ok2 I hN hi hx r (fun s' I' _ => h s' I') hf
theorem Inv.call' {s' : Shared} {ch : List Addr} (I : Inv X pins σ H s) (ho : s'.os = s.os) (u : Un (frs X.stack) ch H H' s.heap s'.heap) (hok : HOk X.prog X.w H' s'.heap) (hg : AllBare s'.gens)
    (hch : ∀ b ∈ ch, (b ∈ X.ex ∨ X.s₀.heap.objs.size ≤ b) ∧ b ≠ X.env.locals ∧ (∀ x c, X.env.cells.lookup x = some c → c ≠ b) ∧ ∀ p ∈ X.pn ++ pins, p.1 ≠ b) : Inv X pins σ H' s' := by
  obtain ⟨h', g', d', t', o'⟩ := s'
  have e : o' = s.os := ho
  subst e
  exact I.call (g' := g') (t' := t') (d' := d') u hok hg hch
end

noncomputable abbrev XK := Value → Option Addr → Hp → Prop
noncomputable abbrev St := List (Option V)
noncomputable abbrev VK := V → Hp → Prop
noncomputable abbrev TE := St → Hp → VK → Prop
noncomputable abbrev TT := St → Hp → (Bool → Hp → Prop) → Prop
noncomputable abbrev TA := St → Hp → (List V → Hp → Prop) → Prop
structure Ends where
  nx : St → Hp → Prop
  rt : VK
  bk : St → Hp → Prop := fun _ _ => False
  ct : St → Hp → Prop := fun _ _ => False
noncomputable abbrev TS := Ends → St → Hp → Prop

noncomputable def EP (X : Cx) (pins : List (Addr × Obj)) (σ : St) (Q : VK) (u : Value) (s' : Shared) : Prop := ∃ v H', Inv X pins σ H' s' ∧ RelV v u ∧ Q v H'
noncomputable def TP (X : Cx) (pins : List (Addr × Obj)) (σ : St) (Q : Bool → Hp → Prop) (b : Bool) (s' : Shared) : Prop := ∃ H', Inv X pins σ H' s' ∧ Q b H'
noncomputable def AP (X : Cx) (pins : List (Addr × Obj)) (σ : St) (Q : List V → Hp → Prop) (us : List Value) (s' : Shared) : Prop := ∃ vs H', Inv X pins σ H' s' ∧ Vals vs us ∧ Q vs H'
noncomputable def SP (X : Cx) (pins : List (Addr × Obj)) (D : Ends) (f : Flow) (s' : Shared) : Prop :=
  match f with
  | .next => ∃ σ' H', Inv X pins σ' H' s' ∧ D.nx σ' H'
  | .brk => ∃ σ' H', Inv X pins σ' H' s' ∧ D.bk σ' H'
  | .cont => ∃ σ' H', Inv X pins σ' H' s' ∧ D.ct σ' H'
  | .ret u => ∃ v σ' H', Inv X pins σ' H' s' ∧ RelV v u ∧ D.rt v H'

noncomputable def PE (X : Cx) (e : Expr) (t : TE) : Prop :=
  ∀ (pins : List (Addr × Obj)) (s : Shared) (σ : St) (H : Hp) (Q : VK), Inv X pins σ H s → t σ H Q → wpAny (model X.prog X.w) X.A (eval e X.env) (EP X pins σ Q) X.xe s
noncomputable def PT (X : Cx) (e : Expr) (t : TT) : Prop :=
  ∀ (pins : List (Addr × Obj)) (s : Shared) (σ : St) (H : Hp) (Q : Bool → Hp → Prop), Inv X pins σ H s → t σ H Q → wpAny (model X.prog X.w) X.A (isTrue e X.env (eval e X.env)) (TP X pins σ Q) X.xe s
noncomputable def PW (X : Cx) (e : Expr) (t : TT) : Prop :=
  ∀ (whole : Sem Value) (pins : List (Addr × Obj)) (s : Shared) (σ : St) (H : Hp) (Q : Bool → Hp → Prop), Inv X pins σ H s → t σ H Q → wpAny (model X.prog X.w) X.A (isTrue e X.env whole) (TP X pins σ Q) X.xe s
theorem PW.pt {X : Cx} {e : Expr} {t : TT} (h : PW X e t) : PT X e t := h _
noncomputable def PA (X : Cx) (es : List Expr) (t : TA) : Prop :=
  ∀ (pos : Pos) (pins : List (Addr × Obj)) (s : Shared) (σ : St) (H : Hp) (Q : List V → Hp → Prop), Inv X pins σ H s → t σ H Q → wpAny (model X.prog X.w) X.A (spliced (backTo pos (starEach es X.env))) (AP X pins σ Q) X.xe s
noncomputable def PS (X : Cx) (st : Stmt) (t : TS) : Prop :=
  ∀ (pins : List (Addr × Obj)) (s : Shared) (σ : St) (H : Hp) (D : Ends), Inv X pins σ H s → t D σ H → wpAny (model X.prog X.w) X.A (exec st X.env) (SP X pins D) X.xe s
noncomputable def PSs (X : Cx) (st : List Stmt) (t : TS) : Prop :=
  ∀ (pins : List (Addr × Obj)) (s : Shared) (σ : St) (H : Hp) (D : Ends), Inv X pins σ H s → t D σ H → wpAny (model X.prog X.w) X.A (execs st X.env) (SP X pins D) X.xe s
theorem thn {α : Type} {t : Sem α} {Q Q' : α → Shared → Prop} {M : Model} {A : Around} {E : Value → Shared → Prop} {s : Shared} (h : wpAny M A t Q E s) (hQ : ∀ a s, Q a s → Q' a s) : wpAny M A t Q' E s := wpAny_mono h hQ fun _ _ x => x
end L2

namespace L2
open PySem PySem.Spec PyProof.Rows
section
variable {X : Cx}

noncomputable def tVar (i : Nat) : TE := fun σ H Q => ∃ v, σ[i]? = some (some v) ∧ Q v H
noncomputable def tC (v : V) : TE := fun _ H Q => Q v H
theorem pe_var {i : Nat} {x : Str} {pos : Pos} (hN : X.N[i]? = some x) (hv : Vis X.env.scope x) (hd : autoParam ((x == ("__debug__" : Str)) = false) L2.auto2._auto_1) (hcd : autoParam ((x == ("__classdict__" : Str)) = false) L2.auto2._auto_1) : PE X (.Name x pos) (tVar i) := by
  intro pins s σ H Q I h
  obtain ⟨v, e, h⟩ := h
  obtain ⟨m, hn, hl⟩ := I.loc
  obtain ⟨u, r, l⟩ := hl i x v hN e hv
  have fin : EP X pins σ Q u s := ⟨v, H, I, r, h⟩
  rcases l with ⟨hk, hm⟩ | ⟨hk, c, hc, hcell⟩
  · exact wpAny_Name (wpAny_loadName_local I.ok.kind hk hn hm fin) hd
  · rcases hk with hk | hk
    · exact wpAny_Name (wpAny_loadName_cell I.ok.kind hk hc hcell fin) hd
    · exact wpAny_Name (wpAny_loadName_free I.ok.kind hk hc hcell fin hcd) hd
theorem pe_int {i j pos} : PE X (.Constant (.int i) j pos) (tC (.int i)) := fun _ _ _ H _ I h => wpAny_Constant_int ⟨.int i, H, I.tok _, ⟨_, rfl⟩, h⟩
theorem pe_bl {b j pos} : PE X (.Constant (.bool b) j pos) (tC (.bl b)) := fun _ _ _ H _ I h => Constant_bool ⟨.bl b, H, I, rfl, h⟩
theorem pe_non {j pos} : PE X (.Constant .none j pos) (tC .non) := fun _ _ _ H _ I h => Constant_none ⟨.non, H, I, rfl, h⟩
noncomputable def Gl (X : Cx) (x : Str) : Prop := X.env.kindOf x = some .globalImplicit
theorem ld_glob {E : Value → Shared → Prop} {pins : List (Addr × Obj)} {s : Shared} {σ : St} {H : Hp} {x : Str} {u : Value} {pos : Pos} {Q : Value → Shared → Prop} (I : Inv X pins σ H s) (hg : Gl X x) (hm : X.mg x = some u) (h : Q u s)
    (hd : autoParam ((x == ("__debug__" : Str)) = false) L2.auto2._auto_1) : wpAny (model X.prog X.w) X.A (eval (.Name x pos) X.env) Q E s :=
  Calls.Name_function_global I.ok.kind hg (Calls.loadGlobal_global (by rw [I.ok.glob]; exact I.mod.glob.keeps I.bk) hm h) hd
theorem ld_blt {E : Value → Shared → Prop} {pins : List (Addr × Obj)} {s : Shared} {σ : St} {H : Hp} {x : Str} {u : Value} {pos : Pos} {Q : Value → Shared → Prop} (I : Inv X pins σ H s) (hg : Gl X x) (hm : X.mg x = none) (hv : bootBuiltins x = some u) (h : Q u s)
    (hn : autoParam (x ≠ "__name__") L2.auto2._auto_1) (hd : autoParam ((x == ("__debug__" : Str)) = false) L2.auto2._auto_1) : wpAny (model X.prog X.w) X.A (eval (.Name x pos) X.env) Q E s := by
  obtain ⟨mb, h1, h2⟩ := I.mod.blt
  exact Calls.Name_function_global I.ok.kind hg (Calls.loadGlobal_builtin (by rw [I.ok.glob]; exact I.mod.glob.keeps I.bk) hm (by rw [I.ok.blt]; exact h1.keeps I.bk) ((h2 x hn).trans hv) h) hd
theorem pe_glob {x : Str} {v : V} {u : Value} {pos : Pos} (hg : Gl X x) (hm : X.mg x = some u) (r : RelV v u) (hd : autoParam ((x == ("__debug__" : Str)) = false) L2.auto2._auto_1) : PE X (.Name x pos) (tC v) :=
  fun _ _ _ H _ I h => ld_glob I hg hm ⟨v, H, I, r, h⟩ hd
theorem pe_bltn {x : Str} {v : V} {u : Value} {pos : Pos} (hg : Gl X x) (hm : X.mg x = none) (hv : bootBuiltins x = some u) (r : RelV v u) (hn : autoParam (x ≠ "__name__") L2.auto2._auto_1) (hd : autoParam ((x == ("__debug__" : Str)) = false) L2.auto2._auto_1) : PE X (.Name x pos) (tC v) :=
  fun _ _ _ H _ I h => ld_blt I hg hm hv ⟨v, H, I, r, h⟩ hn hd

variable {a b : Expr} {ta tb : TE} {pos : Pos}
noncomputable def tB (t : TE) : TT := fun σ H Q => t σ H fun x H1 => ∃ c, x = .bl c ∧ Q c H1
theorem pt_val {e : Expr} {t : TE} (h : PE X e t) (he : autoParam (∀ whole, isTrue e X.env whole = (do let v ← whole; standAt e.pos; holding [v] (truthy v))) L2.auto3._auto_1) : PT X e (tB t) := by
  intro pins s σ H Q I hw
  refine isTrue_plain (thn (h pins s σ H _ I hw) fun v s1 qq0 => ?_) (he _)
  obtain ⟨x, H1, I1, r1, q1⟩ := qq0
  obtain ⟨d, rfl, q⟩ := q1
  cases r1
  exact wpAny_truthy_bool ⟨H1, I1, q⟩

variable {tA tB' : TT} {rest : List Expr}
noncomputable def tAnd (t u : TT) : TT := fun σ H Q => t σ H fun c H1 => if c = true then u σ H1 Q else Q false H1
noncomputable def tOr (t u : TT) : TT := fun σ H Q => t σ H fun c H1 => if c = true then Q true H1 else u σ H1 Q
noncomputable def tNot (t : TT) : TT := fun σ H Q => t σ H fun c H1 => Q (!c) H1
theorem pw_and1 (ha : PT X a tA) : PW X (.BoolOp .And [a] pos) tA := by
  intro wh pins s σ H Q I h
  refine isTrue_and (thn (ha pins s σ H Q I h) fun c s1 e => ?_)
  cases c with
  | true => exact isTrue_and_nil e
  | false => exact e
theorem pw_or1 (ha : PT X a tA) : PW X (.BoolOp .Or [a] pos) tA := by
  intro wh pins s σ H Q I h
  refine isTrue_or (thn (ha pins s σ H Q I h) fun c s1 e => ?_)
  cases c with
  | false => exact isTrue_or_nil e
  | true => exact e
theorem pw_and (ha : PT X a tA) (hb : PW X (.BoolOp .And (b :: rest) pos) tB') : PW X (.BoolOp .And (a :: b :: rest) pos) (tAnd tA tB') := by
  intro wh pins s σ H Q I h
  refine isTrue_and (thn (ha pins s σ H _ I h) fun c s1 qq0 => ?_)
  obtain ⟨H1, I1, q1⟩ := qq0
  cases c with
  | true => exact hb wh pins s1 σ H1 Q I1 q1
  | false => exact ⟨H1, I1, q1⟩
theorem pw_or (ha : PT X a tA) (hb : PW X (.BoolOp .Or (b :: rest) pos) tB') : PW X (.BoolOp .Or (a :: b :: rest) pos) (tOr tA tB') := by
  intro wh pins s σ H Q I h
  refine isTrue_or (thn (ha pins s σ H _ I h) fun c s1 qq0 => ?_)
  obtain ⟨H1, I1, q1⟩ := qq0
  cases c with
  | true => exact ⟨H1, I1, q1⟩
  | false => exact hb wh pins s1 σ H1 Q I1 q1
theorem pt_not (ha : PT X a tA) : PT X (.UnaryOp .Not a pos) (tNot tA) := by
  intro pins s σ H Q I h
  exact isTrue_not (ha pins s σ H (fun c H1 => Q (!c) H1) I h)
noncomputable def tAndV (ta tb : TE) : TE := fun σ H Q => ta σ H fun x H1 => ∃ c, x = .bl c ∧ if c = true then tb σ H1 Q else Q (.bl false) H1
noncomputable def tNotV (ta : TE) : TE := fun σ H Q => ta σ H fun x H1 => ∃ c, x = .bl c ∧ Q (.bl (!c)) H1
theorem pe_one {op} {t : TE} (h : PE X a t) : PE X (.BoolOp op [a] pos) t := fun pins s σ H Q I hw => BoolOp_one (h pins s σ H Q I hw)
theorem pe_and (ha : PE X a ta) (hb : PE X (.BoolOp .And (b :: rest) pos) tb) : PE X (.BoolOp .And (a :: b :: rest) pos) (tAndV ta tb) := by
  intro pins s σ H Q I h
  refine BoolOp_and (thn (ha pins s σ H _ I h) fun v s1 qq0 => ?_)
  obtain ⟨x, H1, I1, r1, q1⟩ := qq0
  obtain ⟨c, rfl, q1⟩ := q1
  cases r1
  refine wpAny_truthy_bool ?_
  cases c with
  | true => exact hb pins s1 σ H1 Q I1 q1
  | false => exact ⟨.bl false, H1, I1, rfl, q1⟩
theorem pe_not (ha : PE X a ta) : PE X (.UnaryOp .Not a pos) (tNotV ta) := by
  intro pins s σ H Q I h
  refine UnaryOp_ (thn (ha pins s σ H _ I h) fun v s1 qq0 => ?_)
  obtain ⟨x, H1, I1, r1, q1⟩ := qq0
  obtain ⟨c, rfl, q1⟩ := q1
  cases r1
  exact not_of (wpAny_truthy_bool ⟨.bl (!c), H1, I1, rfl, q1⟩)
end
end L2

namespace L2
open PySem PySem.Spec PyProof.Rows

noncomputable def SqL (K : PySem.W.Frag) (H : Hp) (a : Addr) (xs : List V) : Prop :=
  Rd H a (.lst xs) ∨
    ∃ (o : Obj) (its : Array Value) (n : Nat), K.lookup a = some o ∧ o.cls = .type "list" ∧ o.dict = none ∧ o.data = .seq its n ∧ its.size ≤ sizeLine ∧ Vals xs its.toList
noncomputable def SqT (K : PySem.W.Frag) (H : Hp) (a : Addr) (xs : List V) : Prop :=
  Rd H a (.tup xs) ∨
    ∃ (o : Obj) (its : Array Value) (n : Nat), K.lookup a = some o ∧ o.cls = .type "tuple" ∧ o.data = .seq its n ∧ its.size ≤ sizeLine ∧ Vals xs its.toList
noncomputable def absV : Value → Option V
  | .none => some .non
  | .bool b => some (.bl b)
  | .int i _ => some (.int i)
  | .str x _ => some (.str x)
  | .bytes b _ => some (.byt b)
  | .float b _ => some (.flt b)
  | .ref a => some (.ref a)
  | .type n => some (.ty n)
  | _ => none
theorem RelV.abs {x : V} {u : Value} (r : RelV x u) : absV u = some x := by
  cases x with
  | non => cases r; rfl
  | bl _ => cases r; rfl
  | int _ => obtain ⟨t, rfl⟩ := r; rfl
  | str _ => obtain ⟨t, rfl⟩ := r; rfl
  | byt _ => obtain ⟨t, rfl⟩ := r; rfl
  | flt _ => obtain ⟨t, rfl⟩ := r; rfl
  | ref _ => cases r; rfl
  | ty _ => cases r; rfl
theorem RelV.inj {x y : V} {u : Value} (r : RelV x u) (q : RelV y u) : x = y := Option.some.inj (r.abs.symm.trans q.abs)
theorem Vals.inj : ∀ {xs ys : List V} {us : List Value}, Vals xs us → Vals ys us → xs = ys
  | _, _, _, .nil, .nil => rfl
  | _, _, _, .cons r t, .cons r' t' => by rw [r.inj r', Vals.inj t t']
section
variable {X : Cx} {pins : List (Addr × Obj)} {σ : St} {H : Hp} {s : Shared} {a : Addr} {xs ys : List V}
theorem SqL.of {K : PySem.W.Frag} (h : H a = some (.lst xs)) : SqL K H a xs := .inl (.inl h)
theorem SqT.of {K : PySem.W.Frag} (h : H a = some (.tup xs)) : SqT K H a xs := .inl (.inl h)
theorem Inv.list (I : Inv X pins σ H s) (h : SqL X.K H a xs) : ∃ its : List Value, Vals xs its ∧ PlainL s.heap a its.toArray ∧ xs.length ≤ sizeLine := by
  rcases h with h | ⟨o, its, n, hk, hc, hd, hs, hz, r⟩
  · obtain ⟨z, its, n, r, e⟩ := h.ok I.hok
    exact ⟨its, r, ⟨_, n, e, rfl, rfl, rfl⟩, z⟩
  · refine ⟨its.toList, r, ⟨o, n, I.kIn a o hk, hc, hd, by simpa using hs⟩, ?_⟩
    have e := r.length
    simp only [Array.length_toList] at e
    omega
theorem Inv.tuple (I : Inv X pins σ H s) (h : SqT X.K H a xs) : ∃ its : List Value, Vals xs its ∧ IsTup s.heap a its.toArray ∧ xs.length ≤ sizeLine := by
  rcases h with h | ⟨o, its, n, hk, hc, hs, hz, r⟩
  · obtain ⟨z, its, r, p⟩ := h.ok I.hok
    exact ⟨its, r, p, z⟩
  · refine ⟨its.toList, r, ⟨o, I.kIn a o hk, hc, n, by simpa using hs⟩, ?_⟩
    have e := r.length
    simp only [Array.length_toList] at e
    omega
theorem Inv.list_inj (I : Inv X pins σ H s) (h : SqL X.K H a xs) (h' : SqL X.K H a ys) : xs = ys := by
  obtain ⟨its, r, ⟨o, n, e, _, _, d⟩, _⟩ := I.list h
  obtain ⟨its', r', ⟨o', n', e', _, _, d'⟩, _⟩ := I.list h'
  rw [e] at e'; cases e'
  rw [d] at d'
  injection d' with d1 _
  have : its = its' := by simpa using congrArg Array.toList d1
  subst this
  exact r.inj r'
theorem Inv.tuple_inj (I : Inv X pins σ H s) (h : SqT X.K H a xs) (h' : SqT X.K H a ys) : xs = ys := by
  obtain ⟨its, r, ⟨o, e, _, n, d⟩, _⟩ := I.tuple h
  obtain ⟨its', r', ⟨o', e', _, n', d'⟩, _⟩ := I.tuple h'
  rw [e] at e'; cases e'
  rw [d] at d'
  injection d' with d1 _
  have : its = its' := by simpa using congrArg Array.toList d1
  subst this
  exact r.inj r'
end

noncomputable abbrev Cx.wish (X : Cx) (E : Value → Shared → Prop) : Cx := { X with xe := E }
noncomputable abbrev Cx.nox (X : Cx) : Cx := X.wish fun _ _ => False
theorem Cx.Ok.wish {X : Cx} (ok : X.Ok) (E : Value → Shared → Prop) : (X.wish E).Ok :=
  ⟨ok.mod, ok.kind, ok.glob, ok.blt, ok.above, ok.inj, ok.has, ok.cab, ok.hd, ok.frames, ok.stk, ok.exf, ok.bs, ok.bsz, ok.noex, ok.exfs, ok.funs, ok.frf⟩
theorem Cx.Ok.unwish {X : Cx} {E : Value → Shared → Prop} (ok : (X.wish E).Ok) : X.Ok :=
  ⟨ok.mod, ok.kind, ok.glob, ok.blt, ok.above, ok.inj, ok.has, ok.cab, ok.hd, ok.frames, ok.stk, ok.exf, ok.bs, ok.bsz, ok.noex, ok.exfs, ok.funs, ok.frf⟩
section
variable {X : Cx} {pins : List (Addr × Obj)} {σ : St} {H : Hp} {s : Shared} {E : Value → Shared → Prop}
theorem Inv.wish (I : Inv X pins σ H s) (E : Value → Shared → Prop) : Inv (X.wish E) pins σ H s := ⟨I.ok.wish E, I.os, I.bare, I.base, I.loc, I.cell, I.free, I.freeC, I.pin, I.hok, I.len⟩
theorem Inv.unwish (I : Inv (X.wish E) pins σ H s) : Inv X pins σ H s := ⟨I.ok.unwish, I.os, I.bare, I.base, I.loc, I.cell, I.free, I.freeC, I.pin, I.hok, I.len⟩
theorem SP.unwish {D : Ends} {f : Flow} {s' : Shared} (h : SP (X.wish E) pins D f s') : SP X pins D f s' := by
  cases f with
  | next => obtain ⟨σ', H', I, q⟩ := h; exact ⟨σ', H', I.unwish, q⟩
  | brk => obtain ⟨σ', H', I, q⟩ := h; exact ⟨σ', H', I.unwish, q⟩
  | cont => obtain ⟨σ', H', I, q⟩ := h; exact ⟨σ', H', I.unwish, q⟩
  | ret u => obtain ⟨v, σ', H', I, r, q⟩ := h; exact ⟨v, σ', H', I.unwish, r, q⟩
theorem PSs.nox {st : List Stmt} {t : TS} (h : PSs X.nox st t) : PSs X st t := fun pins s σ H D I hw =>
  wpAny_mono (h pins s σ H D (I.wish _) hw) (fun _ _ q => q.unwish) fun _ _ z => False.elim z
end

section
variable {X : Cx} {st : Stmt} {rest : List Stmt} {t u : TS} {e : Expr} {te : TE} {pos : Pos}
noncomputable def tNext : TS := fun D σ H => D.nx σ H
noncomputable def tSeq (t u : TS) : TS := fun D σ H => t { D with nx := u D } σ H
theorem pss_nil : PSs X [] tNext := fun _ _ σ H _ I h => wpAny_execs_nil ⟨σ, H, I, h⟩
theorem pss_cons (h1 : PS X st t) (h2 : PSs X rest u) : PSs X (st :: rest) (tSeq t u) := by
  intro pins s σ H D I h
  refine wpAny_execs_cons (thn (h1 pins s σ H { D with nx := u D } I h) fun f s1 q => ?_)
  cases f with
  | next =>
    obtain ⟨σ', H', I', q⟩ := q
    exact h2 pins s1 σ' H' D I' q
  | ret v => exact q
  | brk => exact q
  | cont => exact q
theorem pss_one (h1 : PS X st t) : PSs X [st] t := by
  intro pins s σ H D I h
  refine wpAny_execs_cons (thn (h1 pins s σ H D I h) fun f s1 q => ?_)
  cases f with
  | next => exact wpAny_execs_nil q
  | ret v => exact q
  | brk => exact q
  | cont => exact q
theorem Inv.quiet {pins : List (Addr × Obj)} {σ : St} {H : Hp} {s : Shared} (I : Inv X pins σ H s) : interactive X.env = false := by simp [interactive, I.ok.kind]
noncomputable def tDrop (te : TE) : TS := fun D σ H => te σ H fun _ H1 => D.nx σ H1
theorem ps_expr (he : PE X e te) (hs : autoParam (swapsWith e none pos.line X.env = pure false) L2.auto4._auto_1) : PS X (.Expr e pos) (tDrop te) := by
  intro pins s σ H D I h
  exact wpAny_Expr_any (thn (he pins s σ H _ I h) fun v s1 ⟨x, H1, I1, r1, q1⟩ => ⟨σ, H1, I1, q1⟩) I.quiet hs
noncomputable def tRet (te : TE) : TS := fun D σ H => te σ H D.rt
theorem ps_ret (he : PE X e te) : PS X (.Return (some e) pos) (tRet te) := by
  intro pins s σ H D I h
  exact wpAny_Return_some (thn (he pins s σ H _ I h) fun v s1 ⟨x, H1, I1, r1, q1⟩ => ⟨x, σ, H1, I1, r1, q1⟩)
noncomputable def tIfS (c : TT) (t u : TS) : TS := fun D σ H => c σ H fun b H1 => if b = true then t D σ H1 else u D σ H1
theorem ps_if {c : Expr} {a b : List Stmt} {tc : TT} (hc : PT X c tc) (ha : PSs X a t) (hb : PSs X b u) : PS X (.If c a b pos) (tIfS tc t u) := by
  intro pins s σ H D I h
  refine wpAny_If (thn (hc pins s σ H _ I h) fun d s1 qq0 => ?_)
  obtain ⟨H1, I1, q1⟩ := qq0
  cases d with
  | true => exact ha pins s1 σ H1 D I1 q1
  | false => exact hb pins s1 σ H1 D I1 q1
noncomputable def tNever : TS := fun _ _ _ => False
theorem ps_never : PS X st tNever := fun _ _ _ _ _ _ h => h.elim
end

noncomputable abbrev TG := V → St → Hp → (St → Hp → Prop) → Prop
noncomputable abbrev TGs := List V → St → Hp → (St → Hp → Prop) → Prop
noncomputable def PG (X : Cx) (target : Expr) (t : TG) : Prop :=
  ∀ (pins : List (Addr × Obj)) (s : Shared) (σ : St) (H : Hp) (v : V) (u : Value) (Q : St → Hp → Prop), Inv X pins σ H s → RelV v u → t v σ H Q →
    wpAny (model X.prog X.w) X.A (assign target X.env u) (fun _ s' => ∃ σ' H', Inv X pins σ' H' s' ∧ Q σ' H') X.xe s
noncomputable def PGs (X : Cx) (ts : List Expr) (t : TGs) : Prop :=
  ∀ (pins : List (Addr × Obj)) (s : Shared) (σ : St) (H : Hp) (vs : List V) (us : List Value) (Q : St → Hp → Prop), Inv X pins σ H s → Vals vs us → t vs σ H Q →
    wpAny (model X.prog X.w) X.A (assignInOrder ((assignEach ts X.env).map (·.2)) us) (fun _ s' => ∃ σ' H', Inv X pins σ' H' s' ∧ Q σ' H') X.xe s
noncomputable abbrev TSet := V → V → V → Hp → (Hp → Prop) → Prop
noncomputable def PSet (X : Cx) (t : TSet) : Prop :=
  ∀ (pins : List (Addr × Obj)) (s : Shared) (σ : St) (H : Hp) (o i v : V) (ov iv u : Value) (Q : Hp → Prop), Inv X pins σ H s → RelV o ov → RelV i iv → RelV v u → t o i v H Q →
    wpAny (model X.prog X.w) X.A (setItem ov iv u) (fun _ s' => ∃ H', Inv X pins σ H' s' ∧ Q H') X.xe s
noncomputable abbrev TIp := V → V → Hp → VK → Prop
noncomputable def PIp (X : Cx) (op : Operator) (t : TIp) : Prop :=
  ∀ (pins : List (Addr × Obj)) (s : Shared) (σ : St) (H : Hp) (x y : V) (v u : Value) (Q : VK), Inv X pins σ H s → RelV x v → RelV y u → t x y H Q →
    wpAny (model X.prog X.w) X.A (inplaceOp op v u) (EP X pins σ Q) X.xe s
section
variable {X : Cx} {pos : Pos}
noncomputable def gName (i : Nat) : TG := fun v σ H Q => Q (σ.set i (some v)) H
theorem pg_name {i : Nat} {x : Str} (hN : X.N.Nodup) (hi : X.N[i]? = some x) (hx : Loc X.env.scope x) (hf : autoParam (X.fn x = true ∨ X.env.scope.names.lookup x = some .local) L2.auto1._auto_1) : PG X (.Name x pos) (gName i) := by
  intro pins s σ H v u Q I r h
  exact wpAny_assign_Name (store_ok I hN hi hx r (fun s' I' => ⟨_, H, I', h⟩) hf)
noncomputable def gNil : TGs := fun vs σ H Q => vs = [] ∧ Q σ H
noncomputable def gCons (t : TG) (u : TGs) : TGs := fun vs σ H Q => ∃ v r, vs = v :: r ∧ t v σ H fun σ' H' => u r σ' H' Q
theorem pgs_nil : PGs X [] gNil := by
  intro pins s σ H vs us Q I r h
  obtain ⟨e, h⟩ := h
  subst e
  cases r
  exact assignInOrder_nil ⟨σ, H, I, h⟩
theorem pgs_cons {e : Expr} {es : List Expr} {t : TG} {u : TGs} (h1 : PG X e t) (h2 : PGs X es u)
    (hs : autoParam ((assignEach (e :: es) X.env).map (·.2) = assign e X.env :: (assignEach es X.env).map (·.2)) L2.auto4._auto_1) : PGs X (e :: es) (gCons t u) := by
  intro pins s σ H vs us Q I r h
  obtain ⟨v, vr, e1, h⟩ := h
  subst e1
  cases r with
  | cons r rr =>
    rw [hs]
    refine assignInOrder_cons (thn (h1 pins s σ H _ _ _ I r h) fun _ s1 qq0 => ?_)
    obtain ⟨σ1, H1, I1, q1⟩ := qq0
    exact h2 pins s1 σ1 H1 _ _ Q I1 rr q1
noncomputable def gTup (K : PySem.W.Frag) (n : Nat) (t : TGs) : TG := fun v σ H Q => ∃ a xs, v = .ref a ∧ SqT K H a xs ∧ xs.length = n ∧ t xs σ H Q
theorem pg_tup {es : List Expr} {k : Nat} {t : TGs} {n : Nat} (hc : X.calm = true) (h : PGs X es t)
    (hn : autoParam ((assignEach es X.env).length = n) L2.auto4._auto_1) (hst : autoParam ((assignEach es X.env).findIdx? (·.1) = none) L2.auto4._auto_1) : PG X (.Tuple es k pos) (gTup X.K n t) := by
  intro pins s σ H v u Q I r hw
  obtain ⟨a, xs, e1, hq, hl, hw⟩ := hw
  subst e1
  cases r
  obtain ⟨its, rv, ht, hz⟩ := I.tuple hq
  refine assign_Tuple_tuple (I.ok.hd hc) ht (by simp [hn, ← hl, rv.length]) hst fun h' hx => ?_
  have I1 : Inv X pins σ H { s with heap := h' } := I.kept (t' := s.toks) fun b o e => hx b o (Nat.ne_of_lt (Heap.lt_size e)) e
  exact h pins _ σ H xs _ Q I1 (by simpa using rv) hw
noncomputable def gSub (to ti : TE) (t : TSet) : TG := fun v σ H Q => to σ H fun o H1 => ti σ H1 fun i H2 => t o i v H2 fun H3 => Q σ H3
theorem pg_sub {o i : Expr} {to ti : TE} {t : TSet} (ho : PE X o to) (hi : PE X i ti) (hs : PSet X t)
    (ha : ∀ v, assign (.Subscript o i pos) X.env v = (do
      let ov ← holding [v] (eval o X.env)
      let iv ← holding [v, ov] (eval i X.env)
      standAt pos
      holding [v, ov, iv] (setItem ov iv v)
      release [v, ov, iv] []) := by intro _; rfl) : PG X (.Subscript o i pos) (gSub to ti t) := by
  intro pins s σ H v u Q I r h
  rw [ha]
  refine wpAny_bind (wpAny_holding (thn (ho pins s σ H _ I h) fun ov s1 qq0 => ?_))
  obtain ⟨x, H1, I1, r1, q1⟩ := qq0
  refine wpAny_bind (wpAny_holding (thn (hi pins s1 σ H1 _ I1 q1) fun iv s2 qq0 => ?_))
  obtain ⟨y, H2, I2, r2, q2⟩ := qq0
  refine wpAny_bind (wpAny_standAt (wpAny_bind (wpAny_holding (thn (hs pins s2 σ H2 x y v ov iv u _ I2 r1 r2 r q2) fun _ s3 qq0 => ?_))))
  obtain ⟨H3, I3, q3⟩ := qq0
  exact wpAny_release ⟨σ, H3, I3, q3⟩
noncomputable def tAsg (te : TE) (g : TG) : TS := fun D σ H => te σ H fun x H1 => g x σ H1 D.nx
theorem ps_asg {tg e : Expr} {te : TE} {g : TG} (he : PE X e te) (hg : PG X tg g) (hs : autoParam (swapsWithSole [tg] e pos.line X.env = pure false) L2.auto4._auto_1) (hw : autoParam (swappedStores [tg] e X.env = pure none) L2.auto4._auto_1)
    (h1 : autoParam ((assignEach [tg] X.env).map (·.2) = [assign tg X.env]) L2.auto4._auto_1) : PS X (.Assign [tg] e pos) (tAsg te g) := by
  intro pins s σ H D I h
  refine wpAny_Assign_stores (thn (he pins s σ H _ I h) fun v s1 qq0 => ?_) hs hw
  obtain ⟨x, H1, I1, r1, q1⟩ := qq0
  rw [h1]
  exact thn (hg pins s1 σ H1 x v _ I1 r1 q1) fun _ s2 q => q
theorem ps_set {i : Nat} {x : Str} {e : Expr} {te : TE} {pos' : Pos} (hN : X.N.Nodup) (hi : X.N[i]? = some x) (hx : Loc X.env.scope x) (he : PE X e te) (hs : autoParam (swapsWith e (some (.Name x pos')) pos.line X.env = pure false) L2.auto4._auto_1) (hf : autoParam (X.fn x = true ∨ X.env.scope.names.lookup x = some .local) L2.auto1._auto_1) :
    PS X (.Assign [.Name x pos'] e pos) (tAsg te (gName i)) := by
  intro pins s σ H D I h
  refine wpAny_Assign_Name (thn (he pins s σ H _ I h) fun v s1 qq0 => ?_) hs
  obtain ⟨y, H1, I1, r1, q1⟩ := qq0
  exact store_ok I1 hN hi hx r1 (fun s2 I2 => ⟨_, H1, I2, q1⟩) hf
noncomputable def tAug (i : Nat) (te : TE) (ti : TIp) : TS := fun D σ H => ∃ x, σ[i]? = some (some x) ∧ te σ H fun y H1 => ti x y H1 fun z H2 => D.nx (σ.set i (some z)) H2
theorem ps_aug {i : Nat} {x : Str} {e : Expr} {te : TE} {op : Operator} {ti : TIp} {pos' : Pos} (hN : X.N.Nodup) (hi : X.N[i]? = some x) (hx : Loc X.env.scope x) (he : PE X e te) (ho : PIp X op ti) (hf : autoParam (X.fn x = true ∨ X.env.scope.names.lookup x = some .local) L2.auto1._auto_1) :
    PS X (.AugAssign (.Name x pos') op e pos) (tAug i te ti) := by
  intro pins s σ H D I h
  obtain ⟨v, e1, h⟩ := h
  obtain ⟨m, hn, hl⟩ := I.loc
  have vis : Vis X.env.scope x := by rcases hx with k | k; exact .inl k; exact .inr (.inl k)
  obtain ⟨u, r, l⟩ := hl i x v hi e1 vis
  refine wpAny_AugAssign_Name ?_
  have go : wpAny (model X.prog X.w) X.A (eval e X.env) (fun w s₂ => wpAny (model X.prog X.w) X.A (inplaceOp op u w) (fun r s₃ => wpAny (model X.prog X.w) X.A (storeName X.env x r) (fun _ => SP X pins D .next) X.xe s₃) X.xe s₂) X.xe s := by
    refine thn (he pins s σ H _ I h) fun w s1 qq0 => ?_
    obtain ⟨y, H1, I1, r1, q1⟩ := qq0
    refine thn (ho pins s1 σ H1 v y u w _ I1 r r1 q1) fun z s2 qq0 => ?_
    obtain ⟨zv, H2, I2, r2, q2⟩ := qq0
    exact store_ok I2 hN hi hx r2 (fun s3 I3 => ⟨_, H2, I3, q2⟩) hf
  rcases l with ⟨hk, hm⟩ | ⟨hk, c, hc, hcell⟩
  · exact wpAny_loadName_local I.ok.kind hk hn hm go
  · rcases hk with hk | hk
    · exact wpAny_loadName_cell I.ok.kind hk hc hcell go
    · rcases hx with k | k
      · have : X.env.scope.names.lookup x = some .free := hk
        rw [k] at this; cases this
      · have : X.env.scope.names.lookup x = some .free := hk
        rw [k] at this; cases this
end

section
variable {X : Cx} {pos : Pos}
noncomputable def tWhile (c : TT) (tb : TS) : TS := fun D σ H => ∃ W : Nat → St → Hp → Prop, (∃ m, W m σ H) ∧ ∀ m σ H, W m σ H →
  c σ H fun b H1 => if b = true then ∃ N : St → Hp → Prop, (∀ σ' H', N σ' H' → ∃ m', m' < m ∧ W m' σ' H') ∧ tb { D with nx := N, ct := N, bk := D.nx } σ H1 else D.nx σ H1
theorem ps_while {c : Expr} {body : List Stmt} {tc : TT} {tb : TS} (hp : PassesOwn (model X.prog X.w) X.A X.env X.xe) (hc : PT X c tc) (hb : PSs X body tb) : PS X (.While c body [] pos) (tWhile tc tb) := by
  intro pins s σ H D I h
  obtain ⟨W, ⟨m0, w0⟩, turn⟩ := h
  refine wpAny_While (codeAny_whileLoop (fun n s' => ∃ σ' H', Inv X pins σ' H' s' ∧ W n σ' H') ?_ m0 ⟨σ, H, I, w0⟩)
  rintro n s1 ⟨σ1, H1, I1, w1⟩
  refine wpAny_passesOwn hp (thn (hc pins s1 σ1 H1 _ I1 (turn n σ1 H1 w1)) fun b s2 qq0 => ?_)
  obtain ⟨H2, I2, q2⟩ := qq0
  cases b with
  | true =>
    obtain ⟨N, hN, q2⟩ := q2
    rw [if_pos rfl]
    refine wpAny_passesOwn hp (thn (hb pins s2 σ1 H2 _ I2 q2) fun f s3 q3 => ?_)
    cases f with
    | next =>
      obtain ⟨σ3, H3, I3, n3⟩ := q3
      obtain ⟨m', hm, w3⟩ := hN σ3 H3 n3
      exact ⟨m', hm, σ3, H3, I3, w3⟩
    | cont =>
      obtain ⟨σ3, H3, I3, n3⟩ := q3
      obtain ⟨m', hm, w3⟩ := hN σ3 H3 n3
      exact ⟨m', hm, σ3, H3, I3, w3⟩
    | brk => exact q3
    | ret v => exact q3
  | false =>
    rw [if_neg Bool.false_ne_true]
    exact wpAny_execs_nil ⟨σ1, H2, I2, q2⟩
end

structure It where
  go : Nat → Hp → Prop
  yld : Nat → Hp → V → Hp → Prop
  stop : Nat → Hp → Prop
noncomputable def FpOk (X : Cx) (pins : List (Addr × Obj)) (H : Hp) (b : Addr) : Prop :=
  H b = none ∧ b ≠ X.env.locals ∧ b ∉ X.fs ∧ (b ∈ X.ex ∨ X.s₀.heap.objs.size ≤ b) ∧ (∀ x c, X.env.cells.lookup x = some c → c ≠ b) ∧ ∀ p ∈ X.pn ++ pins, p.1 ≠ b
theorem Inv.fpOk {X : Cx} {pins : List (Addr × Obj)} {σ : St} {H H' : Hp} {s : Shared} {b : Addr} (I : Inv X pins σ H s) (hb : s.heap.objs.size ≤ b) (hn : H' b = none) : FpOk X pins H' b := by
  refine ⟨hn, Nat.ne_of_gt (Nat.lt_of_lt_of_le I.lt hb), I.nofs hb, .inr (Nat.le_trans I.sz hb), fun x c e z => ?_, fun p hp z => ?_⟩
  · obtain ⟨v, q⟩ := I.cell x c e
    exact absurd (Nat.lt_of_lt_of_le q.lt (by rw [z]; exact hb)) (Nat.lt_irrefl _)
  · exact absurd (Nat.lt_of_lt_of_le (Heap.lt_size (I.pin p hp).1) (by rw [z]; exact hb)) (Nat.lt_irrefl _)
structure Turn (P : Program) (w : World) (K : PySem.W.Frag) (tg : Expr) (J : It) (fp : List Addr) (it : Addr) (tn : Nat → Heap → Prop) : Prop where
  mem : it ∈ fp
  obj : ∀ i h, tn i h → ∀ b ∈ fp, ∃ o, h.get? b = some o ∧ ∀ v, o.data ≠ .cell v
  keep : ∀ i h h', tn i h → (∀ b ∈ fp, ∀ o, h.get? b = some o → h'.get? b = some o) → tn i h'
  item : ∀ (X : Cx), X.prog = P → X.w = w → X.K = K → X.calm = true → ∀ (i : Nat) (pins : List (Addr × Obj)) (s : Shared) (σ : St) (H : Hp) (E : Value → Shared → Prop), Inv X pins σ H s → (∀ b ∈ fp, FpOk X pins H b) → tn i s.heap → J.go i H →
    wpAny (model P w) X.A (pyNext (.ref it)) (fun r s1 => ∃ u, r = some u ∧
      wpAny (model P w) X.A (letOwnedTupleGo tg (.ref it) u) (fun _ s2 => ∃ x H', Inv X pins σ H' s2 ∧ RelV x u ∧ J.yld i H x H' ∧ tn (i + 1) s2.heap ∧ ∀ b ∈ fp, H' b = none) E s1) E s
  done : ∀ (X : Cx), X.prog = P → X.w = w → X.K = K → X.calm = true → ∀ (i : Nat) (pins : List (Addr × Obj)) (s : Shared) (σ : St) (H : Hp) (E : Value → Shared → Prop), Inv X pins σ H s → (∀ b ∈ fp, FpOk X pins H b) → tn i s.heap → J.stop i H →
    wpAny (model P w) X.A (pyNext (.ref it)) (fun r s1 => r = none ∧ Inv X pins σ H s1) E s
  self : ∀ (A : Around) (i : Nat) (s : Shared) (Q : Value → Shared → Prop) (E : Value → Shared → Prop), tn i s.heap → Q (.ref it) s → wpAny (model P w) A (pyIter (.ref it)) Q E s
noncomputable abbrev TI := St → Hp → (It → Hp → Prop) → Prop
noncomputable def PIE (X : Cx) (pins : List (Addr × Obj)) (σ : St) (tg : Expr) (R : It → Hp → Prop) (itv : Value) (s2 : Shared) : Prop :=
  ∃ (it : Addr) (fp : List Addr) (tn : Nat → Heap → Prop) (J : It) (H' : Hp), itv = .ref it ∧ Inv X pins σ H' s2 ∧ Turn X.prog X.w X.K tg J fp it tn ∧ tn 0 s2.heap ∧ (∀ b ∈ fp, FpOk X pins H' b) ∧ R J H'
noncomputable def PI (X : Cx) (tg iter : Expr) (wi : TI) : Prop :=
  ∀ (pins : List (Addr × Obj)) (s : Shared) (σ : St) (H : Hp) (R : It → Hp → Prop), Inv X pins σ H s → wi σ H R →
    wpAny (model X.prog X.w) X.A (eval iter X.env) (fun v s1 => wpAny (model X.prog X.w) X.A (pyIter v) (PIE X pins σ tg R) X.xe s1) X.xe s

theorem go_of {M : Model} {A : Around} {E : Value → Shared → Prop} {s : Shared} {tg : Expr} {it : Addr} {u : Value} {o : Obj} {n : String} {vs : Array Value} {Q : Unit → Shared → Prop} (ho : s.heap.get? it = some o) (hc : o.cls = .type n) (hd : o.data = .fields vs)
    (hn : ["enumerate", "zip", "dict_itemiterator", "dict_reverseitemiterator", "odict_iterator", "itertools.zip_longest", "itertools.pairwise"].contains n = false) (hQ : Q () s) : wpAny M A (letOwnedTupleGo tg (.ref it) u) Q E s := by
  unfold letOwnedTupleGo
  cases tg <;> first
    | exact wpAny_pure hQ
    | (cases u <;> first
        | exact wpAny_pure hQ
        | (refine wpAny_bind (wpAny_load ho ?_)
           rw [hc, hd]
           show wpAny M A (if (["enumerate", "zip", "dict_itemiterator", "dict_reverseitemiterator", "odict_iterator", "itertools.zip_longest", "itertools.pairwise"].contains n && vs[0]? == some (rawInt _)) = true then _ else _) Q E s
           rw [if_neg (by intro h; rw [hn, Bool.false_and] at h; cases h)]
           exact wpAny_pure hQ))

noncomputable def Itl (K : PySem.W.Frag) (a : Addr) : It :=
  ⟨fun i H => ∃ xs x, SqL K H a xs ∧ xs[i]? = some x, fun i H x H' => H' = H ∧ ∀ xs, SqL K H a xs → xs[i]? = some x, fun i H => ∃ xs, SqL K H a xs ∧ xs.length ≤ i⟩
noncomputable def Itt (K : PySem.W.Frag) (a : Addr) : It :=
  ⟨fun i H => ∃ xs x, SqT K H a xs ∧ xs[i]? = some x, fun i H x H' => H' = H ∧ ∀ xs, SqT K H a xs → xs[i]? = some x, fun i H => ∃ xs, SqT K H a xs ∧ xs.length ≤ i⟩
noncomputable def Itr (lo : Int) (n : Nat) : It := ⟨fun i _ => i < n, fun i H x H' => H' = H ∧ x = .int (lo + i), fun i _ => n ≤ i⟩
theorem turn_list {P : Program} {w : World} {K : PySem.W.Frag} {tg : Expr} (a it : Addr) : Turn P w K tg (Itl K a) [it] it (fun i h => h.IsListIter it a i) where
  mem := by simp
  obj := fun i h st b hb => by
    have e : b = it := by simpa using hb
    subst e
    obtain ⟨o, e, c, d⟩ := st
    exact ⟨o, e, fun v z => by rw [d] at z; cases z⟩
  keep := fun i h h' st k => st.at fun o e => k it (by simp) o e
  item := by
    intro X hP hw hK hc i pins s σ H E I hf st hg
    subst hP hw hK
    obtain ⟨xs, x, hq, hx⟩ := hg
    obtain ⟨its, rv, p, hz⟩ := I.list hq
    obtain ⟨u, hu, ru⟩ := rv.get hx
    obtain ⟨f0, f1, f2, f3, f4, f5⟩ := hf it (by simp)
    refine wpAny_pyNext_list_item st p.isList (x := u) (by simpa using hu) fun h' st' sb => ?_
    have I1 : Inv X pins σ H { s with heap := h' } := I.turned (t' := s.toks) (fun b o hb e => (sb.2 b hb).trans e) f0 f1 f3 f4 f5
    obtain ⟨o, e, c, d⟩ := id st'
    exact ⟨u, rfl, go_of (s := { s with heap := h' }) e c d (by decide) ⟨x, H, I1, ru, ⟨rfl, fun ys hy => by rw [I.list_inj hy hq]; exact hx⟩, st', fun b hb => (hf b hb).1⟩⟩
  done := by
    intro X hP hw hK hc i pins s σ H E I hf st hg
    subst hP hw hK
    obtain ⟨xs, hq, hx⟩ := hg
    obtain ⟨its, rv, p, hz⟩ := I.list hq
    obtain ⟨f0, f1, f2, f3, f4, f5⟩ := hf it (by simp)
    have hl := rv.length
    exact wpAny_pyNext_list_end (I.ok.hd hc) st p.isList (by simp; omega) fun h' eb => ⟨rfl, I.turned (t' := s.toks) (fun b o hb e => eb b o hb e) f0 f1 f3 f4 f5⟩
  self := fun _ _ _ _ _ st h => wpAny_pyIter_listiter st h
theorem turn_tuple {P : Program} {w : World} {K : PySem.W.Frag} {tg : Expr} (a it : Addr) : Turn P w K tg (Itt K a) [it] it (fun i h => h.IsTupleIter it a i) where
  mem := by simp
  obj := fun i h st b hb => by
    have e : b = it := by simpa using hb
    subst e
    obtain ⟨o, e, c, d⟩ := st
    exact ⟨o, e, fun v z => by rw [d] at z; cases z⟩
  keep := fun i h h' st k => st.at fun o e => k it (by simp) o e
  item := by
    intro X hP hw hK hc i pins s σ H E I hf st hg
    subst hP hw hK
    obtain ⟨xs, x, hq, hx⟩ := hg
    obtain ⟨its, rv, p, hz⟩ := I.tuple hq
    obtain ⟨u, hu, ru⟩ := rv.get hx
    obtain ⟨f0, f1, f2, f3, f4, f5⟩ := hf it (by simp)
    refine wpAny_pyNext_tuple_item st (show s.heap.IsTuple a its.toArray from p) (x := u) (by simpa using hu) fun h' st' sb => ?_
    have I1 : Inv X pins σ H { s with heap := h' } := I.turned (t' := s.toks) (fun b o hb e => (sb.2 b hb).trans e) f0 f1 f3 f4 f5
    obtain ⟨o, e, c, d⟩ := id st'
    exact ⟨u, rfl, go_of (s := { s with heap := h' }) e c d (by decide) ⟨x, H, I1, ru, ⟨rfl, fun ys hy => by rw [I.tuple_inj hy hq]; exact hx⟩, st', fun b hb => (hf b hb).1⟩⟩
  done := by
    intro X hP hw hK hc i pins s σ H E I hf st hg
    subst hP hw hK
    obtain ⟨xs, hq, hx⟩ := hg
    obtain ⟨its, rv, p, hz⟩ := I.tuple hq
    obtain ⟨f0, f1, f2, f3, f4, f5⟩ := hf it (by simp)
    have hl := rv.length
    exact wpAny_pyNext_tuple_end (I.ok.hd hc) st (show s.heap.IsTuple a its.toArray from p) (by simp; omega) fun h' eb => ⟨rfl, I.turned (t' := s.toks) (fun b o hb e => eb b o hb e) f0 f1 f3 f4 f5⟩
  self := fun _ _ _ _ _ st h => wpAny_pyIter_tupleiter st h
theorem turn_range {P : Program} {w : World} {K : PySem.W.Frag} {tg : Expr} (it : Addr) (lo : Int) (n : Nat) : Turn P w K tg (Itr lo n) [it] it (fun i h => IsRangeIter h it (lo + (i : Nat) * 1) ((n : Int) - (i : Nat)) 1) where
  mem := by simp
  obj := fun i h st b hb => by
    have e : b = it := by simpa using hb
    subst e
    exact ⟨_, st, fun v z => by
      have z' : Data.fields _ = Data.cell v := z
      cases z'⟩
  keep := fun i h h' st k => k it (by simp) _ st
  item := by
    intro X hP hw hK hc i pins s σ H E I hf st hg
    subst hP hw hK
    obtain ⟨f0, f1, f2, f3, f4, f5⟩ := hf it (by simp)
    have W := Walks.range (prog := X.prog) (w := X.w) (I.ok.hd hc) it lo 1 n
    refine W.item i s _ _ hg st fun v h' tk hv st' kk => ?_
    obtain ⟨t, rfl⟩ := hv
    have I1 : Inv X pins σ H { s with heap := h', toks := tk } := I.turned (fun b o hb e => kk b o (by simpa using hb) e) f0 f1 f3 f4 f5
    refine ⟨_, rfl, go_of (s := { s with heap := h', toks := tk }) (n := "range_iterator") st' rfl rfl (by decide) ⟨.int (lo + i), H, I1, ⟨t, ?_⟩, ⟨rfl, rfl⟩, st', fun b hb => (hf b hb).1⟩⟩
    rw [Int.mul_one]
  done := by
    intro X hP hw hK hc i pins s σ H E I hf st hg
    subst hP hw hK
    obtain ⟨f0, f1, f2, f3, f4, f5⟩ := hf it (by simp)
    exact wpAny_pyNext_range_end (I.ok.hd hc) st (by have : n ≤ i := hg; omega) fun h' eb => ⟨rfl, I.turned (t' := s.toks) (fun b o hb e => eb b o hb e) f0 f1 f3 f4 f5⟩
  self := fun _ _ _ _ _ st h => wpAny_pyIter_rangeiter st h
end L2

namespace L2
open PySem PySem.Spec PyProof.Rows
section
variable {X : Cx} {tg : Expr}
theorem range_it {pins : List (Addr × Obj)} {σ : St} {H : Hp} {s : Shared} {R : It → Hp → Prop} {E : Value → Shared → Prop} {lo hi : Int} {t u v : Tok} {tk : Nat} (I : Inv X pins σ H s) (h1 : -(2 ^ 62) ≤ lo) (h2 : lo < 2 ^ 62) (h3 : -(2 ^ 62) ≤ hi) (h4 : hi < 2 ^ 62)
    (q : R (Itr lo (hi - lo).toNat) H) : wpAny (model X.prog X.w) X.A (pyIter (.ref s.heap.objs.size)) (PIE X pins σ tg R) E { s with heap := s.heap.push { cls := .type "range", data := .fields #[.int lo t, .int hi u, .int 1 v] }, toks := tk } := by
  refine wpAny_pyIter_range (IsRange.new ..) (small_one h1 h2 h3 h4) ?_
  have I1 : Inv X pins σ H { s with heap := s.heap.push { cls := .type "range", data := .fields #[.int lo t, .int hi u, .int 1 v] }, toks := tk } := I.kept fun b o e => Heap.get?_push_of_some _ e
  refine ⟨(s.heap.push { cls := .type "range", data := .fields #[.int lo t, .int hi u, .int 1 v] }).objs.size, [(s.heap.push { cls := .type "range", data := .fields #[.int lo t, .int hi u, .int 1 v] }).objs.size], _, _, H, rfl,
    I1.kept (t' := tk) fun b o e => Heap.get?_push_of_some _ e, turn_range _ lo (hi - lo).toNat, ?_, fun b hb => ?_, q⟩
  · have e1 : lo + ((0 : Nat) : Int) * 1 = lo := by simp
    have e2 : (((hi - lo).toNat : Nat) : Int) - ((0 : Nat) : Int) = Builtin.Range.rangeSize lo hi 1 := by rw [rangeSize_one]; split <;> omega
    show IsRangeIter _ _ (lo + ((0 : Nat) : Int) * 1) ((((hi - lo).toNat : Nat) : Int) - ((0 : Nat) : Int)) 1
    rw [e1, e2]
    exact Heap.get?_push_size _ rfl
  · have e : b = (s.heap.push { cls := .type "range", data := .fields #[.int lo t, .int hi u, .int 1 v] }).objs.size := by simpa using hb
    subst e
    exact I1.fpOk (Nat.le_refl _) (I1.hok.fresh (Nat.le_refl _))
noncomputable def iRng1 (ta : TA) : TI := fun σ H R => ta σ H fun vs H1 => ∃ j : Int, vs = [.int j] ∧ -(2 ^ 62) ≤ j ∧ j < 2 ^ 62 ∧ R (Itr 0 j.toNat) H1
noncomputable def iRng2 (ta : TA) : TI := fun σ H R => ta σ H fun vs H1 => ∃ i j : Int, vs = [.int i, .int j] ∧ (-(2 ^ 62) ≤ i ∧ i < 2 ^ 62 ∧ -(2 ^ 62) ≤ j ∧ j < 2 ^ 62) ∧ R (Itr i (j - i).toNat) H1
theorem pi_range1 {a : Expr} {ta : TA} {p pos : Pos} (hg : Gl X "range") (hm : X.mg "range" = none) (ha : PA X [a] ta) (hs : autoParam (starEach [a] X.env = [(false, eval a X.env)]) L2.auto4._auto_1) : PI X tg (.Call (.Name "range" p) [a] [] pos) (iRng1 ta) := by
  intro pins s σ H R I h
  refine Call_ (ld_blt I hg hm boot_range (PyProof.Rows.callWith_type1 (thn (ha pos pins s σ H _ I h) fun us s1 ⟨vs, H1, I1, r1, q1⟩ => ?_) hs rfl))
  obtain ⟨j, e, q1, q2, q⟩ := q1
  subst e
  cases r1 with
  | cons r rr =>
    cases rr
    obtain ⟨t, rfl⟩ := r
    exact call_range_1 (range_it I1 (by omega) (by omega) q1 q2 (by simpa using q))
theorem pi_range2 {a b : Expr} {ta : TA} {p pos : Pos} (hg : Gl X "range") (hm : X.mg "range" = none) (ha : PA X [a, b] ta) (hs : autoParam (starEach [a, b] X.env = [(false, eval a X.env), (false, eval b X.env)]) L2.auto4._auto_1) (hs2 : autoParam (starEach [b] X.env = [(false, eval b X.env)]) L2.auto4._auto_1) :
    PI X tg (.Call (.Name "range" p) [a, b] [] pos) (iRng2 ta) := by
  intro pins s σ H R I h
  refine Call_ (ld_blt I hg hm boot_range (PyProof.Rows.callWith_type1 (thn (ha pos pins s σ H _ I h) fun us s1 qq0 => ?_) (by rw [hs, hs2]) (by rw [hs2]; rfl)))
  obtain ⟨vs, H1, I1, r1, q1⟩ := qq0
  obtain ⟨i, j, e, ⟨q1, q2, q3, q4⟩, q⟩ := q1
  subst e
  cases r1 with
  | cons r rr =>
    cases rr with
    | cons r' rr =>
      cases rr
      obtain ⟨t, rfl⟩ := r
      obtain ⟨t', rfl⟩ := r'
      exact call_range_2 (range_it I1 q1 q2 q3 q4 q)

noncomputable def tFor (wi : TI) (g : TG) (tb : TS) : TS := fun D σ H => wi σ H fun J H1 => ∃ W : Nat → Nat → St → Hp → Prop, (∃ m, W 0 m σ H1) ∧ ∀ i m σ H, W i m σ H →
  (J.stop i H ∧ D.nx σ H) ∨ (J.go i H ∧ ∃ N : St → Hp → Prop, (∀ σ' H', N σ' H' → ∃ m', m' < m ∧ W (i + 1) m' σ' H') ∧ ∀ x H', J.yld i H x H' → g x σ H' fun σ2 H2 => tb { D with nx := N, ct := N, bk := D.nx } σ2 H2)
noncomputable def pinsAt (fp : List Addr) (h : Heap) : List (Addr × Obj) := fp.filterMap fun b => (h.get? b).map fun o => (b, o)
theorem mem_pinsAt {fp : List Addr} {h : Heap} {b : Addr} {o : Obj} (hb : b ∈ fp) (e : h.get? b = some o) : (b, o) ∈ pinsAt fp h := List.mem_filterMap.mpr ⟨b, hb, by rw [e]; rfl⟩
theorem of_pinsAt {fp : List Addr} {h : Heap} {p : Addr × Obj} (hp : p ∈ pinsAt fp h) : p.1 ∈ fp ∧ h.get? p.1 = some p.2 := by
  obtain ⟨b, hb, e⟩ := List.mem_filterMap.mp hp
  cases q : h.get? b with
  | none => rw [q] at e; cases e
  | some o =>
    rw [q] at e
    have e' : (b, o) = p := Option.some.inj e
    subst e'
    exact ⟨hb, q⟩
theorem Inv.pinned {pins : List (Addr × Obj)} {σ : St} {H : Hp} {s : Shared} {fp : List Addr} (I : Inv X pins σ H s) (hf : ∀ b ∈ fp, FpOk X pins H b) (ho : ∀ b ∈ fp, ∃ o, s.heap.get? b = some o ∧ ∀ v, o.data ≠ .cell v) : Inv X (pins ++ pinsAt fp s.heap) σ H s :=
  I.pins_of fun p hp => (List.mem_append.mp hp).elim (fun z => I.pin p (List.mem_append_right _ z)) fun z => by
    obtain ⟨hb, e⟩ := of_pinsAt z
    obtain ⟨f0, f1, f2, _⟩ := hf p.1 hb
    obtain ⟨o, e', d⟩ := ho p.1 hb
    rw [e] at e'; cases e'
    exact ⟨e, f0, f1, f2, d⟩
theorem Inv.unpinned {pins pl : List (Addr × Obj)} {σ : St} {H : Hp} {s : Shared} (I : Inv X (pins ++ pl) σ H s) : Inv X pins σ H s := I.pins_of fun p hp => I.pin p (List.mem_append_right _ (List.mem_append_left _ hp))
theorem ps_for {iter : Expr} {body : List Stmt} {wi : TI} {g : TG} {tb : TS} {pos : Pos} (hp : PassesOwn (model X.prog X.w) X.A X.env X.xe) (hc : X.calm = true) (hi : PI X tg iter wi) (hg : PG X tg g) (hb : PSs X body tb)
    (hs : autoParam (∀ x, foldedSetIterable iter X.env x = pure x) L2.auto3._auto_1) : PS X (.For tg iter body [] pos) (tFor wi g tb) := by
  intro pins s σ H D I h
  refine wpAny_For (thn (hi pins s σ H _ I h) fun v s1 h1 => thn h1 fun itv s2 h2 => ?_) hs
  obtain ⟨it, fp, tn, J, H2, e, I2, T, st2, f2, W, ⟨m0, w0⟩, turn⟩ := h2
  subst e
  -- what stays true of the iterator's objects through the loop
  have stat : ∀ {H' : Hp}, (∀ b ∈ fp, H' b = none) → ∀ b ∈ fp, FpOk X pins H' b := fun hn b hb => ⟨hn b hb, (f2 b hb).2⟩
  refine codeAny_forLoop_any (fun n s' => ∃ i σ' H', Inv X pins σ' H' s' ∧ tn i s'.heap ∧ (∀ b ∈ fp, H' b = none) ∧ W i n σ' H') ?_ m0 ⟨0, σ, H2, I2, st2, fun b hb => (f2 b hb).1, w0⟩
  rintro n s3 ⟨i, σ3, H3, I3, st3, fr3, w3⟩
  rcases turn i n σ3 H3 w3 with ⟨stop, qn⟩ | ⟨go, N, hN, step⟩
  · refine wpAny_passesOwn hp (thn (T.done X rfl rfl rfl hc i pins s3 σ3 H3 X.xe I3 (stat fr3) st3 stop) fun r s4 qq0 => ?_)
    obtain ⟨hr, I4⟩ := qq0
    subst hr
    exact wpAny_execs_nil ⟨σ3, H3, I4, qn⟩
  · refine wpAny_passesOwn hp (thn (T.item X rfl rfl rfl hc i pins s3 σ3 H3 X.xe I3 (stat fr3) st3 go) fun r s4 qq0 => ?_)
    obtain ⟨u, hr, h4⟩ := qq0
    subst hr
    refine wpAny_passesOwn hp (thn h4 fun _ s5 qq0 => ?_)
    obtain ⟨x, H5, I5, r5, y5, st5, fr5⟩ := qq0
    have I5' := I5.pinned (stat fr5) (T.obj _ _ st5)
    refine wpAny_passesOwn hp (thn (hg _ s5 σ3 H5 x u _ I5' r5 (step x H5 y5)) fun _ s6 qq0 => ?_)
    obtain ⟨σ6, H6, I6, q6⟩ := qq0
    refine wpAny_passesOwn hp (thn (hb _ s6 σ6 H6 _ I6 q6) fun f s7 q7 => ?_)
    have again : ∀ {σ7 : St} {H7 : Hp}, Inv X (pins ++ pinsAt fp s5.heap) σ7 H7 s7 → N σ7 H7 → ∃ m, m < n ∧ ∃ i σ' H', Inv X pins σ' H' s7 ∧ tn i s7.heap ∧ (∀ b ∈ fp, H' b = none) ∧ W i m σ' H' := fun {σ7 H7} I7 n7 => by
      obtain ⟨m', hm, w7⟩ := hN σ7 H7 n7
      refine ⟨m', hm, i + 1, σ7, H7, I7.unpinned, T.keep _ _ _ st5 fun b hb o e => (I7.pin (b, o) (List.mem_append_right _ (List.mem_append_right _ (mem_pinsAt hb e)))).1, fun b hb => ?_, w7⟩
      obtain ⟨o, e, d⟩ := T.obj _ _ st5 b hb
      exact (I7.pin (b, o) (List.mem_append_right _ (List.mem_append_right _ (mem_pinsAt hb e)))).2.1
    cases f with
    | next => obtain ⟨σ7, H7, I7, n7⟩ := q7; exact again I7 n7
    | cont => obtain ⟨σ7, H7, I7, n7⟩ := q7; exact again I7 n7
    | brk => obtain ⟨σ7, H7, I7, q7⟩ := q7; exact ⟨σ7, H7, I7.unpinned, q7⟩
    | ret v => obtain ⟨x7, σ7, H7, I7, r7, q7⟩ := q7; exact ⟨x7, σ7, H7, I7.unpinned, r7, q7⟩
end

theorem for_list {K : PySem.W.Frag} {a : Addr} {xs : List V} {g : TG} {tb : TS} {D : Ends} {σ : St} {H : Hp} (Pv : Nat → St → Hp → Prop) (h0 : Pv 0 σ H) (hl : ∀ i σ H, i ≤ xs.length → Pv i σ H → SqL K H a xs)
    (hs : ∀ i x σ H, xs[i]? = some x → Pv i σ H → g x σ H fun σ2 H2 => tb { D with nx := Pv (i + 1), ct := Pv (i + 1), bk := D.nx } σ2 H2) (hd : ∀ σ H, Pv xs.length σ H → D.nx σ H) :
    ∃ W : Nat → Nat → St → Hp → Prop, (∃ m, W 0 m σ H) ∧ ∀ i m σ H, W i m σ H →
      ((Itl K a).stop i H ∧ D.nx σ H) ∨ ((Itl K a).go i H ∧ ∃ N : St → Hp → Prop, (∀ σ' H', N σ' H' → ∃ m', m' < m ∧ W (i + 1) m' σ' H') ∧ ∀ x H', (Itl K a).yld i H x H' → g x σ H' fun σ2 H2 => tb { D with nx := N, ct := N, bk := D.nx } σ2 H2) := by
  refine ⟨fun i m σ H => m = xs.length - i ∧ i ≤ xs.length ∧ Pv i σ H, ⟨xs.length, by simp, Nat.zero_le _, h0⟩, ?_⟩
  rintro i m σ H ⟨rfl, hi, p⟩
  have q := hl i σ H hi p
  by_cases hlt : i < xs.length
  · refine .inr ⟨⟨xs, xs[i], q, by simp [hlt]⟩, Pv (i + 1), fun σ' H' p' => ⟨xs.length - (i + 1), by omega, rfl, hlt, p'⟩, fun x H' y => ?_⟩
    obtain ⟨e, y⟩ := y
    subst e
    exact hs i x σ _ (y xs q) p
  · have e : i = xs.length := by omega
    subst e
    exact .inl ⟨⟨xs, q, Nat.le_refl _⟩, hd σ H p⟩
theorem for_range {lo : Int} {n : Nat} {g : TG} {tb : TS} {D : Ends} {σ : St} {H : Hp} (Pv : Nat → St → Hp → Prop) (h0 : Pv 0 σ H)
    (hs : ∀ i σ H, i < n → Pv i σ H → g (.int (lo + i)) σ H fun σ2 H2 => tb { D with nx := Pv (i + 1), ct := Pv (i + 1), bk := D.nx } σ2 H2) (hd : ∀ σ H, Pv n σ H → D.nx σ H) :
    ∃ W : Nat → Nat → St → Hp → Prop, (∃ m, W 0 m σ H) ∧ ∀ i m σ H, W i m σ H →
      ((Itr lo n).stop i H ∧ D.nx σ H) ∨ ((Itr lo n).go i H ∧ ∃ N : St → Hp → Prop, (∀ σ' H', N σ' H' → ∃ m', m' < m ∧ W (i + 1) m' σ' H') ∧ ∀ x H', (Itr lo n).yld i H x H' → g x σ H' fun σ2 H2 => tb { D with nx := N, ct := N, bk := D.nx } σ2 H2) := by
  refine ⟨fun i m σ H => m = n - i ∧ i ≤ n ∧ Pv i σ H, ⟨n, by simp, Nat.zero_le _, h0⟩, ?_⟩
  rintro i m σ H ⟨rfl, hi, p⟩
  by_cases hlt : i < n
  · refine .inr ⟨hlt, Pv (i + 1), fun σ' H' p' => ⟨n - (i + 1), by omega, rfl, hlt, p'⟩, fun x H' y => ?_⟩
    obtain ⟨e, y⟩ := y
    subst e y
    exact hs i σ _ hlt p
  · have e : i = n := by omega
    subst e
    exact .inl ⟨Nat.le_refl _, hd σ H p⟩
theorem while_by {c : TT} {tb : TS} {D : Ends} {σ : St} {H : Hp} (Pv : St → Hp → Prop) (μ : St → Hp → Nat) (h0 : Pv σ H)
    (hs : ∀ σ H, Pv σ H → c σ H fun b H1 => if b = true then tb { D with nx := fun σ' H' => Pv σ' H' ∧ μ σ' H' < μ σ H, ct := fun σ' H' => Pv σ' H' ∧ μ σ' H' < μ σ H, bk := D.nx } σ H1 else D.nx σ H1)
    (mono : ∀ σ H Q Q', (∀ b H1, Q b H1 → Q' b H1) → c σ H Q → c σ H Q') : tWhile c tb D σ H := by
  refine ⟨fun m σ H => m = μ σ H ∧ Pv σ H, ⟨_, rfl, h0⟩, ?_⟩
  rintro m σ H ⟨rfl, p⟩
  refine mono σ H _ _ (fun b H1 q => ?_) (hs σ H p)
  cases b with
  | true => exact ⟨_, fun σ' H' ⟨p', l⟩ => ⟨_, l, rfl, p'⟩, q⟩
  | false => exact q
end L2

namespace L2
open PySem PySem.Spec PyProof.Rows

noncomputable abbrev R2 := V → V → Hp → VK → Prop
noncomputable def OpR (X : Cx) (f : Value → Value → Sem Value) (r : R2) : Prop :=
  ∀ (pins : List (Addr × Obj)) (s : Shared) (σ : St) (H : Hp) (x y : V) (v u : Value) (Q : VK), Inv X pins σ H s → RelV x v → RelV y u → r x y H Q →
    wpAny (model X.prog X.w) X.A (f v u) (EP X pins σ Q) X.xe s
noncomputable def UnR (X : Cx) (f : Value → Sem Value) (r : V → Hp → VK → Prop) : Prop :=
  ∀ (pins : List (Addr × Obj)) (s : Shared) (σ : St) (H : Hp) (x : V) (v : Value) (Q : VK), Inv X pins σ H s → RelV x v → r x H Q →
    wpAny (model X.prog X.w) X.A (f v) (EP X pins σ Q) X.xe s
noncomputable def CallR (X : Cx) (f : Value) (r : List V → Hp → VK → Prop) : Prop :=
  ∀ (pins : List (Addr × Obj)) (s : Shared) (σ : St) (H : Hp) (xs : List V) (us : List Value) (Q : VK), Inv X pins σ H s → Vals xs us → r xs H Q →
    wpAny (model X.prog X.w) X.A (call f us) (EP X pins σ Q) X.xe s
noncomputable def tOp (r : R2) (ta tb : TE) : TE := fun σ H Q => ta σ H fun x H1 => tb σ H1 fun y H2 => r x y H2 Q
noncomputable def tUn (r : V → Hp → VK → Prop) (ta : TE) : TE := fun σ H Q => ta σ H fun x H1 => r x H1 Q
noncomputable def rI (C : Int → Int → Prop) (g : Int → Int → V) : R2 := fun x y H Q => ∃ i j, x = .int i ∧ y = .int j ∧ C i j ∧ Q (g i j) H
noncomputable def rI0 (g : Int → Int → V) : R2 := fun x y H Q => ∃ i j, x = .int i ∧ y = .int j ∧ Q (g i j) H
noncomputable def rU (g : Int → V) : V → Hp → VK → Prop := fun x H Q => ∃ i, x = .int i ∧ Q (g i) H

section
variable {X : Cx} {a b c : Expr} {ta tb tc : TE} {pos : Pos}

theorem binT (ha : PE X a ta) (hb : PE X b tb) {pins : List (Addr × Obj)} {s : Shared} {σ : St} {H : Hp} {R : V → V → Hp → Prop} (I : Inv X pins σ H s)
    (h : ta σ H fun x H1 => tb σ H1 fun y H2 => R x y H2) {Q : Value → Shared → Prop} {f : Value → Value → Sem Value}
    (hf : ∀ v u s2 x y H2, Inv X pins σ H2 s2 → RelV x v → RelV y u → R x y H2 → wpAny (model X.prog X.w) X.A (f v u) Q X.xe s2) :
    wpAny (model X.prog X.w) X.A (eval a X.env) (fun v s₁ => wpAny (model X.prog X.w) X.A (eval b X.env) (fun u s₂ => wpAny (model X.prog X.w) X.A (f v u) Q X.xe s₂) X.xe s₁) X.xe s := by
  refine thn (ha pins s σ H _ I h) fun v s1 qq0 => ?_
  obtain ⟨x, H1, I1, r1, q1⟩ := qq0
  refine thn (hb pins s1 σ H1 _ I1 q1) fun u s2 qq0 => ?_
  obtain ⟨y, H2, I2, r2, q2⟩ := qq0
  exact hf v u s2 x y H2 I2 r1 r2 q2

theorem pe_op {op : Operator} {r : R2} (ho : OpR X (binaryOp op) r) (ha : PE X a ta) (hb : PE X b tb) : PE X (.BinOp a op b pos) (tOp r ta tb) := by
  intro pins s σ H Q I h
  exact wpAny_BinOp (binT ha hb I h fun v u s2 x y H2 I2 rx ry q => ho pins s2 σ H2 x y v u Q I2 rx ry q)
theorem pe_un {op : UnaryOp} {r : V → Hp → VK → Prop} (ho : UnR X (unaryOp op) r) (ha : PE X a ta) : PE X (.UnaryOp op a pos) (tUn r ta) := by
  intro pins s σ H Q I h
  exact UnaryOp_ (thn (ha pins s σ H _ I h) fun v s1 ⟨x, H1, I1, r1, q1⟩ => ho pins s1 σ H1 x v Q I1 r1 q1)
theorem opI {f : Value → Value → Sem Value} {C : Int → Int → Prop} {g : Int → Int → Int}
    (rule : ∀ (i j : Int) (t u : Tok) (s : Shared) (Q : Value → Shared → Prop) (E : Value → Shared → Prop), C i j → Q (.int (g i j) s.toks) { s with toks := s.toks + 1 } → wpAny (model X.prog X.w) X.A (f (.int i t) (.int j u)) Q E s) :
    OpR X f (rI C fun i j => .int (g i j)) := by
  intro pins s σ H x y v u Q I rx ry h
  obtain ⟨i, j, rfl, rfl, hc, q⟩ := h
  obtain ⟨t, rfl⟩ := rx
  obtain ⟨t', rfl⟩ := ry
  exact rule i j t t' s _ _ hc ⟨.int (g i j), H, I.tok _, ⟨_, rfl⟩, q⟩
theorem opI0 {f : Value → Value → Sem Value} {g : Int → Int → Int}
    (rule : ∀ (i j : Int) (t u : Tok) (s : Shared) (Q : Value → Shared → Prop) (E : Value → Shared → Prop), Q (.int (g i j) s.toks) { s with toks := s.toks + 1 } → wpAny (model X.prog X.w) X.A (f (.int i t) (.int j u)) Q E s) :
    OpR X f (rI0 fun i j => .int (g i j)) := by
  intro pins s σ H x y v u Q I rx ry h
  obtain ⟨i, j, rfl, rfl, q⟩ := h
  obtain ⟨t, rfl⟩ := rx
  obtain ⟨t', rfl⟩ := ry
  exact rule i j t t' s _ _ ⟨.int (g i j), H, I.tok _, ⟨_, rfl⟩, q⟩
theorem opB0 {f : Value → Value → Sem Value} {g : Int → Int → Bool}
    (rule : ∀ (i j : Int) (t u : Tok) (s : Shared) (Q : Value → Shared → Prop) (E : Value → Shared → Prop), Q (.bool (g i j)) s → wpAny (model X.prog X.w) X.A (f (.int i t) (.int j u)) Q E s) :
    OpR X f (rI0 fun i j => .bl (g i j)) := by
  intro pins s σ H x y v u Q I rx ry h
  obtain ⟨i, j, rfl, rfl, q⟩ := h
  obtain ⟨t, rfl⟩ := rx
  obtain ⟨t', rfl⟩ := ry
  exact rule i j t t' s _ _ ⟨.bl (g i j), H, I, rfl, q⟩

noncomputable def CDiv (i j : Int) : Prop := 0 < j ∧ j < 1073741824
noncomputable def CPow (i j : Int) : Prop := 0 ≤ j ∧ j ≤ 1000000 ∧ i.natAbs < 2 ^ 64
noncomputable def CMul (i j : Int) : Prop := (-(2 ^ 64) < i ∧ i < 2 ^ 64) ∨ (-(2 ^ 64) < j ∧ j < 2 ^ 64)
theorem CMul.ok {i j : Int} (h : CMul i j) : IntMulOk i j := by
  rcases h with ⟨h1, h2⟩ | ⟨h1, h2⟩
  · exact .of_left (intBits_le_64 h1 h2)
  · exact .of_right (intBits_le_64 h1 h2)
theorem op_add : OpR X (binaryOp .Add) (rI0 fun i j => .int (i + j)) := opI0 fun _ _ _ _ _ _ _ q => add_int q
theorem op_sub : OpR X (binaryOp .Sub) (rI0 fun i j => .int (i - j)) := opI0 fun _ _ _ _ _ _ _ q => sub_int q
theorem op_mul : OpR X (binaryOp .Mult) (rI CMul fun i j => .int (i * j)) := opI fun _ _ _ _ _ _ _ hc q => mul_int q hc.ok
theorem op_fdiv : OpR X (binaryOp .FloorDiv) (rI CDiv fun i j => .int (i / j)) := opI fun i j _ _ _ _ _ hc q => by
  have h1 : (0 : Int) < j := hc.1
  have h2 : j < 1073741824 := hc.2
  exact floordiv_int (by omega) (by rw [Int.fdiv_eq_ediv_of_nonneg i (by omega)]; exact q) (.inl (PyProof.noPylong_small (by omega)))
theorem op_mod : OpR X (binaryOp .Mod) (rI (fun _ j => 0 < j) fun i j => .int (i % j)) := opI fun i j _ _ _ _ _ hc q => by
  have h1 : (0 : Int) < j := hc
  exact mod_int' (by omega) (by rw [Int.fmod_eq_emod_of_nonneg i (by omega)]; exact q)
theorem op_pow : OpR X (binaryOp .Pow) (rI CPow fun i j => .int (i ^ j.toNat)) := opI fun _ _ _ _ _ _ _ hc q => pow_int_small hc.1 hc.2.1 hc.2.2 q
theorem iop_sub : OpR X (inplaceOp .Sub) (rI0 fun i j => .int (i - j)) := opI0 fun _ _ _ _ _ _ _ q => isub_int q
theorem unI {f : Value → Sem Value} {g : Int → Int}
    (rule : ∀ (i : Int) (t : Tok) (s : Shared) (Q : Value → Shared → Prop) (E : Value → Shared → Prop), Q (.int (g i) s.toks) { s with toks := s.toks + 1 } → wpAny (model X.prog X.w) X.A (f (.int i t)) Q E s) :
    UnR X f (rU fun i => .int (g i)) := by
  intro pins s σ H x v Q I rx h
  obtain ⟨i, rfl, q⟩ := h
  obtain ⟨t, rfl⟩ := rx
  exact rule i t s _ _ ⟨.int (g i), H, I.tok _, ⟨_, rfl⟩, q⟩
theorem un_neg : UnR X (unaryOp .USub) (rU fun i => .int (-i)) := unI fun _ _ _ _ _ q => neg_int q
end

noncomputable def scal : V → V → Bool
  | .non, .non => true | .non, .int _ => true | .int _, .non => true | .non, .bl _ => true | .bl _, .non => true | .non, .str _ => true | .str _, .non => true
  | .int _, .int _ => true | .bl _, .bl _ => true | .str _, .str _ => true | .byt _, .byt _ => true
  | .int _, .str _ => true | .str _, .int _ => true | .bl _, .str _ => true | .str _, .bl _ => true
  | _, _ => false
noncomputable def rEq : R2 := fun x y H Q => scal x y = true ∧ Q (.bl (decide (x = y))) H
noncomputable def rNe : R2 := fun x y H Q => scal x y = true ∧ Q (.bl (!decide (x = y))) H

theorem dec_int {i j : Int} : decide (V.int i = V.int j) = (i == j) := by
  rw [Bool.eq_iff_iff]
  simp
theorem dec_bl {i j : Bool} : decide (V.bl i = V.bl j) = (i == j) := by
  rw [Bool.eq_iff_iff]
  simp
theorem dec_str {i j : Str} : decide (V.str i = V.str j) = (i == j) := by
  rw [Bool.eq_iff_iff]
  simp
theorem dec_byt {i j : Array UInt8} : decide (V.byt i = V.byt j) = (i.toList == j.toList) := by
  rw [Bool.eq_iff_iff]
  cases i
  cases j
  simp

section
variable {X : Cx} {a b c : Expr} {ta tb tc : TE} {pos : Pos}
theorem fin_bl {pins : List (Addr × Obj)} {σ : St} {H : Hp} {s : Shared} {Q : VK} {k k' : Bool} (I : Inv X pins σ H s) (q : Q (.bl k) H) (e : k = k') : EP X pins σ Q (.bool k') s := by
  subst e
  exact ⟨.bl k, H, I, rfl, q⟩
theorem op_eq : OpR X (compareOp .Eq) rEq := by
  intro pins s σ H x y v u Q I rx ry h
  obtain ⟨hs, q⟩ := h
  cases x with
  | non =>
    cases rx
    cases y with
    | non => cases ry; exact PySem.EqNone.eq_none_none (fin_bl I q (by simp))
    | bl j => cases ry; exact PySem.EqNone.eq_none_bool (fin_bl I q (by simp))
    | int j => obtain ⟨t', rfl⟩ := ry; exact PySem.EqNone.eq_none_int (fin_bl I q (by simp))
    | str j => obtain ⟨t', rfl⟩ := ry; exact PySem.EqNone.eq_none_str (fin_bl I q (by simp))
    | _ => exact absurd (show false = true from hs) Bool.false_ne_true
  | bl i =>
    cases rx
    cases y with
    | non => cases ry; exact PySem.EqNone.eq_bool_none (fin_bl I q (by simp))
    | bl j => cases ry; exact eq_bool (fin_bl I q dec_bl)
    | str j => obtain ⟨t', rfl⟩ := ry; exact PySem.EqMixed.eq_bool_str (fin_bl I q (by simp))
    | _ => exact absurd (show false = true from hs) Bool.false_ne_true
  | int i =>
    obtain ⟨t, rfl⟩ := rx
    cases y with
    | non => cases ry; exact PySem.EqNone.eq_int_none (fin_bl I q (by simp))
    | int j => obtain ⟨t', rfl⟩ := ry; exact eq_int (fin_bl I q dec_int)
    | str j => obtain ⟨t', rfl⟩ := ry; exact PySem.EqMixed.eq_int_str (fin_bl I q (by simp))
    | _ => exact absurd (show false = true from hs) Bool.false_ne_true
  | str i =>
    obtain ⟨t, rfl⟩ := rx
    cases y with
    | non => cases ry; exact PySem.EqNone.eq_str_none (fin_bl I q (by simp))
    | bl j => cases ry; exact PySem.EqMixed.eq_str_bool (fin_bl I q (by simp))
    | int j => obtain ⟨t', rfl⟩ := ry; exact PySem.EqMixed.eq_str_int (fin_bl I q (by simp))
    | str j => obtain ⟨t', rfl⟩ := ry; exact eq_str (fin_bl I q dec_str)
    | _ => exact absurd (show false = true from hs) Bool.false_ne_true
  | byt i =>
    obtain ⟨t, rfl⟩ := rx
    cases y with
    | byt j => obtain ⟨t', rfl⟩ := ry; exact PySem.W.eq_bytes (fin_bl I q dec_byt)
    | _ => exact absurd (show false = true from hs) Bool.false_ne_true
  | _ => cases y <;> exact absurd (show false = true from hs) Bool.false_ne_true
theorem op_ne : OpR X (compareOp .NotEq) rNe := by
  intro pins s σ H x y v u Q I rx ry h
  obtain ⟨hs, q⟩ := h
  cases x with
  | non =>
    cases rx
    cases y with
    | non => cases ry; exact PySem.EqNone.ne_none_none (fin_bl I q (by simp))
    | bl j => cases ry; exact PySem.EqNone.ne_none_bool (fin_bl I q (by simp))
    | int j => obtain ⟨t', rfl⟩ := ry; exact PySem.EqNone.ne_none_int (fin_bl I q (by simp))
    | str j => obtain ⟨t', rfl⟩ := ry; exact PySem.EqNone.ne_none_str (fin_bl I q (by simp))
    | _ => exact absurd (show false = true from hs) Bool.false_ne_true
  | bl i =>
    cases rx
    cases y with
    | non => cases ry; exact PySem.EqNone.ne_bool_none (fin_bl I q (by simp))
    | bl j => cases ry; exact ne_bool (fin_bl I q (congrArg not dec_bl))
    | str j => obtain ⟨t', rfl⟩ := ry; exact PySem.EqMixed.ne_bool_str (fin_bl I q (by simp))
    | _ => exact absurd (show false = true from hs) Bool.false_ne_true
  | int i =>
    obtain ⟨t, rfl⟩ := rx
    cases y with
    | non => cases ry; exact PySem.EqNone.ne_int_none (fin_bl I q (by simp))
    | int j => obtain ⟨t', rfl⟩ := ry; exact ne_int (fin_bl I q (congrArg not dec_int))
    | str j => obtain ⟨t', rfl⟩ := ry; exact PySem.EqMixed.ne_int_str (fin_bl I q (by simp))
    | _ => exact absurd (show false = true from hs) Bool.false_ne_true
  | str i =>
    obtain ⟨t, rfl⟩ := rx
    cases y with
    | non => cases ry; exact PySem.EqNone.ne_str_none (fin_bl I q (by simp))
    | bl j => cases ry; exact PySem.EqMixed.ne_str_bool (fin_bl I q (by simp))
    | int j => obtain ⟨t', rfl⟩ := ry; exact PySem.EqMixed.ne_str_int (fin_bl I q (by simp))
    | str j => obtain ⟨t', rfl⟩ := ry; exact ne_str (fin_bl I q (congrArg not dec_str))
    | _ => exact absurd (show false = true from hs) Bool.false_ne_true
  | byt i =>
    obtain ⟨t, rfl⟩ := rx
    cases y with
    | byt j => obtain ⟨t', rfl⟩ := ry; exact PySem.W.ne_bytes (fin_bl I q (congrArg not dec_byt))
    | _ => exact absurd (show false = true from hs) Bool.false_ne_true
  | _ => cases y <;> exact absurd (show false = true from hs) Bool.false_ne_true

theorem op_lt : OpR X (compareOp .Lt) (rI0 fun i j => .bl (decide (i < j))) := opB0 fun _ _ _ _ _ _ _ q => lt_int q
theorem op_le : OpR X (compareOp .LtE) (rI0 fun i j => .bl (decide (i ≤ j))) := opB0 fun _ _ _ _ _ _ _ q => le_int q
theorem op_gt : OpR X (compareOp .Gt) (rI0 fun i j => .bl (decide (j < i))) := opB0 fun _ _ _ _ _ _ _ q => gt_int q
theorem op_ge : OpR X (compareOp .GtE) (rI0 fun i j => .bl (decide (j ≤ i))) := opB0 fun _ _ _ _ _ _ _ q => ge_int q
theorem op_isN : OpR X (compareOp .Is) (fun x y H Q => y = .non ∧ Q (.bl (decide (x = .non))) H) := by
  intro pins s σ H x y v u Q I rx ry h
  obtain ⟨rfl, q⟩ := h
  cases ry
  refine is_none_gen (fin_bl I q ?_)
  cases x <;> first
    | (cases rx; rfl)
    | (obtain ⟨t, rfl⟩ := rx; rfl)
theorem OpR.or {f : Value → Value → Sem Value} {r r' : R2} (h : OpR X f r) (h' : OpR X f r') : OpR X f (fun x y H Q => r x y H Q ∨ r' x y H Q) := by
  intro pins s σ H x y v u Q I rx ry q
  rcases q with q | q
  · exact h pins s σ H x y v u Q I rx ry q
  · exact h' pins s σ H x y v u Q I rx ry q

theorem nomark (b : Expr) {op : CmpOp} (h : autoParam (op ≠ .In) L2.auto2._auto_1) (h2 : autoParam (op ≠ .NotIn) L2.auto2._auto_1) : behindInMarks op b = false := by
  have e1 : (op == CmpOp.In) = false := by cases op <;> first | rfl | exact absurd rfl h
  have e2 : (op == CmpOp.NotIn) = false := by cases op <;> first | rfl | exact absurd rfl h2
  cases b <;> simp [behindInMarks, e1, e2]
theorem pe_cmpR {op : CmpOp} {r : R2} (ho : OpR X (compareOp op) r) (ha : PE X a ta) (hb : PE X b tb) (hm : behindInMarks op b = false) : PE X (.Compare a [op] [b] pos) (tOp r ta tb) := by
  intro pins s σ H Q I h
  exact wpAny_Compare1 (binT ha hb I h fun v u s2 x y H2 I2 rx ry q => ho pins s2 σ H2 x y v u Q I2 rx ry q) hm
noncomputable def tTest (t : TE) : TT := fun σ H Q => t σ H fun x H' => ∃ k, x = .bl k ∧ Q k H'
theorem pt_cmpR {op : CmpOp} {r : R2} (ho : OpR X (compareOp op) r) (ha : PE X a ta) (hb : PE X b tb) (hm : behindInMarks op b = false) : PT X (.Compare a [op] [b] pos) (tTest (tOp r ta tb)) := by
  intro pins s σ H Q I h
  refine wpAny_isTrue_Compare1 (thn (ha pins s σ H _ I h) fun v s1 ⟨x, H1, I1, r1, q1⟩ => thn (hb pins s1 σ H1 _ I1 q1) fun u s2 ⟨y, H2, I2, r2, q2⟩ =>
    thn (ho pins s2 σ H2 x y v u _ I2 r1 r2 q2) fun c s3 ⟨z, H3, I3, r3, k, e, q3⟩ => ?_) hm
  subst e
  cases r3
  exact wpAny_truthy_bool ⟨H3, I3, q3⟩
noncomputable def tChain (r r' : R2) (ta tb tc : TE) : TE := fun σ H Q => ta σ H fun x H1 => tb σ H1 fun y H2 => r x y H2 fun z H3 => ∃ k, z = .bl k ∧
  (if k = true then tc σ H3 fun w' H4 => r' y w' H4 Q else Q (.bl false) H3)
theorem pe_chain {op op' : CmpOp} {r r' : R2} (ho : OpR X (compareOp op) r) (ho' : OpR X (compareOp op') r') (ha : PE X a ta) (hb : PE X b tb) (hc : PE X c tc)
    (hm : autoParam (lastMarks [op, op'] [b, c] = false) L2.auto5._auto_1) : PE X (.Compare a [op, op'] [b, c] pos) (tChain r r' ta tb tc) := by
  intro pins s σ H Q I h
  refine Compare_chain (thn (ha pins s σ H _ I h) fun v s1 ⟨x, H1, I1, r1, q1⟩ => chain_link (thn (hb pins s1 σ H1 _ I1 q1) fun u s2 ⟨y, H2, I2, r2, q2⟩ =>
    thn (ho pins s2 σ H2 x y v u _ I2 r1 r2 q2) fun d s3 ⟨z, H3, I3, r3, k, e, q3⟩ => ?_)) hm
  subst e
  cases r3
  refine wpAny_truthy_bool ?_
  cases k with
  | false => exact ite_ff ⟨.bl false, H3, I3, rfl, q3⟩
  | true => exact ite_tt (chain_last (thn (hc pins s3 σ H3 _ I3 q3) fun w' s4 ⟨z', H4, I4, r4, q4⟩ => ho' pins s4 σ H4 y z' u w' Q I4 r2 r4 q4))
theorem line63 : (sizeLine : Nat) < 2 ^ 63 := by rw [sizeLine_eq]; decide
theorem op_add_str : OpR X (binaryOp .Add) (fun x y H Q => ∃ i j, x = .str i ∧ y = .str j ∧ i.length + j.length ≤ sizeLine ∧ Q (.str (i ++ j)) H) := by
  intro pins s σ H x y v u Q I rx ry h
  obtain ⟨i, j, rfl, rfl, hz, q⟩ := h
  obtain ⟨t, rfl⟩ := rx
  obtain ⟨t', rfl⟩ := ry
  exact add_str (fun t' tk => ⟨.str (i ++ j), H, I.tok _, ⟨_, rfl⟩, q⟩) hz
theorem vals1 {x : V} {us : List Value} (r : Vals [x] us) : ∃ u, us = [u] ∧ RelV x u := by
  cases r with
  | cons r1 r2 => cases r2; exact ⟨_, rfl, r1⟩
theorem vals2 {x y : V} {us : List Value} (r : Vals [x, y] us) : ∃ u w', us = [u, w'] ∧ RelV x u ∧ RelV y w' := by
  cases r with
  | cons r1 r2 =>
    cases r2 with
    | cons r3 r4 => cases r4; exact ⟨_, _, rfl, r1, r3⟩
theorem call_max2 (hc : X.calm = true) : CallR X (.builtin "max") (fun xs H Q => ∃ i j, xs = [.int i, .int j] ∧ Q (.int (if j > i then j else i)) H) := by
  intro pins s σ H xs us Q I r h
  obtain ⟨i, j, rfl, q⟩ := h
  obtain ⟨u, w', rfl, ⟨t, rfl⟩, ⟨t', rfl⟩⟩ := vals2 r
  refine max_two_ints (I.ok.hd hc) fun h' tk k => ⟨_, H, I.kept k, ?_, q⟩
  by_cases hj : j > i
  · rw [if_pos hj, if_pos hj]; exact ⟨_, rfl⟩
  · rw [if_neg hj, if_neg hj]; exact ⟨_, rfl⟩
noncomputable def LenV (K : PySem.W.Frag) (x : V) (H : Hp) (n : Nat) : Prop :=
  match x with
  | .str y => y.length ≤ sizeLine ∧ n = y.length
  | .byt y => y.size ≤ sizeLine ∧ n = y.size
  | .ref p => (∃ xs, SqL K H p xs ∧ n = xs.length) ∨ ∃ xs, SqT K H p xs ∧ n = xs.length
  | _ => False
theorem call_len : CallR X (.builtin "len") (fun xs H Q => ∃ x n, xs = [x] ∧ LenV X.K x H n ∧ Q (.int n) H) := by
  intro pins s σ H xs us Q I r h
  obtain ⟨x, n, rfl, e, q⟩ := h
  obtain ⟨u, rfl, rx⟩ := vals1 r
  have hl := line63
  have hs : sizeLine = 16777216 := sizeLine_eq
  cases x with
  | str y =>
    obtain ⟨t, rfl⟩ := rx
    obtain ⟨hy, e'⟩ : y.length ≤ sizeLine ∧ n = y.length := e
    subst e'
    exact len_str (by omega) ⟨.int _, H, I.tok _, ⟨_, rfl⟩, q⟩
  | byt y =>
    obtain ⟨t, rfl⟩ := rx
    obtain ⟨hy, e'⟩ : y.size ≤ sizeLine ∧ n = y.size := e
    subst e'
    exact PySem.W.len_bytes (by omega) ⟨.int _, H, I.tok _, ⟨_, rfl⟩, q⟩
  | ref p =>
    cases rx
    have e' : (∃ xs, SqL X.K H p xs ∧ n = xs.length) ∨ ∃ xs, SqT X.K H p xs ∧ n = xs.length := e
    rcases e' with ⟨xs, hx, e'⟩ | ⟨xs, hx, e'⟩
    · subst e'
      obtain ⟨its, r', pl, hz⟩ := I.list hx
      have hlen := r'.length
      exact Calls.call_len_list pl.isList (by simp only [List.size_toArray]; omega) ⟨.int xs.length, H, I.tok _, ⟨_, by simp only [List.size_toArray]; rw [hlen]⟩, q⟩
    · subst e'
      obtain ⟨its, r', pl, hz⟩ := I.tuple hx
      have hlen := r'.length
      exact len_tuple pl (by simp only [List.size_toArray]; omega) ⟨.int xs.length, H, I.tok _, ⟨_, by simp only [List.size_toArray]; rw [hlen]⟩, q⟩
  | _ => exact (show False from e).elim
end
end L2

namespace L2
open PySem PySem.Spec PyProof.Rows

structure ObjM (h : Heap) (x dx C : Addr) (mA : Str → Option Value) : Prop where
  obj : h.get? x = some (PySem.W.instObj C dx)
  ns : h.Ns1 dx mA
  ne : dx ≠ x

theorem lookIn_ns {h : Heap} {dx : Addr} {mA : Str → Option Value} (n : h.Ns1 dx mA) : ∃ od, h.get? dx = some od ∧ ∀ name, PySem.W.lookIn name od = some (mA name) := by
  obtain ⟨o, es, ep, ho, hd, hk, _, hm⟩ := n
  refine ⟨o, ho, fun name => ?_⟩
  have e := hm name
  unfold nsFind findBy at e
  rw [← Array.find?_toList] at e
  unfold PySem.W.lookIn
  rw [hd]
  dsimp only
  split
  · rename_i y q
    rw [q] at e
    exact congrArg some e
  · rename_i q
    rw [q] at e
    have a : es.toList.any (·.refKey) = false := by
      rw [List.any_eq_false]
      intro y hy
      obtain ⟨z, t, hkey⟩ := hk y (Array.mem_toList_iff.mp hy)
      simp [DictEntry.refKey, hkey]
    have a' : ¬ es.toList.any (·.refKey) = true := by rw [a]; exact Bool.false_ne_true
    rw [if_neg a']
    exact congrArg some e

theorem ObjM.look {h : Heap} {x dx C : Addr} {mA : Str → Option Value} (I : ObjM h x dx C mA) : ∃ od, PySem.W.InstAt h x (PySem.W.instObj C dx) C (some od) ∧ ∀ name, PySem.W.lookIn name od = some (mA name) :=
  let ⟨od, ho, hl⟩ := lookIn_ns I.ns
  ⟨od, ⟨I.obj, rfl, rfl, ho⟩, hl⟩

section
variable {prog : Program} {w : World} {A : Around} {E : Value → Shared → Prop} {s : Shared} {K : PySem.W.Frag} {x dx C f : Addr} {mA : Str → Option Value} {name : Str} {v : Value}

end

section
variable {P : Program} {w : World} {H H' : Hp} {h h' : Heap} {a C dx : Addr} {fs fs' : List (Str × V)}
theorem ins_get (hok : HOk P w H h) (e : H a = some (.ins C dx fs)) : ∃ mA, ObjM h a dx C mA ∧ (∀ f, RelO (fs.lookup f) (mA f)) ∧ PySem.Within mA (fs.map (·.1)) ∧ fs.length ≤ 1000 ∧ H dx = some (.own a) := by
  obtain ⟨d, z, ne, ob, mA, n, r, q⟩ := (show ObjOk P w H h a (.ins C dx fs) from hok a _ e)
  exact ⟨mA, ⟨ob, n, ne⟩, r, q, z, d⟩
end

structure Cls (K : PySem.W.Frag) (C : Addr) : Prop where
  pg : PySem.W.plainGet K C Str.empty = true
  hd : PySem.W.hasDictIn K C = true
  po : PySem.W.plainOver K C = true
  sa : PySem.W.findIn K (.ref C) "__setattr__" = some (some (.builtin "object.__setattr__"))
theorem Cls.get {K : PySem.W.Frag} {C : Addr} (c : Cls K C) (f : Str) : PySem.W.plainGet K C f = true := c.pg
noncomputable def NoAttr (K : PySem.W.Frag) (C : Addr) (f : Str) : Prop := PySem.W.findIn K (.ref C) f = some none
structure Con (K : PySem.W.Frag) (C : Addr) (f : Str) (v : V) (u : Value) : Prop where
  at_ : PySem.W.findIn K (.ref C) f = some (some u)
  rel : RelV v u
  get : PySem.W.specialIn K u "__get__" = some none
  cp : PySem.W.copiedNames.contains f = false
structure Meth (K : PySem.W.Frag) (C : Addr) (m : Str) (f : Addr) : Prop where
  at_ : PySem.W.findIn K (.ref C) m = some (some (.ref f))
  fn : PySem.W.isFn K (.ref f) = true
  kp : PySem.W.keepIn K (.ref f) = true

section
variable {X : Cx} {pins : List (Addr × Obj)} {σ : St} {H : Hp} {s : Shared} {a C dx : Addr} {fs : List (Str × V)} {f : Str} {v : V} {A : Around} {E : Value → Shared → Prop}

end

section
variable {X : Cx} {o e value : Expr} {f : Str} {pos pos' tpos : Pos} {ta tv : TE}
end

section
variable {X : Cx} {pins : List (Addr × Obj)} {σ : St} {H : Hp} {s : Shared} {A : Around} {E : Value → Shared → Prop} {Q : Value → Shared → Prop} {c : Value} {b : Bool}
inductive TyOf (K : PySem.W.Frag) (H : Hp) : V → Value → Prop where
  | non : TyOf K H .non (.type "NoneType")
  | bl (x : Bool) : TyOf K H (.bl x) (.type "bool")
  | int (i : Int) : TyOf K H (.int i) (.type "int")
  | str (x : Str) : TyOf K H (.str x) (.type "str")
  | flt (x : UInt64) : TyOf K H (.flt x) (.type "float")
  | lst {a : Addr} {xs : List V} (e : H a = some (.lst xs)) : TyOf K H (.ref a) (.type "list")
  | frz {a : Addr} {o : Obj} {xs : List V} (e : H a = some (.frz o (.lst xs))) : TyOf K H (.ref a) (.type "list")
  | tup {a : Addr} {xs : List V} (e : H a = some (.tup xs)) : TyOf K H (.ref a) (.type "tuple")
  | dK {a : Addr} {kvs : List (Key × V)} (e : H a = some (.dK kvs)) : TyOf K H (.ref a) (.type "dict")
  | dT {a : Addr} {kvs : List (List Key × V)} (e : H a = some (.dT kvs)) : TyOf K H (.ref a) (.type "dict")
  | ins {a C dx : Addr} {fs : List (Str × V)} (e : H a = some (.ins C dx fs)) (cl : Cls K C) (ha : PySem.W.findIn K (.ref C) "__class__" = some (some (.builtin "object.__class__")))
      (hn : PySem.W.specialIn K (.builtin "object.__class__") "__get__" = some (some (.builtin "getset_descriptor.__get__"))) (htk : PySem.W.takesIn K (.builtin "object.__class__") = some true)
      (hm : PySem.W.mroIn K C (.type "object") = some true) : TyOf K H (.ref a) (.ref C)
theorem isinst_ok {x : V} {u t : Value} (I : Inv X pins σ H s) (rx : RelV x u) (ty : TyOf X.K H x t) (e : PySem.W.kitOne X.K t c = some b) (h : ∀ tk, Q (.bool b) { s with toks := tk }) :
    wpAny (model X.prog X.w) A (call (.builtin "isinstance") [u, c]) Q E s := by
  cases ty with
  | non => cases (show u = Value.none from rx); exact PySem.W.kia_one PySem.W.kitx_none I.kIn True.intro e (fun z => nomatch z) h
  | bl y => cases (show u = Value.bool y from rx); exact PySem.W.kia_one PySem.W.kitx_bool I.kIn True.intro e (fun z => nomatch z) h
  | int i => obtain ⟨t, q⟩ := (show ∃ t, u = Value.int i t from rx); cases q; exact PySem.W.kia_one PySem.W.kitx_int I.kIn True.intro e (fun z => nomatch z) h
  | str y => obtain ⟨t, q⟩ := (show ∃ t, u = Value.str y t from rx); cases q; exact PySem.W.kia_one PySem.W.kitx_str I.kIn True.intro e (fun z => nomatch z) h
  | flt y => obtain ⟨t, q⟩ := (show ∃ t, u = Value.float y t from rx); cases q; exact PySem.W.kia_one PySem.W.kitx_float I.kIn True.intro e (fun z => nomatch z) h
  | @lst a xs ea =>
    cases (show u = Value.ref a from rx)
    obtain ⟨_, _, n, _, h1⟩ := (show ObjOk X.prog X.w H s.heap a (.lst xs) from I.hok a _ ea)
    exact PySem.W.kia_one PySem.W.kitx_list I.kIn ⟨_, h1, rfl⟩ e (fun z => nomatch z) h
  | @frz a ob xs ea =>
    cases (show u = Value.ref a from rx)
    obtain ⟨_, _, _, n, _, h1⟩ := (show ObjOk X.prog X.w H s.heap a (.frz ob (.lst xs)) from I.hok a _ ea)
    exact PySem.W.kia_one PySem.W.kitx_list I.kIn ⟨_, h1, rfl⟩ e (fun z => nomatch z) h
  | @tup a xs ea =>
    cases (show u = Value.ref a from rx)
    obtain ⟨_, _, _, p⟩ := (show ObjOk X.prog X.w H s.heap a (.tup xs) from I.hok a _ ea)
    obtain ⟨o, h1, h2, _⟩ := p
    exact PySem.W.kia_one PySem.W.kitx_tuple I.kIn ⟨o, h1, h2⟩ e (fun z => nomatch z) h
  | @dK a kvs ea =>
    cases (show u = Value.ref a from rx)
    obtain ⟨_, _, vs, _, p⟩ := (show ObjOk X.prog X.w H s.heap a (.dK kvs) from I.hok a _ ea)
    obtain ⟨o, es, ep, h1, h2, _⟩ := p
    exact PySem.W.kia_one PySem.W.kitx_dict I.kIn ⟨o, h1, h2.1⟩ e (fun z => nomatch z) h
  | @dT a kvs ea =>
    cases (show u = Value.ref a from rx)
    obtain ⟨_, _, xs, _, o, es, ep, h1, h2, _⟩ := (show ObjOk X.prog X.w H s.heap a (.dT kvs) from I.hok a _ ea)
    exact PySem.W.kia_one PySem.W.kitx_dict I.kIn ⟨o, h1, h2.1⟩ e (fun z => nomatch z) h
  | @ins a C dx fs ea cl ha hn htk hm =>
    cases (show u = Value.ref a from rx)
    obtain ⟨mA, O, _⟩ := ins_get I.hok ea
    obtain ⟨od, J, _⟩ := O.look
    exact PySem.W.kia_one (PySem.W.kitx_own (cl.get _) cl.hd ha hn htk hm) I.kIn J e (fun z => nomatch z) h
end
end L2

namespace L2
open PySem PySem.Spec PyProof.Rows

structure Room (k : Nat) (A : Around) : Prop where
  hd : A.handled = none
  dp : A.depth + 3 * k + 5 < recursionLimit
  un : A.units + 16 * k + 200 < cLine
  gd : A.guards = some []
theorem Room.mono {j k : Nat} {A : Around} (r : Room k A) (h : j ≤ k) : Room j A := ⟨r.hd, by have := r.dp; omega, by have := r.un; omega, r.gd⟩
theorem Room.deeper {k : Nat} {A : Around} (r : Room (k + 1) A) (env : Env) : Room k (A.deeper env) :=
  ⟨r.hd, by have := r.dp; show A.depth + 1 + 3 * k + 5 < _; omega, by have := r.un; show A.units + 3 + 16 * k + 200 < _; omega, r.gd⟩
theorem Room.depth {k : Nat} {A : Around} (r : Room k A) : A.depth < recursionLimit := by have := r.dp; omega
theorem Room.units {k : Nat} {A : Around} (r : Room k A) : A.units + 64 < cLine := by have := r.un; omega
theorem Room.units0 {k : Nat} {A : Around} (r : Room k A) : A.units < cLine := by have := r.un; omega

noncomputable def tNil : TA := fun _ H Q => Q [] H
noncomputable def tCons (ta : TE) (tr : TA) : TA := fun σ H Q => ta σ H fun x H1 => tr σ H1 fun xs H2 => Q (x :: xs) H2
section
variable {X : Cx} {e : Expr} {es : List Expr} {te : TE} {t : TA} {pos : Pos}
theorem pa_nil : PA X [] tNil := fun _ _ _ _ H Q I h => Calls.spliced_nil ⟨[], H, I, .nil, h⟩
theorem pa_cons (ha : PE X e te) (hr : PA X es t) (hs : autoParam (starEach (e :: es) X.env = (false, eval e X.env) :: starEach es X.env) L2.auto4._auto_1) : PA X (e :: es) (tCons te t) := by
  intro pos pins s σ H Q I h
  rw [hs]
  show wpAny _ _ (spliced ((false, eval e X.env) :: backTo pos (starEach es X.env))) _ _ s
  refine Calls.spliced_cons (thn (ha pins s σ H _ I h) fun u s1 qq0 => ?_)
  obtain ⟨x, H1, I1, r1, q1⟩ := qq0
  exact thn (hr pos pins s1 σ H1 _ I1 q1) fun us s2 ⟨xs, H2, I2, r2, q2⟩ => ⟨x :: xs, H2, I2, .cons r1 r2, q2⟩

noncomputable def tTup (t : TA) : TE := fun σ H Q => t σ H fun xs H1 => xs.length ≤ sizeLine ∧ ∀ p, H1 p = none → Q (.ref p) (upd H1 p (.tup xs))
noncomputable def tLst (t : TA) : TE := fun σ H Q => t σ H fun xs H1 => xs.length ≤ sizeLine ∧ ∀ p, H1 p = none → Q (.ref p) (upd H1 p (.lst xs))
theorem pe_tup {x1} (h : PA X es t) : PE X (.Tuple es x1 pos) (tTup t) := by
  intro pins s σ H Q I hq
  refine wpAny_Tuple_spliced (thn (h pos pins s σ H _ I hq) fun us s1 ⟨xs, H1, I1, r, z, q⟩ => ⟨by rw [← r.length]; exact z, ?_⟩)
  have hf : H1 s1.heap.objs.size = none := I1.hok.fresh (Nat.le_refl _)
  refine ⟨.ref s1.heap.objs.size, upd H1 s1.heap.objs.size (.tup xs), I1.laid (t' := s1.toks) (fun b u e => Heap.get?_push_of_some _ e) (Nat.le_refl _) ?_, rfl, q _ hf⟩
  exact ⟨z, us, r, ⟨_, Heap.get?_push_size _ rfl, rfl, _, rfl⟩⟩
theorem pe_lst (h : PA X es t) : PE X (.List es pos) (tLst t) := by
  intro pins s σ H Q I hq
  refine wpAny_List_spliced (thn (h pos pins s σ H _ I hq) fun us s1 ⟨xs, H1, I1, r, z, q⟩ => ⟨by rw [← r.length]; exact z, ?_⟩)
  have hf : H1 s1.heap.objs.size = none := I1.hok.fresh (Nat.le_refl _)
  refine ⟨.ref s1.heap.objs.size, upd H1 s1.heap.objs.size (.lst xs), I1.laid (t' := s1.toks) (fun b u e => Heap.get?_push_of_some _ e) (Nat.le_refl _) ?_, rfl, q _ hf⟩
  exact ⟨z, us, 0, r, Heap.get?_push_size _ rfl⟩
end

noncomputable abbrev Sp := List V → Hp → VK → XK → Prop
noncomputable abbrev CXT := List Env → Hp → Shared → XK → Value → Shared → Prop

structure Env0 (P : Program) (w : World) (K : PySem.W.Frag) (mg : Str → Option Value) (base : Heap) (A : Around) (outer : List Env) (s : Shared) (H : Hp) : Prop where
  frames : A.frames = some outer
  mod : Mod K mg base
  bs : ∀ b o, base.get? b = some o → s.heap.get? b = some o ∧ H b = none
  bsz : base.objs.size ≤ s.heap.objs.size
  funs : s.heap.FunFrames base outer
  frf : ∀ b ∈ frs outer, H b = none
  hok : HOk P w H s.heap
  bare : AllBare s.gens
noncomputable def CE (outer : List Env) (P : Program) (w : World) (H : Hp) (s : Shared) (Q : VK) (u : Value) (s' : Shared) : Prop :=
  ∃ v H', s'.os = s.os ∧ AllBare s'.gens ∧ Un (frs outer) [] H H' s.heap s'.heap ∧ HOk P w H' s'.heap ∧ RelV v u ∧ Q v H'
noncomputable def CR (CX : CXT) (outer : List Env) (P : Program) (w : World) (H : Hp) (s : Shared) (Q : VK) (E : XK) (r : Result) (s' : Shared) : Prop :=
  match r with
  | .ok (.ret u) => CE outer P w H s Q u s'
  | .ok _ => False
  | .error e => CX outer H s E e s'
structure FnOk (P : Program) (w : World) (K : PySem.W.Frag) (mg : Str → Option Value) (base : Heap) (CX : CXT) (k : Nat) (f : Addr) (fd : FuncData) (ps : List Str) (sp : Sp) : Prop where
  len : ∀ vs H Q E, sp vs H Q E → vs.length = ps.length
  run : ∀ (A : Around) (outer : List Env) (s : Shared) (H : Hp) (args : Args) (us : List Value) (vs : List V) (Q : VK) (E : XK), Room k A → Env0 P w K mg base A outer s H → BindsTo s fd args (ps.zip us) → Vals vs us → sp vs H Q E →
    codeAny (model P w) A (.call (.ref f) args) (CR CX outer P w H s Q E) s
section
variable {X : Cx} {pins : List (Addr × Obj)} {σ : St} {H : Hp} {s s' : Shared}
theorem Inv.env0 (I : Inv X pins σ H s) : Env0 X.prog X.w X.K X.mg X.base X.A X.stack s H :=
  ⟨I.ok.frames, I.ok.mod, I.bs, Nat.le_trans I.ok.bsz I.sz, I.stack, I.stkFree, I.hok, I.bare⟩
theorem Inv.after {Q : VK} {u : Value} (I : Inv X pins σ H s) (h : CE X.stack X.prog X.w H s Q u s') : EP X pins σ Q u s' := by
  obtain ⟨v, H', os, bare, un, hok, r, q⟩ := h
  obtain ⟨hh, g, d, t, os'⟩ := s'
  obtain rfl : os' = s.os := os
  exact ⟨v, H', I.call (h' := hh) (g' := g) (d' := d) (t' := t) (ch := []) un hok bare (fun b z => absurd z (by simp)), r, q⟩
end

noncomputable def tCall (sp : Sp) (dvs : List V) (E : XK) (t : TA) : TE := fun σ H Q => t σ H fun vs H1 => sp (vs ++ dvs) H1 Q E
noncomputable def Binds (K : PySem.W.Frag) (fd : FuncData) (ps : List Str) (ds : List Value) : Prop :=
  ∀ (s : Shared) (us : List Value), K.In s.heap → (us ++ ds).length = ps.length → BindsTo s fd ⟨us, []⟩ (ps.zip (us ++ ds))
theorem Binds.all {K : PySem.W.Frag} {fd : FuncData} {ps : List Str} (h : ∀ us : List Value, us.length = ps.length → bindArgs fd ⟨us, []⟩ = pure (ps.zip us)) : Binds K fd ps [] := fun s us _ hl => by
  rw [List.append_nil] at hl ⊢
  exact .of_eq (h us hl)

noncomputable def Passes (CX : CXT) (X : Cx) (E : XK) : Prop := ∀ (pins : List (Addr × Obj)) (σ : St) (H : Hp) (s : Shared) (e : Value) (s' : Shared), Inv X pins σ H s → CX X.stack H s E e s' → X.xe e s'

section
variable {X : Cx} {CX : CXT} {k : Nat} {f C : Addr} {fd : FuncData} {ps : List Str} {sp : Sp} {dvs : List V} {ds : List Value} {E : XK} {x m : Str} {p pos apos : Pos} {e o : Expr} {es : List Expr} {ta : TE} {t : TA}

theorem run_fn {pins : List (Addr × Obj)} {σ : St} {H : Hp} {s : Shared} {Q : VK} {us : List Value} {vs : List V} (F : FnOk X.prog X.w X.K X.mg X.base CX k f fd ps sp) (hr : Room k X.A) (hb : Binds X.K fd ps ds) (hd : Vals dvs ds) (hx : Passes CX X E)
    (I : Inv X pins σ H s) (r : Vals vs us) (h : sp (vs ++ dvs) H Q E) : wpAny (model X.prog X.w) X.A (call (.ref f) us) (EP X pins σ Q) X.xe s := by
  have r2 : Vals (vs ++ dvs) (us ++ ds) := r.append hd
  have hl : (us ++ ds).length = ps.length := by rw [← r2.length]; exact F.len _ _ _ _ h
  refine wpAny_call (codeAny_mono (F.run X.A X.stack s H ⟨us, []⟩ (us ++ ds) (vs ++ dvs) Q E hr I.env0 (hb s us I.kIn hl) r2 h) fun r s' hq => ?_)
  cases r with
  | error e => exact hx pins σ H s e s' I hq
  | ok fl =>
    cases fl with
    | ret u => exact I.after hq
    | next => exact False.elim hq
    | brk => exact False.elim hq
    | cont => exact False.elim hq

theorem pe_call (F : FnOk X.prog X.w X.K X.mg X.base CX k f fd ps sp) (hr : Room k X.A) (hg : Gl X x) (hm : X.mg x = some (.ref f)) (hk : PySem.W.keepIn X.K (.ref f) = true) (hb : Binds X.K fd ps ds) (hd : Vals dvs ds) (hx : Passes CX X E)
    (ha : PA X (e :: es) t) (hdb : autoParam ((x == ("__debug__" : Str)) = false) L2.auto2._auto_1) (he : autoParam (starEach (e :: es) X.env = (false, eval e X.env) :: starEach es X.env) L2.auto4._auto_1) (hpl : autoParam ((backTo pos (starEach es X.env)).any (·.1) = false) L2.auto4._auto_1) :
    PE X (.Call (.Name x p) (e :: es) [] pos) (tCall sp dvs E t) := by
  intro pins s σ H Q I h
  refine wpAny_Call_Name_kw (ld_glob I hg hm ?_ hdb)
  refine PySem.W.callWith_K (h₀ := X.base) I.ok.mod.kin hk (thn (ha pos pins s σ H _ I h) fun us s1 ⟨vs, H1, I1, r, q⟩ => ⟨I1.kIn, ?_⟩) he hpl
  exact run_fn F hr hb hd hx I1 r q
structure Mk (K : PySem.W.Frag) (C f : Addr) : Prop where
  makes : PySem.W.makesIn K C = true
  init : PySem.W.findIn K (.ref C) "__init__" = some (some (.ref f))
  fn : PySem.W.isFn K (.ref f) = true
  kp : PySem.W.keepIn K (.ref C) = true

end

section
variable {X : Cx} {CX : CXT} {k : Nat} {f C : Addr} {fd : FuncData} {ps ks : List Str} {sp : Sp} {E : XK} {x m : Str} {p pos apos kpos : Pos} {e o : Expr} {es : List Expr} {kws : List Keyword} {te ta : TE} {t tk : TA} {nm : Option Str}
structure KBinds (K : PySem.W.Frag) (fd : FuncData) (ps ks : List Str) (g : List Value → List Value → List Value) (gV : List V → List V → List V) : Prop where
  to : ∀ (s : Shared) (us ws : List Value), K.In s.heap → (g us ws).length = ps.length → BindsTo s fd ⟨us, ks.zip ws⟩ (ps.zip (g us ws))
  rel : ∀ {vs : List V} {us : List Value} {zs : List V} {ws : List Value}, Vals vs us → Vals zs ws → Vals (gV vs zs) (g us ws)
variable {g : List Value → List Value → List Value} {gV : List V → List V → List V}
end

structure FnScope (N P : List Str) (sc : Scope) : Prop where
  kind : sc.kind = .function
  co : sc.isCoroutine = false
  gen : sc.isGenerator = false
  nd : N.Nodup
  pre : N.take P.length = P
  par : ∀ x ∈ P, sc.names.lookup x = some .local ∨ sc.names.lookup x = some .cell
  nofree : ∀ y ∈ sc.names, y.2 ≠ .free

theorem bindL_out {kindOf : Str → Option NameKind} {x : Str} : ∀ {binds : List (Str × Value)} {m : Str → Option Value}, (∀ v, (x, v) ∉ binds) → bindL kindOf binds m x = m x
  | [], _, _ => rfl
  | (n, v) :: r, m, h => by
    unfold bindL
    rw [bindL_out fun w hw => h w (List.mem_cons_of_mem _ hw)]
    split
    · have : x ≠ n := by rintro rfl; exact h v List.mem_cons_self
      simp [this]
    · rfl
theorem bindC_out {kindOf : Str → Option NameKind} {x : Str} : ∀ {binds : List (Str × Value)} {m : Str → Option Value}, (∀ v, (x, v) ∉ binds) → bindC kindOf binds m x = m x
  | [], _, _ => rfl
  | (n, v) :: r, m, h => by
    unfold bindC
    rw [bindC_out fun w hw => h w (List.mem_cons_of_mem _ hw)]
    split
    · rfl
    · have : x ≠ n := by rintro rfl; exact h v List.mem_cons_self
      simp [this]
theorem bindL_get {kindOf : Str → Option NameKind} {x : Str} {v : Value} : ∀ {P : List Str} {vs : List Value} {i : Nat} {m : Str → Option Value}, P.Nodup → P[i]? = some x → vs[i]? = some v → kindOf x = some .local →
    bindL kindOf (P.zip vs) m x = some v
  | [], _, _, _, _, h, _, _ => by simp at h
  | _ :: _, [], _, _, _, _, h, _ => by simp at h
  | p :: P, w :: vs, 0, m, nd, h1, h2, hk => by
    simp at h1 h2; subst h1; subst h2
    show bindL kindOf ((p, w) :: P.zip vs) m p = _
    unfold bindL
    rw [bindL_out fun v hv => (List.nodup_cons.mp nd).1 (List.of_mem_zip hv).1, if_pos hk]
    simp
  | p :: P, w :: vs, i + 1, m, nd, h1, h2, hk => by
    show bindL kindOf ((p, w) :: P.zip vs) m x = _
    unfold bindL
    exact bindL_get (i := i) (List.nodup_cons.mp nd).2 (by simpa using h1) (by simpa using h2) hk
theorem bindC_get {kindOf : Str → Option NameKind} {x : Str} {v : Value} : ∀ {P : List Str} {vs : List Value} {i : Nat} {m : Str → Option Value}, P.Nodup → P[i]? = some x → vs[i]? = some v → kindOf x ≠ some .local →
    bindC kindOf (P.zip vs) m x = some v
  | [], _, _, _, _, h, _, _ => by simp at h
  | _ :: _, [], _, _, _, _, h, _ => by simp at h
  | p :: P, w :: vs, 0, m, nd, h1, h2, hk => by
    simp at h1 h2; subst h1; subst h2
    show bindC kindOf ((p, w) :: P.zip vs) m p = _
    unfold bindC
    rw [bindC_out fun v hv => (List.nodup_cons.mp nd).1 (List.of_mem_zip hv).1, if_neg hk]
    simp
  | p :: P, w :: vs, i + 1, m, nd, h1, h2, hk => by
    show bindC kindOf ((p, w) :: P.zip vs) m x = _
    unfold bindC
    exact bindC_get (i := i) (List.nodup_cons.mp nd).2 (by simpa using h1) (by simpa using h2) hk

noncomputable def start (N : List Str) (vs : List V) : St := vs.map some ++ List.replicate (N.length - vs.length) none

noncomputable def cxOf (CX : CXT) (P : Program) (w : World) (K : PySem.W.Frag) (mg : Str → Option Value) (base : Heap) (N : List Str) (qual : Str) (scope : Scope) (f : Addr) (cd : Value) (A : Around) (outer : List Env) (s : Shared) (H : Hp) (E : XK) : Cx where
  prog := P
  w := w
  K := K
  mg := mg
  base := base
  A := A.deeper (envOfC qual scope s.heap.objs.size f cd)
  N := N
  s₀ := s
  H₀ := H
  env := envOfC qual scope s.heap.objs.size f cd
  outer := outer
  stack := envOfC qual scope s.heap.objs.size f cd :: outer
  ex := []
  calm := true
  fn := fun _ => true
  pn := []
  xe := fun e s' => wpAny (model P w) (A.deeper (envOfC qual scope s.heap.objs.size f cd)) (leaving (envOfC qual scope s.heap.objs.size f cd) e) (fun _ s'' => CX outer H s E e s'') (fun e' s'' => CX outer H s E e' s'') s'

theorem cell_has {sc : Scope} {n : Nat} {x : Str} (h : sc.names.lookup x = some .cell) : ∃ c, (cellsFrom n sc.names []).lookup x = some c := by
  have q := PySem.W.cellsFrom_some sc.names n [] (.inl h)
  exact Option.isSome_iff_exists.mp q

theorem inv_start {CX : CXT} {P : Program} {w : World} {K : PySem.W.Frag} {mg : Str → Option Value} {base : Heap} {N ps : List Str} {qual : Str} {scope : Scope} {f : Addr} {cd : Value} {A : Around} {outer : List Env} {s s1 : Shared} {H : Hp} {E : XK} {us : List Value} {vs : List V}
    (S : FnScope N ps scope) (hd : A.handled = none) (e0 : Env0 P w K mg base A outer s H) (hl : vs.length = ps.length) (r : Vals vs us)
    (x : InCallC s s.heap.objs.size (bindL (envOfC qual scope s.heap.objs.size f cd).kindOf (ps.zip us) fun _ => none) (cellsFrom (s.heap.objs.size + 1) scope.names []) (bindC (envOfC qual scope s.heap.objs.size f cd).kindOf (ps.zip us) fun _ => none) s1) :
    Inv (cxOf CX P w K mg base N qual scope f cd A outer s H E) [] (start N vs) H s1 := by
  have hpl : ps.length ≤ N.length := by have := congrArg List.length S.pre; rw [List.length_take] at this; omega
  obtain ⟨h1, tk, rfl, hk⟩ := x.done
  have noA : ∀ b : Addr, b ∉ (cxOf CX P w K mg base N qual scope f cd A outer s H E).ex := fun b z => absurd (show b ∈ ([] : List Addr) from z) (by simp)
  refine ⟨⟨e0.mod, S.kind, rfl, rfl, Nat.le_refl _, fun y z c h1 h2 => ?_, fun y hy => ?_, fun y c _ h => ?_, fun _ => hd, Around.frames_deeper e0.frames, .inr ⟨rfl, rfl⟩, fun b z => absurd z (noA b), e0.bs, e0.bsz, fun b _ _ => noA b, fun b z => absurd z (noA b), e0.funs, e0.frf⟩,
    rfl, e0.bare, Un.kept hk, ⟨_, x.toInCall.ns, fun i y v h1 h2 h3 => ?_⟩, fun y c h => ⟨_, x.cell y c h⟩, e0.hok.fresh (Nat.le_refl _), fun y c h => ?_, fun p hp => absurd (show p ∈ ([] : List (Addr × Obj)) from hp) (by simp), e0.hok.kept hk, ?_⟩
  · exact name_of_addr x.apart (PySem.mem_of_lookup h1) (PySem.mem_of_lookup h2)
  · have hy : scope.names.lookup y = some .cell ∨ scope.names.lookup y = some .free := hy
    rcases hy with hy | hy
    · exact cell_has hy
    · exact absurd rfl (S.nofree _ (PySem.mem_of_lookup hy))
  · exact Nat.le_of_lt (x.above y c (PySem.mem_of_lookup h))
  · have hi : i < vs.length := by
      unfold start at h2
      by_cases hi : i < vs.length
      · exact hi
      · rw [List.getElem?_append_right (by simpa using hi)] at h2
        rw [List.getElem?_replicate] at h2
        split at h2 <;> cases h2
    have ha : vs[i]? = some v := by
      unfold start at h2
      rw [List.getElem?_append_left (by simpa using hi), List.getElem?_map] at h2
      cases e : vs[i]? with
      | none => rw [e] at h2; cases h2
      | some a => rw [e] at h2; cases h2; rfl
    obtain ⟨u, hu, rv⟩ := r.get ha
    have hp : ps[i]? = some y := by
      rw [← S.pre, List.getElem?_take_of_lt (by omega)]; exact h1
    have ndP : ps.Nodup := by rw [← S.pre]; exact S.nd.sublist (List.take_sublist _ _)
    refine ⟨u, rv, ?_⟩
    rcases S.par y (List.mem_of_getElem? hp) with k | k
    · exact .inl ⟨k, bindL_get ndP hp hu k⟩
    · obtain ⟨c, e⟩ := cell_has (n := s.heap.objs.size + 1) k
      refine .inr ⟨.inl k, c, e, ?_⟩
      have q := x.cell y c e
      rw [bindC_get ndP hp hu (by show scope.names.lookup y ≠ _; rw [k]; decide)] at q
      exact q
  · exact e0.hok.fresh (Nat.le_of_lt (x.above y c (PySem.mem_of_lookup h)))
  · unfold start
    show _ = N.length
    rw [List.length_append, List.length_map, List.length_replicate]
    omega

theorem fn_of {CX : CXT} {P : Program} {w : World} {K : PySem.W.Frag} {mg : Str → Option Value} {base : Heap} {k : Nat} {f : Addr} {name qual : Str} {params : Arguments} {body : List Stmt} {scope : Scope} {dV kV doc pm cdv ct oc : Value} {an od : Option Addr}
    {osl : Array (Option Value)} {N ps : List Str} {sp : Sp} (lk : K.lookup f = some ⟨oc, od, .func (PySem.W.fnOf name qual params body scope dV kV doc pm an cdv ct), osl⟩) (hcd : PySem.W.codeIn K cdv qual = true) (S : FnScope N ps scope)
    (len : ∀ vs H Q E, sp vs H Q E → vs.length = ps.length)
    (hbody : ∀ (A : Around) (outer : List Env) (s : Shared) (H : Hp) (vs : List V) (Q : VK) (E : XK), Room k (A.deeper (envOfC qual scope s.heap.objs.size f cdv)) → sp vs H Q E →
      ∃ t, PSs (cxOf CX P w K mg base N qual scope f cdv A outer s H E) body t ∧ t { nx := fun _ H' => Q .non H', rt := Q } (start N vs) H) :
    FnOk P w K mg base CX (k + 1) f (PySem.W.fnOf name qual params body scope dV kV doc pm an cdv ct) ps sp := by
  refine ⟨len, fun A outer s H args us vs Q E hr e0 hb r hsp => ?_⟩
  have hl := len _ _ _ _ hsp
  have KX : K.In s.heap := e0.mod.kin.keeps fun b o e => (e0.bs b o e).1
  have lim : s.heap.NoLimit := e0.mod.nolimit.keeps fun b o e => (e0.bs b o e).1
  have hkind : ∀ y ∈ ps.zip us, scope.names.lookup y.1 = some .local ∨ (scope.names.lookup y.1 = some .cell ∧ ((cellsFrom (s.heap.objs.size + 1) scope.names []).lookup y.1).isSome = true) := fun ⟨n, v⟩ hy => by
    rcases S.par n (List.of_mem_zip hy).1 with q | q
    · exact .inl q
    · exact .inr ⟨q, PySem.W.cellsFrom_some _ _ _ (.inl q)⟩
  refine codeAny_call_function hr.depth (KX _ _ lk) rfl S.co S.gen rfl (PySem.W.codeRec_of KX hcd) (hb _ _ _ _ ?_)
  refine wpAny_newFunctionEnv_cells S.kind hkind fun env he s1 x => ?_
  subst he
  refine ⟨lim.keeps x.toInCall.keep, codeAny_func ?_⟩
  obtain ⟨t, ht, hq⟩ := hbody A outer s H vs Q E (hr.deeper _) hsp
  have I : Inv (cxOf CX P w K mg base N qual scope f cdv A outer s H E) [] (start N vs) H s1 := inv_start S hr.hd e0 hl r x
  refine wpAny_mono (ht [] s1 (start N vs) H _ I hq) (fun fl s' hs => ?_) fun e s' hs => hs
  have fin : ∀ {σ' : St} {H' : Hp} {v : V} {u : Value}, Inv (cxOf CX P w K mg base N qual scope f cdv A outer s H E) [] σ' H' s' → RelV v u → Q v H' → CE outer P w H s Q u s' :=
    fun {σ' H' v u} J rv q => ⟨v, H', J.os, J.bare, J.base, J.hok, rv, q⟩
  cases fl with
  | ret u =>
    obtain ⟨v, σ', H', J, rv, q⟩ := hs
    exact fin J rv q
  | next =>
    obtain ⟨σ', H', J, q⟩ := hs
    exact fin (v := V.non) (u := Value.none) J rfl q
  | brk =>
    obtain ⟨_, _, _, q⟩ := hs
    exact False.elim q
  | cont =>
    obtain ⟨_, _, _, q⟩ := hs
    exact False.elim q
end L2

namespace L2
open PySem PySem.Spec PyProof.Rows
section
variable {X : Cx} {x : Str} {p pos : Pos} {e : Expr} {es : List Expr} {t : TA} {id T : String} {r : List V → Hp → VK → Prop}

noncomputable def tCB (r : List V → Hp → VK → Prop) (t : TA) : TE := fun σ H Q => t σ H fun vs H1 => r vs H1 Q
theorem pe_callB (hc : CallR X (.builtin id) r) (hg : Gl X x) (hm : X.mg x = none) (hv : bootBuiltins x = some (.builtin id)) (ha : PA X (e :: es) t) (hn : autoParam (x ≠ "__name__") L2.auto2._auto_1) (hdb : autoParam ((x == ("__debug__" : Str)) = false) L2.auto2._auto_1)
    (he : autoParam (starEach (e :: es) X.env = (false, eval e X.env) :: starEach es X.env) L2.auto4._auto_1) (hpl : autoParam ((backTo pos (starEach es X.env)).any (·.1) = false) L2.auto4._auto_1) : PE X (.Call (.Name x p) (e :: es) [] pos) (tCB r t) := by
  intro pins s σ H Q I h
  refine wpAny_Call_Name_kw (ld_blt I hg hm hv ?_ hn hdb)
  exact PyProof.Rows.callWith_builtin1 (thn (ha pos pins s σ H _ I h) fun us s1 ⟨vs, H1, I1, r1, q1⟩ => hc pins s1 σ H1 vs us Q I1 r1 q1) he hpl
theorem pe_callTy (hc : CallR X (.type T) r) (hg : Gl X x) (hm : X.mg x = none) (hv : bootBuiltins x = some (.type T)) (ha : PA X (e :: es) t) (hn : autoParam (x ≠ "__name__") L2.auto2._auto_1) (hdb : autoParam ((x == ("__debug__" : Str)) = false) L2.auto2._auto_1)
    (he : autoParam (starEach (e :: es) X.env = (false, eval e X.env) :: starEach es X.env) L2.auto4._auto_1) (hpl : autoParam ((backTo pos (starEach es X.env)).any (·.1) = false) L2.auto4._auto_1) : PE X (.Call (.Name x p) (e :: es) [] pos) (tCB r t) := by
  intro pins s σ H Q I h
  refine wpAny_Call_Name_kw (ld_blt I hg hm hv ?_ hn hdb)
  exact PyProof.Rows.callWith_type1 (thn (ha pos pins s σ H _ I h) fun us s1 ⟨vs, H1, I1, r1, q1⟩ => hc pins s1 σ H1 vs us Q I1 r1 q1) he hpl
end
end L2

namespace HT
open PySem PyProof.Rows

noncomputable def lexLt : List Int → List Int → Bool
  | [], [] => false
  | [], _ :: _ => true
  | _ :: _, [] => false
  | x :: xs, y :: ys => if x = y then lexLt xs ys else decide (x < y)
theorem lexLt_cons (x y : Int) (xs ys : List Int) : lexLt (x :: xs) (y :: ys) = if x = y then lexLt xs ys else decide (x < y) := rfl
section
open PySem.SeqAt
open PySem.AutoSeq1 (wpAny_loadPart')
open PySem.MeetsSeq PySem.MeetsSeq2 PySem.MeetsSeq3

end

section
variable {prog : Program} {w : World} {A : Around} {E : Value → Shared → Prop} {s : Shared}

noncomputable def sIx (n d : Nat) : Option Int → Nat
  | none => d
  | some v => if v < 0 then (v + (n : Int)).toNat else min v.toNat n
theorem sIx_none (n d : Nat) : sIx n d none = d := rfl
theorem sIx_nat (n d k : Nat) : sIx n d (some (k : Int)) = min k n := by
  show (if (k : Int) < 0 then ((k : Int) + (n : Int)).toNat else min (k : Int).toNat n) = min k n
  rw [if_neg (by omega), Int.toNat_natCast]
theorem sIx_le (n d : Nat) (hd : d ≤ n) (o : Option Int) : sIx n d o ≤ n := by
  cases o with
  | none => exact hd
  | some v =>
    show (if v < 0 then (v + (n : Int)).toNat else min v.toNat n) ≤ n
    by_cases hv : v < 0
    · rw [if_pos hv]; omega
    · rw [if_neg hv]; exact Nat.min_le_right _ _
theorem clip_eq (v : Int) (n d : Nat) : (if v < 0 then max (v + (n : Int)) 0 else min v (n : Int)) = ((sIx n d (some v) : Nat) : Int) := by
  show (if v < 0 then max (v + (n : Int)) 0 else min v (n : Int)) = (((if v < 0 then (v + (n : Int)).toNat else min v.toNat n) : Nat) : Int)
  by_cases hv : v < 0
  · simp only [if_pos hv]; omega
  · simp only [if_neg hv]; omega
theorem adjust_gen (lo hi : Option Int) (n : Nat) : Builtin.Slice.sliceAdjust lo hi 1 (n : Int) = (((sIx n 0 lo : Nat) : Int), ((sIx n n hi : Nat) : Int)) := by
  have h1 : ¬ ((1 : Int) < 0) := by omega
  unfold Builtin.Slice.sliceAdjust
  simp only [h1, if_false]
  refine Prod.ext ?_ ?_
  · cases lo with
    | none => rfl
    | some v => exact clip_eq v n 0
  · cases hi with
    | none => rfl
    | some v => exact clip_eq v n n
theorem places_gen (i j : Nat) : Builtin.Slice.slicePlaces (i : Int) (j : Int) 1 = j - i := by
  unfold Builtin.Slice.slicePlaces
  have h1 : (1 : Int) > 0 := by omega
  simp only [h1, if_true, Int.ediv_one]
  split <;> omega
theorem slicePart_ {v : Value} {o : Option Int} {Q : Option Int → Shared → Prop} (p : IsPart v o) (h : Q o s) : wpAny (model prog w) A (Builtin.Slice.slicePartIndex v) Q E s := by
  cases p with
  | none => exact slicePart_none h
  | int i t => exact slicePart_int h
theorem sliceApplied_gen {sl : Addr} {vl vu : Value} {lo hi : Option Int} {n : Nat} {Q : Int × Int × Nat → Shared → Prop} (hs : s.heap.IsSliceOf sl vl vu .none) (pl : IsPart vl lo) (pu : IsPart vu hi)
    (h : Q (((sIx n 0 lo : Nat) : Int), 1, sIx n n hi - sIx n 0 lo) s) : wpAny (model prog w) A (Builtin.Slice.sliceApplied (.ref sl) (pure (n : Int))) Q E s := by
  obtain ⟨os, hos, hcs, hds⟩ := id hs
  unfold Builtin.Slice.sliceApplied Builtin.Slice.sliceFields
  refine wpAny_bind (wpAny_bind (wpAny_field hos hds (x := vl) rfl (wpAny_bind (wpAny_field hos hds (x := vu) rfl (wpAny_bind (wpAny_field hos hds (x := .none) rfl (wpAny_pure ?_)))))))
  refine wpAny_bind (slicePart_none ?_)
  show wpAny _ _ (if ((1 : Int) == 0) = true then _ else _) _ _ s
  rw [if_neg (by decide)]
  refine wpAny_bind (slicePart_ pl (wpAny_bind (slicePart_ pu (wpAny_bind (wpAny_pure ?_)))))
  show wpAny _ _ (match Builtin.Slice.sliceAdjust lo hi 1 (n : Int) with | (lo, hi) => pure (lo, (1 : Int), Builtin.Slice.slicePlaces lo hi 1)) _ _ s
  rw [adjust_gen lo hi n]
  show wpAny _ _ (pure (((sIx n 0 lo : Nat) : Int), (1 : Int), Builtin.Slice.slicePlaces ((sIx n 0 lo : Nat) : Int) ((sIx n n hi : Nat) : Int) 1)) _ _ s
  rw [places_gen]
  exact wpAny_pure h
theorem pick_gen (xs : Array Value) (i k : Nat) : ((List.range k).filterMap fun (m : Nat) => xs[((i : Int) + (m : Int) * 1).toNat]?).toArray = ((xs.toList.drop i).take k).toArray := by
  have e : (fun (m : Nat) => xs[((i : Int) + (m : Int) * 1).toNat]?) = fun m => xs[i + m]? := by
    funext m
    have : ((i : Int) + (m : Int) * 1).toNat = i + m := by omega
    rw [this]
  rw [e]
  have := pick_run xs i k
  rw [List.filterMap_map] at this
  have e2 : ((fun x => xs[x]?) ∘ fun x => i + x) = fun m => xs[i + m]? := rfl
  rw [e2] at this
  rw [this]

theorem getItem_tuple_cut {t sl : Addr} {items : Array Value} {vl vu : Value} {lo hi : Option Int} {Q : Value → Shared → Prop} (ht : IsTup s.heap t items) (hs : s.heap.IsSliceOf sl vl vu .none) (pl : IsPart vl lo) (pu : IsPart vu hi)
    (hw : ¬ (sIx items.size 0 lo = 0 ∧ sIx items.size items.size hi = items.size))
    (h : Q (.ref s.heap.objs.size) { s with heap := s.heap.push { cls := .type "tuple", data := .seq ((items.toList.drop (sIx items.size 0 lo)).take (sIx items.size items.size hi - sIx items.size 0 lo)).toArray } })
    (hsz : items.size ≤ sizeLine) : wpAny (model prog w) A (getItem (.ref t) (.ref sl)) Q E s := by
  have htake : sizeOk (.seq ((items.toList.drop (sIx items.size 0 lo)).take (sIx items.size items.size hi - sIx items.size 0 lo)).toArray) := by
    show ((items.toList.drop (sIx items.size 0 lo)).take (sIx items.size items.size hi - sIx items.size 0 lo)).toArray.size ≤ sizeLine
    rw [List.size_toArray, List.length_take, List.length_drop, Array.length_toList]
    omega
  have hj : sIx items.size items.size hi ≤ items.size := sIx_le _ _ (Nat.le_refl _) hi
  obtain ⟨os, hos, hcs, hds⟩ := id hs
  have hTs : s.TypeIs (.ref sl) "slice" := ⟨os, hos, hcs⟩
  unfold getItem
  try with_reducible refine wpAny_holding ?_
  first | refine wpAny_bind (wpAny_pure ?_) | skip
  refine wpAny_bind (wpAny_sequenceKey ht.typeIs (by decide) ?_)
  refine wpAny_bind (wpAny_callSpecial?_slot (name := Str.ofString "__getitem__") ht.typeIs PyProof.Rows.slot_tuple_getitem
    (wpAny_call_entry PyProof.Rows.slot_tuple_getitem ht.typeIs entry_tuple_getitem ?_ (args_tuple_getitem _ _)))
  show wpAny _ _ (Builtin.Tuple.tupleItemsOf (.ref t) >>= _) _ _ s
  refine wpAny_bind (tupleItemsOf_ ht ?_)
  refine wpAny_bind (wpAny_typeOf hTs ?_)
  rw [if_pos (by decide)]
  refine wpAny_bind (sliceApplied_gen hs pl pu ?_)
  have hno : ¬ ((((sIx items.size 0 lo : Nat) : Int) == 0 && (1 : Int) == 1 && (sIx items.size items.size hi - sIx items.size 0 lo) == items.size) = true) := by
    intro q
    rw [Bool.and_eq_true, Bool.and_eq_true] at q
    have q1 : ((sIx items.size 0 lo : Nat) : Int) = 0 := eq_of_beq q.1.1
    have q2 : sIx items.size items.size hi - sIx items.size 0 lo = items.size := eq_of_beq q.2
    exact hw ⟨by omega, by omega⟩
  show wpAny _ _ (if (((sIx items.size 0 lo : Nat) : Int) == 0 && (1 : Int) == 1 && (sIx items.size items.size hi - sIx items.size 0 lo) == items.size) = true then _ else _) _ _ s
  rw [if_neg hno, pick_gen]
  first
    | exact wpAny_bind (m := Builtin.Tuple.tupleExact _) (wpAny_newObj_type (wpAny_pure ⟨_, rfl, wpAny_pure h⟩) htake)
    | exact wpAny_bind (m := Builtin.Tuple.tupleExact _) (wpAny_newObj_type (wpAny_bind (wpAny_pure (wpAny_pure ⟨_, rfl, wpAny_pure h⟩))) htake)
    | exact wpAny_bind (wpAny_bind (m := Builtin.Tuple.tupleExact _) (wpAny_newObj_type (wpAny_pure (wpAny_pure ⟨_, rfl, wpAny_pure h⟩)) htake))
    | exact wpAny_bind (wpAny_bind (m := Builtin.Tuple.tupleExact _) (wpAny_newObj_type (wpAny_pure ⟨_, rfl, wpAny_pure h⟩) htake))
end
end HT

namespace L2
open PySem PySem.Spec PyProof.Rows

noncomputable abbrev TO := St → Hp → (Option Int → Hp → Prop) → Prop
noncomputable def PO (X : Cx) (e : Option Expr) (t : TO) : Prop :=
  ∀ (pins : List (Addr × Obj)) (s : Shared) (σ : St) (H : Hp) (Q : Option Int → Hp → Prop), Inv X pins σ H s → t σ H Q →
    wpAny (model X.prog X.w) X.A (evalPart e X.env) (fun u s' => ∃ o H', Inv X pins σ H' s' ∧ IsPart u o ∧ Q o H') X.xe s
noncomputable def tNoPart : TO := fun _ H Q => Q none H
noncomputable def tPart (t : TE) : TO := fun σ H Q => t σ H fun x H1 => ∃ i, x = .int i ∧ Q (some i) H1

theorem intsAre_of {ns : List Int} : ∀ {us : List Value}, Vals (ns.map V.int) us → IntsAre us ns := by
  induction ns with
  | nil => intro us r; rw [List.map_nil] at r; cases r; exact .nil
  | cons n ns ih =>
    intro us r
    rw [List.map_cons] at r
    cases r with
    | cons r1 r2 =>
      obtain ⟨t, e⟩ := r1
      subst e
      exact .cons n t (ih r2)

section
variable {X : Cx} {e : Expr} {te : TE} {lo hi : Option Expr} {tl th : TO} {pos p2 : Pos}

theorem po_none : PO X none tNoPart := by
  intro pins s σ H Q I h
  rw [evalPart_none]
  exact wpAny_pure ⟨none, H, I, .none, h⟩
theorem po_some (h : PE X e te) : PO X (some e) (tPart te) := by
  intro pins s σ H Q I hw
  rw [evalPart_some]
  refine thn (h pins s σ H _ I hw) fun u s1 qq0 => ?_
  obtain ⟨x, H1, I1, r1, q1⟩ := qq0
  obtain ⟨i, rfl, q⟩ := q1
  obtain ⟨t, rfl⟩ := r1
  exact ⟨some i, H1, I1, .int i t, q⟩

noncomputable def SlR (X : Cx) (r : V → Option Int → Option Int → Hp → VK → Prop) : Prop :=
  ∀ (pins : List (Addr × Obj)) (s : Shared) (σ : St) (H : Hp) (x : V) (v vl vu : Value) (lo hi : Option Int) (sl : Addr) (Q : VK), Inv X pins σ H s → RelV x v → s.heap.IsSliceOf sl vl vu .none → IsPart vl lo → IsPart vu hi → r x lo hi H Q →
    ∃ T id, typeLookup (.type T) "__getitem__" = pure (some (.builtin id)) ∧ s.TypeIs v T ∧ wpAny (model X.prog X.w) X.A (getItem v (.ref sl)) (EP X pins σ Q) X.xe s
theorem SlR.or {r r' : V → Option Int → Option Int → Hp → VK → Prop} (h : SlR X r) (h' : SlR X r') : SlR X (fun x lo hi H Q => r x lo hi H Q ∨ r' x lo hi H Q) := by
  intro pins s σ H x v vl vu lo hi sl Q I rx hs pl pu q
  rcases q with q | q
  · exact h pins s σ H x v vl vu lo hi sl Q I rx hs pl pu q
  · exact h' pins s σ H x v vl vu lo hi sl Q I rx hs pl pu q
noncomputable def tSl (r : V → Option Int → Option Int → Hp → VK → Prop) (te : TE) (tl th : TO) : TE := fun σ H Q => te σ H fun x H1 => tl σ H1 fun l H2 => th σ H2 fun u H3 => r x l u H3 Q
theorem pe_slice {r : V → Option Int → Option Int → Hp → VK → Prop} (hr : SlR X r) (he : PE X e te) (hl : PO X lo tl) (hu : PO X hi th) : PE X (.Subscript e (.Slice lo hi none p2) pos) (tSl r te tl th) := by
  intro pins s σ H Q I h
  refine Subscript_ (thn (he pins s σ H _ I h) fun v s1 qq0 => ?_)
  obtain ⟨x, H1, I1, r1, q1⟩ := qq0
  refine wpAny_Slice (thn (hl pins s1 σ H1 _ I1 q1) fun vl s2 ⟨l, H2, I2, pl, q2⟩ => thn (hu pins s2 σ H2 _ I2 q2) fun vu s3 qq0 => ?_)
  obtain ⟨u, H3, I3, pu, q3⟩ := qq0
  rw [evalPart_none]
  refine wpAny_pure ?_
  have I4 : Inv X pins σ H3 { s3 with heap := s3.heap.push { cls := .type "slice", data := .fields #[vl, vu, .none] } } := I3.kept (t' := s3.toks) fun b ob q => Heap.get?_push_of_some _ q
  obtain ⟨T, id, hT, ht, hg⟩ := hr pins { s3 with heap := s3.heap.push { cls := .type "slice", data := .fields #[vl, vu, .none] } } σ H3 x v vl vu l u s3.heap.objs.size Q I4 r1 (Heap.IsSliceOf.new ..) pl pu q3
  show wpAny (model X.prog X.w) X.A (subscriptTail e (.Slice lo hi none p2) v (.ref s3.heap.objs.size)) (EP X pins σ Q) X.xe { s3 with heap := s3.heap.push { cls := .type "slice", data := .fields #[vl, vu, .none] } }
  exact tail_any (ops := [.ref s3.heap.objs.size, v]) ht hT hg (by with_unfolding_all rfl)

noncomputable def cutV (xs : List V) (lo hi : Option Int) : List V := (xs.drop (HT.sIx xs.length 0 lo)).take (HT.sIx xs.length xs.length hi - HT.sIx xs.length 0 lo)
theorem cutV_length (xs : List V) (lo hi : Option Int) : (cutV xs lo hi).length ≤ xs.length := by
  unfold cutV
  rw [List.length_take, List.length_drop]
  omega
noncomputable def rSlT (K : PySem.W.Frag) : V → Option Int → Option Int → Hp → VK → Prop := fun x lo hi H Q => ∃ a xs, x = .ref a ∧ SqT K H a xs ∧
  ¬ (HT.sIx xs.length 0 lo = 0 ∧ HT.sIx xs.length xs.length hi = xs.length) ∧ ∀ p, H p = none → Q (.ref p) (upd H p (.tup (cutV xs lo hi)))
theorem sl_tup : SlR X (rSlT X.K) := by
  intro pins s σ H x v vl vu lo hi sl Q I rx hs pl pu h
  obtain ⟨a, xs, rfl, hx, hw, q⟩ := h
  cases rx
  obtain ⟨its, r, ht, hz⟩ := I.tuple hx
  have hlen : its.toArray.size = xs.length := by rw [List.size_toArray]; exact r.length.symm
  refine ⟨"tuple", _, PyProof.Rows.slot_tuple_getitem.lookup, ht.typeIs, ?_⟩
  refine HT.getItem_tuple_cut ht hs pl pu (by rw [hlen]; exact hw) ?_ (by rw [hlen]; exact hz)
  rw [hlen]
  refine ⟨.ref s.heap.objs.size, _, I.laid (t' := s.toks) (o := .tup (cutV xs lo hi)) (fun b ob q => Heap.get?_push_of_some _ q) (Nat.le_refl _) ?_, rfl, q _ (I.hok.fresh (Nat.le_refl _))⟩
  exact ⟨Nat.le_trans (cutV_length xs lo hi) hz, _, (r.drop (HT.sIx xs.length 0 lo)).take (HT.sIx xs.length xs.length hi - HT.sIx xs.length 0 lo), IsTup.new _ _⟩

end
end L2

namespace L2
open PySem PySem.Spec PyProof.Rows

noncomputable def ixN (n : Nat) (i : Int) : Option Nat := if 0 ≤ i then (if i < n then some i.toNat else none) else if -(n : Int) ≤ i then some (i + n).toNat else none
noncomputable def atI {α : Type} (xs : List α) (i : Int) : Option α := (ixN xs.length i).bind fun j => xs[j]?
theorem ixN_seq {n : Nat} {i : Int} {j : Nat} (h : ixN n i = some j) : seqIndex? i n = some j ∧ j < n ∧ -(n : Int) ≤ i ∧ i < n := by
  unfold ixN at h
  by_cases h0 : 0 ≤ i
  · rw [if_pos h0] at h
    by_cases h1 : i < n
    · rw [if_pos h1] at h
      have e : i.toNat = j := Option.some.inj h
      exact ⟨by rw [seqIndex_of h0 h1, e], by omega, by omega, h1⟩
    · rw [if_neg h1] at h; cases h
  · rw [if_neg h0] at h
    by_cases h1 : -(n : Int) ≤ i
    · rw [if_pos h1] at h
      have e : (i + n).toNat = j := Option.some.inj h
      exact ⟨by rw [seqIndex_neg (by omega) h1, e], by omega, h1, by omega⟩
    · rw [if_neg h1] at h; cases h
theorem atI_get {α : Type} {xs : List α} {i : Int} {v : α} (h : atI xs i = some v) : ∃ j, seqIndex? i xs.length = some j ∧ xs[j]? = some v ∧ j < xs.length ∧ -(xs.length : Int) ≤ i ∧ i < xs.length := by
  unfold atI at h
  cases e : ixN xs.length i with
  | none => rw [e] at h; cases h
  | some j =>
    rw [e] at h
    obtain ⟨h1, h2, h3, h4⟩ := ixN_seq e
    exact ⟨j, h1, h, h2, h3, h4⟩
theorem atI_nat {α : Type} {xs : List α} {j : Nat} {v : α} (h : xs[j]? = some v) : atI xs (j : Int) = some v := by
  have hj : j < xs.length := (List.getElem?_eq_some_iff.mp h).1
  have e : ixN xs.length (j : Int) = some j := by
    unfold ixN
    rw [if_pos (by omega), if_pos (by omega)]; simp
  unfold atI; rw [e]; exact h
noncomputable def PlainIx (b : Expr) : Prop := ∀ o i, subscripted b false o i = operate [o, i] (getItem o i)
noncomputable def IxR (X : Cx) (r : R2) : Prop :=
  ∀ (value slice : Expr) (pins : List (Addr × Obj)) (s : Shared) (σ : St) (H : Hp) (x y : V) (v u : Value) (Q : VK), Inv X pins σ H s → RelV x v → RelV y u → r x y H Q →
    subscripted slice false v u = operate [v, u] (getItem v u) → wpAny (model X.prog X.w) X.A (subscriptTail value slice v u) (EP X pins σ Q) X.xe s
noncomputable def MtR (X : Cx) (id : String) (r : V → List V → Hp → VK → Prop) : Prop :=
  ∀ (pins : List (Addr × Obj)) (s : Shared) (σ : St) (H : Hp) (x : V) (xs : List V) (v : Value) (us : List Value) (Q : VK), Inv X pins σ H s → RelV x v → Vals xs us → r x xs H Q →
    wpAny (model X.prog X.w) X.A (call (.builtin id) (v :: us)) (EP X pins σ Q) X.xe s
section
variable {X : Cx} {a b : Expr} {ta tb : TE} {pos : Pos}
theorem IxR.or {r r' : R2} (h : IxR X r) (h' : IxR X r') : IxR X (fun x y H Q => r x y H Q ∨ r' x y H Q) := by
  intro value slice pins s σ H x y v u Q I rx ry q hs
  rcases q with q | q
  · exact h value slice pins s σ H x y v u Q I rx ry q hs
  · exact h' value slice pins s σ H x y v u Q I rx ry q hs
theorem pe_ix {r : R2} (hr : IxR X r) (ha : PE X a ta) (hb : PE X b tb) (hs : PlainIx b) : PE X (.Subscript a b pos) (tOp r ta tb) := by
  intro pins s σ H Q I h
  exact Subscript_ (binT ha hb I h fun v u s2 x y H2 I2 rx ry q => hr a b pins s2 σ H2 x y v u Q I2 rx ry q (hs _ _))

noncomputable def rIxL (K : PySem.W.Frag) : R2 := fun x y H Q => ∃ p xs i v, x = .ref p ∧ y = .int i ∧ SqL K H p xs ∧ atI xs i = some v ∧ Q v H
noncomputable def rIxT (K : PySem.W.Frag) : R2 := fun x y H Q => ∃ p xs i v, x = .ref p ∧ y = .int i ∧ SqT K H p xs ∧ atI xs i = some v ∧ Q v H
noncomputable def rIxS : R2 := fun x y H Q => ∃ z i c, x = .str z ∧ y = .int i ∧ z.length ≤ sizeLine ∧ atI z.cps.toList i = some c ∧ Q (.str ⟨#[c]⟩) H
theorem ix_list : IxR X (rIxL X.K) := by
  intro value slice pins s σ H x y v u Q I rx ry h hs
  obtain ⟨p, xs, i, z, rfl, rfl, hq, he, q⟩ := h
  cases rx
  obtain ⟨t, rfl⟩ := ry
  obtain ⟨its, r, pl, hz⟩ := I.list hq
  obtain ⟨j, h1, h2, h3, h4, h5⟩ := atI_get he
  obtain ⟨w, ew, rw'⟩ := r.get h2
  have hl := r.length
  have hn := line63
  have fin : EP X pins σ Q w s := ⟨z, H, I, rw', q⟩
  by_cases h0 : 0 ≤ i
  · have hj : i.toNat = j := by
      rw [seqIndex_of h0 h5] at h1
      exact Option.some.inj h1
    exact item_listR pl.isList h0 (by omega) (by rw [hj]; simpa using ew) fin hs
  · have hj : (i + (its.toArray.size : Int)).toNat = j := by
      rw [seqIndex_neg (by omega) h4] at h1
      rw [List.size_toArray, ← hl]
      exact Option.some.inj h1
    exact subscriptTail_builtinR (x := w) pl.isList.typeIs slot_list_getitem.lookup
      (wpAny_getItem_list_neg (Q := fun r s' => r = w ∧ EP X pins σ Q r s') pl.isList (by omega) (by rw [List.size_toArray] <;> omega) (by omega) (by rw [hj]; simpa using ew) ⟨rfl, fin⟩) hs
theorem ix_tup : IxR X (rIxT X.K) := by
  intro value slice pins s σ H x y v u Q I rx ry h hs
  obtain ⟨p, xs, i, z, rfl, rfl, hq, he, q⟩ := h
  cases rx
  obtain ⟨t, rfl⟩ := ry
  obtain ⟨its, r, pl, hz⟩ := I.tuple hq
  obtain ⟨j, h1, h2, h3, h4, h5⟩ := atI_get he
  obtain ⟨w, ew, rw'⟩ := r.get h2
  have hl := r.length
  have hn := line63
  have fin : EP X pins σ Q w s := ⟨z, H, I, rw', q⟩
  exact subscriptTail_builtinR (x := w) pl.typeIs slot_tuple_getitem.lookup
    (getItem_tuple (j := j) (Q := fun r s' => r = w ∧ EP X pins σ Q r s') pl (by omega) (by omega) (by rw [List.size_toArray, ← hl]; exact h1) (by simpa using ew) ⟨rfl, fin⟩) hs
theorem ix_str : IxR X rIxS := by
  intro value slice pins s σ H x y v u Q I rx ry h hs
  obtain ⟨z, i, c, rfl, rfl, hz, he, q⟩ := h
  obtain ⟨t, rfl⟩ := rx
  obtain ⟨t', rfl⟩ := ry
  obtain ⟨j, h1, h2, h3, h4, h5⟩ := atI_get he
  have hl : z.cps.toList.length = z.length := by simp [Str.length]
  rw [hl] at h1 h4 h5
  have hn := line63
  exact tail_any (typeIs_str s z t) slot_str_getitem.lookup (getItem_str (c := c) (by
    have e1 : decide (i < -(2 ^ 63 : Int)) = false := decide_eq_false (by omega)
    have e2 : decide (i ≥ 2 ^ 63) = false := decide_eq_false (by omega)
    rw [e1, e2, Bool.or_false]) (by rw [h1]; simpa using h2) ⟨.str ⟨#[c]⟩, H, I.tok _, ⟨_, rfl⟩, q⟩) hs
noncomputable def rIx (K : PySem.W.Frag) : R2 := fun x y H Q => rIxL K x y H Q ∨ rIxT K x y H Q ∨ rIxS x y H Q
theorem ix_seq : IxR X (rIx X.K) := ix_list.or (ix_tup.or ix_str)

theorem mapSeq_set (its : List Value) (n j : Nat) (u : Value) : Obj.mapSeq (·.setIfInBounds j u) { cls := .type "list", data := .seq its.toArray n } = { cls := .type "list", data := .seq (its.set j u).toArray n } := by
  simp [Obj.mapSeq]
theorem Inv.lst {pins : List (Addr × Obj)} {σ : St} {H : Hp} {s : Shared} {p : Addr} {xs : List V} (I : Inv X pins σ H s) (h : H p = some (.lst xs)) :
    ∃ (its : List Value) (n : Nat), Vals xs its ∧ s.heap.get? p = some { cls := .type "list", data := .seq its.toArray n } ∧ xs.length ≤ sizeLine := by
  obtain ⟨z, its, n, r, e⟩ := I.hok p _ h
  exact ⟨its, n, r, e, z⟩
theorem Inv.lstUpd {pins : List (Addr × Obj)} {σ : St} {H : Hp} {s : Shared} {p : Addr} {xs ys : List V} {its its' : List Value} {n n' : Nat} {f : Obj → Obj} (I : Inv X pins σ H s) (h : H p = some (.lst xs))
    (ho : s.heap.get? p = some { cls := .type "list", data := .seq its.toArray n }) (hf : f { cls := .type "list", data := .seq its.toArray n } = { cls := .type "list", data := .seq its'.toArray n' }) (r : Vals ys its') (hz : ys.length ≤ sizeLine) (t : Nat) :
    Inv X pins σ (upd H p (.lst ys)) { s with heap := s.heap.update p f, toks := t } := by
  have e : (s.heap.update p f).get? p = some { cls := .type "list", data := .seq its'.toArray n' } := by
    rw [Heap.get?_update_self f ho (by rw [hf] <;> rfl), hf]
  refine I.write (x := p) (e := p) (by rw [h]; trivial) (.inl rfl) (fun b u hb q => (Heap.get?_update_other _ _ (Ne.symm hb)).trans q) ⟨_, e⟩ ?_
  exact ⟨hz, its', n', r, e⟩
noncomputable def rSetL : V → V → V → Hp → (Hp → Prop) → Prop := fun o i v H Q => ∃ p xs k j, o = .ref p ∧ i = .int k ∧ H p = some (.lst xs) ∧ ixN xs.length k = some j ∧ Q (upd H p (.lst (xs.set j v)))
theorem set_list : PSet X rSetL := by
  intro pins s σ H o i v ov iv u Q I ro ri rv h
  obtain ⟨p, xs, k, j, rfl, rfl, hp, hj, q⟩ := h
  cases ro
  obtain ⟨t, rfl⟩ := ri
  obtain ⟨its, n, r, ho, hz⟩ := I.lst hp
  obtain ⟨h1, h2, h3, h4⟩ := ixN_seq hj
  have hl := r.length
  have hn := line63
  have I' : Inv X pins σ (upd H p (.lst (xs.set j v))) { s with heap := s.heap.update p (Obj.mapSeq (·.setIfInBounds j u)) } :=
    I.lstUpd hp ho (mapSeq_set its n j u) (r.set rv j) (by rw [List.length_set]; exact hz) s.toks
  by_cases h0 : 0 ≤ k
  · have hk : k.toNat = j := by
      rw [seqIndex_of h0 h4] at h1
      exact Option.some.inj h1
    exact PySem.W.ki_setAt ho h0 (by omega) (by rw [List.size_toArray, ← hl]; exact h4) (by rw [hk]; exact ⟨_, I', q⟩)
  · have hk : (k + (its.toArray.size : Int)).toNat = j := by
      rw [seqIndex_neg (by omega) h3] at h1
      rw [List.size_toArray, ← hl]
      exact Option.some.inj h1
    exact PySem.W.ki_setBack ho (by omega) (by rw [List.size_toArray, ← hl]; exact h3) (by omega) (by rw [hk]; exact ⟨_, I', q⟩)

theorem slice_bounds (lo hi : Option Int) (n : Nat) : (sliceBounds lo hi none n).1 = ((HT.sIx n 0 lo : Nat) : Int) ∧ (sliceBounds lo hi none n).2.1 = ((HT.sIx n n hi : Nat) : Int) ∧ (sliceBounds lo hi none n).2.2 = 1 := by
  refine ⟨?_, ?_, rfl⟩
  · cases lo with
    | none => simp [sliceBounds, HT.sIx]
    | some i =>
      simp only [sliceBounds, HT.sIx, Option.getD_none, show (1 : Int) > 0 by decide, if_true]
      by_cases h : i < 0
      · simp only [h, if_true] <;> omega
      · simp only [h, if_false] <;> omega
  · cases hi with
    | none => simp [sliceBounds, HT.sIx]
    | some i =>
      simp only [sliceBounds, HT.sIx, Option.getD_none, show (1 : Int) > 0 by decide, if_true]
      by_cases h : i < 0
      · simp only [h, if_true] <;> omega
      · simp only [h, if_false] <;> omega
theorem slicePick_cut (its : List Value) (lo hi : Option Int) : slicePick its.toArray lo hi none = ((its.drop (HT.sIx its.length 0 lo)).take (HT.sIx its.length its.length hi - HT.sIx its.length 0 lo)).toArray := by
  obtain ⟨h1, h2, h3⟩ := slice_bounds lo hi its.toArray.size
  unfold slicePick
  rw [h1, h2, h3]
  simp only [sliceRange_one, pick_run, List.size_toArray] <;> rfl
noncomputable def rSlL (K : PySem.W.Frag) : V → Option Int → Option Int → Hp → VK → Prop := fun x lo hi H Q => ∃ a xs, x = .ref a ∧ SqL K H a xs ∧ ∀ p, H p = none → Q (.ref p) (upd H p (.lst (cutV xs lo hi)))
theorem sl_list : SlR X (rSlL X.K) := by
  intro pins s σ H x v vl vu lo hi sl Q I rx hs pl pu h
  obtain ⟨a, xs, rfl, hx, q⟩ := h
  cases rx
  obtain ⟨its, r, ht, hz⟩ := I.list hx
  have hlen := r.length
  refine ⟨"list", _, slot_list_getitem.lookup, ht.isList.typeIs, ?_⟩
  refine wpAny_getItem_list_slice ht.isList hs pl pu .none (by simp) ?_ (by rw [List.size_toArray] <;> omega)
  rw [slicePick_cut, ← hlen]
  refine ⟨.ref s.heap.objs.size, _, I.laid (t' := s.toks) (o := .lst (cutV xs lo hi)) (fun b ob q => Heap.get?_push_of_some _ q) (Nat.le_refl _) ?_, rfl, q _ (I.hok.fresh (Nat.le_refl _))⟩
  exact ⟨Nat.le_trans (cutV_length xs lo hi) hz, _, 0, (r.drop (HT.sIx xs.length 0 lo)).take (HT.sIx xs.length xs.length hi - HT.sIx xs.length 0 lo), Heap.get?_push_size _ rfl⟩

noncomputable def flatV : V → Bool
  | .non => true
  | .bl _ => true
  | .int _ => true
  | .str _ => true
  | _ => false
noncomputable def eqV : V → V → Bool
  | .non, .non => true
  | .bl a, .bl b => a == b
  | .bl a, .int b => (if a then 1 else 0) == b
  | .int a, .bl b => a == (if b then 1 else 0)
  | .int a, .int b => a == b
  | .str a, .str b => a == b
  | _, _ => false
theorem eqAt_V {A : Around} {s : Shared} {y x : V} {u v : Value} (ry : RelV y u) (rx : RelV x v) (fy : flatV y = true) (fx : flatV x = true) : SeqAt.EqAt A s u v (eqV y x) := by
  cases y with
  | non =>
    cases ry
    cases x with
    | non => cases rx; exact SeqAt.EqAt.same _
    | bl b => cases rx; exact SeqAt.EqAt.none_bool b
    | int b => obtain ⟨t, rfl⟩ := rx; exact SeqAt.EqAt.none_int b t
    | str b => obtain ⟨t, rfl⟩ := rx; exact SeqAt.EqAt.none_str b t
    | _ => exact absurd (show false = true from fx) Bool.false_ne_true
  | bl a =>
    cases ry
    cases x with
    | non => cases rx; exact SeqAt.EqAt.bool_none a
    | bl b => cases rx; exact SeqAt.EqAt.bool_bool a b
    | int b => obtain ⟨t, rfl⟩ := rx; exact SeqAt.EqAt.bool_int a b t
    | str b => obtain ⟨t, rfl⟩ := rx; exact SeqAt.EqAt.bool_str a b t
    | _ => exact absurd (show false = true from fx) Bool.false_ne_true
  | int a =>
    obtain ⟨t', rfl⟩ := ry
    cases x with
    | non => cases rx; exact SeqAt.EqAt.int_none a t'
    | bl b => cases rx; exact SeqAt.EqAt.int_bool a t' b
    | int b => obtain ⟨t, rfl⟩ := rx; exact SeqAt.EqAt.int_int a t' b t
    | str b => obtain ⟨t, rfl⟩ := rx; exact SeqAt.EqAt.int_str a t' b t
    | _ => exact absurd (show false = true from fx) Bool.false_ne_true
  | str a =>
    obtain ⟨t', rfl⟩ := ry
    cases x with
    | non => cases rx; exact SeqAt.EqAt.str_none a t'
    | bl b => cases rx; exact SeqAt.EqAt.str_bool a t' b
    | int b => obtain ⟨t, rfl⟩ := rx; exact SeqAt.EqAt.str_int a t' b t
    | str b => obtain ⟨t, rfl⟩ := rx; exact SeqAt.EqAt.str_str a t' b t
    | _ => exact absurd (show false = true from fx) Bool.false_ne_true
  | _ => exact absurd (show false = true from fy) Bool.false_ne_true
theorem CallR.or {f : Value} {r r' : List V → Hp → VK → Prop} (h : CallR X f r) (h' : CallR X f r') : CallR X f (fun xs H Q => r xs H Q ∨ r' xs H Q) := by
  intro pins s σ H xs us Q I rs q
  rcases q with q | q
  · exact h pins s σ H xs us Q I rs q
  · exact h' pins s σ H xs us Q I rs q
theorem call_list_of : CallR X (.type "list") (fun xs H Q => ∃ p ys, xs = [.ref p] ∧ (SqL X.K H p ys ∨ SqT X.K H p ys) ∧ ∀ l, H l = none → Q (.ref l) (upd H l (.lst ys))) := by
  intro pins s σ H xs us Q I r h
  obtain ⟨p, ys, rfl, hq, q⟩ := h
  obtain ⟨u, rfl, rx⟩ := vals1 r
  cases rx
  have fin : ∀ (its : List Value), Vals ys its → ys.length ≤ sizeLine → ∀ (h' : Heap) (c' : Nat), (∀ b o', s.heap.get? b = some o' → h'.get? b = some o') →
      h'.get? s.heap.objs.size = some { cls := .type "list", dict := none, data := .seq its.toArray c', slots := #[] } → EP X pins σ Q (.ref s.heap.objs.size) { s with heap := h' } := fun its r' hz h' c' kp e =>
    ⟨.ref s.heap.objs.size, _, I.laid (t' := s.toks) kp (Nat.le_refl _) (show ObjOk X.prog X.w _ h' _ (.lst ys) from ⟨hz, its, c', r', e⟩), rfl, q _ (I.hok.fresh (Nat.le_refl _))⟩
  rcases hq with hq | hq
  · obtain ⟨its, r', pl, hz⟩ := I.list hq
    have hlen := r'.length
    obtain ⟨o, ho, hc, n, hd⟩ := pl.isList
    exact call_list_seq p (.inl rfl) ho hc hd (fun h' c' kp e => fin its r' hz h' c' kp e) (by simp only [List.size_toArray] <;> omega)
  · obtain ⟨its, r', pl, hz⟩ := I.tuple hq
    have hlen := r'.length
    obtain ⟨o, ho, hc, n, hd⟩ := pl
    exact call_list_seq p (.inr rfl) ho hc hd (fun h' c' kp e => fin its r' hz h' c' kp e) (by simp only [List.size_toArray] <;> omega)
noncomputable def tyV (K : PySem.W.Frag) (T : String) (x : V) (H : Hp) : Prop := match x with
  | .str _ => T = "str"
  | .int _ => T = "int"
  | .ref p => (T = "list" ∧ ∃ xs, SqL K H p xs) ∨ (T = "tuple" ∧ ∃ o, K.lookup p = some o ∧ o.cls = .type "tuple" ∧ o.dict = none) ∨
      (T = "dict" ∧ ((∃ kvs, H p = some (.dK kvs)) ∨ ∃ kvs, H p = some (.dT kvs))) ∨ (T = "set" ∧ ∃ S n, H p = some (.set S n))
  | _ => False
theorem tyV_is {pins : List (Addr × Obj)} {σ : St} {H : Hp} {s : Shared} {T : String} {x : V} {v : Value} (I : Inv X pins σ H s) (r : RelV x v) (ty : tyV X.K T x H) :
    s.TypeIs v T ∧ ∀ a, v = .ref a → ∃ ob, s.heap.get? a = some ob ∧ ob.dict = none := by
  cases x with
  | str z =>
    obtain ⟨t, rfl⟩ := r
    cases (show T = "str" from ty)
    exact ⟨typeIs_str s z t, fun _ e => nomatch e⟩
  | int i =>
    obtain ⟨t, rfl⟩ := r
    cases (show T = "int" from ty)
    exact ⟨typeIs_int s i t, fun _ e => nomatch e⟩
  | ref p =>
    cases r
    rcases ty with ⟨rfl, xs, hq⟩ | ⟨rfl, o, hk, hc, hd⟩ | ⟨rfl, hk⟩ | ⟨rfl, S, n, hk⟩
    · obtain ⟨its, _, pl, _⟩ := I.list hq
      refine ⟨pl.isList.typeIs, fun a e => ?_⟩
      cases e
      obtain ⟨o, n, e, c, hd, _⟩ := pl
      exact ⟨o, e, hd⟩
    · refine ⟨⟨o, I.kIn p o hk, hc⟩, fun a e => ?_⟩
      cases e
      exact ⟨o, I.kIn _ o hk, hd⟩
    · have z : ∃ o, s.heap.get? p = some o ∧ o.ExactDict := by
        rcases hk with ⟨kvs, hk⟩ | ⟨kvs, hk⟩
        · obtain ⟨_, _, _, _, o, _, _, e, ex, _⟩ := I.hok p _ hk
          exact ⟨o, e, ex⟩
        · obtain ⟨_, _, _, _, o, _, _, e, ex, _⟩ := I.hok p _ hk
          exact ⟨o, e, ex⟩
      obtain ⟨o, e, ex⟩ := z
      refine ⟨⟨o, e, ex.1⟩, fun a e2 => ?_⟩
      cases e2
      exact ⟨o, e, ex.2.1⟩
    · obtain ⟨o, _, _, _, e, ex, _⟩ := I.hok p _ hk
      refine ⟨⟨o, e, ex.1⟩, fun a e2 => ?_⟩
      cases e2
      exact ⟨o, e, ex.2.1⟩
  | _ => exact False.elim ty
noncomputable def tBM (K : PySem.W.Frag) (T : String) (r : V → List V → Hp → VK → Prop) (to : TE) (t : TA) : TE := fun σ H Q => to σ H fun x H1 => tyV K T x H1 ∧ t σ H1 fun xs H2 => r x xs H2 Q
variable {o e : Expr} {es : List Expr} {to : TE} {t : TA} {name : Str} {apos cpos : Pos} {T id : String} {r : V → List V → Hp → VK → Prop}
theorem pe_bm (pa : PlainAttrs T) (slot : Slot T name id) (hty : typeOf (.builtin id) = pure (.type "method_descriptor")) (hm : MtR X id r) (ho : PE X o to) (ha : PA X (e :: es) t)
    (hbase : autoParam (attributeBase o name X.env (eval o X.env) = eval o X.env) L2.auto4._auto_1)
    (hfew : ((backTo cpos (starEach (e :: es) X.env)).all (fun x => !x.1) && (backToKw cpos (keywordEach [] X.env)).all (fun x => x.1.isSome)
      && decide ((e :: es).length + ([] : List Keyword).length + (if ([] : List Keyword).isEmpty then 0 else 1) < 30)) = true := by rfl)
    (hline : autoParam ((apos.endLine == cpos.line) = true) L2.auto4._auto_1) (hs : autoParam (starEach (e :: es) X.env = (false, eval e X.env) :: starEach es X.env) L2.auto4._auto_1) (hplain : autoParam ((backTo cpos (starEach es X.env)).any (·.1) = false) L2.auto4._auto_1) :
    PE X (.Call (.Attribute o name apos) (e :: es) [] cpos) (tBM X.K T r to t) := by
  intro pins s σ H Q I h
  refine wpAny_Call_method_late hbase hfew hline rfl (thn (ho pins s σ H _ I h) fun v s1 qq0 => ?_)
  obtain ⟨x, H1, I1, r1, ty, q1⟩ := qq0
  obtain ⟨h1, h2⟩ := tyV_is I1 r1 ty
  refine ⟨T, id, pa, slot, hty, h1, h2, ?_⟩
  have hA := ha cpos pins s1 σ H1 _ I1 q1
  rw [hs] at hA ⊢
  refine Calls.callWith_builtin (by show (false || (backTo cpos (starEach es X.env)).any (·.1)) = false; rw [hplain] <;> rfl) (Calls.evalArgs_plain ?_)
  exact thn hA fun us s2 ⟨vs, H2, I2, r2, q2⟩ => hm pins s2 σ H2 x vs v us Q I2 r1 r2 q2
end
end L2

namespace L2
open PySem PySem.Spec PyProof.Rows

noncomputable def MtM (X : Cx) (id : String) (r : V → List V → Hp → VK → Prop) : Prop :=
  ∀ (pins : List (Addr × Obj)) (s : Shared) (σ : St) (H : Hp) (x : V) (xs : List V) (v : Value) (us : List Value) (Q : VK), Inv X pins σ H s → RelV x v → Vals xs us → r x xs H Q →
    wpAny (model X.prog X.w) X.A (call (.builtin id) (v :: us)) (EP X pins σ Q) X.xe s

theorem Vals.one : ∀ {x : V} {us : List Value}, Vals [x] us → ∃ u, us = [u] ∧ RelV x u
  | _, _, .cons r .nil => ⟨_, rfl, r⟩
theorem Vals.rep {xs : List V} {us : List Value} (h : Vals xs us) : ∀ k : Nat, Vals (List.replicate k xs).flatten (List.replicate k us).flatten
  | 0 => .nil
  | k + 1 => by
    rw [List.replicate_succ, List.replicate_succ, List.flatten_cons, List.flatten_cons]
    exact Vals.append h (Vals.rep h k)
theorem foldl_rep (its : List Value) : ∀ (k : Nat) (acc : List Value),
    List.foldl (fun x1 x2 => x1 ++ x2) acc.toArray (List.replicate k its.toArray) = (acc ++ (List.replicate k its).flatten).toArray
  | 0, acc => by simp
  | k + 1, acc => by
    have e : acc.toArray ++ its.toArray = (acc ++ its).toArray := by simp
    have e2 : (acc ++ its) ++ (List.replicate k its).flatten = acc ++ (List.replicate (k + 1) its).flatten := by
      rw [List.replicate_succ, List.flatten_cons, List.append_assoc]
    rw [← e2, ← foldl_rep its k (acc ++ its), ← e, List.replicate_succ, List.foldl_cons]

section
variable {X : Cx} {pins : List (Addr × Obj)} {σ : St} {H : Hp} {s : Shared} {l b : Addr} {xs ys zs : List V}

theorem Inv.lset {its its' : List Value} {n : Nat} {f : Array Value → Array Value} {t' : Nat} (I : Inv X pins σ H s) (hH : H l = some (.lst xs))
    (e : s.heap.get? l = some { cls := .type "list", data := .seq its.toArray n }) (hf : f its.toArray = its'.toArray) (hv : Vals ys its') (hz : ys.length ≤ sizeLine) :
    Inv X pins σ (upd H l (.lst ys)) { s with heap := s.heap.update l (Obj.mapSeq f), toks := t' } := by
  have q := PySem.IsL.update e f
  rw [hf] at q
  refine I.write (x := l) (e := l) (by rw [hH]; exact trivial) (.inl rfl) (fun b' u hb hu => (Heap.get?_update_other s.heap (Obj.mapSeq f) (Ne.symm hb)).trans hu) ⟨_, q⟩ ?_
  exact ⟨hz, its', _, hv, q⟩
theorem Inv.lnew {its : List Value} {t' : Nat} (I : Inv X pins σ H s) (hv : Vals ys its) (hz : ys.length ≤ sizeLine) :
    Inv X pins σ (upd H s.heap.objs.size (.lst ys)) { s with heap := s.heap.push { cls := .type "list", data := .seq its.toArray }, toks := t' } :=
  I.laid (fun _ _ q => Heap.get?_push_of_some _ q) (Nat.le_refl _) ⟨hz, its, 0, hv, Heap.get?_push_size _ rfl⟩
theorem Inv.fresh (I : Inv X pins σ H s) : H s.heap.objs.size = none := I.hok.fresh (Nat.le_refl _)
theorem Inv.lstM (I : Inv X pins σ H s) (hH : H l = some (.lst xs)) : xs.length ≤ sizeLine ∧ ∃ (its : List Value) (n : Nat), Vals xs its ∧ xs.length = its.length ∧ s.heap.get? l = some { cls := .type "list", data := .seq its.toArray n } := by
  obtain ⟨z, its, n, r, e⟩ := I.hok l _ hH
  exact ⟨z, its, n, r, r.length, e⟩

theorem notLongL {n : Nat} (h : n ≤ sizeLine) : Builtin.List.listTooLong n = false := by
  unfold Builtin.List.listTooLong
  exact decide_eq_false (by omega)
end

section
variable {X : Cx}

noncomputable def rAppend : V → List V → Hp → VK → Prop := fun x vs H Q => ∃ l xs y, x = .ref l ∧ vs = [y] ∧ H l = some (.lst xs) ∧ xs.length < sizeLine ∧ Q .non (upd H l (.lst (xs ++ [y])))
theorem mt_append : MtM X "list.append" rAppend := by
  intro pins s σ H x vs v us Q I rx rv h
  obtain ⟨l, xs, y, rfl, rfl, hH, hz, q⟩ := h
  cases rx
  obtain ⟨u, rfl, ru⟩ := rv.one
  obtain ⟨z, its, n, r, hl, e⟩ := I.lstM hH
  refine call_meets F.slot_list_append ⟨_, e, rfl⟩ F.entry_list_append (F.args_list_append_2 _ _) (PySem.list_append l its.toArray n u (by rw [List.size_toArray]; omega)) ⟨e, ?_⟩
  refine ⟨.non, _, I.lset (its' := its ++ [u]) hH e (by simp) (r.append (.cons ru .nil)) ?_, rfl, q⟩
  rw [List.length_append, List.length_singleton]
  omega

noncomputable def rCat : R2 := fun x y H Q => ∃ l b xs zs, x = .ref l ∧ y = .ref b ∧ H l = some (.lst xs) ∧ H b = some (.lst zs) ∧ xs.length + zs.length ≤ sizeLine ∧ ∀ p, H p = none → Q (.ref p) (upd H p (.lst (xs ++ zs)))
theorem op_cat : OpR X (binaryOp .Add) rCat := by
  intro pins s σ H x y v u Q I rx ry h
  obtain ⟨l, b, xs, zs, rfl, rfl, hH, hB, hz, q⟩ := h
  cases rx
  cases ry
  obtain ⟨z, its, n, r, hl, e⟩ := I.lstM hH
  obtain ⟨z2, its2, n2, r2, hl2, e2⟩ := I.lstM hB
  refine PySem.P.add_list e e2 ?_ (by rw [List.size_toArray, List.size_toArray]; omega)
  have ea : its.toArray ++ its2.toArray = (its ++ its2).toArray := by simp
  rw [ea]
  exact ⟨.ref _, _, I.lnew (t' := s.toks) (r.append r2) (by rw [List.length_append]; omega), rfl, q _ I.fresh⟩
noncomputable def rRep : R2 := fun x y H Q => ∃ l k xs, x = .ref l ∧ y = .int k ∧ H l = some (.lst xs) ∧ -(2 ^ 63) ≤ k ∧ k < 2 ^ 63 ∧ xs.length * k.toNat ≤ sizeLine ∧
  ∀ p, H p = none → Q (.ref p) (upd H p (.lst (List.replicate k.toNat xs).flatten))
theorem len_rep {α : Type} (xs : List α) (k : Nat) : (List.replicate k xs).flatten.length = k * xs.length := by
  induction k with
  | zero => simp
  | succ k ih => rw [List.replicate_succ, List.flatten_cons, List.length_append, ih, Nat.succ_mul, Nat.add_comm]
theorem op_rep : OpR X (binaryOp .Mult) rRep := by
  intro pins s σ H x y v u Q I rx ry h
  obtain ⟨l, k, xs, rfl, rfl, hH, h1, h2, hz, q⟩ := h
  cases rx
  obtain ⟨t, rfl⟩ := ry
  obtain ⟨z, its, n, r, hl, e⟩ := I.lstM hH
  have hlen : its.toArray.size * k.toNat ≤ sizeLine := by rw [List.size_toArray, ← hl]; exact hz
  have hcap : ¬ its.toArray.size * k.toNat > (2 ^ 63 - 1) / 8 := by
    have : (sizeLine : Nat) ≤ (2 ^ 63 - 1) / 8 := by decide
    omega
  have hfit : ¬ (!Builtin.List.listFitsIndex k) = true := by
    rw [fitsIndex_both h1 h2]
    exact Bool.false_ne_true
  have hlong : ¬ Builtin.List.listTooLong (its.toArray.size * k.toNat) = true := by
    rw [notLongL hlen]
    exact Bool.false_ne_true
  have hnew : List.foldl (fun x1 x2 => x1 ++ x2) #[] (List.replicate (if its.toArray.isEmpty = true then 0 else k.toNat) its.toArray) = (List.replicate k.toNat its).flatten.toArray := by
    have f0 : ∀ m : Nat, List.foldl (fun x1 x2 => x1 ++ x2) #[] (List.replicate m its.toArray) = (List.replicate m its).flatten.toArray := fun m => by
      have := foldl_rep its m []
      rw [List.nil_append] at this
      exact this
    rw [f0]
    cases its with
    | nil => simp
    | cons a r' => rw [if_neg (by simp)]
  refine wpAny_binaryOp_repeat_ref (T := "list") (U := "int") (by decide) ⟨_, e, rfl⟩ (fun s' => typeIs_int s' k t) noFill_list_mul F.fills_int_mul F.slot_int_rmul repeat_list F.slot_int_index.lookup
    (call_meets F.slot_int_rmul (typeIs_int s k t) F.entry_int_rmul (F.args_int_rmul_2 _ _) (int___rmul___int_list k t l its.toArray n)
      ⟨e, rfl, ⟨_, e, rfl⟩, call_meets F.slot_list_mul ⟨_, e, rfl⟩ F.entry_list_mul (F.args_list_mul_2 _ _) (AutoListH.list___mul___list_int_3 l its.toArray n k t hfit hcap hlong) ⟨e, ?_⟩⟩)
  rw [hnew]
  exact ⟨.ref _, _, I.lnew (t' := s.toks) (r.rep k.toNat) (by rw [len_rep, Nat.mul_comm]; exact hz), rfl, q _ I.fresh⟩

end

section
variable {prog : Program} {w : World} {A : Around} {E : Value → Shared → Prop} {s : Shared}
end

section
variable {X : Cx}
end
end L2

namespace Att
open PySem PySem.W PySem.Calls PyProof.Rows

theorem ints_of_wellAll {P : Params} {h : Heap} : ∀ (ns : List Int) (vs : List Value), WellAll P h vs (ns.map WData.int) → IntsAre vs ns := by
  intro ns
  induction ns with
  | nil =>
    intro vs w
    rw [List.map_nil] at w
    cases w
    exact .nil
  | cons n ns ih =>
    intro vs w
    rw [List.map_cons] at w
    cases w with
    | cons a b =>
      cases a
      exact .cons _ _ (ih _ b)

theorem script_of {l : OpenLaw} {n : Nat} (hn : l.most = some n) {P : Params} {h : Heap} {args : List WData} {vals : List Value}
    (hpre : l.row.toRowW.claim.pre args = true) (hwl : WellAll P h vals args) :
    ∃ a vs ns, vals = [Value.ref a] ∧ args = [WData.list (ns.map WData.int)] ∧ h.get? a = some { cls := .type "list", data := .seq vs.toArray } ∧ IntsAre vs ns ∧ ns.length ≤ n := by
  have hsh : WShape.hasAll [] args [.list .int] = true := (pre_splitW hpre).1
  have hc : l.pre.holds [] { args := args } = true := (pre_splitW hpre).2
  obtain ⟨d, r, rfl, h1, h2⟩ := hasAllW_cons hsh
  obtain rfl := hasAllW_nil h2
  obtain ⟨xs, rfl, h3⟩ := hasW_list h1
  obtain ⟨ns, rfl⟩ := items_int h3
  have hlen : ns.length ≤ n := by
    unfold OpenLaw.pre at hc
    have h4 : (WTm.not (.lt (.lit (.int (n : Int))) (.len (.arg 0)))).holds [] { args := [.list (ns.map .int)] } = true := by
      have h4 := (holds_andW hc).1
      rw [hn] at h4
      exact h4
    have h5 := condW_of h4 (w_not (w_lt w_lit (w_len_list (w_arg rfl))))
    rw [List.length_map] at h5
    refine Nat.le_of_not_lt fun q => ?_
    have q' : (n : Int) < ((ns.length : Nat) : Int) := by omega
    first
      | (rw [decide_eq_true q'] at h5; exact absurd h5 (by decide))
      | (simp at h5; omega)
  cases hwl with
  | cons w1 w2 =>
    cases w2
    cases w1 with
    | list ho hall => exact ⟨_, _, ns, rfl, rfl, ho, ints_of_wellAll ns _ hall, hlen⟩

theorem post_true (l : OpenLaw) (args : List WData) : l.row.toRowW.claim.post args (.bool true) args = true :=
  postW_of (r := l.row.toRowW) (X := (true == true))
    (show WShape.has [] (.bool true) .bool = true by first | rfl | decide | simp [WShape.has, WShape.arms, WShape.armsAll])
    (show (WTm.eq .res (.lit (.bool true))).value [] { args := args, res := some (.bool true), after := args } = some (.bool (true == true)) from w_eq_bool (w_res rfl) w_lit) rfl

theorem attach_call {l : OpenLaw} {n : Nat} {q : Program} {loose : List Str} {XP : (Str → Option Value) → Heap → Prop} {YP : World → Heap → Prop} {d : DefRec}
    (hn : l.most = some n) (hdf : d.params.defaults = [])
    (call : ∀ (w : World) (s₀ s₁ : Shared) (mg mb : Str → Option Value) (fa : Addr) (o : Obj) (pm cd doc : Value) (a : Addr) (vs : List Value) (ns : List Int),
      Ground q loose [] XP w s₀ mg mb s₁.heap → YP w s₁.heap →
      s₁.heap.get? fa = some o → o.data = .func (docDef d.name d.params d.body d.scope pm cd doc) → s₁.heap.CodeRec cd d.name → mg d.name = some (.ref fa) →
      s₁.heap.get? a = some { cls := .type "list", data := .seq vs.toArray } → IntsAre vs ns → ns.length ≤ n → s₁.gens = #[] →
      codeAny (model l.prog w) callerA (.call (.ref fa) ⟨[.ref a], []⟩) (fun r s' => r = .ok (.ret (.bool true)) ∧ OldK s₁.heap s'.heap ∧ s'.os = s₁.os ∧ AllBare s'.gens) s₁) :
    WalkO q loose XP YP l.row.toRowW d [] (fun f vs => PySem.call f vs) := by
  intro w s₀ s₁ mg mb G Y fa o pm cd doc dV kV ho hd hcd hD hmg hg args vals as hpre hlay hrd hwl hlo
  obtain rfl : dV = .none := Dflts.none hD hdf
  obtain rfl : kV = .none := Dflts.noKw hD
  obtain ⟨a, vs, ns, rfl, rfl, hobj, hints, hlen⟩ := script_of hn hpre hwl
  refine enter_call (codeAny_mono (call w s₀ s₁ mg mb fa o pm cd doc a vs ns G Y ho (fd_plain hd) hcd hmg hobj hints hlen hg) fun r s' hq => ?_)
  obtain ⟨rfl, h2, h3, h4⟩ := hq
  exact ⟨.inl ⟨.bool true, .bool true, [], rfl, fun _ => rfl, .bool true, post_true l _, fun _ => ⟨List.Pairwise.nil, fun _ hm => (nomatch hm)⟩⟩, h2, h3, h4⟩

section
variable {prog : Program} {w : World} {A : Around} {E : Value → Shared → Prop} {s : Shared} {K : Frag}

end
end Att

namespace L2
open PySem PySem.Spec PyProof.Rows

theorem vals_ints : ∀ {vs : List Value} {ns : List Int}, IntsAre vs ns → Vals (ns.map V.int) vs
  | _, _, .nil => .nil
  | _, _, .cons n t h => .cons ⟨t, rfl⟩ (vals_ints h)

noncomputable def Only (H : Hp) : Prop := ∀ b, H b = none ∨ ∃ o xs, H b = some (.frz o (.lst xs))

theorem law_call {P : Program} {w : World} {K : PySem.W.Frag} {mg mb : Str → Option Value} {CX : CXT} {k : Nat} {fa a : Addr} {fd : FuncData} {x : Str} {sp : Sp} {s₁ : Shared} {vs : List Value} {ns : List Int}
    (KX : K.In s₁.heap) (hns : s₁.heap.Ns mainGlobals mg) (hb : s₁.heap.Ns builtinsNs mb) (hbb : ∀ x : Str, x ≠ "__name__" → mb x = bootBuiltins x) (hlim : s₁.heap.NoLimit) (hsm : ∃ mm, s₁.heap.Ns sysModules mm) (hg : s₁.gens = #[])
    (ha : s₁.heap.get? a = some { cls := .type "list", data := .seq vs.toArray }) (hi : IntsAre vs ns) (hl : ns.length ≤ sizeLine) (hr : Room k callerA)
    (F : ∀ base : Heap, K.In base → base.Ns mainGlobals mg → FnOk P w K mg base CX k fa fd [x] sp) (hbind : ∀ (s : Shared) (u : Value), BindsTo s fd ⟨[u], []⟩ [(x, u)])
    (hsp : ∀ H : Hp, Only H → SqL K H a (ns.map V.int) → sp [.ref a] H (fun v _ => v = .bl true) fun _ _ _ => False)
    (hCX : ∀ H e s', CX [] H s₁ (fun _ _ _ => False) e s' → False) :
    codeAny (model P w) callerA (.call (.ref fa) ⟨[.ref a], []⟩) (fun r s' => r = .ok (.ret (.bool true)) ∧ OldK s₁.heap s'.heap ∧ s'.os = s₁.os ∧ AllBare s'.gens) s₁ := by
  have rv := vals_ints hi
  have lenV := hi.length
  -- from an abstract heap in which nothing but the script may be tracked
  have core : ∀ H : Hp, Only H → SqL K H a (ns.map V.int) → HOk P w H s₁.heap → (∀ b, H b ≠ none → b = a) → (H a ≠ none → K.lookup a = none) →
      codeAny (model P w) callerA (.call (.ref fa) ⟨[.ref a], []⟩) (fun r s' => r = .ok (.ret (.bool true)) ∧ OldK s₁.heap s'.heap ∧ s'.os = s₁.os ∧ AllBare s'.gens) s₁ := by
    intro H hO hS hok hA hK
    have base_of : ∀ {b : Addr} {o : Obj}, s₁.heap.get? b = some o → H b = none → (hidT s₁.heap H).get? b = some o := fun e n => hidT_get e n
    have noA : ∀ {b : Addr} {o : Obj} {es : Array DictEntry} {ep : Nat}, s₁.heap.get? b = some o → o.data = .dict es ep → H b = none := fun {b o es ep} e d => by
      cases q : H b with
      | none => rfl
      | some u =>
        have e' : b = a := hA b (by rw [q]; simp)
        subst e'
        rw [ha] at e; cases e
        have d' : Data.seq vs.toArray _ = Data.dict es ep := d
        cases d'
    have nsK : ∀ {b : Addr} {m : Str → Option Value}, s₁.heap.Ns b m → (hidT s₁.heap H).Ns b m := fun {b m} ⟨o, es, ep, e, d, r⟩ => ⟨o, es, ep, base_of e (noA e d), d, r⟩
    have hKb : K.In (hidT s₁.heap H) := fun b o e => base_of (KX b o e) (by
      cases q : H b with
      | none => rfl
      | some u =>
        have e' : b = a := hA b (by rw [q]; simp)
        subst e'
        rw [hK (by rw [q]; simp)] at e; cases e)
    have hM : Mod K mg (hidT s₁.heap H) := ⟨hKb, nsK hns, ⟨mb, nsK hb, hbb⟩, (let ⟨mc, h1, h2⟩ := hlim; ⟨mc, nsK h1, h2⟩), let ⟨mm, h1⟩ := hsm; ⟨mm, nsK h1⟩⟩
    have e0 : Env0 P w K mg (hidT s₁.heap H) callerA [] s₁ H := ⟨rfl, hM, fun b o e => of_hidT e, Nat.le_of_eq (hidT_size _ _), trivial, fun b hb => absurd (show b ∈ ([] : List Addr) from hb) (by simp), hok, .of_eq hg⟩
    refine codeAny_mono ((F _ hKb (nsK hns)).run callerA [] s₁ H ⟨[.ref a], []⟩ [.ref a] [.ref a] _ _ hr e0 (hbind s₁ (.ref a)) (.cons rfl .nil) (hsp H hO hS)) fun r s' h => ?_
    cases r with
    | error e => exact (hCX H e s' h).elim
    | ok fl =>
      cases fl with
      | next => exact False.elim h
      | brk => exact False.elim h
      | cont => exact False.elim h
      | ret u =>
        obtain ⟨v, H', os, bare, un, hok', r', q⟩ := h
        have q' : v = .bl true := q
        subst q'
        obtain rfl : u = Value.bool true := r'
        refine ⟨rfl, OldK.of_keep fun b o e => ?_, os, bare⟩
        cases q : H b with
        | none => exact un.keep b o e q (by intro z; exact absurd (show b ∈ ([] : List Addr) from z) (by simp)) (by simp)
        | some u =>
          rcases hO b with z | ⟨ob, xs, z⟩
          · rw [q] at z; cases z
          · have z2 := un.frzs b ob _ z
            obtain ⟨e1, _⟩ := hok b _ z
            obtain ⟨e2, _⟩ := hok' b _ z2
            rw [e] at e1; cases e1
            exact e2
  cases hk : K.lookup a with
  | some o =>
    -- the script is one of the module's own objects
    have e := KX a o hk
    rw [ha] at e
    cases e
    refine core (fun _ => none) (fun _ => .inl rfl) (.inr ⟨_, vs.toArray, _, hk, rfl, rfl, rfl, by rw [List.size_toArray, lenV]; exact hl, by simpa using rv⟩) (fun b u z => by have z' : (none : Option HO) = some u := z; cases z') (fun b z => absurd rfl z) fun z => absurd rfl z
  | none =>
    refine core (fun b => if b = a then some (.frz { cls := .type "list", data := .seq vs.toArray } (.lst (ns.map V.int))) else none) (fun b => ?_) (.inl (.inr ⟨{ cls := .type "list", data := .seq vs.toArray }, if_pos rfl⟩)) (fun b u z => ?_) (fun b z => ?_) fun _ => hk
    · by_cases hb : b = a
      · exact .inr ⟨_, _, if_pos hb⟩
      · exact .inl (if_neg hb)
    · by_cases hb : b = a
      · have z' := (if_pos hb).symm.trans z
        cases z'
        subst hb
        exact ⟨ha, by rw [List.length_map]; exact hl, vs, _, rv, ha⟩
      · have z' := (if_neg hb).symm.trans z
        cases z'
    · by_cases hb : b = a
      · exact hb
      · exact absurd (if_neg hb) z
end L2

namespace L2
open PySem PySem.Spec PyProof.Rows

noncomputable abbrev KOf {K : PySem.W.Frag} {h : Heap} (_ : K.In h) : PySem.W.Frag := K

theorem walk_of {l : PySem.W.OpenLaw} {n k : Nat} {q : Program} {loose : List Str} {XP : (Str → Option Value) → Heap → Prop} {YP : World → Heap → Prop} {d : DefRec} {K : Params → PySem.W.Frag} {CX : World → CXT} {sp : World → Sp} {x : Str}
    (hn : l.most = some n) (hn2 : n ≤ sizeLine) (hdf : d.params.defaults = []) (hr : Room k callerA)
    (hY : ∀ (w : World) (h : Heap), YP w h → (K w.params).In h)
    (F : ∀ (w : World) (mg : Str → Option Value) (fa : Addr) (h : Heap), (K w.params).In h → h.Ns mainGlobals mg → mg d.name = some (.ref fa) →
      ∃ fd : FuncData, (∀ (s : Shared) (u : Value), BindsTo s fd ⟨[u], []⟩ [(x, u)]) ∧
        ∀ base : Heap, (K w.params).In base → base.Ns mainGlobals mg → FnOk l.prog w (K w.params) mg base (CX w) k fa fd [x] (sp w))
    (hsp : ∀ (w : World) (H : Hp) (a : Addr) (ns : List Int), ns.length ≤ n → Only H → SqL (K w.params) H a (ns.map V.int) → sp w [.ref a] H (fun v _ => v = .bl true) fun _ _ _ => False)
    (hCX : ∀ (w : World) (H : Hp) (s : Shared) (e : Value) (s' : Shared), CX w [] H s (fun _ _ _ => False) e s' → False) (him : importsNone q = true) :
    PySem.W.WalkO q loose XP YP l.row.toRowW d [] (fun f vs => PySem.call f vs) := by
  refine Att.attach_call hn hdf fun w s₀ s₁ mg mb fa o pm cd doc a vs ns G Y ho hd hcd hmg hobj hints hlen hg => ?_
  have KX := hY w _ Y
  obtain ⟨fd, hb, hF⟩ := F w mg fa _ KX G.T.g hmg
  exact law_call KX G.T.g G.T.b G.T.builtins G.T.nolimit (let ⟨mm, h1, _⟩ := (G.T.seer him).mods; ⟨mm, h1⟩) hg hobj hints (Nat.le_trans hlen hn2) hr hF hb (fun H hO hS => hsp w H a ns hlen hO hS) fun H e s' => hCX w H s₁ e s'
end L2


namespace L2
open PySem PySem.Spec PyProof.Rows

noncomputable def defArgs (s : Stmt) : Arguments := match s with
  | .FunctionDef _ a _ _ _ _ _ _ _ _ => a
  | _ => { posonlyargs := [], args := [], vararg := none, kwonlyargs := [], kw_defaults := [], kwarg := none, defaults := [] }
noncomputable def defBody (s : Stmt) : List Stmt := match s with
  | .FunctionDef _ _ b _ _ _ _ _ _ _ => b
  | _ => []
noncomputable def defScope (s : Stmt) : Scope := match s with
  | .FunctionDef _ _ _ _ _ _ sc _ _ _ => sc
  | _ => { kind := .function, names := [], isGenerator := false, isCoroutine := false }

noncomputable abbrev CX0 : CXT := fun _ _ _ _ _ _ => False
noncomputable abbrev E0 : XK := fun _ _ _ => False
theorem pass0 {X : Cx} : Passes CX0 X E0 := fun _ _ _ _ _ _ _ h => h.elim

structure Fun (K : PySem.W.Frag) (x qual : Str) (st : Stmt) (f : Addr) (fd : FuncData) : Prop where
  ex : ∃ (oc : Value) (od : Option Addr) (kV doc pm : Value) (an : Option Addr) (cdv ct : Value) (osl : Array (Option Value)),
    fd = PySem.W.fnOf x qual (defArgs st) (defBody st) (defScope st) .none kV doc pm an cdv ct ∧ K.lookup f = some ⟨oc, od, .func fd, osl⟩ ∧ PySem.W.codeIn K cdv qual = true
  kp : PySem.W.keepIn K (.ref f) = true
section
variable {P : Program} {w : World} {K : PySem.W.Frag} {mg : Str → Option Value} {base : Heap}
theorem Fun.ok {x qual : Str} {st : Stmt} {f : Addr} {fd : FuncData} {N ps : List Str} {k : Nat} {sp : Sp} (F : Fun K x qual st f fd) (S : FnScope N ps (defScope st)) (len : ∀ vs H Q E, sp vs H Q E → vs.length = ps.length)
    (hbody : ∀ (cdv : Value) (A : Around) (outer : List Env) (s : Shared) (H : Hp) (vs : List V) (Q : VK) (E : XK), Room k (A.deeper (envOfC qual (defScope st) s.heap.objs.size f cdv)) → sp vs H Q E →
      ∃ t, PSs (cxOf CX0 P w K mg base N qual (defScope st) f cdv A outer s H E).nox (defBody st) t ∧ t { nx := fun _ H' => Q .non H', rt := Q } (start N vs) H) : FnOk P w K mg base CX0 (k + 1) f fd ps sp := by
  obtain ⟨oc, od, kV, doc, pm, an, cdv, ct, osl, rfl, lk, hcd⟩ := F.ex
  refine fn_of lk hcd S len fun A outer s H vs Q E hr hsp => ?_
  obtain ⟨t, h, q⟩ := hbody cdv A outer s H vs Q E hr hsp
  exact ⟨t, h.nox, q⟩
theorem Fun.binds {x qual : Str} {st : Stmt} {f : Addr} {fd : FuncData} {ps : List Str} (F : Fun K x qual st f fd)
    (h : ∀ (kV doc pm : Value) (an : Option Addr) (cdv ct : Value) (us : List Value), us.length = ps.length → bindArgs (PySem.W.fnOf x qual (defArgs st) (defBody st) (defScope st) .none kV doc pm an cdv ct) ⟨us, []⟩ = pure (ps.zip us)) : Binds K fd ps [] := by
  obtain ⟨oc, od, kV, doc, pm, an, cdv, ct, osl, rfl, lk, hcd⟩ := F.ex
  exact .all (h kV doc pm an cdv ct)
theorem fun_mk {x qual : Str} {st : Stmt} {f : Addr} {oc : Value} {od an : Option Addr} {osl : Array (Option Value)} {kV doc pm cdv ct : Value} (l : K.lookup f = some ⟨oc, od, .func (PySem.W.fnOf x qual (defArgs st) (defBody st) (defScope st) .none kV doc pm an cdv ct), osl⟩)
    (c : PySem.W.codeIn K cdv qual = true) (k : PySem.W.keepIn K (.ref f) = true) : Fun K x qual st f (PySem.W.fnOf x qual (defArgs st) (defBody st) (defScope st) .none kV doc pm an cdv ct) := ⟨⟨oc, od, kV, doc, pm, an, cdv, ct, osl, rfl, l, c⟩, k⟩
end
section
variable {X : Cx}
end

theorem iteF {A B : Prop} (h : B) : if false = true then A else B := by
  rw [if_neg Bool.false_ne_true]
  exact h
theorem iteT {A B : Prop} (h : A) : if true = true then A else B := by
  rw [if_pos rfl]
  exact h
noncomputable def Same (H H' : Hp) : Prop := ∀ b o, H b = some o → H' b = some o
theorem Same.refl (H : Hp) : Same H H := fun _ _ h => h
theorem Same.trans {H H1 H2 : Hp} (a : Same H H1) (b : Same H1 H2) : Same H H2 := fun c o h => b c o (a c o h)
theorem Same.free {H H' : Hp} (e : Same H H') {l : Addr} (h : H' l = Option.none) : H l = Option.none := by
  cases q : H l with
  | none => rfl
  | some o =>
    rw [e l o q] at h
    cases h
end L2

set_option maxHeartbeats 4000000
namespace L2
open PySem PySem.Spec PyProof.Rows

noncomputable def clOf (env : Env) : List (Str × NameKind) → List (Str × Addr) → List (Str × Addr)
  | [], acc => acc
  | (n, k) :: r, acc => clOf env r (if k == .free then (match env.cells.lookup n with | some c => (n, c) :: acc | none => acc) else acc)
theorem clOf_mem {env : Env} : ∀ {names : List (Str × NameKind)} {acc : List (Str × Addr)}, (∀ x c, (x, c) ∈ acc → env.cells.lookup x = some c) → ∀ x c, (x, c) ∈ clOf env names acc → env.cells.lookup x = some c
  | [], _, h, x, c, m => h x c m
  | (n, k) :: r, acc, h, x, c, m => by
    refine clOf_mem (names := r) ?_ x c m
    intro y d hm
    cases hk : (k == NameKind.free) with
    | false => rw [hk] at hm; exact h y d hm
    | true =>
      rw [hk] at hm
      simp only [if_true] at hm
      cases e : env.cells.lookup n with
      | none => rw [e] at hm; exact h y d hm
      | some c' =>
        rw [e] at hm
        rcases List.mem_cons.mp hm with z | z
        · cases z; exact e
        · exact h y d z
theorem clOf_sub {env : Env} : ∀ {names : List (Str × NameKind)} {acc : List (Str × Addr)} {p : Str × Addr}, p ∈ acc → p ∈ clOf env names acc
  | [], _, _, h => h
  | (n, k) :: r, acc, p, h => by
    refine clOf_sub (names := r) ?_
    split
    · split
      · exact List.mem_cons_of_mem _ h
      · exact h
    · exact h
theorem clOf_has {env : Env} {x : Str} {c : Addr} (e : env.cells.lookup x = some c) : ∀ {names : List (Str × NameKind)} {acc : List (Str × Addr)}, (x, NameKind.free) ∈ names → (x, c) ∈ clOf env names acc
  | [], _, h => by simp at h
  | (n, k) :: r, acc, h => by
    rcases List.mem_cons.mp h with z | z
    · cases z
      refine clOf_sub (names := r) ?_
      rw [e]
      simp
    · exact clOf_has e (names := r) z
theorem lookup_of_all {l : List (Str × Addr)} {x : Str} {c : Addr} (hm : (x, c) ∈ l) (ha : ∀ d, (x, d) ∈ l → d = c) : l.lookup x = some c := by
  induction l with
  | nil => simp at hm
  | cons p r ih =>
    obtain ⟨n, d⟩ := p
    by_cases e : x = n
    · subst e
      have : d = c := ha d (by simp)
      subst this
      simp [List.lookup_cons]
    · have hb : (x == n) = false := by simpa using e
      rw [List.lookup_cons, hb]
      refine ih ?_ fun d' h' => ha d' (List.mem_cons_of_mem _ h')
      rcases List.mem_cons.mp hm with z | z
      · cases z; exact absurd rfl e
      · exact z
theorem clOf_lookup {env : Env} {names : List (Str × NameKind)} {x : Str} {c : Addr} (e : env.cells.lookup x = some c) (h : (x, NameKind.free) ∈ names) : (clOf env names []).lookup x = some c :=
  lookup_of_all (clOf_has e h) fun d hd => by
    have q := clOf_mem (names := names) (acc := []) (env := env) (by simp) x d hd
    rw [e] at q
    exact (Option.some.inj q).symm
theorem clOf_some {env : Env} {names : List (Str × NameKind)} {x : Str} {c : Addr} (e : (clOf env names []).lookup x = some c) : env.cells.lookup x = some c :=
  clOf_mem (names := names) (acc := []) (env := env) (by simp) x c (PySem.mem_of_lookup e)

theorem closure_eq {env : Env} : ∀ (names : List (Str × NameKind)) (acc : List (Str × Addr)), (∀ x ∈ names, x.2 = NameKind.free → ∃ c, env.cells.lookup x.1 = some c) →
    (forIn (m := Sem) names acc fun x r => match x with
      | (name, kind) => if (kind == NameKind.free) = true then do let c ← cellOf env name; pure (ForInStep.yield ((name, c) :: r)) else pure (ForInStep.yield r)) = pure (clOf env names acc)
  | [], acc, _ => rfl
  | (n, k) :: r, acc, h => by
    rw [List.forIn_cons]
    cases hk : (k == NameKind.free) with
    | false =>
      simp only [hk, Bool.false_eq_true, if_false, pure_bind, clOf]
      exact closure_eq r acc fun x hx => h x (List.mem_cons_of_mem _ hx)
    | true =>
      obtain ⟨c, e⟩ := h (n, k) List.mem_cons_self (by simpa using hk)
      simp only [hk, if_true, pure_bind, clOf, cellOf, e]
      exact closure_eq r ((n, c) :: acc) fun x hx => h x (List.mem_cons_of_mem _ hx)
theorem closureFor_cl {scope : Scope} {env : Env} (h : ∀ x ∈ scope.names, x.2 = NameKind.free → ∃ c, env.cells.lookup x.1 = some c) : closureFor scope env = pure (clOf env scope.names []) := by
  unfold closureFor
  have := closure_eq (env := env) scope.names [] h
  simp only [this, pure_bind]

theorem comp_loop {prog : Program} {w : World} {A : Around} {R : Result → Shared → Prop} {s : Shared} {elt target iter : Expr} {ifs : List Expr} {scope : Scope} {pos : Pos} {it acc : Value} {env : Env} (I : Nat → Shared → Prop)
    (turn : ∀ n s, I n s → wpAny (model prog w) A (pyNext it) (fun r s₁ => match r with
      | none => R (.ok .next) s₁
      | some v => wpAny (model prog w) A (letOwnedTupleGo target it v) (fun _ s₁' => wpAny (model prog w) A (assign target env v) (fun _ s₂ =>
          wpAny (model prog w) A (forIn ifs true fun c r => if r = true then do let ok ← isTrue c env (eval c env); pure (ForInStep.yield ok) else pure (ForInStep.yield r)) (fun ok s₃ =>
            if ok = true then wpAny (model prog w) A (eval elt env) (fun x s₄ =>
              wpAny (model prog w) A (call (.builtin "list.append") [acc, x]) (fun _ s₅ => ∃ m, m < n ∧ I m s₅) (fun _ _ => False) s₄) (fun _ _ => False) s₃
            else ∃ m, m < n ∧ I m s₃) (fun _ _ => False) s₂) (fun _ _ => False) s₁') (fun _ _ => False) s₁) (fun _ _ => False) s)
    (n : Nat) (h : I n s) :
    codeAny (model prog w) A (.compLoop (.ListComp elt [⟨target, iter, ifs, 0⟩] scope pos) 0 it acc env) R s := by
  refine codeAny_loop rfl I (fun n s hI => ?_) n h
  show wpAny _ A ((compTurn (.ListComp elt [⟨target, iter, ifs, 0⟩] scope pos) 0 it acc env).onRaise (fun x => do noteFrame x env; theTreesLotGoes x)) _ _ s
  refine wpAny_noted ?_
  rw [compTurn_list]
  refine wpAny_bind (wpAny_standAt (wpAny_bind (wpAny_mono (turn n s hI) (fun r s₁ h₁ => ?_) fun _ _ h' => h'.elim)))
  cases r with
  | none => exact wpAny_pure h₁
  | some v =>
    refine wpAny_bind (wpAny_mono h₁ (fun _ s₁' h₁' => ?_) fun _ _ h' => h'.elim)
    refine wpAny_bind (wpAny_mono h₁' (fun _ s₂ h₂ => wpAny_bind (wpAny_mono h₂ (fun ok s₃ h₃ => ?_) fun _ _ h' => h'.elim)) fun _ _ h' => h'.elim)
    cases ok with
    | false => exact wpAny_pure ⟨rfl, h₃⟩
    | true =>
      exact wpAny_bind (wpAny_bind (wpAny_mono h₃ (fun x s₄ h₄ => wpAny_bind (wpAny_mono h₄ (fun _ s₅ h₅ => wpAny_pure (wpAny_pure ⟨rfl, h₅⟩)) fun _ _ h' => h'.elim)) fun _ _ h' => h'.elim))
end L2

namespace L2
open PySem PySem.Spec PyProof.Rows

noncomputable def cxC (X : Cx) (N' : List Str) (scope : Scope) (C : Addr) (s₀ : Shared) (H₀ : Hp) (ex : List Addr) : Cx :=
  { X with N := N', s₀ := s₀, H₀ := H₀, env := compEnvC scope (clOf X.env scope.names []) C X.env, outer := X.stack, ex := ex, fn := fun _ => false, pn := [], xe := fun _ _ => False }
noncomputable def subSt (sub : List (Option Nat)) (σ : St) : St := sub.map fun o => o.bind fun j => (σ[j]?).join
structure SubOk (N : List Str) (sc : Scope) (N' : List Str) (scope : Scope) (sub : List (Option Nat)) : Prop where
  kind : scope.kind = .function
  nocell : ∀ x ∈ scope.names, x.2 ≠ .cell
  loc : ∀ x ∈ scope.names, x.2 = .local → scope.names.lookup x.1 = some .local
  free : ∀ x ∈ scope.names, x.2 = .free → sc.names.lookup x.1 = some .cell ∨ sc.names.lookup x.1 = some .free
  len : sub.length = N'.length
  at_ : ∀ (i j : Nat) (x : Str), sub[i]? = some (some j) → N'[i]? = some x → N[j]? = some x ∧ (x, NameKind.free) ∈ scope.names ∧ scope.names.lookup x = some .free
noncomputable def subOkB (N : List Str) (sc : Scope) (N' : List Str) (scope : Scope) (sub : List (Option Nat)) : Bool :=
  decide (scope.kind = .function) && scope.names.all (fun x => decide (x.2 ≠ .cell)) && scope.names.all (fun x => decide (x.2 = .local → scope.names.lookup x.1 = some .local)) &&
  scope.names.all (fun x => decide (x.2 = .free → sc.names.lookup x.1 = some .cell ∨ sc.names.lookup x.1 = some .free)) && decide (sub.length = N'.length) &&
  (List.range sub.length).all fun i => match sub[i]?, N'[i]? with
    | some (some j), some x => decide (N[j]? = some x ∧ (x, NameKind.free) ∈ scope.names ∧ scope.names.lookup x = some .free)
    | _, _ => true
theorem subOk_of {N : List Str} {sc : Scope} {N' : List Str} {scope : Scope} {sub : List (Option Nat)} (h : subOkB N sc N' scope sub = true) : SubOk N sc N' scope sub := by
  simp only [subOkB, Bool.and_eq_true, decide_eq_true_eq, List.all_eq_true] at h
  obtain ⟨⟨⟨⟨⟨h1, h2⟩, h3⟩, h4⟩, h5⟩, h6⟩ := h
  refine ⟨h1, h2, h3, h4, h5, fun i j x e1 e2 => ?_⟩
  have hi : i < sub.length := (List.getElem?_eq_some_iff.mp e1).1
  have q := h6 i (List.mem_range.mpr hi)
  rw [e1, e2] at q
  simpa using q

noncomputable def tTrue : TT := fun _ H Q => Q true H
noncomputable def PIfs (X : Cx) (ifs : List Expr) (t : TT) : Prop :=
  ∀ (pins : List (Addr × Obj)) (s : Shared) (σ : St) (H : Hp) (Q : Bool → Hp → Prop), Inv X pins σ H s → t σ H Q →
    wpAny (model X.prog X.w) X.A (forIn ifs true fun c r => if r = true then do let ok ← isTrue c X.env (eval c X.env); pure (ForInStep.yield ok) else pure (ForInStep.yield r)) (TP X pins σ Q) X.xe s
theorem pifs_nil {X : Cx} : PIfs X [] tTrue := fun _ _ _ H _ I h => wpAny_tests_nil ⟨H, I, h⟩
theorem pifs_one {X : Cx} {c : Expr} {t : TT} (hc : PT X c t) : PIfs X [c] t := fun pins s σ H Q I h => wpAny_tests_one (hc pins s σ H Q I h)

noncomputable def KeepSt (σ σ' : St) : Prop := σ'.length = σ.length ∧ ∀ (i : Nat) (v : V), σ[i]? = some (some v) → σ'[i]? = some (some v)
theorem KeepSt.set {σ : St} {i : Nat} {v : V} (h : σ[i]? = some none) : KeepSt σ (σ.set i (some v)) := by
  refine ⟨by simp, fun j u e => ?_⟩
  by_cases hj : i = j
  · subst hj; rw [h] at e; cases e
  · rw [List.getElem?_set_ne hj]; exact e
noncomputable def tComp (sub : List (Option Nat)) (wi : TI) (g : TG) (tt : TT) (te : TE) : TE := fun σ H Q => wi σ H fun J H1 => ∃ W : Nat → Nat → List V → Hp → Prop, (∃ m, W 0 m [] H1) ∧ ∀ i m ys H, W i m ys H →
  (J.stop i H ∧ ys.length ≤ sizeLine ∧ ∀ D, H D = none → Q (.ref D) (upd H D (.lst ys))) ∨
  (J.go i H ∧ ys.length < sizeLine ∧ ∃ N : List V → Hp → Prop, (∀ ys' H', N ys' H' → ∃ m', m' < m ∧ W (i + 1) m' ys' H') ∧
    ∀ x H', J.yld i H x H' → g x (subSt sub σ) H' fun σ2 H2 => KeepSt (subSt sub σ) σ2 ∧ tt σ2 H2 fun b H3 => if b = true then te σ2 H3 fun y H4 => N (ys ++ [y]) H4 else N ys H3)

theorem relabel_free {scope : Scope} {env : Env} {x : Str} (hx : scope.names.lookup x = some .free) : (relabel scope env).names.lookup x = some .cell ∨ (relabel scope env).names.lookup x = some .free := by
  have : ∀ names : List (Str × NameKind), names.lookup x = some .free →
    (names.map fun (n, k) => if (k == NameKind.free && env.scope.kind == .function && env.kindOf n == some .cell) then (n, NameKind.cell) else (n, k)).lookup x = some .cell ∨
    (names.map fun (n, k) => if (k == NameKind.free && env.scope.kind == .function && env.kindOf n == some .cell) then (n, NameKind.cell) else (n, k)).lookup x = some .free := by
    intro names
    induction names with
    | nil => intro h; simp at h
    | cons p r ih =>
      obtain ⟨n, k⟩ := p
      intro h
      by_cases e : x = n
      · subst e
        have hk : k = .free := by simpa [List.lookup_cons] using h
        subst hk
        by_cases hc : ((NameKind.free == NameKind.free && env.scope.kind == .function && env.kindOf x == some .cell) = true)
        · left; simp only [List.map_cons]; rw [if_pos hc]; simp [List.lookup_cons]
        · right; simp only [List.map_cons]; rw [if_neg hc]; simp [List.lookup_cons]
      · have hb : (x == n) = false := by simpa using e
        rw [List.lookup_cons, hb] at h
        have q := ih h
        simp only [List.map_cons]
        split <;> (rw [List.lookup_cons, hb]; exact q)
  exact this scope.names hx
theorem relabel_back {scope : Scope} {env : Env} {x : Str} (hn : ∀ y ∈ scope.names, y.2 ≠ .cell) (h : (relabel scope env).names.lookup x = some .cell ∨ (relabel scope env).names.lookup x = some .free) : (x, NameKind.free) ∈ scope.names := by
  have key : ∀ k, (k = NameKind.cell ∨ k = NameKind.free) → (relabel scope env).names.lookup x = some k → (x, NameKind.free) ∈ scope.names := by
    intro k hk hl
    have hm := PySem.mem_of_lookup hl
    unfold relabel at hm
    obtain ⟨⟨n, k'⟩, hm1, hm2⟩ := List.mem_map.mp hm
    dsimp only at hm2
    by_cases hc : (k' == NameKind.free && env.scope.kind == .function && env.kindOf n == some .cell) = true
    · rw [if_pos hc] at hm2
      cases hm2
      simp only [Bool.and_eq_true, beq_iff_eq] at hc
      rw [← hc.1.1]; exact hm1
    · rw [if_neg hc] at hm2
      cases hm2
      rcases hk with hk | hk
      · subst hk; exact absurd rfl (hn _ hm1)
      · subst hk; exact hm1
  rcases h with h | h
  · exact key _ (.inl rfl) h
  · exact key _ (.inr rfl) h

section
variable {X : Cx} {tg iter elt : Expr} {ifs : List Expr} {scope : Scope} {pos : Pos} {N' : List Str} {sub : List (Option Nat)} {wi : TI} {g : TG} {tt : TT} {te : TE}

theorem inv_block {pins : List (Addr × Obj)} {σ : St} {H : Hp} {s : Shared} {fp : List Addr} {D : Addr} {h' : Heap} {tk : Nat} {N : List Str} {sc : Scope} (S : SubOk N sc N' scope sub) (hN : X.N = N) (hsc : X.env.scope = sc) (I : Inv X pins σ H s) (hf : ∀ b ∈ fp, FpOk X pins H b) (hfo : ∀ b ∈ fp, b < s.heap.objs.size)
    (hD : D < s.heap.objs.size) (fD : FpOk X pins H D) (hns : h'.Ns s.heap.objs.size fun _ => none) (hk : ∀ b o, s.heap.get? b = some o → h'.get? b = some o) :
    Inv (cxC X N' scope s.heap.objs.size s H (D :: fp)) [] (subSt sub σ) H { s with heap := h', toks := tk } := by
  have hex : ∀ b ∈ D :: fp, FpOk X pins H b ∧ b < s.heap.objs.size := fun b hb => by
    rcases List.mem_cons.mp hb with rfl | z
    · exact ⟨fD, hD⟩
    · exact ⟨hf b z, hfo b z⟩
  refine ⟨⟨I.ok.mod, S.kind, I.ok.glob, I.ok.blt, Nat.le_refl _, fun x y c h1 h2 => I.ok.inj x y c (clOf_some h1) (clOf_some h2), fun x hx => ?_, fun x c hx _ => (nomatch hx), I.ok.hd, I.ok.frames, .inl rfl, fun b hb => ?_, I.bs, Nat.le_trans I.ok.bsz I.sz, fun b o e hb => ?_, fun b hb => ?_, I.stack, I.stkFree⟩,
    rfl, I.bare, Un.kept hk, ⟨_, hns, fun i x v h1 h2 h3 => ?_⟩, fun x c h => ?_, I.hok.fresh (Nat.le_refl _), fun x c h => I.freeC x c (clOf_some h), fun p hp => (nomatch hp), I.hok.kept hk, ?_⟩
  · have hx' : (x, NameKind.free) ∈ scope.names := relabel_back S.nocell hx
    obtain ⟨c, e⟩ := I.ok.has x (by have := S.free _ hx' rfl; rw [← hsc] at this; exact this)
    exact ⟨c, clOf_lookup e hx'⟩
  · obtain ⟨⟨f0, f1, f2, f3, f4, f5⟩, hlt⟩ := hex b hb
    exact ⟨Nat.ne_of_lt hlt, fun x c h => f4 x c (clOf_some h)⟩
  · obtain ⟨⟨f0, f1, f2, f3, f4, f5⟩, hlt⟩ := hex b hb
    rcases f3 with z | z
    · exact I.ok.noex b o e z
    · exact absurd (Nat.lt_of_lt_of_le (Heap.lt_size (I.ok.bs b o e).1) z) (Nat.lt_irrefl _)
  · obtain ⟨⟨f0, f1, f2, f3, f4, f5⟩, hlt⟩ := hex b hb
    intro z
    rcases List.mem_cons.mp (I.stkSub b z) with z | z
    · exact f1 z
    · exact f2 z
  · have hs : ∃ j, sub[i]? = some (some j) ∧ σ[j]? = some (some v) := by
      unfold subSt at h2
      rw [List.getElem?_map] at h2
      cases e : sub[i]? with
      | none => rw [e] at h2; cases h2
      | some o =>
        rw [e] at h2
        cases o with
        | none => cases h2
        | some j =>
          refine ⟨j, rfl, ?_⟩
          have h3 : (σ[j]?).join = some v := Option.some.inj h2
          cases e2 : σ[j]? with
          | none => rw [e2] at h3; cases h3
          | some z => rw [e2] at h3; cases z with
            | none => cases h3
            | some z => cases h3; rfl
    obtain ⟨j, e1, e2⟩ := hs
    obtain ⟨g1, g2, g3⟩ := S.at_ i j x e1 h1
    rw [← hN] at g1
    obtain ⟨m, hn, hl⟩ := I.loc
    have hkf : X.env.kindOf x = some .cell ∨ X.env.kindOf x = some .free := by have := S.free _ g2 rfl; rw [← hsc] at this; exact this
    have hvis : Vis X.env.scope x := by
      rcases hkf with z | z
      · exact .inr (.inl z)
      · exact .inr (.inr z)
    obtain ⟨u, r, l⟩ := hl j x v g1 e2 hvis
    refine ⟨u, r, .inr ⟨relabel_free g3, ?_⟩⟩
    rcases l with ⟨k, _⟩ | ⟨_, c, e, o, ho, hd⟩
    · have k' : X.env.kindOf x = some .local := k
      rcases hkf with z | z <;> (rw [k'] at z; cases z)
    · exact ⟨c, clOf_lookup e g2, o, hk _ _ ho, hd⟩
  · obtain ⟨v, o, ho, hd⟩ := I.cell x c (clOf_some h)
    exact ⟨v, o, hk _ _ ho, hd⟩
  · show (subSt sub σ).length = N'.length
    unfold subSt
    rw [List.length_map]
    exact S.len

theorem pe_comp {N : List Str} {sc : Scope} (S : SubOk N sc N' scope sub) (hc : X.calm = true) (hN : X.N = N) (hsc : X.env.scope = sc) (hi : PI X tg iter wi)
    (hg : ∀ (C : Addr) (s₀ : Shared) (H₀ : Hp) (ex : List Addr), PG (cxC X N' scope C s₀ H₀ ex) tg g)
    (ht : ∀ (C : Addr) (s₀ : Shared) (H₀ : Hp) (ex : List Addr), PIfs (cxC X N' scope C s₀ H₀ ex) ifs tt)
    (he : ∀ (C : Addr) (s₀ : Shared) (H₀ : Hp) (ex : List Addr), PE (cxC X N' scope C s₀ H₀ ex) elt te)
    (hs : autoParam (∀ x, foldedSetIterable iter X.env x = pure x) L2.auto3._auto_1) :
    PE X (.ListComp elt [⟨tg, iter, ifs, 0⟩] scope pos) (tComp sub wi g tt te) := by
  intro pins s σ H Q I h
  rw [eval_ListComp]
  have hcl : ∀ x ∈ scope.names, x.2 = NameKind.free → ∃ c, X.env.cells.lookup x.1 = some c := fun x hx hk => I.ok.has x.1 (by have := S.free x hx hk; rw [← hsc] at this; exact this)
  refine wpAny_comprehension_free (use := none) rfl hs (closureFor_cl hcl) S.kind S.loc ?_
  refine thn (hi pins s σ H _ I h) fun v s1 h1 => thn h1 fun itv s2 h2 => ?_
  obtain ⟨it, fp, tn, J, H2, e, I2, T, st2, f2, W, ⟨m0, w0⟩, turn⟩ := h2
  subst e
  refine wpAny_newObj_type (wpAny_newFunctionEnv S.nocell (by intro y hy; simp at hy) (fun h₁ hns₁ hsb₁ => ?_) S.kind)
  dsimp only at hns₁ hsb₁ ⊢
  generalize hs3 : ({ s2 with heap := s2.heap.push { cls := .type "list", dict := none, data := .seq ([] : List Value).toArray } } : Shared) = s3
  have e3 : s2.heap.push { cls := .type "list", dict := none, data := .seq ([] : List Value).toArray } = s3.heap := by rw [← hs3]
  rw [e3] at hns₁ hsb₁ ⊢
  have hD3 : s3.heap.get? s2.heap.objs.size = some { cls := .type "list", dict := none, data := .seq ([] : List Value).toArray } := by rw [← e3]; exact Heap.get?_push_size _ rfl
  have I3 : Inv X pins σ H2 s3 := by
    rw [← hs3]
    exact I2.kept (t' := s2.toks) fun b o e => Heap.get?_push_of_some _ e
  have k23 : ∀ b o, s2.heap.get? b = some o → s3.heap.get? b = some o := fun b o e => by rw [← e3]; exact Heap.get?_push_of_some _ e
  have hsz : s3.heap.objs.size = s2.heap.objs.size + 1 := by rw [← e3, Heap.size_push]
  have hk31 : ∀ b o, s3.heap.get? b = some o → h₁.get? b = some o := fun b o e => hsb₁.extBut b o (Nat.ne_of_lt (Heap.lt_size e)) (Heap.get?_push_of_some _ e)
  have hDn : H2 s2.heap.objs.size = none := I2.hok.fresh (Nat.le_refl _)
  have fD : FpOk X pins H2 s2.heap.objs.size := I2.fpOk (Nat.le_refl _) hDn
  have hfo : ∀ b ∈ fp, b < s2.heap.objs.size := fun b hb => let ⟨o, e, _⟩ := T.obj _ _ st2 b hb; Heap.lt_size e
  have hDfp : s2.heap.objs.size ∉ fp := fun z => absurd (hfo _ z) (Nat.lt_irrefl _)
  have I4 := inv_block (tk := s3.toks + ([] : List (Str × Value)).length) S hN hsc I3 f2 (fun b hb => by rw [hsz]; exact Nat.lt_succ_of_lt (hfo b hb)) (D := s2.heap.objs.size) (by rw [hsz]; exact Nat.lt_succ_self _) fD hns₁ hk31
  -- facts of the block
  have stat : ∀ {H' : Hp} {ob : Obj}, (∀ b ∈ fp, H' b = none) → ∀ b ∈ fp, FpOk (cxC X N' scope s3.heap.objs.size s3 H2 (s2.heap.objs.size :: fp)) [(s2.heap.objs.size, ob)] H' b := fun {H' ob} hn b hb => by
    obtain ⟨q1, q2⟩ := I4.ok.exf b (List.mem_cons_of_mem _ hb)
    refine ⟨hn b hb, q1, I4.ok.exfs b (List.mem_cons_of_mem _ hb), .inl (List.mem_cons_of_mem _ hb), q2, fun p hp z => ?_⟩
    have hp' : p = (s2.heap.objs.size, ob) := by simpa [cxC] using hp
    subst hp'
    have z' : s2.heap.objs.size = b := z
    exact hDfp (by rw [z']; exact hb)
  generalize hXC : cxC X N' scope s3.heap.objs.size s3 H2 (s2.heap.objs.size :: fp) = XC at I4 stat
  have eP : XC.prog = X.prog := by rw [← hXC]; rfl
  have eW : XC.w = X.w := by rw [← hXC]; rfl
  have eK : XC.K = X.K := by rw [← hXC]; rfl
  have eA : XC.A = X.A := by rw [← hXC]; rfl
  have eE : XC.env = compEnvC scope (clOf X.env scope.names []) s3.heap.objs.size X.env := by rw [← hXC]; rfl
  have eC : XC.calm = true := by rw [← hXC]; exact hc
  have eX : XC.xe = fun _ _ => False := by rw [← hXC]; rfl
  have eH : XC.H₀ = H2 := by rw [← hXC]; rfl
  have eS : XC.s₀ = s3 := by rw [← hXC]; rfl
  have eF : XC.fs = frs X.stack := by rw [← hXC]; rfl
  have eEx : XC.ex = s2.heap.objs.size :: fp := by rw [← hXC]; rfl
  have ePn : XC.pn = [] := by rw [← hXC]; rfl
  have hgC : PG XC tg g := by rw [← hXC]; exact hg _ _ _ _
  have htC : PIfs XC ifs tt := by rw [← hXC]; exact ht _ _ _ _
  have heC : PE XC elt te := by rw [← hXC]; exact he _ _ _ _
  have pinD : ∀ {σ' : St} {H' : Hp} {s' : Shared} {ob : Obj}, Inv XC [] σ' H' s' → H' s2.heap.objs.size = none → s'.heap.get? s2.heap.objs.size = some ob → (∀ v, ob.data ≠ .cell v) → Inv XC [(s2.heap.objs.size, ob)] σ' H' s' := fun {σ' H' s' ob} J hn hg hd =>
    J.pins_of fun p hp => by
      have hp' : p = (s2.heap.objs.size, ob) := by simpa using hp
      subst hp'
      refine ⟨hg, hn, (J.ok.exf _ (by rw [eEx]; exact List.mem_cons_self)).1, J.ok.exfs _ (by rw [eEx]; exact List.mem_cons_self), hd⟩
  have loop : codeAny (model X.prog X.w) X.A (.compLoop (.ListComp elt [⟨tg, iter, ifs, 0⟩] scope pos) 0 (.ref it) (.ref s2.heap.objs.size) (compEnvC scope (clOf X.env scope.names []) s3.heap.objs.size X.env))
      (compPost (model X.prog X.w) X.A X.xe none (EP X pins σ Q) (.ref s2.heap.objs.size) s3.heap.objs.size) { s3 with heap := h₁, toks := s3.toks + ([] : List (Str × Value)).length } := by
    refine comp_loop (fun n s' => ∃ (i : Nat) (ys : List V) (its : List Value) (nn : Nat) (H' : Hp), Inv XC [] (subSt sub σ) H' s' ∧ tn i s'.heap ∧ (∀ b ∈ fp, H' b = none) ∧ H' s2.heap.objs.size = none ∧
      s'.heap.get? s2.heap.objs.size = some { cls := .type "list", data := .seq its.toArray nn } ∧ Vals ys its ∧ W i n ys H') ?_ m0
      ⟨0, [], [], _, H2, I4, T.keep _ _ _ st2 fun b _ o e => hk31 b o (k23 b o e), fun b hb => (f2 b hb).1, hDn, hk31 _ _ hD3, .nil, w0⟩
    rintro n s4 ⟨i, ys, its, nn, H4, J4, st4, fr4, dn4, dg4, rv4, w4⟩
    have P4 := pinD J4 dn4 dg4 (fun v z => by cases z)
    rcases turn i n ys H4 w4 with ⟨stop, hyl, qn⟩ | ⟨go, hyl, N, hN, step⟩
    · have hdone := T.done XC eP eW eK eC i _ s4 _ H4 (fun _ _ => False) P4 (stat fr4) st4 stop
      rw [eA] at hdone
      refine wpAny_mono hdone (fun r s5 ⟨hr, I5⟩ => ?_) fun _ _ z => z
      subst hr
      -- the end
      obtain ⟨m, hn, _⟩ := id I5.loc
      have hCe : XC.env.locals = s3.heap.objs.size := by rw [eE]; rfl
      rw [hCe] at hn
      refine ⟨m, hn, fun h6 hs6 => ?_⟩
      have hDg := (I5.pin (s2.heap.objs.size, _) (by rw [ePn]; exact List.mem_cons_self)).1
      have hDne : s2.heap.objs.size ≠ s3.heap.objs.size := by rw [hsz]; exact Nat.ne_of_lt (Nat.lt_succ_self _)
      have hHC : H4 s3.heap.objs.size = none := by have := I5.free; rw [hCe] at this; exact this
      have k56 : ∀ b o, b ≠ s3.heap.objs.size → s5.heap.get? b = some o → h6.get? b = some o := fun b o hb e => hs6.extBut b o hb e
      have un := I5.base
      rw [eF, eEx, eH, eS] at un
      have nC : ∀ b o, s3.heap.get? b = some o → b ≠ s3.heap.objs.size := fun b o e => Nat.ne_of_lt (Heap.lt_size e)
      have hok6 : HOk X.prog X.w (upd H4 s2.heap.objs.size (.lst ys)) h6 := by
        have h5 := I5.hok
        rw [eP, eW] at h5
        have trk : ∀ b u, H4 b = some u → b ≠ s3.heap.objs.size := fun b u e z => by rw [z, hHC] at e; cases e
        intro b u e
        by_cases hb : b = s2.heap.objs.size
        · subst hb
          rw [upd_same] at e; cases e
          exact ⟨hyl, its, nn, rv4, k56 _ _ hDne hDg⟩
        · rw [upd_ne hb] at e
          have nD : ∀ c u, H4 c = some u → c ≠ s2.heap.objs.size := fun c u e z => by rw [z, dn4] at e; cases e
          refine (h5 b u e).stay (fun c v hc' q => k56 c v ?_ q) (fun c q => by rw [upd_ne (nD c _ q)]; exact q) fun c xs q => by rw [upd_ne (nD c _ q)]; exact q
          rcases hc' with z | z
          · rw [z]; exact trk b u e
          · exact trk c _ z
      have nD2 : ∀ c u, H4 c = some u → c ≠ s2.heap.objs.size := fun c u e z => by rw [z, dn4] at e; cases e
      have un6 : Un (frs X.stack) (s2.heap.objs.size :: fp) H2 (upd H4 s2.heap.objs.size (.lst ys)) s3.heap h6 :=
        ⟨fun b o e nn' hb hx => k56 b o (nC b o e) (un.keep b o e nn' hb hx), fun b o e nn' hb hx => let ⟨sl, q⟩ := un.slot b o e nn' hb hx; ⟨sl, k56 b _ (nC b o e) q⟩,
          fun b o e nn' hx => by rw [upd_ne (fun z => hx (by rw [z]; exact List.mem_cons_self))]; exact un.free b o e nn' hx,
          fun b o e hx => let ⟨o', q⟩ := un.there b o e hx; ⟨o', k56 b o' (nC b o e) q⟩,
          fun b xs e => by have q := un.tups b xs e; rw [upd_ne (nD2 b _ q)]; exact q,
          fun b o u e => by have q := un.frzs b o u e; rw [upd_ne (nD2 b _ q)]; exact q,
          fun b ps e => let ⟨more, q⟩ := un.tbls b ps e; ⟨more, by rw [upd_ne (nD2 b _ q)]; exact q⟩⟩
      have I6 : Inv X pins σ (upd H4 s2.heap.objs.size (.lst ys)) { s5 with heap := h6 } := by
        refine I3.call' (s' := { s5 with heap := h6 }) (ch := s2.heap.objs.size :: fp) ?_ un6 hok6 I5.bare fun b hb => ?_
        · show s5.os = s3.os
          have := I5.os
          rw [eS] at this
          exact this
        · have q : FpOk X pins H2 b := by
            rcases List.mem_cons.mp hb with rfl | z
            · exact fD
            · exact f2 b z
          obtain ⟨f0, f1, f2', f3, f4, f5⟩ := q
          exact ⟨f3, f1, f4, f5⟩
      exact ⟨.ref s2.heap.objs.size, _, I6, rfl, qn _ dn4⟩
    · have hitem := T.item XC eP eW eK eC i _ s4 _ H4 (fun _ _ => False) P4 (stat fr4) st4 go
      rw [eA] at hitem
      refine wpAny_mono hitem (fun r s5 ⟨u, hr, h5⟩ => ?_) fun _ _ z => z
      subst hr
      dsimp only
      refine wpAny_mono h5 (fun _ s6 ⟨x, H6, I6, r6, y6, st6, fr6⟩ => ?_) fun _ _ z => z
      have P6 := I6.pinned (stat fr6) (T.obj _ _ st6)
      rw [← eE, ← eP, ← eW, ← eA]
      refine wpAny_mono (hgC _ s6 _ H6 x u _ P6 r6 (step x H6 y6)) (fun _ s7 ⟨σ7, H7, I7, kp7, q7⟩ => ?_) fun _ _ z => by rw [eX] at z; exact z
      refine wpAny_mono (htC _ s7 σ7 H7 _ I7 q7) (fun ok s8 ⟨H8, I8, q8⟩ => ?_) fun _ _ z => by rw [eX] at z; exact z
      -- back to the turn's start
      have fin : ∀ {H9 : Hp} {s9 : Shared}, Inv XC ([(s2.heap.objs.size, ({ cls := .type "list", data := .seq its.toArray nn } : Obj))] ++ pinsAt fp s6.heap) σ7 H9 s9 → Inv XC [] (subSt sub σ) H9 s9 ∧ tn (i + 1) s9.heap ∧ (∀ b ∈ fp, H9 b = none) ∧ H9 s2.heap.objs.size = none ∧
          s9.heap.get? s2.heap.objs.size = some { cls := .type "list", data := .seq its.toArray nn } := fun {H9 s9} J => by
        have pD := J.pin (s2.heap.objs.size, ({ cls := .type "list", data := .seq its.toArray nn } : Obj)) (by rw [ePn]; simp)
        have pF : ∀ b ∈ fp, ∀ o, s6.heap.get? b = some o → s9.heap.get? b = some o ∧ H9 b = none := fun b hb o e => by
          have q := J.pin (b, o) (by rw [ePn]; exact List.mem_append_right _ (List.mem_append_right _ (mem_pinsAt hb e)))
          exact ⟨q.1, q.2.1⟩
        refine ⟨?_, T.keep _ _ _ st6 fun b hb o e => (pF b hb o e).1, fun b hb => ?_, pD.2.1, pD.1⟩
        · have J0 : Inv XC [] σ7 H9 s9 := J.pins_of fun p hp => nomatch hp
          exact J0.weak kp7.1.symm fun j v e => kp7.2 j v e
        · obtain ⟨o, e, _⟩ := T.obj _ _ st6 b hb
          exact (pF b hb o e).2
      cases ok with
      | false =>
        rw [if_neg (by simp)]
        rw [if_neg (by simp)] at q8
        obtain ⟨m', hm, w8⟩ := hN _ _ q8
        obtain ⟨a1, a2, a3, a4, a5⟩ := fin I8
        exact ⟨m', hm, i + 1, ys, its, nn, H8, a1, a2, a3, a4, a5, rv4, w8⟩
      | true =>
        rw [if_pos rfl]
        rw [if_pos rfl] at q8
        refine wpAny_mono (heC _ s8 σ7 H8 _ I8 q8) (fun xv s9 ⟨y, H9, I9, r9, n9⟩ => ?_) fun _ _ z => by rw [eX] at z; exact z
        obtain ⟨m', hm, w9⟩ := hN _ _ n9
        obtain ⟨a1, a2, a3, a4, a5⟩ := fin I9
        refine wpAny_list_append_plain (items := its.toArray) ⟨nn, a5⟩ (fun h' ⟨n', hp'⟩ sb => ?_) (by simp; rw [← rv4.length]; omega)
        obtain ⟨q1, q2⟩ := I4.ok.exf s2.heap.objs.size (by rw [eEx]; exact List.mem_cons_self)
        have a1' : Inv XC [] (subSt sub σ) H9 { s9 with heap := h' } := a1.turned (t' := s9.toks) (fun b o hb e => (sb.2 b hb).trans e) a4 q1 (.inl (by rw [eEx]; exact List.mem_cons_self)) q2 (fun p hp => by rw [ePn] at hp; exact nomatch hp)
        refine ⟨m', hm, i + 1, ys ++ [y], its ++ [xv], n', H9, a1', T.keep _ _ _ a2 fun b hb o e => (sb.2 b (fun z => hDfp (by rw [← z]; exact hb))).trans e, a3, a4, ?_, rv4.append (.cons r9 .nil), w9⟩
        rw [hp']
        simp
  subst hs3
  exact codeAny_compStart_list loop (T.self _ 0 _ _ _ (T.keep _ _ _ st2 fun b _ o e => hk31 b o (k23 b o e)) loop)
end

noncomputable abbrev CompR (sub : List (Option Nat)) (g : TG) (tt : TT) (te : TE) (σ : St) (Q : VK) (J : It) (H1 : Hp) : Prop := ∃ W : Nat → Nat → List V → Hp → Prop, (∃ m, W 0 m [] H1) ∧ ∀ i m ys H, W i m ys H →
  (J.stop i H ∧ ys.length ≤ sizeLine ∧ ∀ D, H D = none → Q (.ref D) (upd H D (.lst ys))) ∨
  (J.go i H ∧ ys.length < sizeLine ∧ ∃ N : List V → Hp → Prop, (∀ ys' H', N ys' H' → ∃ m', m' < m ∧ W (i + 1) m' ys' H') ∧
    ∀ x H', J.yld i H x H' → g x (subSt sub σ) H' fun σ2 H2 => KeepSt (subSt sub σ) σ2 ∧ tt σ2 H2 fun b H3 => if b = true then te σ2 H3 fun y H4 => N (ys ++ [y]) H4 else N ys H3)
theorem comp_by {sub : List (Option Nat)} {g : TG} {tt : TT} {te : TE} {σ : St} {Q : VK} {J : It} {H : Hp} {n : Nat} (Pv : Nat → List V → Hp → Prop) (hn : n ≤ sizeLine) (h0 : Pv 0 [] H) (hl : ∀ i ys H, Pv i ys H → ys.length ≤ i)
    (hgo : ∀ i ys H, i < n → Pv i ys H → J.go i H) (hstop : ∀ ys H, Pv n ys H → J.stop n H)
    (hs : ∀ i ys H x H', i < n → Pv i ys H → J.yld i H x H' → g x (subSt sub σ) H' fun σ2 H2 => KeepSt (subSt sub σ) σ2 ∧ tt σ2 H2 fun b H3 => if b = true then te σ2 H3 fun y H4 => Pv (i + 1) (ys ++ [y]) H4 else Pv (i + 1) ys H3)
    (hd : ∀ ys H, Pv n ys H → ∀ D, H D = none → Q (.ref D) (upd H D (.lst ys))) : CompR sub g tt te σ Q J H := by
  refine ⟨fun i m ys H => m = n - i ∧ i ≤ n ∧ Pv i ys H, ⟨n, by simp, Nat.zero_le _, h0⟩, ?_⟩
  rintro i m ys H ⟨rfl, hi, p⟩
  have hl' := hl i ys H p
  by_cases hlt : i < n
  · exact .inr ⟨hgo i ys H hlt p, by omega, fun ys' H' => Pv (i + 1) ys' H', fun ys' H' p' => ⟨n - (i + 1), by omega, rfl, hlt, p'⟩, fun x H' y => hs i ys H x H' hlt p y⟩
  · have e : i = n := by omega
    subst e
    exact .inl ⟨hstop ys H p, by omega, hd ys H p⟩
end L2

namespace L2
open PySem PySem.Spec PyProof.Rows

section
variable {κ : Type} [DecidableEq κ]
end


section
variable {P : Program} {w : World} {H : Hp} {h : Heap} {a : Addr}
end

section
variable {X : Cx} {pins : List (Addr × Obj)} {σ : St} {H : Hp} {s : Shared} {a : Addr} {y v : V} {u r : Value} {o : Option V} {A : Around} {E : Value → Shared → Prop}

end

section
variable {X : Cx} {pins : List (Addr × Obj)} {σ : St} {H : Hp} {s : Shared} {a : Addr} {kvs : List (Key × V)} {k : Key} {u : Value} {A : Around} {E : Value → Shared → Prop}
end


section
variable {X : Cx} {o i e value : Expr} {pos pos' tpos : Pos} {td ty tv : TE}
end


section
variable {X : Cx} {pos : Pos}
end

noncomputable def tPairs : List (TE × TE) → St → Hp → (List (V × V) → Hp → Prop) → Prop
  | [], _, H, Q => Q [] H
  | (tk, tv) :: r, σ, H, Q => tk σ H fun x H1 => tv σ H1 fun y H2 => tPairs r σ H2 fun ps H3 => Q ((x, y) :: ps) H3
noncomputable abbrev VV : List (V × V) → List (Value × Value) → Prop := Paired fun p q => RelV p.1 q.1 ∧ RelV p.2 q.2
noncomputable def PPs (X : Cx) (pos : Pos) (keys : List (Option Expr)) (values : List Expr) (trs : List (TE × TE)) : Prop :=
  ∀ (pins : List (Addr × Obj)) (s : Shared) (σ : St) (H : Hp) (Q : List (V × V) → Hp → Prop), Inv X pins σ H s → tPairs trs σ H Q →
    wpAny (model X.prog X.w) X.A (evalPairs (pairTrees keys values X.env pos)) (fun vs s' => ∃ ps H', Inv X pins σ H' s' ∧ VV ps vs ∧ Q ps H') X.xe s
structure M1 (X : Cx) (o : Expr) (m : Str) (apos : Pos) (e : Expr) (cpos : Pos) : Prop where
  base : attributeBase o m X.env (eval o X.env) = eval o X.env
  few : ((backTo cpos (starEach [e] X.env)).all (fun x => !x.1) && (backToKw cpos (keywordEach [] X.env)).all (fun x => x.1.isSome)
    && decide (([e] : List Expr).length + ([] : List Keyword).length + (if ([] : List Keyword).isEmpty then 0 else 1) < 30)) = true
  line : (apos.endLine == cpos.line) = true
  trees : backTo cpos (starEach [e] X.env) = [(false, eval e X.env)]
structure M2 (X : Cx) (o : Expr) (m : Str) (apos : Pos) (e f : Expr) (cpos : Pos) : Prop where
  base : attributeBase o m X.env (eval o X.env) = eval o X.env
  few : ((backTo cpos (starEach [e, f] X.env)).all (fun x => !x.1) && (backToKw cpos (keywordEach [] X.env)).all (fun x => x.1.isSome)
    && decide (([e, f] : List Expr).length + ([] : List Keyword).length + (if ([] : List Keyword).isEmpty then 0 else 1) < 30)) = true
  line : (apos.endLine == cpos.line) = true
  trees : backTo cpos (starEach [e, f] X.env) = [(false, eval e X.env), (false, eval f X.env)]

section
variable {X : Cx} {pins : List (Addr × Obj)} {σ : St} {H : Hp} {s : Shared} {a : Addr} {y d : V} {u r : Value} {o : Option V} {A : Around} {E : Value → Shared → Prop}
end

section
variable {X : Cx} {o e f : Expr} {apos cpos : Pos} {td ty tx : TE}
end

section
variable {X : Cx} {pins : List (Addr × Obj)} {σ : St} {H : Hp} {s : Shared} {a : Addr} {kvs : List (Key × V)} {A : Around} {E : Value → Shared → Prop}
end


section
variable {X : Cx} {pins : List (Addr × Obj)} {σ : St} {H : Hp} {s : Shared} {a : Addr} {y : V} {u : Value} {A : Around} {E : Value → Shared → Prop}
end
end L2

namespace L2
open PySem PySem.Spec PyProof.Rows
section
variable {X : Cx}
section
variable {κ : Type} [DecidableEq κ]
end
end
end L2

namespace L2
open PySem PySem.Spec PyProof.Rows

noncomputable def Its (x : Str) : It := ⟨fun i _ => i < x.cps.size, fun i H v H' => H' = H ∧ ∃ c, x.cps[i]? = some c ∧ v = .str ⟨#[c]⟩, fun i _ => i = x.cps.size⟩
theorem turn_str {P : Program} {w : World} {K : PySem.W.Frag} {tg : Expr} (it : Addr) (x : Str) (t : Tok) (ty : String)
    (hty : ["enumerate", "zip", "dict_itemiterator", "dict_reverseitemiterator", "odict_iterator", "itertools.zip_longest", "itertools.pairwise"].contains ty = false)
    (W : ∀ A : Around, A.handled = none → Walks P w A it [it] [it] x.cps.size (SignAt x) fun i h => h.IsStrIter it ty x t i)
    (hself : ∀ (A : Around) (i : Nat) (s : Shared) (Q : Value → Shared → Prop) (E : Value → Shared → Prop), s.heap.IsStrIter it ty x t i → Q (.ref it) s → wpAny (model P w) A (pyIter (.ref it)) Q E s) : Turn P w K tg (Its x) [it] it (fun i h => h.IsStrIter it ty x t i) where
  mem := by simp
  obj := fun i h st b hb => by
    have e : b = it := by simpa using hb
    subst e
    obtain ⟨o, e, c, d⟩ := st
    exact ⟨o, e, fun v z => by rw [d] at z; cases z⟩
  keep := fun i h h' st k => by
    obtain ⟨o, e, r⟩ := st
    exact ⟨o, k it (by simp) o e, r⟩
  item := by
    intro X hP hw hK hc i pins s σ H E I hf st hg
    subst hP hw hK
    obtain ⟨f0, f1, f2, f3, f4, f5⟩ := hf it (by simp)
    refine (W X.A (I.ok.hd hc)).item i s _ _ hg st fun v h' tk hv st' kk => ?_
    obtain ⟨c, u, e1, rfl⟩ := hv
    have I1 : Inv X pins σ H { s with heap := h', toks := tk } := I.turned (fun b o hb e => kk b o (by simpa using hb) e) f0 f1 f3 f4 f5
    obtain ⟨o, e, cl, d⟩ := id st'
    exact ⟨_, rfl, go_of (s := { s with heap := h', toks := tk }) e cl d hty ⟨.str ⟨#[c]⟩, H, I1, ⟨u, rfl⟩, ⟨rfl, c, e1, rfl⟩, st', fun b hb => (hf b hb).1⟩⟩
  done := by
    intro X hP hw hK hc i pins s σ H E I hf st hg
    subst hP hw hK
    obtain ⟨f0, f1, f2, f3, f4, f5⟩ := hf it (by simp)
    have hg : i = x.cps.size := hg
    subst hg
    exact (W X.A (I.ok.hd hc)).done s _ _ st fun h' tk kk => ⟨rfl, I.turned (fun b o hb e => kk b o (by simpa using hb) e) f0 f1 f3 f4 f5⟩
  self := hself
section
variable {X : Cx}
theorem all_range {bs : List Bool} : (List.range bs.length).all (fun i => bs.getD i false) = bs.all id := by
  rw [Bool.eq_iff_iff]
  simp only [List.all_eq_true, List.mem_range]
  constructor
  · intro h b hb
    obtain ⟨i, hi, e⟩ := List.mem_iff_getElem.mp hb
    have := h i hi
    rw [List.getD_eq_getElem?_getD, List.getElem?_eq_getElem hi] at this
    simp only [Option.getD_some] at this
    rw [← e]; exact this
  · intro h i hi
    rw [List.getD_eq_getElem?_getD, List.getElem?_eq_getElem hi]
    exact h _ (List.getElem_mem hi)
theorem vals_bl_get : ∀ {bs : List Bool} {us : List Value} {i : Nat} {v : Value}, Vals (bs.map V.bl) us → us[i]? = some v → v = .bool (bs.getD i false)
  | [], _, i, v, .nil, e => by simp at e
  | b :: bs, _, 0, v, .cons r t, e => by simp at e; subst e; exact r
  | b :: bs, _, i + 1, v, .cons r t, e => by
    simp at e
    have := vals_bl_get (bs := bs) t e
    simpa using this
noncomputable def rAll : List V → Hp → VK → Prop := fun xs H Q => ∃ (p : Addr) (bs : List Bool), xs = [.ref p] ∧ H p = some (.lst (bs.map V.bl)) ∧ Q (.bl (bs.all id)) H
theorem call_all (hc : X.calm = true) : CallR X (.builtin "all") rAll := by
  intro pins s σ H xs us Q I r h
  obtain ⟨p, bs, rfl, hp, q⟩ := h
  obtain ⟨u, rfl, ru⟩ := vals1 r
  cases ru
  obtain ⟨hz, its, n, rv, e⟩ := I.hok p _ hp
  refine call_all_walk (wpAny_pyIter_list (items := its.toArray) ⟨_, e, rfl, n, rfl⟩ ?_)
  refine ⟨s.heap.objs.size, _, _, _, _, _, fun i => bs.getD i false, rfl, Walks.list (A := X.A.in1) (I.ok.hd hc) s.heap.objs.size p (Nat.ne_of_lt (Heap.lt_size e)) its.toArray, ⟨⟨_, Heap.get?_push_size _ rfl, rfl, rfl⟩, ⟨_, Heap.get?_push_of_some _ e, rfl, n, rfl⟩⟩, ?_, fun h' tk hk => ?_⟩
  · intro i v s' Q' E' hv hq
    have := vals_bl_get rv (by simpa using hv)
    subst this
    exact wpAny_truthy_bool hq
  · have hl : its.toArray.size = bs.length := by have := rv.length; simpa using this.symm
    rw [hl, all_range]
    refine ⟨.bl _, H, ?_, rfl, q⟩
    exact I.kept fun b o e => hk b o (by simp; exact Nat.ne_of_lt (Heap.lt_size e)) (Heap.get?_push_of_some _ e)
noncomputable def rSlS : V → Option Int → Option Int → Hp → VK → Prop := fun v lo hi H Q => ∃ x, v = .str x ∧ x.length ≤ sizeLine ∧ Q (.str (Txt.slice x lo hi)) H
theorem sl_str : SlR X rSlS := by
  intro pins s σ H x v vl vu lo hi sl Q I rx hs pl pu h
  obtain ⟨z, rfl, hz, q⟩ := h
  obtain ⟨t, rfl⟩ := rx
  refine ⟨"str", _, F.slot_str_getitem.lookup, typeIs_str _ _ _, ?_⟩
  have fin : ∀ (t' k : Nat), EP X pins σ Q (.str (Txt.slice z lo hi) t') { s with toks := k } := fun t' k => ⟨.str _, H, I.tok _, ⟨_, rfl⟩, q⟩
  have sz := Nat.le_trans (Txt.slice_le z lo hi) hz
  obtain ⟨o, ho, hc, hd⟩ := hs
  cases pl with
  | none =>
    cases pu with
    | none => exact wpAny_getItem_str_slice (l := none) (u := none) (st := none) ⟨o, ho, hc, hd⟩ rfl (post_val_or_str ⟨sz, fin⟩)
    | int j tj => exact wpAny_getItem_str_slice (l := none) (u := some (j, tj)) (st := none) ⟨o, ho, hc, hd⟩ rfl (post_val_or_str ⟨sz, fin⟩)
  | int i ti =>
    cases pu with
    | none => exact wpAny_getItem_str_slice (l := some (i, ti)) (u := none) (st := none) ⟨o, ho, hc, hd⟩ rfl (post_val_or_str ⟨sz, fin⟩)
    | int j tj => exact wpAny_getItem_str_slice (l := some (i, ti)) (u := some (j, tj)) (st := none) ⟨o, ho, hc, hd⟩ rfl (post_val_or_str ⟨sz, fin⟩)
noncomputable def rMulS : R2 := fun x y H Q => ∃ i n, x = .str i ∧ y = .int n ∧ MulOk i n ∧ Q (.str (Txt.mul i n)) H
theorem op_mul_str : OpR X (binaryOp .Mult) rMulS := by
  intro pins s σ H x y v u Q I rx ry h
  obtain ⟨i, n, rfl, rfl, hk, q⟩ := h
  obtain ⟨t, rfl⟩ := rx
  obtain ⟨t', rfl⟩ := ry
  exact SB.mul hk fun t' k => ⟨.str _, H, I.tok _, ⟨_, rfl⟩, q⟩
noncomputable def sgn (x : Str) : List V := x.cps.toList.map fun c => V.str ⟨#[c]⟩
theorem items_sgn {x : Str} {acc : Array Value} (h : ItemsOf (SignAt x) acc x.cps.size) : Vals (sgn x) acc.toList := by
  obtain ⟨h1, h2⟩ := h
  have key : ∀ (l : List Nat) (a : List Value), l.length = a.length → (∀ (j : Nat) (v : Value), a[j]? = some v → ∃ (c : Nat) (u : Tok), l[j]? = some c ∧ v = Value.str ⟨#[c]⟩ u) → Vals (l.map fun c => V.str ⟨#[c]⟩) a := by
    intro l
    induction l with
    | nil => intro a hl _; cases a with
      | nil => exact .nil
      | cons _ _ => simp at hl
    | cons c l ih =>
      intro a hl hh
      cases a with
      | nil => simp at hl
      | cons v a =>
        obtain ⟨c', u, e1, e2⟩ := hh 0 v (by simp)
        simp at e1; subst e1
        refine .cons ⟨u, e2⟩ (ih a (by simpa using hl) fun j v' e => ?_)
        obtain ⟨c', u, e1, e2⟩ := hh (j + 1) v' (by simpa using e)
        exact ⟨c', u, by simpa using e1, e2⟩
  refine key x.cps.toList acc.toList (by simp [h1]) fun j v e => ?_
  obtain ⟨c, u, e1, e2⟩ := h2 j v (by simpa using e)
  exact ⟨c, u, by simpa using e1, e2⟩
theorem call_list_S (hc : X.calm = true) : CallR X (.type "list") (fun xs H Q => ∃ x, xs = [.str x] ∧ x.cps.size ≤ sizeLine ∧ ∀ p, H p = none → Q (.ref p) (upd H p (.lst (sgn x)))) := by
  intro pins s σ H xs us Q I r h
  obtain ⟨x, rfl, hz, q⟩ := h
  obtain ⟨u, rfl, t, rfl⟩ := vals1 r
  refine call_list_str (I.ok.hd hc) x t (hn := hz) fun h' tk acc' c' hk hS hacc => ?_
  refine ⟨.ref s.heap.objs.size, _, I.laid (o := .lst (sgn x)) hk (Nat.le_refl _) ⟨by simp [sgn]; exact hz, acc'.toList, c', items_sgn hacc, by simpa using hS⟩, rfl, q _ I.fresh⟩
noncomputable def rIsi (K : PySem.W.Frag) : List V → Hp → VK → Prop := fun xs H Q => ∃ x T t b, xs = [x, .ty T] ∧ TyOf K H x t ∧ PySem.W.kitOne K t (.type T) = some b ∧ Q (.bl b) H
theorem call_isi : CallR X (.builtin "isinstance") (rIsi X.K) := by
  intro pins s σ H xs us Q I r h
  obtain ⟨x, T, t, b, rfl, ty, e, q⟩ := h
  obtain ⟨u, v, rfl, ru, rv⟩ := vals2 r
  cases rv
  exact isinst_ok I ru ty e fun tk => ⟨.bl b, H, I.tok _, rfl, q⟩

noncomputable def eqVs : List V → List V → Bool
  | [], [] => true
  | x :: xs, y :: ys => eqV x y && eqVs xs ys
  | _, _ => false
theorem eqVs_range : ∀ (xs ys : List V), xs.length = ys.length → (List.range xs.length).all (fun j => eqV (xs.getD j .non) (ys.getD j .non)) = eqVs xs ys
  | [], [], _ => rfl
  | x :: xs, y :: ys, h => by
    have ih := eqVs_range xs ys (by simpa using h)
    rw [List.length_cons, List.range_succ_eq_map, List.all_cons, List.all_map]
    simp only [eqVs]
    rw [← ih]
    rfl
  | [], y :: ys, h => by simp at h
  | x :: xs, [], h => by simp at h
theorem eqVs_len : ∀ {xs ys : List V}, xs.length ≠ ys.length → eqVs xs ys = false
  | [], [], h => absurd rfl h
  | [], y :: ys, _ => rfl
  | x :: xs, [], _ => rfl
  | x :: xs, y :: ys, h => by simp [eqVs, eqVs_len (xs := xs) (ys := ys) (by simpa using h)]
noncomputable def rEqL (K : PySem.W.Frag) (neg : Bool) : R2 := fun x y H Q => ∃ a b xs ys, x = .ref a ∧ y = .ref b ∧ SqL K H a xs ∧ SqL K H b ys ∧ xs.all flatV = true ∧ ys.all flatV = true ∧ Q (.bl (if neg then !eqVs xs ys else eqVs xs ys)) H
theorem op_eq_lst (hu : X.A.units < cLine) : OpR X (compareOp .Eq) (rEqL X.K false) := by
  intro pins s σ H x y v u Q I rx ry h
  obtain ⟨a, b, xs, ys, rfl, rfl, ha, hb, fx, fy, q⟩ := h
  cases rx
  cases ry
  obtain ⟨its, r1, p1, z1⟩ := I.list ha
  obtain ⟨jts, r2, p2, z2⟩ := I.list hb
  have l1 : its.toArray.size = xs.length := by simpa using r1.length.symm
  have l2 : jts.toArray.size = ys.length := by simpa using r2.length.symm
  by_cases hl : xs.length = ys.length
  · refine SeqAt.eq_listAt (e := fun j => eqV (xs.getD j .non) (ys.getD j .non)) p1.isList p2.isList (by rw [l1, l2]; exact hl) hu (fun j h1 h2 => ?_) ?_
    · have h1' : j < xs.length := by omega
      have h2' : j < ys.length := by omega
      obtain ⟨u1, e1, q1⟩ := r1.get (List.getElem?_eq_getElem h1')
      obtain ⟨u2, e2, q2⟩ := r2.get (List.getElem?_eq_getElem h2')
      have e1' : its.toArray[j] = u1 := by
        have := List.getElem?_eq_some_iff.mp e1
        obtain ⟨_, z⟩ := this
        simpa using z
      have e2' : jts.toArray[j] = u2 := by
        have := List.getElem?_eq_some_iff.mp e2
        obtain ⟨_, z⟩ := this
        simpa using z
      rw [e1', e2']
      have g1 : xs.getD j .non = xs[j] := by rw [List.getD_eq_getElem?_getD, List.getElem?_eq_getElem h1']; rfl
      have g2 : ys.getD j .non = ys[j] := by rw [List.getD_eq_getElem?_getD, List.getElem?_eq_getElem h2']; rfl
      show SeqAt.EqAt X.A.in1 s u1 u2 (eqV (xs.getD j .non) (ys.getD j .non))
      rw [g1, g2]
      exact eqAt_V q1 q2 (List.all_eq_true.mp fx _ (List.getElem_mem h1')) (List.all_eq_true.mp fy _ (List.getElem_mem h2'))
    · rw [l1, eqVs_range xs ys hl]
      exact ⟨.bl _, H, I, rfl, q⟩
  · refine SeqAt.eq_list_lengthsAt p1.isList p2.isList (by rw [l1, l2]; simpa using hl) hu ?_
    rw [if_neg (by simp), eqVs_len hl] at q
    exact ⟨.bl false, H, I, rfl, q⟩
end
end L2

namespace L2
open PySem PySem.Spec PyProof.Rows

noncomputable def Def (K : PySem.W.Frag) (mg : Str → Option Value) (x : Str) (st : Stmt) : Prop := ∃ f fd, Fun K x x st f fd ∧ mg x = some (.ref f)
theorem def_mk {K : PySem.W.Frag} {mg : Str → Option Value} {h : Heap} (X : K.In h) (G : h.Ns mainGlobals mg) {x : Str} {st : Stmt} {f : Addr} {oc : Value} {od an : Option Addr} {osl : Array (Option Value)} {kV doc pm cdv ct : Value}
    (a : PySem.W.nsIn K mainGlobals x = some (some (.ref f)))
    (l : K.lookup f = some ⟨oc, od, .func (PySem.W.fnOf x x (defArgs st) (defBody st) (defScope st) .none kV doc pm an cdv ct), osl⟩)
    (c : PySem.W.codeIn K cdv x = true) (k : PySem.W.keepIn K (.ref f) = true) : Def K mg x st := ⟨f, _, fun_mk l c k, PySem.W.mg_of X G a⟩
noncomputable def Has (P : Program) (w : World) (K : PySem.W.Frag) (mg : Str → Option Value) (base : Heap) (k : Nat) (x : Str) (ps : List Str) (sp : Sp) : Prop :=
  ∃ f fd, mg x = some (.ref f) ∧ PySem.W.keepIn K (.ref f) = true ∧ Binds K fd ps [] ∧ FnOk P w K mg base CX0 k f fd ps sp
section
variable {P : Program} {w : World} {K : PySem.W.Frag} {mg : Str → Option Value} {base : Heap}
theorem has_of {x : Str} {st : Stmt} {N ps : List Str} {k : Nat} {sp : Sp} (D : Def K mg x st) (S : FnScope N ps (defScope st))
    (hb : ∀ (kV doc pm : Value) (an : Option Addr) (cdv ct : Value) (us : List Value), us.length = ps.length → bindArgs (PySem.W.fnOf x x (defArgs st) (defBody st) (defScope st) .none kV doc pm an cdv ct) ⟨us, []⟩ = pure (ps.zip us))
    (len : ∀ vs H Q E, sp vs H Q E → vs.length = ps.length)
    (hbody : ∀ (f : Addr) (cdv : Value) (A : Around) (outer : List Env) (s : Shared) (H : Hp) (vs : List V) (Q : VK) (E : XK), Room k (A.deeper (envOfC x (defScope st) s.heap.objs.size f cdv)) → sp vs H Q E →
      ∃ t, PSs (cxOf CX0 P w K mg base N x (defScope st) f cdv A outer s H E).nox (defBody st) t ∧ t { nx := fun _ H' => Q .non H', rt := Q } (start N vs) H) : Has P w K mg base (k + 1) x ps sp := by
  obtain ⟨f, fd, F, hm⟩ := D
  exact ⟨f, fd, hm, F.kp, F.binds hb, F.ok S len fun cdv A outer s H vs Q E hr h => hbody f cdv A outer s H vs Q E hr h⟩
end
section
variable {X : Cx}
theorem pe_callH {k : Nat} {x : Str} {ps : List Str} {sp : Sp} {p pos : Pos} {e : Expr} {es : List Expr} {t : TA} (F : Has X.prog X.w X.K X.mg X.base k x ps sp) (hr : Room k X.A) (hg : Gl X x)
    (ha : PA X (e :: es) t) (hdb : autoParam ((x == ("__debug__" : Str)) = false) L2.auto2._auto_1) (he : autoParam (starEach (e :: es) X.env = (false, eval e X.env) :: starEach es X.env) L2.auto4._auto_1) (hpl : autoParam ((backTo pos (starEach es X.env)).any (·.1) = false) L2.auto4._auto_1) :
    PE X (.Call (.Name x p) (e :: es) [] pos) (tCall sp [] E0 t) := by
  obtain ⟨f, fd, a, b, c, d⟩ := F
  exact pe_call d hr hg a b c .nil pass0 ha hdb he hpl
noncomputable def rAddA : R2 := fun x y H Q => (∃ i j, x = .int i ∧ y = .int j ∧ Q (.int (i + j)) H) ∨ (∃ i j, x = .str i ∧ y = .str j ∧ i.length + j.length ≤ sizeLine ∧ Q (.str (i ++ j)) H) ∨ rCat x y H Q
theorem op_addA : OpR X (binaryOp .Add) rAddA := op_add.or (op_add_str.or op_cat)
noncomputable def rMulA : R2 := fun x y H Q => (∃ i j, x = .int i ∧ y = .int j ∧ CMul i j ∧ Q (.int (i * j)) H) ∨ rMulS x y H Q ∨ rRep x y H Q
theorem op_mulA : OpR X (binaryOp .Mult) rMulA := op_mul.or (op_mul_str.or op_rep)
theorem glob_int {x : Str} {z : Int} {pos : Pos} (hg : Gl X x) (hm : ∃ t, X.mg x = some (.int z t)) (hd : autoParam ((x == ("__debug__" : Str)) = false) L2.auto2._auto_1) : PE X (.Name x pos) (tC (.int z)) :=
  let ⟨t, e⟩ := hm; pe_glob hg e ⟨t, rfl⟩ hd
theorem pe_ty {x : Str} {T : String} {pos : Pos} (hg : Gl X x) (hm : X.mg x = none) (hv : bootBuiltins x = some (.type T)) (hn : autoParam (x ≠ "__name__") L2.auto2._auto_1) (hd : autoParam ((x == ("__debug__" : Str)) = false) L2.auto2._auto_1) : PE X (.Name x pos) (tC (.ty T)) :=
  pe_bltn hg hm hv rfl hn hd
noncomputable def rEqA (K : PySem.W.Frag) : R2 := fun x y H Q => rEq x y H Q ∨ rEqL K false x y H Q
theorem op_eqA (hu : X.A.units < cLine) : OpR X (compareOp .Eq) (rEqA X.K) := op_eq.or (op_eq_lst hu)
noncomputable def rSl (K : PySem.W.Frag) : V → Option Int → Option Int → Hp → VK → Prop := fun x lo hi H Q => rSlL K x lo hi H Q ∨ rSlT K x lo hi H Q ∨ rSlS x lo hi H Q
theorem sl_seq : SlR X (rSl X.K) := sl_list.or (sl_tup.or sl_str)
noncomputable def iSeq (K : PySem.W.Frag) (tl : TE) : TI := fun σ H R => tl σ H fun x H1 => (∃ a, x = .ref a ∧ (∃ xs, SqL K H1 a xs) ∧ R (Itl K a) H1) ∨ (∃ a, x = .ref a ∧ (∃ xs, SqT K H1 a xs) ∧ R (Itt K a) H1) ∨ (∃ z, x = .str z ∧ R (Its z) H1)
theorem pi_seq {tg l : Expr} {tl : TE} (hl : PE X l tl) : PI X tg l (iSeq X.K tl) := by
  intro pins s σ H R I h
  refine thn (hl pins s σ H _ I h) fun v s1 qq0 => ?_
  obtain ⟨x, H1, I1, r1, q1⟩ := qq0
  rcases q1 with ⟨a, rfl, ⟨xs, hq⟩, q⟩ | ⟨a, rfl, ⟨xs, hq⟩, q⟩ | ⟨z, rfl, q⟩
  · cases r1
    obtain ⟨its, rv, p, hz⟩ := I1.list hq
    refine wpAny_pyIter_list p.isList ?_
    refine ⟨s1.heap.objs.size, [s1.heap.objs.size], _, _, H1, rfl, I1.kept (t' := s1.toks) fun b o e => Heap.get?_push_of_some _ e, turn_list a _, ⟨_, Heap.get?_push_size _ rfl, rfl, rfl⟩, fun b hb => ?_, q⟩
    have e : b = s1.heap.objs.size := by simpa using hb
    subst e
    exact I1.fpOk (Nat.le_refl _) (I1.hok.fresh (Nat.le_refl _))
  · cases r1
    obtain ⟨its, rv, p, hz⟩ := I1.tuple hq
    refine wpAny_pyIter_tuple (show s1.heap.IsTuple a its.toArray from p) ?_
    refine ⟨s1.heap.objs.size, [s1.heap.objs.size], _, _, H1, rfl, I1.kept (t' := s1.toks) fun b o e => Heap.get?_push_of_some _ e, turn_tuple a _, ⟨_, Heap.get?_push_size _ rfl, rfl, rfl⟩, fun b hb => ?_, q⟩
    have e : b = s1.heap.objs.size := by simpa using hb
    subst e
    exact I1.fpOk (Nat.le_refl _) (I1.hok.fresh (Nat.le_refl _))
  · obtain ⟨t, rfl⟩ := r1
    have fin : ∀ (ty : String) (T : Turn X.prog X.w X.K tg (Its z) [s1.heap.objs.size] s1.heap.objs.size (fun i h => h.IsStrIter s1.heap.objs.size ty z t i)) (o : Obj), (s1.heap.push o).IsStrIter s1.heap.objs.size ty z t 0 → PIE X pins σ tg R (.ref s1.heap.objs.size) { s1 with heap := s1.heap.push o } :=
      fun ty T o st => ⟨s1.heap.objs.size, [s1.heap.objs.size], _, _, H1, rfl, I1.kept (t' := s1.toks) fun b o e => Heap.get?_push_of_some _ e, T, st, fun b hb => by
        have e : b = s1.heap.objs.size := by simpa using hb
        subst e
        exact I1.fpOk (Nat.le_refl _) (I1.hok.fresh (Nat.le_refl _)), q⟩
    cases ha : z.cps.all (· < 128)
    · exact wpAny_pyIter_wide ha (fin "str_iterator" (turn_str _ z t _ (by decide) (fun A' hA => Walks.strWide hA _ z t) fun A i s Q E st h => wpAny_pyIter_striter_wide st h) _ ⟨_, Heap.get?_push_size _ rfl, rfl, rfl⟩)
    · exact wpAny_pyIter_ascii ha (fin "str_ascii_iterator" (turn_str _ z t _ (by decide) (fun A' hA => Walks.strAscii hA _ z t) fun A i s Q E st h => wpAny_pyIter_striter_ascii st h) _ ⟨_, Heap.get?_push_size _ rfl, rfl, rfl⟩)
end
section
variable {X : Cx} {K : PySem.W.Frag}
theorem ix_seqK (hK : X.K = K) : IxR X (rIx K) := hK ▸ ix_seq
theorem op_eqK (hK : X.K = K) (hu : X.A.units < cLine) : OpR X (compareOp .Eq) (rEqA K) := hK ▸ op_eqA hu
theorem sl_seqK (hK : X.K = K) : SlR X (rSl K) := hK ▸ sl_seq
theorem pi_seqK {tg l : Expr} {tl : TE} (hK : X.K = K) (hl : PE X l tl) : PI X tg l (iSeq K tl) := hK ▸ pi_seq hl
noncomputable def rLen (K : PySem.W.Frag) : List V → Hp → VK → Prop := fun xs H Q => ∃ x n, xs = [x] ∧ LenV K x H n ∧ Q (.int n) H
theorem call_lenK (hK : X.K = K) : CallR X (.builtin "len") (rLen K) := hK ▸ call_len
theorem call_isiK (hK : X.K = K) : CallR X (.builtin "isinstance") (rIsi K) := hK ▸ call_isi
noncomputable def rListA (K : PySem.W.Frag) : List V → Hp → VK → Prop := fun xs H Q => (∃ p ys, xs = [.ref p] ∧ (SqL K H p ys ∨ SqT K H p ys) ∧ ∀ l, H l = none → Q (.ref l) (upd H l (.lst ys))) ∨ (∃ x, xs = [.str x] ∧ x.cps.size ≤ sizeLine ∧ ∀ p, H p = none → Q (.ref p) (upd H p (.lst (sgn x))))
theorem call_listK (hK : X.K = K) (hc : X.calm = true) : CallR X (.type "list") (rListA K) := hK ▸ call_list_of.or (call_list_S hc)
variable {o e : Expr} {es : List Expr} {to : TE} {t : TA} {name : Str} {apos cpos : Pos} {T id : String} {r : V → List V → Hp → VK → Prop}
theorem pe_bmK (hK : X.K = K) (pa : PlainAttrs T) (slot : Slot T name id) (hty : typeOf (.builtin id) = pure (.type "method_descriptor")) (hm : MtR X id r) (ho : PE X o to) (ha : PA X (e :: es) t)
    (hbase : autoParam (attributeBase o name X.env (eval o X.env) = eval o X.env) L2.auto4._auto_1)
    (hfew : ((backTo cpos (starEach (e :: es) X.env)).all (fun x => !x.1) && (backToKw cpos (keywordEach [] X.env)).all (fun x => x.1.isSome)
      && decide ((e :: es).length + ([] : List Keyword).length + (if ([] : List Keyword).isEmpty then 0 else 1) < 30)) = true := by rfl)
    (hline : autoParam ((apos.endLine == cpos.line) = true) L2.auto4._auto_1) (hs : autoParam (starEach (e :: es) X.env = (false, eval e X.env) :: starEach es X.env) L2.auto4._auto_1) (hplain : autoParam ((backTo cpos (starEach es X.env)).any (·.1) = false) L2.auto4._auto_1) :
    PE X (.Call (.Attribute o name apos) (e :: es) [] cpos) (tBM K T r to t) := by
  subst hK; exact pe_bm pa slot hty hm ho ha hbase hfew hline hs hplain
theorem pg_tupK {ts : List Expr} {k : Nat} {gs : TGs} {n : Nat} {pos : Pos} (hK : X.K = K) (hc : X.calm = true) (h : PGs X ts gs)
    (hn : autoParam ((assignEach ts X.env).length = n) L2.auto4._auto_1) (hst : autoParam ((assignEach ts X.env).findIdx? (·.1) = none) L2.auto4._auto_1) : PG X (.Tuple ts k pos) (gTup K n gs) := by
  subst hK; exact pg_tup hc h hn hst
end
section
variable {X : Cx} {sc scope : Scope} {N' : List Str} {C : Addr} {s₀ : Shared} {H₀ : Hp} {ex : List Addr} {x : Str} {pos : Pos}
theorem pvL (i : Nat) (h : sc.names.lookup x = some .local) (hN : autoParam (X.N[i]? = some x) L2.auto4._auto_1) (hsc : autoParam (X.env.scope = sc) L2.auto4._auto_1) (hd : autoParam ((x == ("__debug__" : Str)) = false) L2.auto6._auto_1) (hcd : autoParam ((x == ("__classdict__" : Str)) = false) L2.auto6._auto_1) :
    PE X (.Name x pos) (tVar i) := pe_var hN (.inl (by rw [hsc]; exact h)) hd hcd
theorem pvC (i : Nat) (h : sc.names.lookup x = some .cell) (hN : autoParam (X.N[i]? = some x) L2.auto4._auto_1) (hsc : autoParam (X.env.scope = sc) L2.auto4._auto_1) (hd : autoParam ((x == ("__debug__" : Str)) = false) L2.auto6._auto_1) (hcd : autoParam ((x == ("__classdict__" : Str)) = false) L2.auto6._auto_1) :
    PE X (.Name x pos) (tVar i) := pe_var hN (.inr (.inl (by rw [hsc]; exact h))) hd hcd
theorem pvBL (i : Nat) (h : scope.names.lookup x = some .local) (hN : autoParam (N'[i]? = some x) L2.auto4._auto_1) (hd : autoParam ((x == ("__debug__" : Str)) = false) L2.auto6._auto_1) (hcd : autoParam ((x == ("__classdict__" : Str)) = false) L2.auto6._auto_1) :
    PE (cxC X N' scope C s₀ H₀ ex) (.Name x pos) (tVar i) := pe_var hN (.inl (lookup_relabel_local h)) hd hcd
theorem pvBF (i : Nat) (h : scope.names.lookup x = some .free) (hN : autoParam (N'[i]? = some x) L2.auto4._auto_1) (hd : autoParam ((x == ("__debug__" : Str)) = false) L2.auto6._auto_1) (hcd : autoParam ((x == ("__classdict__" : Str)) = false) L2.auto6._auto_1) :
    PE (cxC X N' scope C s₀ H₀ ex) (.Name x pos) (tVar i) := pe_var hN (by
      rcases relabel_free (env := X.env) h with z | z
      · exact .inr (.inl z)
      · exact .inr (.inr z)) hd hcd
theorem glF (h : sc.names.lookup x = some .globalImplicit) (hsc : autoParam (X.env.scope = sc) L2.auto4._auto_1) : Gl X x := by
  show X.env.scope.names.lookup x = _
  rw [hsc]; exact h
theorem lookup_relabel_glob {env : Env} : ∀ {names : List (Str × NameKind)} {x : Str}, names.lookup x = some .globalImplicit →
    (names.map fun (n, k) => if (k == NameKind.free && env.scope.kind == .function && env.kindOf n == some .cell) then (n, NameKind.cell) else (n, k)).lookup x = some .globalImplicit
  | [], _, h => by simp at h
  | (n, k) :: r, x, h => by
    have ih := @lookup_relabel_glob env r x
    show List.lookup x ((if (k == NameKind.free && env.scope.kind == .function && env.kindOf n == some .cell) = true then (n, NameKind.cell) else (n, k)) :: _) = _
    cases hx : x == n with
    | true =>
      simp only [List.lookup_cons, hx] at h
      cases h
      simp [List.lookup_cons, hx]
    | false =>
      simp only [List.lookup_cons, hx] at h
      by_cases hc : (k == NameKind.free && env.scope.kind == .function && env.kindOf n == some .cell) = true
      · rw [if_pos hc]; simp only [List.lookup_cons, hx]; exact ih h
      · rw [if_neg hc]; simp only [List.lookup_cons, hx]; exact ih h
theorem glB (h : scope.names.lookup x = some .globalImplicit) : Gl (cxC X N' scope C s₀ H₀ ex) x := lookup_relabel_glob h
theorem pgB (i : Nat) (h : scope.names.lookup x = some .local) (hN : N'.Nodup) (hi : autoParam (N'[i]? = some x) L2.auto4._auto_1) : PG (cxC X N' scope C s₀ H₀ ex) (.Name x pos) (gName i) :=
  pg_name hN hi (.inl (lookup_relabel_local h)) (.inr (lookup_relabel_local h))
end
noncomputable def notComp : Expr → Bool
  | .ListComp .. => false | .SetComp .. => false | .DictComp .. => false | _ => true
theorem sw_no {value : Expr} {target : Option Expr} {line : Nat} {env : Env} (h : notComp value = true) : swapsWith value target line env = pure false := by
  cases value <;> first | rfl | cases h
noncomputable def notSlice : Expr → Bool
  | .Slice .. => false | _ => true
theorem pix {b : Expr} (h : notSlice b = true) : PlainIx b := by
  intro o i
  cases b <;> first | rfl | cases h
noncomputable def notSet : Expr → Bool
  | .Set .. => false | _ => true
theorem fs_no {e : Expr} {env : Env} (h : notSet e = true) : ∀ x, foldedSetIterable e env x = pure x := by
  intro x
  cases e <;> first | rfl | cases h
noncomputable def notStar : Expr → Bool
  | .Starred .. => false | _ => true
theorem se_cons {e : Expr} {es : List Expr} {env : Env} (h : notStar e = true) : starEach (e :: es) env = (false, eval e env) :: starEach es env := by
  cases e <;> first | rfl | cases h
theorem se_any {env : Env} {pos : Pos} : ∀ {es : List Expr}, es.all notStar = true → (backTo pos (starEach es env)).any (·.1) = false
  | [], _ => rfl
  | e :: es, h => by
    simp only [List.all_cons, Bool.and_eq_true] at h
    rw [se_cons h.1]
    show (false || (backTo pos (starEach es env)).any (·.1)) = false
    rw [se_any h.2]; rfl
theorem se_all {env : Env} {pos : Pos} : ∀ {es : List Expr}, es.all notStar = true → (backTo pos (starEach es env)).all (fun x => !x.1) = true
  | [], _ => rfl
  | e :: es, h => by
    simp only [List.all_cons, Bool.and_eq_true] at h
    rw [se_cons h.1]
    show (true && (backTo pos (starEach es env)).all (fun x => !x.1)) = true
    rw [se_all h.2]; rfl
section
variable {X : Cx} {K : PySem.W.Frag} {e : Expr} {es : List Expr} {te : TE} {t : TA} {pos p : Pos}
theorem paC (ha : PE X e te) (hr : PA X es t) (h : autoParam (notStar e = true) L2.auto4._auto_1) : PA X (e :: es) (tCons te t) := pa_cons ha hr (se_cons h)
theorem callH {k : Nat} {x : Str} {ps : List Str} {sp : Sp} (F : Has X.prog X.w X.K X.mg X.base k x ps sp) (hr : Room k X.A) (hg : Gl X x) (ha : PA X (e :: es) t) (hdb : (x == ("__debug__" : Str)) = false) (h : autoParam ((e :: es).all notStar = true) L2.auto4._auto_1) :
    PE X (.Call (.Name x p) (e :: es) [] pos) (tCall sp [] E0 t) := by
  simp only [List.all_cons, Bool.and_eq_true] at h
  exact pe_callH F hr hg ha hdb (se_cons h.1) (se_any h.2)
theorem callB {x : Str} {id : String} {r : List V → Hp → VK → Prop} (hc : CallR X (.builtin id) r) (hg : Gl X x) (hm : X.mg x = none) (hv : bootBuiltins x = some (.builtin id)) (ha : PA X (e :: es) t) (hn : x ≠ "__name__") (hdb : (x == ("__debug__" : Str)) = false) (h : autoParam ((e :: es).all notStar = true) L2.auto4._auto_1) :
    PE X (.Call (.Name x p) (e :: es) [] pos) (tCB r t) := by
  simp only [List.all_cons, Bool.and_eq_true] at h
  exact pe_callB hc hg hm hv ha hn hdb (se_cons h.1) (se_any h.2)
theorem callTy {x : Str} {T : String} {r : List V → Hp → VK → Prop} (hc : CallR X (.type T) r) (hg : Gl X x) (hm : X.mg x = none) (hv : bootBuiltins x = some (.type T)) (ha : PA X (e :: es) t) (hn : x ≠ "__name__") (hdb : (x == ("__debug__" : Str)) = false) (h : autoParam ((e :: es).all notStar = true) L2.auto4._auto_1) :
    PE X (.Call (.Name x p) (e :: es) [] pos) (tCB r t) := by
  simp only [List.all_cons, Bool.and_eq_true] at h
  exact pe_callTy hc hg hm hv ha hn hdb (se_cons h.1) (se_any h.2)
noncomputable def notCall : Expr → Bool
  | .Call .. => false | _ => true
theorem ab_no {o : Expr} {f : Str} {env : Env} {w : Sem Value} (h : notCall o = true) : attributeBase o f env w = w := by
  cases o <;> first | rfl | cases h
theorem methK {o : Expr} {to : TE} {name : Str} {apos cpos : Pos} {T id : String} {r : V → List V → Hp → VK → Prop} (hK : X.K = K) (pa : PlainAttrs T) (slot : Slot T name id) (hty : typeOf (.builtin id) = pure (.type "method_descriptor")) (hm : MtR X id r) (ho : PE X o to) (ha : PA X (e :: es) t)
    (hbase : autoParam (notCall o = true) L2.auto4._auto_1) (hl : autoParam (es.length < 20) L2.auto2._auto_1) (hline : autoParam ((apos.endLine == cpos.line) = true) L2.auto4._auto_1) (h : autoParam ((e :: es).all notStar = true) L2.auto4._auto_1) :
    PE X (.Call (.Attribute o name apos) (e :: es) [] cpos) (tBM K T r to t) := by
  have hA := se_all (env := X.env) (pos := cpos) h
  simp only [List.all_cons, Bool.and_eq_true] at h
  refine pe_bmK hK pa slot hty hm ho ha (ab_no hbase) ?_ hline (se_cons h.1) (se_any h.2)
  rw [hA]
  have : (e :: es).length + ([] : List Keyword).length + (if ([] : List Keyword).isEmpty then 0 else 1) < 30 := by simp; omega
  rw [decide_eq_true this]; rfl
theorem psSet {i : Nat} {x : Str} {pos' : Pos} (hN : X.N.Nodup) (hi : X.N[i]? = some x) (hx : Loc X.env.scope x) (he : PE X e te) (hf : X.fn x = true) (h : autoParam (notComp e = true) L2.auto4._auto_1) : PS X (.Assign [.Name x pos'] e pos) (tAsg te (gName i)) :=
  ps_set hN hi hx he (sw_no h) (.inl hf)
theorem psExpr (he : PE X e te) (h : autoParam (notComp e = true) L2.auto4._auto_1) : PS X (.Expr e pos) (tDrop te) := ps_expr he (sw_no h)
theorem ixE {a b : Expr} {ta tb : TE} (hK : X.K = K) (ha : PE X a ta) (hb : PE X b tb) (h : autoParam (notSlice b = true) L2.auto4._auto_1) : PE X (.Subscript a b pos) (tOp (rIx K) ta tb) := pe_ix (ix_seqK hK) ha hb (pix h)
theorem psFor {tg iter : Expr} {body : List Stmt} {wi : TI} {g : TG} {tb : TS} (hp : PassesOwn (model X.prog X.w) X.A X.env X.xe) (hc : X.calm = true) (hi : PI X tg iter wi) (hg : PG X tg g) (hb : PSs X body tb) (h : autoParam (notSet iter = true) L2.auto4._auto_1) : PS X (.For tg iter body [] pos) (tFor wi g tb) :=
  ps_for hp hc hi hg hb (fs_no h)
end
section
variable {X : Cx} {tg iter elt : Expr} {ifs : List Expr} {scope : Scope} {pos : Pos} {N' : List Str} {sub : List (Option Nat)} {wi : TI} {g : TG} {tt : TT} {te : TE} {N : List Str} {sc : Scope}
theorem compE (S : SubOk N sc N' scope sub) (hc : X.calm = true) (hN : X.N = N) (hsc : X.env.scope = sc) (hi : PI X tg iter wi)
    (hg : ∀ (C : Addr) (s₀ : Shared) (H₀ : Hp) (ex : List Addr), PG (cxC X N' scope C s₀ H₀ ex) tg g)
    (ht : ∀ (C : Addr) (s₀ : Shared) (H₀ : Hp) (ex : List Addr), PIfs (cxC X N' scope C s₀ H₀ ex) ifs tt)
    (he : ∀ (C : Addr) (s₀ : Shared) (H₀ : Hp) (ex : List Addr), PE (cxC X N' scope C s₀ H₀ ex) elt te) (h : autoParam (notSet iter = true) L2.auto4._auto_1) :
    PE X (.ListComp elt [⟨tg, iter, ifs, 0⟩] scope pos) (tComp sub wi g tt te) := pe_comp S hc hN hsc hi hg ht he (fs_no h)
end
theorem bt_len : bootBuiltins "len" = some (.builtin "len") := by decide +kernel
theorem bt_max : bootBuiltins "max" = some (.builtin "max") := by decide +kernel
theorem bt_isinstance : bootBuiltins "isinstance" = some (.builtin "isinstance") := by decide +kernel
theorem bt_all : bootBuiltins "all" = some (.builtin "all") := by decide +kernel
theorem bt_sorted : bootBuiltins "sorted" = some (.builtin "sorted") := by decide +kernel
theorem bt_sum : bootBuiltins "sum" = some (.builtin "sum") := by decide +kernel
theorem bt_list : bootBuiltins "list" = some (.type "list") := by decide +kernel
theorem bt_tuple : bootBuiltins "tuple" = some (.type "tuple") := by decide +kernel
theorem bt_int : bootBuiltins "int" = some (.type "int") := by decide +kernel
theorem bt_enumerate : bootBuiltins "enumerate" = some (.type "enumerate") := by decide +kernel
theorem bt_bool : bootBuiltins "bool" = some (.type "bool") := by decide +kernel
theorem iteD {c A B : Prop} [Decidable c] (h1 : c → A) (h2 : ¬ c → B) : if decide c = true then A else B := by
  by_cases h : c
  · rw [if_pos (decide_eq_true h)]; exact h1 h
  · rw [if_neg (by rw [decide_eq_false h]; exact Bool.false_ne_true)]; exact h2 h
theorem atI_int {α : Type} {xs : List α} {k : Int} {v : α} (h0 : 0 ≤ k) (h : xs[k.toNat]? = some v) : atI xs k = some v := by
  have e : ((k.toNat : Nat) : Int) = k := by omega
  rw [← e]
  exact atI_nat h
end L2

namespace L2
open PySem PySem.Spec PyProof.Rows
section
variable {σ : St} {H : Hp} {D : Ends} {ta tb te tc : TE} {tt tu : TT} {Q : VK} {t u : TS} {g : TG}
theorem r_seq (h : t { D with nx := u D } σ H) : tSeq t u D σ H := h
theorem r_next (h : D.nx σ H) : tNext D σ H := h
theorem r_asg (h : te σ H fun x H1 => g x σ H1 D.nx) : tAsg te g D σ H := h
theorem r_name {i : Nat} {v : V} {R : St → Hp → Prop} (h : R (σ.set i (some v)) H) : gName i v σ H R := h
theorem r_sub {to ti : TE} {ts : TSet} {v : V} {R : St → Hp → Prop} (h : to σ H fun o H1 => ti σ H1 fun i H2 => ts o i v H2 fun H3 => R σ H3) : gSub to ti ts v σ H R := h
theorem r_ret (h : te σ H D.rt) : tRet te D σ H := h
theorem r_drop (h : te σ H fun _ H1 => D.nx σ H1) : tDrop te D σ H := h
theorem r_if (h : tt σ H fun b H1 => if b = true then t D σ H1 else u D σ H1) : tIfS tt t u D σ H := h
theorem r_test {R : Bool → Hp → Prop} (h : te σ H fun x H1 => ∃ k, x = .bl k ∧ R k H1) : tTest te σ H R := h
theorem r_tb {R : Bool → Hp → Prop} (h : te σ H fun x H1 => ∃ k, x = .bl k ∧ R k H1) : tB te σ H R := h
theorem r_not {R : Bool → Hp → Prop} (h : tt σ H fun c H1 => R (!c) H1) : tNot tt σ H R := h
theorem r_and {R : Bool → Hp → Prop} (h : tt σ H fun c H1 => if c = true then tu σ H1 R else R false H1) : tAnd tt tu σ H R := h
theorem r_or {R : Bool → Hp → Prop} (h : tt σ H fun c H1 => if c = true then R true H1 else tu σ H1 R) : tOr tt tu σ H R := h
theorem r_andV (h : ta σ H fun x H1 => ∃ c, x = .bl c ∧ if c = true then tb σ H1 Q else Q (.bl false) H1) : tAndV ta tb σ H Q := h
theorem r_notV (h : ta σ H fun x H1 => ∃ c, x = .bl c ∧ Q (.bl (!c)) H1) : tNotV ta σ H Q := h
theorem r_var {i : Nat} {v : V} (e : σ[i]? = some (some v)) (h : Q v H) : tVar i σ H Q := ⟨v, e, h⟩
theorem r_C {v : V} (h : Q v H) : tC v σ H Q := h
theorem r_op {r : R2} (h : ta σ H fun x H1 => tb σ H1 fun y H2 => r x y H2 Q) : tOp r ta tb σ H Q := h
theorem r_un {r : V → Hp → VK → Prop} (h : ta σ H fun x H1 => r x H1 Q) : tUn r ta σ H Q := h
theorem r_cb {r : List V → Hp → VK → Prop} {a : TA} (h : a σ H fun vs H1 => r vs H1 Q) : tCB r a σ H Q := h
theorem r_cons {a : TA} {R : List V → Hp → Prop} (h : te σ H fun x H1 => a σ H1 fun xs H2 => R (x :: xs) H2) : tCons te a σ H R := h
theorem r_nil {R : List V → Hp → Prop} (h : R [] H) : tNil σ H R := h
theorem r_call {sp : Sp} {E : XK} {a : TA} (h : a σ H fun vs H1 => sp vs H1 Q E) : tCall sp [] E a σ H Q := by
  unfold tCall
  simpa only [List.append_nil] using h
theorem r_tup {a : TA} (h : a σ H fun xs H1 => xs.length ≤ sizeLine ∧ ∀ p, H1 p = none → Q (.ref p) (upd H1 p (.tup xs))) : tTup a σ H Q := h
theorem r_lst {a : TA} (h : a σ H fun xs H1 => xs.length ≤ sizeLine ∧ ∀ p, H1 p = none → Q (.ref p) (upd H1 p (.lst xs))) : tLst a σ H Q := h
theorem r_bm {K : PySem.W.Frag} {T : String} {r : V → List V → Hp → VK → Prop} {a : TA} (h : te σ H fun x H1 => tyV K T x H1 ∧ a σ H1 fun xs H2 => r x xs H2 Q) : tBM K T r te a σ H Q := h
theorem r_sl {r : V → Option Int → Option Int → Hp → VK → Prop} {tl th : TO} (h : te σ H fun x H1 => tl σ H1 fun l H2 => th σ H2 fun u H3 => r x l u H3 Q) : tSl r te tl th σ H Q := h
theorem r_nop {R : Option Int → Hp → Prop} (h : R none H) : tNoPart σ H R := h
theorem r_part {R : Option Int → Hp → Prop} (h : te σ H fun x H1 => ∃ i, x = .int i ∧ R (some i) H1) : tPart te σ H R := h
theorem r_true {R : Bool → Hp → Prop} (h : R true H) : tTrue σ H R := h
theorem r_rng1 {a : TA} {R : It → Hp → Prop} (h : a σ H fun vs H1 => ∃ j : Int, vs = [.int j] ∧ -(2 ^ 62) ≤ j ∧ j < 2 ^ 62 ∧ R (Itr 0 j.toNat) H1) : iRng1 a σ H R := h
theorem r_rng2 {a : TA} {R : It → Hp → Prop} (h : a σ H fun vs H1 => ∃ i j : Int, vs = [.int i, .int j] ∧ (-(2 ^ 62) ≤ i ∧ i < 2 ^ 62 ∧ -(2 ^ 62) ≤ j ∧ j < 2 ^ 62) ∧ R (Itr i (j - i).toNat) H1) : iRng2 a σ H R := h
theorem r_iseq {K : PySem.W.Frag} {R : It → Hp → Prop} (h : te σ H fun x H1 => (∃ a, x = .ref a ∧ (∃ xs, SqL K H1 a xs) ∧ R (Itl K a) H1) ∨ (∃ a, x = .ref a ∧ (∃ xs, SqT K H1 a xs) ∧ R (Itt K a) H1) ∨ (∃ z, x = .str z ∧ R (Its z) H1)) : iSeq K te σ H R := h
theorem r_comp {sub : List (Option Nat)} {wi : TI} (h : wi σ H fun J H1 => CompR sub g tt te σ Q J H1) : tComp sub wi g tt te σ H Q := h
theorem r_for {wi : TI} {tbd : TS} (h : wi σ H fun J H1 => ∃ W : Nat → Nat → St → Hp → Prop, (∃ m, W 0 m σ H1) ∧ ∀ i m σ H, W i m σ H →
  (J.stop i H ∧ D.nx σ H) ∨ (J.go i H ∧ ∃ N : St → Hp → Prop, (∀ σ' H', N σ' H' → ∃ m', m' < m ∧ W (i + 1) m' σ' H') ∧ ∀ x H', J.yld i H x H' → g x σ H' fun σ2 H2 => tbd { D with nx := N, ct := N, bk := D.nx } σ2 H2)) : tFor wi g tbd D σ H := h
variable {i j : Int} {x y : Str} {f : Int → Int → V} {C : Int → Int → Prop} {K : PySem.W.Frag}
theorem r_i0 (h : Q (f i j) H) : rI0 f (.int i) (.int j) H Q := ⟨_, _, rfl, rfl, h⟩
theorem r_i (c : C i j) (h : Q (f i j) H) : rI C f (.int i) (.int j) H Q := ⟨_, _, rfl, rfl, c, h⟩
theorem r_addI (h : Q (.int (i + j)) H) : rAddA (.int i) (.int j) H Q := .inl ⟨_, _, rfl, rfl, h⟩
theorem r_addL {a b : Addr} {xs ys : List V} (ha : H a = some (.lst xs)) (hb : H b = some (.lst ys)) (c : xs.length + ys.length ≤ sizeLine) (h : ∀ p, H p = none → Q (.ref p) (upd H p (.lst (xs ++ ys)))) : rAddA (.ref a) (.ref b) H Q :=
  .inr (.inr ⟨a, b, xs, ys, rfl, rfl, ha, hb, c, h⟩)
theorem r_mulI (c : CMul i j) (h : Q (.int (i * j)) H) : rMulA (.int i) (.int j) H Q := .inl ⟨_, _, rfl, rfl, c, h⟩
theorem r_ixL {p : Addr} {xs : List V} {v : V} (s : SqL K H p xs) (e : atI xs i = some v) (h : Q v H) : rIx K (.ref p) (.int i) H Q := .inl ⟨p, xs, i, v, rfl, rfl, s, e, h⟩
theorem r_ixT {p : Addr} {xs : List V} {v : V} (s : SqT K H p xs) (e : atI xs i = some v) (h : Q v H) : rIx K (.ref p) (.int i) H Q := .inr (.inl ⟨p, xs, i, v, rfl, rfl, s, e, h⟩)
theorem r_setL {p : Addr} {xs : List V} {n : Nat} {v : V} {R : Hp → Prop} (hp : H p = some (.lst xs)) (e : ixN xs.length i = some n) (h : R (upd H p (.lst (xs.set n v)))) : rSetL (.ref p) (.int i) v H R := ⟨p, xs, i, n, rfl, rfl, hp, e, h⟩
theorem r_bl {b : Bool} {R : Bool → Prop} (h : R b) : ∃ k, V.bl b = .bl k ∧ R k := ⟨b, rfl, h⟩
theorem r_intE {n : Int} {R : Int → Prop} (h : R n) : ∃ k, V.int n = .int k ∧ R k := ⟨n, rfl, h⟩
end
theorem Same.upd {H H' : Hp} {p : Addr} {o : HO} (s : Same H H') (hn : H' p = none) : Same H (upd H' p o) := fun b u e => by
  have q := s b u e
  rw [upd_ne (fun z => by rw [z, hn] at q; cases q)]
  exact q
end L2

namespace L2
open PySem PySem.Spec PyProof.Rows
theorem upd_old {H : Hp} {q b : Addr} {o u : HO} (hq : H q = none) (hb : H b = some u) : upd H q o b = some u := by
  rw [upd_ne (fun z => by rw [z, hq] at hb; cases hb)]; exact hb
theorem pickI {ns : List Int} {d : Int} (h0 : 0 ≤ d) (h1 : d < ns.length) : ∃ n, n ∈ ns ∧ atI (ns.map V.int) d = some (.int n) := by
  have hl : d.toNat < ns.length := by omega
  refine ⟨ns[d.toNat], List.getElem_mem hl, atI_int h0 ?_⟩
  rw [List.getElem?_map, List.getElem?_eq_getElem hl]; rfl
section
variable {H : Hp} {Q : VK} {K : PySem.W.Frag}
theorem r_lenL {p : Addr} {xs : List V} (s : SqL K H p xs) (h : Q (.int xs.length) H) : rLen K [V.ref p] H Q := ⟨_, _, rfl, .inl ⟨_, s, rfl⟩, h⟩
theorem r_lenT {p : Addr} {xs : List V} (s : SqT K H p xs) (h : Q (.int xs.length) H) : rLen K [V.ref p] H Q := ⟨_, _, rfl, .inr ⟨_, s, rfl⟩, h⟩
theorem r_ii {i j : Int} {R : Int → Int → Prop} (h : R i j) : ∃ a b, [V.int i, V.int j] = [.int a, .int b] ∧ R a b := ⟨_, _, rfl, h⟩
theorem r_isi {x : V} {T : String} {t : Value} {b : Bool} (ty : TyOf K H x t) (e : PySem.W.kitOne K t (.type T) = some b) (h : Q (.bl b) H) : rIsi K [x, .ty T] H Q := ⟨x, T, t, b, rfl, ty, e, h⟩
theorem r_slL {p : Addr} {xs : List V} {lo hi : Option Int} (s : SqL K H p xs) (h : ∀ q, H q = none → Q (.ref q) (upd H q (.lst (cutV xs lo hi)))) : rSl K (.ref p) lo hi H Q := .inl ⟨p, xs, rfl, s, h⟩
end
section
variable {σ : St} {H : Hp} {Q : VK}
theorem r_listL {K : PySem.W.Frag} {a : Addr} {xs : List V} (s : SqL K H a xs) (h : ∀ p, H p = none → Q (.ref p) (upd H p (.lst xs))) : rListA K [.ref a] H Q := .inl ⟨a, xs, rfl, .inl s, h⟩
end
theorem comp_rng {sub : List (Option Nat)} {g : TG} {tt : TT} {te : TE} {σ : St} {Q : VK} {H : Hp} {lo : Int} {n : Nat} (Pv : Nat → List V → Hp → Prop) (hn : n ≤ sizeLine) (h0 : Pv 0 [] H) (hl : ∀ i ys H, Pv i ys H → ys.length ≤ i)
    (hs : ∀ i ys H, i < n → Pv i ys H → g (.int (lo + i)) (subSt sub σ) H fun σ2 H2 => KeepSt (subSt sub σ) σ2 ∧ tt σ2 H2 fun b H3 => if b = true then te σ2 H3 fun y H4 => Pv (i + 1) (ys ++ [y]) H4 else Pv (i + 1) ys H3)
    (hd : ∀ ys H, Pv n ys H → ∀ D, H D = none → Q (.ref D) (upd H D (.lst ys))) : CompR sub g tt te σ Q (Itr lo n) H :=
  comp_by (n := n) Pv hn h0 hl (fun i ys H hi _ => hi) (fun ys H _ => Nat.le_refl _) (fun i ys H x H' hi p y => by
    obtain ⟨e1, e2⟩ := y
    subst e1 e2
    exact hs i ys _ hi p) hd
theorem comp_list {sub : List (Option Nat)} {g : TG} {tt : TT} {te : TE} {σ : St} {Q : VK} {H : Hp} {K : PySem.W.Frag} {a : Addr} {xs : List V} (Pv : Nat → List V → Hp → Prop) (hn : xs.length ≤ sizeLine) (h0 : Pv 0 [] H) (hl : ∀ i ys H, Pv i ys H → ys.length ≤ i)
    (hq : ∀ i ys H, Pv i ys H → SqL K H a xs)
    (hs : ∀ i ys H x, xs[i]? = some x → Pv i ys H → g x (subSt sub σ) H fun σ2 H2 => KeepSt (subSt sub σ) σ2 ∧ tt σ2 H2 fun b H3 => if b = true then te σ2 H3 fun y H4 => Pv (i + 1) (ys ++ [y]) H4 else Pv (i + 1) ys H3)
    (hd : ∀ ys H, Pv xs.length ys H → ∀ D, H D = none → Q (.ref D) (upd H D (.lst ys))) : CompR sub g tt te σ Q (Itl K a) H :=
  comp_by (n := xs.length) Pv hn h0 hl (fun i ys H hi p => ⟨xs, xs[i], hq i ys H p, List.getElem?_eq_getElem hi⟩) (fun ys H p => ⟨xs, hq _ ys H p, Nat.le_refl _⟩) (fun i ys H x H' hi p y => by
    obtain ⟨e1, e2⟩ := y
    subst e1
    exact hs i ys _ x (e2 xs (hq i ys _ p)) p) hd
end L2

namespace L2
open PySem PySem.Spec PyProof.Rows
structure JE (X : Cx) (e : Expr) (t : TE) : Prop where
  run : PE X e t
structure JT (X : Cx) (e : Expr) (t : TT) : Prop where
  run : PT X e t
structure JW (X : Cx) (e : Expr) (t : TT) : Prop where
  run : PW X e t
structure JA (X : Cx) (es : List Expr) (t : TA) : Prop where
  run : PA X es t
structure JS (X : Cx) (s : Stmt) (t : TS) : Prop where
  run : PS X s t
structure JB (X : Cx) (s : List Stmt) (t : TS) : Prop where
  run : PSs X s t
structure JI (X : Cx) (tg iter : Expr) (t : TI) : Prop where
  run : PI X tg iter t
structure JG (X : Cx) (tg : Expr) (t : TG) : Prop where
  run : PG X tg t
structure JGs (X : Cx) (tg : List Expr) (t : TGs) : Prop where
  run : PGs X tg t
structure JO (X : Cx) (e : Option Expr) (t : TO) : Prop where
  run : PO X e t
structure JPs (X : Cx) (pos : Pos) (keys : List (Option Expr)) (values : List Expr) (t : List (TE × TE)) : Prop where
  run : PPs X pos keys values t
structure JIfs (X : Cx) (ifs : List Expr) (t : TT) : Prop where
  run : PIfs X ifs t
section
variable {X : Cx} {K : PySem.W.Frag} {sc scope : Scope} {N' : List Str} {C : Addr} {s₀ : Shared} {H₀ : Hp} {ex : List Addr} {x : Str} {pos p p2 pos' apos cpos tpos : Pos} {a b c e o : Expr} {es : List Expr} {ta tb tc te to ti : TE} {t : TA} {tA tB' tt : TT} {rest : List Expr}
theorem j_vL (i : Nat) (h : sc.names.lookup x = some .local) (hN : autoParam (X.N[i]? = some x) L2.auto4._auto_1) (hsc : autoParam (X.env.scope = sc) L2.auto4._auto_1) (hd : autoParam ((x == ("__debug__" : Str)) = false) L2.auto6._auto_1) (hcd : autoParam ((x == ("__classdict__" : Str)) = false) L2.auto6._auto_1) : JE X (.Name x pos) (tVar i) := ⟨pvL i h hN hsc hd hcd⟩
theorem j_vC (i : Nat) (h : sc.names.lookup x = some .cell) (hN : autoParam (X.N[i]? = some x) L2.auto4._auto_1) (hsc : autoParam (X.env.scope = sc) L2.auto4._auto_1) (hd : autoParam ((x == ("__debug__" : Str)) = false) L2.auto6._auto_1) (hcd : autoParam ((x == ("__classdict__" : Str)) = false) L2.auto6._auto_1) : JE X (.Name x pos) (tVar i) := ⟨pvC i h hN hsc hd hcd⟩
theorem j_vBL (i : Nat) (h : scope.names.lookup x = some .local) (hN : autoParam (N'[i]? = some x) L2.auto4._auto_1) (hd : autoParam ((x == ("__debug__" : Str)) = false) L2.auto6._auto_1) (hcd : autoParam ((x == ("__classdict__" : Str)) = false) L2.auto6._auto_1) : JE (cxC X N' scope C s₀ H₀ ex) (.Name x pos) (tVar i) := ⟨pvBL i h hN hd hcd⟩
theorem j_vBF (i : Nat) (h : scope.names.lookup x = some .free) (hN : autoParam (N'[i]? = some x) L2.auto4._auto_1) (hd : autoParam ((x == ("__debug__" : Str)) = false) L2.auto6._auto_1) (hcd : autoParam ((x == ("__classdict__" : Str)) = false) L2.auto6._auto_1) : JE (cxC X N' scope C s₀ H₀ ex) (.Name x pos) (tVar i) := ⟨pvBF i h hN hd hcd⟩
theorem j_int {i j} : JE X (.Constant (.int i) j pos) (tC (.int i)) := ⟨pe_int⟩
theorem j_bl {i j} : JE X (.Constant (.bool i) j pos) (tC (.bl i)) := ⟨pe_bl⟩
theorem j_non {j} : JE X (.Constant .none j pos) (tC .non) := ⟨pe_non⟩
theorem j_gint {z : Int} (hg : Gl X x) (hm : ∃ t, X.mg x = some (.int z t)) (hd : (x == ("__debug__" : Str)) = false) : JE X (.Name x pos) (tC (.int z)) := ⟨glob_int hg hm hd⟩
theorem j_ty {T : String} (hg : Gl X x) (hm : X.mg x = none) (hv : bootBuiltins x = some (.type T)) (hn : x ≠ "__name__") (hd : (x == ("__debug__" : Str)) = false) : JE X (.Name x pos) (tC (.ty T)) := ⟨pe_ty hg hm hv hn hd⟩
theorem j_op {op : Operator} {r : R2} (ho : OpR X (binaryOp op) r) (ha : JE X a ta) (hb : JE X b tb) : JE X (.BinOp a op b pos) (tOp r ta tb) := ⟨pe_op ho ha.run hb.run⟩
theorem j_un {op : UnaryOp} {r : V → Hp → VK → Prop} (ho : UnR X (unaryOp op) r) (ha : JE X a ta) : JE X (.UnaryOp op a pos) (tUn r ta) := ⟨pe_un ho ha.run⟩
theorem j_cmp {op : CmpOp} {r : R2} (ho : OpR X (compareOp op) r) (ha : JE X a ta) (hb : JE X b tb) (hm : behindInMarks op b = false) : JE X (.Compare a [op] [b] pos) (tOp r ta tb) := ⟨pe_cmpR ho ha.run hb.run hm⟩
theorem jt_cmp {op : CmpOp} {r : R2} (ho : OpR X (compareOp op) r) (ha : JE X a ta) (hb : JE X b tb) (hm : behindInMarks op b = false) : JT X (.Compare a [op] [b] pos) (tTest (tOp r ta tb)) := ⟨pt_cmpR ho ha.run hb.run hm⟩
theorem jw_and1 (ha : JT X a tA) : JW X (.BoolOp .And [a] pos) tA := ⟨pw_and1 ha.run⟩
theorem jw_or1 (ha : JT X a tA) : JW X (.BoolOp .Or [a] pos) tA := ⟨pw_or1 ha.run⟩
theorem jw_and (ha : JT X a tA) (hb : JW X (.BoolOp .And (b :: rest) pos) tB') : JW X (.BoolOp .And (a :: b :: rest) pos) (tAnd tA tB') := ⟨pw_and ha.run hb.run⟩
theorem jw_or (ha : JT X a tA) (hb : JW X (.BoolOp .Or (b :: rest) pos) tB') : JW X (.BoolOp .Or (a :: b :: rest) pos) (tOr tA tB') := ⟨pw_or ha.run hb.run⟩
theorem jw_pt (h : JW X e tt) : JT X e tt := ⟨h.run.pt⟩
theorem jt_not (ha : JT X a tA) : JT X (.UnaryOp .Not a pos) (tNot tA) := ⟨pt_not ha.run⟩
noncomputable def plainT : Expr → Bool
  | .BoolOp .. => false | .UnaryOp .. => false | .Compare .. => false | .IfExp .. => false | _ => true
theorem jt_val (h : JE X e te) (hp : autoParam (plainT e = true) L2.auto4._auto_1) : JT X e (tB te) := ⟨pt_val h.run (by
  intro whole
  cases e <;> first | rfl | cases hp)⟩
theorem j_one {op} (h : JE X a te) : JE X (.BoolOp op [a] pos) te := ⟨pe_one h.run⟩
theorem j_and (ha : JE X a ta) (hb : JE X (.BoolOp .And (b :: rest) pos) tb) : JE X (.BoolOp .And (a :: b :: rest) pos) (tAndV ta tb) := ⟨pe_and ha.run hb.run⟩
theorem j_not (ha : JE X a ta) : JE X (.UnaryOp .Not a pos) (tNotV ta) := ⟨pe_not ha.run⟩
theorem j_tup {x1} (h : JA X es t) : JE X (.Tuple es x1 pos) (tTup t) := ⟨pe_tup h.run⟩
theorem j_lst (h : JA X es t) : JE X (.List es pos) (tLst t) := ⟨pe_lst h.run⟩
theorem ja_nil : JA X [] tNil := ⟨pa_nil⟩
theorem ja_cons (ha : JE X e te) (hr : JA X es t) (h : autoParam (notStar e = true) L2.auto4._auto_1) : JA X (e :: es) (tCons te t) := ⟨paC ha.run hr.run h⟩
theorem jo_none : JO X none tNoPart := ⟨po_none⟩
theorem jo_some (h : JE X e te) : JO X (some e) (tPart te) := ⟨po_some h.run⟩
theorem j_slice {r : V → Option Int → Option Int → Hp → VK → Prop} {lo hi : Option Expr} {tl th : TO} (hr : SlR X r) (he : JE X e te) (hl : JO X lo tl) (hu : JO X hi th) : JE X (.Subscript e (.Slice lo hi none p2) pos) (tSl r te tl th) := ⟨pe_slice hr he.run hl.run hu.run⟩
theorem j_ix (hK : X.K = K) (ha : JE X a ta) (hb : JE X b tb) (h : autoParam (notSlice b = true) L2.auto4._auto_1) : JE X (.Subscript a b pos) (tOp (rIx K) ta tb) := ⟨ixE hK ha.run hb.run h⟩
theorem j_call {k : Nat} {ps : List Str} {sp : Sp} (F : Has X.prog X.w X.K X.mg X.base k x ps sp) (hr : Room k X.A) (hg : Gl X x) (ha : JA X (e :: es) t) (hdb : (x == ("__debug__" : Str)) = false) (h : autoParam ((e :: es).all notStar = true) L2.auto4._auto_1) :
    JE X (.Call (.Name x p) (e :: es) [] pos) (tCall sp [] E0 t) := ⟨callH F hr hg ha.run hdb h⟩
theorem j_callB {id : String} {r : List V → Hp → VK → Prop} (hc : CallR X (.builtin id) r) (hg : Gl X x) (hm : X.mg x = none) (hv : bootBuiltins x = some (.builtin id)) (ha : JA X (e :: es) t) (hn : x ≠ "__name__") (hdb : (x == ("__debug__" : Str)) = false) (h : autoParam ((e :: es).all notStar = true) L2.auto4._auto_1) :
    JE X (.Call (.Name x p) (e :: es) [] pos) (tCB r t) := ⟨callB hc hg hm hv ha.run hn hdb h⟩
theorem j_callTy {T : String} {r : List V → Hp → VK → Prop} (hc : CallR X (.type T) r) (hg : Gl X x) (hm : X.mg x = none) (hv : bootBuiltins x = some (.type T)) (ha : JA X (e :: es) t) (hn : x ≠ "__name__") (hdb : (x == ("__debug__" : Str)) = false) (h : autoParam ((e :: es).all notStar = true) L2.auto4._auto_1) :
    JE X (.Call (.Name x p) (e :: es) [] pos) (tCB r t) := ⟨callTy hc hg hm hv ha.run hn hdb h⟩
theorem j_meth {name : Str} {T id : String} {r : V → List V → Hp → VK → Prop} (hK : X.K = K) (pa : PlainAttrs T) (slot : Slot T name id) (hty : typeOf (.builtin id) = pure (.type "method_descriptor")) (hm : MtR X id r) (ho : JE X o to) (ha : JA X (e :: es) t)
    (hbase : autoParam (notCall o = true) L2.auto4._auto_1) (hl : autoParam (es.length < 20) L2.auto2._auto_1) (hline : autoParam ((apos.endLine == cpos.line) = true) L2.auto4._auto_1) (h : autoParam ((e :: es).all notStar = true) L2.auto4._auto_1) : JE X (.Call (.Attribute o name apos) (e :: es) [] cpos) (tBM K T r to t) := ⟨methK hK pa slot hty hm ho.run ha.run hbase hl hline h⟩
theorem jif_nil : JIfs X [] tTrue := ⟨pifs_nil⟩
theorem jif_one (hc : JT X c tt) : JIfs X [c] tt := ⟨pifs_one hc.run⟩
variable {tg iter elt : Expr} {ifs : List Expr} {sub : List (Option Nat)} {wi : TI} {g : TG} {N : List Str}
theorem ji_range1 {ta : TA} (hg : Gl X "range") (hm : X.mg "range" = none) (ha : JA X [a] ta) (h : autoParam (notStar a = true) L2.auto4._auto_1) : JI X tg (.Call (.Name "range" p) [a] [] pos) (iRng1 ta) := ⟨pi_range1 hg hm ha.run (se_cons h)⟩
theorem ji_range2 {ta : TA} (hg : Gl X "range") (hm : X.mg "range" = none) (ha : JA X [a, b] ta) (h : autoParam (notStar a = true) L2.auto4._auto_1) (h2 : autoParam (notStar b = true) L2.auto4._auto_1) : JI X tg (.Call (.Name "range" p) [a, b] [] pos) (iRng2 ta) := ⟨pi_range2 hg hm ha.run (by rw [se_cons h, se_cons h2]; rfl) (by rw [se_cons h2]; rfl)⟩
theorem ji_seq (hK : X.K = K) (hl : JE X e te) : JI X tg e (iSeq K te) := ⟨pi_seqK hK hl.run⟩
theorem jg_name {i : Nat} (hN : X.N.Nodup) (hi : X.N[i]? = some x) (hx : Loc X.env.scope x) (hf : X.fn x = true) : JG X (.Name x pos) (gName i) := ⟨pg_name hN hi hx (.inl hf)⟩
theorem jg_B (i : Nat) (h : scope.names.lookup x = some .local) (hN : N'.Nodup) (hi : autoParam (N'[i]? = some x) L2.auto4._auto_1) : JG (cxC X N' scope C s₀ H₀ ex) (.Name x pos) (gName i) := ⟨pgB i h hN hi⟩
theorem jgs_nil : JGs X [] gNil := ⟨pgs_nil⟩
theorem jgs_cons {gs : TGs} (h1 : JG X e g) (h2 : JGs X es gs) (hs : autoParam ((assignEach (e :: es) X.env).map (·.2) = assign e X.env :: (assignEach es X.env).map (·.2)) L2.auto4._auto_1) : JGs X (e :: es) (gCons g gs) := ⟨pgs_cons h1.run h2.run hs⟩
theorem jg_tup {ts : List Expr} {k : Nat} {gs : TGs} {n : Nat} (hK : X.K = K) (hc : X.calm = true) (h : JGs X ts gs) (hn : autoParam ((assignEach ts X.env).length = n) L2.auto4._auto_1) (hst : autoParam ((assignEach ts X.env).findIdx? (·.1) = none) L2.auto4._auto_1) : JG X (.Tuple ts k pos) (gTup K n gs) := ⟨pg_tupK hK hc h.run hn hst⟩
theorem jg_sub {ts : TSet} (ho : JE X a ta) (hi : JE X b tb) (hs : PSet X ts) (h : autoParam (notSlice b = true) L2.auto4._auto_1) : JG X (.Subscript a b pos) (gSub ta tb ts) := ⟨pg_sub ho.run hi.run hs (by
  intro v
  cases b <;> first | rfl | cases h)⟩
theorem j_comp (S : SubOk N sc N' scope sub) (hc : X.calm = true) (hN : X.N = N) (hsc : X.env.scope = sc) (hi : JI X tg iter wi)
    (hg : ∀ (C : Addr) (s₀ : Shared) (H₀ : Hp) (ex : List Addr), JG (cxC X N' scope C s₀ H₀ ex) tg g)
    (ht : ∀ (C : Addr) (s₀ : Shared) (H₀ : Hp) (ex : List Addr), JIfs (cxC X N' scope C s₀ H₀ ex) ifs tt)
    (he : ∀ (C : Addr) (s₀ : Shared) (H₀ : Hp) (ex : List Addr), JE (cxC X N' scope C s₀ H₀ ex) elt te) (h : autoParam (notSet iter = true) L2.auto4._auto_1) :
    JE X (.ListComp elt [⟨tg, iter, ifs, 0⟩] scope pos) (tComp sub wi g tt te) := ⟨compE S hc hN hsc hi.run (fun C s₀ H₀ ex => (hg C s₀ H₀ ex).run) (fun C s₀ H₀ ex => (ht C s₀ H₀ ex).run) (fun C s₀ H₀ ex => (he C s₀ H₀ ex).run) h⟩
variable {st : Stmt} {sts : List Stmt} {u v : TS}
theorem js_set {i : Nat} (hN : X.N.Nodup) (hi : X.N[i]? = some x) (hx : Loc X.env.scope x) (he : JE X e te) (hf : X.fn x = true) (h : autoParam (notComp e = true) L2.auto4._auto_1) : JS X (.Assign [.Name x pos'] e pos) (tAsg te (gName i)) := ⟨psSet hN hi hx he.run hf h⟩
theorem js_asgS {ts : TSet} (he : JE X e te) (hg : JG X (.Subscript a b pos') g) (h : autoParam (notComp e = true) L2.auto4._auto_1) : JS X (.Assign [.Subscript a b pos'] e pos) (tAsg te g) := ⟨ps_asg he.run hg.run (by show swapsWith e (some (.Subscript a b pos')) pos.line X.env = pure false; exact sw_no h) (by cases e <;> rfl) rfl⟩
theorem js_ret (he : JE X e te) : JS X (.Return (some e) pos) (tRet te) := ⟨ps_ret he.run⟩
theorem js_expr (he : JE X e te) (h : autoParam (notComp e = true) L2.auto4._auto_1) : JS X (.Expr e pos) (tDrop te) := ⟨psExpr he.run h⟩
theorem js_if {sa sb : List Stmt} (hc : JT X c tt) (ha : JB X sa u) (hb : JB X sb v) : JS X (.If c sa sb pos) (tIfS tt u v) := ⟨ps_if hc.run ha.run hb.run⟩
theorem js_for {body : List Stmt} (hp : PassesOwn (model X.prog X.w) X.A X.env X.xe) (hc : X.calm = true) (hi : JI X tg iter wi) (hg : JG X tg g) (hb : JB X body u) (h : autoParam (notSet iter = true) L2.auto4._auto_1) : JS X (.For tg iter body [] pos) (tFor wi g u) := ⟨psFor hp hc hi.run hg.run hb.run h⟩
theorem js_while {body : List Stmt} (hp : PassesOwn (model X.prog X.w) X.A X.env X.xe) (hc : JT X c tt) (hb : JB X body u) : JS X (.While c body [] pos) (tWhile tt u) := ⟨ps_while hp hc.run hb.run⟩
theorem js_never : JS X st tNever := ⟨ps_never⟩
theorem jb_nil : JB X [] tNext := ⟨pss_nil⟩
theorem jb_one (h : JS X st u) : JB X [st] u := ⟨pss_one h.run⟩
theorem jb_cons (h : JS X st u) (h2 : JB X sts v) : JB X (st :: sts) (tSeq u v) := ⟨pss_cons h.run h2.run⟩
end
section
variable {P : Program} {w : World} {K : PySem.W.Frag} {mg : Str → Option Value} {base : Heap}
theorem hasJ {x : Str} {st : Stmt} {N ps : List Str} {k : Nat} {sp : Sp} (D : Def K mg x st) (S : FnScope N ps (defScope st))
    (hb : ∀ (kV doc pm : Value) (an : Option Addr) (cdv ct : Value) (us : List Value), us.length = ps.length → bindArgs (PySem.W.fnOf x x (defArgs st) (defBody st) (defScope st) .none kV doc pm an cdv ct) ⟨us, []⟩ = pure (ps.zip us))
    (len : ∀ vs H Q E, sp vs H Q E → vs.length = ps.length)
    (hbody : ∀ (f : Addr) (cdv : Value) (A : Around) (outer : List Env) (s : Shared) (H : Hp) (vs : List V) (Q : VK) (E : XK), Room k (A.deeper (envOfC x (defScope st) s.heap.objs.size f cdv)) → sp vs H Q E →
      ∃ t, JB (cxOf CX0 P w K mg base N x (defScope st) f cdv A outer s H E).nox (defBody st) t ∧ t { nx := fun _ H' => Q .non H', rt := Q } (start N vs) H) : Has P w K mg base (k + 1) x ps sp :=
  has_of D S hb len fun f cdv A outer s H vs Q E hr h => let ⟨t, j, q⟩ := hbody f cdv A outer s H vs Q E hr h; ⟨t, j.run, q⟩
theorem okJ {x : Str} {st : Stmt} {N ps : List Str} {k : Nat} {sp : Sp} {f : Addr} {fd : FuncData} (F : Fun K x x st f fd) (S : FnScope N ps (defScope st)) (len : ∀ vs H Q E, sp vs H Q E → vs.length = ps.length)
    (hbody : ∀ (f : Addr) (cdv : Value) (A : Around) (outer : List Env) (s : Shared) (H : Hp) (vs : List V) (Q : VK) (E : XK), Room k (A.deeper (envOfC x (defScope st) s.heap.objs.size f cdv)) → sp vs H Q E →
      ∃ t, JB (cxOf CX0 P w K mg base N x (defScope st) f cdv A outer s H E).nox (defBody st) t ∧ t { nx := fun _ H' => Q .non H', rt := Q } (start N vs) H) : FnOk P w K mg base CX0 (k + 1) f fd ps sp :=
  F.ok S len fun cdv A outer s H vs Q E hr h => let ⟨t, j, q⟩ := hbody f cdv A outer s H vs Q E hr h; ⟨t, j.run, q⟩
end
theorem const_mk {K : PySem.W.Frag} {mg : Str → Option Value} {h : Heap} (X : K.In h) (G : h.Ns mainGlobals mg) {x : Str} {v : Value} {f : Tok → Value} (a : PySem.W.nsIn K mainGlobals x = some (some v)) (e : ∃ t, v = f t) : ∃ t, mg x = some (f t) := by
  obtain ⟨t, rfl⟩ := e
  exact ⟨t, PySem.W.mg_of X G a⟩
theorem walkJ {l : PySem.W.OpenLaw} {q : Program} {loose : List Str} {XP : (Str → Option Value) → Heap → Prop} {YP : World → Heap → Prop} {d : DefRec} {K : Params → PySem.W.Frag} {st : Stmt} {k : Nat} {sp : PySem.W.Frag → Sp} {x : Str}
    (hn : l.most = some 63) (hdf : d.params.defaults = []) (hdn : d.name = "law") (hk : Room k callerA) (hY : ∀ (w : World) (h : Heap), YP w h → (K w.params).In h)
    (hb : ∀ (kV doc pm : Value) (an : Option Addr) (cdv ct : Value) (us : List Value), us.length = [x].length → bindArgs (PySem.W.fnOf "law" "law" (defArgs st) (defBody st) (defScope st) .none kV doc pm an cdv ct) ⟨us, []⟩ = pure ([x].zip us))
    (F : ∀ (w : World) (mg : Str → Option Value) (h : Heap), (K w.params).In h → h.Ns mainGlobals mg → Def (K w.params) mg "law" st ∧ ∀ (base : Heap) (f : Addr) (fd : FuncData), Fun (K w.params) "law" "law" st f fd → FnOk l.prog w (K w.params) mg base CX0 k f fd [x] (sp (K w.params)))
    (hsp : ∀ (K : PySem.W.Frag) (H : Hp) (a : Addr) (ns : List Int), ns.length ≤ 63 → SqL K H a (ns.map V.int) → sp K [.ref a] H (fun v _ => v = .bl true) fun _ _ _ => False) (him : autoParam (importsNone q = true) L2.auto6._auto_1) :
    PySem.W.WalkO q loose XP YP l.row.toRowW d [] (fun f vs => PySem.call f vs) :=
  L2.walk_of (n := 63) (k := k) (x := x) (CX := fun _ => CX0) (sp := fun w => sp (K w.params)) hn (by decide) hdf hk hY (fun w mg fa h X G e => by
    obtain ⟨⟨f, fd, Fn, hm⟩, ok⟩ := F w mg h X G
    rw [hdn, hm] at e
    have ef : f = fa := by injection (Option.some.inj e)
    subst ef
    refine ⟨fd, fun s u => ?_, fun base _ _ => ok base f fd Fn⟩
    obtain ⟨oc, od, kV, doc, pm, an, cdv, ct, osl, rfl, lk, hcd⟩ := Fn.ex
    exact .of_eq (hb kV doc pm an cdv ct [u] rfl)) (fun w H a ns hl _ hS => hsp _ H a ns hl hS) (fun _ _ _ _ _ z => z) him
end L2

namespace L2
open PySem PySem.Spec PyProof.Rows
noncomputable def Itp (xs : Nat → List V) (n : Nat) : It := ⟨fun i _ => i < n, fun i H v H' => ∃ T, H T = none ∧ v = .ref T ∧ H' = upd H T (.tup (xs i)), fun i _ => i = n⟩
theorem turn_T {P : Program} {w : World} {K : PySem.W.Frag} {elts : List Expr} {k : Nat} {pos : Pos} {it : Addr} {fp wr : List Addr} {n : Nat} {xs : Nat → List V} {Pt : Nat → Array Value → Prop} {St : Nat → Heap → Prop} {Mid : Nat → Addr → Heap → Prop}
    (W : ∀ A : Around, A.handled = none → WalksT P w A it fp wr n Pt St Mid) (hxs : ∀ i, (xs i).length ≤ sizeLine) (hPt : ∀ i vals, Pt i vals → Vals (xs i) vals.toList) (hmem : it ∈ fp)
    (hobj : ∀ i h, St i h → ∀ b ∈ fp, ∃ o, h.get? b = some o ∧ ∀ v, o.data ≠ .cell v)
    (hself : ∀ (A : Around) (i : Nat) (s : Shared) (Q : Value → Shared → Prop) (E : Value → Shared → Prop), St i s.heap → Q (.ref it) s → wpAny (model P w) A (pyIter (.ref it)) Q E s) :
    Turn P w K (.Tuple elts k pos) (Itp xs n) fp it St where
  mem := hmem
  obj := hobj
  keep := fun i h h' st kk => (W {} rfl).frame i h h' st kk
  item := by
    intro X hP hw hK hc i pins s σ H E I hf st hg
    subst hP hw hK
    have W' := W X.A (I.ok.hd hc)
    refine W'.item i s _ _ hg st fun T vals h' tk hPv hT isT mid kk => ?_
    refine ⟨.ref T, rfl, W'.go elts k pos i T _ _ _ mid fun h'' st'' kk2 => ?_⟩
    have hTn : H T = none := I.hok.fresh hT
    have hTw : T ∉ wr := W'.apart i T h' mid
    have kall : ∀ b o, b ∉ wr → s.heap.get? b = some o → h''.get? b = some o := fun b o hb e => kk2 b o hb (kk b o hb e)
    have nT : ∀ b o, s.heap.get? b = some o → b ≠ T := fun b o e => Nat.ne_of_lt (Nat.lt_of_lt_of_le (Heap.lt_size e) hT)
    have nTH : ∀ b u, H b = some u → b ≠ T := fun b u e z => by rw [z, hTn] at e; cases e
    have nW : ∀ b u, H b = some u → b ∉ wr := fun b u e hb => by rw [(hf b (W'.sub b hb)).1] at e; cases e
    have isT' : h''.IsTuple T vals := by
      obtain ⟨o, ho, r⟩ := isT
      exact ⟨o, kk2 T o hTw ho, r⟩
    have hlT : ∃ o, h''.get? T = some o := let ⟨o, ho, _⟩ := isT'; ⟨o, ho⟩
    have I' : Inv X pins σ (upd H T (.tup (xs i))) { s with heap := h'', toks := tk } := by
      refine I.step (g' := s.gens) (d' := s.drawn) (ch := wr) (fun b hb => ?_) (fun b o _ _ hc e _ => kall b o hc e) (fun b o _ _ hc e _ => ⟨o.slots, kall b o hc e⟩) (fun b o _ e hn => by rw [upd_ne (nT b o e)]; exact hn)
        (fun b o hc e => ⟨o, kall b o hc e⟩) (fun b ys e => by rw [upd_ne (nTH b _ e)]; exact e) (fun b o u e => by rw [upd_ne (nTH b _ e)]; exact e) (fun b ps e => ⟨#[], by rw [upd_ne (nTH b _ e), e]; simp⟩) (fun m hm => ?_) (fun b u e => ?_) I.bare
      · obtain ⟨f0, f1, f2, f3, f4, f5⟩ := hf b (W'.sub b hb)
        exact ⟨f3, f1, f4, f5⟩
      · obtain ⟨o, es, ep, ho, r⟩ := hm
        exact ⟨o, es, ep, kall _ o (fun hb => (hf _ (W'.sub _ hb)).2.1 rfl) ho, r⟩
      · by_cases hb : b = T
        · subst hb
          rw [upd_same] at e; cases e
          obtain ⟨o, ho, hcl, nn, hd⟩ := isT'
          exact ⟨hxs i, vals.toList, hPt i vals hPv, o, ho, hcl, nn, by simpa using hd⟩
        · rw [upd_ne hb] at e
          refine (I.hok b u e).stay (fun c v hc' q => kall c v ?_ q) (fun c q => by rw [upd_ne (nTH c _ q)]; exact q) fun c ys q => by rw [upd_ne (nTH c _ q)]; exact q
          rcases hc' with z | z
          · rw [z]; exact nW b u e
          · exact nW c _ z
    refine ⟨.ref T, upd H T (.tup (xs i)), I', rfl, ⟨T, hTn, rfl, rfl⟩, st'', fun b hb => ?_⟩
    obtain ⟨o, e, _⟩ := hobj i _ st b hb
    rw [upd_ne (nT b o e)]
    exact (hf b hb).1
  done := by
    intro X hP hw hK hc i pins s σ H E I hf st hg
    subst hP hw hK
    have W' := W X.A (I.ok.hd hc)
    have hg : i = n := hg
    subst hg
    refine W'.done s _ _ st fun h' tk kk => ⟨rfl, ?_⟩
    have nW : ∀ b u, H b = some u → b ∉ wr := fun b u e hb => by rw [(hf b (W'.sub b hb)).1] at e; cases e
    refine I.step (g' := s.gens) (d' := s.drawn) (ch := wr) (fun b hb => ?_) (fun b o _ _ hc e _ => kk b o hc e) (fun b o _ _ hc e _ => ⟨o.slots, kk b o hc e⟩) (fun b o _ e hn => hn)
        (fun b o hc e => ⟨o, kk b o hc e⟩) (fun b ys e => e) (fun b o u e => e) (fun b ps e => ⟨#[], by rw [e]; simp⟩) (fun m hm => ?_) (fun b u e => ?_) I.bare
    · obtain ⟨f0, f1, f2, f3, f4, f5⟩ := hf b (W'.sub b hb)
      exact ⟨f3, f1, f4, f5⟩
    · obtain ⟨o, es, ep, ho, r⟩ := hm
      exact ⟨o, es, ep, kk _ o (fun hb => (hf _ (W'.sub _ hb)).2.1 rfl) ho, r⟩
    · refine (I.hok b u e).stay (fun c v hc' q => kk c v ?_ q) (fun c q => q) fun c ys q => q
      rcases hc' with z | z
      · rw [z]; exact nW b u e
      · exact nW c _ z
  self := hself
noncomputable def enumS (x : Str) (i : Nat) : List V := [.int i, .str ⟨#[x.cps.getD i 0]⟩]
end L2

namespace L2
open PySem PySem.Spec PyProof.Rows
section
variable {prog : Program} {w : World} {A : Around} {E : Value → Shared → Prop} {s : Shared}
theorem draw_listU {it l : Addr} {items : Array Value} (hne : l ≠ it) : ∀ (n i : Nat) (s : Shared) (Q : List Value → Shared → Prop), s.heap.IsListIter it l i → s.heap.IsList l items → i + n ≤ items.size →
    (∀ h', h'.IsListIter it l (i + n) → Heap.SameBut it s.heap h' → Q ((items.toList.drop i).take n) { s with heap := h' }) → wpAny (model prog w) A (draw (.ref it) n) Q E s
  | 0, i, s, Q, hit, _, _, hQ => by
    show wpAny _ _ (pure []) Q E s
    exact wpAny_pure (by simpa using hQ s.heap hit (Heap.SameBut.refl ..))
  | n + 1, i, s, Q, hit, ht, hle, hQ => by
    have hlt : i < items.size := by omega
    show wpAny _ _ (pyNext (.ref it) >>= _) Q E s
    refine wpAny_bind (wpAny_pyNext_list_item hit ht (x := items[i]) (by simp [hlt]) fun h₁ hit₁ hs₁ => ?_)
    refine wpAny_bind (wpAny_holding (draw_listU hne n (i + 1) _ _ hit₁ (ht.extBut hs₁.extBut hne) (by omega) fun h₂ hit₂ hs₂ => wpAny_pure ?_))
    have hd : items.toList.drop i = items[i] :: items.toList.drop (i + 1) := by simp [List.drop_eq_getElem_cons, hlt]
    have := hQ h₂ (by rw [show i + (n + 1) = i + 1 + n by omega]; exact hit₂) (hs₁.trans hs₂)
    rw [hd, List.take_succ_cons] at this
    exact this
theorem unpackItems_listU {l : Addr} {items : Array Value} {Q : List Value → Shared → Prop} (hh : A.handled = none) (ht : s.heap.IsList l items)
    (hQ : ∀ h', Heap.ExtBut s.heap.objs.size s.heap h' → Q items.toList { s with heap := h' }) : wpAny (model prog w) A (unpackItems (.ref l) items.size none) Q E s := by
  have hlt : l ≠ s.heap.objs.size := by obtain ⟨o, ho, _⟩ := ht; exact Nat.ne_of_lt (Heap.lt_size ho)
  unfold unpackItems
  refine wpAny_bind ?_
  · unfold notIterableAtAll
    refine wpAny_bind (wpAny_specialOf ht.typeIs slot_list_iter.lookup ?_)
    refine wpAny_pure ?_
    simp only [Bool.false_eq_true, if_false]
    refine wpAny_bind (wpAny_holding (wpAny_pyIter_list ht ?_))
    refine wpAny_bind (wpAny_holding (draw_listU hlt items.size 0 _ _ ⟨_, Heap.get?_push_size _ rfl, rfl, rfl⟩ (let ⟨o, ho, r⟩ := ht; ⟨o, Heap.get?_push_of_some _ ho, r⟩) (by omega) fun h₁ hit₁ hs₁ => ?_))
    have hall : List.take items.size (List.drop 0 items.toList) = items.toList := by
      rw [List.drop_zero]; exact List.take_of_length_le (by simp)
    rw [hall]
    rw [if_neg (by simp)]
    have ht₁ : h₁.IsList l items := by
      have : (s.heap.push { cls := .type "list_iterator", data := .fields #[.ref l, .int 0 0] }).IsList l items := let ⟨o, ho, r⟩ := ht; ⟨o, Heap.get?_push_of_some _ ho, r⟩
      exact this.extBut hs₁.extBut hlt
    refine wpAny_bind (wpAny_holding (wpAny_pyNext_list_end hh hit₁ ht₁ (by simp) fun h₂ he₂ => ?_))
    simp only [Option.isSome_none, Bool.false_eq_true, if_false]
    refine wpAny_pure (hQ h₂ fun b o hb e => he₂ b o hb (hs₁.extBut b o hb (Heap.get?_push_of_some _ e)))
theorem assign_Tuple_listU {env : Env} {elts : List Expr} {x1} {pos : Pos} {l : Addr} {items : Array Value} {Q : Unit → Shared → Prop} (hh : A.handled = none) (ht : s.heap.IsList l items)
    (hn : (assignEach elts env).length = items.size) (hstar : (assignEach elts env).findIdx? (·.1) = none)
    (h : ∀ h', Heap.ExtBut s.heap.objs.size s.heap h' → wpAny (model prog w) A (assignInOrder ((assignEach elts env).map (·.2)) items.toList) Q E { s with heap := h' }) :
    wpAny (model prog w) A (assign (.Tuple elts x1 pos) env (.ref l)) Q E s := by
  rw [assign_Tuple]
  refine wpAny_bind (wpAny_standAt ?_)
  unfold unpack
  rw [hn, hstar]
  exact wpAny_bind (wpAny_holding (unpackItems_listU hh ht h))
end
noncomputable def gSeqT (K : PySem.W.Frag) (n : Nat) (t : TGs) : TG := fun v σ H Q => ∃ a xs, v = .ref a ∧ (SqT K H a xs ∨ SqL K H a xs) ∧ xs.length = n ∧ t xs σ H Q
theorem jg_seqT {X : Cx} {K : PySem.W.Frag} {ts : List Expr} {k : Nat} {gs : TGs} {n : Nat} {pos : Pos} (hK : X.K = K) (hc : X.calm = true) (h : JGs X ts gs) (hn : autoParam ((assignEach ts X.env).length = n) L2.auto4._auto_1) (hst : autoParam ((assignEach ts X.env).findIdx? (·.1) = none) L2.auto4._auto_1) : JG X (.Tuple ts k pos) (gSeqT K n gs) := ⟨by
  subst hK
  intro pins s σ H v u Q I r hw
  obtain ⟨a, xs, e1, hq, hl, hw⟩ := hw
  subst e1
  cases r
  rcases hq with hq | hq
  · exact (pg_tup hc h.run hn hst) pins s σ H (.ref a) (.ref a) Q I (show RelV (.ref a) (Value.ref a) from rfl) ⟨a, xs, rfl, hq, hl, hw⟩
  · obtain ⟨its, rv, ht, hz⟩ := I.list hq
    refine assign_Tuple_listU (I.ok.hd hc) ht.isList (by simp [hn, ← hl, rv.length]) hst fun h' hx => ?_
    have I1 : Inv X pins σ H { s with heap := h' } := I.kept (t' := s.toks) fun b o e => hx b o (Nat.ne_of_lt (Heap.lt_size e)) e
    exact h.run pins _ σ H xs _ Q I1 (by simpa using rv) hw⟩
theorem js_asgT {X : Cx} {ts : List Expr} {k : Nat} {e : Expr} {te : TE} {g : TG} {pos pos' : Pos} (he : JE X e te) (hg : JG X (.Tuple ts k pos') g) (h : autoParam (notComp e = true) L2.auto4._auto_1) (h2 : autoParam ((match e with | .Tuple .. => false | _ => true) = true) L2.auto4._auto_1) : JS X (.Assign [.Tuple ts k pos'] e pos) (tAsg te g) :=
  ⟨ps_asg he.run hg.run (by show swapsWith e (some (.Tuple ts k pos')) pos.line X.env = pure false; exact sw_no h) (by cases e <;> first | rfl | cases h2) rfl⟩
noncomputable def rNeA (K : PySem.W.Frag) : R2 := fun x y H Q => rNe x y H Q ∨ ∃ (a b : Addr) (ns ms : List Int), x = .ref a ∧ y = .ref b ∧ SqL K H a (ns.map V.int) ∧ SqL K H b (ms.map V.int) ∧ Q (.bl (!decide (ns = ms))) H
theorem op_neK {X : Cx} {K : PySem.W.Frag} (hK : X.K = K) (hu : X.A.units + 64 < cLine) : OpR X (compareOp .NotEq) (rNeA K) := by
  subst hK
  intro pins s σ H x y v u Q I rx ry h
  rcases h with h | ⟨a, b, ns, ms, rfl, rfl, ha, hb, q⟩
  · exact op_ne pins s σ H x y v u Q I rx ry h
  · cases rx
    cases ry
    obtain ⟨its, r1, p1, z1⟩ := I.list ha
    obtain ⟨jts, r2, p2, z2⟩ := I.list hb
    exact PySem.W.ne_intsK p1.isList (intsAre_of r1) p2.isList (intsAre_of r2) hu ⟨.bl _, H, I, rfl, q⟩
section
variable {H : Hp} {Q : VK} {K : PySem.W.Frag} {σ : St}
theorem r_gtup {n : Nat} {gs : TGs} {p : Addr} {xs : List V} {R : St → Hp → Prop} (s : SqT K H p xs) (hl : xs.length = n) (h : gs xs σ H R) : gTup K n gs (.ref p) σ H R := ⟨p, xs, rfl, s, hl, h⟩
theorem r_gcons {t : TG} {u : TGs} {v : V} {vs : List V} {R : St → Hp → Prop} (h : t v σ H fun σ' H' => u vs σ' H' R) : gCons t u (v :: vs) σ H R := ⟨v, vs, rfl, h⟩
theorem r_gnil {R : St → Hp → Prop} (h : R σ H) : gNil [] σ H R := ⟨rfl, h⟩
theorem r_append {p : Addr} {xs : List V} {y : V} (hp : H p = some (.lst xs)) (c : xs.length < sizeLine) (h : Q .non (upd H p (.lst (xs ++ [y])))) : rAppend (.ref p) [y] H Q := ⟨p, xs, y, rfl, rfl, hp, c, h⟩
theorem r_u {f : Int → V} {i : Int} (h : Q (f i) H) : rU f (.int i) H Q := ⟨i, rfl, h⟩
end
end L2

namespace L2
open PySem PySem.Spec PyProof.Rows
section
variable {X : Cx} {tg iter elt : Expr} {ifs : List Expr} {scope : Scope} {pos : Pos} {N' : List Str} {sub : List (Option Nat)} {wi : TI} {g : TG} {tt : TT} {te : TE}
theorem comp_use {N : List Str} {sc : Scope} {use : Option (Value → Sem Unit)} {R : Value → Shared → Prop} {p0 : Pos} (S : SubOk N sc N' scope sub) (hc : X.calm = true) (hN : X.N = N) (hsc : X.env.scope = sc) (hi : PI X tg iter wi)
    (hg : ∀ (C : Addr) (s₀ : Shared) (H₀ : Hp) (ex : List Addr), PG (cxC X N' scope C s₀ H₀ ex) tg g)
    (ht : ∀ (C : Addr) (s₀ : Shared) (H₀ : Hp) (ex : List Addr), PIfs (cxC X N' scope C s₀ H₀ ex) ifs tt)
    (he : ∀ (C : Addr) (s₀ : Shared) (H₀ : Hp) (ex : List Addr), PE (cxC X N' scope C s₀ H₀ ex) elt te)
    (hs : ∀ x, foldedSetIterable iter X.env x = pure x) (pins : List (Addr × Obj)) (s : Shared) (σ : St) (H : Hp) (Q : VK) (I : Inv X pins σ H s) (h : tComp sub wi g tt te σ H Q)
    (hend : ∀ (D C : Addr) (s5 : Shared) (H5 : Hp) (m : Str → Option Value), Inv X pins σ H5 s5 → FpOk X pins H5 C → s5.heap.Ns C m → Q (.ref D) H5 → compPost (model X.prog X.w) X.A X.xe use R (.ref D) C (.ok .next) s5) :
    wpAny (model X.prog X.w) X.A (comprehension (.ListComp elt [⟨tg, iter, ifs, 0⟩] scope pos) scope X.env p0 (newList []) false (eval iter X.env) use) R X.xe s := by
  have hcl : ∀ x ∈ scope.names, x.2 = NameKind.free → ∃ c, X.env.cells.lookup x.1 = some c := fun x hx hk => I.ok.has x.1 (by have := S.free x hx hk; rw [← hsc] at this; exact this)
  refine wpAny_comprehension_free (use := use) rfl hs (closureFor_cl hcl) S.kind S.loc ?_
  refine thn (hi pins s σ H _ I h) fun v s1 h1 => thn h1 fun itv s2 h2 => ?_
  obtain ⟨it, fp, tn, J, H2, e, I2, T, st2, f2, W, ⟨m0, w0⟩, turn⟩ := h2
  subst e
  refine wpAny_newObj_type (wpAny_newFunctionEnv S.nocell (by intro y hy; simp at hy) (fun h₁ hns₁ hsb₁ => ?_) S.kind)
  dsimp only at hns₁ hsb₁ ⊢
  generalize hs3 : ({ s2 with heap := s2.heap.push { cls := .type "list", dict := none, data := .seq ([] : List Value).toArray } } : Shared) = s3
  have e3 : s2.heap.push { cls := .type "list", dict := none, data := .seq ([] : List Value).toArray } = s3.heap := by rw [← hs3]
  rw [e3] at hns₁ hsb₁ ⊢
  have hD3 : s3.heap.get? s2.heap.objs.size = some { cls := .type "list", dict := none, data := .seq ([] : List Value).toArray } := by rw [← e3]; exact Heap.get?_push_size _ rfl
  have I3 : Inv X pins σ H2 s3 := by
    rw [← hs3]
    exact I2.kept (t' := s2.toks) fun b o e => Heap.get?_push_of_some _ e
  have k23 : ∀ b o, s2.heap.get? b = some o → s3.heap.get? b = some o := fun b o e => by rw [← e3]; exact Heap.get?_push_of_some _ e
  have hsz : s3.heap.objs.size = s2.heap.objs.size + 1 := by rw [← e3, Heap.size_push]
  have hk31 : ∀ b o, s3.heap.get? b = some o → h₁.get? b = some o := fun b o e => hsb₁.extBut b o (Nat.ne_of_lt (Heap.lt_size e)) (Heap.get?_push_of_some _ e)
  have hDn : H2 s2.heap.objs.size = none := I2.hok.fresh (Nat.le_refl _)
  have fD : FpOk X pins H2 s2.heap.objs.size := I2.fpOk (Nat.le_refl _) hDn
  have hfo : ∀ b ∈ fp, b < s2.heap.objs.size := fun b hb => let ⟨o, e, _⟩ := T.obj _ _ st2 b hb; Heap.lt_size e
  have hDfp : s2.heap.objs.size ∉ fp := fun z => absurd (hfo _ z) (Nat.lt_irrefl _)
  have I4 := inv_block (tk := s3.toks + ([] : List (Str × Value)).length) S hN hsc I3 f2 (fun b hb => by rw [hsz]; exact Nat.lt_succ_of_lt (hfo b hb)) (D := s2.heap.objs.size) (by rw [hsz]; exact Nat.lt_succ_self _) fD hns₁ hk31
  -- facts of the block
  have stat : ∀ {H' : Hp} {ob : Obj}, (∀ b ∈ fp, H' b = none) → ∀ b ∈ fp, FpOk (cxC X N' scope s3.heap.objs.size s3 H2 (s2.heap.objs.size :: fp)) [(s2.heap.objs.size, ob)] H' b := fun {H' ob} hn b hb => by
    obtain ⟨q1, q2⟩ := I4.ok.exf b (List.mem_cons_of_mem _ hb)
    refine ⟨hn b hb, q1, I4.ok.exfs b (List.mem_cons_of_mem _ hb), .inl (List.mem_cons_of_mem _ hb), q2, fun p hp z => ?_⟩
    have hp' : p = (s2.heap.objs.size, ob) := by simpa [cxC] using hp
    subst hp'
    have z' : s2.heap.objs.size = b := z
    exact hDfp (by rw [z']; exact hb)
  generalize hXC : cxC X N' scope s3.heap.objs.size s3 H2 (s2.heap.objs.size :: fp) = XC at I4 stat
  have eP : XC.prog = X.prog := by rw [← hXC]; rfl
  have eW : XC.w = X.w := by rw [← hXC]; rfl
  have eK : XC.K = X.K := by rw [← hXC]; rfl
  have eA : XC.A = X.A := by rw [← hXC]; rfl
  have eE : XC.env = compEnvC scope (clOf X.env scope.names []) s3.heap.objs.size X.env := by rw [← hXC]; rfl
  have eC : XC.calm = true := by rw [← hXC]; exact hc
  have eX : XC.xe = fun _ _ => False := by rw [← hXC]; rfl
  have eH : XC.H₀ = H2 := by rw [← hXC]; rfl
  have eS : XC.s₀ = s3 := by rw [← hXC]; rfl
  have eF : XC.fs = frs X.stack := by rw [← hXC]; rfl
  have eEx : XC.ex = s2.heap.objs.size :: fp := by rw [← hXC]; rfl
  have ePn : XC.pn = [] := by rw [← hXC]; rfl
  have hgC : PG XC tg g := by rw [← hXC]; exact hg _ _ _ _
  have htC : PIfs XC ifs tt := by rw [← hXC]; exact ht _ _ _ _
  have heC : PE XC elt te := by rw [← hXC]; exact he _ _ _ _
  have pinD : ∀ {σ' : St} {H' : Hp} {s' : Shared} {ob : Obj}, Inv XC [] σ' H' s' → H' s2.heap.objs.size = none → s'.heap.get? s2.heap.objs.size = some ob → (∀ v, ob.data ≠ .cell v) → Inv XC [(s2.heap.objs.size, ob)] σ' H' s' := fun {σ' H' s' ob} J hn hg hd =>
    J.pins_of fun p hp => by
      have hp' : p = (s2.heap.objs.size, ob) := by simpa using hp
      subst hp'
      refine ⟨hg, hn, (J.ok.exf _ (by rw [eEx]; exact List.mem_cons_self)).1, J.ok.exfs _ (by rw [eEx]; exact List.mem_cons_self), hd⟩
  have loop : codeAny (model X.prog X.w) X.A (.compLoop (.ListComp elt [⟨tg, iter, ifs, 0⟩] scope pos) 0 (.ref it) (.ref s2.heap.objs.size) (compEnvC scope (clOf X.env scope.names []) s3.heap.objs.size X.env))
      (compPost (model X.prog X.w) X.A X.xe use R (.ref s2.heap.objs.size) s3.heap.objs.size) { s3 with heap := h₁, toks := s3.toks + ([] : List (Str × Value)).length } := by
    refine comp_loop (fun n s' => ∃ (i : Nat) (ys : List V) (its : List Value) (nn : Nat) (H' : Hp), Inv XC [] (subSt sub σ) H' s' ∧ tn i s'.heap ∧ (∀ b ∈ fp, H' b = none) ∧ H' s2.heap.objs.size = none ∧
      s'.heap.get? s2.heap.objs.size = some { cls := .type "list", data := .seq its.toArray nn } ∧ Vals ys its ∧ W i n ys H') ?_ m0
      ⟨0, [], [], _, H2, I4, T.keep _ _ _ st2 fun b _ o e => hk31 b o (k23 b o e), fun b hb => (f2 b hb).1, hDn, hk31 _ _ hD3, .nil, w0⟩
    rintro n s4 ⟨i, ys, its, nn, H4, J4, st4, fr4, dn4, dg4, rv4, w4⟩
    have P4 := pinD J4 dn4 dg4 (fun v z => by cases z)
    rcases turn i n ys H4 w4 with ⟨stop, hyl, qn⟩ | ⟨go, hyl, N, hN, step⟩
    · have hdone := T.done XC eP eW eK eC i _ s4 _ H4 (fun _ _ => False) P4 (stat fr4) st4 stop
      rw [eA] at hdone
      refine wpAny_mono hdone (fun r s5 ⟨hr, I5⟩ => ?_) fun _ _ z => z
      subst hr
      -- the end
      obtain ⟨m, hn, _⟩ := id I5.loc
      have hCe : XC.env.locals = s3.heap.objs.size := by rw [eE]; rfl
      rw [hCe] at hn
      have hDg := (I5.pin (s2.heap.objs.size, _) (by rw [ePn]; exact List.mem_cons_self)).1
      have hDne : s2.heap.objs.size ≠ s3.heap.objs.size := by rw [hsz]; exact Nat.ne_of_lt (Nat.lt_succ_self _)
      have hHC : H4 s3.heap.objs.size = none := by have := I5.free; rw [hCe] at this; exact this
      have k56 : ∀ b o, b ≠ s3.heap.objs.size → s5.heap.get? b = some o → s5.heap.get? b = some o := fun b o hb e => e
      have un := I5.base
      rw [eF, eEx, eH, eS] at un
      have nC : ∀ b o, s3.heap.get? b = some o → b ≠ s3.heap.objs.size := fun b o e => Nat.ne_of_lt (Heap.lt_size e)
      have hok6 : HOk X.prog X.w (upd H4 s2.heap.objs.size (.lst ys)) s5.heap := by
        have h5 := I5.hok
        rw [eP, eW] at h5
        have trk : ∀ b u, H4 b = some u → b ≠ s3.heap.objs.size := fun b u e z => by rw [z, hHC] at e; cases e
        intro b u e
        by_cases hb : b = s2.heap.objs.size
        · subst hb
          rw [upd_same] at e; cases e
          exact ⟨hyl, its, nn, rv4, k56 _ _ hDne hDg⟩
        · rw [upd_ne hb] at e
          have nD : ∀ c u, H4 c = some u → c ≠ s2.heap.objs.size := fun c u e z => by rw [z, dn4] at e; cases e
          refine (h5 b u e).stay (fun c v hc' q => k56 c v ?_ q) (fun c q => by rw [upd_ne (nD c _ q)]; exact q) fun c xs q => by rw [upd_ne (nD c _ q)]; exact q
          rcases hc' with z | z
          · rw [z]; exact trk b u e
          · exact trk c _ z
      have nD2 : ∀ c u, H4 c = some u → c ≠ s2.heap.objs.size := fun c u e z => by rw [z, dn4] at e; cases e
      have un6 : Un (frs X.stack) (s2.heap.objs.size :: fp) H2 (upd H4 s2.heap.objs.size (.lst ys)) s3.heap s5.heap :=
        ⟨fun b o e nn' hb hx => k56 b o (nC b o e) (un.keep b o e nn' hb hx), fun b o e nn' hb hx => let ⟨sl, q⟩ := un.slot b o e nn' hb hx; ⟨sl, k56 b _ (nC b o e) q⟩,
          fun b o e nn' hx => by rw [upd_ne (fun z => hx (by rw [z]; exact List.mem_cons_self))]; exact un.free b o e nn' hx,
          fun b o e hx => let ⟨o', q⟩ := un.there b o e hx; ⟨o', k56 b o' (nC b o e) q⟩,
          fun b xs e => by have q := un.tups b xs e; rw [upd_ne (nD2 b _ q)]; exact q,
          fun b o u e => by have q := un.frzs b o u e; rw [upd_ne (nD2 b _ q)]; exact q,
          fun b ps e => let ⟨more, q⟩ := un.tbls b ps e; ⟨more, by rw [upd_ne (nD2 b _ q)]; exact q⟩⟩
      have I6 : Inv X pins σ (upd H4 s2.heap.objs.size (.lst ys)) s5 := by
        refine I3.call' (s' := s5) (ch := s2.heap.objs.size :: fp) ?_ un6 hok6 I5.bare fun b hb => ?_
        · show s5.os = s3.os
          have := I5.os
          rw [eS] at this
          exact this
        · have q : FpOk X pins H2 b := by
            rcases List.mem_cons.mp hb with rfl | z
            · exact fD
            · exact f2 b z
          obtain ⟨f0, f1, f2', f3, f4, f5⟩ := q
          exact ⟨f3, f1, f4, f5⟩
      have dC : upd H4 s2.heap.objs.size (.lst ys) s3.heap.objs.size = none := by rw [upd_ne (Ne.symm hDne)]; exact hHC
      exact hend _ _ s5 _ m I6 (I3.fpOk (Nat.le_refl _) dC) hn (qn _ dn4)
    · have hitem := T.item XC eP eW eK eC i _ s4 _ H4 (fun _ _ => False) P4 (stat fr4) st4 go
      rw [eA] at hitem
      refine wpAny_mono hitem (fun r s5 ⟨u, hr, h5⟩ => ?_) fun _ _ z => z
      subst hr
      dsimp only
      refine wpAny_mono h5 (fun _ s6 ⟨x, H6, I6, r6, y6, st6, fr6⟩ => ?_) fun _ _ z => z
      have P6 := I6.pinned (stat fr6) (T.obj _ _ st6)
      rw [← eE, ← eP, ← eW, ← eA]
      refine wpAny_mono (hgC _ s6 _ H6 x u _ P6 r6 (step x H6 y6)) (fun _ s7 ⟨σ7, H7, I7, kp7, q7⟩ => ?_) fun _ _ z => by rw [eX] at z; exact z
      refine wpAny_mono (htC _ s7 σ7 H7 _ I7 q7) (fun ok s8 ⟨H8, I8, q8⟩ => ?_) fun _ _ z => by rw [eX] at z; exact z
      -- back to the turn's start
      have fin : ∀ {H9 : Hp} {s9 : Shared}, Inv XC ([(s2.heap.objs.size, ({ cls := .type "list", data := .seq its.toArray nn } : Obj))] ++ pinsAt fp s6.heap) σ7 H9 s9 → Inv XC [] (subSt sub σ) H9 s9 ∧ tn (i + 1) s9.heap ∧ (∀ b ∈ fp, H9 b = none) ∧ H9 s2.heap.objs.size = none ∧
          s9.heap.get? s2.heap.objs.size = some { cls := .type "list", data := .seq its.toArray nn } := fun {H9 s9} J => by
        have pD := J.pin (s2.heap.objs.size, ({ cls := .type "list", data := .seq its.toArray nn } : Obj)) (by rw [ePn]; simp)
        have pF : ∀ b ∈ fp, ∀ o, s6.heap.get? b = some o → s9.heap.get? b = some o ∧ H9 b = none := fun b hb o e => by
          have q := J.pin (b, o) (by rw [ePn]; exact List.mem_append_right _ (List.mem_append_right _ (mem_pinsAt hb e)))
          exact ⟨q.1, q.2.1⟩
        refine ⟨?_, T.keep _ _ _ st6 fun b hb o e => (pF b hb o e).1, fun b hb => ?_, pD.2.1, pD.1⟩
        · have J0 : Inv XC [] σ7 H9 s9 := J.pins_of fun p hp => nomatch hp
          exact J0.weak kp7.1.symm fun j v e => kp7.2 j v e
        · obtain ⟨o, e, _⟩ := T.obj _ _ st6 b hb
          exact (pF b hb o e).2
      cases ok with
      | false =>
        rw [if_neg (by simp)]
        rw [if_neg (by simp)] at q8
        obtain ⟨m', hm, w8⟩ := hN _ _ q8
        obtain ⟨a1, a2, a3, a4, a5⟩ := fin I8
        exact ⟨m', hm, i + 1, ys, its, nn, H8, a1, a2, a3, a4, a5, rv4, w8⟩
      | true =>
        rw [if_pos rfl]
        rw [if_pos rfl] at q8
        refine wpAny_mono (heC _ s8 σ7 H8 _ I8 q8) (fun xv s9 ⟨y, H9, I9, r9, n9⟩ => ?_) fun _ _ z => by rw [eX] at z; exact z
        obtain ⟨m', hm, w9⟩ := hN _ _ n9
        obtain ⟨a1, a2, a3, a4, a5⟩ := fin I9
        refine wpAny_list_append_plain (items := its.toArray) ⟨nn, a5⟩ (fun h' ⟨n', hp'⟩ sb => ?_) (by simp; rw [← rv4.length]; omega)
        obtain ⟨q1, q2⟩ := I4.ok.exf s2.heap.objs.size (by rw [eEx]; exact List.mem_cons_self)
        have a1' : Inv XC [] (subSt sub σ) H9 { s9 with heap := h' } := a1.turned (t' := s9.toks) (fun b o hb e => (sb.2 b hb).trans e) a4 q1 (.inl (by rw [eEx]; exact List.mem_cons_self)) q2 (fun p hp => by rw [ePn] at hp; exact nomatch hp)
        refine ⟨m', hm, i + 1, ys ++ [y], its ++ [xv], n', H9, a1', T.keep _ _ _ a2 fun b hb o e => (sb.2 b (fun z => hDfp (by rw [← z]; exact hb))).trans e, a3, a4, ?_, rv4.append (.cons r9 .nil), w9⟩
        rw [hp']
        simp
  subst hs3
  exact codeAny_compStart_list loop (T.self _ 0 _ _ _ (T.keep _ _ _ st2 fun b _ o e => hk31 b o (k23 b o e)) loop)
theorem ps_setComp {N : List Str} {sc : Scope} {i : Nat} {x : Str} {pos' spos : Pos} (hNd : X.N.Nodup) (hxi : X.N[i]? = some x) (hx : Loc X.env.scope x) (hf : X.fn x = true) (S : SubOk N sc N' scope sub) (hc : X.calm = true) (hN : X.N = N) (hsc : X.env.scope = sc) (hi : PI X tg iter wi)
    (hg : ∀ (C : Addr) (s₀ : Shared) (H₀ : Hp) (ex : List Addr), PG (cxC X N' scope C s₀ H₀ ex) tg g)
    (ht : ∀ (C : Addr) (s₀ : Shared) (H₀ : Hp) (ex : List Addr), PIfs (cxC X N' scope C s₀ H₀ ex) ifs tt)
    (he : ∀ (C : Addr) (s₀ : Shared) (H₀ : Hp) (ex : List Addr), PE (cxC X N' scope C s₀ H₀ ex) elt te)
    (hs : ∀ x, foldedSetIterable iter X.env x = pure x) : PS X (.Assign [.Name x pos'] (.ListComp elt [⟨tg, iter, ifs, 0⟩] scope pos) spos) (tAsg (tComp sub wi g tt te) (gName i)) := by
  intro pins s σ H D I h
  have hsw : ∃ b, swapsWith (.ListComp elt [⟨tg, iter, ifs, 0⟩] scope pos) (some (.Name x pos')) spos.line X.env = pure b := ⟨_, rfl⟩
  obtain ⟨b, hsw⟩ := hsw
  cases b with
  | false => exact ps_set hNd hxi hx (pe_comp S hc hN hsc hi hg ht he hs) hsw (.inl hf) pins s σ H D I h
  | true =>
    rw [exec_Assign_Name_used _ _ _ _ hsw]
    refine wpAny_bind (wpAny_standAt (wpAny_bind ?_))
    show wpAny _ X.A (do let _ ← comprehension (.ListComp elt [⟨tg, iter, ifs, 0⟩] scope pos) scope X.env _ (newList []) false (eval iter X.env) (some (assign (.Name x pos') X.env))) _ _ s
    refine wpAny_bind (wpAny_mono (comp_use (use := some (assign (.Name x pos') X.env)) (R := fun _ s' => SP X pins D .next s') S hc hN hsc hi hg ht he hs pins s σ H _ I h ?_) (fun _ s' hq => wpAny_pure (wpAny_pure hq)) fun _ _ e => e)
    intro Da C s5 H5 m I5 fC hn q
    show wpAny _ X.A (assign (.Name x pos') X.env (.ref Da)) _ _ _
    refine wpAny_assign_Name (store_ok2 I5 hNd hxi hx (v := .ref Da) rfl (fun s6 I6 qq0 => ?_) (.inl hf))
    obtain ⟨a, sb, ha⟩ := qq0
    obtain ⟨f0, f1, f2, f3, f4, f5⟩ := fC
    have hCa : C ≠ a := fun z => by
      rcases ha with e | e
      · exact f1 (z.trans e)
      · exact f4 x a e z.symm
    exact ⟨m, hn.sameBut sb hCa, fun h' hs' => ⟨_, H5, I6.turned (t' := s6.toks) (fun b o hb e => hs'.extBut b o hb e) f0 f1 f3 f4 f5, q⟩⟩
end
section
variable {X : Cx} {tg iter elt : Expr} {ifs : List Expr} {scope : Scope} {pos : Pos} {N' : List Str} {sub : List (Option Nat)} {wi : TI} {g : TG} {tt : TT} {te : TE} {N : List Str} {sc : Scope}
theorem js_setC {i : Nat} {x : Str} {pos' spos : Pos} (hNd : X.N.Nodup) (hxi : X.N[i]? = some x) (hx : Loc X.env.scope x) (S : SubOk N sc N' scope sub) (hc : X.calm = true) (hN : X.N = N) (hsc : X.env.scope = sc) (hi : JI X tg iter wi)
    (hg : ∀ (C : Addr) (s₀ : Shared) (H₀ : Hp) (ex : List Addr), JG (cxC X N' scope C s₀ H₀ ex) tg g)
    (ht : ∀ (C : Addr) (s₀ : Shared) (H₀ : Hp) (ex : List Addr), JIfs (cxC X N' scope C s₀ H₀ ex) ifs tt)
    (he : ∀ (C : Addr) (s₀ : Shared) (H₀ : Hp) (ex : List Addr), JE (cxC X N' scope C s₀ H₀ ex) elt te) (hf : X.fn x = true) (h : autoParam (notSet iter = true) L2.auto4._auto_1) :
    JS X (.Assign [.Name x pos'] (.ListComp elt [⟨tg, iter, ifs, 0⟩] scope pos) spos) (tAsg (tComp sub wi g tt te) (gName i)) :=
  ⟨ps_setComp hNd hxi hx hf S hc hN hsc hi.run (fun C s₀ H₀ ex => (hg C s₀ H₀ ex).run) (fun C s₀ H₀ ex => (ht C s₀ H₀ ex).run) (fun C s₀ H₀ ex => (he C s₀ H₀ ex).run) (fs_no h)⟩
end
end L2

namespace L2
open PySem PySem.Spec PyProof.Rows
section
variable {X : Cx} {pins : List (Addr × Obj)} {σ : St} {H : Hp} {s : Shared}
theorem Inv.newtup {wr : List Addr} {T : Addr} {vals : Array Value} {xs : List V} {h'' : Heap} {tk : Nat} (I : Inv X pins σ H s) (hf : ∀ b ∈ wr, FpOk X pins H b) (hT : s.heap.objs.size ≤ T)
    (kall : ∀ b o, b ∉ wr → s.heap.get? b = some o → h''.get? b = some o) (isT' : h''.IsTuple T vals) (hv : Vals xs vals.toList) (hx : xs.length ≤ sizeLine) : Inv X pins σ (upd H T (.tup xs)) { s with heap := h'', toks := tk } := by
  have hTn : H T = none := I.hok.fresh hT
  have nT : ∀ b o, s.heap.get? b = some o → b ≠ T := fun b o e => Nat.ne_of_lt (Nat.lt_of_lt_of_le (Heap.lt_size e) hT)
  have nTH : ∀ b u, H b = some u → b ≠ T := fun b u e z => by rw [z, hTn] at e; cases e
  have nW : ∀ b u, H b = some u → b ∉ wr := fun b u e hb => by rw [(hf b hb).1] at e; cases e
  refine I.step (g' := s.gens) (d' := s.drawn) (ch := wr) (fun b hb => ?_) (fun b o _ _ hc e _ => kall b o hc e) (fun b o _ _ hc e _ => ⟨o.slots, kall b o hc e⟩) (fun b o _ e hn => by rw [upd_ne (nT b o e)]; exact hn)
    (fun b o hc e => ⟨o, kall b o hc e⟩) (fun b ys e => by rw [upd_ne (nTH b _ e)]; exact e) (fun b o u e => by rw [upd_ne (nTH b _ e)]; exact e) (fun b ps e => ⟨#[], by rw [upd_ne (nTH b _ e), e]; simp⟩) (fun m hm => ?_) (fun b u e => ?_) I.bare
  · obtain ⟨f0, f1, f2, f3, f4, f5⟩ := hf b hb
    exact ⟨f3, f1, f4, f5⟩
  · obtain ⟨o, es, ep, ho, r⟩ := hm
    exact ⟨o, es, ep, kall _ o (fun hb => (hf _ hb).2.1 rfl) ho, r⟩
  · by_cases hb : b = T
    · subst hb
      rw [upd_same] at e; cases e
      obtain ⟨o, ho, hcl, nn, hd⟩ := isT'
      exact ⟨hx, vals.toList, hv, o, ho, hcl, nn, by simpa using hd⟩
    · rw [upd_ne hb] at e
      refine (I.hok b u e).stay (fun c v hc' q => kall c v ?_ q) (fun c q => by rw [upd_ne (nTH c _ q)]; exact q) fun c ys q => by rw [upd_ne (nTH c _ q)]; exact q
      rcases hc' with z | z
      · rw [z]; exact nW b u e
      · exact nW c _ z
theorem Inv.only {wr : List Addr} {h' : Heap} {tk : Nat} (I : Inv X pins σ H s) (hf : ∀ b ∈ wr, FpOk X pins H b) (kk : ∀ b o, b ∉ wr → s.heap.get? b = some o → h'.get? b = some o) : Inv X pins σ H { s with heap := h', toks := tk } := by
  have nW : ∀ b u, H b = some u → b ∉ wr := fun b u e hb => by rw [(hf b hb).1] at e; cases e
  refine I.step (g' := s.gens) (d' := s.drawn) (ch := wr) (fun b hb => ?_) (fun b o _ _ hc e _ => kk b o hc e) (fun b o _ _ hc e _ => ⟨o.slots, kk b o hc e⟩) (fun b o _ e hn => hn)
      (fun b o hc e => ⟨o, kk b o hc e⟩) (fun b ys e => e) (fun b o u e => e) (fun b ps e => ⟨#[], by rw [e]; simp⟩) (fun m hm => ?_) (fun b u e => ?_) I.bare
  · obtain ⟨f0, f1, f2, f3, f4, f5⟩ := hf b hb
    exact ⟨f3, f1, f4, f5⟩
  · obtain ⟨o, es, ep, ho, r⟩ := hm
    exact ⟨o, es, ep, kk _ o (fun hb => (hf _ hb).2.1 rfl) ho, r⟩
  · refine (I.hok b u e).stay (fun c v hc' q => kk c v ?_ q) (fun c q => q) fun c ys q => q
    rcases hc' with z | z
    · rw [z]; exact nW b u e
    · exact nW c _ z
end
noncomputable def Ite (K : PySem.W.Frag) (a : Addr) : It :=
  ⟨fun i H => ∃ xs x, SqL K H a xs ∧ xs[i]? = some x,
   fun i H v H' => ∃ T x, H T = none ∧ v = .ref T ∧ (∀ xs, SqL K H a xs → xs[i]? = some x) ∧ H' = upd H T (.tup [.int i, x]),
   fun i H => ∃ xs, SqL K H a xs ∧ xs.length ≤ i⟩
theorem turn_enumL {P : Program} {w : World} {K : PySem.W.Frag} {elts : List Expr} {k : Nat} {pos : Pos} {e it a : Addr} (hne : e ≠ it) :
    Turn P w K (.Tuple elts k pos) (Ite K a) [e, it] e (fun i h => (∃ old, IsEnum h e it i old) ∧ h.IsListIter it a i) where
  mem := by simp
  obj := fun i h st c hc => by
    obtain ⟨⟨old, he⟩, ⟨o1, e1, c1, d1⟩⟩ := st
    simp only [List.mem_cons, List.mem_nil_iff, or_false] at hc
    rcases hc with rfl | rfl
    · exact ⟨_, he, fun v z => by cases z⟩
    · exact ⟨_, e1, fun v z => by rw [d1] at z; cases z⟩
  keep := fun i h h' st kk => by
    obtain ⟨⟨old, he⟩, h1⟩ := st
    exact ⟨⟨old, kk e (by simp) _ he⟩, h1.at fun o q => kk it (by simp) o q⟩
  item := by
    intro X hP hw hK hc i pins s σ H E I hf st hg
    subst hP hw hK
    obtain ⟨⟨old, he⟩, h1⟩ := st
    obtain ⟨xs, x, hq, hx⟩ := hg
    obtain ⟨its, rv, p, _⟩ := I.list hq
    obtain ⟨u, hu, ru⟩ := rv.get hx
    refine wpAny_pyNext_enum_item he h1 p.isList (x := u) (by simpa using hu) hne fun h' a1 a2 a3 a4 hk => ?_
    refine ⟨_, rfl, wpAny_letOwnedTupleGo_enum a1 fun h'' a1' sb => ?_⟩
    have lt : ∀ {c o}, s.heap.get? c = some o → s.heap.objs.size ≠ c := fun e => Nat.ne_of_gt (Heap.lt_size e)
    have lti : s.heap.objs.size ≠ it := by obtain ⟨o, q, _⟩ := h1; exact lt q
    have isT : h''.IsTuple s.heap.objs.size #[.int i s.toks, u] := ⟨_, sb.extBut _ _ (lt he) a3, rfl, _, rfl⟩
    have kall : ∀ b o, b ∉ [e, it] → s.heap.get? b = some o → h''.get? b = some o := fun b o hb q => by
      simp only [List.mem_cons, List.mem_nil_iff, or_false, not_or] at hb
      exact sb.extBut _ _ hb.1 (hk b o hb.1 hb.2 q)
    have hTn : H s.heap.objs.size = none := I.hok.fresh (Nat.le_refl _)
    refine ⟨.ref s.heap.objs.size, _, I.newtup (tk := s.toks + 1) hf (Nat.le_refl _) kall isT (xs := [.int i, x]) (.cons ⟨_, rfl⟩ (.cons ru .nil)) (by simp; decide), rfl, ⟨_, x, hTn, rfl, fun zs hs => by rw [I.list_inj hs hq]; exact hx, rfl⟩, ?_, fun b hb => ?_⟩
    · exact ⟨⟨_, a1'⟩, a2.extBut sb.extBut (Ne.symm hne)⟩
    · have : s.heap.objs.size ≠ b := by
        simp only [List.mem_cons, List.mem_nil_iff, or_false] at hb
        rcases hb with rfl | rfl
        · exact lt he
        · exact lti
      rw [upd_ne (Ne.symm this)]
      exact (hf b hb).1
  done := by
    intro X hP hw hK hc i pins s σ H E I hf st hg
    subst hP hw hK
    obtain ⟨⟨old, he⟩, h1⟩ := st
    obtain ⟨xs, hq, hx⟩ := hg
    obtain ⟨its, rv, p, _⟩ := I.list hq
    have l1 := rv.length
    refine wpAny_pyNext_enum_end (I.ok.hd hc) he h1 p.isList (by simp; omega) fun h' hk => ⟨rfl, I.only (tk := s.toks) hf fun b o hb q => ?_⟩
    simp only [List.mem_cons, List.mem_nil_iff, or_false, not_or] at hb
    exact hk b o hb.2 q
  self := fun _ _ _ _ _ st h => let ⟨⟨_, he⟩, _⟩ := st; wpAny_pyIter_enum he h
theorem enumS_run {X : Cx} {elts : List Expr} {k : Nat} {tp : Pos} {pins : List (Addr × Obj)} {σ : St} {H1 : Hp} {s1 : Shared} {x : Str} {t : Tok} {R : It → Hp → Prop} (hc : X.calm = true) (I1 : Inv X pins σ H1 s1) (q : R (Itp (enumS x) x.cps.size) H1) :
    wpAny (model X.prog X.w) X.A (call (.type "enumerate") [.str x t]) (fun v s1 => wpAny (model X.prog X.w) X.A (pyIter v) (PIE X pins σ (.Tuple elts k tp) R) X.xe s1) X.xe s1 := by
  refine call_enumerate_str fun h' he hit hsz hk => ?_
  have J1 : Inv X pins σ H1 { s1 with heap := h' } := I1.kept (t' := s1.toks) hk
  have ne1 : s1.heap.objs.size + 1 ≠ s1.heap.objs.size := Nat.succ_ne_self _
  have nm : s1.heap.objs.size + 1 ∉ [s1.heap.objs.size] := fun z => ne1 (List.mem_singleton.mp z)
  have hPt : ∀ (i : Nat) (vals : Array Value), (∃ t y, SignAt x i y ∧ vals = #[.int i t, y]) → Vals (enumS x i) vals.toList := by
    rintro i vals ⟨t, y, ⟨c, u, e1, rfl⟩, rfl⟩
    refine .cons ⟨t, rfl⟩ (.cons ⟨u, ?_⟩ .nil)
    rw [show x.cps.getD i 0 = c by simp [Array.getD_eq_getD_getElem?, e1]]
  have fin : ∀ (ty : String) (Dr : ∀ A : Around, A.handled = none → Draws X.prog X.w A s1.heap.objs.size [s1.heap.objs.size] x.cps.size (SignAt x) fun i h => h.IsStrIter s1.heap.objs.size ty x t i), h'.IsStrIter s1.heap.objs.size ty x t 0 →
      wpAny (model X.prog X.w) X.A (pyIter (.ref (s1.heap.objs.size + 1))) (PIE X pins σ (.Tuple elts k tp) R) X.xe { s1 with heap := h' } := by
    intro ty Dr hit'
    have W : ∀ A : Around, A.handled = none → WalksT X.prog X.w A (s1.heap.objs.size + 1) [s1.heap.objs.size + 1, s1.heap.objs.size] [s1.heap.objs.size + 1, s1.heap.objs.size] x.cps.size
        (fun i vals => ∃ t y, SignAt x i y ∧ vals = #[.int i t, y]) (fun i h => (∃ old, IsEnum h (s1.heap.objs.size + 1) s1.heap.objs.size i old) ∧ h.IsStrIter s1.heap.objs.size ty x t i)
        (fun i T h => (∃ y, IsEnumOut h (s1.heap.objs.size + 1) s1.heap.objs.size ((i : Int) + 1) y T) ∧ h.IsStrIter s1.heap.objs.size ty x t (i + 1) ∧ T ≠ s1.heap.objs.size + 1 ∧ T ≠ s1.heap.objs.size) :=
      fun A hA => WalksT.enumerateD (Dr A.in1 hA) (s1.heap.objs.size + 1) ne1 nm (by simp)
    have hself : ∀ (A : Around) (i : Nat) (s : Shared) (Q : Value → Shared → Prop) (E : Value → Shared → Prop), ((∃ old, IsEnum s.heap (s1.heap.objs.size + 1) s1.heap.objs.size i old) ∧ s.heap.IsStrIter s1.heap.objs.size ty x t i) → Q (.ref (s1.heap.objs.size + 1)) s → wpAny (model X.prog X.w) A (pyIter (.ref (s1.heap.objs.size + 1))) Q E s := by
      rintro A i s Q E ⟨⟨old, he⟩, _⟩ hQ
      exact wpAny_pyIter_enum he hQ
    refine hself _ 0 _ _ _ ⟨⟨_, he⟩, hit'⟩ ?_
    refine ⟨s1.heap.objs.size + 1, [s1.heap.objs.size + 1, s1.heap.objs.size], _, _, H1, rfl, J1, turn_T W (fun i => by simp [enumS]; decide) hPt (by simp) ?_ hself, ⟨⟨_, he⟩, hit'⟩, fun b hb => ?_, q⟩
    · rintro i h ⟨⟨old, he⟩, o, ho, hcl, hd⟩ b hb
      rcases List.mem_cons.mp hb with rfl | hb
      · exact ⟨_, he, fun v z => by cases z⟩
      · rw [List.mem_singleton.mp hb]
        exact ⟨o, ho, fun v z => by rw [hd] at z; cases z⟩
    · have hb' : s1.heap.objs.size ≤ b := by
        rcases List.mem_cons.mp hb with rfl | hb
        · exact Nat.le_succ _
        · rw [List.mem_singleton.mp hb]; exact Nat.le_refl _
      exact I1.fpOk hb' (I1.hok.fresh hb')
  cases hx : x.cps.all (· < 128)
  · exact fin "str_iterator" (fun A hA => Draws.strWide hA _ x t) (by simpa [strIterType, hx] using hit)
  · exact fin "str_ascii_iterator" (fun A hA => Draws.strAscii hA _ x t) (by simpa [strIterType, hx] using hit)
noncomputable def iEnum (K : PySem.W.Frag) (ta : TA) : TI := fun σ H R => ta σ H fun vs H1 => (∃ x : Str, vs = [.str x] ∧ R (Itp (enumS x) x.cps.size) H1) ∨ ∃ a xs, vs = [.ref a] ∧ SqL K H1 a xs ∧ R (Ite K a) H1
theorem ji_enum {X : Cx} {K : PySem.W.Frag} {a : Expr} {ta : TA} {elts : List Expr} {k : Nat} {tp p pos : Pos} (hK : X.K = K) (hc : X.calm = true) (hg : Gl X "enumerate") (hm : X.mg "enumerate" = none) (ha : JA X [a] ta) (h : autoParam (notStar a = true) L2.auto4._auto_1) :
    JI X (.Tuple elts k tp) (.Call (.Name "enumerate" p) [a] [] pos) (iEnum K ta) := ⟨by
  subst hK
  intro pins s σ H R I hq
  -- the text's rule wants the reading's own form: split behind the argument
  refine Call_ (ld_blt I hg hm bt_enumerate (PyProof.Rows.callWith_type1 (thn (ha.run pos pins s σ H _ I hq) fun us s1 qq0 => ?_) (se_cons h) rfl))
  obtain ⟨vs, H1, I1, r1, q1⟩ := qq0
  rcases q1 with ⟨x, e, q⟩ | ⟨l, xs, e, hl, q⟩
  · subst e
    obtain ⟨u, rfl, t, rfl⟩ := vals1 r1
    exact enumS_run hc I1 q
  · subst e
    obtain ⟨u, rfl, ru⟩ := vals1 r1
    cases ru
    obtain ⟨its, rv, p1, _⟩ := I1.list hl
    refine call_enumerate_list p1.isList fun h' z1 z2 z3 hk => ?_
    have J1 : Inv X pins σ H1 { s1 with heap := h' } := I1.kept (t' := s1.toks) hk
    refine wpAny_pyIter_enum z1 ?_
    refine ⟨s1.heap.objs.size + 1, _, _, _, H1, rfl, J1, turn_enumL (Nat.succ_ne_self _), ⟨⟨_, z1⟩, z2⟩, fun b hb => ?_, q⟩
    have hb' : s1.heap.objs.size ≤ b := by
      simp only [List.mem_cons, List.mem_nil_iff, or_false] at hb
      have key : ∀ n c : Nat, (c = n + 1 ∨ c = n) → n ≤ c := fun n c h => by omega
      exact key _ _ hb
    exact I1.fpOk hb' (I1.hok.fresh hb')⟩
end L2

namespace L2
open PySem PySem.Spec PyProof.Rows PySem.SeqAt
mutual
noncomputable def DR (H : Hp) : PyData → V → Prop
  | .none, v => v = .non
  | .bool b, v => v = .bl b
  | .int n, v => v = .int n
  | .str x, v => v = .str x
  | .list ds, v => ∃ a vs, v = .ref a ∧ H a = some (.lst vs) ∧ DRs H ds vs
  | .tuple ds, v => ∃ a vs, v = .ref a ∧ H a = some (.tup vs) ∧ DRs H ds vs
  | .dict _, _ => False
noncomputable def DRs (H : Hp) : List PyData → List V → Prop
  | [], vs => vs = []
  | d :: ds, vs => ∃ v r, vs = v :: r ∧ DR H d v ∧ DRs H ds r
end
mutual
theorem DR.same {H H' : Hp} (s : Same H H') : ∀ (d : PyData) (v : V), DR H d v → DR H' d v
  | .none, _, h => by rw [DR] at h ⊢; exact h
  | .bool _, _, h => by rw [DR] at h ⊢; exact h
  | .int _, _, h => by rw [DR] at h ⊢; exact h
  | .str _, _, h => by rw [DR] at h ⊢; exact h
  | .list ds, v, h => by rw [DR] at h ⊢; obtain ⟨a, vs, e, q, r⟩ := h; exact ⟨a, vs, e, s _ _ q, DRs.same s ds vs r⟩
  | .tuple ds, v, h => by rw [DR] at h ⊢; obtain ⟨a, vs, e, q, r⟩ := h; exact ⟨a, vs, e, s _ _ q, DRs.same s ds vs r⟩
  | .dict _, _, h => by rw [DR] at h; exact h.elim
theorem DRs.same {H H' : Hp} (s : Same H H') : ∀ (ds : List PyData) (vs : List V), DRs H ds vs → DRs H' ds vs
  | [], _, h => by rw [DRs] at h ⊢; exact h
  | d :: ds, vs, h => by rw [DRs] at h ⊢; obtain ⟨v, r, e, q, t⟩ := h; exact ⟨v, r, e, DR.same s d v q, DRs.same s ds r t⟩
end
theorem DR_int {H : Hp} {n : Int} {v : V} : DR H (.int n) v ↔ v = .int n := by rw [DR]
theorem DR_tuple {H : Hp} {ds : List PyData} {v : V} : DR H (.tuple ds) v ↔ ∃ a vs, v = .ref a ∧ H a = some (.tup vs) ∧ DRs H ds vs := by rw [DR]
theorem DRs_nil {H : Hp} {vs : List V} : DRs H [] vs ↔ vs = [] := by rw [DRs]
theorem DRs_cons {H : Hp} {d : PyData} {ds : List PyData} {vs : List V} : DRs H (d :: ds) vs ↔ ∃ v r, vs = v :: r ∧ DR H d v ∧ DRs H ds r := by rw [DRs]
theorem DRs_append {H : Hp} : ∀ {ds es : List PyData} {vs ws : List V}, DRs H ds vs → DRs H es ws → DRs H (ds ++ es) (vs ++ ws)
  | [], _, _, _, h, q => by rw [DRs_nil] at h; subst h; exact q
  | d :: ds, _, _, _, h, q => by
    rw [DRs_cons] at h
    obtain ⟨v, r, rfl, hd, hr⟩ := h
    exact DRs_cons.mpr ⟨v, r ++ _, rfl, hd, DRs_append hr q⟩
theorem DRs_one {H : Hp} {d : PyData} {v : V} (h : DR H d v) : DRs H [d] [v] := DRs_cons.mpr ⟨v, [], rfl, h, DRs_nil.mpr rfl⟩
theorem DRs_len {H : Hp} : ∀ {ds : List PyData} {vs : List V}, DRs H ds vs → vs.length = ds.length
  | [], _, h => by rw [DRs_nil] at h; subst h; rfl
  | d :: ds, _, h => by rw [DRs_cons] at h; obtain ⟨v, r, rfl, _, hr⟩ := h; simp [DRs_len hr]
theorem DRs_at {H : Hp} : ∀ {ds : List PyData} {vs : List V} {i : Nat} {d : PyData}, DRs H ds vs → ds[i]? = some d → ∃ v, vs[i]? = some v ∧ DR H d v
  | [], _, _, _, _, e => by simp at e
  | d :: ds, _, i, d', h, e => by
    rw [DRs_cons] at h
    obtain ⟨v, r, rfl, hd, hr⟩ := h
    cases i with
    | zero => simp at e; subst e; exact ⟨v, rfl, hd⟩
    | succ i => simp at e; obtain ⟨u, h1, h2⟩ := DRs_at hr e; exact ⟨u, by simpa using h1, h2⟩
mutual
theorem DR.reads {P : Program} {w : World} {H : Hp} {h : Heap} (ok : HOk P w H h) : ∀ (d : PyData) (v : V) (u : Value), DR H d v → RelV v u → ∃ as, Reads h u d as
  | .none, _, u, q, r => by rw [DR] at q; subst q; cases r; exact ⟨_, .none⟩
  | .bool b, _, u, q, r => by rw [DR] at q; subst q; cases r; exact ⟨_, .bool _⟩
  | .int n, _, u, q, r => by rw [DR] at q; subst q; obtain ⟨t, rfl⟩ := r; exact ⟨_, .int _ _⟩
  | .str n, _, u, q, r => by rw [DR] at q; subst q; obtain ⟨t, rfl⟩ := r; exact ⟨_, .str _ _⟩
  | .list ds, v, u, q, r => by
    rw [DR] at q
    obtain ⟨a, vs, rfl, e, t⟩ := q
    cases r
    obtain ⟨_, its, n, rv, g⟩ := ok a _ e
    obtain ⟨as, ra⟩ := DRs.reads ok ds vs its t rv
    exact ⟨_, .list g rfl rfl (by simpa using ra)⟩
  | .tuple ds, v, u, q, r => by
    rw [DR] at q
    obtain ⟨a, vs, rfl, e, t⟩ := q
    cases r
    obtain ⟨_, its, rv, g⟩ := ok a _ e
    obtain ⟨as, ra⟩ := DRs.reads ok ds vs its t rv
    obtain ⟨o, ho, hc, n, hd⟩ := g
    exact ⟨_, .tuple ho hc hd (by simpa using ra)⟩
  | .dict _, _, _, q, _ => by rw [DR] at q; exact q.elim
theorem DRs.reads {P : Program} {w : World} {H : Hp} {h : Heap} (ok : HOk P w H h) : ∀ (ds : List PyData) (vs : List V) (us : List Value), DRs H ds vs → Vals vs us → ∃ as, ReadsAll h us ds as
  | [], _, us, q, r => by rw [DRs] at q; subst q; cases r; exact ⟨_, .nil⟩
  | d :: ds, _, us, q, r => by
    rw [DRs] at q
    obtain ⟨v, r', rfl, q1, q2⟩ := q
    cases r with
    | cons a b =>
      obtain ⟨as, h1⟩ := DR.reads ok d v _ q1 a
      obtain ⟨bs, h2⟩ := DRs.reads ok ds r' _ q2 b
      exact ⟨_, .cons h1 h2⟩
end
noncomputable def rEqD : R2 := fun x y H Q => ∃ d e, DR H d x ∧ DR H e y ∧ shaped d = true ∧ shaped e = true ∧ Q (.bl (PyData.eqv d e)) H
noncomputable def rNeD : R2 := fun x y H Q => ∃ d e, DR H d x ∧ DR H e y ∧ shaped d = true ∧ shaped e = true ∧ Q (.bl (!PyData.eqv d e)) H
section
variable {X : Cx}
theorem op_eqD (hu : X.A.units + 64 < cLine) : OpR X (compareOp .Eq) rEqD := by
  intro pins s σ H x y v u Q I rx ry h
  obtain ⟨d, e, h1, h2, h3, h4, q⟩ := h
  obtain ⟨as, r1⟩ := DR.reads I.hok d x v h1 rx
  obtain ⟨bs, r2⟩ := DR.reads I.hok e y u h2 ry
  exact eq_dataH r1 r2 h3 h4 hu ⟨.bl _, H, I, rfl, q⟩
theorem op_neD (hu : X.A.units + 64 < cLine) : OpR X (compareOp .NotEq) rNeD := by
  intro pins s σ H x y v u Q I rx ry h
  obtain ⟨d, e, h1, h2, h3, h4, q⟩ := h
  obtain ⟨as, r1⟩ := DR.reads I.hok d x v h1 rx
  obtain ⟨bs, r2⟩ := DR.reads I.hok e y u h2 ry
  exact ne_dataH r1 r2 h3 h4 hu ⟨.bl _, H, I, rfl, q⟩
noncomputable def rEqB (K : PySem.W.Frag) : R2 := fun x y H Q => rEqA K x y H Q ∨ rEqD x y H Q
noncomputable def rNeB (K : PySem.W.Frag) : R2 := fun x y H Q => rNeA K x y H Q ∨ rNeD x y H Q
theorem op_eqX {K : PySem.W.Frag} (hK : X.K = K) (hu : X.A.units + 64 < cLine) : OpR X (compareOp .Eq) (rEqB K) := (op_eqK hK (Nat.lt_of_le_of_lt (Nat.le_add_right _ _) hu)).or (op_eqD hu)
theorem op_neX {K : PySem.W.Frag} (hK : X.K = K) (hu : X.A.units + 64 < cLine) : OpR X (compareOp .NotEq) (rNeB K) := (op_neK hK hu).or (op_neD hu)
end
section
variable {H : Hp} {Q : VK} {K : PySem.W.Frag} {σ : St}
theorem r_eqBI {i j : Int} (h : Q (.bl (decide (V.int i = V.int j))) H) : rEqB K (.int i) (.int j) H Q := .inl (.inl ⟨rfl, h⟩)
theorem r_neBI {i j : Int} (h : Q (.bl (!decide (V.int i = V.int j))) H) : rNeB K (.int i) (.int j) H Q := .inl (.inl ⟨rfl, h⟩)
theorem r_neBB {i j : Bool} (h : Q (.bl (!decide (V.bl i = V.bl j))) H) : rNeB K (.bl i) (.bl j) H Q := .inl (.inl ⟨rfl, h⟩)
theorem r_enumA {a : TA} {R : It → Hp → Prop} (h : a σ H fun vs H1 => (∃ x : Str, vs = [.str x] ∧ R (Itp (enumS x) x.cps.size) H1) ∨ ∃ a xs, vs = [.ref a] ∧ SqL K H1 a xs ∧ R (Ite K a) H1) : iEnum K a σ H R := h
theorem for_enumL {a : Addr} {xs : List V} {g : TG} {tb : TS} {D : Ends} (Pv : Nat → St → Hp → Prop) (h0 : Pv 0 σ H) (hq : ∀ i σ H, i ≤ xs.length → Pv i σ H → SqL K H a xs)
    (hs : ∀ i σ H T x, xs[i]? = some x → Pv i σ H → H T = none → g (.ref T) σ (upd H T (.tup [.int i, x])) fun σ2 H2 => tb { D with nx := Pv (i + 1), ct := Pv (i + 1), bk := D.nx } σ2 H2) (hd : ∀ σ H, Pv xs.length σ H → D.nx σ H) :
    ∃ W : Nat → Nat → St → Hp → Prop, (∃ m, W 0 m σ H) ∧ ∀ i m σ H, W i m σ H →
      ((Ite K a).stop i H ∧ D.nx σ H) ∨ ((Ite K a).go i H ∧ ∃ N : St → Hp → Prop, (∀ σ' H', N σ' H' → ∃ m', m' < m ∧ W (i + 1) m' σ' H') ∧ ∀ x H', (Ite K a).yld i H x H' → g x σ H' fun σ2 H2 => tb { D with nx := N, ct := N, bk := D.nx } σ2 H2) := by
  refine ⟨fun i m σ H => m = xs.length - i ∧ i ≤ xs.length ∧ Pv i σ H, ⟨xs.length, by simp, Nat.zero_le _, h0⟩, ?_⟩
  rintro i m σ H ⟨rfl, hi, p⟩
  have q1 := hq i σ H hi p
  by_cases hlt : i < xs.length
  · refine .inr ⟨⟨xs, xs[i], q1, List.getElem?_eq_getElem hlt⟩, Pv (i + 1), fun σ' H' p' => ⟨xs.length - (i + 1), by omega, rfl, hlt, p'⟩, fun x H' y => ?_⟩
    obtain ⟨T, u, hT, e1, e2, e4⟩ := y
    subst e1 e4
    exact hs i σ H T u (e2 xs q1) p hT
  · have e : i = xs.length := by omega
    subst e
    exact .inl ⟨⟨xs, q1, Nat.le_refl _⟩, hd σ H p⟩
end
end L2

namespace L2
open PySem PySem.Spec PyProof.Rows
section
variable {prog : Program} {w : World} {A : Around} {E : Value → Shared → Prop} {s : Shared}
end
end L2

namespace L2
open PySem PySem.Spec PyProof.Rows
section
variable {X : Cx} {K : PySem.W.Frag} {a b c e : Expr} {ta tb tc te : TE} {pos p p2 p3 : Pos}
theorem j_chain {op op' : CmpOp} {r r' : R2} (ho : OpR X (compareOp op) r) (ho' : OpR X (compareOp op') r') (ha : JE X a ta) (hb : JE X b tb) (hc : JE X c tc) (hm : autoParam (lastMarks [op, op'] [b, c] = false) L2.auto5._auto_1) :
    JE X (.Compare a [op, op'] [b, c] pos) (tChain r r' ta tb tc) := ⟨pe_chain ho ho' ha.run hb.run hc.run hm⟩
end
end L2

namespace L2
open PySem PySem.Spec PyProof.Rows
noncomputable def TbOk (h : Heap) (T : Addr) : Prop := ∃ oT ts, h.get? T = some oT ∧ oT.data = .fields ts ∧ 3 < ts.size
noncomputable def XObj (C : Addr) (dd : Option Addr) (vs : Array Value) : Obj := { cls := .ref C, dict := dd, data := .fields vs }
section
variable {M : Model} {A : Around} {E : Value → Shared → Prop}
structure NoteK (fs : List Addr) (x C : Addr) (dd : Option Addr) (hd : Option Addr) (h h' : Heap) (T : Addr) : Prop where
  obj : ∃ vs, h'.get? x = some (XObj C dd vs) ∧ vs[1]? = some (.ref T)
  tb : TbOk h' T
  ne : T ≠ x
  new : h.objs.size ≤ T ∨ hd = some T
  keep : ∀ b o, b ≠ x → some b ≠ hd → b ∉ fs → h.get? b = some o → h'.get? b = some o
  slot : ∀ b o, b ≠ x → some b ≠ hd → h.get? b = some o → ∃ sl, h'.get? b = some { o with slots := sl }
  tail : ∀ b o, hd = some b → h.get? b = some o → ∃ o', h'.get? b = some o'
end
end L2

namespace L2
open PySem PySem.Spec PyProof.Rows
noncomputable def VEm : List Value := [.type "ValueError", .type "Exception", .type "BaseException", .type "object"]
noncomputable def xIn (K : PySem.W.Frag) (D : Addr) : Bool := match K.lookup D with
  | some ⟨.type "type", _, .cls cd, sl⟩ => (match cd.mro, sl.toList with
    | .ref E :: bm, [_, _, _, _, some (.builtin n), _] => E == D && n == "ValueError.__new__" && cd.hasDel == false && cd.hasDict && PySem.W.tailIn K VEm bm
    | _, _ => false)
  | _ => false
section
variable {prog : Program} {w : World} {A : Around} {K : PySem.W.Frag} {D f : Addr} {E : Value → Shared → Prop}
end
end L2

namespace L2
open PySem PySem.Spec PyProof.Rows
noncomputable def excO (x C dx : Addr) : HO := .ext fun h => ∃ vs, h.get? x = some (XObj C (some dx) vs)
noncomputable def excRaw (x C : Addr) : HO := .ext fun h => ∃ t, h.get? x = some (XObj C none #[.ref t, .none, .none, .none, .bool false, .none])
structure Head (X : Cx) (pins : List (Addr × Obj)) (H : Hp) (x C dx T : Addr) (h : Heap) : Prop where
  obj : ∃ vs, h.get? x = some (XObj C (some dx) vs) ∧ vs[1]? = some (.ref T)
  tb : TbOk h T
  fp : FpOk X pins H T
  tr : H x = some (excO x C dx)
section
variable {X : Cx} {pins : List (Addr × Obj)} {σ : St} {H : Hp} {s : Shared} {x C dx : Addr} {h' : Heap} {T : Addr} {hd : Option Addr}
end
end L2

namespace L2
open PySem PySem.Spec PyProof.Rows
noncomputable def excD (d : Addr) (fs : List (Str × V)) : HO := .ext fun h => ∃ mA, h.Ns1 d mA ∧ ∀ f, RelO (fs.lookup f) (mA f)
noncomputable def excNew (x C d : Addr) : HO := .ext fun h => ∃ t, h.get? x = some (XObj C (some d) #[.ref t, .none, .none, .none, .bool false, .none])
noncomputable def refsThen : List Value → Bool
  | [.type a, .type b, .type c, .type d] => a == "ValueError" && b == "Exception" && c == "BaseException" && d == "object"
  | .ref _ :: r => refsThen r
  | _ => false
noncomputable def xcIn (K : PySem.W.Frag) (C : Addr) : Bool := xIn K C && (PySem.W.clsIn K C).any (fun cd => refsThen cd.mro && cd.hasDict) && PySem.W.findIn K (.ref C) "__setattr__" == some (some (.builtin "object.__setattr__")) &&
  PySem.W.findIn K (.ref C) "__getattribute__" == some (some (.builtin "BaseException.__getattribute__")) && PySem.W.findIn K (.ref C) "__getattr__" == some none
structure XCls (K : PySem.W.Frag) (C : Addr) : Prop where
  xi : xIn K C = true
  ov : ∃ cd, PySem.W.clsIn K C = some cd ∧ refsThen cd.mro = true ∧ cd.hasDict = true
  sa : PySem.W.findIn K (.ref C) "__setattr__" = some (some (.builtin "object.__setattr__"))
  ga : PySem.W.findIn K (.ref C) "__getattribute__" = some (some (.builtin "BaseException.__getattribute__"))
  gh : PySem.W.findIn K (.ref C) "__getattr__" = some none
theorem xcIn_of {K : PySem.W.Frag} {C : Addr} (h : xcIn K C = true) : XCls K C := by
  unfold xcIn at h
  simp only [Bool.and_eq_true, beq_iff_eq] at h
  obtain ⟨⟨⟨⟨h1, h2⟩, h3⟩, h4⟩, h5⟩ := h
  obtain ⟨cd, a, b⟩ := PySem.W.any_some h2
  simp only [Bool.and_eq_true] at b
  exact ⟨h1, ⟨cd, a, b.1, b.2⟩, h3, h4, h5⟩
section
variable {prog : Program} {w : World} {A : Around} {s : Shared} {K : PySem.W.Frag} {x C : Addr} {R : Result → Shared → Prop}
end
section
variable {X : Cx} {pins : List (Addr × Obj)} {σ : St} {H : Hp} {s : Shared} {x C d : Addr} {fs : List (Str × V)} {f : Str} {v y : V} {u : Value} {A : Around} {E : Value → Shared → Prop}
end
end L2

namespace L2
open PySem PySem.Spec PyProof.Rows
section
variable {X : Cx} {pins : List (Addr × Obj)} {σ : St} {H : Hp} {s : Shared} {x C d : Addr} {fs : List (Str × V)} {f : Str} {v y : V} {u : Value} {A : Around} {E : Value → Shared → Prop}
end
end L2

namespace L2
open PySem PySem.Spec PyProof.Rows
noncomputable def xclIn (K : PySem.W.Frag) (C : Addr) : Bool := xcIn K C && PySem.W.findIn K (.ref C) "__class__" == some (some (.builtin "object.__class__")) && PySem.W.specialIn K (.builtin "object.__class__") "__get__" == some (some (.builtin "getset_descriptor.__get__")) && PySem.W.takesIn K (.builtin "object.__class__") == some true
structure XCl (K : PySem.W.Frag) (C : Addr) : Prop where
  cls : XCls K C
  ca : PySem.W.findIn K (.ref C) "__class__" = some (some (.builtin "object.__class__"))
  cg : PySem.W.specialIn K (.builtin "object.__class__") "__get__" = some (some (.builtin "getset_descriptor.__get__"))
  ct : PySem.W.takesIn K (.builtin "object.__class__") = some true
theorem xclIn_of {K : PySem.W.Frag} {C : Addr} (h : xclIn K C = true) : XCl K C := by
  unfold xclIn at h
  simp only [Bool.and_eq_true, beq_iff_eq] at h
  exact ⟨xcIn_of h.1.1.1, h.1.1.2, h.1.2, h.2⟩
section
variable {prog : Program} {w : World} {A : Around} {E : Value → Shared → Prop} {s : Shared} {K : PySem.W.Frag} {x C : Addr} {ox od : Obj}
end
section
variable {X : Cx} {pins : List (Addr × Obj)} {σ : St} {H : Hp} {s : Shared} {A : Around} {E : Value → Shared → Prop} {Q : Value → Shared → Prop} {c : Value} {b : Bool}
end
end L2

namespace L2
open PySem PySem.Spec PyProof.Rows
section
variable {X : Cx} {k : Nat} {f C : Addr} {fd : FuncData} {ps : List Str} {sp : Sp} {R : St → XK} {x : Str} {p pos : Pos} {e : Expr} {es : List Expr} {t : TA} {pins : List (Addr × Obj)} {σ : St} {H : Hp} {s : Shared} {Q : VK} {us : List Value} {vs : List V}
noncomputable def spInit (C : Addr) (fl : List Str) : Sp := fun vs H Q E => ∃ x ws, vs = .ref x :: ws ∧ ws.length = fl.length ∧ H x = some (excRaw x C) ∧ ∀ d, H d = none → d ≠ x → Q .non (upd (upd H x (excNew x C d)) d (excD d (fl.zip ws)))
structure XMk (P : Program) (w : World) (K : PySem.W.Frag) (mg : Str → Option Value) (base : Heap) (k : Nat) (x : Str) (C : Addr) (fl : List Str) : Prop where
  at_ : mg x = some (.ref C)
  cl : XCl K C
  kp : PySem.W.keepIn K (.ref C) = true
  na : ∀ f ∈ fl, NoAttr K C f
  run : ∃ f fd ps, PySem.W.findIn K (.ref C) "__init__" = some (some (.ref f)) ∧ PySem.W.typeIn K (.ref f) = some (.type "function") ∧ Binds K fd ps [] ∧ FnOk P w K mg base CX0 k f fd ps (spInit C fl)
end
end L2

namespace L2
open PySem PySem.Spec PyProof.Rows
section
variable {X : Cx} {k : Nat} {C : Addr} {R : St → XK} {x : Str} {p cpos pos : Pos} {e : Expr} {es : List Expr} {t : TA} {fl : List Str}
end
section
variable {X : Cx} {pins : List (Addr × Obj)} {σ σ' : St} {H : Hp} {s : Shared} {h' : Heap}
end
end L2

namespace L2
open PySem PySem.Spec PyProof.Rows
section
variable {X : Cx} {pins pins' : List (Addr × Obj)} {σ : St} {H : Hp} {s : Shared} {x C d T : Addr} {R : St → XK} {D : Ends}
noncomputable abbrev TH := Ends → St → Addr → Addr → Hp → Prop
noncomputable def PH (X : Cx) (hs : List ExceptHandler) (th : TH) : Prop := ∀ (pins : List (Addr × Obj)) (s : Shared) (σ : St) (H : Hp) (D : Ends) (x C d T : Addr), Inv X pins σ H s → Head X pins H x C d T s.heap → th D σ x C H →
  wpAny (model X.prog X.w) X.A (handleBy (.ref x) X.env hs) (SP X pins D) X.xe s
variable {nm n : Str} {P : Addr} {i : Nat} {p pos : Pos} {b0 : Stmt} {suite : List Stmt} {ts : TS} {th : TH} {hs : List ExceptHandler}
end
end L2

namespace L2
open PySem PySem.Spec PyProof.Rows
noncomputable def clsA (mg : Str → Option Value) (x : Str) : Addr := match mg x with
  | some (.ref a) => a
  | _ => 0
theorem clsA_of {mg : Str → Option Value} {x : Str} {C : Addr} (h : mg x = some (.ref C)) : clsA mg x = C := by unfold clsA; rw [h]
structure CTxt (K : PySem.W.Frag) (mg : Str → Option Value) (x : Str) : Prop where
  at_ : mg x = some (.ref (clsA mg x))
  cl : XCl K (clsA mg x)
theorem ct_mk {K : PySem.W.Frag} {mg : Str → Option Value} {h : Heap} (X : K.In h) (G : h.Ns mainGlobals mg) {x : Str} {C : Addr} (a : PySem.W.nsIn K mainGlobals x = some (some (.ref C))) (b : xclIn K C = true) : CTxt K mg x := by
  have m := PySem.W.mg_of X G a
  have e := clsA_of m
  exact ⟨by rw [e]; exact m, by rw [e]; exact xclIn_of b⟩
structure XTxt (K : PySem.W.Frag) (mg : Str → Option Value) (x : Str) (fl : List Str) (qual : Str) (st : Stmt) : Prop where
  c : CTxt K mg x
  kp : PySem.W.keepIn K (.ref (clsA mg x)) = true
  na : ∀ f ∈ fl, NoAttr K (clsA mg x) f
  ini : ∃ f fd, PySem.W.findIn K (.ref (clsA mg x)) "__init__" = some (some (.ref f)) ∧ PySem.W.typeIn K (.ref f) = some (.type "function") ∧ Fun K "__init__" qual st f fd
noncomputable def noneOf (K : PySem.W.Frag) (C : Addr) (fl : List Str) : Bool := fl.all fun n => PySem.W.findIn K (.ref C) n == some none
theorem xt_mk {K : PySem.W.Frag} {mg : Str → Option Value} {h : Heap} (X : K.In h) (G : h.Ns mainGlobals mg) {x qual : Str} {C f : Addr} {fl : List Str} {st : Stmt} {oc : Value} {od an : Option Addr} {osl : Array (Option Value)} {kV doc pm cdv ct : Value}
    (a : PySem.W.nsIn K mainGlobals x = some (some (.ref C))) (b : xclIn K C = true) (kp : PySem.W.keepIn K (.ref C) = true) (na : noneOf K C fl = true)
    (i : PySem.W.findIn K (.ref C) "__init__" = some (some (.ref f))) (t : PySem.W.typeIn K (.ref f) = some (.type "function"))
    (l : K.lookup f = some ⟨oc, od, .func (PySem.W.fnOf "__init__" qual (defArgs st) (defBody st) (defScope st) .none kV doc pm an cdv ct), osl⟩) (c : PySem.W.codeIn K cdv qual = true) (k : PySem.W.keepIn K (.ref f) = true) : XTxt K mg x fl qual st := by
  have m := PySem.W.mg_of X G a
  have e := clsA_of m
  refine ⟨ct_mk X G a b, by rw [e]; exact kp, fun n hn => ?_, f, _, by rw [e]; exact i, t, fun_mk l c k⟩
  rw [e]
  have := List.all_eq_true.mp na n hn
  exact beq_iff_eq.mp this
structure Sub (K : PySem.W.Frag) (mg : Str → Option Value) (x y : Str) (b : Bool) : Prop where
  mro : PySem.W.mroIn K (clsA mg x) (.ref (clsA mg y)) = some b
  one : PySem.W.kitOne K (.ref (clsA mg x)) (.ref (clsA mg y)) = some b
structure JH (X : Cx) (hs : List ExceptHandler) (th : TH) : Prop where
  run : PH X hs th
section
variable {X : Cx} {K : PySem.W.Frag} {k : Nat} {x n fn : Str} {ps : List Str} {sp : Sp} {R : St → XK} {p pos cpos pos' : Pos} {e o value : Expr} {es : List Expr} {t : TA} {ta tv : TE} {st : Stmt} {u ts : TS} {th : TH} {hs : List ExceptHandler} {i : Nat}
end
section
variable {P : Program} {w : World} {K : PySem.W.Frag} {mg : Str → Option Value} {base : Heap}
end
end L2

namespace L2
open PySem PySem.Spec PyProof.Rows
noncomputable def initOf : Stmt → Stmt
  | .ClassDef _ _ _ (s :: _) _ _ _ _ _ _ _ => s
  | s => s
section
variable {σ : St} {H : Hp} {D : Ends} {Q : VK} {sp : Sp} {R : St → XK} {a : TA} {K : PySem.W.Frag} {C P : Addr} {fl : List Str} {th : TH} {ts : TS} {i : Nat} {ta : TE} {f : Str}
end
end L2

namespace L2
open PySem PySem.Spec PyProof.Rows
section
variable {X : Cx} {tg : Expr}
end
section
variable {σ : St} {H : Hp} {Q : VK}
end
section
variable {X : Cx} {e : Expr} {te : TE} {lo hi : Option Expr} {st : Expr} {tl th ts : TO} {pos p2 : Pos}
end
section
variable {σ : St} {H : Hp} {Q : VK} {te : TE}
end
noncomputable def rEqI (K : PySem.W.Frag) (neg : Bool) : R2 := fun x y H Q => ∃ a b xs, x = .ref a ∧ y = .ref b ∧ SqL K H a xs ∧ SqL K H b xs ∧ (∀ v ∈ xs, flatV v = true ∨ ∃ r, v = .ref r) ∧ Q (.bl (!neg)) H
theorem eqV_refl {v : V} (f : flatV v = true) : eqV v v = true := by
  cases v <;> first | (cases f; done) | rfl | (simp [eqV])
section
variable {X : Cx}
theorem op_eqI (hu : X.A.units < cLine) : OpR X (compareOp .Eq) (rEqI X.K false) := by
  intro pins s σ H x y v u Q I rx ry h
  obtain ⟨a, b, xs, rfl, rfl, ha, hb, fx, q⟩ := h
  cases rx
  cases ry
  obtain ⟨its, r1, p1, z1⟩ := I.list ha
  obtain ⟨jts, r2, p2, z2⟩ := I.list hb
  have l1 : its.toArray.size = xs.length := by simpa using r1.length.symm
  have l2 : jts.toArray.size = xs.length := by simpa using r2.length.symm
  refine SeqAt.eq_listAt (e := fun _ => true) p1.isList p2.isList (by rw [l1, l2]) hu (fun j h1 h2 => ?_) ?_
  · have hj : j < xs.length := by omega
    obtain ⟨u1, e1, q1⟩ := r1.get (List.getElem?_eq_getElem hj)
    obtain ⟨u2, e2, q2⟩ := r2.get (List.getElem?_eq_getElem hj)
    have f1 : its.toArray[j] = u1 := by
      obtain ⟨_, z⟩ := List.getElem?_eq_some_iff.mp e1
      simpa using z
    have f2 : jts.toArray[j] = u2 := by
      obtain ⟨_, z⟩ := List.getElem?_eq_some_iff.mp e2
      simpa using z
    rw [f1, f2]
    rcases fx _ (List.getElem_mem hj) with f | ⟨r, f⟩
    · rw [← eqV_refl f]
      exact eqAt_V q1 q2 f f
    · rw [f] at q1 q2
      cases (show u1 = Value.ref r from q1)
      cases (show u2 = Value.ref r from q2)
      exact SeqAt.EqAt.same _
  · have e : (List.range its.toArray.size).all (fun _ => true) = true := by simp
    rw [e]
    exact ⟨.bl true, H, I, rfl, q⟩
noncomputable def rEqC (K : PySem.W.Frag) : R2 := fun x y H Q => rEqB K x y H Q ∨ rEqI K false x y H Q
theorem op_eqC {K : PySem.W.Frag} (hK : X.K = K) (hu : X.A.units + 64 < cLine) : OpR X (compareOp .Eq) (rEqC K) := by
  subst hK
  exact (op_eqX rfl hu).or (op_eqI (Nat.lt_of_le_of_lt (Nat.le_add_right _ _) hu))
end
section
variable {H : Hp} {Q : VK} {K : PySem.W.Frag}
theorem r_eqCI {i j : Int} (h : Q (.bl (decide (V.int i = V.int j))) H) : rEqC K (.int i) (.int j) H Q := .inl (r_eqBI h)
end
end L2

namespace L2
open PySem PySem.Spec PyProof.Rows
open AutoSeq1 (wpAny_loadPart')
theorem dd_sub : isSubtype (.type "dict") (.type "dict") = pure true := by rw [isSubtype_type]; kernel_rfl
theorem dict_self {prog : Program} {w : World} {A : Around} {E : Value → Shared → Prop} {s : Shared} {Q : Value → Shared → Prop} {a : Addr} {o : Obj} {e : DictEntry} {ep : Nat} {k : Key} (ho : s.heap.get? a = some o) (hc : o.cls = .type "dict") (hd : o.data = .dict #[e] ep)
    (hkey : (mixKind prog w).is k e.key = true) (hh : e.hash = (mixKind prog w).hash k) (hsm : (a == sysModules) = false) (hu : A.units < cLine) (h : Q (.bool true) s) : wpAny (model prog w) A (compareOp .Eq (.ref a) (.ref a)) Q E s := by
  show wpAny _ _ (richCompare .Eq (.ref a) (.ref a)) _ _ _
  refine wpAny_richCompare_same_room ⟨o, ho, hc⟩ ⟨o, ho, hc⟩ F.slot_dict_eq (wpAny_call (codeAny_call_builtin F.slot_dict_eq.plain F.entry_dict_eq (F.slot_dict_eq.check _ _ _ _ _ _ _ _ ⟨o, ho, hc⟩ (F.args_dict_eq_2 _ _) ?_))) hu
  have ko : KeysOf (mixKind prog w) #[e] := fun x hx => by
    simp at hx
    subst hx
    exact ⟨k, hkey, hh⟩
  have f2 := dd_sub
  obtain ⟨hp, g, d, tk, os⟩ := s
  have hT : (⟨hp, g, d, tk, os⟩ : Shared).TypeIs (.ref a) "dict" := ⟨_, ho, hc⟩
  unfold Builtin.«dict.__eq__»
  wp_walk using wpAny_loadPart' ho
  have en : ∀ (Q : Array DictEntry → Shared → Prop) (E : Value → Shared → Prop), Q #[e] ⟨hp, g, d, tk, os⟩ → wpAny (model prog w) A.in1 (dictEntries a) Q E ⟨hp, g, d, tk, os⟩ := fun Q E q => by
    unfold dictEntries
    refine wpAny_bind (wpAny_loadPart ho ?_)
    simp only [hd]
    exact wpAny_pure q
  have eo : ∀ (Q : Nat → Shared → Prop) (E : Value → Shared → Prop), Q ep ⟨hp, g, d, tk, os⟩ → wpAny (model prog w) A.in1 (dictEpoch a) Q E ⟨hp, g, d, tk, os⟩ := fun Q E q => by
    unfold dictEpoch
    refine wpAny_bind (wpAny_loadPart ho ?_)
    simp only [hd]
    exact wpAny_pure q
  simp only [hd]
  refine wpAny_pure ?_
  refine wpAny_bind (en _ _ ?_)
  rw [if_neg (by simp)]
  refine wpAny_bind (eo _ _ ?_)
  refine wpAny_bind ?_
  rw [Std.Legacy.Range.forIn_eq_forIn_range']
  simp only [Std.Legacy.Range.size, Nat.sub_zero, Nat.add_sub_cancel, Nat.div_one]
  show wpAny _ _ (forIn [0] _ _) _ _ _
  rw [List.forIn_cons]
  refine wpAny_bind (wpAny_bind (en _ _ ?_))
  show wpAny _ _ (holding [e.key, e.val] _ >>= _) _ _ _
  refine wpAny_bind (wpAny_holding ?_)
  refine wpAny_bind (show wpAny (model prog w) A.in1 (dictFind a e.key e.hash) _ _ _ from ?_)
  rw [hh]
  refine wpAny_dictFind_of hkey ho hd ko ?_
  have fi : (#[e] : Array DictEntry).findIdx? (fun e => (mixKind prog w).is k e.key) = some 0 := by simp [hkey]
  rw [fi]
  refine wpAny_bind (en _ _ ?_)
  show wpAny _ _ (holding [e.val] (eqBool e.val e.val)) _ _ _
  refine wpAny_holding (SeqAt.EqAt.same e.val prog w _ _ ?_)
  rw [if_neg (by simp)]
  refine wpAny_bind (eo _ _ ?_)
  rw [if_neg (by simp)]
  refine wpAny_pure ?_
  show wpAny _ _ (forIn [] _ _) _ _ _
  rw [List.forIn_nil]
  refine wpAny_pure (wpAny_pure ?_)
  exact wpAny_pure ⟨(fun z => nomatch z), h⟩
noncomputable def rIsA : R2 := fun x y H Q => (y = .non ∧ Q (.bl (decide (x = .non))) H) ∨ ∃ a b, x = .bl a ∧ y = .bl b ∧ Q (.bl (a == b)) H
section
variable {X : Cx}
theorem op_isA : OpR X (compareOp .Is) rIsA := op_isN.or (by
  intro pins s σ H x y v u Q I rx ry h
  obtain ⟨a, b, rfl, rfl, q⟩ := h
  cases rx
  cases ry
  exact is_bool ⟨.bl _, H, I, rfl, q⟩)
noncomputable def rEqTI (K : PySem.W.Frag) : R2 := fun x y H Q => ∃ a b xs, x = .ref a ∧ y = .ref b ∧ SqT K H a xs ∧ SqT K H b xs ∧ (∀ v ∈ xs, flatV v = true ∨ ∃ r, v = .ref r) ∧ Q (.bl true) H
theorem op_eqTI (hu : X.A.units < cLine) : OpR X (compareOp .Eq) (rEqTI X.K) := by
  intro pins s σ H x y v u Q I rx ry h
  obtain ⟨a, b, xs, rfl, rfl, ha, hb, fx, q⟩ := h
  cases rx
  cases ry
  obtain ⟨its, r1, p1, z1⟩ := I.tuple ha
  obtain ⟨jts, r2, p2, z2⟩ := I.tuple hb
  have l1 : its.toArray.size = xs.length := by simpa using r1.length.symm
  have l2 : jts.toArray.size = xs.length := by simpa using r2.length.symm
  refine SeqAt.eq_tupleAt (e := fun _ => true) p1 p2 hu (fun j h1 h2 => ?_) ?_
  · have hj : j < xs.length := by omega
    obtain ⟨u1, e1, q1⟩ := r1.get (List.getElem?_eq_getElem hj)
    obtain ⟨u2, e2, q2⟩ := r2.get (List.getElem?_eq_getElem hj)
    have f1 : its.toArray[j] = u1 := by
      obtain ⟨_, z⟩ := List.getElem?_eq_some_iff.mp e1
      simpa using z
    have f2 : jts.toArray[j] = u2 := by
      obtain ⟨_, z⟩ := List.getElem?_eq_some_iff.mp e2
      simpa using z
    rw [f1, f2]
    rcases fx _ (List.getElem_mem hj) with f | ⟨r, f⟩
    · rw [← eqV_refl f]
      exact eqAt_V q1 q2 f f
    · rw [f] at q1 q2
      cases (show u1 = Value.ref r from q1)
      cases (show u2 = Value.ref r from q2)
      exact SeqAt.EqAt.same _
  · have e : ((List.range (min its.toArray.size jts.toArray.size)).all (fun _ => true) && its.toArray.size == jts.toArray.size) = true := by rw [l1, l2]; simp
    rw [e]
    exact ⟨.bl true, H, I, rfl, q⟩
noncomputable def rEqDI : R2 := fun x y H Q => ∃ a k v, x = .ref a ∧ y = .ref a ∧ H a = some (.dK [(k, v)]) ∧ Q (.bl true) H
theorem op_eqDI (hu : X.A.units < cLine) : OpR X (compareOp .Eq) rEqDI := by
  intro pins s σ H x y v u Q I rx ry h
  obtain ⟨a, k, z, rfl, rfl, ha, q⟩ := h
  cases rx
  cases ry
  obtain ⟨_, hsm, vs, kv, o, es, ep, h1, h2, h3, h4, h5, h6⟩ := (show ObjOk X.prog X.w H s.heap a (.dK [(k, z)]) from I.hok a _ ha)
  cases kv with
  | cons a1 a2 =>
    cases a2
    obtain ⟨l⟩ := es
    dsimp only at h5
    cases h5 with
    | @cons en _ _ _ p1 p2 p3 =>
      cases p3
      obtain ⟨k', b1, b2⟩ := h4 en (by simp)
      exact dict_self (e := en) h1 h2.1 h3 b1 b2 hsm hu ⟨.bl true, H, I, rfl, q⟩
noncomputable def rEqE (K : PySem.W.Frag) : R2 := fun x y H Q => rEqC K x y H Q ∨ rEqTI K x y H Q ∨ rEqDI x y H Q
theorem op_eqE {K : PySem.W.Frag} (hK : X.K = K) (hu : X.A.units + 64 < cLine) : OpR X (compareOp .Eq) (rEqE K) := by
  subst hK
  exact (op_eqC rfl hu).or ((op_eqTI (Nat.lt_of_le_of_lt (Nat.le_add_right _ _) hu)).or (op_eqDI (Nat.lt_of_le_of_lt (Nat.le_add_right _ _) hu)))
end
section
variable {H : Hp} {Q : VK} {K : PySem.W.Frag}
theorem r_chain {σ : St} {r r' : R2} {ta tb tc : TE} (h : ta σ H fun x H1 => tb σ H1 fun y H2 => r x y H2 fun z H3 => ∃ k, z = .bl k ∧ if k = true then tc σ H3 fun w H4 => r' y w H4 Q else Q (.bl false) H3) : tChain r r' ta tb tc σ H Q := h
theorem r_isA {x : V} (h : Q (.bl (decide (x = .non))) H) : rIsA x .non H Q := .inl ⟨rfl, h⟩
theorem r_isB {a b : Bool} (h : Q (.bl (a == b)) H) : rIsA (.bl a) (.bl b) H Q := .inr ⟨a, b, rfl, rfl, h⟩
theorem r_eqEI {i j : Int} (h : Q (.bl (decide (V.int i = V.int j))) H) : rEqE K (.int i) (.int j) H Q := .inl (r_eqCI h)
end
end L2

namespace L2
open PySem PySem.Spec PyProof.Rows PySem.SeqAt
theorem r_new {xs : List V} {H : Hp} {R : Addr → Prop} (c : Nat.ble xs.length 64 = true) (h : ∀ p, H p = none → R p) : xs.length ≤ sizeLine ∧ ∀ p, H p = none → R p :=
  ⟨Nat.le_trans (Nat.le_of_ble_eq_true c) (by decide), h⟩
theorem iteNT {A B : Prop} (h : A) : if (!false) = true then A else B := (if_pos (show (!false) = true from rfl)).mpr h
theorem iteNF {A B : Prop} (h : B) : if (!true) = true then A else B := by rw [if_neg (by simp)]; exact h
theorem r_cut {t u : TS} {D : Ends} {σ : St} {H : Hp} (M : St → Hp → Prop) (h1 : ∀ σ H, M σ H → u D σ H) (h2 : ∀ N, (∀ σ H, M σ H → N σ H) → t { D with nx := N } σ H) : tSeq t u D σ H := h2 _ h1
theorem atM1 {α : Type} {xs : List α} {n : Nat} {v : α} (h : xs.length = n + 1) (e : xs[n]? = some v) : atI xs (-1) = some v := by
  unfold atI ixN
  rw [h, if_neg (by omega), if_pos (by omega)]
  show xs[((-1 : Int) + ((n + 1 : Nat) : Int)).toNat]? = some v
  rw [show ((-1 : Int) + ((n + 1 : Nat) : Int)).toNat = n by omega]; exact e
end L2

namespace L2
open PySem PySem.Spec PyProof.Rows PySem.SeqAt
open AutoSeq1 (wpAny_loadPart')
section
variable {X : Cx}
end
section
variable {X : Cx}
end
section
variable {H : Hp} {Q : VK} {K : PySem.W.Frag} {σ : St} {D : Ends}
end
end L2

namespace L2
open PySem PySem.Spec PyProof.Rows
noncomputable def rMaxA : List V → Hp → VK → Prop := fun xs H Q => (∃ i j, xs = [.int i, .int j] ∧ Q (.int (if j > i then j else i)) H) ∨ ∃ (p : Addr) (ns : List Int), xs = [.ref p] ∧ H p = some (.lst (ns.map V.int)) ∧ ns ≠ [] ∧ ∀ M, M ∈ ns → (∀ a ∈ ns, a ≤ M) → Q (.int M) H
noncomputable def rSum : List V → Hp → VK → Prop := fun xs H Q => ∃ (p : Addr) (ns : List Int), xs = [.ref p] ∧ H p = some (.lst (ns.map V.int)) ∧ Q (.int ns.sum) H
noncomputable def rSorted : List V → Hp → VK → Prop := fun xs H Q => ∃ (p : Addr) (ns : List Int), xs = [.ref p] ∧ H p = some (.lst (ns.map V.int)) ∧ ns.length < 64 ∧ ∀ (q : Addr) (ms : List Int), H q = none → ms.Perm ns → ms.Pairwise (· ≤ ·) → Q (.ref q) (upd H q (.lst (ms.map V.int)))
section
variable {X : Cx}
theorem ints_vals : ∀ {us : List Value} {ns : List Int}, IntsAre us ns → Vals (ns.map V.int) us := by
  intro us
  induction us with
  | nil => intro ns h; cases h; exact .nil
  | cons u us ih =>
    intro ns h
    cases h with
    | cons a b => exact .cons ⟨_, rfl⟩ (ih (by assumption))
theorem call_maxA (hc : X.calm = true) : CallR X (.builtin "max") rMaxA := by
  intro pins s σ H xs us Q I r h
  rcases h with h | ⟨p, ns, rfl, hp, hne, q⟩
  · exact call_max2 hc pins s σ H xs us Q I r h
  · obtain ⟨u, rfl, ru⟩ := vals1 r
    cases ru
    obtain ⟨hz, its, n, rv, g⟩ := I.hok p _ hp
    have hi : IntsAre its ns := intsAre_of rv
    have hl := rv.length
    obtain ⟨ys, ey⟩ := hi.allInts.items
    have hn := hi.numsOf
    have hsz : 0 < ys.size := by
      have e1 := congrArg Array.size ey
      have : 0 < ns.length := List.length_pos_iff.mpr hne
      rw [List.length_map] at hl
      simp [intItems] at e1
      omega
    have hL : s.heap.IsList p (intItems ys) := ⟨_, g, rfl, n, by rw [← ey]⟩
    have en : ys.toList.map (·.1) = ns := by rw [← nums_intItems, ← ey, ← hn]
    refine max_intList (I.ok.hd hc) hL hsz fun v h' tk hv hk => ?_
    obtain ⟨t, rfl⟩ := intItems_at hv
    obtain ⟨h1, h2⟩ := argBest_gt (numAt ys) (ys.size - 1)
    refine ⟨.int _, H, I.kept hk, ⟨t, rfl⟩, q _ ?_ fun a ha => ?_⟩
    · rw [← en, numAt_eq]; exact getD_mem (by rw [List.length_map, Array.length_toList]; omega)
    · rw [← en] at ha
      obtain ⟨j, hj, rfl⟩ := mem_getD ha
      rw [List.length_map, Array.length_toList] at hj
      rw [← numAt_eq]; exact h2 j (by omega)
theorem call_sum1 (hc : X.calm = true) : CallR X (.builtin "sum") rSum := by
  intro pins s σ H xs us Q I r h
  obtain ⟨p, ns, rfl, hp, q⟩ := h
  obtain ⟨u, rfl, ru⟩ := vals1 r
  cases ru
  obtain ⟨hz, its, n, rv, g⟩ := I.hok p _ hp
  have hi : IntsAre its ns := intsAre_of rv
  obtain ⟨ys, ey⟩ := hi.allInts.items
  have hL : s.heap.IsList p (intItems ys) := ⟨_, g, rfl, n, by rw [← ey]⟩
  have en : ys.toList.map (·.1) = ns := by rw [← nums_intItems, ← ey, ← hi.numsOf]
  refine sum_intListG (I.ok.hd hc) hL fun h' tk t' hk => ⟨.int ns.sum, H, I.kept hk, ⟨t', ?_⟩, q⟩
  rw [preSum_eq, List.take_of_length_le (by simp), en]
theorem call_sorted1 : CallR X (.builtin "sorted") rSorted := by
  intro pins s σ H xs us Q I r h
  obtain ⟨p, ns, rfl, hp, h64, q⟩ := h
  obtain ⟨u, rfl, ru⟩ := vals1 r
  cases ru
  obtain ⟨hz, its, n, rv, g⟩ := I.hok p _ hp
  have hi : IntsAre its ns := intsAre_of rv
  have hl := rv.length
  rw [List.length_map] at hl
  refine sorted_ints (vs := its) ⟨_, g, rfl, n, rfl⟩ hi (by omega) fun out ms ho hperm hs => ?_
  obtain ⟨e, he⟩ := sortedAll_at s.heap its out
  have hm : ms.length = ns.length := hperm.length_eq
  rw [List.length_map] at hz
  refine ⟨.ref (s.heap.objs.size + 1), _, I.laid (t' := s.toks) (o := .lst (ms.map V.int)) (fun b ob q => sortedAll_old q) (Nat.le_succ _) ⟨by rw [List.length_map]; omega, out.toList, e, ints_vals ho, by simpa using he⟩, rfl, q _ ms (I.hok.fresh (Nat.le_succ _)) hperm hs⟩
theorem js_aug {i : Nat} {x : Str} {e : Expr} {te : TE} {op : Operator} {r : R2} {pos pos' : Pos} (hN : X.N.Nodup) (hi : X.N[i]? = some x) (hx : Loc X.env.scope x) (he : JE X e te) (ho : OpR X (inplaceOp op) r) (hf : X.fn x = true) :
    JS X (.AugAssign (.Name x pos') op e pos) (tAug i te r) := ⟨ps_aug hN hi hx he.run ho (.inl hf)⟩
end
section
variable {σ : St} {H : Hp} {Q : VK} {D : Ends}
theorem r_aug {i : Nat} {te : TE} {r : R2} {v : V} (e : σ[i]? = some (some v)) (h : te σ H fun y H1 => r v y H1 fun z H2 => D.nx (σ.set i (some z)) H2) : tAug i te r D σ H := ⟨v, e, h⟩
theorem r_maxL {p : Addr} {ns : List Int} (hp : H p = some (.lst (ns.map V.int))) (hn : ns ≠ []) (h : ∀ M, M ∈ ns → (∀ a ∈ ns, a ≤ M) → Q (.int M) H) : rMaxA [.ref p] H Q := .inr ⟨p, ns, rfl, hp, hn, h⟩
theorem r_sum {p : Addr} {ns : List Int} (hp : H p = some (.lst (ns.map V.int))) (h : Q (.int ns.sum) H) : rSum [.ref p] H Q := ⟨p, ns, rfl, hp, h⟩
theorem r_sorted {p : Addr} {ns : List Int} (hp : H p = some (.lst (ns.map V.int))) (hn : ns.length < 64) (h : ∀ (q : Addr) (ms : List Int), H q = none → ms.Perm ns → ms.Pairwise (· ≤ ·) → Q (.ref q) (upd H q (.lst (ms.map V.int)))) : rSorted [.ref p] H Q := ⟨p, ns, rfl, hp, hn, h⟩
end
end L2

namespace L2
open PySem PySem.Spec PyProof.Rows
section
variable {X : Cx}
end
section
variable {X : Cx}
end
section
variable {σ : St} {H : Hp} {Q : VK} {K : PySem.W.Frag}
end
end L2

namespace L2
open PySem PySem.Spec PyProof.Rows
section
variable {X : Cx}
end
end L2

namespace L2
open PySem PySem.Spec PyProof.Rows
open PySem.Sem (wp)
open PySem.AutoSeq1 (wpAny_loadPart')
section
variable {prog : Program} {w : World} {A : Around} {E : Value → Shared → Prop} {s : Shared}
end
end L2

namespace L2
open PySem PySem.Spec PyProof.Rows
section
variable {K : PySem.W.Frag} {σ : St} {H : Hp}
end
section
variable {X : Cx} {e : Expr} {te : TE} {lo hi : Option Expr} {st : Expr} {tl th ts : TO} {pos p2 : Pos}
end
end L2

namespace L2
open PySem PySem.Spec PyProof.Rows
end L2

namespace L2
open PySem PySem.Spec PyProof.Rows
open PySem.Sem (wp)
open PySem.AutoSeq1 (wpAny_loadPart')
section
variable {prog : Program} {w : World} {A : Around} {E : Value → Shared → Prop} {s : Shared}
end
end L2

namespace L2
open PySem PySem.Spec PyProof.Rows
section
variable {prog : Program} {w : World} {A : Around} {E : Value → Shared → Prop} {s : Shared}
end
end L2

namespace L2
open PySem PySem.Spec PyProof.Rows
section
variable {K : PySem.W.Frag} {σ : St} {H : Hp}
end
end L2

namespace L2
open PySem PySem.Spec PyProof.Rows
structure Sml (d : PyData) : Prop where
  sh : d.showable = true
  dp : d.depth ≤ 58
  lv : d.leavesShort 60 = true
  bk : d.bulk ≤ 10000
end L2

namespace L2
open PySem PySem.Spec PyProof.Rows
open PySem.Sem (wp)
section
variable {X : Cx} {pos : Pos} {σ : St} {H : Hp} {Q : VK} {K : PySem.W.Frag}
end
end L2

namespace L2
open PySem PySem.Spec PyProof.Rows
end L2

namespace L2
open PySem PySem.Spec PyProof.Rows
structure RoomU (k : Nat) (A : Around) : Prop where
  dp : A.depth + 3 * k + 5 < recursionLimit
  un : A.units + 16 * k + 200 < cLine
  gd : A.guards = some []
structure FnU (P : Program) (w : World) (K : PySem.W.Frag) (mg : Str → Option Value) (base : Heap) (k : Nat) (f : Addr) (fd : FuncData) (ps : List Str) (sp : Sp) : Prop where
  len : ∀ vs H Q E, sp vs H Q E → vs.length = ps.length
  run : ∀ (A : Around) (outer : List Env) (s : Shared) (H : Hp) (args : Args) (us : List Value) (vs : List V) (Q : VK) (E : XK), RoomU k A → Env0 P w K mg base A outer s H → BindsTo s fd args (ps.zip us) → Vals vs us → sp vs H Q E →
    codeAny (model P w) A (.call (.ref f) args) (CR CX0 outer P w H s Q E) s
end L2

namespace L2
open PySem PySem.Spec PyProof.Rows
section
variable {prog : Program} {w : World} {A : Around} {E : Value → Shared → Prop} {s : Shared} {K : PySem.W.Frag} {x C : Addr} {ox : Obj} {od : Option Obj}
end
section
variable {prog : Program} {w : World} {A : Around} {K : PySem.W.Frag} {D : Addr} {E : Value → Shared → Prop}
end
structure X0 (K : PySem.W.Frag) (mg : Str → Option Value) (x : Str) : Prop where
  c : CTxt K mg x
  ini : PySem.W.findIn K (.ref (clsA mg x)) "__init__" = some (some (.builtin "ValueError.__init__"))
  kp : PySem.W.keepIn K (.ref (clsA mg x)) = true
section
variable {X : Cx} {x : Str} {p pos : Pos} {e : Expr} {es : List Expr} {t : TA}
end
end L2

namespace L2
open PySem PySem.Spec PyProof.Rows
open PySem.Sem (wp)
structure ZApart (z TI TO i1 i2 : Addr) (fp1 fp2 : List Addr) : Prop where
  TIz : TI ≠ z
  TOz : TO ≠ z
  i1z : i1 ≠ z
  i2z : i2 ≠ z
  TITO : TI ≠ TO
  TIi1 : TI ≠ i1
  TIi2 : TI ≠ i2
  TOi1 : TO ≠ i1
  TOi2 : TO ≠ i2
  i12 : i1 ≠ i2
  f1 : ∀ b ∈ fp1, b ≠ z ∧ b ≠ TO ∧ b ≠ i2
  f2 : ∀ b ∈ fp2, b ≠ z ∧ b ≠ TO ∧ b ≠ i1
section
variable {prog : Program} {w : World} {A : Around} {E : Value → Shared → Prop} {s : Shared} {z TI TO i1 i2 : Addr} {fp1 fp2 : List Addr} {n1 n2 k1 k2 : Nat} {P1 P2 : Nat → Value → Prop} {St1 St2 : Nat → Heap → Prop} {a b : Value}
end
end L2

namespace L2
open PySem PySem.Spec PyProof.Rows
open PySem.Sem (wp)
section
variable {σ : St} {H : Hp} {K : PySem.W.Frag}
end
end L2

namespace L2
open PySem PySem.Spec PyProof.Rows
open PySem.Sem (wp)
open AutoSeq1 (wpAny_loadPart')
section
variable {X : Cx}
end
section
variable {H : Hp} {Q : VK} {K : PySem.W.Frag}
end
end L2

namespace L2
open PySem PySem.W PySem.Spec PyProof.Rows
noncomputable def Ask (N : Nat) (f : Nat → Nat → Bool) {α : Type} : KasT α → (α → Prop) → Prop
  | .ret a, Q => Q a
  | .ask i j k, Q => i < N ∧ j < N ∧ Ask N f (k (f i j)) Q
theorem Ask.bind {N : Nat} {f : Nat → Nat → Bool} {α β : Type} {Q : β → Prop} {h : α → KasT β} : ∀ (t : KasT α), Ask N f t (fun a => Ask N f (h a) Q) → Ask N f (t.bind h) Q
  | .ret _, z => z
  | .ask i j k, z => ⟨z.1, z.2.1, Ask.bind (k (f i j)) z.2.2⟩
theorem Ask.wp {N : Nat} {f : Nat → Nat → Bool} {α : Type} {cmp : Nat → Nat → (Bool → Shared → Prop) → Shared → Prop} {s : Shared} {Q : α → Shared → Prop}
    (hc : ∀ i j (C : Bool → Shared → Prop), i < N → j < N → C (f i j) s → cmp i j C s) : ∀ (t : KasT α), Ask N f t (fun a => Q a s) → t.kasWp cmp Q s
  | .ret _, z => z
  | .ask i j k, z => hc i j _ z.1 z.2.1 (Ask.wp hc (k (f i j)) z.2.2)
section
variable {g : Nat → Int} {N : Nat}
noncomputable def Kq (g : Nat → Int) (p : Array Nat) (i : Nat) : Int := g (p.getD i 0)
noncomputable def lq (g : Nat → Int) (i j : Nat) : Bool := decide (g i < g j)
noncomputable def Up (g : Nat → Int) (p : Array Nat) (n : Nat) : Prop := ∀ i j, i ≤ j → j < n → Kq g p i ≤ Kq g p j
noncomputable def Dn (g : Nat → Int) (p : Array Nat) (n : Nat) : Prop := ∀ i j, i ≤ j → j < n → Kq g p j ≤ Kq g p i
noncomputable def Pm (N : Nat) (p : Array Nat) : Prop := p.toList.Perm (List.range N)
theorem Pm.size {p : Array Nat} (h : Pm N p) : p.size = N := by
  have := h.length_eq
  simpa using this
theorem Pm.lt {p : Array Nat} (h : Pm N p) (h0 : 0 < N) (i : Nat) : p.getD i 0 < N := by
  by_cases hi : i < p.size
  · have e : p.getD i 0 = p[i] := by simp [Array.getD, hi]
    rw [e]
    exact List.mem_range.mp (h.mem_iff.mp (by simp))
  · have e : p.getD i 0 = 0 := by simp [Array.getD, hi]
    rw [e]; exact h0
theorem Kq_of {p q : Array Nat} {i j : Nat} (h : p[i]? = q[j]?) : Kq g p i = Kq g q j := by
  unfold Kq
  rw [Array.getD_eq_getD_getElem?, Array.getD_eq_getD_getElem?, h]
theorem Pm.rev {p : Array Nat} (h : Pm N p) (i j : Nat) : Pm N (kas_rev p i j) :=
  (Array.perm_iff_toList_perm.mp (mirror_perm p i j _)).trans h
theorem Pm.bub {p : Array Nat} (h : Pm N p) (i j : Nat) : Pm N (bubble p i j) :=
  (Array.perm_iff_toList_perm.mp (bubble_perm p i j)).trans h
theorem Kq_rev {p : Array Nat} {i j : Nat} (hj : j ≤ p.size) (k : Nat) : Kq g (kas_rev p i j) k = if i ≤ k ∧ k < j then Kq g p (i + j - 1 - k) else Kq g p k := by
  have e := getElem?_mirror_all (xs := p) (i := i) hj k
  by_cases h : i ≤ k ∧ k < j
  · rw [if_pos h] at e ⊢; exact Kq_of e
  · rw [if_neg h] at e ⊢; exact Kq_of e
theorem Up.more {p : Array Nat} {m : Nat} (h : Up g p m) (h1 : 1 ≤ m) (h2 : Kq g p (m - 1) ≤ Kq g p m) : Up g p (m + 1) := fun i j hij hj => by
  by_cases e : j = m
  · subst e
    by_cases e2 : i = j
    · rw [e2]; exact Int.le_refl _
    · exact Int.le_trans (h i (j - 1) (by omega) (by omega)) h2
  · exact h i j hij (by omega)
theorem Dn.more {p : Array Nat} {m : Nat} (h : Dn g p m) (h1 : 1 ≤ m) (h2 : Kq g p m ≤ Kq g p (m - 1)) : Dn g p (m + 1) := fun i j hij hj => by
  by_cases e : j = m
  · subst e
    by_cases e2 : i = j
    · rw [e2]; exact Int.le_refl _
    · exact Int.le_trans h2 (h i (j - 1) (by omega) (by omega))
  · exact h i j hij (by omega)
theorem ask_asc {p : Array Nat} {Q : Nat → Prop} (hB : ∀ i, p.getD i 0 < N) : ∀ (f m : Nat), 1 ≤ m → Up g p m → (∀ m', m ≤ m' → m' ≤ m + f → Up g p m' → (m' < m + f → Kq g p m' < Kq g p (m' - 1)) → Q m') → Ask N (lq g) (kas_asc p f m) Q
  | 0, m, _, hU, q => q m (Nat.le_refl _) (Nat.le_refl _) hU (fun h => absurd h (by omega))
  | f + 1, m, h1, hU, q => by
    refine ⟨hB _, hB _, ?_⟩
    by_cases hb : g (p.getD m 0) < g (p.getD (m - 1) 0)
    · have e : lq g (p.getD m 0) (p.getD (m - 1) 0) = true := decide_eq_true hb
      rw [e]
      show Ask _ _ (ite _ _ _) _
      rw [if_pos rfl]
      exact q m (Nat.le_refl _) (by omega) hU fun _ => hb
    · have e : lq g (p.getD m 0) (p.getD (m - 1) 0) = false := decide_eq_false hb
      rw [e]
      show Ask _ _ (ite _ _ _) _
      rw [if_neg (by decide)]
      refine ask_asc hB f (m + 1) (by omega) (hU.more h1 (show g _ ≤ g _ by omega)) fun m' a b c d => q m' (by omega) (by omega) c fun z => d (by omega)
theorem ask_desc {Q : Array Nat × Nat × Nat → Prop} (h0 : 0 < N) : ∀ (f : Nat) (p : Array Nat) (m k : Nat), Pm N p → m + f ≤ N → 1 ≤ m → k + 1 ≤ m → Dn g p m → (∀ i, m - (k + 1) ≤ i → i < m → Kq g p i = Kq g p (m - 1)) →
    (∀ p' m' k', Pm N p' → m ≤ m' → m' ≤ m + f → k' + 1 ≤ m' → Dn g p' m' → (∀ i, m' - (k' + 1) ≤ i → i < m' → Kq g p' i = Kq g p' (m' - 1)) → Q (p', m', k')) → Ask N (lq g) (kas_desc f p m k) Q
  | 0, p, m, k, hP, _, _, hk, hD, hE, q => q p m k hP (Nat.le_refl _) (Nat.le_refl _) hk hD hE
  | f + 1, p, m, k, hP, hm, h1, hk, hD, hE, q => by
    refine ⟨hP.lt h0 _, hP.lt h0 _, ?_⟩
    by_cases hb : g (p.getD m 0) < g (p.getD (m - 1) 0)
    · have e : lq g (p.getD m 0) (p.getD (m - 1) 0) = true := decide_eq_true hb
      rw [e]
      show Ask _ _ (ite _ _ _) _
      rw [if_pos rfl]
      have hb' : Kq g p m ≤ Kq g p (m - 1) := Int.le_of_lt hb
      by_cases hq : k > 0
      · rw [if_pos hq]
        have hs := hP.size
        have same : ∀ i, Kq g (kas_rev p (m - (k + 1)) m) i = Kq g p i := fun i => by
          rw [Kq_rev (by omega)]
          by_cases hi : m - (k + 1) ≤ i ∧ i < m
          · rw [if_pos hi, hE _ (by omega) (by omega), hE i hi.1 hi.2]
          · rw [if_neg hi]
        have hD' : Dn g (kas_rev p (m - (k + 1)) m) (m + 1) := fun i j hij hj => by
          rw [same, same]; exact hD.more h1 hb' i j hij hj
        refine ask_desc h0 f _ (m + 1) 0 (hP.rev _ _) (by omega) (by omega) (by omega) hD' (fun i h2 h3 => ?_) fun p' m' k' a b c d e1 e2 => q p' m' k' a (by omega) (by omega) d e1 e2
        have : i = m + 1 - 1 := by omega
        rw [this]
      · rw [if_neg hq]
        refine ask_desc h0 f _ (m + 1) 0 hP (by omega) (by omega) (by omega) (hD.more h1 hb') (fun i h2 h3 => ?_) fun p' m' k' a b c d e1 e2 => q p' m' k' a (by omega) (by omega) d e1 e2
        have : i = m + 1 - 1 := by omega
        rw [this]
    · have e : lq g (p.getD m 0) (p.getD (m - 1) 0) = false := decide_eq_false hb
      rw [e]
      show Ask _ _ (ite _ _ _) _
      rw [if_neg (by decide)]
      refine ⟨hP.lt h0 _, hP.lt h0 _, ?_⟩
      by_cases hc : g (p.getD (m - 1) 0) < g (p.getD m 0)
      · have e : lq g (p.getD (m - 1) 0) (p.getD m 0) = true := decide_eq_true hc
        rw [e]
        show Ask _ _ (ite _ _ _) _
        rw [if_pos rfl]
        exact q p m k hP (Nat.le_refl _) (by omega) hk hD hE
      · have e : lq g (p.getD (m - 1) 0) (p.getD m 0) = false := decide_eq_false hc
        rw [e]
        show Ask _ _ (ite _ _ _) _
        rw [if_neg (by decide)]
        have eq : Kq g p m = Kq g p (m - 1) := by unfold Kq; omega
        refine ask_desc h0 f _ (m + 1) (k + 1) hP (by omega) (by omega) (by omega) (hD.more h1 (by omega)) (fun i h2 h3 => ?_) fun p' m' k' a b c d e1 e2 => q p' m' k' a (by omega) (by omega) d e1 e2
        rw [Nat.add_sub_cancel]
        by_cases hi : i = m
        · rw [hi]
        · rw [eq]; exact hE i (by omega) (by omega)
theorem ask_tail {Q : Nat × Array Nat → Prop} {p : Array Nat} {n : Nat} (h0 : 0 < N) (hP : Pm N p) (h1 : 1 ≤ n) (hn : n ≤ N) (hD : Dn g p n)
    (q : ∀ m p', Pm N p' → 1 ≤ m → m ≤ N → Up g p' m → Q (m, p')) : Ask N (lq g) (kas_tail3 n N p) Q := by
  unfold kas_tail3
  refine Ask.bind _ ?_
  have hs := hP.size
  have hU : Up g (kas_rev p 0 n) n := fun i j hij hj => by
    rw [Kq_rev (by omega), Kq_rev (by omega), if_pos ⟨by omega, by omega⟩, if_pos ⟨by omega, hj⟩]
    exact hD _ _ (by omega) (by omega)
  exact ask_asc (fun i => (hP.rev 0 n).lt h0 i) (N - n) n h1 hU fun m a b c _ => q m _ (hP.rev 0 n) (by omega) (by omega) c
theorem ask_descP {Q : Nat × Array Nat → Prop} {p : Array Nat} {n : Nat} (h0 : 0 < N) (hP : Pm N p) (hn : n + 1 ≤ N) (hD : Dn g p (n + 1))
    (q : ∀ m p', Pm N p' → 1 ≤ m → m ≤ N → Up g p' m → Q (m, p')) : Ask N (lq g) (kas_descPart n N p) Q := by
  unfold kas_descPart
  refine Ask.bind _ (ask_desc h0 _ p (n + 1) 0 hP (by omega) (by omega) (by omega) hD (fun i a b => by rw [show i = n + 1 - 1 by omega]) fun p' m' k' a b c d e1 e2 => ?_)
  dsimp only
  by_cases hk : k' > 0
  · rw [if_pos hk]
    have hs := a.size
    have same : ∀ i, Kq g (kas_rev p' (m' - (k' + 1)) m') i = Kq g p' i := fun i => by
      rw [Kq_rev (by omega)]
      by_cases hi : m' - (k' + 1) ≤ i ∧ i < m'
      · rw [if_pos hi, e2 _ (by omega) (by omega), e2 i hi.1 hi.2]
      · rw [if_neg hi]
    exact ask_tail h0 (a.rev _ _) (by omega) (by omega) (fun i j hij hj => by rw [same, same]; exact e1 i j hij hj) q
  · rw [if_neg hk]
    exact ask_tail h0 a (by omega) (by omega) e1 q
theorem ask_count {Q : Nat × Array Nat → Prop} {p : Array Nat} (h0 : 0 < N) (hP : Pm N p) (q : ∀ m p', Pm N p' → 1 ≤ m → m ≤ N → Up g p' m → Q (m, p')) : Ask N (lq g) (kas_count N p) Q := by
  unfold kas_count
  refine Ask.bind _ (ask_asc (fun i => hP.lt h0 i) (N - 1) 1 (Nat.le_refl _) (fun i j a b => by rw [show i = j by omega]; exact Int.le_refl _) fun n a b c d => ?_)
  have hs := hP.size
  by_cases hn : n = N
  · rw [if_pos (by rw [hn]; exact beq_self_eq_true N)]
    exact q n p hP a (by omega) c
  · rw [if_neg (by simpa using hn)]
    have hlt := d (by omega)
    by_cases h1 : n > 1
    · rw [if_pos h1]
      refine ⟨hP.lt h0 _, hP.lt h0 _, ?_⟩
      by_cases hb : g (p.getD 0 0) < g (p.getD (n - 1) 0)
      · have e : lq g (p.getD 0 0) (p.getD (n - 1) 0) = true := decide_eq_true hb
        rw [e]
        show Ask _ _ (ite _ _ _) _
        rw [if_pos rfl]
        exact q n p hP a (by omega) c
      · have e : lq g (p.getD 0 0) (p.getD (n - 1) 0) = false := decide_eq_false hb
        rw [e]
        show Ask _ _ (ite _ _ _) _
        rw [if_neg (by decide)]
        have all : ∀ i, i < n → Kq g p i = Kq g p (n - 1) := fun i hi => by
          have x1 := c 0 i (by omega) hi
          have x2 := c i (n - 1) (by omega) (by omega)
          have x3 : ¬ Kq g p 0 < Kq g p (n - 1) := hb
          omega
        have same : ∀ i, Kq g (kas_rev p 0 n) i = Kq g p i := fun i => by
          rw [Kq_rev (by omega)]
          by_cases hi : 0 ≤ i ∧ i < n
          · rw [if_pos hi, all _ (by omega), all i hi.2]
          · rw [if_neg hi]
        refine ask_descP h0 (hP.rev 0 n) (by omega) (fun i j hij hj => ?_) q
        rw [same, same]
        by_cases e : j = n
        · by_cases e2 : i = n
          · rw [e, e2]; exact Int.le_refl _
          · rw [e, all i (by omega)]; exact Int.le_of_lt hlt
        · rw [all i (by omega), all j (by omega)]; exact Int.le_refl _
    · rw [if_neg h1]
      have h2 : n = 1 := by omega
      subst h2
      refine ask_descP h0 hP (by omega) (fun i j hij hj => ?_) q
      by_cases e : i = j
      · rw [e]; exact Int.le_refl _
      · rw [show i = 0 by omega, show j = 1 by omega]; exact Int.le_of_lt hlt
theorem ask_place {Q : Nat → Prop} {p : Array Nat} {k : Nat} (hB : ∀ i, p.getD i 0 < N) (hU : Up g p k) (q : ∀ l, l ≤ k → (∀ i, i < l → Kq g p i ≤ Kq g p k) → (∀ i, l ≤ i → i < k → Kq g p k < Kq g p i) → Q l) :
    ∀ (f l r : Nat), l ≤ r → r ≤ k → r - l ≤ f → (∀ i, i < l → Kq g p i ≤ Kq g p k) → (∀ i, r ≤ i → i < k → Kq g p k < Kq g p i) → Ask N (lq g) (kas_place p k f l r) Q
  | 0, l, r, h1, h2, h3, a, b => q l (by omega) a fun i x y => b i (by omega) y
  | f + 1, l, r, h1, h2, h3, a, b => by
    unfold kas_place
    by_cases hlr : l ≥ r
    · rw [if_pos hlr]
      exact q l (by omega) a fun i x y => b i (by omega) y
    · rw [if_neg hlr]
      refine ⟨hB _, hB _, ?_⟩
      by_cases hb : g (p.getD k 0) < g (p.getD ((l + r) / 2) 0)
      · have e : lq g (p.getD k 0) (p.getD ((l + r) / 2) 0) = true := decide_eq_true hb
        rw [e]
        show Ask _ _ (ite _ _ _) _
        rw [if_pos rfl]
        refine ask_place hB hU q f l ((l + r) / 2) (by omega) (by omega) (by omega) a fun i x y => ?_
        exact Int.lt_of_lt_of_le hb (hU _ _ x y)
      · have e : lq g (p.getD k 0) (p.getD ((l + r) / 2) 0) = false := decide_eq_false hb
        rw [e]
        show Ask _ _ (ite _ _ _) _
        rw [if_neg (by decide)]
        refine ask_place hB hU q f ((l + r) / 2 + 1) r (by omega) (by omega) (by omega) (fun i x => ?_) b
        have x1 := hU i ((l + r) / 2) (by omega) (by omega)
        have x2 : ¬ Kq g p k < Kq g p ((l + r) / 2) := hb
        omega
theorem ask_bin {Q : Array Nat → Prop} (h0 : 0 < N) (q : ∀ p', Pm N p' → Up g p' N → Q p') : ∀ (f : Nat) (p : Array Nat) (k : Nat), Pm N p → k + f = N → Up g p k → Ask N (lq g) (kas_bin f p k) Q
  | 0, p, k, hP, hk, hU => q p hP (by rw [show N = k by omega]; exact hU)
  | f + 1, p, k, hP, hk, hU => by
    unfold kas_bin
    refine Ask.bind _ (ask_place (fun i => hP.lt h0 i) hU (fun l h1 h2 h3 => ?_) k 0 k (by omega) (by omega) (by omega) (fun i hi => absurd hi (by omega)) fun i x y => absurd y (by omega))
    have hs := hP.size
    have hK : ∀ i, Kq g (bubble p k (k - l)) i = if i = l then Kq g p k else if l < i ∧ i ≤ k then Kq g p (i - 1) else Kq g p i := fun i => by
      have e := getElem?_bubble (xs := p) (src := k) (by omega) (k - l) (by omega) i
      have el : k - (k - l) = l := by omega
      rw [el] at e
      by_cases c1 : i = l
      · rw [if_pos c1] at e ⊢; exact Kq_of e
      · rw [if_neg c1] at e ⊢
        by_cases c2 : l < i ∧ i ≤ k
        · rw [if_pos c2] at e ⊢; exact Kq_of e
        · rw [if_neg c2] at e ⊢; exact Kq_of e
    refine ask_bin h0 q f _ (k + 1) (hP.bub _ _) (by omega) fun i j hij hj => ?_
    rw [hK, hK]
    by_cases c1 : i = l
    · rw [if_pos c1]
      by_cases d1 : j = l
      · rw [if_pos d1]; exact Int.le_refl _
      · rw [if_neg d1, if_pos ⟨by omega, by omega⟩]
        exact Int.le_of_lt (h3 _ (by omega) (by omega))
    · rw [if_neg c1]
      by_cases c2 : l < i ∧ i ≤ k
      · rw [if_pos c2, if_neg (by omega), if_pos ⟨by omega, by omega⟩]
        exact hU _ _ (by omega) (by omega)
      · rw [if_neg c2]
        by_cases d1 : j = l
        · rw [if_pos d1]; exact h2 i (by omega)
        · rw [if_neg d1]
          by_cases d2 : l < j ∧ j ≤ k
          · rw [if_pos d2]; exact hU _ _ (by omega) (by omega)
          · rw [if_neg d2]; exact hU _ _ hij (by omega)
theorem ask_sort {Q : Array Nat → Prop} (h0 : 0 < N) (q : ∀ p', Pm N p' → Up g p' N → Q p') : Ask N (lq g) (kas_sort N) Q := by
  unfold kas_sort
  refine Ask.bind _ (ask_count h0 (List.Perm.refl _) fun m p' hP h1 h2 hU => ?_)
  dsimp only
  by_cases hm : m < N
  · rw [if_pos hm, show max m 1 = m by omega]
    exact ask_bin h0 q (N - m) p' m hP (by omega) hU
  · rw [if_neg hm]
    exact q p' hP (by rw [show N = m by omega]; exact hU)
end
end L2

namespace L2
open PySem PySem.W PySem.Spec PyProof.Rows
section
variable {prog : Program} {w : World} {A : Around} {E : Value → Shared → Prop} {s : Shared}
noncomputable def But (a : Addr) (h h' : Heap) : Prop := ∀ b o, b ≠ a → h.get? b = some o → h'.get? b = some o
theorem but_three {h : Heap} {a : Addr} {f : Obj → Obj} {x y : Obj} : But a h (((h.update a f).push x).push y) := fun b o nb e => by
  have e1 : (h.update a f).get? b = some o := by rw [Heap.get?_update_ne _ _ _ _ nb]; exact e
  exact Heap.get?_push_of_some _ (Heap.get?_push_of_some _ e1)
theorem zip_snd (vs : List Value) : (vs.toArray.zip vs.toArray).map (·.2) = vs.toArray := by
  apply Array.toList_inj.mp
  simp only [Array.toList_map, Array.toList_zip]
  exact List.map_snd_zip (Nat.le_refl _)
theorem self_getD (vs : List Value) : (List.range vs.length).map (fun i => vs.getD i .none) = vs := by
  refine List.ext_getElem (by simp) fun i h1 h2 => ?_
  simp [h2]
theorem tup_sort {a : Addr} {vs : List Value} {n : Nat} {κ : SortKind} {g : Nat → Int} {P : PySem.Fin → Shared → Prop}
    (ho : s.heap.get? a = some (seqObj "list" vs.toArray n)) (few : vs.length < 64)
    (hK : 2 ≤ vs.length → ∀ (s' : Shared) (R : SortKind → Shared → Prop), But a s.heap s'.heap → R κ s' → wpAny (model prog w) A (keyKind' vs.toArray) R E s')
    (hC : ∀ (s' : Shared) (i j : Nat) (R : Bool → Shared → Prop), But a s.heap s'.heap → i < vs.length → j < vs.length → R (lq g i j) s' → wpAny (model prog w) A (keyLt' κ (vs.getD i .none) (vs.getD j .none)) R (fun _ _ => False) s')
    (h : ∀ p : Array Nat, Pm vs.length p → Up g p vs.length → P (.done (.ret .none)) { s with heap := sortedHeap s.heap a vs (p.toList.map fun i => vs.getD i .none).toArray }) :
    wpAny (model prog w) A (Builtin.«list.sort» ⟨[.ref a], []⟩) P E s := by
  rw [list_sort_plain]
  have la : a < s.heap.objs.size := Heap.lt_size ho
  refine wpAny_bind (listItems_at ho rfl (wpAny_bind (listUpdate_at ho rfl ?_)))
  obtain ⟨k, hk⟩ : ∃ k, (s.heap.update a (Obj.mapSeq fun _ => #[])).get? a = some (seqObj "list" #[] k) := ⟨_, get?_update_seq ho (fun _ => #[])⟩
  refine wpAny_bind (seqEpoch_at hk rfl (wpAny_bind (wpAny_newTuple (wpAny_bind (wpAny_newList (wpAny_holding ?_))))))
  have hk2 : (((s.heap.update a (Obj.mapSeq fun _ => #[])).push (seqObj "tuple" vs.toArray 0)).push (seqObj "list" #[] 0)).get? a = some (seqObj "list" #[] k) :=
    Heap.get?_push_of_some _ (Heap.get?_push_of_some _ hk)
  have bt := but_three (h := s.heap) (a := a) (f := Obj.mapSeq fun _ => #[]) (x := seqObj "tuple" vs.toArray 0) (y := seqObj "list" #[] 0)
  show wpAny (model prog w) A _ P E { s with heap := (((s.heap.update a (Obj.mapSeq fun _ => #[])).push (seqObj "tuple" vs.toArray 0)).push (seqObj "list" #[] 0)) }
  dsimp only
  have sz : vs.toArray.size = vs.length := by simp
  have hs : 64 ≤ sizeLine := by decide
  by_cases h2 : vs.toArray.size < 2
  · rw [if_pos h2, if_pos h2]
    refine wpAny_bind (wpAny_pure ?_)
    rw [StateT.run_pure]
    refine wpAny_bind (wpAny_pure ?_)
    dsimp only
    have ez : (arrOf (SortSt.mk' general' (vs.toArray.zip vs.toArray) #[] 7 none)).map (·.2) = vs.toArray := zip_snd vs
    rw [ez]
    refine wpAny_bind (seqEpoch_at hk2 rfl (wpAny_bind (listUpdate_at hk2 rfl ?_ (hsz2 := by rw [sz]; omega))))
    simp only [bne_self_eq_false, Bool.false_eq_true, if_false]
    have := h (List.range vs.length).toArray (List.Perm.refl _) (fun i j x y => by rw [show i = j by omega]; exact Int.le_refl _)
    rw [show (List.range vs.length).toArray.toList.map (fun i => vs.getD i .none) = vs from self_getD vs] at this
    exact wpAny_pure this
  · rw [if_neg h2, if_neg h2]
    refine wpAny_bind (hK (by omega) _ _ bt ?_)
    refine wpAny_bind (wpAny_mono (kat_run (ks := vs) (vs := vs) (κ := κ) (E := E) (G := fun p s' => s' = { s with heap := ((s.heap.update a (Obj.mapSeq fun _ => #[])).push (seqObj "tuple" vs.toArray 0)).push (seqObj "list" #[] 0) } ∧ Pm vs.length p ∧ Up g p vs.length)
      (Q := fun st' s' => s' = { s with heap := ((s.heap.update a (Obj.mapSeq fun _ => #[])).push (seqObj "tuple" vs.toArray 0)).push (seqObj "list" #[] 0) } ∧ failedOf st' = none ∧ ∃ p, Pm vs.length p ∧ Up g p vs.length ∧ (arrOf st').map (·.2) = (p.toList.map fun i => vs.getD i .none).toArray) rfl (by omega) few
      (fun p st' s' hz har hf hg => ⟨hg.1, hf, p, hg.2.1, hg.2.2, kat_snds rfl har⟩) (Ask.wp (N := vs.length) (f := lq g) (fun i j C hi hj c => hC _ i j C bt hi hj c) _ (ask_sort (by omega) fun p' hP hU => ⟨rfl, hP, hU⟩))) ?_ fun _ _ e => e)
    rintro ⟨⟨⟩, st'⟩ s' ⟨rfl, hf, p, hP, hU, har⟩
    dsimp only
    dsimp only at har
    rw [har]
    have lp : p.size = vs.length := hP.size
    refine wpAny_bind (seqEpoch_at hk2 rfl (wpAny_bind (listUpdate_at hk2 rfl ?_ (hsz2 := by simp; omega))))
    rw [hf]
    simp only [bne_self_eq_false, Bool.false_eq_true, if_false]
    exact wpAny_pure (h p hP hU)
end
end L2

namespace L2
open PySem PySem.W PySem.Spec PyProof.Rows
theorem lx_irr : ∀ a : List Int, HT.lexLt a a = false
  | [] => rfl
  | x :: xs => by rw [HT.lexLt_cons, if_pos rfl]; exact lx_irr xs
theorem lx_trans : ∀ {a b c : List Int}, HT.lexLt a b = true → HT.lexLt b c = true → HT.lexLt a c = true
  | [], [], _, h, _ => by cases h
  | [], _ :: _, [], _, h => by cases h
  | [], _ :: _, _ :: _, _, _ => rfl
  | _ :: _, [], _, h, _ => by cases h
  | _ :: _, _ :: _, [], _, h => by cases h
  | x :: xs, y :: ys, z :: zs, h1, h2 => by
    rw [HT.lexLt_cons] at h1 h2 ⊢
    by_cases e1 : x = y
    · rw [if_pos e1] at h1
      by_cases e2 : y = z
      · rw [if_pos e2] at h2
        rw [if_pos (by omega)]; exact lx_trans h1 h2
      · rw [if_neg e2] at h2
        rw [if_neg (by omega), e1]; exact h2
    · rw [if_neg e1] at h1
      have h1' := of_decide_eq_true h1
      by_cases e2 : y = z
      · rw [if_neg (by omega)]; exact decide_eq_true (by omega)
      · rw [if_neg e2] at h2
        have h2' := of_decide_eq_true h2
        rw [if_neg (by omega)]; exact decide_eq_true (by omega)
theorem lx_total : ∀ {a b : List Int}, HT.lexLt a b = false → HT.lexLt b a = false → a = b
  | [], [], _, _ => rfl
  | [], _ :: _, h, _ => by cases h
  | _ :: _, [], _, h => by cases h
  | x :: xs, y :: ys, h1, h2 => by
    rw [HT.lexLt_cons] at h1 h2
    by_cases e : x = y
    · rw [if_pos e] at h1
      rw [if_pos e.symm] at h2
      rw [e, lx_total h1 h2]
    · rw [if_neg e] at h1
      rw [if_neg (fun z => e z.symm)] at h2
      have h1' := of_decide_eq_false h1
      have h2' := of_decide_eq_false h2
      omega
noncomputable def rk (ts : List (List Int)) (i : Nat) : Int := ((ts.countP fun u => HT.lexLt u (ts.getD i [])) : Nat)
theorem rk_lt {ts : List (List Int)} {i j : Nat} (hi : i < ts.length) : lq (rk ts) i j = HT.lexLt (ts.getD i []) (ts.getD j []) := by
  unfold lq rk
  have mi : ts.getD i [] ∈ ts := by rw [List.getD_eq_getElem?_getD, List.getElem?_eq_getElem hi]; exact List.getElem_mem hi
  cases h : HT.lexLt (ts.getD i []) (ts.getD j []) with
  | true =>
    refine decide_eq_true ?_
    have key : ∀ l : List (List Int), ts.getD i [] ∈ l → l.countP (fun u => HT.lexLt u (ts.getD i [])) < l.countP (fun u => HT.lexLt u (ts.getD j [])) := by
      intro l
      induction l with
      | nil => intro h; cases h
      | cons u l ih =>
        intro hm
        rw [List.countP_cons, List.countP_cons]
        have le : l.countP (fun u => HT.lexLt u (ts.getD i [])) ≤ l.countP (fun u => HT.lexLt u (ts.getD j [])) := List.countP_mono_left fun x _ hx => lx_trans hx h
        by_cases e : u = ts.getD i []
        · rw [e, lx_irr, h, if_neg (by decide), if_pos rfl]
          omega
        · have hm' : ts.getD i [] ∈ l := (List.mem_cons.mp hm).resolve_left fun z => e z.symm
          have := ih hm'
          by_cases c : HT.lexLt u (ts.getD i []) = true
          · rw [if_pos c, if_pos (lx_trans c h)]; omega
          · rw [if_neg c]; split <;> omega
    have := key ts mi
    omega
  | false =>
    refine decide_eq_false ?_
    have le : ts.countP (fun u => HT.lexLt u (ts.getD j [])) ≤ ts.countP (fun u => HT.lexLt u (ts.getD i [])) := List.countP_mono_left fun x _ hx => by
      cases c : HT.lexLt (ts.getD j []) (ts.getD i []) with
      | true => exact lx_trans hx c
      | false => rw [lx_total h c]; exact hx
    omega
section
variable {prog : Program} {w : World} {A : Around} {E : Value → Shared → Prop} {s : Shared}
theorem kl_int {b fin : Bool} {Q : Bool → Shared → Prop} : ∀ (n : Nat) {vs us : List Value} {ns ms : List Int}, IntsAre vs ns → IntsAre us ms → fin = decide (ns.length < ms.length) → Q (HT.lexLt ns ms) s → KatLex prog w A b fin Q (vs.zip us) n s := by
  intro n vs us ns ms h1
  induction h1 generalizing n us ms with
  | nil =>
    intro h2 hf q
    cases h2 with
    | nil => rw [hf]; exact q
    | cons y t h2 => rw [hf]; exact q
  | cons x t h1 ih =>
    intro h2 hf q
    cases h2 with
    | nil => rw [hf]; exact q
    | cons y u h2 =>
      rw [List.zip_cons_cons]
      refine kat_cons (wpAny_eqBool_int ?_)
      rw [HT.lexLt_cons] at q
      by_cases e : x = y
      · rw [if_pos e] at q
        rw [show (x == y) = true by rw [e]; exact beq_self_eq_true y]
        refine kat_yes (ih (n + 1) h2 ?_ q)
        rw [hf]
        simp
      · rw [if_neg e] at q
        rw [show (x == y) = false by simpa using e]
        refine kat_no ?_
        cases hb : (b && n == 0) with
        | true => exact oneLt_int q
        | false => exact kat_one _ _ (lt_int q)
theorem tl_lt {Q : Bool → Shared → Prop} {x y : Addr} {vs us : List Value} {ns ms : List Int} (hx : IsTup s.heap x vs.toArray) (hy : IsTup s.heap y us.toArray) (h1 : IntsAre vs ns) (h2 : IntsAre us ms) (q : Q (HT.lexLt ns ms) s) :
    wpAny (model prog w) A (keyLt' (tuples' true) (.ref x) (.ref y)) Q E s := by
  obtain ⟨ox, gx, _, n1, dx⟩ := hx
  obtain ⟨oy, gy, _, n2, dy⟩ := hy
  refine kat_lt gx dx gy dy (kl_int 0 h1 h2 ?_ q)
  have l1 := h1.length
  have l2 := h2.length
  simp [l1, l2]
noncomputable def Tps (H : Hp) (vs : List V) (ts : List (List Int)) : Prop := vs.length = ts.length ∧ ∀ i, i < vs.length → ∃ a, vs[i]? = some (.ref a) ∧ H a = some (.tup ((ts.getD i []).map V.int)) ∧ ts.getD i [] ≠ []
noncomputable def rSortT : List V → Hp → VK → Prop := fun xs H Q => ∃ (p : Addr) (vs : List V) (ts : List (List Int)), xs = [.ref p] ∧ H p = some (.lst vs) ∧ vs.length < 64 ∧ Tps H vs ts ∧
  ∀ (q : Addr) (ix : List Nat), H q = none → ix.Perm (List.range vs.length) → (ix.map fun i => ts.getD i []).Pairwise (fun a b => HT.lexLt b a = false) → Q (.ref q) (upd H q (.lst (ix.map fun i => vs.getD i .non)))
theorem kind_tups {vs : List Value} {ts : List (List Int)} {Q : SortKind → Shared → Prop} (h2 : 2 ≤ vs.length) (h : ∀ i, i < vs.length → ∃ a its, vs[i]? = some (.ref a) ∧ IsTup s.heap a its.toArray ∧ IntsAre its (ts.getD i []) ∧ ts.getD i [] ≠ []) (q : Q (tuples' true) s) :
    wpAny (model prog w) A (keyKind' vs.toArray) Q E s := by
  have key : ∀ (l : List Value), (∀ v ∈ l, ∃ a its ns, v = .ref a ∧ IsTup s.heap a its.toArray ∧ IntsAre its ns ∧ ns ≠ []) → ∃ fs : List Value, fs.length = l.length ∧ KatTups s.heap l fs ∧ ∀ v ∈ fs, ∃ n t, v = Value.int n t := by
    intro l
    induction l with
    | nil => exact fun _ => ⟨[], rfl, KatTups.nil, fun v hv => by cases hv⟩
    | cons v l ih =>
      intro hl
      obtain ⟨fs, lf, kf, inf⟩ := ih fun u hu => hl u (List.mem_cons_of_mem _ hu)
      obtain ⟨a, its, ns, rfl, ⟨o, go, co, n, dn⟩, hI, hne⟩ := hl v List.mem_cons_self
      cases hI with
      | nil => exact absurd rfl hne
      | cons x t hI =>
        refine ⟨.int x t :: fs, by simp [lf], KatTups.cons go co dn (by simp) kf, fun v hv => ?_⟩
        rcases List.mem_cons.mp hv with rfl | hv
        · exact ⟨x, t, rfl⟩
        · exact inf v hv
  obtain ⟨fs, lf, kf, inf⟩ := key vs fun v hv => by
    obtain ⟨i, hi, rfl⟩ := List.mem_iff_getElem.mp hv
    obtain ⟨a, its, e, it, ia, ne⟩ := h i hi
    rw [List.getElem?_eq_getElem hi] at e
    exact ⟨a, its, _, Option.some.inj e, it, ia, ne⟩
  refine kat_kind (T := .type "int") kf (by omega) (fun v hv => ?_) rfl q
  obtain ⟨n, t, rfl⟩ := inf v hv
  exact Looks.of_pure rfl
theorem sorted_tups {l : Addr} {vs : List Value} {ts : List (List Int)} {Q : Value → Shared → Prop} (hl : s.heap.IsList l vs.toArray) (few : vs.length < 64) (lt : vs.length = ts.length)
    (h : ∀ i, i < vs.length → ∃ a its, vs[i]? = some (.ref a) ∧ IsTup s.heap a its.toArray ∧ IntsAre its (ts.getD i []) ∧ ts.getD i [] ≠ [])
    (q : ∀ p : Array Nat, Pm vs.length p → Up (rk ts) p vs.length → Q (.ref (s.heap.objs.size + 1)) { s with heap := sortedAll s.heap vs (p.toList.map fun i => vs.getD i .none).toArray }) :
    wpAny (model prog w) A (call (.builtin "sorted") [.ref l]) Q E s := by
  refine Calls.call_function_entry kind_sorted plain_sorted entry_sorted (args_sorted1 _) ?_
  unfold Builtin.«sorted»
  have hs : 64 ≤ sizeLine := by decide
  refine wpAny_bind (m := checkCount "sorted" 1 1 _) (wpAny_pure (wpAny_bind (collect_list hl ?_ (hsz := by omega))))
  refine wpAny_bind (wpAny_newList ?_)
  have z1 : ((s.heap.push (seqObj "list" #[] 0)).update s.heap.objs.size (Obj.mapSeq (· ++ vs.toArray))).objs.size = s.heap.objs.size + 1 := by rw [Heap.size_update, size_push']
  have old : ∀ b o, s.heap.get? b = some o → (((s.heap.push (seqObj "list" #[] 0)).update s.heap.objs.size (Obj.mapSeq (· ++ vs.toArray))).push (seqObj "list" vs.toArray 0)).get? b = some o := fun b o e => by
    have lb := Heap.lt_size e
    refine Heap.get?_push_of_some _ ?_
    rw [Heap.get?_update_ne _ _ _ _ (Nat.ne_of_lt lb)]
    exact Heap.get?_push_of_some _ e
  have hoL : (((s.heap.push (seqObj "list" #[] 0)).update s.heap.objs.size (Obj.mapSeq (· ++ vs.toArray))).push (seqObj "list" vs.toArray 0)).get? (s.heap.objs.size + 1) = some (seqObj "list" vs.toArray 0) :=
    z1 ▸ Heap.get?_push_size _ rfl
  show wpAny _ _ _ _ _ { s with heap := (((s.heap.push (seqObj "list" #[] 0)).update s.heap.objs.size (Obj.mapSeq (· ++ vs.toArray))).push (seqObj "list" vs.toArray 0)) }
  rw [z1]
  have tup : ∀ {s' : Shared}, But (s.heap.objs.size + 1) (((s.heap.push (seqObj "list" #[] 0)).update s.heap.objs.size (Obj.mapSeq (· ++ vs.toArray))).push (seqObj "list" vs.toArray 0)) s'.heap →
      ∀ i, i < vs.length → ∃ a its, vs[i]? = some (.ref a) ∧ IsTup s'.heap a its.toArray ∧ IntsAre its (ts.getD i []) ∧ ts.getD i [] ≠ [] := fun {s'} bt i hi => by
    obtain ⟨a, its, e, ⟨o, go, r⟩, ia, ne⟩ := h i hi
    have lb := Heap.lt_size go
    exact ⟨a, its, e, ⟨o, bt a o (Nat.ne_of_lt (Nat.lt_succ_of_lt lb)) (old a o go), r⟩, ia, ne⟩
  refine wpAny_bind (wpAny_holding (wpAny_call_entry slot_list_sort ⟨_, hoL, rfl⟩ entry_list_sort (tup_sort (κ := tuples' true) (g := rk ts) hoL few (fun h2 s' R bt r => kind_tups h2 (tup bt) r) (fun s' i j R bt hi hj r => ?_) fun p hP hU => ⟨_, rfl, ?_⟩) (args_list_sort _)))
  · obtain ⟨a, its, e, it, ia, ne⟩ := tup bt i hi
    obtain ⟨a2, its2, e2, it2, ia2, ne2⟩ := tup bt j hj
    rw [List.getD_eq_getElem?_getD, List.getD_eq_getElem?_getD, e, e2]
    rw [rk_lt (by omega)] at r
    exact tl_lt it it2 ia ia2 r
  · exact wpAny_pure ⟨_, rfl, q p hP hU⟩
end
section
variable {X : Cx}
theorem vals_pick {vs : List V} {its : List Value} (r : Vals vs its) : ∀ ix : List Nat, (∀ i ∈ ix, i < vs.length) → Vals (ix.map fun i => vs.getD i .non) (ix.map fun i => its.getD i .none)
  | [], _ => .nil
  | i :: ix, h => by
    have hi := h i List.mem_cons_self
    obtain ⟨u, eu, ru⟩ := r.get (List.getElem?_eq_getElem hi)
    refine .cons ?_ (vals_pick r ix fun k hk => h k (List.mem_cons_of_mem _ hk))
    show RelV (vs.getD i .non) (its.getD i .none)
    rw [List.getD_eq_getElem?_getD, List.getD_eq_getElem?_getD, eu, List.getElem?_eq_getElem hi]
    exact ru
theorem call_sortedT : CallR X (.builtin "sorted") rSortT := by
  intro pins s σ H xs us Q I r h
  obtain ⟨p, vs, ts, rfl, hp, few, ⟨lt, ht⟩, q⟩ := h
  obtain ⟨u, rfl, ru⟩ := vals1 r
  cases ru
  obtain ⟨hz, its, n, rv, g⟩ := I.hok p _ hp
  have hl := rv.length
  refine sorted_tups (vs := its) (ts := ts) ⟨_, g, rfl, n, rfl⟩ (by omega) (by omega) (fun i hi => ?_) fun pm hP hU => ?_
  · obtain ⟨a, e, ha, ne⟩ := ht i (by omega)
    obtain ⟨v, ev, rv'⟩ := rv.get e
    cases rv'
    obtain ⟨_, it, rt, tt⟩ := I.hok a _ ha
    exact ⟨a, it, ev, tt, intsAre_of rt, ne⟩
  · rw [← hl] at hP hU
    obtain ⟨e, he⟩ := sortedAll_at s.heap its (pm.toList.map fun i => its.getD i .none).toArray
    have mem : ∀ i ∈ pm.toList, i < vs.length := fun i hi => List.mem_range.mp (hP.mem_iff.mp hi)
    have lp : pm.toList.length = vs.length := by have := hP.length_eq; simpa using this
    have hs : 64 ≤ sizeLine := by decide
    refine ⟨.ref (s.heap.objs.size + 1), _, I.laid (t' := s.toks) (o := .lst (pm.toList.map fun i => vs.getD i .non)) (fun b ob q => sortedAll_old q) (Nat.le_succ _) ⟨by rw [List.length_map]; omega, _, e, vals_pick rv _ mem, he⟩, rfl, q _ pm.toList (I.hok.fresh (Nat.le_succ _)) hP ?_⟩
    rw [List.pairwise_iff_getElem]
    intro i j hi hj hij
    rw [List.length_map] at hi hj
    have hU' := hU i j (by omega) (by omega)
    have gi : pm.getD i 0 = pm.toList[i] := by
      have : i < pm.size := by simpa using hi
      simp [Array.getD, this]
    have gj : pm.getD j 0 = pm.toList[j] := by
      have : j < pm.size := by simpa using hj
      simp [Array.getD, this]
    unfold Kq at hU'
    rw [gi, gj] at hU'
    rw [List.getElem_map, List.getElem_map]
    have lj := mem _ (List.getElem_mem hj)
    rw [← rk_lt (by omega)]
    exact decide_eq_false (by omega)
end
section
variable {H : Hp} {Q : VK}
theorem r_sortedT {p : Addr} {vs : List V} {ts : List (List Int)} (hp : H p = some (.lst vs)) (few : vs.length < 64) (ht : Tps H vs ts)
    (h : ∀ (q : Addr) (ix : List Nat), H q = none → ix.Perm (List.range vs.length) → (ix.map fun i => ts.getD i []).Pairwise (fun a b => HT.lexLt b a = false) → Q (.ref q) (upd H q (.lst (ix.map fun i => vs.getD i .non)))) : rSortT [.ref p] H Q := ⟨p, vs, ts, rfl, hp, few, ht, h⟩
end
end L2

namespace My
open PySem L2
noncomputable def top (i : Nat) : Stmt := PySem.Challenge.pw_panethread_k74_whole_no_others_are_worth.main.body.getD i (.Pass ⟨0, 0, 0, 0⟩)
noncomputable abbrev s_is_number : Stmt := top 6
noncomputable abbrev s_is_within : Stmt := top 7
noncomputable abbrev s_is_span : Stmt := top 8
noncomputable abbrev s_need_place : Stmt := top 9
noncomputable abbrev s_is_worthy : Stmt := top 13
noncomputable abbrev s_need_stretches : Stmt := top 14
noncomputable abbrev s_sums_by_end : Stmt := top 15
noncomputable abbrev s_last_of_the_most : Stmt := top 16
noncomputable abbrev s_chosen_from : Stmt := top 17
noncomputable abbrev s_apart : Stmt := top 18
noncomputable abbrev s_are_rising_places : Stmt := top 19
noncomputable abbrev s_are_apart : Stmt := top 20
noncomputable abbrev s_do_cover : Stmt := top 21
noncomputable abbrev s_shows_apart : Stmt := top 22
noncomputable abbrev s_law_at : Stmt := top 24
noncomputable abbrev s_law_mix : Stmt := top 25
noncomputable abbrev s_law_whole : Stmt := top 26
noncomputable abbrev s_law_span : Stmt := top 27
noncomputable abbrev s_law_spans : Stmt := top 28
noncomputable abbrev s_law_chosen : Stmt := top 29
noncomputable abbrev s_law_prices : Stmt := top 30
noncomputable abbrev s_law_right : Stmt := top 31
noncomputable abbrev s_law_choice : Stmt := top 32
noncomputable abbrev s_law_covers : Stmt := top 33
noncomputable abbrev s_law_otherwise : Stmt := top 34
noncomputable abbrev s_law : Stmt := top 35
noncomputable abbrev i_NoPlace : Stmt := initOf (top 2)
noncomputable abbrev i_NoStretches : Stmt := initOf (top 3)
local macro_rules | `(tactic| walk_at "sts") => `(tactic| (with_reducible repeat (first | refine r_op ?_ | refine iteT ?_ | refine iteF ?_ | refine iteNT ?_ | refine iteNF ?_ | refine r_var (by with_unfolding_all rfl) ?_ | refine r_C ?_ | refine r_i0 ?_ | refine r_addI ?_ | refine r_cons ?_ | refine r_nil ?_ | refine r_seq ?_ | refine r_asg ?_ | refine r_name ?_ | refine r_ret ?_ | refine r_next ?_ | refine r_if ?_ | refine r_test ?_ | refine r_bl ?_ | refine r_cb ?_ | refine r_call ?_ | refine r_tb ?_ | refine r_not ?_ | refine r_and ?_ | refine r_or ?_ | refine r_andV ?_ | refine r_notV ?_ | refine r_sub ?_ | refine r_drop ?_ | refine r_un ?_ | refine r_tup ?_ | refine r_lst ?_ | refine r_bm ?_ | refine r_sl ?_ | refine r_nop ?_ | refine r_part ?_ | refine r_true ?_ | refine r_rng1 ?_ | refine r_rng2 ?_ | refine r_iseq ?_ | refine r_comp ?_ | refine r_for ?_ | refine r_u ?_ | refine r_gcons ?_ | refine r_gnil ?_ | refine r_gtup (SqT.of (by first | assumption | exact upd_same)) (by rfl) ?_ | refine r_chain ?_ | refine r_eqCI ?_ | refine r_eqEI ?_ | refine r_isA ?_ | refine r_isB ?_ | refine r_ii ?_ | refine r_eqBI ?_ | refine r_neBI ?_ | refine r_neBB ?_ | refine r_enumA ?_ | refine r_intE ?_ | refine r_i (by with_unfolding_all first | assumption | omega | (dsimp only <;> omega) | exact ⟨by omega, by omega⟩ | exact .inl ⟨by omega, by omega⟩ | exact .inr ⟨by omega, by omega⟩ | exact ⟨by decide, by decide, by decide⟩) ?_ | refine r_mulI (by with_unfolding_all first | assumption | omega | (dsimp only <;> omega) | exact ⟨by omega, by omega⟩ | exact .inl ⟨by omega, by omega⟩ | exact .inr ⟨by omega, by omega⟩ | exact ⟨by decide, by decide, by decide⟩) ?_ | refine r_ixL (SqL.of (by first | assumption | exact upd_same)) (by with_unfolding_all rfl) ?_ | refine r_ixT (SqT.of (by first | assumption | exact upd_same)) (by with_unfolding_all rfl) ?_ | refine r_setL (by first | assumption | exact upd_same) (by with_unfolding_all rfl) ?_ | refine r_aug (by with_unfolding_all rfl) ?_)))
local macro_rules | `(tactic| walk_at "stn") => `(tactic| (with_reducible repeat (first | refine r_op ?_ | refine iteT ?_ | refine iteF ?_ | refine iteNT ?_ | refine iteNF ?_ | refine r_var (by with_unfolding_all rfl) ?_ | refine r_C ?_ | refine r_i0 ?_ | refine r_addI ?_ | refine r_cons ?_ | refine r_nil ?_ | refine r_asg ?_ | refine r_name ?_ | refine r_ret ?_ | refine r_next ?_ | refine r_if ?_ | refine r_test ?_ | refine r_bl ?_ | refine r_cb ?_ | refine r_call ?_ | refine r_tb ?_ | refine r_not ?_ | refine r_and ?_ | refine r_or ?_ | refine r_andV ?_ | refine r_notV ?_ | refine r_sub ?_ | refine r_drop ?_ | refine r_un ?_ | refine r_tup ?_ | refine r_lst ?_ | refine r_bm ?_ | refine r_sl ?_ | refine r_nop ?_ | refine r_part ?_ | refine r_true ?_ | refine r_rng1 ?_ | refine r_rng2 ?_ | refine r_iseq ?_ | refine r_comp ?_ | refine r_for ?_ | refine r_u ?_ | refine r_gcons ?_ | refine r_gnil ?_ | refine r_gtup (SqT.of (by first | assumption | exact upd_same)) (by rfl) ?_ | refine r_chain ?_ | refine r_eqCI ?_ | refine r_eqEI ?_ | refine r_isA ?_ | refine r_isB ?_ | refine r_ii ?_ | refine r_eqBI ?_ | refine r_neBI ?_ | refine r_neBB ?_ | refine r_enumA ?_ | refine r_intE ?_ | refine r_i (by with_unfolding_all first | assumption | omega | (dsimp only <;> omega) | exact ⟨by omega, by omega⟩ | exact .inl ⟨by omega, by omega⟩ | exact .inr ⟨by omega, by omega⟩ | exact ⟨by decide, by decide, by decide⟩) ?_ | refine r_mulI (by with_unfolding_all first | assumption | omega | (dsimp only <;> omega) | exact ⟨by omega, by omega⟩ | exact .inl ⟨by omega, by omega⟩ | exact .inr ⟨by omega, by omega⟩ | exact ⟨by decide, by decide, by decide⟩) ?_ | refine r_ixL (SqL.of (by first | assumption | exact upd_same)) (by with_unfolding_all rfl) ?_ | refine r_ixT (SqT.of (by first | assumption | exact upd_same)) (by with_unfolding_all rfl) ?_ | refine r_setL (by first | assumption | exact upd_same) (by with_unfolding_all rfl) ?_ | refine r_aug (by with_unfolding_all rfl) ?_)))
structure Sn where
  w : Nat
  b : Nat
  e : Nat
noncomputable def Sn.ok (m : Nat) (s : Sn) : Prop := 1 ≤ s.w ∧ s.w ≤ 1000000 ∧ s.b < s.e ∧ s.e ≤ m
noncomputable def Sn.dat (s : Sn) : PyData := .tuple [.int s.w, .int s.b, .int s.e]
theorem DR_sn {H : Hp} {s : Sn} {u : V} : DR H s.dat u ↔ ∃ t, u = .ref t ∧ H t = some (.tup [.int s.w, .int s.b, .int s.e]) := by
  unfold Sn.dat
  rw [DR_tuple]
  constructor
  · rintro ⟨t, vs, rfl, h, r⟩
    rw [DRs_cons] at r
    obtain ⟨v1, r1, rfl, d1, r⟩ := r
    rw [DRs_cons] at r
    obtain ⟨v2, r2, rfl, d2, r⟩ := r
    rw [DRs_cons] at r
    obtain ⟨v3, r3, rfl, d3, r⟩ := r
    rw [DRs_nil] at r
    subst r
    rw [DR_int.mp d1, DR_int.mp d2, DR_int.mp d3] at h
    exact ⟨t, rfl, h⟩
  · rintro ⟨t, rfl, h⟩
    exact ⟨t, _, rfl, h, DRs_cons.mpr ⟨_, _, rfl, DR_int.mpr rfl, DRs_cons.mpr ⟨_, _, rfl, DR_int.mpr rfl, DRs_one (DR_int.mpr rfl)⟩⟩⟩
noncomputable def Lsn (H : Hp) (a : Addr) (us : List V) (S : List Sn) : Prop := H a = some (.lst us) ∧ DRs H (S.map Sn.dat) us
theorem Lsn.same {H H' : Hp} {a : Addr} {us : List V} {S : List Sn} (h : Lsn H a us S) (s : Same H H') : Lsn H' a us S := ⟨s _ _ h.1, DRs.same s _ _ h.2⟩
theorem Lsn.len {H : Hp} {a : Addr} {us : List V} {S : List Sn} (h : Lsn H a us S) : us.length = S.length := by
  have := DRs_len h.2
  rwa [List.length_map] at this
theorem DRs_sn {H : Hp} {S : List Sn} {us : List V} (h : DRs H (S.map Sn.dat) us) {i : Nat} {u : V} (e : us[i]? = some u) : ∃ s t, S[i]? = some s ∧ u = .ref t ∧ H t = some (.tup [.int s.w, .int s.b, .int s.e]) := by
  have hl := DRs_len h
  rw [List.length_map] at hl
  have hi : i < S.length := by rw [← hl]; exact (List.getElem?_eq_some_iff.mp e).1
  obtain ⟨v, h1, h2⟩ := DRs_at (d := S[i].dat) h (i := i) (by rw [List.getElem?_map, List.getElem?_eq_getElem hi]; rfl)
  rw [e] at h1
  cases h1
  obtain ⟨t, rfl, ht⟩ := DR_sn.mp h2
  exact ⟨S[i], t, List.getElem?_eq_getElem hi, rfl, ht⟩
structure SumsOk (S : List Sn) (L : List Int) : Prop where
  zero : L.getD 0 0 = 0
  up : ∀ e, 0 < e → e < L.length → L.getD (e - 1) 0 ≤ L.getD e 0
  put : ∀ s ∈ S, s.e < L.length → L.getD s.b 0 + s.w ≤ L.getD s.e 0
  why : ∀ e, 0 < e → e < L.length → L.getD e 0 = L.getD (e - 1) 0 ∨ ∃ s ∈ S, s.e = e ∧ L.getD e 0 = L.getD s.b 0 + s.w
structure BestOk (S : List Sn) (m : Nat) (B : List Int) : Prop where
  last : B.getD m 0 = 0
  up : ∀ p, p < m → B.getD (p + 1) 0 ≤ B.getD p 0
  put : ∀ s ∈ S, s.w + B.getD s.e 0 ≤ B.getD s.b 0
  why : ∀ p, p < m → B.getD p 0 = B.getD (p + 1) 0 ∨ ∃ s ∈ S, s.b = p ∧ B.getD p 0 = s.w + B.getD s.e 0
noncomputable def prs (L : List Int) (m : Nat) : List Int := (List.range m).map fun p => L.getD (p + 1) 0 - L.getD p 0
theorem prs_len (L : List Int) (m : Nat) : (prs L m).length = m := by simp [prs]
theorem prs_sum (L : List Int) (m : Nat) : ∀ (b k : Nat), b + k ≤ m → (((prs L m).drop b).take k).sum = L.getD (b + k) 0 - L.getD b 0
  | b, 0, _ => by simp
  | b, k + 1, h => by
    have ih := prs_sum L m b k (by omega)
    have e : ((prs L m).drop b)[k]? = some (L.getD (b + k + 1) 0 - L.getD (b + k) 0) := by
      rw [List.getElem?_drop]
      unfold prs
      rw [List.getElem?_map, List.getElem?_range (by omega)]; rfl
    rw [List.take_add_one, e, List.sum_append, ih]
    show _ + ([L.getD (b + k + 1) 0 - L.getD (b + k) 0]).sum = _
    rw [List.sum_singleton, show b + (k + 1) = b + k + 1 by omega]
    omega
theorem prs_all (L : List Int) (m : Nat) : (prs L m).sum = L.getD m 0 - L.getD 0 0 := by
  have := prs_sum L m 0 m (by omega)
  rw [List.drop_zero, List.take_of_length_le (by rw [prs_len]; exact Nat.le_refl _), Nat.zero_add] at this
  exact this
structure Txt (K : PySem.W.Frag) (mg : Str → Option Value) : Prop where
  b_all : mg "all" = none
  b_bool : mg "bool" = none
  b_enumerate : mg "enumerate" = none
  b_int : mg "int" = none
  b_isinstance : mg "isinstance" = none
  b_len : mg "len" = none
  b_list : mg "list" = none
  b_max : mg "max" = none
  b_range : mg "range" = none
  b_sorted : mg "sorted" = none
  b_sum : mg "sum" = none
  b_tuple : mg "tuple" = none
  c_MOST_LETTERS : ∃ t, mg "MOST_LETTERS" = some (.int 24 t)
  c_MOST_STRETCHES : ∃ t, mg "MOST_STRETCHES" = some (.int 400 t)
  c_MOST_WORTH : ∃ t, mg "MOST_WORTH" = some (.int 1000000 t)
  d_is_number : Def K mg "is_number" s_is_number
  d_is_within : Def K mg "is_within" s_is_within
  d_is_span : Def K mg "is_span" s_is_span
  d_need_place : Def K mg "need_place" s_need_place
  d_is_worthy : Def K mg "is_worthy" s_is_worthy
  d_need_stretches : Def K mg "need_stretches" s_need_stretches
  d_sums_by_end : Def K mg "sums_by_end" s_sums_by_end
  d_last_of_the_most : Def K mg "last_of_the_most" s_last_of_the_most
  d_chosen_from : Def K mg "chosen_from" s_chosen_from
  d_apart : Def K mg "apart" s_apart
  d_are_rising_places : Def K mg "are_rising_places" s_are_rising_places
  d_are_apart : Def K mg "are_apart" s_are_apart
  d_do_cover : Def K mg "do_cover" s_do_cover
  d_shows_apart : Def K mg "shows_apart" s_shows_apart
  d_law_at : Def K mg "_law_at" s_law_at
  d_law_mix : Def K mg "_law_mix" s_law_mix
  d_law_whole : Def K mg "_law_whole" s_law_whole
  d_law_span : Def K mg "_law_span" s_law_span
  d_law_spans : Def K mg "_law_spans" s_law_spans
  d_law_chosen : Def K mg "_law_chosen" s_law_chosen
  d_law_prices : Def K mg "_law_prices" s_law_prices
  d_law_right : Def K mg "_law_right" s_law_right
  d_law_choice : Def K mg "_law_choice" s_law_choice
  d_law_covers : Def K mg "_law_covers" s_law_covers
  d_law_otherwise : Def K mg "_law_otherwise" s_law_otherwise
  d_law : Def K mg "law" s_law
  x_NoPlace : XTxt K mg "NoPlace" ["found"] "NoPlace.__init__" i_NoPlace
  x_NoStretches : XTxt K mg "NoStretches" ["found"] "NoStretches.__init__" i_NoStretches
section
variable {P : Program} {w : World} {K : PySem.W.Frag} {mg : Str → Option Value} {base : Heap}
theorem nd_need_stretches_0 : (["stretch", "many"] : List Str).Nodup := by decide +kernel
theorem k_is_number_isinstance : (defScope s_is_number).names.lookup ("isinstance" : Str) = some NameKind.globalImplicit := by decide +kernel
theorem k_is_number_bool : (defScope s_is_number).names.lookup ("bool" : Str) = some NameKind.globalImplicit := by decide +kernel
theorem k_is_number_thing : (defScope s_is_number).names.lookup ("thing" : Str) = some NameKind.local := by decide +kernel
theorem k_is_number_int : (defScope s_is_number).names.lookup ("int" : Str) = some NameKind.globalImplicit := by decide +kernel
theorem k_is_within_low : (defScope s_is_within).names.lookup ("low" : Str) = some NameKind.local := by decide +kernel
theorem k_is_within_thing : (defScope s_is_within).names.lookup ("thing" : Str) = some NameKind.local := by decide +kernel
theorem k_is_within_high : (defScope s_is_within).names.lookup ("high" : Str) = some NameKind.local := by decide +kernel
theorem k_is_within_is_number : (defScope s_is_within).names.lookup ("is_number" : Str) = some NameKind.globalImplicit := by decide +kernel
theorem k_is_span_is_within : (defScope s_is_span).names.lookup ("is_within" : Str) = some NameKind.globalImplicit := by decide +kernel
theorem k_is_span_many : (defScope s_is_span).names.lookup ("many" : Str) = some NameKind.local := by decide +kernel
theorem k_is_span_begin : (defScope s_is_span).names.lookup ("begin" : Str) = some NameKind.local := by decide +kernel
theorem k_is_span_end : (defScope s_is_span).names.lookup ("end" : Str) = some NameKind.local := by decide +kernel
theorem k_need_place_is_within : (defScope s_need_place).names.lookup ("is_within" : Str) = some NameKind.globalImplicit := by decide +kernel
theorem k_need_place_high : (defScope s_need_place).names.lookup ("high" : Str) = some NameKind.local := by decide +kernel
theorem k_need_place_low : (defScope s_need_place).names.lookup ("low" : Str) = some NameKind.local := by decide +kernel
theorem k_need_place_thing : (defScope s_need_place).names.lookup ("thing" : Str) = some NameKind.local := by decide +kernel
theorem k_is_worthy_thing : (defScope s_is_worthy).names.lookup ("thing" : Str) = some NameKind.local := by decide +kernel
theorem k_is_worthy_is_span : (defScope s_is_worthy).names.lookup ("is_span" : Str) = some NameKind.globalImplicit := by decide +kernel
theorem k_is_worthy_many : (defScope s_is_worthy).names.lookup ("many" : Str) = some NameKind.local := by decide +kernel
theorem k_is_worthy_is_within : (defScope s_is_worthy).names.lookup ("is_within" : Str) = some NameKind.globalImplicit := by decide +kernel
theorem k_is_worthy_MOST_WORTH : (defScope s_is_worthy).names.lookup ("MOST_WORTH" : Str) = some NameKind.globalImplicit := by decide +kernel
theorem k_is_worthy_len : (defScope s_is_worthy).names.lookup ("len" : Str) = some NameKind.globalImplicit := by decide +kernel
theorem k_is_worthy_isinstance : (defScope s_is_worthy).names.lookup ("isinstance" : Str) = some NameKind.globalImplicit := by decide +kernel
theorem k_is_worthy_tuple : (defScope s_is_worthy).names.lookup ("tuple" : Str) = some NameKind.globalImplicit := by decide +kernel
theorem k_need_stretches_all : (defScope s_need_stretches).names.lookup ("all" : Str) = some NameKind.globalImplicit := by decide +kernel
theorem k_need_stretches_thing : (defScope s_need_stretches).names.lookup ("thing" : Str) = some NameKind.local := by decide +kernel
theorem k_need_stretches_len : (defScope s_need_stretches).names.lookup ("len" : Str) = some NameKind.globalImplicit := by decide +kernel
theorem k_need_stretches_MOST_STRETCHES : (defScope s_need_stretches).names.lookup ("MOST_STRETCHES" : Str) = some NameKind.globalImplicit := by decide +kernel
theorem k_need_stretches_isinstance : (defScope s_need_stretches).names.lookup ("isinstance" : Str) = some NameKind.globalImplicit := by decide +kernel
theorem k_need_stretches_list : (defScope s_need_stretches).names.lookup ("list" : Str) = some NameKind.globalImplicit := by decide +kernel
theorem k_need_stretches_need_place : (defScope s_need_stretches).names.lookup ("need_place" : Str) = some NameKind.globalImplicit := by decide +kernel
theorem k_need_stretches_MOST_LETTERS : (defScope s_need_stretches).names.lookup ("MOST_LETTERS" : Str) = some NameKind.globalImplicit := by decide +kernel
theorem k_need_stretches_many : (defScope s_need_stretches).names.lookup ("many" : Str) = some NameKind.cell := by decide +kernel
theorem Same.put {H H' : Hp} {p : Addr} {o : HO} (s : Same H H') (hn : H p = none) : Same H (upd H' p o) := fun b u e => by
  rw [upd_ne (fun z => by rw [z, hn] at e; cases e)]
  exact s b u e
theorem Same.back {H H' : Hp} {p : Addr} (s : Same H H') (h : H' p = none) : H p = none := by
  cases e : H p with
  | none => rfl
  | some o => rw [s _ _ e] at h; cases h
noncomputable def spNumber : Sp := fun vs H Q _ => ∃ n : Int, vs = [.int n] ∧ Q (.bl true) H
theorem sc_is_number : FnScope ["thing"] ["thing"] (defScope s_is_number) := ⟨rfl, rfl, rfl, by decide +kernel, rfl, by decide +kernel, by decide +kernel⟩
theorem h_is_number (T : Txt K mg) : Has P w K mg base 1 "is_number" ["thing"] spNumber := by
  refine hasJ T.d_is_number sc_is_number (fun _ _ _ _ _ _ us hl => L2.usN1 (fun _ => rfl) us hl) ?_ fun f cdv A outer s H vs Q E hr h => ?_
  · rintro vs H Q E ⟨n, rfl, _⟩; rfl
  obtain ⟨n, rfl, q⟩ := h
  have hu := hr.units0
  have hu64 := hr.units
  refine ⟨_, (jb_one (js_ret (j_and (j_callB (call_isiK (K := K) rfl) (glF k_is_number_isinstance) T.b_isinstance bt_isinstance (ja_cons (j_vL 0 k_is_number_thing) (ja_cons (j_ty (glF k_is_number_int) T.b_int bt_int (by decide +kernel) (by decide +kernel)) ja_nil)) (by decide +kernel) (by decide +kernel)) (j_one (j_not (j_callB (call_isiK (K := K) rfl) (glF k_is_number_isinstance) T.b_isinstance bt_isinstance (ja_cons (j_vL 0 k_is_number_thing) (ja_cons (j_ty (glF k_is_number_bool) T.b_bool bt_bool (by decide +kernel) (by decide +kernel)) ja_nil)) (by decide +kernel) (by decide +kernel))))))), ?_⟩
  walk_at "sts"
  refine r_isi (.int _) rfl ?_
  walk_at "sts"
  refine r_isi (.int _) rfl ?_
  walk_at "sts"
  exact q
noncomputable def spWithin : Sp := fun vs H Q _ => ∃ n lo hi : Int, vs = [.int n, .int lo, .int hi] ∧ lo ≤ n ∧ n ≤ hi ∧ Q (.bl true) H
theorem sc_is_within : FnScope ["thing", "low", "high"] ["thing", "low", "high"] (defScope s_is_within) := ⟨rfl, rfl, rfl, by decide +kernel, rfl, by decide +kernel, by decide +kernel⟩
theorem h_is_within (T : Txt K mg) : Has P w K mg base 2 "is_within" ["thing", "low", "high"] spWithin := by
  have h_is_number := h_is_number (P := P) (w := w) (base := base) T
  refine hasJ T.d_is_within sc_is_within (fun _ _ _ _ _ _ us hl => L2.usN3 (fun _ _ _ => rfl) us hl) ?_ fun f cdv A outer s H vs Q E hr h => ?_
  · rintro vs H Q E ⟨n, lo, hi, rfl, _⟩; rfl
  obtain ⟨n, lo, hi, rfl, h1, h2, q⟩ := h
  have hu := hr.units0
  have hu64 := hr.units
  refine ⟨_, (jb_one (js_ret (j_and (j_call h_is_number (hr.mono (by decide)) (glF k_is_within_is_number) (ja_cons (j_vL 0 k_is_within_thing) ja_nil) (by decide +kernel)) (j_one (j_chain op_le op_le (j_vL 1 k_is_within_low) (j_vL 0 k_is_within_thing) (j_vL 2 k_is_within_high)))))), ?_⟩
  walk_at "sts"
  refine ⟨n, rfl, ?_⟩
  walk_at "sts"
  rw [decide_eq_true h1]
  walk_at "sts"
  rw [decide_eq_true h2]
  exact q
noncomputable def spSpan : Sp := fun vs H Q _ => ∃ b e m : Int, vs = [.int b, .int e, .int m] ∧ 0 ≤ b ∧ b ≤ e ∧ e ≤ m ∧ Q (.bl true) H
theorem sc_is_span : FnScope ["begin", "end", "many"] ["begin", "end", "many"] (defScope s_is_span) := ⟨rfl, rfl, rfl, by decide +kernel, rfl, by decide +kernel, by decide +kernel⟩
theorem h_is_span (T : Txt K mg) : Has P w K mg base 3 "is_span" ["begin", "end", "many"] spSpan := by
  have h_is_within := h_is_within (P := P) (w := w) (base := base) T
  refine hasJ T.d_is_span sc_is_span (fun _ _ _ _ _ _ us hl => L2.usN3 (fun _ _ _ => rfl) us hl) ?_ fun f cdv A outer s H vs Q E hr h => ?_
  · rintro vs H Q E ⟨b, e, m, rfl, _⟩; rfl
  obtain ⟨b, e, m, rfl, h0, h1, h2, q⟩ := h
  have hu := hr.units0
  have hu64 := hr.units
  refine ⟨_, (jb_one (js_ret (j_and (j_call h_is_within (hr.mono (by decide)) (glF k_is_span_is_within) (ja_cons (j_vL 0 k_is_span_begin) (ja_cons j_int (ja_cons (j_vL 2 k_is_span_many) ja_nil))) (by decide +kernel)) (j_one (j_call h_is_within (hr.mono (by decide)) (glF k_is_span_is_within) (ja_cons (j_vL 1 k_is_span_end) (ja_cons (j_vL 0 k_is_span_begin) (ja_cons (j_vL 2 k_is_span_many) ja_nil))) (by decide +kernel)))))), ?_⟩
  walk_at "sts"
  refine ⟨b, 0, m, rfl, h0, by omega, ?_⟩
  walk_at "sts"
  exact ⟨e, b, m, rfl, h1, h2, q⟩
noncomputable def spNeedP : Sp := fun vs H Q _ => ∃ n lo hi : Int, vs = [.int n, .int lo, .int hi] ∧ lo ≤ n ∧ n ≤ hi ∧ Q .non H
theorem sc_need_place : FnScope ["thing", "low", "high"] ["thing", "low", "high"] (defScope s_need_place) := ⟨rfl, rfl, rfl, by decide +kernel, rfl, by decide +kernel, by decide +kernel⟩
theorem h_need_place (T : Txt K mg) : Has P w K mg base 3 "need_place" ["thing", "low", "high"] spNeedP := by
  have h_is_within := h_is_within (P := P) (w := w) (base := base) T
  refine hasJ T.d_need_place sc_need_place (fun _ _ _ _ _ _ us hl => L2.usN3 (fun _ _ _ => rfl) us hl) ?_ fun f cdv A outer s H vs Q E hr h => ?_
  · rintro vs H Q E ⟨n, lo, hi, rfl, _⟩; rfl
  obtain ⟨n, lo, hi, rfl, h1, h2, q⟩ := h
  have hu := hr.units0
  have hu64 := hr.units
  refine ⟨_, (jb_one (js_if (jt_not (jt_val (j_call h_is_within (hr.mono (by decide)) (glF k_need_place_is_within) (ja_cons (j_vL 0 k_need_place_thing) (ja_cons (j_vL 1 k_need_place_low) (ja_cons (j_vL 2 k_need_place_high) ja_nil))) (by decide +kernel)))) (jb_one js_never) jb_nil)), ?_⟩
  walk_at "sts"
  refine ⟨n, lo, hi, rfl, h1, h2, ?_⟩
  walk_at "sts"
  exact q
noncomputable def spWorthy : Sp := fun vs H Q _ => ∃ (m : Nat) (u : V) (t : Addr) (s : Sn), vs = [.int m, u] ∧ u = .ref t ∧ H t = some (.tup [.int s.w, .int s.b, .int s.e]) ∧ s.ok m ∧ Q (.bl true) H
theorem sc_is_worthy : FnScope ["many", "thing"] ["many", "thing"] (defScope s_is_worthy) := ⟨rfl, rfl, rfl, by decide +kernel, rfl, by decide +kernel, by decide +kernel⟩
theorem h_is_worthy (T : Txt K mg) : Has P w K mg base 4 "is_worthy" ["many", "thing"] spWorthy := by
  have h_is_within := h_is_within (P := P) (w := w) (base := base) T
  have h_is_span := h_is_span (P := P) (w := w) (base := base) T
  refine hasJ T.d_is_worthy sc_is_worthy (fun _ _ _ _ _ _ us hl => L2.usN2 (fun _ _ => rfl) us hl) ?_ fun f cdv A outer s H vs Q E hr h => ?_
  · rintro vs H Q E ⟨m, u, t, s, rfl, _⟩; rfl
  obtain ⟨m, u, t, s, rfl, eu, ht, ok, q⟩ := h
  have hu := hr.units0
  have hu64 := hr.units
  refine ⟨_, (jb_cons (js_if (jw_pt (jw_or (jt_not (jt_val (j_callB (call_isiK (K := K) rfl) (glF k_is_worthy_isinstance) T.b_isinstance bt_isinstance (ja_cons (j_vL 1 k_is_worthy_thing) (ja_cons (j_ty (glF k_is_worthy_tuple) T.b_tuple bt_tuple (by decide +kernel) (by decide +kernel)) ja_nil)) (by decide +kernel) (by decide +kernel)))) (jw_or (jt_cmp (op_neX (K := K) rfl hu64) (j_callB (call_lenK (K := K) rfl) (glF k_is_worthy_len) T.b_len bt_len (ja_cons (j_vL 1 k_is_worthy_thing) ja_nil) (by decide +kernel) (by decide +kernel)) j_int (by first | exact nomark _ | with_unfolding_all rfl)) (jw_or1 (jt_not (jt_val (j_call h_is_within (hr.mono (by decide)) (glF k_is_worthy_is_within) (ja_cons (j_ix (K := K) rfl (j_vL 1 k_is_worthy_thing) j_int) (ja_cons j_int (ja_cons (j_gint (glF k_is_worthy_MOST_WORTH) T.c_MOST_WORTH (by decide +kernel)) ja_nil))) (by decide +kernel)))))))) (jb_one (js_ret j_bl)) jb_nil) (jb_one (js_ret (j_and (j_call h_is_span (hr.mono (by decide)) (glF k_is_worthy_is_span) (ja_cons (j_ix (K := K) rfl (j_vL 1 k_is_worthy_thing) j_int) (ja_cons (j_ix (K := K) rfl (j_vL 1 k_is_worthy_thing) j_int) (ja_cons (j_vL 0 k_is_worthy_many) ja_nil))) (by decide +kernel)) (j_one (j_cmp op_lt (j_ix (K := K) rfl (j_vL 1 k_is_worthy_thing) j_int) (j_ix (K := K) rfl (j_vL 1 k_is_worthy_thing) j_int) (by first | exact nomark _ | with_unfolding_all rfl))))))), ?_⟩
  walk_at "sts"
  subst eu
  obtain ⟨o1, o2, o3, o4⟩ := ok
  refine r_isi (.tup ht) rfl ?_
  walk_at "sts"
  refine r_lenT (SqT.of ht) ?_
  walk_at "sts"
  rw [show decide (V.int (([V.int s.w, .int s.b, .int s.e] : List V).length : Int) = V.int 3) = true from decide_eq_true rfl]
  walk_at "sts"
  refine ⟨_, _, _, rfl, by omega, by omega, ?_⟩
  walk_at "sts"
  refine ⟨_, _, _, rfl, by omega, by omega, by omega, ?_⟩
  walk_at "sts"
  rw [decide_eq_true (by omega)]
  exact q
noncomputable def spNeedS : Sp := fun vs H Q _ => ∃ (m : Nat) (a : Addr) (us : List V) (S : List Sn), vs = [.int m, .ref a] ∧ m ≤ 24 ∧ Lsn H a us S ∧ S.length ≤ 400 ∧ (∀ s ∈ S, s.ok m) ∧ ∀ H', Same H H' → Q .non H'
theorem sc_need_stretches : FnScope ["many", "thing"] ["many", "thing"] (defScope s_need_stretches) := ⟨rfl, rfl, rfl, by decide +kernel, rfl, by decide +kernel, by decide +kernel⟩
theorem h_need_stretches (T : Txt K mg) : Has P w K mg base 5 "need_stretches" ["many", "thing"] spNeedS := by
  have h_need_place := h_need_place (P := P) (w := w) (base := base) T
  have h_is_worthy := h_is_worthy (P := P) (w := w) (base := base) T
  refine hasJ T.d_need_stretches sc_need_stretches (fun _ _ _ _ _ _ us hl => L2.usN2 (fun _ _ => rfl) us hl) ?_ fun f cdv A outer s H vs Q E hr h => ?_
  · rintro vs H Q E ⟨m, a, us, S, rfl, _⟩; rfl
  obtain ⟨m, a, us, S, rfl, hm, hL, hl, hok, q⟩ := h
  have hu := hr.units0
  have hu64 := hr.units
  refine ⟨_, (jb_cons (js_expr (j_call h_need_place (hr.mono (by decide)) (glF k_need_stretches_need_place) (ja_cons (j_vC 0 k_need_stretches_many) (ja_cons j_int (ja_cons (j_gint (glF k_need_stretches_MOST_LETTERS) T.c_MOST_LETTERS (by decide +kernel)) ja_nil))) (by decide +kernel))) (jb_cons (js_if (jw_pt (jw_or (jt_not (jt_val (j_callB (call_isiK (K := K) rfl) (glF k_need_stretches_isinstance) T.b_isinstance bt_isinstance (ja_cons (j_vL 1 k_need_stretches_thing) (ja_cons (j_ty (glF k_need_stretches_list) T.b_list bt_list (by decide +kernel) (by decide +kernel)) ja_nil)) (by decide +kernel) (by decide +kernel)))) (jw_or1 (jt_cmp op_gt (j_callB (call_lenK (K := K) rfl) (glF k_need_stretches_len) T.b_len bt_len (ja_cons (j_vL 1 k_need_stretches_thing) ja_nil) (by decide +kernel) (by decide +kernel)) (j_gint (glF k_need_stretches_MOST_STRETCHES) T.c_MOST_STRETCHES (by decide +kernel)) (by first | exact nomark _ | with_unfolding_all rfl))))) (jb_one js_never) jb_nil) (jb_one (js_if (jt_not (jt_val (j_callB (call_all rfl) (glF k_need_stretches_all) T.b_all bt_all (ja_cons (j_comp (sub := [none, some 0]) (subOk_of (N := ["many", "thing"]) (sc := defScope s_need_stretches) (N' := ["stretch", "many"]) (by decide +kernel)) rfl rfl rfl (ji_seq (K := K) rfl (j_vL 1 k_need_stretches_thing)) (fun C s₀ H₀ ex => (jg_B 0 (by decide +kernel) nd_need_stretches_0)) (fun C s₀ H₀ ex => jif_nil) (fun C s₀ H₀ ex => (j_call h_is_worthy (hr.mono (by decide)) (glB (by decide +kernel)) (ja_cons (j_vBF 1 (by decide +kernel)) (ja_cons (j_vBL 0 (by decide +kernel)) ja_nil)) (by decide +kernel)))) ja_nil) (by decide +kernel) (by decide +kernel)))) (jb_one js_never) jb_nil)))), ?_⟩
  walk_at "sts"
  have hul := hL.len
  have hs : 1000 ≤ sizeLine := by decide
  refine ⟨_, _, _, rfl, by omega, by omega, ?_⟩
  walk_at "sts"
  refine r_isi (.lst hL.1) rfl ?_
  walk_at "sts"
  refine r_lenL (SqL.of hL.1) ?_
  walk_at "sts"
  rw [decide_eq_false (show ¬ (400 : Int) < (us.length : Int) by omega)]
  walk_at "sts"
  refine .inl ⟨a, rfl, ⟨_, SqL.of hL.1⟩, ?_⟩
  refine comp_list (xs := us) (fun i ys H' => H' = H ∧ ys = List.replicate i (V.bl true)) (by omega) ⟨rfl, rfl⟩ ?_ ?_ ?_ ?_
  · rintro i ys H' ⟨_, rfl⟩
    simp
  · rintro i ys H' ⟨rfl, rfl⟩
    exact SqL.of hL.1
  · rintro i ys H' x hx ⟨rfl, rfl⟩
    obtain ⟨s, t, hsi, rfl, ht⟩ := DRs_sn hL.2 hx
    walk_at "sts"
    refine ⟨KeepSt.set rfl, ?_⟩
    walk_at "sts"
    refine ⟨m, _, t, s, rfl, rfl, ht, hok s (List.mem_of_getElem? hsi), rfl, ?_⟩
    rw [List.replicate_succ']
  · rintro ys H' ⟨rfl, rfl⟩ D hD
    walk_at "sts"
    refine ⟨D, List.replicate us.length true, rfl, by rw [upd_same, List.map_replicate], ?_⟩
    walk_at "sts"
    rw [show (List.replicate us.length true).all id = true by simp]
    walk_at "sts"
    exact q _ ((Same.refl H').upd hD)
end

section
variable {P : Program} {w : World} {K : PySem.W.Frag} {mg : Str → Option Value} {base : Heap}
theorem nd_sums_by_end_0 : (["stretch", "sums", "end"] : List Str).Nodup := by decide +kernel
theorem k_sums_by_end_sums : (defScope s_sums_by_end).names.lookup ("sums" : Str) = some NameKind.cell := by decide +kernel
theorem k_sums_by_end_range : (defScope s_sums_by_end).names.lookup ("range" : Str) = some NameKind.globalImplicit := by decide +kernel
theorem k_sums_by_end_many : (defScope s_sums_by_end).names.lookup ("many" : Str) = some NameKind.local := by decide +kernel
theorem k_sums_by_end_end : (defScope s_sums_by_end).names.lookup ("end" : Str) = some NameKind.cell := by decide +kernel
theorem k_sums_by_end_max : (defScope s_sums_by_end).names.lookup ("max" : Str) = some NameKind.globalImplicit := by decide +kernel
theorem k_sums_by_end_ending : (defScope s_sums_by_end).names.lookup ("ending" : Str) = some NameKind.local := by decide +kernel
theorem k_sums_by_end_stretches : (defScope s_sums_by_end).names.lookup ("stretches" : Str) = some NameKind.local := by decide +kernel
theorem k_last_of_the_most_enumerate : (defScope s_last_of_the_most).names.lookup ("enumerate" : Str) = some NameKind.globalImplicit := by decide +kernel
theorem k_last_of_the_most_stretches : (defScope s_last_of_the_most).names.lookup ("stretches" : Str) = some NameKind.local := by decide +kernel
theorem k_last_of_the_most_stretch : (defScope s_last_of_the_most).names.lookup ("stretch" : Str) = some NameKind.local := by decide +kernel
theorem k_last_of_the_most_place : (defScope s_last_of_the_most).names.lookup ("place" : Str) = some NameKind.local := by decide +kernel
theorem k_last_of_the_most_sums : (defScope s_last_of_the_most).names.lookup ("sums" : Str) = some NameKind.local := by decide +kernel
theorem k_last_of_the_most_end : (defScope s_last_of_the_most).names.lookup ("end" : Str) = some NameKind.local := by decide +kernel
theorem at_nat {L : List Int} {k : Nat} {j : Int} (hk : k < L.length) (hj : j = (k : Int)) : atI (L.map V.int) j = some (.int (L.getD k 0)) := by
  subst hj
  refine atI_nat ?_
  rw [List.getElem?_map, List.getElem?_eq_getElem hk, List.getD_eq_getElem?_getD, List.getElem?_eq_getElem hk]; rfl
theorem at_last {L : List Int} {k : Nat} (hk : L.length = k + 1) : atI (L.map V.int) (-1) = some (.int (L.getD k 0)) := by
  refine atM1 (n := k) (by rw [List.length_map]; exact hk) ?_
  rw [List.getElem?_map, List.getElem?_eq_getElem (by omega), List.getD_eq_getElem?_getD, List.getElem?_eq_getElem (by omega)]; rfl
theorem getD_push_lt {L : List Int} {M : Int} {i : Nat} (h : i < L.length) : (L ++ [M]).getD i 0 = L.getD i 0 := by
  rw [List.getD_eq_getElem?_getD, List.getD_eq_getElem?_getD, List.getElem?_append_left h]
theorem getD_push_eq {L : List Int} {M : Int} : (L ++ [M]).getD L.length 0 = M := by
  rw [List.getD_eq_getElem?_getD, List.getElem?_append_right (Nat.le_refl _), Nat.sub_self]; rfl
theorem SumsOk.push {S : List Sn} {L : List Int} {M : Int} {m : Nat} (h : SumsOk S L) (hS : ∀ s ∈ S, s.ok m) (hl : 0 < L.length) (h1 : L.getD (L.length - 1) 0 ≤ M) (h2 : ∀ s ∈ S, s.e = L.length → L.getD s.b 0 + s.w ≤ M)
    (h3 : M = L.getD (L.length - 1) 0 ∨ ∃ s ∈ S, s.e = L.length ∧ M = L.getD s.b 0 + s.w) : SumsOk S (L ++ [M]) := by
  refine ⟨?_, fun e h0 he => ?_, fun s hs he => ?_, fun e h0 he => ?_⟩
  · rw [getD_push_lt hl]; exact h.zero
  · rw [List.length_append] at he
    simp at he
    by_cases hlt : e < L.length
    · rw [getD_push_lt hlt, getD_push_lt (by omega)]; exact h.up e h0 hlt
    · obtain rfl : e = L.length := by omega
      rw [getD_push_eq, getD_push_lt (by omega)]; exact h1
  · rw [List.length_append] at he
    simp at he
    have ok := hS s hs
    by_cases hlt : s.e < L.length
    · rw [getD_push_lt hlt, getD_push_lt (by have := ok.2.2; omega)]; exact h.put s hs hlt
    · have e : s.e = L.length := by omega
      rw [getD_push_lt (by have := ok.2.2; omega), e, getD_push_eq]; exact h2 s hs e
  · rw [List.length_append] at he
    simp at he
    by_cases hlt : e < L.length
    · rw [getD_push_lt hlt, getD_push_lt (by omega)]
      rcases h.why e h0 hlt with a | ⟨s, hs, a, b⟩
      · exact .inl a
      · exact .inr ⟨s, hs, a, by rw [getD_push_lt (by have := (hS s hs).2.2; omega)]; exact b⟩
    · obtain rfl : e = L.length := by omega
      rw [getD_push_eq, getD_push_lt (by omega)]
      rcases h3 with a | ⟨s, hs, a, b⟩
      · exact .inl a
      · exact .inr ⟨s, hs, a, by rw [getD_push_lt (by have := (hS s hs).2.2; omega)]; exact b⟩
theorem filt_take {α : Type} {p : α → Bool} {cs : List α} {i : Nat} {c : α} (h : cs[i]? = some c) : (cs.take (i + 1)).filter p = (cs.take i).filter p ++ (if p c = true then [c] else []) := by
  rw [List.take_add_one, h, List.filter_append]
  congr 1
  show List.filter p [c] = _
  by_cases hp : p c = true
  · rw [if_pos hp, List.filter_cons_of_pos hp]; rfl
  · rw [if_neg hp, List.filter_cons_of_neg hp]; rfl
theorem dec_int2 (i j : Int) : decide (V.int i = V.int j) = decide (i = j) := decide_eq_decide.mpr ⟨fun h => V.int.inj h, fun h => by rw [h]⟩
noncomputable def spSums : Sp := fun vs H Q _ => ∃ (m : Nat) (a : Addr) (us : List V) (S : List Sn), vs = [.int m, .ref a] ∧ m ≤ 24 ∧ Lsn H a us S ∧ S.length ≤ 400 ∧ (∀ s ∈ S, s.ok m) ∧
  ∀ (q : Addr) (L : List Int) (H' : Hp), H q = none → Same H H' → H' q = some (.lst (L.map V.int)) → L.length = m + 1 → SumsOk S L → Q (.ref q) H'
theorem sc_sums_by_end : FnScope ["many", "stretches", "sums", "end", "ending"] ["many", "stretches"] (defScope s_sums_by_end) := ⟨rfl, rfl, rfl, by decide +kernel, rfl, by decide +kernel, by decide +kernel⟩
theorem h_sums_by_end (T : Txt K mg) : Has P w K mg base 1 "sums_by_end" ["many", "stretches"] spSums := by
  refine hasJ T.d_sums_by_end sc_sums_by_end (fun _ _ _ _ _ _ us hl => L2.usN2 (fun _ _ => rfl) us hl) ?_ fun f cdv A outer s H vs Q E hr h => ?_
  · rintro vs H Q E ⟨m, a, us, S, rfl, _⟩; rfl
  obtain ⟨m, a, us, S, rfl, hm, hL, hl, hok, q⟩ := h
  have hu := hr.units0
  have hu64 := hr.units
  refine ⟨_, (jb_cons (js_set (i := 2) sc_sums_by_end.nd rfl (Or.inr k_sums_by_end_sums) (j_lst (ja_cons j_int ja_nil)) rfl) (jb_cons (js_for PassesOwn.never rfl (ji_range2 (glF k_sums_by_end_range) T.b_range (ja_cons j_int (ja_cons (j_op op_addA (j_vL 0 k_sums_by_end_many) j_int) ja_nil))) (jg_name (i := 3) sc_sums_by_end.nd rfl (Or.inr k_sums_by_end_end) rfl) (jb_cons (js_setC (i := 4) sc_sums_by_end.nd rfl (Or.inl k_sums_by_end_ending) (sub := [none, some 2, some 3]) (subOk_of (N := ["many", "stretches", "sums", "end", "ending"]) (sc := defScope s_sums_by_end) (N' := ["stretch", "sums", "end"]) (by decide +kernel)) rfl rfl rfl (ji_seq (K := K) rfl (j_vL 1 k_sums_by_end_stretches)) (fun C s₀ H₀ ex => (jg_B 0 (by decide +kernel) nd_sums_by_end_0)) (fun C s₀ H₀ ex => (jif_one (jt_cmp (op_eqE (K := K) rfl hu64) (j_ix (K := K) rfl (j_vBL 0 (by decide +kernel)) j_int) (j_vBF 2 (by decide +kernel)) (by first | exact nomark _ | with_unfolding_all rfl)))) (fun C s₀ H₀ ex => (j_op op_addA (j_ix (K := K) rfl (j_vBF 1 (by decide +kernel)) (j_ix (K := K) rfl (j_vBL 0 (by decide +kernel)) j_int)) (j_ix (K := K) rfl (j_vBL 0 (by decide +kernel)) j_int))) rfl) (jb_one (js_expr (j_meth (K := K) rfl PySem.F.plainAttrs_list PySem.F.slot_list_append PySem.F.type_list_append mt_append (j_vC 2 k_sums_by_end_sums) (ja_cons (j_callB (call_maxA rfl) (glF k_sums_by_end_max) T.b_max bt_max (ja_cons (j_op op_addA (j_vL 4 k_sums_by_end_ending) (j_lst (ja_cons (j_ix (K := K) rfl (j_vC 2 k_sums_by_end_sums) (j_un un_neg j_int)) ja_nil))) ja_nil) (by decide +kernel) (by decide +kernel)) ja_nil)))))) (jb_one (js_ret (j_vC 2 k_sums_by_end_sums))))), ?_⟩
  walk_at "sts"
  have hul := hL.len
  have hs : 1000 ≤ sizeLine := by decide
  refine r_new rfl fun sm nsm => ?_
  walk_at "sts"
  refine ⟨⟨by decide, by decide, by omega, by omega⟩, ?_⟩
  have em : ((m : Int) + 1 - 1).toNat = m := by omega
  rw [em]
  refine for_range (n := m) (fun k σ H' => ∃ (L : List Int) (x3 x4 : Option V), σ = [some (.int m), some (.ref a), some (.ref sm), x3, x4] ∧ Same H H' ∧ H' sm = some (.lst (L.map V.int)) ∧ L.length = k + 1 ∧ SumsOk S L)
    ⟨[0], none, none, rfl, (Same.refl H).upd nsm, upd_same, rfl, ⟨rfl, (fun e h0 he => by simp at he; omega), (fun s hs he => by have := (hok s hs).2.2; simp at he; omega), fun e h0 he => by simp at he; omega⟩⟩ ?_ ?_
  · rintro k σ H' hk ⟨L, x3, x4, rfl, s, hsm, hLl, hSO⟩
    have hL' := hL.same s
    walk_at "sts"
    refine .inl ⟨a, rfl, ⟨_, SqL.of hL'.1⟩, ?_⟩
    refine comp_list (xs := us) (fun i ys H'' => H'' = H' ∧ ys = (((S.take i).filter fun s => decide ((s.e : Int) = 1 + (k : Int))).map fun s => L.getD s.b 0 + s.w).map V.int) (by omega) ⟨rfl, rfl⟩ ?_ ?_ ?_ ?_
    · rintro i ys H'' ⟨_, rfl⟩
      rw [List.length_map, List.length_map]
      exact Nat.le_trans (List.length_filter_le _ _) (by rw [List.length_take]; omega)
    · rintro i ys H'' ⟨rfl, rfl⟩
      exact SqL.of hL'.1
    · rintro i ys H'' x hx ⟨rfl, rfl⟩
      obtain ⟨t, ad, hsi, rfl, ht⟩ := DRs_sn hL'.2 hx
      have okt := hok t (List.mem_of_getElem? hsi)
      have tks := filt_take (p := fun s : Sn => decide ((s.e : Int) = 1 + (k : Int))) hsi
      walk_at "sts"
      refine ⟨KeepSt.set rfl, ?_⟩
      walk_at "sts"
      rw [dec_int2, tks]
      refine iteD (fun h => ?_) (fun h => ?_)
      · have hb : t.b < L.length := by have := okt.2.2; omega
        walk_at "sts"
        refine r_ixL (SqL.of hsm) (at_nat hb rfl) ?_
        walk_at "sts"
        refine ⟨rfl, ?_⟩
        rw [if_pos (decide_eq_true h), List.map_append, List.map_append]; rfl
      · refine ⟨rfl, ?_⟩
        rw [if_neg (by rw [decide_eq_false h]; simp), List.append_nil]
    · rintro ys H'' ⟨rfl, rfl⟩ D hD
      rw [List.take_of_length_le (by omega)]
      have hfl : ((S.filter fun s => decide ((s.e : Int) = 1 + (k : Int))).map fun s => L.getD s.b 0 + s.w).length ≤ 400 := by rw [List.length_map]; exact Nat.le_trans (List.length_filter_le _ _) hl
      have hmem : ∀ x, x ∈ ((S.filter fun s => decide ((s.e : Int) = 1 + (k : Int))).map fun s => L.getD s.b 0 + s.w) ↔ ∃ t ∈ S, t.e = k + 1 ∧ L.getD t.b 0 + t.w = x := by
        intro x
        simp only [List.mem_map, List.mem_filter, decide_eq_true_eq]
        constructor
        · rintro ⟨t, ⟨h1, h2⟩, h3⟩; exact ⟨t, h1, by omega, h3⟩
        · rintro ⟨t, h1, h2, h3⟩; exact ⟨t, ⟨h1, by omega⟩, h3⟩
      generalize ((S.filter fun s => decide ((s.e : Int) = 1 + (k : Int))).map fun s => L.getD s.b 0 + s.w) = es at hfl hmem ⊢
      have S1 : Same H'' (upd H'' D (.lst (es.map V.int))) := (Same.refl H'').upd hD
      have hD1 : upd H'' D (.lst (es.map V.int)) D = some (.lst (es.map V.int)) := upd_same
      generalize upd H'' D (.lst (es.map V.int)) = H1 at S1 hD1 ⊢
      have hsm1 := S1 _ _ hsm
      walk_at "sts"
      refine ⟨.inl ⟨rfl, _, SqL.of hsm1⟩, ?_⟩
      walk_at "sts"
      refine r_ixL (SqL.of hsm1) (at_last hLl) ?_
      walk_at "sts"
      refine r_new rfl fun p np => ?_
      walk_at "sts"
      refine r_addL (upd_old np hD1) upd_same (by simp; omega) fun p2 np2 => ?_
      walk_at "sts"
      have hsm2 := upd_old np2 (o := .lst (es.map V.int ++ [V.int (L.getD k 0)])) (upd_old np (o := .lst [.int (L.getD k 0)]) hsm1)
      refine r_maxL (ns := es ++ [L.getD k 0]) (by rw [List.map_append]; exact upd_same) (by simp) fun M hM hMM => ?_
      walk_at "sts"
      refine r_append hsm2 (by simp; omega) ?_
      walk_at "sts"
      have hL1 : L.length - 1 = k := by omega
      refine ⟨L ++ [M], _, _, rfl, Same.put (((s.trans S1).upd np).upd np2) nsm, ?_, by simp; omega, hSO.push hok (by omega) (by rw [hL1]; exact hMM _ (by simp)) (fun t ht he => hMM _ (List.mem_append_left _ ((hmem _).mpr ⟨t, ht, by omega, rfl⟩))) ?_⟩
      · rw [List.map_append]; exact upd_same
      · rcases List.mem_append.mp hM with h | h
        · obtain ⟨t, h1, h2, h3⟩ := (hmem _).mp h
          exact .inr ⟨t, h1, by omega, h3.symm⟩
        · rw [hL1]; exact .inl (List.mem_singleton.mp h)
  · rintro σ H' ⟨L, x3, x4, rfl, s, hsm, hLl, hSO⟩
    walk_at "sts"
    exact q sm L H' nsm s hsm hLl hSO
noncomputable def spLast (K : PySem.W.Frag) : Sp := fun vs H Q _ => ∃ (a l : Addr) (us : List V) (S : List Sn) (L : List Int) (e : Nat), vs = [.ref a, .ref l, .int e] ∧ Lsn H a us S ∧ S.length ≤ 400 ∧ H l = some (.lst (L.map V.int)) ∧ e < L.length ∧ (∀ s ∈ S, s.ok (L.length - 1)) ∧
  (∀ (i : Nat) (s : Sn), S[i]? = some s → s.e = e → L.getD s.b 0 + s.w = L.getD e 0 → ∀ H', Same H H' → Q (.int i) H') ∧
  ((∀ s ∈ S, s.e = e → L.getD s.b 0 + s.w ≠ L.getD e 0) → ∀ H', Same H H' → Q .non H')
theorem sc_last_of_the_most : FnScope ["stretches", "sums", "end", "place", "stretch"] ["stretches", "sums", "end"] (defScope s_last_of_the_most) := ⟨rfl, rfl, rfl, by decide +kernel, rfl, by decide +kernel, by decide +kernel⟩
theorem h_last_of_the_most (T : Txt K mg) : Has P w K mg base 1 "last_of_the_most" ["stretches", "sums", "end"] (spLast K) := by
  refine hasJ T.d_last_of_the_most sc_last_of_the_most (fun _ _ _ _ _ _ us hl => L2.usN3 (fun _ _ _ => rfl) us hl) ?_ fun f cdv A outer s H vs Q E hr h => ?_
  · rintro vs H Q E ⟨a, l, us, S, L, e, rfl, _⟩; rfl
  obtain ⟨a, l, us, S, L, e, rfl, hL, hl, hLs, he, hok, q1, q2⟩ := h
  have hu := hr.units0
  have hu64 := hr.units
  refine ⟨_, (jb_cons (js_for PassesOwn.never rfl (ji_enum (K := K) rfl rfl (glF k_last_of_the_most_enumerate) T.b_enumerate (ja_cons (j_vL 0 k_last_of_the_most_stretches) ja_nil)) (jg_tup (K := K) rfl rfl (jgs_cons (jg_name (i := 3) sc_last_of_the_most.nd rfl (Or.inl k_last_of_the_most_place) rfl) (jgs_cons (jg_name (i := 4) sc_last_of_the_most.nd rfl (Or.inl k_last_of_the_most_stretch) rfl) jgs_nil))) (jb_one (js_if (jw_pt (jw_and (jt_cmp (op_eqE (K := K) rfl hu64) (j_ix (K := K) rfl (j_vL 4 k_last_of_the_most_stretch) j_int) (j_vL 2 k_last_of_the_most_end) (by first | exact nomark _ | with_unfolding_all rfl)) (jw_and1 (jt_cmp (op_eqE (K := K) rfl hu64) (j_op op_addA (j_ix (K := K) rfl (j_vL 1 k_last_of_the_most_sums) (j_ix (K := K) rfl (j_vL 4 k_last_of_the_most_stretch) j_int)) (j_ix (K := K) rfl (j_vL 4 k_last_of_the_most_stretch) j_int)) (j_ix (K := K) rfl (j_vL 1 k_last_of_the_most_sums) (j_vL 2 k_last_of_the_most_end)) (by first | exact nomark _ | with_unfolding_all rfl))))) (jb_one (js_ret (j_vL 3 k_last_of_the_most_place))) jb_nil))) (jb_one (js_ret j_non))), ?_⟩
  walk_at "sts"
  have hul := hL.len
  refine .inr ⟨a, us, rfl, SqL.of hL.1, ?_⟩
  refine for_enumL (K := K) (xs := us) (fun i σ H' => Same H H' ∧ (∃ x3 x4 : Option V, σ = [some (.ref a), some (.ref l), some (.int e), x3, x4]) ∧ ∀ (j : Nat) (s : Sn), j < i → S[j]? = some s → s.e = e → L.getD s.b 0 + s.w ≠ L.getD e 0)
    ⟨Same.refl _, ⟨_, _, rfl⟩, fun j s hj => by omega⟩ (fun i σ H' _ h => SqL.of (h.1 _ _ hL.1)) ?_ ?_
  · rintro i σ H' T x hx ⟨s, ⟨x3, x4, rfl⟩, hno⟩ nT
    obtain ⟨t, ad, hsi, rfl, ht0⟩ := DRs_sn (hL.same s).2 hx
    have okt := hok t (List.mem_of_getElem? hsi)
    have S1 : Same H' (upd H' T (.tup [.int i, .ref ad])) := (Same.refl H').upd nT
    have hT1 : upd H' T (.tup [.int i, .ref ad]) T = some (.tup [.int i, .ref ad]) := upd_same
    generalize upd H' T (.tup [.int i, .ref ad]) = H1 at S1 hT1 ⊢
    have ht := S1 _ _ ht0
    have hL1 := (s.trans S1) _ _ hLs
    refine r_gtup (SqT.of hT1) rfl ?_
    walk_at "sts"
    rw [dec_int2]
    refine iteD (fun h => ?_) (fun h => ?_)
    · have hb : t.b < L.length := by have := okt.2.2; omega
      walk_at "sts"
      refine r_ixL (SqL.of hL1) (at_nat hb rfl) ?_
      walk_at "sts"
      refine r_ixL (SqL.of hL1) (at_nat he rfl) ?_
      walk_at "sts"
      rw [dec_int2]
      refine iteD (fun h2 => ?_) (fun h2 => ?_)
      · walk_at "sts"
        exact q1 i t hsi (by omega) (by omega) _ (s.trans S1)
      · walk_at "sts"
        refine ⟨s.trans S1, ⟨_, _, rfl⟩, fun j t' hj e1 e2 => ?_⟩
        by_cases hji : j = i
        · subst hji
          rw [hsi] at e1
          cases e1
          exact h2
        · exact hno j t' (by omega) e1 e2
    · walk_at "sts"
      refine ⟨s.trans S1, ⟨_, _, rfl⟩, fun j t' hj e1 e2 => ?_⟩
      by_cases hji : j = i
      · subst hji
        rw [hsi] at e1
        cases e1
        omega
      · exact hno j t' (by omega) e1 e2
  · rintro σ H' ⟨s, ⟨x3, x4, rfl⟩, hno⟩
    walk_at "sts"
    refine q2 (fun t ht h1 => ?_) _ s
    obtain ⟨j, hj, e1⟩ := List.mem_iff_getElem.mp ht
    exact hno j t (by omega) (by rw [List.getElem?_eq_getElem hj, e1]) h1
end

section
variable {P : Program} {w : World} {K : PySem.W.Frag} {mg : Str → Option Value} {base : Heap}
theorem nd_apart_0 : (["place", "sums"] : List Str).Nodup := by decide +kernel
theorem k_chosen_from_sorted : (defScope s_chosen_from).names.lookup ("sorted" : Str) = some NameKind.globalImplicit := by decide +kernel
theorem k_chosen_from_chosen : (defScope s_chosen_from).names.lookup ("chosen" : Str) = some NameKind.local := by decide +kernel
theorem k_chosen_from_end : (defScope s_chosen_from).names.lookup ("end" : Str) = some NameKind.local := by decide +kernel
theorem k_chosen_from_place : (defScope s_chosen_from).names.lookup ("place" : Str) = some NameKind.local := by decide +kernel
theorem k_chosen_from_stretches : (defScope s_chosen_from).names.lookup ("stretches" : Str) = some NameKind.local := by decide +kernel
theorem k_chosen_from_last_of_the_most : (defScope s_chosen_from).names.lookup ("last_of_the_most" : Str) = some NameKind.globalImplicit := by decide +kernel
theorem k_chosen_from_sums : (defScope s_chosen_from).names.lookup ("sums" : Str) = some NameKind.local := by decide +kernel
theorem k_chosen_from_len : (defScope s_chosen_from).names.lookup ("len" : Str) = some NameKind.globalImplicit := by decide +kernel
theorem k_apart_prices : (defScope s_apart).names.lookup ("prices" : Str) = some NameKind.local := by decide +kernel
theorem k_apart_chosen_from : (defScope s_apart).names.lookup ("chosen_from" : Str) = some NameKind.globalImplicit := by decide +kernel
theorem k_apart_sums : (defScope s_apart).names.lookup ("sums" : Str) = some NameKind.cell := by decide +kernel
theorem k_apart_stretches : (defScope s_apart).names.lookup ("stretches" : Str) = some NameKind.local := by decide +kernel
theorem k_apart_range : (defScope s_apart).names.lookup ("range" : Str) = some NameKind.globalImplicit := by decide +kernel
theorem k_apart_many : (defScope s_apart).names.lookup ("many" : Str) = some NameKind.local := by decide +kernel
theorem k_apart_sums_by_end : (defScope s_apart).names.lookup ("sums_by_end" : Str) = some NameKind.globalImplicit := by decide +kernel
theorem k_apart_need_stretches : (defScope s_apart).names.lookup ("need_stretches" : Str) = some NameKind.globalImplicit := by decide +kernel
noncomputable def ww (S : List Sn) (i : Nat) : Int := match S[i]? with | some s => s.w | none => 0
noncomputable def bb (S : List Sn) (i : Nat) : Nat := match S[i]? with | some s => s.b | none => 0
noncomputable def ee (S : List Sn) (i : Nat) : Nat := match S[i]? with | some s => s.e | none => 0
theorem ww_of {S : List Sn} {i : Nat} {s : Sn} (h : S[i]? = some s) : ww S i = s.w := by unfold ww; rw [h]
theorem bb_of {S : List Sn} {i : Nat} {s : Sn} (h : S[i]? = some s) : bb S i = s.b := by unfold bb; rw [h]
theorem ee_of {S : List Sn} {i : Nat} {s : Sn} (h : S[i]? = some s) : ee S i = s.e := by unfold ee; rw [h]
noncomputable def nI (cs : List Nat) : List Int := cs.map fun i : Nat => (i : Int)
noncomputable def wsum (S : List Sn) (cs : List Nat) : Int := (cs.map (ww S)).sum
structure Chos (S : List Sn) (ms : List Nat) : Prop where
  lt : ∀ i ∈ ms, i < S.length
  up : ms.Pairwise (· < ·)
  ap : ∀ i ∈ ms, ∀ j ∈ ms, i ≠ j → ee S i ≤ bb S j ∨ ee S j ≤ bb S i
noncomputable def mu3 (σ : St) (_ : Hp) : Nat := match σ[3]? with
  | some (some (V.int e)) => e.toNat
  | _ => 0
theorem perm_nat {ms : List Int} {cs : List Nat} (h : ms.Perm (nI cs)) : ∃ ns : List Nat, ms = nI ns ∧ ns.Perm cs := by
  refine ⟨ms.map Int.toNat, ?_, ?_⟩
  · unfold nI
    rw [List.map_map]
    refine (List.map_id ms).symm.trans (List.map_congr_left fun x hx => ?_)
    obtain ⟨i, _, rfl⟩ := List.mem_map.mp (h.mem_iff.mp hx)
    rfl
  · have := h.map Int.toNat
    unfold nI at this
    rw [List.map_map] at this
    have e : (cs.map (Int.toNat ∘ fun i : Nat => (i : Int))) = cs := by
      refine (List.map_congr_left fun x _ => ?_).trans (List.map_id cs)
      rfl
    rwa [e] at this
theorem strict {ns : List Nat} (h1 : (nI ns).Pairwise (· ≤ ·)) (h2 : ns.Nodup) : ns.Pairwise (· < ·) := by
  unfold nI at h1
  rw [List.pairwise_map] at h1
  exact (h1.and h2).imp fun h => by omega
theorem perm_sum {l1 l2 : List Int} (h : l1.Perm l2) : l1.sum = l2.sum := by
  induction h with
  | nil => rfl
  | cons x _ ih => simp only [List.sum_cons, ih]
  | swap x y l => simp only [List.sum_cons]; omega
  | trans _ _ a b => exact a.trans b
theorem wsum_perm {S : List Sn} {ms cs : List Nat} (h : ms.Perm cs) : wsum S ms = wsum S cs := perm_sum (h.map _)
theorem wsum_push (S : List Sn) (cs : List Nat) (i : Nat) : wsum S (cs ++ [i]) = wsum S cs + ww S i := by
  unfold wsum
  rw [List.map_append, List.sum_append]
  show _ + ([ww S i]).sum = _
  rw [List.sum_singleton]
theorem pw_forall {R : Nat → Nat → Prop} (hs : ∀ i j, R i j → R j i) : ∀ {l : List Nat}, l.Pairwise R → ∀ i ∈ l, ∀ j ∈ l, i ≠ j → R i j
  | [], _, i, hi, _, _, _ => by cases hi
  | x :: l, h, i, hi, j, hj, ne => by
    rw [List.pairwise_cons] at h
    rcases List.mem_cons.mp hi with e1 | hi'
    · rcases List.mem_cons.mp hj with e2 | hj'
      · exact absurd (e1.trans e2.symm) ne
      · rw [e1]; exact h.1 j hj'
    · rcases List.mem_cons.mp hj with e2 | hj'
      · rw [e2]; exact hs _ _ (h.1 i hi')
      · exact pw_forall hs h.2 i hi' j hj' ne
noncomputable def spChosen (K : PySem.W.Frag) : Sp := fun vs H Q _ => ∃ (a l : Addr) (us : List V) (S : List Sn) (L : List Int) (m : Nat), vs = [.ref a, .ref l] ∧ Lsn H a us S ∧ S.length ≤ 400 ∧ H l = some (.lst (L.map V.int)) ∧ L.length = m + 1 ∧ m ≤ 24 ∧ (∀ s ∈ S, s.ok m) ∧ SumsOk S L ∧
  ∀ (q : Addr) (ms : List Nat) (H' : Hp), H q = none → Same H H' → H' q = some (.lst ((nI ms).map V.int)) → ms.length ≤ 24 → Chos S ms → wsum S ms = L.getD m 0 → Q (.ref q) H'
theorem sc_chosen_from : FnScope ["stretches", "sums", "chosen", "end", "place"] ["stretches", "sums"] (defScope s_chosen_from) := ⟨rfl, rfl, rfl, by decide +kernel, rfl, by decide +kernel, by decide +kernel⟩
theorem h_chosen_from (T : Txt K mg) : Has P w K mg base 2 "chosen_from" ["stretches", "sums"] (spChosen K) := by
  have h_last_of_the_most := h_last_of_the_most (P := P) (w := w) (base := base) T
  refine hasJ T.d_chosen_from sc_chosen_from (fun _ _ _ _ _ _ us hl => L2.usN2 (fun _ _ => rfl) us hl) ?_ fun f cdv A outer s H vs Q E hr h => ?_
  · rintro vs H Q E ⟨a, l, us, S, L, m, rfl, _⟩; rfl
  obtain ⟨a, l, us, S, L, m, rfl, hL, hl, hLs, hLl, hm, hok, hSO, q⟩ := h
  have hu := hr.units0
  have hu64 := hr.units
  refine ⟨_, (jb_cons (js_set (i := 2) sc_chosen_from.nd rfl (Or.inl k_chosen_from_chosen) (j_lst ja_nil) rfl) (jb_cons (js_set (i := 3) sc_chosen_from.nd rfl (Or.inl k_chosen_from_end) (j_op op_sub (j_callB (call_lenK (K := K) rfl) (glF k_chosen_from_len) T.b_len bt_len (ja_cons (j_vL 1 k_chosen_from_sums) ja_nil) (by decide +kernel) (by decide +kernel)) j_int) rfl) (jb_cons (js_while PassesOwn.never (jt_cmp op_gt (j_vL 3 k_chosen_from_end) j_int (by first | exact nomark _ | with_unfolding_all rfl)) (jb_cons (js_set (i := 4) sc_chosen_from.nd rfl (Or.inl k_chosen_from_place) (j_call h_last_of_the_most (hr.mono (by decide)) (glF k_chosen_from_last_of_the_most) (ja_cons (j_vL 0 k_chosen_from_stretches) (ja_cons (j_vL 1 k_chosen_from_sums) (ja_cons (j_vL 3 k_chosen_from_end) ja_nil))) (by decide +kernel)) rfl) (jb_one (js_if (jt_cmp op_isA (j_vL 4 k_chosen_from_place) j_non (by first | exact nomark _ | with_unfolding_all rfl)) (jb_one (js_aug (i := 3) sc_chosen_from.nd rfl (Or.inl k_chosen_from_end) j_int iop_sub rfl)) (jb_cons (js_expr (j_meth (K := K) rfl PySem.F.plainAttrs_list PySem.F.slot_list_append PySem.F.type_list_append mt_append (j_vL 2 k_chosen_from_chosen) (ja_cons (j_vL 4 k_chosen_from_place) ja_nil))) (jb_one (js_set (i := 3) sc_chosen_from.nd rfl (Or.inl k_chosen_from_end) (j_ix (K := K) rfl (j_ix (K := K) rfl (j_vL 0 k_chosen_from_stretches) (j_vL 4 k_chosen_from_place)) j_int) rfl))))))) (jb_one (js_ret (j_callB call_sorted1 (glF k_chosen_from_sorted) T.b_sorted bt_sorted (ja_cons (j_vL 2 k_chosen_from_chosen) ja_nil) (by decide +kernel) (by decide +kernel))))))), ?_⟩
  walk_at "sts"
  have hs : 1000 ≤ sizeLine := by decide
  have hul := hL.len
  refine r_new rfl fun c nc => ?_
  walk_at "sts"
  refine r_lenL (SqL.of (upd_old nc hLs)) ?_
  walk_at "sts"
  have em : (((L.map V.int).length : Nat) : Int) - 1 = (m : Int) := by rw [List.length_map, hLl]; omega
  rw [em]
  refine while_by (fun σ H' => ∃ (e : Nat) (cs : List Nat) (x4 : Option V), σ = [some (.ref a), some (.ref l), some (.ref c), some (.int e), x4] ∧ e ≤ m ∧ Same H H' ∧ H' c = some (.lst ((nI cs).map V.int)) ∧ cs.length + e ≤ m ∧ (∀ i ∈ cs, i < S.length ∧ e ≤ bb S i) ∧ cs.Pairwise (fun i j => ee S j ≤ bb S i) ∧ wsum S cs + L.getD e 0 = L.getD m 0) mu3
    ⟨m, [], none, rfl, Nat.le_refl _, (Same.refl H).upd nc, upd_same, by simp, (fun i hi => by cases hi), .nil, by unfold wsum; simp⟩ ?_ ?_
  · rintro σ H' ⟨e, cs, x4, rfl, he, s, hc, hcl, hin, hpw, hw⟩
    have hL' := hL.same s
    have hLs' := s _ _ hLs
    walk_at "sts"
    refine iteD (fun h0 => ?_) (fun h0 => ?_)
    · walk_at "sts"
      refine ⟨a, l, us, S, L, e, rfl, hL', hl, hLs', by omega, by rw [hLl]; exact hok, fun i t hti hte htw H1 S1 => ?_, fun hno H1 S1 => ?_⟩
      · have okt := hok t (List.mem_of_getElem? hti)
        have hil : i < S.length := (List.getElem?_eq_some_iff.mp hti).1
        have hc1 := S1 _ _ hc
        walk_at "sts"
        rw [decide_eq_false (fun h => by cases h)]
        walk_at "sts"
        refine ⟨.inl ⟨rfl, _, SqL.of hc1⟩, ?_⟩
        walk_at "sts"
        refine r_append hc1 (by unfold nI; simp; omega) ?_
        walk_at "sts"
        have hus : us[i]? = some (us[i]'(by omega)) := List.getElem?_eq_getElem _
        obtain ⟨t', ad, hti', hua, hta⟩ := DRs_sn (hL'.same S1).2 hus
        rw [hti] at hti'
        cases hti'
        have hca : a ≠ c := fun z => by
          have h1 := hL.1
          rw [z, nc] at h1; cases h1
        have hta2 : upd H1 c (.lst ((nI cs).map V.int ++ [.int i])) ad = some (.tup [.int t.w, .int t.b, .int t.e]) := by
          rw [upd_ne (fun z => by rw [z, hc1] at hta; cases hta)]; exact hta
        have ha2 : upd H1 c (.lst ((nI cs).map V.int ++ [.int i])) a = some (.lst us) := by rw [upd_ne hca]; exact (hL'.same S1).1
        refine r_ixL (SqL.of ha2) (atI_nat (j := i) (hus.trans (by rw [hua]))) ?_
        walk_at "sts"
        try refine r_ixT (SqT.of hta2) (atI_nat (j := 1) rfl) ?_
        walk_at "sts"
        refine ⟨⟨t.b, cs ++ [i], _, rfl, by have := okt.2.2; omega, Same.put (s.trans S1) nc, ?_, by simp; have := okt.2.2; omega, fun j hj => ?_, ?_, ?_⟩, ?_⟩
        · unfold nI
          rw [List.map_append, List.map_append]; exact upd_same
        · rcases List.mem_append.mp hj with h | h
          · have := hin j h
            exact ⟨this.1, by have := okt.2.2; omega⟩
          · rw [List.mem_singleton.mp h, bb_of hti]; exact ⟨hil, Nat.le_refl _⟩
        · rw [List.pairwise_append]
          refine ⟨hpw, List.pairwise_singleton _ _, fun j hj k hk => ?_⟩
          rw [List.mem_singleton.mp hk, ee_of hti, hte]
          exact (hin j hj).2
        · rw [wsum_push, ww_of hti]
          omega
        · show t.b < (e : Int).toNat
          have := okt.2.2
          omega
      · walk_at "sts"
        rw [decide_eq_true rfl]
        walk_at "sts"
        have hep : L.getD e 0 = L.getD (e - 1) 0 := by
          rcases hSO.why e (by omega) (by omega) with h | ⟨t, ht, h1, h2⟩
          · exact h
          · exact absurd h2.symm (hno t ht h1)
        refine ⟨⟨e - 1, cs, some .non, ?_, by omega, s.trans S1, S1 _ _ hc, by omega, fun i hi => ⟨(hin i hi).1, by have := (hin i hi).2; omega⟩, hpw, by omega⟩, ?_⟩
        · rw [show ((e - 1 : Nat) : Int) = (e : Int) - 1 by omega]; rfl
        · show ((e : Int) - 1).toNat < (e : Int).toNat
          omega
    · have e0 : e = 0 := by omega
      subst e0
      walk_at "sts"
      have hcl2 : cs.length ≤ 24 := by omega
      refine r_sorted hc (by unfold nI; simp; omega) fun q1 ms nq perm pw => ?_
      walk_at "sts"
      obtain ⟨ns, rfl, hp⟩ := perm_nat perm
      have nod : cs.Nodup := by
        refine hpw.imp_of_mem fun {i j} hi hj h => ?_
        intro e
        subst e
        obtain ⟨t, ht⟩ : ∃ t, S[i]? = some t := ⟨_, List.getElem?_eq_getElem (hin i hi).1⟩
        rw [bb_of ht, ee_of ht] at h
        have := (hok t (List.mem_of_getElem? ht)).2.2
        omega
      refine q q1 ns _ (Same.back s nq) (s.upd nq) upd_same (by rw [hp.length_eq]; exact hcl2) ⟨fun i hi => (hin i (hp.mem_iff.mp hi)).1, strict pw (hp.nodup_iff.mpr nod), fun i hi j hj ne => ?_⟩ ?_
      · have sym : cs.Pairwise (fun i j => ee S i ≤ bb S j ∨ ee S j ≤ bb S i) := hpw.imp fun h => .inr h
        exact pw_forall (fun _ _ h => h.symm) sym i (hp.mem_iff.mp hi) j (hp.mem_iff.mp hj) ne
      · rw [wsum_perm hp]
        have := hSO.zero
        omega
  · rintro σ H Q Q' h ⟨v, e, i, j, e1, e2, k, e3, q⟩
    exact ⟨v, e, i, j, e1, e2, k, e3, h _ _ q⟩
noncomputable def spApart (K : PySem.W.Frag) : Sp := fun vs H Q _ => ∃ (m : Nat) (a : Addr) (us : List V) (S : List Sn), vs = [.int m, .ref a] ∧ m ≤ 24 ∧ Lsn H a us S ∧ S.length ≤ 400 ∧ (∀ s ∈ S, s.ok m) ∧
  ∀ (t ch pr : Addr) (L : List Int) (ms : List Nat) (H' : Hp), H ch = none → H pr = none → ch ≠ pr → Same H H' → H' t = some (.tup [.int (L.getD m 0), .ref ch, .ref pr]) → H' ch = some (.lst ((nI ms).map V.int)) → H' pr = some (.lst ((prs L m).map V.int)) →
    L.length = m + 1 → SumsOk S L → ms.length ≤ 24 → Chos S ms → wsum S ms = L.getD m 0 → Q (.ref t) H'
theorem sc_apart : FnScope ["many", "stretches", "sums", "prices"] ["many", "stretches"] (defScope s_apart) := ⟨rfl, rfl, rfl, by decide +kernel, rfl, by decide +kernel, by decide +kernel⟩
theorem h_apart (T : Txt K mg) : Has P w K mg base 6 "apart" ["many", "stretches"] (spApart K) := by
  have h_need_stretches := h_need_stretches (P := P) (w := w) (base := base) T
  have h_sums_by_end := h_sums_by_end (P := P) (w := w) (base := base) T
  have h_chosen_from := h_chosen_from (P := P) (w := w) (base := base) T
  refine hasJ T.d_apart sc_apart (fun _ _ _ _ _ _ us hl => L2.usN2 (fun _ _ => rfl) us hl) ?_ fun f cdv A outer s H vs Q E hr h => ?_
  · rintro vs H Q E ⟨m, a, us, S, rfl, _⟩; rfl
  obtain ⟨m, a, us, S, rfl, hm, hL, hl, hok, q⟩ := h
  have hu := hr.units0
  have hu64 := hr.units
  refine ⟨_, (jb_cons (js_expr (j_call h_need_stretches (hr.mono (by decide)) (glF k_apart_need_stretches) (ja_cons (j_vL 0 k_apart_many) (ja_cons (j_vL 1 k_apart_stretches) ja_nil)) (by decide +kernel))) (jb_cons (js_set (i := 2) sc_apart.nd rfl (Or.inr k_apart_sums) (j_call h_sums_by_end (hr.mono (by decide)) (glF k_apart_sums_by_end) (ja_cons (j_vL 0 k_apart_many) (ja_cons (j_vL 1 k_apart_stretches) ja_nil)) (by decide +kernel)) rfl) (jb_cons (js_setC (i := 3) sc_apart.nd rfl (Or.inl k_apart_prices) (sub := [none, some 2]) (subOk_of (N := ["many", "stretches", "sums", "prices"]) (sc := defScope s_apart) (N' := ["place", "sums"]) (by decide +kernel)) rfl rfl rfl (ji_range1 (glF k_apart_range) T.b_range (ja_cons (j_vL 0 k_apart_many) ja_nil)) (fun C s₀ H₀ ex => (jg_B 0 (by decide +kernel) nd_apart_0)) (fun C s₀ H₀ ex => jif_nil) (fun C s₀ H₀ ex => (j_op op_sub (j_ix (K := K) rfl (j_vBF 1 (by decide +kernel)) (j_op op_addA (j_vBL 0 (by decide +kernel)) j_int)) (j_ix (K := K) rfl (j_vBF 1 (by decide +kernel)) (j_vBL 0 (by decide +kernel))))) rfl) (jb_one (js_ret (j_tup (ja_cons (j_ix (K := K) rfl (j_vC 2 k_apart_sums) (j_un un_neg j_int)) (ja_cons (j_call h_chosen_from (hr.mono (by decide)) (glF k_apart_chosen_from) (ja_cons (j_vL 1 k_apart_stretches) (ja_cons (j_vC 2 k_apart_sums) ja_nil)) (by decide +kernel)) (ja_cons (j_vL 3 k_apart_prices) ja_nil))))))))), ?_⟩
  walk_at "sts"
  have hs : 1000 ≤ sizeLine := by decide
  refine ⟨m, a, us, S, rfl, hm, hL, hl, hok, fun H1 S1 => ?_⟩
  walk_at "sts"
  refine ⟨m, a, us, S, rfl, hm, hL.same S1, hl, hok, fun sm L H2 nsm S2 hsm hLl hSO => ?_⟩
  walk_at "sts"
  refine ⟨_, rfl, by omega, by omega, ?_⟩
  refine comp_rng (n := m) (fun i ys H' => H' = H2 ∧ ys = ((prs L m).take i).map V.int) (by omega) ⟨rfl, rfl⟩ ?_ ?_ ?_
  · rintro i ys H' ⟨_, rfl⟩
    simp; omega
  · rintro i ys H' hi ⟨rfl, rfl⟩
    have ep : (prs L m)[i]? = some (L.getD (i + 1) 0 - L.getD i 0) := by
      unfold prs
      rw [List.getElem?_map, List.getElem?_range hi]; rfl
    walk_at "sts"
    refine ⟨KeepSt.set rfl, ?_⟩
    walk_at "sts"
    refine r_ixL (SqL.of hsm) (at_nat (k := i + 1) (by omega) (by omega)) ?_
    walk_at "sts"
    refine r_ixL (SqL.of hsm) (at_nat (k := i) (by omega) (by omega)) ?_
    walk_at "sts"
    refine ⟨rfl, ?_⟩
    rw [List.take_add_one, ep, List.map_append]; rfl
  · rintro ys H' ⟨rfl, rfl⟩ pr npr
    rw [List.take_of_length_le (by rw [prs_len]; exact Nat.le_refl _)]
    have hpr : upd H' pr (.lst ((prs L m).map V.int)) pr = some (.lst ((prs L m).map V.int)) := upd_same
    have S3 : Same H' (upd H' pr (.lst ((prs L m).map V.int))) := (Same.refl H').upd npr
    generalize upd H' pr (.lst ((prs L m).map V.int)) = H3 at hpr S3 ⊢
    have hsm3 := S3 _ _ hsm
    have S13 := (S1.trans S2).trans S3
    walk_at "sts"
    refine r_ixL (SqL.of hsm3) (at_last hLl) ?_
    walk_at "sts"
    refine ⟨a, sm, us, S, L, m, rfl, hL.same S13, hl, hsm3, hLl, hm, hok, hSO, fun ch ms H4 nch S4 hch hml hC hw => ?_⟩
    walk_at "sts"
    refine r_new rfl fun t nt => ?_
    refine q t ch pr L ms _ (Same.back S13 nch) (Same.back (S1.trans S2) npr) (fun z => by rw [z, hpr] at nch; cases nch) ((S13.trans S4).upd nt) upd_same (upd_old nt hch) (upd_old nt (S4 _ _ hpr)) hLl hSO hml hC hw
end

section
variable {P : Program} {w : World} {K : PySem.W.Frag} {mg : Str → Option Value} {base : Heap}
theorem k_law_at__law_k : (defScope s_law_at).names.lookup ("_law_k" : Str) = some NameKind.local := by decide +kernel
theorem k_law_at_len : (defScope s_law_at).names.lookup ("len" : Str) = some NameKind.globalImplicit := by decide +kernel
theorem k_law_at__law_script : (defScope s_law_at).names.lookup ("_law_script" : Str) = some NameKind.local := by decide +kernel
theorem k_law_mix__law_two : (defScope s_law_mix).names.lookup ("_law_two" : Str) = some NameKind.local := by decide +kernel
theorem k_law_mix__law_one : (defScope s_law_mix).names.lookup ("_law_one" : Str) = some NameKind.local := by decide +kernel
theorem k_law_mix__law_cell : (defScope s_law_mix).names.lookup ("_law_cell" : Str) = some NameKind.local := by decide +kernel
theorem k_law_mix__law_k : (defScope s_law_mix).names.lookup ("_law_k" : Str) = some NameKind.local := by decide +kernel
theorem k_law_whole_isinstance : (defScope s_law_whole).names.lookup ("isinstance" : Str) = some NameKind.globalImplicit := by decide +kernel
theorem k_law_whole_bool : (defScope s_law_whole).names.lookup ("bool" : Str) = some NameKind.globalImplicit := by decide +kernel
theorem k_law_whole__law_found : (defScope s_law_whole).names.lookup ("_law_found" : Str) = some NameKind.local := by decide +kernel
theorem k_law_whole_int : (defScope s_law_whole).names.lookup ("int" : Str) = some NameKind.globalImplicit := by decide +kernel
theorem k_law_span__law_end : (defScope s_law_span).names.lookup ("_law_end" : Str) = some NameKind.local := by decide +kernel
theorem k_law_span__law_begin : (defScope s_law_span).names.lookup ("_law_begin" : Str) = some NameKind.local := by decide +kernel
theorem k_law_span__law_cell : (defScope s_law_span).names.lookup ("_law_cell" : Str) = some NameKind.local := by decide +kernel
theorem k_law_span__law_great : (defScope s_law_span).names.lookup ("_law_great" : Str) = some NameKind.local := by decide +kernel
theorem k_law_span__law_many : (defScope s_law_span).names.lookup ("_law_many" : Str) = some NameKind.local := by decide +kernel
theorem k_law_spans__law_spans_here : (defScope s_law_spans).names.lookup ("_law_spans_here" : Str) = some NameKind.local := by decide +kernel
theorem k_law_spans__law_script : (defScope s_law_spans).names.lookup ("_law_script" : Str) = some NameKind.local := by decide +kernel
theorem k_law_spans__law_cell : (defScope s_law_spans).names.lookup ("_law_cell" : Str) = some NameKind.local := by decide +kernel
theorem k_law_spans_len : (defScope s_law_spans).names.lookup ("len" : Str) = some NameKind.globalImplicit := by decide +kernel
theorem k_law_spans__law_mix : (defScope s_law_spans).names.lookup ("_law_mix" : Str) = some NameKind.globalImplicit := by decide +kernel
theorem k_law_spans_range : (defScope s_law_spans).names.lookup ("range" : Str) = some NameKind.globalImplicit := by decide +kernel
theorem k_law_spans__law_k : (defScope s_law_spans).names.lookup ("_law_k" : Str) = some NameKind.local := by decide +kernel
theorem k_law_spans__law_many : (defScope s_law_spans).names.lookup ("_law_many" : Str) = some NameKind.local := by decide +kernel
theorem k_law_spans__law_span : (defScope s_law_spans).names.lookup ("_law_span" : Str) = some NameKind.globalImplicit := by decide +kernel
theorem k_law_spans__law_great : (defScope s_law_spans).names.lookup ("_law_great" : Str) = some NameKind.local := by decide +kernel
noncomputable def spCell (K : PySem.W.Frag) : Sp := fun vs H Q _ => ∃ (a : Addr) (ns : List Int) (k : Int), vs = [.ref a, .int k] ∧ SqL K H a (ns.map V.int) ∧ 0 ≤ k ∧ ∀ n, Q (.int n) H
theorem sc_law_at : FnScope ["_law_script", "_law_k"] ["_law_script", "_law_k"] (defScope s_law_at) := ⟨rfl, rfl, rfl, by decide +kernel, rfl, by decide +kernel, by decide +kernel⟩
theorem h_law_at (T : Txt K mg) : Has P w K mg base 1 "_law_at" ["_law_script", "_law_k"] (spCell K) := by
  refine hasJ T.d_law_at sc_law_at (fun _ _ _ _ _ _ us hl => L2.usN2 (fun _ _ => rfl) us hl) ?_ fun f cdv A outer s H vs Q E hr h => ?_
  · rintro vs H Q E ⟨a, ns, k, rfl, _⟩; rfl
  obtain ⟨a, ns, k, rfl, hS, h0, q⟩ := h
  have hu := hr.units0
  have hu64 := hr.units
  refine ⟨_, (jb_cons (js_if (jt_cmp op_lt (j_vL 1 k_law_at__law_k) (j_callB (call_lenK (K := K) rfl) (glF k_law_at_len) T.b_len bt_len (ja_cons (j_vL 0 k_law_at__law_script) ja_nil) (by decide +kernel) (by decide +kernel)) (by first | exact nomark _ | with_unfolding_all rfl)) (jb_one (js_ret (j_ix (K := K) rfl (j_vL 0 k_law_at__law_script) (j_vL 1 k_law_at__law_k)))) jb_nil) (jb_one (js_ret j_int))), ?_⟩
  walk_at "sts"
  refine ⟨_, _, rfl, .inl ⟨_, hS, rfl⟩, ?_⟩
  walk_at "sts"
  refine iteD (fun hk => ?_) (fun hk => ?_)
  · rw [List.length_map] at hk
    walk_at "sts"
    refine r_ixL hS (atI_int (v := .int (ns.getD k.toNat 0)) h0 ?_) (q _)
    rw [List.getElem?_map, List.getD_eq_getElem?_getD, List.getElem?_eq_getElem (by omega)]; rfl
  · walk_at "sts"
    exact q _
noncomputable def spMix : Sp := fun vs H Q _ => ∃ n k : Int, vs = [.int n, .int k] ∧ ∀ r, Q (.int r) H
theorem sc_law_mix : FnScope ["_law_cell", "_law_k", "_law_one", "_law_two"] ["_law_cell", "_law_k"] (defScope s_law_mix) := ⟨rfl, rfl, rfl, by decide +kernel, rfl, by decide +kernel, by decide +kernel⟩
theorem h_law_mix (T : Txt K mg) : Has P w K mg base 1 "_law_mix" ["_law_cell", "_law_k"] spMix := by
  refine hasJ T.d_law_mix sc_law_mix (fun _ _ _ _ _ _ us hl => L2.usN2 (fun _ _ => rfl) us hl) ?_ fun f cdv A outer s H vs Q E hr h => ?_
  · rintro vs H Q E ⟨n, k, rfl, _⟩; rfl
  obtain ⟨n, k, rfl, q⟩ := h
  have hu := hr.units0
  have hu64 := hr.units
  refine ⟨_, (jb_cons (js_set (i := 2) sc_law_mix.nd rfl (Or.inl k_law_mix__law_one) (j_op op_mod (j_op op_mulA (j_op op_addA (j_op op_addA (j_op op_mod (j_vL 0 k_law_mix__law_cell) j_int) (j_op op_mulA j_int (j_vL 1 k_law_mix__law_k))) j_int) j_int) j_int) rfl) (jb_cons (js_set (i := 3) sc_law_mix.nd rfl (Or.inl k_law_mix__law_two) (j_op op_mod (j_op op_mulA (j_op op_addA (j_op op_mod (j_vL 2 k_law_mix__law_one) j_int) j_int) (j_op op_addA (j_op op_addA (j_op op_fdiv (j_vL 2 k_law_mix__law_one) j_int) (j_op op_mod (j_op op_fdiv (j_vL 0 k_law_mix__law_cell) j_int) j_int)) j_int)) j_int) rfl) (jb_one (js_ret (j_op op_fdiv (j_vL 3 k_law_mix__law_two) j_int))))), ?_⟩
  walk_at "sts"
  exact q _
noncomputable def spWhole : Sp := fun vs H Q _ => ∃ n : Int, vs = [.int n] ∧ Q (.bl true) H
theorem sc_law_whole : FnScope ["_law_found"] ["_law_found"] (defScope s_law_whole) := ⟨rfl, rfl, rfl, by decide +kernel, rfl, by decide +kernel, by decide +kernel⟩
theorem h_law_whole (T : Txt K mg) : Has P w K mg base 1 "_law_whole" ["_law_found"] spWhole := by
  refine hasJ T.d_law_whole sc_law_whole (fun _ _ _ _ _ _ us hl => L2.usN1 (fun _ => rfl) us hl) ?_ fun f cdv A outer s H vs Q E hr h => ?_
  · rintro vs H Q E ⟨n, rfl, _⟩; rfl
  obtain ⟨n, rfl, q⟩ := h
  have hu := hr.units0
  have hu64 := hr.units
  refine ⟨_, (jb_one (js_ret (j_and (j_callB (call_isiK (K := K) rfl) (glF k_law_whole_isinstance) T.b_isinstance bt_isinstance (ja_cons (j_vL 0 k_law_whole__law_found) (ja_cons (j_ty (glF k_law_whole_int) T.b_int bt_int (by decide +kernel) (by decide +kernel)) ja_nil)) (by decide +kernel) (by decide +kernel)) (j_one (j_not (j_callB (call_isiK (K := K) rfl) (glF k_law_whole_isinstance) T.b_isinstance bt_isinstance (ja_cons (j_vL 0 k_law_whole__law_found) (ja_cons (j_ty (glF k_law_whole_bool) T.b_bool bt_bool (by decide +kernel) (by decide +kernel)) ja_nil)) (by decide +kernel) (by decide +kernel))))))), ?_⟩
  walk_at "sts"
  refine r_isi (.int _) rfl ?_
  walk_at "sts"
  refine r_isi (.int _) rfl ?_
  walk_at "sts"
  exact q
noncomputable def spSpanL : Sp := fun vs H Q _ => ∃ (n : Int) (m : Nat) (g : Bool), vs = [.int n, .int m, .bl g] ∧ 0 < m ∧ m ≤ 24 ∧ ∀ v H' (s : Sn), Same H H' → s.ok m → DR H' s.dat v → Q v H'
theorem sc_law_span : FnScope ["_law_cell", "_law_many", "_law_great", "_law_begin", "_law_end"] ["_law_cell", "_law_many", "_law_great"] (defScope s_law_span) := ⟨rfl, rfl, rfl, by decide +kernel, rfl, by decide +kernel, by decide +kernel⟩
theorem h_law_span (T : Txt K mg) : Has P w K mg base 1 "_law_span" ["_law_cell", "_law_many", "_law_great"] spSpanL := by
  refine hasJ T.d_law_span sc_law_span (fun _ _ _ _ _ _ us hl => L2.usN3 (fun _ _ _ => rfl) us hl) ?_ fun f cdv A outer s H vs Q E hr h => ?_
  · rintro vs H Q E ⟨n, m, g, rfl, _⟩; rfl
  obtain ⟨n, m, g, rfl, hm0, hm, q⟩ := h
  have hu := hr.units0
  have hu64 := hr.units
  refine ⟨_, (jb_cons (js_set (i := 3) sc_law_span.nd rfl (Or.inl k_law_span__law_begin) (j_op op_mod (j_vL 0 k_law_span__law_cell) (j_vL 1 k_law_span__law_many)) rfl) (jb_cons (js_set (i := 0) sc_law_span.nd rfl (Or.inl k_law_span__law_cell) (j_op op_fdiv (j_vL 0 k_law_span__law_cell) (j_vL 1 k_law_span__law_many)) rfl) (jb_cons (js_set (i := 4) sc_law_span.nd rfl (Or.inl k_law_span__law_end) (j_op op_addA (j_op op_addA (j_vL 3 k_law_span__law_begin) j_int) (j_op op_mod (j_vL 0 k_law_span__law_cell) (j_op op_sub (j_vL 1 k_law_span__law_many) (j_vL 3 k_law_span__law_begin)))) rfl) (jb_cons (js_set (i := 0) sc_law_span.nd rfl (Or.inl k_law_span__law_cell) (j_op op_fdiv (j_vL 0 k_law_span__law_cell) (j_vL 1 k_law_span__law_many)) rfl) (jb_cons (js_if (jt_val (j_vL 2 k_law_span__law_great)) (jb_one (js_ret (j_tup (ja_cons (j_op op_addA j_int (j_op op_mod (j_vL 0 k_law_span__law_cell) j_int)) (ja_cons (j_vL 3 k_law_span__law_begin) (ja_cons (j_vL 4 k_law_span__law_end) ja_nil)))))) jb_nil) (jb_one (js_ret (j_tup (ja_cons (j_op op_addA j_int (j_op op_mod (j_vL 0 k_law_span__law_cell) j_int)) (ja_cons (j_vL 3 k_law_span__law_begin) (ja_cons (j_vL 4 k_law_span__law_end) ja_nil))))))))))), ?_⟩
  walk_at "sts"
  have b0 := Int.emod_nonneg n (show (m : Int) ≠ 0 by omega)
  have b1 := Int.emod_lt_of_pos n (show (0 : Int) < (m : Int) by omega)
  try refine r_i (show (0 : Int) < (m : Int) - n % (m : Int) by omega) ?_
  walk_at "sts"
  have c0 := Int.emod_nonneg (n / (m : Int)) (show (m : Int) - n % (m : Int) ≠ 0 by omega)
  have c1 := Int.emod_lt_of_pos (n / (m : Int)) (show (0 : Int) < (m : Int) - n % (m : Int) by omega)
  generalize n / (m : Int) % ((m : Int) - n % (m : Int)) = y at c0 c1 ⊢
  generalize n % (m : Int) = x at b0 b1 c1 ⊢
  obtain ⟨b, rfl⟩ : ∃ b : Nat, x = b := ⟨_, (Int.toNat_of_nonneg b0).symm⟩
  obtain ⟨d, rfl⟩ : ∃ d : Nat, y = d := ⟨_, (Int.toNat_of_nonneg c0).symm⟩
  have key : ∀ W : Int, 0 ≤ W → W < 1000000 → ∀ t, H t = none → ∃ s : Sn, s.ok m ∧ DR (upd H t (.tup [.int (1 + W), .int b, .int ((b : Int) + 1 + d)])) s.dat (.ref t) := fun W h0 h1 t nt => by
    refine ⟨⟨1 + W.toNat, b, b + 1 + d⟩, ⟨by show 1 ≤ 1 + W.toNat; omega, by show 1 + W.toNat ≤ 1000000; omega, by show b < b + 1 + d; omega, by show b + 1 + d ≤ m; omega⟩, DR_sn.mpr ⟨t, rfl, ?_⟩⟩
    rw [upd_same]
    show some (HO.tup [.int (1 + W), .int b, .int ((b : Int) + 1 + d)]) = some (HO.tup [.int ((1 + W.toNat : Nat) : Int), .int (b : Nat), .int ((b + 1 + d : Nat) : Int)])
    rw [show ((1 + W.toNat : Nat) : Int) = 1 + W by omega, show ((b + 1 + d : Nat) : Int) = (b : Int) + 1 + d by omega]
  cases g with
  | true =>
    walk_at "sts"
    refine r_new rfl fun t nt => ?_
    obtain ⟨s, ok, hd⟩ := key _ (Int.emod_nonneg _ (by decide)) (Int.emod_lt_of_pos _ (by decide)) t nt
    exact q _ _ s ((Same.refl H).upd nt) ok hd
  | false =>
    walk_at "sts"
    refine r_new rfl fun t nt => ?_
    obtain ⟨s, ok, hd⟩ := key (n / (m : Int) / (m : Int) % 9) (by omega) (by omega) t nt
    exact q _ _ s ((Same.refl H).upd nt) ok hd
theorem sn_upd {H : Hp} {p : Addr} {xs : List V} {o : HO} (hp : H p = some (.lst xs)) : ∀ {S : List Sn} {us : List V}, DRs H (S.map Sn.dat) us → DRs (upd H p o) (S.map Sn.dat) us
  | [], us, h => by rw [List.map_nil, DRs_nil] at h ⊢; exact h
  | s :: S, us, h => by
    rw [List.map_cons, DRs_cons] at h
    obtain ⟨v, r, rfl, h1, h2⟩ := h
    obtain ⟨t, rfl, ht⟩ := DR_sn.mp h1
    rw [List.map_cons, DRs_cons]
    exact ⟨_, _, rfl, DR_sn.mpr ⟨t, rfl, by rw [upd_ne (fun z => by rw [z, hp] at ht; cases ht)]; exact ht⟩, sn_upd hp h2⟩
theorem sn_take {H : Hp} : ∀ {S : List Sn} {us : List V} (n : Nat), DRs H (S.map Sn.dat) us → DRs H ((S.take n).map Sn.dat) (us.take n)
  | [], us, n, h => by rw [List.map_nil, DRs_nil] at h; subst h; simp [DRs_nil]
  | s :: S, us, 0, h => by simp [DRs_nil]
  | s :: S, us, n + 1, h => by
    rw [List.map_cons, DRs_cons] at h
    obtain ⟨v, r, rfl, h1, h2⟩ := h
    rw [List.take_succ_cons, List.take_succ_cons, List.map_cons, DRs_cons]
    exact ⟨_, _, rfl, h1, sn_take n h2⟩
structure Grow (H H' : Hp) (sp : Addr) (m : Nat) (us : List V) (S : List Sn) (n : Nat) : Prop where
  same : Same H H'
  at_ : H' sp = some (.lst us)
  dat : DRs H' (S.map Sn.dat) us
  ok : ∀ s ∈ S, s.ok m
  len : S.length ≤ n
theorem Grow.ulen {H H' : Hp} {sp : Addr} {m n : Nat} {us : List V} {S : List Sn} (g : Grow H H' sp m us S n) : us.length = S.length := by
  have := DRs_len g.dat
  rwa [List.length_map] at this
theorem Grow.push {H H' H1 : Hp} {sp : Addr} {m n : Nat} {us : List V} {S : List Sn} {v : V} {s : Sn} (g : Grow H H' sp m us S n) (nsp : H sp = none) (S1 : Same H' H1) (ok : s.ok m) (hd : DR H1 s.dat v) : Grow H (upd H1 sp (.lst (us ++ [v]))) sp m (us ++ [v]) (S ++ [s]) (n + 1) := by
  refine ⟨Same.put (g.same.trans S1) nsp, upd_same, ?_, fun t ht => ?_, by have := g.len; simp; omega⟩
  · refine sn_upd (S1 _ _ g.at_) ?_
    rw [List.map_append]
    exact DRs_append (DRs.same S1 _ _ g.dat) (DRs_one hd)
  · rcases List.mem_append.mp ht with h | h
    · exact g.ok t h
    · rw [List.mem_singleton.mp h]; exact ok
theorem Grow.mono {H H' : Hp} {sp : Addr} {m n k : Nat} {us : List V} {S : List Sn} (g : Grow H H' sp m us S n) (h : n ≤ k) : Grow H H' sp m us S k := ⟨g.same, g.at_, g.dat, g.ok, Nat.le_trans g.len h⟩
theorem Grow.sames {H H' H1 : Hp} {sp : Addr} {m n : Nat} {us : List V} {S : List Sn} (g : Grow H H' sp m us S n) (s : Same H' H1) : Grow H H1 sp m us S n := ⟨g.same.trans s, s _ _ g.at_, DRs.same s _ _ g.dat, g.ok, g.len⟩
theorem cut_map (ns : List Int) (lo hi : Option Int) : ∃ ms : List Int, cutV (ns.map V.int) lo hi = ms.map V.int := by
  unfold cutV
  exact ⟨_, by rw [← List.map_drop, ← List.map_take]⟩
theorem cut_take (xs : List V) (n : Nat) : cutV xs none (some (n : Int)) = xs.take n := by
  unfold cutV
  rw [HT.sIx_none, HT.sIx_nat, List.drop_zero, Nat.sub_zero]
  by_cases h : n ≤ xs.length
  · rw [Nat.min_eq_left h]
  · rw [Nat.min_eq_right (by omega), List.take_of_length_le (Nat.le_refl _), List.take_of_length_le (by omega)]
noncomputable def spSpansL (K : PySem.W.Frag) : Sp := fun vs H Q _ => ∃ (a : Addr) (ns : List Int) (m : Nat) (g : Bool), vs = [.ref a, .int m, .bl g] ∧ SqL K H a (ns.map V.int) ∧ ns.length ≤ 63 ∧ m ≤ 24 ∧
  ∀ (q : Addr) (us : List V) (S : List Sn) (H' : Hp), Same H H' → Lsn H' q us S → S.length ≤ 400 → (∀ s ∈ S, s.ok m) → (m = 0 → S = []) → Q (.ref q) H'
theorem sc_law_spans : FnScope ["_law_script", "_law_many", "_law_great", "_law_spans_here", "_law_cell", "_law_k"] ["_law_script", "_law_many", "_law_great"] (defScope s_law_spans) := ⟨rfl, rfl, rfl, by decide +kernel, rfl, by decide +kernel, by decide +kernel⟩
theorem h_law_spans (T : Txt K mg) : Has P w K mg base 2 "_law_spans" ["_law_script", "_law_many", "_law_great"] (spSpansL K) := by
  have h_law_span := h_law_span (P := P) (w := w) (base := base) T
  have h_law_mix := h_law_mix (P := P) (w := w) (base := base) T
  refine hasJ T.d_law_spans sc_law_spans (fun _ _ _ _ _ _ us hl => L2.usN3 (fun _ _ _ => rfl) us hl) ?_ fun f cdv A outer s H vs Q E hr h => ?_
  · rintro vs H Q E ⟨a, ns, m, g, rfl, _⟩; rfl
  obtain ⟨a, ns, m, g, rfl, hS, hlen, hm, q⟩ := h
  have hu := hr.units0
  have hu64 := hr.units
  refine ⟨_, (jb_cons (js_set (i := 3) sc_law_spans.nd rfl (Or.inl k_law_spans__law_spans_here) (j_lst ja_nil) rfl) (jb_cons (js_if (jt_cmp (op_eqE (K := K) rfl hu64) (j_vL 1 k_law_spans__law_many) j_int (by first | exact nomark _ | with_unfolding_all rfl)) (jb_one (js_ret (j_vL 3 k_law_spans__law_spans_here))) jb_nil) (jb_cons (js_for PassesOwn.never rfl (ji_seq (K := K) rfl (j_slice (sl_seqK (K := K) rfl) (j_vL 0 k_law_spans__law_script) (jo_some j_int) (jo_some j_int))) (jg_name (i := 4) sc_law_spans.nd rfl (Or.inl k_law_spans__law_cell) rfl) (jb_cons (js_if (jt_cmp op_ge (j_vL 4 k_law_spans__law_cell) (j_op op_pow j_int j_int) (by first | exact nomark _ | with_unfolding_all rfl)) (jb_one (js_for PassesOwn.never rfl (ji_range1 (glF k_law_spans_range) T.b_range (ja_cons (j_op op_mod (j_vL 4 k_law_spans__law_cell) j_int) ja_nil)) (jg_name (i := 5) sc_law_spans.nd rfl (Or.inl k_law_spans__law_k) rfl) (jb_cons (js_expr (j_meth (K := K) rfl PySem.F.plainAttrs_list PySem.F.slot_list_append PySem.F.type_list_append mt_append (j_vL 3 k_law_spans__law_spans_here) (ja_cons (j_call h_law_span (hr.mono (by decide)) (glF k_law_spans__law_span) (ja_cons (j_op op_fdiv (j_vL 4 k_law_spans__law_cell) j_int) (ja_cons (j_vL 1 k_law_spans__law_many) (ja_cons (j_vL 2 k_law_spans__law_great) ja_nil))) (by decide +kernel)) ja_nil))) (jb_one (js_set (i := 4) sc_law_spans.nd rfl (Or.inl k_law_spans__law_cell) (j_op op_addA (j_op op_mulA (j_op op_fdiv (j_op op_fdiv (j_op op_fdiv (j_op op_fdiv (j_vL 4 k_law_spans__law_cell) j_int) (j_vL 1 k_law_spans__law_many)) (j_vL 1 k_law_spans__law_many)) j_int) j_int) (j_op op_mod (j_vL 4 k_law_spans__law_cell) j_int)) rfl))))) (jb_one (js_for PassesOwn.never rfl (ji_range1 (glF k_law_spans_range) T.b_range (ja_cons (j_ix (K := K) rfl (j_lst (ja_cons j_int (ja_cons j_int (ja_cons j_int (ja_cons j_int (ja_cons j_int (ja_cons j_int ja_nil))))))) (j_op op_mod (j_vL 4 k_law_spans__law_cell) j_int)) ja_nil)) (jg_name (i := 5) sc_law_spans.nd rfl (Or.inl k_law_spans__law_k) rfl) (jb_one (js_expr (j_meth (K := K) rfl PySem.F.plainAttrs_list PySem.F.slot_list_append PySem.F.type_list_append mt_append (j_vL 3 k_law_spans__law_spans_here) (ja_cons (j_call h_law_span (hr.mono (by decide)) (glF k_law_spans__law_span) (ja_cons (j_call h_law_mix (hr.mono (by decide)) (glF k_law_spans__law_mix) (ja_cons (j_vL 4 k_law_spans__law_cell) (ja_cons (j_vL 5 k_law_spans__law_k) ja_nil)) (by decide +kernel)) (ja_cons (j_vL 1 k_law_spans__law_many) (ja_cons (j_vL 2 k_law_spans__law_great) ja_nil))) (by decide +kernel)) ja_nil))))))) (jb_one (js_if (jw_pt (jw_and (jt_cmp (op_eqE (K := K) rfl hu64) (j_op op_mod (j_vL 4 k_law_spans__law_cell) j_int) j_int (by first | exact nomark _ | with_unfolding_all rfl)) (jw_and1 (jt_cmp op_gt (j_callB (call_lenK (K := K) rfl) (glF k_law_spans_len) T.b_len bt_len (ja_cons (j_vL 3 k_law_spans__law_spans_here) ja_nil) (by decide +kernel) (by decide +kernel)) j_int (by first | exact nomark _ | with_unfolding_all rfl))))) (jb_one (js_expr (j_meth (K := K) rfl PySem.F.plainAttrs_list PySem.F.slot_list_append PySem.F.type_list_append mt_append (j_vL 3 k_law_spans__law_spans_here) (ja_cons (j_ix (K := K) rfl (j_vL 3 k_law_spans__law_spans_here) (j_op op_mod (j_call h_law_mix (hr.mono (by decide)) (glF k_law_spans__law_mix) (ja_cons (j_vL 4 k_law_spans__law_cell) (ja_cons j_int ja_nil)) (by decide +kernel)) (j_callB (call_lenK (K := K) rfl) (glF k_law_spans_len) T.b_len bt_len (ja_cons (j_vL 3 k_law_spans__law_spans_here) ja_nil) (by decide +kernel) (by decide +kernel)))) ja_nil)))) jb_nil)))) (jb_one (js_ret (j_slice (sl_seqK (K := K) rfl) (j_vL 3 k_law_spans__law_spans_here) jo_none (jo_some j_int))))))), ?_⟩
  walk_at "sts"
  have hs : 2000 ≤ sizeLine := by decide
  refine r_new rfl fun sp nsp => ?_
  walk_at "sts"
  rw [dec_int2]
  refine iteD (fun h0 => ?_) (fun h0 => ?_)
  · walk_at "sts"
    exact q sp [] [] _ ((Same.refl H).upd nsp) ⟨upd_same, DRs_nil.mpr rfl⟩ (by simp) (fun s hs => by cases hs) fun _ => rfl
  have hm0 : 0 < m := by omega
  have hS1 : SqL K (upd H sp (.lst [])) a (ns.map V.int) := by
    rcases hS with (h | ⟨o, h⟩) | h
    · exact .inl (.inl (upd_old nsp h))
    · exact .inl (.inr ⟨o, upd_old nsp h⟩)
    · exact .inr h
  walk_at "sts"
  refine r_slL hS1 fun m1 n1 => ?_
  walk_at "sts"
  obtain ⟨ms, hms⟩ := cut_map ns (some 2) (some 63)
  have lms : ms.length ≤ 63 := by
    have := cutV_length (ns.map V.int) (some 2) (some 63)
    rw [hms, List.length_map, List.length_map] at this
    omega
  rw [hms]
  have g0 : Grow H (upd (upd H sp (.lst [])) m1 (.lst (ms.map V.int))) sp m [] [] 0 := ⟨((Same.refl H).upd nsp).upd n1, upd_old n1 upd_same, DRs_nil.mpr rfl, (fun s hs => by cases hs), by simp⟩
  have hm1 : upd (upd H sp (.lst [])) m1 (.lst (ms.map V.int)) m1 = some (.lst (ms.map V.int)) := upd_same
  have nm1 : m1 ≠ sp := fun z => by rw [z, upd_same] at n1; cases n1
  generalize upd (upd H sp (.lst [])) m1 (.lst (ms.map V.int)) = H1 at g0 hm1 ⊢
  refine .inl ⟨m1, rfl, ⟨_, SqL.of hm1⟩, ?_⟩
  refine for_list (xs := ms.map V.int) (fun k σ H' => ∃ (us : List V) (S : List Sn) (x4 x5 : Option V), σ = [some (.ref a), some (.int m), some (.bl g), some (.ref sp), x4, x5] ∧ Grow H H' sp m us S (13 * k) ∧ H' m1 = some (.lst (ms.map V.int)))
    ⟨[], [], _, _, rfl, g0, hm1⟩ (fun i σ H' _ h => ?_) ?_ ?_
  · obtain ⟨us, S, x4, x5, _, _, h⟩ := h
    exact SqL.of h
  · rintro k v σ H' hk ⟨us, S, x4, x5, rfl, gr, hm'⟩
    have hk63 : k < 63 := by have := (List.getElem?_eq_some_iff.mp hk).1; rw [List.length_map] at this; omega
    rw [List.getElem?_map] at hk
    obtain ⟨n, hn, rfl⟩ : ∃ y, ms[k]? = some y ∧ v = V.int y := by
      cases e : ms[k]? with
      | none => rw [e] at hk; cases hk
      | some y => rw [e] at hk; exact ⟨y, rfl, (Option.some.inj hk).symm⟩
    walk_at "stn"
    with_reducible refine r_cut (fun σ H'' => ∃ (n' : Int) (us : List V) (S : List Sn) (x5 : Option V), σ = [some (.ref a), some (.int m), some (.bl g), some (.ref sp), some (.int n'), x5] ∧ Grow H H'' sp m us S (13 * k + 12) ∧ H'' m1 = some (.lst (ms.map V.int))) ?_ ?_
    rotate_left
    · intro N hN
      walk_at "stn"
      refine iteD (fun hg => ?_) (fun hg => ?_)
      · walk_at "stn"
        refine ⟨_, rfl, by omega, by omega, ?_⟩
        have h13 : (n % 13).toNat ≤ 12 := by omega
        generalize (n % 13).toNat = T at h13 ⊢
        refine for_range (n := T) (fun j σ H'' => ∃ (n' : Int) (us : List V) (S : List Sn) (x5 : Option V), σ = [some (.ref a), some (.int m), some (.bl g), some (.ref sp), some (.int n'), x5] ∧ Grow H H'' sp m us S (13 * k + j) ∧ H'' m1 = some (.lst (ms.map V.int)))
          ⟨n, us, S, _, rfl, gr, hm'⟩ ?_ ?_
        · rintro j σ H'' hj ⟨n', us, S, x5, rfl, gr, hm'⟩
          have hul := gr.ulen
          have hln := gr.len
          walk_at "sts"
          refine ⟨.inl ⟨rfl, _, SqL.of gr.at_⟩, ?_⟩
          walk_at "sts"
          refine ⟨_, m, g, rfl, hm0, hm, fun v H2 s S2 ok hd => ?_⟩
          walk_at "sts"
          refine r_append (S2 _ _ gr.at_) (by omega) ?_
          walk_at "sts"
          exact ⟨_, _, _, _, rfl, gr.push nsp S2 ok hd, by rw [upd_ne nm1]; exact S2 _ _ hm'⟩
        · rintro σ H'' ⟨n', us, S, x5, rfl, gr, hm'⟩
          exact hN _ _ ⟨n', us, S, _, rfl, gr.mono (by omega), hm'⟩
      · walk_at "stn"
        refine r_new rfl fun p np => ?_
        walk_at "stn"
        obtain ⟨c, hc, ec⟩ := pickI (ns := [1, 1, 1, 0, 1, 7]) (d := n % 6) (by omega) (by show n % 6 < 6; omega)
        refine r_ixL (SqL.of upd_same) ec ?_
        walk_at "stn"
        have hcb : 0 ≤ c ∧ c ≤ 7 := by
          simp only [List.mem_cons, List.mem_nil_iff, or_false] at hc
          omega
        refine ⟨_, rfl, by omega, by omega, ?_⟩
        have h13 : c.toNat ≤ 12 := by omega
        generalize c.toNat = T at h13 ⊢
        have gr1 := gr.sames ((Same.refl H').upd np (o := .lst [.int 1, .int 1, .int 1, .int 0, .int 1, .int 7]))
        have hm2 := upd_old np (o := .lst [.int 1, .int 1, .int 1, .int 0, .int 1, .int 7]) hm'
        refine for_range (n := T) (fun j σ H'' => ∃ (us : List V) (S : List Sn) (x5 : Option V), σ = [some (.ref a), some (.int m), some (.bl g), some (.ref sp), some (.int n), x5] ∧ Grow H H'' sp m us S (13 * k + j) ∧ H'' m1 = some (.lst (ms.map V.int)))
          ⟨us, S, _, rfl, gr1, hm2⟩ ?_ ?_
        · rintro j σ H'' hj ⟨us, S, x5, rfl, gr, hm'⟩
          have hul := gr.ulen
          have hln := gr.len
          walk_at "sts"
          refine ⟨.inl ⟨rfl, _, SqL.of gr.at_⟩, ?_⟩
          walk_at "sts"
          refine ⟨_, _, rfl, fun r => ?_⟩
          walk_at "sts"
          refine ⟨_, m, g, rfl, hm0, hm, fun v H2 s S2 ok hd => ?_⟩
          walk_at "sts"
          refine r_append (S2 _ _ gr.at_) (by omega) ?_
          walk_at "sts"
          exact ⟨_, _, _, rfl, gr.push nsp S2 ok hd, by rw [upd_ne nm1]; exact S2 _ _ hm'⟩
        · rintro σ H'' ⟨us, S, x5, rfl, gr, hm'⟩
          exact hN _ _ ⟨n, us, S, _, rfl, gr.mono (by omega), hm'⟩
    · rintro σ H'' ⟨n', us, S, x5, rfl, gr, hm'⟩
      have hul := gr.ulen
      have hln := gr.len
      walk_at "sts"
      rw [dec_int2]
      refine iteD (fun h3 => ?_) (fun h3 => ?_)
      · walk_at "sts"
        refine r_lenL (SqL.of gr.at_) ?_
        walk_at "sts"
        refine iteD (fun h4 => ?_) (fun h4 => ?_)
        · have hp : 0 < us.length := by omega
          walk_at "sts"
          refine ⟨.inl ⟨rfl, _, SqL.of gr.at_⟩, ?_⟩
          walk_at "sts"
          refine ⟨_, _, rfl, fun r => ?_⟩
          walk_at "sts"
          refine r_lenL (SqL.of gr.at_) ?_
          walk_at "sts"
          try refine r_i (show (0 : Int) < (us.length : Int) by omega) ?_
          walk_at "sts"
          have i0 := Int.emod_nonneg r (show (us.length : Int) ≠ 0 by omega)
          have i1 := Int.emod_lt_of_pos r (show (0 : Int) < (us.length : Int) by omega)
          have hx : us[(r % (us.length : Int)).toNat]? = some (us[(r % (us.length : Int)).toNat]'(by omega)) := List.getElem?_eq_getElem _
          obtain ⟨s, t, hs1, hu1, ht1⟩ := DRs_sn gr.dat hx
          refine r_ixL (SqL.of gr.at_) (atI_int i0 hx) ?_
          walk_at "sts"
          refine r_append gr.at_ (by omega) ?_
          walk_at "sts"
          exact ⟨_, _, _, _, rfl, (gr.push nsp (Same.refl _) (gr.ok s (List.mem_of_getElem? hs1)) (DR_sn.mpr ⟨t, hu1, ht1⟩)).mono (by omega), by rw [upd_ne nm1]; exact hm'⟩
        · walk_at "sts"
          exact ⟨_, _, _, _, rfl, gr.mono (by omega), hm'⟩
      · walk_at "sts"
        exact ⟨_, _, _, _, rfl, gr.mono (by omega), hm'⟩
  · rintro σ H' ⟨us, S, x4, x5, rfl, gr, hm'⟩
    walk_at "sts"
    refine r_slL (SqL.of gr.at_) fun q1 nq => ?_
    rw [show (400 : Int) = ((400 : Nat) : Int) from rfl, cut_take]
    exact q q1 (us.take 400) (S.take 400) _ (gr.same.upd nq) ⟨upd_same, sn_take 400 (DRs.same ((Same.refl H').upd nq) _ _ gr.dat)⟩ (by simp; omega) (fun s hs => gr.ok s (List.mem_of_mem_take hs)) fun h => by omega
end

noncomputable def slc (ps : List Int) (b e : Nat) : Int := ((ps.drop b).take (e - b)).sum
noncomputable def covB (S : List Sn) (ps : List Int) : Bool := (ps.all fun x => decide (0 ≤ x)) && S.all fun s => decide ((s.w : Int) ≤ slc ps s.b s.e)
noncomputable def risB (cs : List Nat) : Bool := (List.range (cs.length - 1)).all fun k => decide (cs.getD k 0 < cs.getD (k + 1) 0)
noncomputable def Dj (s t : Sn) : Prop := s.e ≤ t.b ∨ t.e ≤ s.b
noncomputable instance (s t : Sn) : Decidable (Dj s t) := inferInstanceAs (Decidable (s.e ≤ t.b ∨ t.e ≤ s.b))
theorem Dj.symm {s t : Sn} (h : Dj s t) : Dj t s := Or.symm h
noncomputable def s0 : Sn := ⟨0, 0, 0⟩
noncomputable def pk (S : List Sn) (cs : List Nat) : List Sn := cs.map fun i => S.getD i s0
noncomputable def disB (S : List Sn) (cs : List Nat) : Bool := decide ((pk S cs).Pairwise Dj)
noncomputable def showsB (S : List Sn) (W : Int) (cs : List Nat) (ps : List Int) : Bool := risB cs && (covB S ps && (disB S cs && (decide (wsum S cs = W) && decide (W = ps.sum))))
theorem ris_pw {cs : List Nat} : risB cs = true ↔ cs.Pairwise (· < ·) := by
  unfold risB
  rw [List.all_eq_true, List.pairwise_iff_getElem]
  constructor
  · intro h
    have step : ∀ k, k + 1 < cs.length → cs.getD k 0 < cs.getD (k + 1) 0 := fun k hk => of_decide_eq_true (h k (List.mem_range.mpr (by omega)))
    have key : ∀ d i, i + (d + 1) < cs.length → cs.getD i 0 < cs.getD (i + (d + 1)) 0 := by
      intro d
      induction d with
      | zero => intro i hi; exact step i hi
      | succ d ih => intro i hi; exact Nat.lt_trans (ih i (by omega)) (step (i + (d + 1)) (by omega))
    intro i j hi hj hij
    have := key (j - i - 1) i (by omega)
    rw [show i + (j - i - 1 + 1) = j by omega, List.getD_eq_getElem?_getD, List.getD_eq_getElem?_getD, List.getElem?_eq_getElem hi, List.getElem?_eq_getElem hj] at this
    exact this
  · intro h k hk
    have hk' := List.mem_range.mp hk
    refine decide_eq_true ?_
    rw [List.getD_eq_getElem?_getD, List.getD_eq_getElem?_getD, List.getElem?_eq_getElem (by omega), List.getElem?_eq_getElem (by omega)]
    exact h k (k + 1) (by omega) (by omega) (by omega)
theorem dj_sorted {U : List Sn} (hb : ∀ s ∈ U, s.b < s.e) (hs : (U.map fun s => [(s.b : Int), (s.e : Int)]).Pairwise (fun a b => HT.lexLt b a = false)) :
    (((List.range (U.length - 1)).all fun k => decide ((U.getD k s0).e ≤ (U.getD (k + 1) s0).b)) = true) ↔ U.Pairwise Dj := by
  rw [List.all_eq_true, List.pairwise_iff_getElem]
  rw [List.pairwise_map, List.pairwise_iff_getElem] at hs
  constructor
  · intro h
    have step : ∀ k, k + 1 < U.length → (U.getD k s0).e ≤ (U.getD (k + 1) s0).b := fun k hk => of_decide_eq_true (h k (List.mem_range.mpr (by omega)))
    have bk : ∀ k, k < U.length → (U.getD k s0).b < (U.getD k s0).e := fun k hk => by
      rw [List.getD_eq_getElem?_getD, List.getElem?_eq_getElem hk]; exact hb _ (List.getElem_mem hk)
    have key : ∀ d i, i + (d + 1) < U.length → (U.getD i s0).e ≤ (U.getD (i + (d + 1)) s0).b := by
      intro d
      induction d with
      | zero => intro i hi; exact step i hi
      | succ d ih =>
        intro i hi
        have a := ih i (by omega)
        have b := bk (i + (d + 1)) (by omega)
        have c := step (i + (d + 1)) (by omega)
        rw [show i + (d + 1 + 1) = i + (d + 1) + 1 by omega]
        omega
    intro i j hi hj hij
    have := key (j - i - 1) i (by omega)
    rw [show i + (j - i - 1 + 1) = j by omega, List.getD_eq_getElem?_getD, List.getD_eq_getElem?_getD, List.getElem?_eq_getElem hi, List.getElem?_eq_getElem hj] at this
    exact .inl this
  · intro h k hk
    have hk' := List.mem_range.mp hk
    refine decide_eq_true ?_
    rw [List.getD_eq_getElem?_getD, List.getD_eq_getElem?_getD, List.getElem?_eq_getElem (by omega), List.getElem?_eq_getElem (by omega)]
    show (U[k]'(by omega)).e ≤ (U[k + 1]'(by omega)).b
    rcases h k (k + 1) (by omega) (by omega) (by omega) with a | a
    · exact a
    · have s := hs k (k + 1) (by omega) (by omega) (by omega)
      have b2 := hb _ (List.getElem_mem (show k + 1 < U.length by omega))
      have : HT.lexLt [((U[k + 1]'(by omega)).b : Int), ((U[k + 1]'(by omega)).e : Int)] [((U[k]'(by omega)).b : Int), ((U[k]'(by omega)).e : Int)] = true := by
        have b1 := hb _ (List.getElem_mem (show k < U.length by omega))
        rw [HT.lexLt_cons, if_neg (by omega)]
        exact decide_eq_true (by omega)
      rw [this] at s; cases s
section
variable {P : Program} {w : World} {K : PySem.W.Frag} {mg : Str → Option Value} {base : Heap}
theorem nd_are_rising_places_0 : (["k", "thing"] : List Str).Nodup := by decide +kernel
theorem nd_are_rising_places_1 : (["place", "many"] : List Str).Nodup := by decide +kernel
theorem nd_are_apart_2 : (["k", "spans"] : List Str).Nodup := by decide +kernel
theorem nd_are_apart_3 : (["stretch"] : List Str).Nodup := by decide +kernel
theorem k_are_rising_places_all : (defScope s_are_rising_places).names.lookup ("all" : Str) = some NameKind.globalImplicit := by decide +kernel
theorem k_are_rising_places_range : (defScope s_are_rising_places).names.lookup ("range" : Str) = some NameKind.globalImplicit := by decide +kernel
theorem k_are_rising_places_len : (defScope s_are_rising_places).names.lookup ("len" : Str) = some NameKind.globalImplicit := by decide +kernel
theorem k_are_rising_places_thing : (defScope s_are_rising_places).names.lookup ("thing" : Str) = some NameKind.cell := by decide +kernel
theorem k_are_rising_places_isinstance : (defScope s_are_rising_places).names.lookup ("isinstance" : Str) = some NameKind.globalImplicit := by decide +kernel
theorem k_are_rising_places_list : (defScope s_are_rising_places).names.lookup ("list" : Str) = some NameKind.globalImplicit := by decide +kernel
theorem k_are_apart_all : (defScope s_are_apart).names.lookup ("all" : Str) = some NameKind.globalImplicit := by decide +kernel
theorem k_are_apart_range : (defScope s_are_apart).names.lookup ("range" : Str) = some NameKind.globalImplicit := by decide +kernel
theorem k_are_apart_len : (defScope s_are_apart).names.lookup ("len" : Str) = some NameKind.globalImplicit := by decide +kernel
theorem k_are_apart_spans : (defScope s_are_apart).names.lookup ("spans" : Str) = some NameKind.cell := by decide +kernel
theorem k_are_apart_sorted : (defScope s_are_apart).names.lookup ("sorted" : Str) = some NameKind.globalImplicit := by decide +kernel
theorem k_are_apart_stretches : (defScope s_are_apart).names.lookup ("stretches" : Str) = some NameKind.local := by decide +kernel
theorem nI_len (cs : List Nat) : (nI cs).length = cs.length := by unfold nI; rw [List.length_map]
theorem nI_at {cs : List Nat} {k : Nat} {j : Int} (hk : k < cs.length) (hj : j = (k : Int)) : atI ((nI cs).map V.int) j = some (.int ((cs.getD k 0 : Nat) : Int)) := by
  have := at_nat (L := nI cs) (k := k) (j := j) (by rw [nI_len]; exact hk) hj
  rw [this]
  unfold nI
  rw [List.getD_eq_getElem?_getD, List.getD_eq_getElem?_getD, List.getElem?_map, List.getElem?_eq_getElem hk]; rfl
noncomputable def spRis : Sp := fun vs H Q _ => ∃ (c : Addr) (n : Nat) (cs : List Nat), vs = [.ref c, .int n] ∧ H c = some (.lst ((nI cs).map V.int)) ∧ cs.length ≤ 1000 ∧ (∀ i ∈ cs, i < n) ∧ ∀ H', Same H H' → Q (.bl (risB cs)) H'
theorem sc_are_rising_places : FnScope ["thing", "many"] ["thing", "many"] (defScope s_are_rising_places) := ⟨rfl, rfl, rfl, by decide +kernel, rfl, by decide +kernel, by decide +kernel⟩
theorem h_are_rising_places (T : Txt K mg) : Has P w K mg base 3 "are_rising_places" ["thing", "many"] spRis := by
  have h_is_within := h_is_within (P := P) (w := w) (base := base) T
  refine hasJ T.d_are_rising_places sc_are_rising_places (fun _ _ _ _ _ _ us hl => L2.usN2 (fun _ _ => rfl) us hl) ?_ fun f cdv A outer s H vs Q E hr h => ?_
  · rintro vs H Q E ⟨c, n, cs, rfl, _⟩; rfl
  obtain ⟨c, n, cs, rfl, hc, hl, hi, q⟩ := h
  have hu := hr.units0
  have hu64 := hr.units
  refine ⟨_, (jb_cons (js_if (jw_pt (jw_or (jt_not (jt_val (j_callB (call_isiK (K := K) rfl) (glF k_are_rising_places_isinstance) T.b_isinstance bt_isinstance (ja_cons (j_vC 0 k_are_rising_places_thing) (ja_cons (j_ty (glF k_are_rising_places_list) T.b_list bt_list (by decide +kernel) (by decide +kernel)) ja_nil)) (by decide +kernel) (by decide +kernel)))) (jw_or1 (jt_not (jt_val (j_callB (call_all rfl) (glF k_are_rising_places_all) T.b_all bt_all (ja_cons (j_comp (sub := [none, some 1]) (subOk_of (N := ["thing", "many"]) (sc := defScope s_are_rising_places) (N' := ["place", "many"]) (by decide +kernel)) rfl rfl rfl (ji_seq (K := K) rfl (j_vC 0 k_are_rising_places_thing)) (fun C s₀ H₀ ex => (jg_B 0 (by decide +kernel) nd_are_rising_places_1)) (fun C s₀ H₀ ex => jif_nil) (fun C s₀ H₀ ex => (j_call h_is_within (hr.mono (by decide)) (glB (by decide +kernel)) (ja_cons (j_vBL 0 (by decide +kernel)) (ja_cons j_int (ja_cons (j_op op_sub (j_vBF 1 (by decide +kernel)) j_int) ja_nil))) (by decide +kernel)))) ja_nil) (by decide +kernel) (by decide +kernel))))))) (jb_one (js_ret j_bl)) jb_nil) (jb_one (js_ret (j_callB (call_all rfl) (glF k_are_rising_places_all) T.b_all bt_all (ja_cons (j_comp (sub := [none, some 0]) (subOk_of (N := ["thing", "many"]) (sc := defScope s_are_rising_places) (N' := ["k", "thing"]) (by decide +kernel)) rfl rfl rfl (ji_range1 (glF k_are_rising_places_range) T.b_range (ja_cons (j_op op_sub (j_callB (call_lenK (K := K) rfl) (glF k_are_rising_places_len) T.b_len bt_len (ja_cons (j_vC 0 k_are_rising_places_thing) ja_nil) (by decide +kernel) (by decide +kernel)) j_int) ja_nil)) (fun C s₀ H₀ ex => (jg_B 0 (by decide +kernel) nd_are_rising_places_0)) (fun C s₀ H₀ ex => jif_nil) (fun C s₀ H₀ ex => (j_cmp op_lt (j_ix (K := K) rfl (j_vBF 1 (by decide +kernel)) (j_vBL 0 (by decide +kernel))) (j_ix (K := K) rfl (j_vBF 1 (by decide +kernel)) (j_op op_addA (j_vBL 0 (by decide +kernel)) j_int)) (by first | exact nomark _ | with_unfolding_all rfl)))) ja_nil) (by decide +kernel) (by decide +kernel))))), ?_⟩
  walk_at "sts"
  have hs : 2000 ≤ sizeLine := by decide
  have lc : ((nI cs).map V.int).length = cs.length := by rw [List.length_map, nI_len]
  refine r_isi (.lst hc) rfl ?_
  walk_at "sts"
  refine .inl ⟨c, rfl, ⟨_, SqL.of hc⟩, ?_⟩
  refine comp_list (xs := (nI cs).map V.int) (fun i ys H' => H' = H ∧ ys = (List.replicate i true).map V.bl) (by omega) ⟨rfl, rfl⟩ ?_ ?_ ?_ ?_
  · rintro i ys H' ⟨_, rfl⟩
    simp
  · rintro i ys H' ⟨rfl, rfl⟩
    exact SqL.of hc
  · rintro i ys H' x hx ⟨rfl, rfl⟩
    obtain ⟨k, hk, rfl⟩ : ∃ k, cs[i]? = some k ∧ x = V.int (k : Int) := by
      unfold nI at hx
      rw [List.getElem?_map, List.getElem?_map] at hx
      cases e : cs[i]? with
      | none => rw [e] at hx; cases hx
      | some y => rw [e] at hx; exact ⟨y, rfl, (Option.some.inj hx).symm⟩
    have := hi k (List.mem_of_getElem? hk)
    walk_at "sts"
    refine ⟨KeepSt.set rfl, ?_⟩
    walk_at "sts"
    refine ⟨_, _, _, rfl, by omega, by omega, rfl, ?_⟩
    rw [List.replicate_succ', List.map_append]; rfl
  · rintro ys H' ⟨rfl, rfl⟩ D hD
    rw [lc]
    have S1 := (Same.refl H').upd hD (o := .lst ((List.replicate cs.length true).map V.bl))
    have f1 := upd_same (H := H') (a := D) (o := .lst ((List.replicate cs.length true).map V.bl))
    generalize upd H' D (.lst ((List.replicate cs.length true).map V.bl)) = H1 at S1 f1 ⊢
    have hc1 := S1 _ _ hc
    walk_at "sts"
    refine ⟨D, List.replicate cs.length true, rfl, f1, ?_⟩
    walk_at "sts"
    rw [show (List.replicate cs.length true).all id = true by simp]
    walk_at "sts"
    refine r_lenL (SqL.of hc1) ?_
    walk_at "sts"
    rw [lc]
    refine ⟨_, rfl, by omega, by omega, ?_⟩
    rw [show ((cs.length : Int) - 1).toNat = cs.length - 1 by omega]
    refine comp_rng (n := cs.length - 1) (fun i ys H2 => H2 = H1 ∧ ys = ((List.range i).map fun k => decide (cs.getD k 0 < cs.getD (k + 1) 0)).map V.bl) (by omega) ⟨rfl, rfl⟩ ?_ ?_ ?_
    · rintro i ys H2 ⟨_, rfl⟩
      simp
    · rintro i ys H2 hi2 ⟨rfl, rfl⟩
      walk_at "sts"
      refine ⟨KeepSt.set rfl, ?_⟩
      walk_at "sts"
      refine r_ixL (SqL.of hc1) (nI_at (k := i) (by omega) (by omega)) ?_
      walk_at "sts"
      refine r_ixL (SqL.of hc1) (nI_at (k := i + 1) (by omega) (by omega)) ?_
      walk_at "sts"
      refine ⟨rfl, ?_⟩
      rw [List.range_succ, List.map_append, List.map_append]
      show _ ++ [V.bl _] = _ ++ [V.bl _]
      congr 3
      exact decide_eq_decide.mpr (by omega)
    · rintro ys H2 ⟨rfl, rfl⟩ D2 hD2
      walk_at "sts"
      refine ⟨D2, _, rfl, upd_same, ?_⟩
      walk_at "sts"
      have e : ((List.range (cs.length - 1)).map fun k => decide (cs.getD k 0 < cs.getD (k + 1) 0)).all id = risB cs := by
        unfold risB
        rw [List.all_map]; rfl
      rw [e]
      exact q _ (S1.upd hD2)
noncomputable def spApt : Sp := fun vs H Q _ => ∃ (l : Addr) (us : List V) (T : List Sn), vs = [.ref l] ∧ Lsn H l us T ∧ T.length < 64 ∧ (∀ s ∈ T, s.b < s.e) ∧ ∀ H', Same H H' → Q (.bl (decide (T.Pairwise Dj))) H'
theorem sc_are_apart : FnScope ["stretches", "spans"] ["stretches"] (defScope s_are_apart) := ⟨rfl, rfl, rfl, by decide +kernel, rfl, by decide +kernel, by decide +kernel⟩
theorem h_are_apart (T : Txt K mg) : Has P w K mg base 1 "are_apart" ["stretches"] spApt := by
  refine hasJ T.d_are_apart sc_are_apart (fun _ _ _ _ _ _ us hl => L2.usN1 (fun _ => rfl) us hl) ?_ fun f cdv A outer s H vs Q E hr h => ?_
  · rintro vs H Q E ⟨l, us, Tl, rfl, _⟩; rfl
  obtain ⟨l, us, Tl, rfl, hL, hl, hb, q⟩ := h
  have hu := hr.units0
  have hu64 := hr.units
  refine ⟨_, (jb_cons (js_set (i := 1) sc_are_apart.nd rfl (Or.inr k_are_apart_spans) (j_callB call_sortedT (glF k_are_apart_sorted) T.b_sorted bt_sorted (ja_cons (j_comp (sub := [none]) (subOk_of (N := ["stretches", "spans"]) (sc := defScope s_are_apart) (N' := ["stretch"]) (by decide +kernel)) rfl rfl rfl (ji_seq (K := K) rfl (j_vL 0 k_are_apart_stretches)) (fun C s₀ H₀ ex => (jg_B 0 (by decide +kernel) nd_are_apart_3)) (fun C s₀ H₀ ex => jif_nil) (fun C s₀ H₀ ex => (j_tup (ja_cons (j_ix (K := K) rfl (j_vBL 0 (by decide +kernel)) j_int) (ja_cons (j_ix (K := K) rfl (j_vBL 0 (by decide +kernel)) j_int) ja_nil))))) ja_nil) (by decide +kernel) (by decide +kernel)) rfl) (jb_one (js_ret (j_callB (call_all rfl) (glF k_are_apart_all) T.b_all bt_all (ja_cons (j_comp (sub := [none, some 1]) (subOk_of (N := ["stretches", "spans"]) (sc := defScope s_are_apart) (N' := ["k", "spans"]) (by decide +kernel)) rfl rfl rfl (ji_range1 (glF k_are_apart_range) T.b_range (ja_cons (j_op op_sub (j_callB (call_lenK (K := K) rfl) (glF k_are_apart_len) T.b_len bt_len (ja_cons (j_vC 1 k_are_apart_spans) ja_nil) (by decide +kernel) (by decide +kernel)) j_int) ja_nil)) (fun C s₀ H₀ ex => (jg_B 0 (by decide +kernel) nd_are_apart_2)) (fun C s₀ H₀ ex => jif_nil) (fun C s₀ H₀ ex => (j_cmp op_le (j_ix (K := K) rfl (j_ix (K := K) rfl (j_vBF 1 (by decide +kernel)) (j_vBL 0 (by decide +kernel))) j_int) (j_ix (K := K) rfl (j_ix (K := K) rfl (j_vBF 1 (by decide +kernel)) (j_op op_addA (j_vBL 0 (by decide +kernel)) j_int)) j_int) (by first | exact nomark _ | with_unfolding_all rfl)))) ja_nil) (by decide +kernel) (by decide +kernel))))), ?_⟩
  walk_at "sts"
  have hs : 2000 ≤ sizeLine := by decide
  have hul := hL.len
  refine .inl ⟨l, rfl, ⟨_, SqL.of hL.1⟩, ?_⟩
  refine comp_list (xs := us) (fun i ys H' => Same H H' ∧ ys.length = i ∧ ∀ k, k < i → ∃ a, ys[k]? = some (.ref a) ∧ H' a = some (.tup [.int (Tl.getD k s0).b, .int (Tl.getD k s0).e])) (by omega) ⟨Same.refl H, rfl, fun k hk => by omega⟩ ?_ ?_ ?_ ?_
  · rintro i ys H' ⟨_, h, _⟩
    omega
  · rintro i ys H' ⟨s, _⟩
    exact SqL.of (s _ _ hL.1)
  · rintro i ys H' x hx ⟨s, ly, hy⟩
    obtain ⟨t, ad, hti, rfl, ht⟩ := DRs_sn (hL.same s).2 hx
    have et : Tl.getD i s0 = t := by rw [List.getD_eq_getElem?_getD, hti]; rfl
    walk_at "sts"
    refine ⟨KeepSt.set rfl, ?_⟩
    walk_at "sts"
    refine r_new rfl fun p np => ?_
    refine ⟨s.upd np, by simp [ly], fun k hk => ?_⟩
    by_cases hki : k < i
    · obtain ⟨a, e1, e2⟩ := hy k hki
      exact ⟨a, by rw [List.getElem?_append_left (by omega)]; exact e1, upd_old np e2⟩
    · have e : k = i := by omega
      subst e
      exact ⟨p, by rw [List.getElem?_append_right (by omega), ly, Nat.sub_self]; rfl, by rw [et]; exact upd_same⟩
  · rintro ys H' ⟨s, ly, hy⟩ D hD
    rw [hul] at ly hy
    have S1 := s.upd hD (o := .lst ys)
    have f1 := upd_same (H := H') (a := D) (o := .lst ys)
    have hy1 : ∀ k, k < Tl.length → ∃ a, ys[k]? = some (.ref a) ∧ upd H' D (.lst ys) a = some (.tup [.int (Tl.getD k s0).b, .int (Tl.getD k s0).e]) := fun k hk => by
      obtain ⟨a, e1, e2⟩ := hy k hk
      exact ⟨a, e1, upd_old hD e2⟩
    generalize upd H' D (.lst ys) = H1 at S1 f1 hy1 ⊢
    walk_at "sts"
    refine r_sortedT f1 (by omega) (ts := Tl.map fun t => [(t.b : Int), (t.e : Int)]) ⟨by rw [List.length_map]; exact ly, fun i hi => ?_⟩ fun d ix nd pix srt => ?_
    · obtain ⟨a, e1, e2⟩ := hy1 i (by omega)
      have eg : (Tl.map fun t => [(t.b : Int), (t.e : Int)]).getD i [] = [((Tl.getD i s0).b : Int), ((Tl.getD i s0).e : Int)] := by
        rw [List.getD_eq_getElem?_getD, List.getD_eq_getElem?_getD, List.getElem?_map, List.getElem?_eq_getElem (by omega)]; rfl
      exact ⟨a, e1, by rw [eg]; exact e2, by rw [eg]; simp⟩
    · rw [ly] at pix
      have lix : ix.length = Tl.length := by have := pix.length_eq; simpa using this
      have eU : (ix.map fun i => (Tl.map fun t => [(t.b : Int), (t.e : Int)]).getD i []) = (pk Tl ix).map fun t => [(t.b : Int), (t.e : Int)] := by
        unfold pk
        rw [List.map_map]
        refine List.map_congr_left fun i hi => ?_
        have hi' := List.mem_range.mp (pix.mem_iff.mp hi)
        show (Tl.map fun t => [(t.b : Int), (t.e : Int)]).getD i [] = [((Tl.getD i s0).b : Int), ((Tl.getD i s0).e : Int)]
        rw [List.getD_eq_getElem?_getD, List.getD_eq_getElem?_getD, List.getElem?_map, List.getElem?_eq_getElem hi']; rfl
      rw [eU] at srt
      have pU : (pk Tl ix).Perm Tl := by
        unfold pk
        refine (pix.map _).trans ?_
        have : (List.range Tl.length).map (fun i => Tl.getD i s0) = Tl := by
          refine List.ext_getElem (by simp) fun i h1 h2 => ?_
          simp [h2]
        rw [this]
      have lU : (pk Tl ix).length = Tl.length := pU.length_eq
      have at_ : ∀ k, k < Tl.length → ∃ a, (ix.map fun i => ys.getD i .non)[k]? = some (.ref a) ∧ H1 a = some (.tup [.int ((pk Tl ix).getD k s0).b, .int ((pk Tl ix).getD k s0).e]) := fun k hk => by
        have hk' : k < ix.length := by omega
        have hm := List.mem_range.mp (pix.mem_iff.mp (List.getElem_mem hk'))
        obtain ⟨a, e1, e2⟩ := hy1 ix[k] hm
        refine ⟨a, ?_, ?_⟩
        · rw [List.getElem?_map, List.getElem?_eq_getElem hk']
          show some (ys.getD ix[k] .non) = _
          rw [List.getD_eq_getElem?_getD, e1]; rfl
        · have : (pk Tl ix).getD k s0 = Tl.getD ix[k] s0 := by
            unfold pk
            rw [List.getD_eq_getElem?_getD, List.getElem?_map, List.getElem?_eq_getElem hk']; rfl
          rw [this]; exact e2
      have key := dj_sorted (U := pk Tl ix) (fun s hs => hb s (pU.mem_iff.mp hs)) srt
      rw [lU] at key
      have at2 : ∀ k, k < Tl.length → ∃ a, (ix.map fun i => ys.getD i .non)[k]? = some (.ref a) ∧ upd H1 d (.lst (ix.map fun i => ys.getD i .non)) a = some (.tup [.int ((pk Tl ix).getD k s0).b, .int ((pk Tl ix).getD k s0).e]) := fun k hk => by
        obtain ⟨a, e1, e2⟩ := at_ k hk
        exact ⟨a, e1, upd_old nd e2⟩
      have f2 := upd_same (H := H1) (a := d) (o := .lst (ix.map fun i => ys.getD i .non))
      have S2 := S1.upd nd (o := .lst (ix.map fun i => ys.getD i .non))
      have lv : (ix.map fun i => ys.getD i .non).length = Tl.length := by rw [List.length_map]; exact lix
      generalize upd H1 d (.lst (ix.map fun i => ys.getD i .non)) = H2 at at2 f2 S2 ⊢
      generalize (ix.map fun i => ys.getD i .non) = zs at at2 f2 lv
      walk_at "sts"
      refine r_lenL (SqL.of f2) ?_
      walk_at "sts"
      rw [lv]
      refine ⟨_, rfl, by omega, by omega, ?_⟩
      rw [show ((Tl.length : Int) - 1).toNat = Tl.length - 1 by omega]
      refine comp_rng (n := Tl.length - 1) (fun i bs H3 => H3 = H2 ∧ bs = ((List.range i).map fun k => decide (((pk Tl ix).getD k s0).e ≤ ((pk Tl ix).getD (k + 1) s0).b)).map V.bl) (by omega) ⟨rfl, rfl⟩ ?_ ?_ ?_
      · rintro i bs H3 ⟨_, rfl⟩
        simp
      · rintro i bs H3 hi2 ⟨rfl, rfl⟩
        obtain ⟨a1, g1, g2⟩ := at2 i (by omega)
        obtain ⟨a2, g3, g4⟩ := at2 (i + 1) (by omega)
        walk_at "sts"
        refine ⟨KeepSt.set rfl, ?_⟩
        walk_at "sts"
        refine r_ixL (SqL.of f2) (atI_int (by omega) (by rw [show (0 + (i : Int)).toNat = i by omega]; exact g1)) ?_
        walk_at "sts"
        refine r_ixL (SqL.of f2) (atI_int (by omega) (by rw [show (0 + (i : Int) + 1).toNat = i + 1 by omega]; exact g3)) ?_
        walk_at "sts"
        refine ⟨rfl, ?_⟩
        rw [List.range_succ, List.map_append, List.map_append]
        show _ ++ [V.bl _] = _ ++ [V.bl _]
        congr 3
        exact decide_eq_decide.mpr (by omega)
      · rintro bs H3 ⟨rfl, rfl⟩ D2 hD2
        walk_at "sts"
        refine ⟨D2, _, rfl, upd_same, ?_⟩
        walk_at "sts"
        have e : ((List.range (Tl.length - 1)).map fun k => decide (((pk Tl ix).getD k s0).e ≤ ((pk Tl ix).getD (k + 1) s0).b)).all id = decide (Tl.Pairwise Dj) := by
          rw [List.all_map]
          have e1 : (pk Tl ix).Pairwise Dj ↔ Tl.Pairwise Dj := pU.pairwise_iff (fun h => Dj.symm h)
          cases hq : decide (Tl.Pairwise Dj) with
          | true => exact key.mpr (e1.mpr (of_decide_eq_true hq))
          | false =>
            cases hz : (List.range (Tl.length - 1)).all (id ∘ fun k => decide (((pk Tl ix).getD k s0).e ≤ ((pk Tl ix).getD (k + 1) s0).b)) with
            | false => rfl
            | true => exact absurd (e1.mp (key.mp hz)) (of_decide_eq_false hq)
        rw [e]
        exact q _ (S2.upd hD2)
end

section
variable {P : Program} {w : World} {K : PySem.W.Frag} {mg : Str → Option Value} {base : Heap}
theorem nd_do_cover_0 : (["stretch", "thing"] : List Str).Nodup := by decide +kernel
theorem nd_do_cover_1 : (["price"] : List Str).Nodup := by decide +kernel
theorem nd_shows_apart_2 : (["stretch"] : List Str).Nodup := by decide +kernel
theorem nd_shows_apart_3 : (["place", "stretches"] : List Str).Nodup := by decide +kernel
theorem k_do_cover_all : (defScope s_do_cover).names.lookup ("all" : Str) = some NameKind.globalImplicit := by decide +kernel
theorem k_do_cover_stretches : (defScope s_do_cover).names.lookup ("stretches" : Str) = some NameKind.local := by decide +kernel
theorem k_do_cover_thing : (defScope s_do_cover).names.lookup ("thing" : Str) = some NameKind.cell := by decide +kernel
theorem k_do_cover_len : (defScope s_do_cover).names.lookup ("len" : Str) = some NameKind.globalImplicit := by decide +kernel
theorem k_do_cover_many : (defScope s_do_cover).names.lookup ("many" : Str) = some NameKind.local := by decide +kernel
theorem k_do_cover_isinstance : (defScope s_do_cover).names.lookup ("isinstance" : Str) = some NameKind.globalImplicit := by decide +kernel
theorem k_do_cover_list : (defScope s_do_cover).names.lookup ("list" : Str) = some NameKind.globalImplicit := by decide +kernel
theorem k_shows_apart_sum : (defScope s_shows_apart).names.lookup ("sum" : Str) = some NameKind.globalImplicit := by decide +kernel
theorem k_shows_apart_chosen : (defScope s_shows_apart).names.lookup ("chosen" : Str) = some NameKind.local := by decide +kernel
theorem k_shows_apart_thing : (defScope s_shows_apart).names.lookup ("thing" : Str) = some NameKind.local := by decide +kernel
theorem k_shows_apart_are_apart : (defScope s_shows_apart).names.lookup ("are_apart" : Str) = some NameKind.globalImplicit := by decide +kernel
theorem k_shows_apart_do_cover : (defScope s_shows_apart).names.lookup ("do_cover" : Str) = some NameKind.globalImplicit := by decide +kernel
theorem k_shows_apart_stretches : (defScope s_shows_apart).names.lookup ("stretches" : Str) = some NameKind.cell := by decide +kernel
theorem k_shows_apart_many : (defScope s_shows_apart).names.lookup ("many" : Str) = some NameKind.local := by decide +kernel
theorem k_shows_apart_are_rising_places : (defScope s_shows_apart).names.lookup ("are_rising_places" : Str) = some NameKind.globalImplicit := by decide +kernel
theorem k_shows_apart_len : (defScope s_shows_apart).names.lookup ("len" : Str) = some NameKind.globalImplicit := by decide +kernel
theorem k_shows_apart_is_number : (defScope s_shows_apart).names.lookup ("is_number" : Str) = some NameKind.globalImplicit := by decide +kernel
theorem k_shows_apart_isinstance : (defScope s_shows_apart).names.lookup ("isinstance" : Str) = some NameKind.globalImplicit := by decide +kernel
theorem k_shows_apart_tuple : (defScope s_shows_apart).names.lookup ("tuple" : Str) = some NameKind.globalImplicit := by decide +kernel
theorem k_shows_apart_need_stretches : (defScope s_shows_apart).names.lookup ("need_stretches" : Str) = some NameKind.globalImplicit := by decide +kernel
theorem cut_be {ps : List Int} {b e : Nat} (h1 : b ≤ e) (h2 : e ≤ ps.length) : cutV (ps.map V.int) (some (b : Int)) (some (e : Int)) = ((ps.drop b).take (e - b)).map V.int := by
  unfold cutV
  rw [HT.sIx_nat, HT.sIx_nat, List.length_map, Nat.min_eq_left h2, Nat.min_eq_left (show b ≤ ps.length by omega), List.map_take, List.map_drop]
noncomputable def spCov : Sp := fun vs H Q _ => ∃ (m : Nat) (a pr : Addr) (us : List V) (S : List Sn) (ps : List Int), vs = [.int m, .ref a, .ref pr] ∧ m ≤ 24 ∧ Lsn H a us S ∧ S.length ≤ 400 ∧ (∀ s ∈ S, s.ok m) ∧ H pr = some (.lst (ps.map V.int)) ∧ ps.length = m ∧ ∀ H', Same H H' → Q (.bl (covB S ps)) H'
theorem sc_do_cover : FnScope ["many", "stretches", "thing"] ["many", "stretches", "thing"] (defScope s_do_cover) := ⟨rfl, rfl, rfl, by decide +kernel, rfl, by decide +kernel, by decide +kernel⟩
theorem h_do_cover (T : Txt K mg) : Has P w K mg base 2 "do_cover" ["many", "stretches", "thing"] spCov := by
  have h_is_number := h_is_number (P := P) (w := w) (base := base) T
  refine hasJ T.d_do_cover sc_do_cover (fun _ _ _ _ _ _ us hl => L2.usN3 (fun _ _ _ => rfl) us hl) ?_ fun f cdv A outer s H vs Q E hr h => ?_
  · rintro vs H Q E ⟨m, a, pr, us, S, ps, rfl, _⟩; rfl
  obtain ⟨m, a, pr, us, S, ps, rfl, hm, hL, hl, hok, hpr, lp, q⟩ := h
  have hu := hr.units0
  have hu64 := hr.units
  refine ⟨_, (jb_cons (js_if (jw_pt (jw_or (jt_not (jt_val (j_callB (call_isiK (K := K) rfl) (glF k_do_cover_isinstance) T.b_isinstance bt_isinstance (ja_cons (j_vC 2 k_do_cover_thing) (ja_cons (j_ty (glF k_do_cover_list) T.b_list bt_list (by decide +kernel) (by decide +kernel)) ja_nil)) (by decide +kernel) (by decide +kernel)))) (jw_or1 (jt_cmp (op_neX (K := K) rfl hu64) (j_callB (call_lenK (K := K) rfl) (glF k_do_cover_len) T.b_len bt_len (ja_cons (j_vC 2 k_do_cover_thing) ja_nil) (by decide +kernel) (by decide +kernel)) (j_vL 0 k_do_cover_many) (by first | exact nomark _ | with_unfolding_all rfl))))) (jb_one (js_ret j_bl)) jb_nil) (jb_cons (js_if (jt_not (jt_val (j_callB (call_all rfl) (glF k_do_cover_all) T.b_all bt_all (ja_cons (j_comp (sub := [none]) (subOk_of (N := ["many", "stretches", "thing"]) (sc := defScope s_do_cover) (N' := ["price"]) (by decide +kernel)) rfl rfl rfl (ji_seq (K := K) rfl (j_vC 2 k_do_cover_thing)) (fun C s₀ H₀ ex => (jg_B 0 (by decide +kernel) nd_do_cover_1)) (fun C s₀ H₀ ex => jif_nil) (fun C s₀ H₀ ex => (j_and (j_call h_is_number (hr.mono (by decide)) (glB (by decide +kernel)) (ja_cons (j_vBL 0 (by decide +kernel)) ja_nil) (by decide +kernel)) (j_one (j_cmp op_ge (j_vBL 0 (by decide +kernel)) j_int (by first | exact nomark _ | with_unfolding_all rfl)))))) ja_nil) (by decide +kernel) (by decide +kernel)))) (jb_one (js_ret j_bl)) jb_nil) (jb_one (js_ret (j_callB (call_all rfl) (glF k_do_cover_all) T.b_all bt_all (ja_cons (j_comp (sub := [none, some 2]) (subOk_of (N := ["many", "stretches", "thing"]) (sc := defScope s_do_cover) (N' := ["stretch", "thing"]) (by decide +kernel)) rfl rfl rfl (ji_seq (K := K) rfl (j_vL 1 k_do_cover_stretches)) (fun C s₀ H₀ ex => (jg_B 0 (by decide +kernel) nd_do_cover_0)) (fun C s₀ H₀ ex => jif_nil) (fun C s₀ H₀ ex => (j_cmp op_ge (j_callB (call_sum1 rfl) (glB (by decide +kernel)) T.b_sum bt_sum (ja_cons (j_slice (sl_seqK (K := K) rfl) (j_vBF 1 (by decide +kernel)) (jo_some (j_ix (K := K) rfl (j_vBL 0 (by decide +kernel)) j_int)) (jo_some (j_ix (K := K) rfl (j_vBL 0 (by decide +kernel)) j_int))) ja_nil) (by decide +kernel) (by decide +kernel)) (j_ix (K := K) rfl (j_vBL 0 (by decide +kernel)) j_int) (by first | exact nomark _ | with_unfolding_all rfl)))) ja_nil) (by decide +kernel) (by decide +kernel)))))), ?_⟩
  walk_at "sts"
  have hs : 2000 ≤ sizeLine := by decide
  have hul := hL.len
  have lpv : (ps.map V.int).length = m := by rw [List.length_map]; exact lp
  refine r_isi (.lst hpr) rfl ?_
  walk_at "sts"
  refine r_lenL (SqL.of hpr) ?_
  walk_at "sts"
  rw [lpv, dec_int2, decide_eq_true rfl]
  walk_at "sts"
  refine .inl ⟨pr, rfl, ⟨_, SqL.of hpr⟩, ?_⟩
  refine comp_list (xs := ps.map V.int) (fun i ys H' => H' = H ∧ ys = ((ps.take i).map fun x => decide (0 ≤ x)).map V.bl) (by omega) ⟨rfl, rfl⟩ ?_ ?_ ?_ ?_
  · rintro i ys H' ⟨_, rfl⟩
    simp; omega
  · rintro i ys H' ⟨rfl, rfl⟩
    exact SqL.of hpr
  · rintro i ys H' x hx ⟨rfl, rfl⟩
    obtain ⟨n, hn, rfl⟩ : ∃ n, ps[i]? = some n ∧ x = V.int n := by
      rw [List.getElem?_map] at hx
      cases e : ps[i]? with
      | none => rw [e] at hx; cases hx
      | some y => rw [e] at hx; exact ⟨y, rfl, (Option.some.inj hx).symm⟩
    walk_at "sts"
    refine ⟨KeepSt.set rfl, ?_⟩
    walk_at "sts"
    refine ⟨n, rfl, ?_⟩
    walk_at "sts"
    refine ⟨rfl, ?_⟩
    rw [List.take_add_one, hn]
    simp
  · rintro ys H' ⟨rfl, rfl⟩ D hD
    rw [lpv, List.take_of_length_le (by omega)]
    have S1 := (Same.refl H').upd hD (o := .lst ((ps.map fun x => decide (0 ≤ x)).map V.bl))
    have f1 := upd_same (H := H') (a := D) (o := .lst ((ps.map fun x => decide (0 ≤ x)).map V.bl))
    generalize upd H' D (.lst ((ps.map fun x => decide (0 ≤ x)).map V.bl)) = H1 at S1 f1 ⊢
    walk_at "sts"
    refine ⟨D, _, rfl, f1, ?_⟩
    walk_at "sts"
    have e1 : (ps.map fun x => decide (0 ≤ x)).all id = ps.all fun x => decide (0 ≤ x) := by rw [List.all_map]; rfl
    rw [e1]
    unfold covB at q
    cases hn : (ps.all fun x => decide (0 ≤ x)) with
    | false =>
      walk_at "sts"
      rw [hn, Bool.false_and] at q
      exact q _ S1
    | true =>
      rw [hn, Bool.true_and] at q
      walk_at "sts"
      have hL1 := hL.same S1
      have hpr1 := S1 _ _ hpr
      refine .inl ⟨a, rfl, ⟨_, SqL.of hL1.1⟩, ?_⟩
      refine comp_list (xs := us) (fun i ys H2 => Same H1 H2 ∧ ys = ((S.take i).map fun s => decide ((s.w : Int) ≤ slc ps s.b s.e)).map V.bl) (by omega) ⟨Same.refl _, rfl⟩ ?_ ?_ ?_ ?_
      · rintro i ys H2 ⟨_, rfl⟩
        simp; omega
      · rintro i ys H2 ⟨s, rfl⟩
        exact SqL.of (s _ _ hL1.1)
      · rintro i ys H2 x hx ⟨s, rfl⟩
        obtain ⟨t, ad, hti, rfl, ht⟩ := DRs_sn (hL1.same s).2 hx
        have okt := hok t (List.mem_of_getElem? hti)
        walk_at "sts"
        refine ⟨KeepSt.set rfl, ?_⟩
        walk_at "sts"
        refine r_slL (SqL.of (s _ _ hpr1)) fun p np => ?_
        rw [cut_be (by have := okt.2.2; omega) (by have := okt.2.2; omega)]
        walk_at "sts"
        refine r_sum upd_same ?_
        walk_at "sts"
        try refine r_ixT (SqT.of (upd_old np ht)) (atI_nat (j := 0) rfl) ?_
        walk_at "sts"
        refine ⟨s.upd np, ?_⟩
        rw [List.take_add_one, hti, List.map_append, List.map_append]; rfl
      · rintro ys H2 ⟨s, rfl⟩ D2 hD2
        rw [hul, List.take_length]
        walk_at "sts"
        refine ⟨D2, _, rfl, upd_same, ?_⟩
        walk_at "sts"
        have e2 : (S.map fun s => decide ((s.w : Int) ≤ slc ps s.b s.e)).all id = S.all fun s => decide ((s.w : Int) ≤ slc ps s.b s.e) := by rw [List.all_map]; rfl
        rw [e2]
        exact q _ ((S1.trans s).upd hD2)
theorem pk_sum {S : List Sn} : ∀ {cs : List Nat}, (∀ i ∈ cs, i < S.length) → ((pk S cs).map fun s => (s.w : Int)).sum = wsum S cs
  | [], _ => rfl
  | i :: cs, h => by
    have ih := pk_sum (S := S) (cs := cs) fun j hj => h j (List.mem_cons_of_mem _ hj)
    have hi := h i List.mem_cons_self
    unfold pk wsum at ih ⊢
    rw [List.map_cons, List.map_cons, List.sum_cons, ih, List.map_cons, List.sum_cons, ww_of (List.getElem?_eq_getElem hi)]
    congr 1
    rw [List.getD_eq_getElem?_getD, List.getElem?_eq_getElem hi]; rfl
noncomputable def spShows : Sp := fun vs H Q _ => ∃ (m : Nat) (a t c pr : Addr) (us : List V) (S : List Sn) (W : Int) (cs : List Nat) (ps : List Int), vs = [.int m, .ref a, .ref t] ∧ m ≤ 24 ∧ Lsn H a us S ∧ S.length ≤ 400 ∧ (∀ s ∈ S, s.ok m) ∧ H t = some (.tup [.int W, .ref c, .ref pr]) ∧ H c = some (.lst ((nI cs).map V.int)) ∧ H pr = some (.lst (ps.map V.int)) ∧
  cs.length ≤ 24 ∧ (∀ i ∈ cs, i < S.length) ∧ ps.length = m ∧ ∀ H', Same H H' → Q (.bl (showsB S W cs ps)) H'
theorem sc_shows_apart : FnScope ["many", "stretches", "thing", "chosen"] ["many", "stretches", "thing"] (defScope s_shows_apart) := ⟨rfl, rfl, rfl, by decide +kernel, rfl, by decide +kernel, by decide +kernel⟩
theorem h_shows_apart (T : Txt K mg) : Has P w K mg base 6 "shows_apart" ["many", "stretches", "thing"] spShows := by
  have h_need_stretches := h_need_stretches (P := P) (w := w) (base := base) T
  have h_is_number := h_is_number (P := P) (w := w) (base := base) T
  have h_are_rising_places := h_are_rising_places (P := P) (w := w) (base := base) T
  have h_do_cover := h_do_cover (P := P) (w := w) (base := base) T
  have h_are_apart := h_are_apart (P := P) (w := w) (base := base) T
  refine hasJ T.d_shows_apart sc_shows_apart (fun _ _ _ _ _ _ us hl => L2.usN3 (fun _ _ _ => rfl) us hl) ?_ fun f cdv A outer s H vs Q E hr h => ?_
  · rintro vs H Q E ⟨m, a, t, c, pr, us, S, W, cs, ps, rfl, _⟩; rfl
  obtain ⟨m, a, t, c, pr, us, S, W, cs, ps, rfl, hm, hL, hl, hok, ht, hc, hpr, lcs, hcs, lp, q⟩ := h
  have hu := hr.units0
  have hu64 := hr.units
  refine ⟨_, (jb_cons (js_expr (j_call h_need_stretches (hr.mono (by decide)) (glF k_shows_apart_need_stretches) (ja_cons (j_vL 0 k_shows_apart_many) (ja_cons (j_vC 1 k_shows_apart_stretches) ja_nil)) (by decide +kernel))) (jb_cons (js_if (jw_pt (jw_or (jt_not (jt_val (j_callB (call_isiK (K := K) rfl) (glF k_shows_apart_isinstance) T.b_isinstance bt_isinstance (ja_cons (j_vL 2 k_shows_apart_thing) (ja_cons (j_ty (glF k_shows_apart_tuple) T.b_tuple bt_tuple (by decide +kernel) (by decide +kernel)) ja_nil)) (by decide +kernel) (by decide +kernel)))) (jw_or (jt_cmp (op_neX (K := K) rfl hu64) (j_callB (call_lenK (K := K) rfl) (glF k_shows_apart_len) T.b_len bt_len (ja_cons (j_vL 2 k_shows_apart_thing) ja_nil) (by decide +kernel) (by decide +kernel)) j_int (by first | exact nomark _ | with_unfolding_all rfl)) (jw_or1 (jt_not (jt_val (j_call h_is_number (hr.mono (by decide)) (glF k_shows_apart_is_number) (ja_cons (j_ix (K := K) rfl (j_vL 2 k_shows_apart_thing) j_int) ja_nil) (by decide +kernel)))))))) (jb_one (js_ret j_bl)) jb_nil) (jb_cons (js_if (jw_pt (jw_or (jt_not (jt_val (j_call h_are_rising_places (hr.mono (by decide)) (glF k_shows_apart_are_rising_places) (ja_cons (j_ix (K := K) rfl (j_vL 2 k_shows_apart_thing) j_int) (ja_cons (j_callB (call_lenK (K := K) rfl) (glF k_shows_apart_len) T.b_len bt_len (ja_cons (j_vC 1 k_shows_apart_stretches) ja_nil) (by decide +kernel) (by decide +kernel)) ja_nil)) (by decide +kernel)))) (jw_or1 (jt_not (jt_val (j_call h_do_cover (hr.mono (by decide)) (glF k_shows_apart_do_cover) (ja_cons (j_vL 0 k_shows_apart_many) (ja_cons (j_vC 1 k_shows_apart_stretches) (ja_cons (j_ix (K := K) rfl (j_vL 2 k_shows_apart_thing) j_int) ja_nil))) (by decide +kernel))))))) (jb_one (js_ret j_bl)) jb_nil) (jb_cons (js_setC (i := 3) sc_shows_apart.nd rfl (Or.inl k_shows_apart_chosen) (sub := [none, some 1]) (subOk_of (N := ["many", "stretches", "thing", "chosen"]) (sc := defScope s_shows_apart) (N' := ["place", "stretches"]) (by decide +kernel)) rfl rfl rfl (ji_seq (K := K) rfl (j_ix (K := K) rfl (j_vL 2 k_shows_apart_thing) j_int)) (fun C s₀ H₀ ex => (jg_B 0 (by decide +kernel) nd_shows_apart_3)) (fun C s₀ H₀ ex => jif_nil) (fun C s₀ H₀ ex => (j_ix (K := K) rfl (j_vBF 1 (by decide +kernel)) (j_vBL 0 (by decide +kernel)))) rfl) (jb_cons (js_if (jt_not (jt_val (j_call h_are_apart (hr.mono (by decide)) (glF k_shows_apart_are_apart) (ja_cons (j_vL 3 k_shows_apart_chosen) ja_nil) (by decide +kernel)))) (jb_one (js_ret j_bl)) jb_nil) (jb_one (js_ret (j_chain (op_eqE (K := K) rfl hu64) (op_eqE (K := K) rfl hu64) (j_callB (call_sum1 rfl) (glF k_shows_apart_sum) T.b_sum bt_sum (ja_cons (j_comp (sub := [none]) (subOk_of (N := ["many", "stretches", "thing", "chosen"]) (sc := defScope s_shows_apart) (N' := ["stretch"]) (by decide +kernel)) rfl rfl rfl (ji_seq (K := K) rfl (j_vL 3 k_shows_apart_chosen)) (fun C s₀ H₀ ex => (jg_B 0 (by decide +kernel) nd_shows_apart_2)) (fun C s₀ H₀ ex => jif_nil) (fun C s₀ H₀ ex => (j_ix (K := K) rfl (j_vBL 0 (by decide +kernel)) j_int))) ja_nil) (by decide +kernel) (by decide +kernel)) (j_ix (K := K) rfl (j_vL 2 k_shows_apart_thing) j_int) (j_callB (call_sum1 rfl) (glF k_shows_apart_sum) T.b_sum bt_sum (ja_cons (j_ix (K := K) rfl (j_vL 2 k_shows_apart_thing) j_int) ja_nil) (by decide +kernel) (by decide +kernel)))))))))), ?_⟩
  walk_at "sts"
  have hs : 2000 ≤ sizeLine := by decide
  have hul := hL.len
  have lc : ((nI cs).map V.int).length = cs.length := by rw [List.length_map, nI_len]
  unfold showsB at q
  refine ⟨m, a, us, S, rfl, hm, hL, hl, hok, fun H1 S1 => ?_⟩
  walk_at "sts"
  have ht1 := S1 _ _ ht
  have hc1 := S1 _ _ hc
  have hpr1 := S1 _ _ hpr
  have hL1 := hL.same S1
  refine r_isi (.tup ht1) rfl ?_
  walk_at "sts"
  refine r_lenT (SqT.of ht1) ?_
  walk_at "sts"
  rw [show decide (V.int (([V.int W, .ref c, .ref pr] : List V).length : Int) = V.int 3) = true from decide_eq_true rfl]
  walk_at "sts"
  refine ⟨W, rfl, ?_⟩
  walk_at "sts"
  try refine r_ixT (SqT.of ht1) (atI_nat (j := 1) rfl) ?_
  walk_at "sts"
  refine r_lenL (SqL.of hL1.1) ?_
  walk_at "sts"
  rw [hul]
  refine ⟨c, S.length, cs, rfl, hc1, by omega, hcs, fun H2 S2 => ?_⟩
  have S12 := S1.trans S2
  have ht2 := S2 _ _ ht1
  have hL2 := hL1.same S2
  cases hr1 : risB cs with
  | false =>
    walk_at "sts"
    rw [hr1, Bool.false_and] at q
    exact q _ S12
  | true =>
    rw [hr1, Bool.true_and] at q
    walk_at "sts"
    try refine r_ixT (SqT.of ht2) (atI_nat (j := 2) rfl) ?_
    walk_at "sts"
    refine ⟨m, a, pr, us, S, ps, rfl, hm, hL2, hl, hok, S2 _ _ hpr1, lp, fun H3 S3 => ?_⟩
    have S13 := S12.trans S3
    have ht3 := S3 _ _ ht2
    have hL3 := hL2.same S3
    have hc3 := S3 _ _ (S2 _ _ hc1)
    have hpr3 := S3 _ _ (S2 _ _ hpr1)
    cases hv1 : covB S ps with
    | false =>
      walk_at "sts"
      rw [hv1, Bool.false_and] at q
      exact q _ S13
    | true =>
      rw [hv1, Bool.true_and] at q
      walk_at "sts"
      try refine r_ixT (SqT.of ht3) (atI_nat (j := 1) rfl) ?_
      walk_at "sts"
      refine .inl ⟨c, rfl, ⟨_, SqL.of hc3⟩, ?_⟩
      refine comp_list (xs := (nI cs).map V.int) (fun i ys H4 => H4 = H3 ∧ DRs H3 ((pk S (cs.take i)).map Sn.dat) ys) (by omega) ⟨rfl, DRs_nil.mpr rfl⟩ ?_ ?_ ?_ ?_
      · rintro i ys H4 ⟨_, hd⟩
        have := DRs_len hd
        unfold pk at this
        simp at this
        omega
      · rintro i ys H4 ⟨rfl, _⟩
        exact SqL.of hc3
      · rintro i ys H4 x hx ⟨rfl, hd⟩
        obtain ⟨k, hk, rfl⟩ : ∃ k, cs[i]? = some k ∧ x = V.int (k : Int) := by
          unfold nI at hx
          rw [List.getElem?_map, List.getElem?_map] at hx
          cases e : cs[i]? with
          | none => rw [e] at hx; cases hx
          | some y => rw [e] at hx; exact ⟨y, rfl, (Option.some.inj hx).symm⟩
        have hkS := hcs k (List.mem_of_getElem? hk)
        have hku : us[k]? = some (us[k]'(by omega)) := List.getElem?_eq_getElem _
        obtain ⟨s, ad, hsk, hu, had⟩ := DRs_sn hL3.2 hku
        rw [hu] at hku
        walk_at "sts"
        refine ⟨KeepSt.set rfl, ?_⟩
        walk_at "sts"
        refine r_ixL (SqL.of hL3.1) (atI_nat hku) ?_
        refine ⟨rfl, ?_⟩
        have : pk S (cs.take (i + 1)) = pk S (cs.take i) ++ [s] := by
          unfold pk
          rw [List.take_add_one, hk, List.map_append]
          show _ ++ [S.getD k s0] = _
          rw [List.getD_eq_getElem?_getD, hsk]; rfl
        rw [this, List.map_append]
        exact DRs_append hd (DRs_one (DR_sn.mpr ⟨ad, rfl, had⟩))
      · rintro ys H4 ⟨rfl, hd⟩ D hD
        rw [lc, List.take_length] at hd
        have S4 := (Same.refl H4).upd hD (o := .lst ys)
        have hD4 : Lsn (upd H4 D (.lst ys)) D ys (pk S cs) := ⟨upd_same, DRs.same S4 _ _ hd⟩
        generalize upd H4 D (.lst ys) = H5 at S4 hD4 ⊢
        have S15 := S13.trans S4
        have lpk : (pk S cs).length = cs.length := by unfold pk; rw [List.length_map]
        have bpk : ∀ s ∈ pk S cs, s.b < s.e := fun s hs' => by
          unfold pk at hs'
          obtain ⟨i, hi, rfl⟩ := List.mem_map.mp hs'
          have hiS := hcs i hi
          rw [List.getD_eq_getElem?_getD, List.getElem?_eq_getElem hiS]
          exact (hok _ (List.getElem_mem hiS)).2.2.1
        have hul2 := hD4.len
        walk_at "sts"
        refine ⟨D, ys, pk S cs, rfl, hD4, by omega, bpk, fun H6 S6 => ?_⟩
        have S16 := S15.trans S6
        have hD6 := hD4.same S6
        rw [show decide ((pk S cs).Pairwise Dj) = disB S cs from rfl]
        cases hd1 : disB S cs with
        | false =>
          walk_at "sts"
          rw [hd1, Bool.false_and] at q
          exact q _ S16
        | true =>
          rw [hd1, Bool.true_and] at q
          walk_at "sts"
          refine .inl ⟨D, rfl, ⟨_, SqL.of hD6.1⟩, ?_⟩
          refine comp_list (xs := ys) (fun i bs H7 => H7 = H6 ∧ bs = (((pk S cs).take i).map fun s => (s.w : Int)).map V.int) (by omega) ⟨rfl, rfl⟩ ?_ ?_ ?_ ?_
          · rintro i bs H7 ⟨_, rfl⟩
            simp; omega
          · rintro i bs H7 ⟨rfl, rfl⟩
            exact SqL.of hD6.1
          · rintro i bs H7 x hx ⟨rfl, rfl⟩
            obtain ⟨s, ad, hsi, rfl, hsa⟩ := DRs_sn hD6.2 hx
            walk_at "sts"
            refine ⟨KeepSt.set rfl, ?_⟩
            walk_at "sts"
            refine ⟨rfl, ?_⟩
            rw [List.take_add_one, hsi, List.map_append, List.map_append]; rfl
          · rintro bs H7 ⟨rfl, rfl⟩ D2 hD2
            rw [hul2, List.take_length]
            have S7 := S16.upd hD2 (o := .lst (((pk S cs).map fun s => (s.w : Int)).map V.int))
            have f7 := upd_same (H := H7) (a := D2) (o := .lst (((pk S cs).map fun s => (s.w : Int)).map V.int))
            generalize upd H7 D2 (.lst (((pk S cs).map fun s => (s.w : Int)).map V.int)) = H8 at S7 f7 ⊢
            have ht8 := S7 _ _ ht
            have hpr8 := S7 _ _ hpr
            walk_at "sts"
            refine r_sum f7 ?_
            walk_at "sts"
            rw [pk_sum hcs]
            try refine r_ixT (SqT.of ht8) (atI_nat (j := 0) rfl) ?_
            walk_at "sts"
            rw [dec_int2]
            cases hq1 : decide (wsum S cs = W) with
            | false =>
              walk_at "sts"
              rw [hq1, Bool.false_and] at q
              exact q _ S7
            | true =>
              rw [hq1, Bool.true_and] at q
              walk_at "sts"
              try refine r_ixT (SqT.of ht8) (atI_nat (j := 2) rfl) ?_
              walk_at "sts"
              refine r_sum hpr8 ?_
              walk_at "sts"
              rw [dec_int2]
              exact q _ S7
end

section
variable {P : Program} {w : World} {K : PySem.W.Frag} {mg : Str → Option Value} {base : Heap}
theorem nd_law_chosen_0 : (["_law_k"] : List Str).Nodup := by decide +kernel
theorem k_law_chosen__law_worth : (defScope s_law_chosen).names.lookup ("_law_worth" : Str) = some NameKind.local := by decide +kernel
theorem k_law_chosen__law_chosen_here : (defScope s_law_chosen).names.lookup ("_law_chosen_here" : Str) = some NameKind.local := by decide +kernel
theorem k_law_chosen__law_at_here : (defScope s_law_chosen).names.lookup ("_law_at_here" : Str) = some NameKind.local := by decide +kernel
theorem k_law_chosen_range : (defScope s_law_chosen).names.lookup ("range" : Str) = some NameKind.globalImplicit := by decide +kernel
theorem k_law_chosen__law_spans_here : (defScope s_law_chosen).names.lookup ("_law_spans_here" : Str) = some NameKind.local := by decide +kernel
theorem k_law_chosen__law_place : (defScope s_law_chosen).names.lookup ("_law_place" : Str) = some NameKind.local := by decide +kernel
theorem k_law_chosen__law_free : (defScope s_law_chosen).names.lookup ("_law_free" : Str) = some NameKind.local := by decide +kernel
theorem k_law_chosen__law_last : (defScope s_law_chosen).names.lookup ("_law_last" : Str) = some NameKind.local := by decide +kernel
theorem k_law_chosen_len : (defScope s_law_chosen).names.lookup ("len" : Str) = some NameKind.globalImplicit := by decide +kernel
theorem k_law_chosen__law_whole : (defScope s_law_chosen).names.lookup ("_law_whole" : Str) = some NameKind.globalImplicit := by decide +kernel
theorem k_law_chosen__law_many : (defScope s_law_chosen).names.lookup ("_law_many" : Str) = some NameKind.local := by decide +kernel
theorem k_law_chosen_isinstance : (defScope s_law_chosen).names.lookup ("isinstance" : Str) = some NameKind.globalImplicit := by decide +kernel
theorem k_law_chosen_list : (defScope s_law_chosen).names.lookup ("list" : Str) = some NameKind.globalImplicit := by decide +kernel
theorem at_bool {F : List Bool} {k : Nat} {j : Int} (hk : k < F.length) (hj : j = (k : Int)) : atI (F.map V.bl) j = some (.bl (F.getD k false)) := by
  subst hj
  refine atI_nat ?_
  rw [List.getElem?_map, List.getElem?_eq_getElem hk, List.getD_eq_getElem?_getD, List.getElem?_eq_getElem hk]; rfl
theorem ix_at {n p : Nat} {j : Int} (hj : j = (p : Int)) (h : p < n) : ixN n j = some p := by
  subst hj
  unfold ixN
  rw [if_pos (by omega), if_pos (by omega)]
  simp
theorem wsum_take {S : List Sn} {ms : List Nat} {k i : Nat} (h : ms[k]? = some i) : wsum S (ms.take (k + 1)) = wsum S (ms.take k) + ww S i := by
  rw [List.take_add_one, h]
  exact wsum_push S _ i
theorem pk_take {S : List Sn} {cs : List Nat} {k i : Nat} (h : cs[k]? = some i) : pk S (cs.take (k + 1)) = pk S (cs.take k) ++ [S.getD i s0] := by
  unfold pk
  rw [List.take_add_one, h, List.map_append]; rfl
noncomputable def Hd (S : List Sn) (i p : Nat) : Prop := (S.getD i s0).b ≤ p ∧ p < (S.getD i s0).e
theorem not_dj {S : List Sn} {cs : List Nat} {k i j p : Nat} (hk : cs[k]? = some i) (hj : j ∈ cs.take k) (h1 : Hd S j p) (h2 : Hd S i p) : disB S cs = false := by
  unfold disB
  refine decide_eq_false fun z => ?_
  obtain ⟨x, hx, e⟩ := List.mem_iff_getElem.mp hj
  have hx' : x < k ∧ x < cs.length := by rw [List.length_take] at hx; omega
  rw [List.getElem_take] at e
  have hkl := (List.getElem?_eq_some_iff.mp hk).1
  have ek := (List.getElem?_eq_some_iff.mp hk).2
  unfold pk at z
  rw [List.pairwise_map, List.pairwise_iff_getElem] at z
  have := z x k (by omega) hkl hx'.1
  rw [e, ek] at this
  unfold Dj at this
  unfold Hd at h1 h2
  omega
theorem not_ris {cs : List Nat} {k i j : Nat} (hk : cs[k]? = some i) (hj : j ∈ cs.take k) (h : i ≤ j) : risB cs = false := by
  cases hb : risB cs with
  | false => rfl
  | true =>
    have z := ris_pw.mp hb
    obtain ⟨x, hx, e⟩ := List.mem_iff_getElem.mp hj
    have hx' : x < k ∧ x < cs.length := by rw [List.length_take] at hx; omega
    rw [List.getElem_take] at e
    have hkl := (List.getElem?_eq_some_iff.mp hk).1
    have ek := (List.getElem?_eq_some_iff.mp hk).2
    rw [List.pairwise_iff_getElem] at z
    have := z x k (by omega) hkl hx'.1
    omega
noncomputable def spChk (K : PySem.W.Frag) : Sp := fun vs H Q _ => ∃ (m : Nat) (a ch : Addr) (us : List V) (S : List Sn) (cs : List Nat) (W : Int), vs = [.int m, .ref a, .ref ch, .int W] ∧ m ≤ 24 ∧ Lsn H a us S ∧ S.length ≤ 400 ∧ (∀ s ∈ S, s.ok m) ∧ H ch = some (.lst ((nI cs).map V.int)) ∧ cs.length ≤ 24 ∧ (∀ i ∈ cs, i < S.length) ∧
  ∀ H', Same H H' → Q (.bl (risB cs && (disB S cs && decide (W = wsum S cs)))) H'
theorem sc_law_chosen : FnScope ["_law_many", "_law_spans_here", "_law_chosen_here", "_law_worth", "_law_free", "_law_last", "_law_at_here", "_law_place"] ["_law_many", "_law_spans_here", "_law_chosen_here", "_law_worth"] (defScope s_law_chosen) := ⟨rfl, rfl, rfl, by decide +kernel, rfl, by decide +kernel, by decide +kernel⟩
theorem h_law_chosen (T : Txt K mg) : Has P w K mg base 2 "_law_chosen" ["_law_many", "_law_spans_here", "_law_chosen_here", "_law_worth"] (spChk K) := by
  have h_law_whole := h_law_whole (P := P) (w := w) (base := base) T
  refine hasJ T.d_law_chosen sc_law_chosen (fun _ _ _ _ _ _ us hl => L2.usN4 (fun _ _ _ _ => rfl) us hl) ?_ fun f cdv A outer s H vs Q E hr h => ?_
  · rintro vs H Q E ⟨m, a, ch, us, S, cs, W, rfl, _⟩; rfl
  obtain ⟨m, a, ch, us, S, cs, W, rfl, hm, hL, hl, hok, hch, hml, hcs, q⟩ := h
  have hu := hr.units0
  have hu64 := hr.units
  refine ⟨_, (jb_cons (js_if (jt_not (jt_val (j_callB (call_isiK (K := K) rfl) (glF k_law_chosen_isinstance) T.b_isinstance bt_isinstance (ja_cons (j_vL 2 k_law_chosen__law_chosen_here) (ja_cons (j_ty (glF k_law_chosen_list) T.b_list bt_list (by decide +kernel) (by decide +kernel)) ja_nil)) (by decide +kernel) (by decide +kernel)))) (jb_one (js_ret j_bl)) jb_nil) (jb_cons (js_setC (i := 4) sc_law_chosen.nd rfl (Or.inl k_law_chosen__law_free) (sub := [none]) (subOk_of (N := ["_law_many", "_law_spans_here", "_law_chosen_here", "_law_worth", "_law_free", "_law_last", "_law_at_here", "_law_place"]) (sc := defScope s_law_chosen) (N' := ["_law_k"]) (by decide +kernel)) rfl rfl rfl (ji_range1 (glF k_law_chosen_range) T.b_range (ja_cons (j_vL 0 k_law_chosen__law_many) ja_nil)) (fun C s₀ H₀ ex => (jg_B 0 (by decide +kernel) nd_law_chosen_0)) (fun C s₀ H₀ ex => jif_nil) (fun C s₀ H₀ ex => j_bl) rfl) (jb_cons (js_set (i := 5) sc_law_chosen.nd rfl (Or.inl k_law_chosen__law_last) (j_un un_neg j_int) rfl) (jb_cons (js_for PassesOwn.never rfl (ji_seq (K := K) rfl (j_vL 2 k_law_chosen__law_chosen_here)) (jg_name (i := 6) sc_law_chosen.nd rfl (Or.inl k_law_chosen__law_at_here) rfl) (jb_cons (js_if (jw_pt (jw_or (jt_not (jt_val (j_call h_law_whole (hr.mono (by decide)) (glF k_law_chosen__law_whole) (ja_cons (j_vL 6 k_law_chosen__law_at_here) ja_nil) (by decide +kernel)))) (jw_or (jt_cmp op_le (j_vL 6 k_law_chosen__law_at_here) (j_vL 5 k_law_chosen__law_last) (by first | exact nomark _ | with_unfolding_all rfl)) (jw_or1 (jt_cmp op_ge (j_vL 6 k_law_chosen__law_at_here) (j_callB (call_lenK (K := K) rfl) (glF k_law_chosen_len) T.b_len bt_len (ja_cons (j_vL 1 k_law_chosen__law_spans_here) ja_nil) (by decide +kernel) (by decide +kernel)) (by first | exact nomark _ | with_unfolding_all rfl)))))) (jb_one (js_ret j_bl)) jb_nil) (jb_cons (js_set (i := 5) sc_law_chosen.nd rfl (Or.inl k_law_chosen__law_last) (j_vL 6 k_law_chosen__law_at_here) rfl) (jb_cons (js_set (i := 3) sc_law_chosen.nd rfl (Or.inl k_law_chosen__law_worth) (j_op op_sub (j_vL 3 k_law_chosen__law_worth) (j_ix (K := K) rfl (j_ix (K := K) rfl (j_vL 1 k_law_chosen__law_spans_here) (j_vL 6 k_law_chosen__law_at_here)) j_int)) rfl) (jb_one (js_for PassesOwn.never rfl (ji_range2 (glF k_law_chosen_range) T.b_range (ja_cons (j_ix (K := K) rfl (j_ix (K := K) rfl (j_vL 1 k_law_chosen__law_spans_here) (j_vL 6 k_law_chosen__law_at_here)) j_int) (ja_cons (j_ix (K := K) rfl (j_ix (K := K) rfl (j_vL 1 k_law_chosen__law_spans_here) (j_vL 6 k_law_chosen__law_at_here)) j_int) ja_nil))) (jg_name (i := 7) sc_law_chosen.nd rfl (Or.inl k_law_chosen__law_place) rfl) (jb_cons (js_if (jt_not (jt_val (j_ix (K := K) rfl (j_vL 4 k_law_chosen__law_free) (j_vL 7 k_law_chosen__law_place)))) (jb_one (js_ret j_bl)) jb_nil) (jb_one (js_asgS (ts := rSetL) j_bl (jg_sub (j_vL 4 k_law_chosen__law_free) (j_vL 7 k_law_chosen__law_place) set_list)))))))))) (jb_one (js_ret (j_cmp (op_eqE (K := K) rfl hu64) (j_vL 3 k_law_chosen__law_worth) j_int (by first | exact nomark _ | with_unfolding_all rfl)))))))), ?_⟩
  walk_at "sts"
  have hs : 2000 ≤ sizeLine := by decide
  have hul := hL.len
  refine r_isi (.lst hch) rfl ?_
  walk_at "sts"
  refine ⟨_, rfl, by omega, by omega, ?_⟩
  have em : ((m : Nat) : Int).toNat = m := by omega
  rw [em]
  refine comp_rng (n := m) (fun i ys H' => H' = H ∧ ys = (List.replicate i true).map V.bl) (by omega) ⟨rfl, rfl⟩ ?_ ?_ ?_
  · rintro i ys H' ⟨_, rfl⟩
    simp
  · rintro i ys H' hi ⟨rfl, rfl⟩
    walk_at "sts"
    refine ⟨KeepSt.set rfl, ?_⟩
    walk_at "sts"
    refine ⟨rfl, ?_⟩
    rw [List.replicate_succ', List.map_append]; rfl
  rintro ys H' ⟨rfl, rfl⟩ fr nfr
  have S1 : Same H' (upd H' fr (.lst ((List.replicate m true).map V.bl))) := (Same.refl H').upd nfr
  have hf1 : upd H' fr (.lst ((List.replicate m true).map V.bl)) fr = some (.lst ((List.replicate m true).map V.bl)) := upd_same
  generalize upd H' fr (.lst ((List.replicate m true).map V.bl)) = H1 at S1 hf1 ⊢
  walk_at "sts"
  refine .inl ⟨ch, rfl, ⟨_, SqL.of (S1 _ _ hch)⟩, ?_⟩
  refine for_list (xs := (nI cs).map V.int) (fun k σ H2 => ∃ (F : List Bool) (la : Int) (x6 x7 : Option V), σ = [some (.int m), some (.ref a), some (.ref ch), some (.int (W - wsum S (cs.take k))), some (.ref fr), some (.int la), x6, x7] ∧ Same H' H2 ∧ H2 fr = some (.lst (F.map V.bl)) ∧ F.length = m ∧
      ((la = -1 ∧ cs.take k = []) ∨ ∃ j ∈ cs.take k, la = (j : Int)) ∧ (∀ j ∈ cs.take k, (j : Int) ≤ la) ∧ (cs.take k).Pairwise (· < ·) ∧ (pk S (cs.take k)).Pairwise Dj ∧ ∀ p, p < m → (F.getD p false = true ↔ ∀ i ∈ cs.take k, ¬ Hd S i p))
    ⟨List.replicate m true, -1, _, _, by rw [List.take_zero, show wsum S [] = 0 from rfl, Int.sub_zero]; rfl, S1, hf1, by simp, .inl ⟨rfl, rfl⟩, (fun j hj => by simp at hj), by simp, by simp [pk], fun p hp => by simp [List.getD_eq_getElem?_getD, List.getElem?_replicate, hp]⟩ (fun i σ H2 _ h => ?_) ?_ ?_
  · obtain ⟨_, _, _, _, _, s, _⟩ := h
    exact SqL.of (s _ _ hch)
  · rintro k v σ H2 hk ⟨F, la, x6, x7, rfl, s, hf, hFl, hla, hle, hpw, hdj, hF⟩
    obtain ⟨i, hi, rfl⟩ : ∃ i, cs[k]? = some i ∧ v = V.int (i : Int) := by
      unfold nI at hk
      rw [List.getElem?_map, List.getElem?_map] at hk
      cases e : cs[k]? with
      | none => rw [e] at hk; cases hk
      | some y => rw [e] at hk; exact ⟨y, rfl, (Option.some.inj hk).symm⟩
    have himem := List.mem_of_getElem? hi
    have hil := hcs i himem
    obtain ⟨t, ht⟩ : ∃ t, S[i]? = some t := ⟨_, List.getElem?_eq_getElem hil⟩
    have gt : S.getD i s0 = t := by rw [List.getD_eq_getElem?_getD, ht]; rfl
    have okt := hok t (List.mem_of_getElem? ht)
    have hus : us[i]? = some (us[i]'(by omega)) := List.getElem?_eq_getElem _
    have hL2 := hL.same s
    obtain ⟨t', ad, ht', hua, had⟩ := DRs_sn hL2.2 hus
    rw [ht] at ht'
    cases ht'
    rw [hua] at hus
    have tk : cs.take (k + 1) = cs.take k ++ [i] := by rw [List.take_add_one, hi]; rfl
    walk_at "sts"
    refine ⟨_, rfl, ?_⟩
    walk_at "sts"
    by_cases hb : (i : Int) ≤ la
    · rw [decide_eq_true hb]
      walk_at "sts"
      obtain ⟨j, hj, ej⟩ : ∃ j ∈ cs.take k, la = (j : Int) := by
        rcases hla with ⟨e, _⟩ | h
        · omega
        · exact h
      rw [not_ris hi hj (by omega), Bool.false_and] at q
      exact q _ s
    · rw [decide_eq_false hb]
      walk_at "sts"
      refine r_lenL (SqL.of hL2.1) ?_
      walk_at "sts"
      rw [decide_eq_false (show ¬ ((us.length : Int)) ≤ (i : Int) by omega)]
      walk_at "sts"
      refine r_ixL (SqL.of hL2.1) (atI_nat (j := i) hus) ?_
      walk_at "sts"
      refine r_ixL (SqL.of hL2.1) (atI_nat (j := i) hus) ?_
      walk_at "sts"
      refine r_ixL (SqL.of hL2.1) (atI_nat (j := i) hus) ?_
      walk_at "sts"
      refine ⟨⟨by omega, by have := okt.2.2; omega, by omega, by have := okt.2.2; omega⟩, ?_⟩
      have en : ((t.e : Int) - (t.b : Int)).toNat = t.e - t.b := by omega
      rw [en]
      have hwt : W - wsum S (cs.take k) - (t.w : Int) = W - wsum S (cs.take (k + 1)) := by rw [wsum_take hi, ww_of ht]; omega
      rw [hwt]
      refine for_range (n := t.e - t.b) (fun j σ H3 => ∃ (F' : List Bool) (x7 : Option V), σ = [some (.int m), some (.ref a), some (.ref ch), some (.int (W - wsum S (cs.take (k + 1)))), some (.ref fr), some (.int i), some (.int i), x7] ∧ Same H' H3 ∧ H3 fr = some (.lst (F'.map V.bl)) ∧ F'.length = m ∧
          (∀ p, t.b ≤ p → p < t.b + j → ∀ x ∈ cs.take k, ¬ Hd S x p) ∧ ∀ p, p < m → (F'.getD p false = true ↔ (∀ x ∈ cs.take k, ¬ Hd S x p) ∧ ¬ (t.b ≤ p ∧ p < t.b + j)))
        ⟨F, _, rfl, s, hf, hFl, (fun p h1 h2 => by omega), fun p hp => by rw [hF p hp]; exact ⟨fun h => ⟨h, by omega⟩, fun h => h.1⟩⟩ ?_ ?_
      · rintro j σ H3 hj ⟨F', x7, rfl, s3, hf3, hl3, hfree, hF3⟩
        have hp : t.b + j < m := by have := okt.2.2; omega
        walk_at "sts"
        refine r_ixL (SqL.of hf3) (at_bool (k := t.b + j) (by omega) (by omega)) ?_
        walk_at "sts"
        cases hval : F'.getD (t.b + j) false with
        | false =>
          walk_at "sts"
          have no : ¬ ∀ x ∈ cs.take k, ¬ Hd S x (t.b + j) := fun z => by
            have := (hF3 _ hp).mpr ⟨z, by omega⟩
            rw [hval] at this; cases this
          obtain ⟨x, hx, hh⟩ : ∃ x ∈ cs.take k, Hd S x (t.b + j) := by
            refine Classical.byContradiction fun z => no fun x hx hh => z ⟨x, hx, hh⟩
          have hdF : disB S cs = false := not_dj (p := t.b + j) hi hx hh (by unfold Hd; rw [gt]; omega)
          rw [hdF, Bool.false_and, Bool.and_false] at q
          exact q _ s3
        | true =>
          have hfr := ((hF3 _ hp).mp hval).1
          walk_at "sts"
          refine r_setL hf3 (ix_at (p := t.b + j) (by omega) (by rw [List.length_map]; omega)) ?_
          walk_at "sts"
          refine ⟨F'.set (t.b + j) false, _, rfl, Same.put s3 nfr, by rw [upd_same, List.map_set], by simp; omega, fun p h1 h2 => ?_, fun p hp' => ?_⟩
          · by_cases hpj : p = t.b + j
            · rw [hpj]; exact hfr
            · exact hfree p h1 (by omega)
          · by_cases hpj : p = t.b + j
            · rw [hpj, List.getD_eq_getElem?_getD, List.getElem?_set_self (by omega)]
              exact ⟨fun z => by simp at z, fun z => absurd (show t.b ≤ t.b + j ∧ t.b + j < t.b + (j + 1) by omega) z.2⟩
            · rw [List.getD_eq_getElem?_getD, List.getElem?_set_ne (fun z => hpj z.symm), ← List.getD_eq_getElem?_getD, hF3 p hp']
              exact ⟨fun z => ⟨z.1, by have := z.2; omega⟩, fun z => ⟨z.1, by have := z.2; omega⟩⟩
      · rintro σ H3 ⟨F', x7, rfl, s3, hf3, hl3, hfree, hF3⟩
        have hte : t.b + (t.e - t.b) = t.e := by have := okt.2.2; omega
        rw [hte] at hfree
        refine ⟨F', i, _, _, rfl, s3, hf3, hl3, .inr ⟨i, by rw [tk]; simp, rfl⟩, fun j hj => ?_, ?_, ?_, fun p hp => ?_⟩
        · rw [tk] at hj
          rcases List.mem_append.mp hj with h | h
          · have := hle j h; omega
          · rw [List.mem_singleton.mp h]; exact Int.le_refl _
        · rw [tk, List.pairwise_append]
          refine ⟨hpw, by simp, fun x hx y hy => ?_⟩
          rw [List.mem_singleton.mp hy]
          have := hle x hx; omega
        · rw [pk_take hi, List.pairwise_append]
          refine ⟨hdj, by simp, fun x hx y hy => ?_⟩
          rw [List.mem_singleton.mp hy, gt]
          unfold pk at hx
          obtain ⟨j, hj, rfl⟩ := List.mem_map.mp hx
          have hjS := hcs j (List.mem_of_mem_take hj)
          have okj : (S.getD j s0).b < (S.getD j s0).e := by
            rw [List.getD_eq_getElem?_getD, List.getElem?_eq_getElem hjS]
            exact (hok _ (List.getElem_mem hjS)).2.2.1
          unfold Dj
          refine Classical.byContradiction fun z => ?_
          have h1 := okt.2.2.1
          by_cases hmx : t.b ≤ (S.getD j s0).b
          · exact hfree (S.getD j s0).b hmx (by omega) j hj ⟨Nat.le_refl _, okj⟩
          · exact hfree t.b (Nat.le_refl _) h1 j hj ⟨by omega, by omega⟩
        · rw [hF3 p hp, hte, tk]
          constructor
          · rintro ⟨h1, h2⟩ x hx
            rcases List.mem_append.mp hx with h | h
            · exact h1 x h
            · rw [List.mem_singleton.mp h]; unfold Hd; rw [gt]; exact h2
          · intro h1
            refine ⟨fun x hx => h1 x (List.mem_append_left _ hx), ?_⟩
            have := h1 i (by simp)
            unfold Hd at this
            rw [gt] at this
            exact this
  · rintro σ H2 ⟨F, la, x6, x7, rfl, s, hf, hFl, hla, hle, hpw, hdj, hF⟩
    have e1 : cs.take ((nI cs).map V.int).length = cs := by rw [List.length_map, nI_len, List.take_length]
    rw [e1] at hpw hdj
    rw [e1, ris_pw.mpr hpw, show disB S cs = true from decide_eq_true hdj, Bool.true_and, Bool.true_and] at *
    walk_at "sts"
    rw [dec_int2]
    have e2 : decide (W - wsum S cs = 0) = decide (W = wsum S cs) := decide_eq_decide.mpr (by omega)
    rw [e2]
    exact q _ s
end

section
variable {P : Program} {w : World} {K : PySem.W.Frag} {mg : Str → Option Value} {base : Heap}
theorem k_law_prices_sum : (defScope s_law_prices).names.lookup ("sum" : Str) = some NameKind.globalImplicit := by decide +kernel
theorem k_law_prices__law_prices_here : (defScope s_law_prices).names.lookup ("_law_prices_here" : Str) = some NameKind.local := by decide +kernel
theorem k_law_prices__law_worth : (defScope s_law_prices).names.lookup ("_law_worth" : Str) = some NameKind.local := by decide +kernel
theorem k_law_prices__law_spans_here : (defScope s_law_prices).names.lookup ("_law_spans_here" : Str) = some NameKind.local := by decide +kernel
theorem k_law_prices__law_end : (defScope s_law_prices).names.lookup ("_law_end" : Str) = some NameKind.local := by decide +kernel
theorem k_law_prices__law_begin : (defScope s_law_prices).names.lookup ("_law_begin" : Str) = some NameKind.local := by decide +kernel
theorem k_law_prices__law_least : (defScope s_law_prices).names.lookup ("_law_least" : Str) = some NameKind.local := by decide +kernel
theorem k_law_prices__law_price : (defScope s_law_prices).names.lookup ("_law_price" : Str) = some NameKind.local := by decide +kernel
theorem k_law_prices__law_whole : (defScope s_law_prices).names.lookup ("_law_whole" : Str) = some NameKind.globalImplicit := by decide +kernel
theorem k_law_prices_len : (defScope s_law_prices).names.lookup ("len" : Str) = some NameKind.globalImplicit := by decide +kernel
theorem k_law_prices__law_many : (defScope s_law_prices).names.lookup ("_law_many" : Str) = some NameKind.local := by decide +kernel
theorem k_law_prices_isinstance : (defScope s_law_prices).names.lookup ("isinstance" : Str) = some NameKind.globalImplicit := by decide +kernel
theorem k_law_prices_list : (defScope s_law_prices).names.lookup ("list" : Str) = some NameKind.globalImplicit := by decide +kernel
theorem k_law_right__law_prices : (defScope s_law_right).names.lookup ("_law_prices" : Str) = some NameKind.globalImplicit := by decide +kernel
theorem k_law_right__law_worth : (defScope s_law_right).names.lookup ("_law_worth" : Str) = some NameKind.local := by decide +kernel
theorem k_law_right__law_found : (defScope s_law_right).names.lookup ("_law_found" : Str) = some NameKind.local := by decide +kernel
theorem k_law_right__law_spans_here : (defScope s_law_right).names.lookup ("_law_spans_here" : Str) = some NameKind.local := by decide +kernel
theorem k_law_right__law_many : (defScope s_law_right).names.lookup ("_law_many" : Str) = some NameKind.local := by decide +kernel
theorem k_law_right__law_chosen : (defScope s_law_right).names.lookup ("_law_chosen" : Str) = some NameKind.globalImplicit := by decide +kernel
theorem k_law_right__law_whole : (defScope s_law_right).names.lookup ("_law_whole" : Str) = some NameKind.globalImplicit := by decide +kernel
theorem k_law_right_len : (defScope s_law_right).names.lookup ("len" : Str) = some NameKind.globalImplicit := by decide +kernel
theorem k_law_right_isinstance : (defScope s_law_right).names.lookup ("isinstance" : Str) = some NameKind.globalImplicit := by decide +kernel
theorem k_law_right_tuple : (defScope s_law_right).names.lookup ("tuple" : Str) = some NameKind.globalImplicit := by decide +kernel
noncomputable def spPri (K : PySem.W.Frag) : Sp := fun vs H Q _ => ∃ (m : Nat) (a pr : Addr) (us : List V) (S : List Sn) (ps : List Int) (W : Int), vs = [.int m, .ref a, .ref pr, .int W] ∧ m ≤ 24 ∧ Lsn H a us S ∧ S.length ≤ 400 ∧ (∀ s ∈ S, s.ok m) ∧ H pr = some (.lst (ps.map V.int)) ∧ ps.length = m ∧
  ∀ H', Same H H' → Q (.bl (covB S ps && decide (ps.sum = W))) H'
theorem sc_law_prices : FnScope ["_law_many", "_law_spans_here", "_law_prices_here", "_law_worth", "_law_price", "_law_least", "_law_begin", "_law_end"] ["_law_many", "_law_spans_here", "_law_prices_here", "_law_worth"] (defScope s_law_prices) := ⟨rfl, rfl, rfl, by decide +kernel, rfl, by decide +kernel, by decide +kernel⟩
theorem h_law_prices (T : Txt K mg) : Has P w K mg base 2 "_law_prices" ["_law_many", "_law_spans_here", "_law_prices_here", "_law_worth"] (spPri K) := by
  have h_law_whole := h_law_whole (P := P) (w := w) (base := base) T
  refine hasJ T.d_law_prices sc_law_prices (fun _ _ _ _ _ _ us hl => L2.usN4 (fun _ _ _ _ => rfl) us hl) ?_ fun f cdv A outer s H vs Q E hr h => ?_
  · rintro vs H Q E ⟨m, a, pr, us, S, ps, W, rfl, _⟩; rfl
  obtain ⟨m, a, pr, us, S, ps, W, rfl, hm, hL, hl, hok, hpr, lp, q⟩ := h
  have hu := hr.units0
  have hu64 := hr.units
  refine ⟨_, (jb_cons (js_if (jw_pt (jw_or (jt_not (jt_val (j_callB (call_isiK (K := K) rfl) (glF k_law_prices_isinstance) T.b_isinstance bt_isinstance (ja_cons (j_vL 2 k_law_prices__law_prices_here) (ja_cons (j_ty (glF k_law_prices_list) T.b_list bt_list (by decide +kernel) (by decide +kernel)) ja_nil)) (by decide +kernel) (by decide +kernel)))) (jw_or1 (jt_cmp (op_neX (K := K) rfl hu64) (j_callB (call_lenK (K := K) rfl) (glF k_law_prices_len) T.b_len bt_len (ja_cons (j_vL 2 k_law_prices__law_prices_here) ja_nil) (by decide +kernel) (by decide +kernel)) (j_vL 0 k_law_prices__law_many) (by first | exact nomark _ | with_unfolding_all rfl))))) (jb_one (js_ret j_bl)) jb_nil) (jb_cons (js_for PassesOwn.never rfl (ji_seq (K := K) rfl (j_vL 2 k_law_prices__law_prices_here)) (jg_name (i := 4) sc_law_prices.nd rfl (Or.inl k_law_prices__law_price) rfl) (jb_one (js_if (jw_pt (jw_or (jt_not (jt_val (j_call h_law_whole (hr.mono (by decide)) (glF k_law_prices__law_whole) (ja_cons (j_vL 4 k_law_prices__law_price) ja_nil) (by decide +kernel)))) (jw_or1 (jt_cmp op_lt (j_vL 4 k_law_prices__law_price) j_int (by first | exact nomark _ | with_unfolding_all rfl))))) (jb_one (js_ret j_bl)) jb_nil))) (jb_cons (js_for PassesOwn.never rfl (ji_seq (K := K) rfl (j_vL 1 k_law_prices__law_spans_here)) (jg_tup (K := K) rfl rfl (jgs_cons (jg_name (i := 5) sc_law_prices.nd rfl (Or.inl k_law_prices__law_least) rfl) (jgs_cons (jg_name (i := 6) sc_law_prices.nd rfl (Or.inl k_law_prices__law_begin) rfl) (jgs_cons (jg_name (i := 7) sc_law_prices.nd rfl (Or.inl k_law_prices__law_end) rfl) jgs_nil)))) (jb_one (js_if (jt_cmp op_lt (j_callB (call_sum1 rfl) (glF k_law_prices_sum) T.b_sum bt_sum (ja_cons (j_slice (sl_seqK (K := K) rfl) (j_vL 2 k_law_prices__law_prices_here) (jo_some (j_vL 6 k_law_prices__law_begin)) (jo_some (j_vL 7 k_law_prices__law_end))) ja_nil) (by decide +kernel) (by decide +kernel)) (j_vL 5 k_law_prices__law_least) (by first | exact nomark _ | with_unfolding_all rfl)) (jb_one (js_ret j_bl)) jb_nil))) (jb_one (js_ret (j_cmp (op_eqE (K := K) rfl hu64) (j_callB (call_sum1 rfl) (glF k_law_prices_sum) T.b_sum bt_sum (ja_cons (j_vL 2 k_law_prices__law_prices_here) ja_nil) (by decide +kernel) (by decide +kernel)) (j_vL 3 k_law_prices__law_worth) (by first | exact nomark _ | with_unfolding_all rfl))))))), ?_⟩
  walk_at "sts"
  have hul := hL.len
  have lpv : (ps.map V.int).length = m := by rw [List.length_map]; exact lp
  refine r_isi (.lst hpr) rfl ?_
  walk_at "sts"
  refine r_lenL (SqL.of hpr) ?_
  walk_at "sts"
  rw [lpv, dec_int2, decide_eq_true rfl]
  walk_at "sts"
  refine .inl ⟨pr, rfl, ⟨_, SqL.of hpr⟩, ?_⟩
  refine for_list (xs := ps.map V.int) (fun k σ H2 => H2 = H ∧ ((ps.take k).all fun x => decide (0 ≤ x)) = true ∧ ∃ x4 : Option V, σ = [some (.int m), some (.ref a), some (.ref pr), some (.int W), x4, none, none, none]) ⟨rfl, rfl, _, rfl⟩ (fun i σ H2 _ h => by rw [h.1]; exact SqL.of hpr) ?_ ?_
  · rintro k v σ H2 hk ⟨rfl, hal, x4, rfl⟩
    obtain ⟨n, hn, rfl⟩ : ∃ n, ps[k]? = some n ∧ v = V.int n := by
      rw [List.getElem?_map] at hk
      cases e : ps[k]? with
      | none => rw [e] at hk; cases hk
      | some y => rw [e] at hk; exact ⟨y, rfl, (Option.some.inj hk).symm⟩
    walk_at "sts"
    refine ⟨_, rfl, ?_⟩
    walk_at "sts"
    by_cases h0 : n < 0
    · rw [decide_eq_true h0]
      walk_at "sts"
      have : covB S ps = false := by
        unfold covB
        have : (ps.all fun x => decide (0 ≤ x)) = false := by
          rw [List.all_eq_false]
          exact ⟨n, List.mem_of_getElem? hn, by rw [decide_eq_false (by omega)]; decide⟩
        rw [this, Bool.false_and]
      rw [this, Bool.false_and] at q
      exact q _ (Same.refl _)
    · rw [decide_eq_false h0]
      walk_at "sts"
      refine ⟨rfl, ?_, _, rfl⟩
      rw [List.take_add_one, hn, List.all_append, hal]
      show (true && (decide (0 ≤ n) && true)) = true
      rw [decide_eq_true (by omega)]; rfl
  · rintro σ H2 ⟨rfl, hal, x4, rfl⟩
    rw [lpv, List.take_of_length_le (by omega)] at hal
    walk_at "sts"
    refine .inl ⟨a, rfl, ⟨_, SqL.of hL.1⟩, ?_⟩
    refine for_list (xs := us) (fun k σ H3 => Same H2 H3 ∧ ((S.take k).all fun s => decide ((s.w : Int) ≤ slc ps s.b s.e)) = true ∧ ∃ x5 x6 x7 : Option V, σ = [some (.int m), some (.ref a), some (.ref pr), some (.int W), x4, x5, x6, x7]) ⟨Same.refl _, rfl, _, _, _, rfl⟩ (fun i σ H3 _ h => SqL.of (h.1 _ _ hL.1)) ?_ ?_
    · rintro k v σ H3 hk ⟨s, hal2, x5, x6, x7, rfl⟩
      obtain ⟨t, ad, hti, rfl, ht⟩ := DRs_sn (hL.same s).2 hk
      have okt := hok t (List.mem_of_getElem? hti)
      refine r_gtup (SqT.of ht) rfl ?_
      walk_at "sts"
      refine r_slL (SqL.of (s _ _ hpr)) fun p np => ?_
      walk_at "sts"
      rw [cut_be (by have := okt.2.2; omega) (by have := okt.2.2; omega)]
      refine r_sum upd_same ?_
      walk_at "sts"
      by_cases h0 : slc ps t.b t.e < (t.w : Int)
      · have h0' : ((ps.drop t.b).take (t.e - t.b)).sum < (t.w : Int) := h0
        rw [decide_eq_true h0']
        walk_at "sts"
        have : covB S ps = false := by
          unfold covB
          have : (S.all fun s => decide ((s.w : Int) ≤ slc ps s.b s.e)) = false := by
            rw [List.all_eq_false]
            exact ⟨t, List.mem_of_getElem? hti, by rw [decide_eq_false (by omega)]; decide⟩
          rw [this, Bool.and_false]
        rw [this, Bool.false_and] at q
        exact q _ (s.upd np)
      · have h0' : ¬ ((ps.drop t.b).take (t.e - t.b)).sum < (t.w : Int) := h0
        rw [decide_eq_false h0']
        walk_at "sts"
        refine ⟨s.upd np, ?_, _, _, _, rfl⟩
        rw [List.take_add_one, hti, List.all_append, hal2]
        show (true && (decide ((t.w : Int) ≤ slc ps t.b t.e) && true)) = true
        rw [decide_eq_true (by omega)]; rfl
    · rintro σ H3 ⟨s, hal2, x5, x6, x7, rfl⟩
      rw [hul, List.take_length] at hal2
      walk_at "sts"
      refine r_sum (s _ _ hpr) ?_
      walk_at "sts"
      rw [dec_int2]
      have : covB S ps = true := by unfold covB; rw [hal, hal2]; rfl
      rw [this, Bool.true_and] at q
      exact q _ s
noncomputable def rightB (S : List Sn) (W : Int) (cs : List Nat) (ps : List Int) : Bool := (risB cs && (disB S cs && decide (W = wsum S cs))) && (covB S ps && decide (ps.sum = W))
theorem right_shows (S : List Sn) (W : Int) (cs : List Nat) (ps : List Int) : rightB S W cs ps = showsB S W cs ps := by
  unfold rightB showsB
  have e1 : decide (W = wsum S cs) = decide (wsum S cs = W) := decide_eq_decide.mpr ⟨Eq.symm, Eq.symm⟩
  have e2 : decide (ps.sum = W) = decide (W = ps.sum) := decide_eq_decide.mpr ⟨Eq.symm, Eq.symm⟩
  rw [e1, e2]
  cases risB cs <;> cases disB S cs <;> cases covB S ps <;> cases decide (wsum S cs = W) <;> rfl
noncomputable def spRight (K : PySem.W.Frag) : Sp := fun vs H Q _ => ∃ (m : Nat) (a t ch pr : Addr) (us : List V) (S : List Sn) (cs : List Nat) (ps : List Int) (W : Int), vs = [.int m, .ref a, .ref t, .int W] ∧ m ≤ 24 ∧ Lsn H a us S ∧ S.length ≤ 400 ∧ (∀ s ∈ S, s.ok m) ∧ H t = some (.tup [.int W, .ref ch, .ref pr]) ∧ H ch = some (.lst ((nI cs).map V.int)) ∧ H pr = some (.lst (ps.map V.int)) ∧
  cs.length ≤ 24 ∧ (∀ i ∈ cs, i < S.length) ∧ ps.length = m ∧ ∀ H', Same H H' → Q (.bl (showsB S W cs ps)) H'
theorem sc_law_right : FnScope ["_law_many", "_law_spans_here", "_law_found", "_law_worth"] ["_law_many", "_law_spans_here", "_law_found", "_law_worth"] (defScope s_law_right) := ⟨rfl, rfl, rfl, by decide +kernel, rfl, by decide +kernel, by decide +kernel⟩
theorem h_law_right (T : Txt K mg) : Has P w K mg base 3 "_law_right" ["_law_many", "_law_spans_here", "_law_found", "_law_worth"] (spRight K) := by
  have h_law_whole := h_law_whole (P := P) (w := w) (base := base) T
  have h_law_chosen := h_law_chosen (P := P) (w := w) (base := base) T
  have h_law_prices := h_law_prices (P := P) (w := w) (base := base) T
  refine hasJ T.d_law_right sc_law_right (fun _ _ _ _ _ _ us hl => L2.usN4 (fun _ _ _ _ => rfl) us hl) ?_ fun f cdv A outer s H vs Q E hr h => ?_
  · rintro vs H Q E ⟨m, a, t, ch, pr, us, S, cs, ps, W, rfl, _⟩; rfl
  obtain ⟨m, a, t, ch, pr, us, S, cs, ps, W, rfl, hm, hL, hl, hok, ht, hch, hpr, hml, hcs, lp, q⟩ := h
  have hu := hr.units0
  have hu64 := hr.units
  refine ⟨_, (jb_cons (js_if (jw_pt (jw_or (jt_not (jt_val (j_callB (call_isiK (K := K) rfl) (glF k_law_right_isinstance) T.b_isinstance bt_isinstance (ja_cons (j_vL 2 k_law_right__law_found) (ja_cons (j_ty (glF k_law_right_tuple) T.b_tuple bt_tuple (by decide +kernel) (by decide +kernel)) ja_nil)) (by decide +kernel) (by decide +kernel)))) (jw_or1 (jt_cmp (op_neX (K := K) rfl hu64) (j_callB (call_lenK (K := K) rfl) (glF k_law_right_len) T.b_len bt_len (ja_cons (j_vL 2 k_law_right__law_found) ja_nil) (by decide +kernel) (by decide +kernel)) j_int (by first | exact nomark _ | with_unfolding_all rfl))))) (jb_one (js_ret j_bl)) jb_nil) (jb_cons (js_if (jw_pt (jw_or (jt_not (jt_val (j_call h_law_whole (hr.mono (by decide)) (glF k_law_right__law_whole) (ja_cons (j_ix (K := K) rfl (j_vL 2 k_law_right__law_found) j_int) ja_nil) (by decide +kernel)))) (jw_or1 (jt_cmp (op_neX (K := K) rfl hu64) (j_ix (K := K) rfl (j_vL 2 k_law_right__law_found) j_int) (j_vL 3 k_law_right__law_worth) (by first | exact nomark _ | with_unfolding_all rfl))))) (jb_one (js_ret j_bl)) jb_nil) (jb_one (js_ret (j_and (j_call h_law_chosen (hr.mono (by decide)) (glF k_law_right__law_chosen) (ja_cons (j_vL 0 k_law_right__law_many) (ja_cons (j_vL 1 k_law_right__law_spans_here) (ja_cons (j_ix (K := K) rfl (j_vL 2 k_law_right__law_found) j_int) (ja_cons (j_vL 3 k_law_right__law_worth) ja_nil)))) (by decide +kernel)) (j_one (j_call h_law_prices (hr.mono (by decide)) (glF k_law_right__law_prices) (ja_cons (j_vL 0 k_law_right__law_many) (ja_cons (j_vL 1 k_law_right__law_spans_here) (ja_cons (j_ix (K := K) rfl (j_vL 2 k_law_right__law_found) j_int) (ja_cons (j_vL 3 k_law_right__law_worth) ja_nil)))) (by decide +kernel)))))))), ?_⟩
  walk_at "sts"
  rw [← right_shows] at q
  unfold rightB at q
  refine r_isi (.tup ht) rfl ?_
  walk_at "sts"
  refine r_lenT (SqT.of ht) ?_
  walk_at "sts"
  rw [show decide (V.int (([V.int W, .ref ch, .ref pr] : List V).length : Int) = V.int 3) = true from decide_eq_true rfl]
  walk_at "sts"
  refine ⟨_, rfl, ?_⟩
  walk_at "sts"
  rw [dec_int2, decide_eq_true rfl]
  walk_at "sts"
  refine ⟨m, a, ch, us, S, cs, _, rfl, hm, hL, hl, hok, hch, hml, hcs, fun H1 S1 => ?_⟩
  walk_at "sts"
  cases hb : (risB cs && (disB S cs && decide (W = wsum S cs))) with
  | false =>
    walk_at "sts"
    rw [hb, Bool.false_and] at q
    exact q _ S1
  | true =>
    rw [hb, Bool.true_and] at q
    walk_at "sts"
    try refine r_ixT (SqT.of (S1 _ _ ht)) (atI_nat (j := 2) rfl) ?_
    walk_at "sts"
    exact ⟨m, a, pr, us, S, ps, _, rfl, hm, hL.same S1, hl, hok, S1 _ _ hpr, lp, fun H2 S2 => q _ (S1.trans S2)⟩
end

noncomputable def sumN (f : Nat → Int) : Nat → Int
  | 0 => 0
  | n + 1 => sumN f n + f n
theorem sumN_take (ps : List Int) : ∀ k, k ≤ ps.length → sumN (fun p => ps.getD p 0) k = (ps.take k).sum
  | 0, _ => by simp [sumN]
  | k + 1, h => by
    have ih := sumN_take ps k (by omega)
    rw [sumN, ih, List.take_add_one, List.getElem?_eq_getElem (by omega), List.sum_append, List.getD_eq_getElem?_getD, List.getElem?_eq_getElem (by omega)]
    simp
theorem slc_sumN {ps : List Int} {b e : Nat} (h1 : b ≤ e) (h2 : e ≤ ps.length) : slc ps b e = sumN (fun p => ps.getD p 0) e - sumN (fun p => ps.getD p 0) b := by
  rw [sumN_take ps e h2, sumN_take ps b (by omega)]
  unfold slc
  have : ps.take e = ps.take b ++ (ps.drop b).take (e - b) := by
    rw [← List.take_append_drop b (ps.take e)]
    congr 1
    · rw [List.take_take, Nat.min_eq_left h1]
    · rw [List.drop_take]
  rw [this, List.sum_append]
  omega
theorem sumN_ind (f : Nat → Int) {b e : Nat} (h : b ≤ e) : ∀ n, sumN (fun p => if b ≤ p ∧ p < e then f p else 0) n = sumN f (min n e) - sumN f (min n b)
  | 0 => by simp [sumN]
  | n + 1 => by
    rw [sumN, sumN_ind f h n]
    by_cases h1 : b ≤ n ∧ n < e
    · rw [if_pos h1, show min (n + 1) e = min n e + 1 by omega, show min (n + 1) b = min n b by omega, sumN, show min n e = n by omega]
      omega
    · rw [if_neg h1]
      by_cases h2 : n < b
      · rw [show min (n + 1) e = min n e + 1 by omega, show min (n + 1) b = min n b + 1 by omega, sumN, sumN, show min n e = n by omega, show min n b = n by omega]
        omega
      · rw [show min (n + 1) e = min n e by omega, show min (n + 1) b = min n b by omega]
        omega
theorem sumN_add (f g : Nat → Int) : ∀ n, sumN (fun p => f p + g p) n = sumN f n + sumN g n
  | 0 => rfl
  | n + 1 => by rw [sumN, sumN, sumN, sumN_add f g n]; omega
theorem sumN_le {f g : Nat → Int} : ∀ n, (∀ p, p < n → f p ≤ g p) → sumN f n ≤ sumN g n
  | 0, _ => Int.le_refl _
  | n + 1, h => by
    have := sumN_le n fun p hp => h p (by omega)
    have := h n (by omega)
    rw [sumN, sumN]; omega
theorem sumN_congr {f g : Nat → Int} : ∀ n, (∀ p, p < n → f p = g p) → sumN f n = sumN g n
  | 0, _ => rfl
  | n + 1, h => by rw [sumN, sumN, sumN_congr n fun p hp => h p (by omega), h n (by omega)]
noncomputable def inT (T : List Sn) (p : Nat) : Bool := T.any fun s => decide (s.b ≤ p ∧ p < s.e)
theorem slices_le {ps : List Int} (h0 : ∀ x ∈ ps, 0 ≤ x) {T : List Sn} (hd : T.Pairwise Dj) (hT : ∀ s ∈ T, s.b ≤ s.e ∧ s.e ≤ ps.length) : (T.map fun s => slc ps s.b s.e).sum ≤ ps.sum := by
  have key : ∀ T : List Sn, T.Pairwise Dj → (∀ s ∈ T, s.b ≤ s.e ∧ s.e ≤ ps.length) → (T.map fun s => slc ps s.b s.e).sum = sumN (fun p => if inT T p = true then ps.getD p 0 else 0) ps.length := by
    intro T
    induction T with
    | nil =>
      intro _ _
      have : ∀ n, sumN (fun p => if inT [] p = true then ps.getD p 0 else 0) n = 0 := by
        intro n
        induction n with
        | zero => rfl
        | succ n ih => rw [sumN, ih]; rfl
      rw [this]; rfl
    | cons s T ih =>
      intro hd hT
      rw [List.pairwise_cons] at hd
      obtain ⟨a, b⟩ := hT s List.mem_cons_self
      rw [List.map_cons, List.sum_cons, ih hd.2 fun t ht => hT t (List.mem_cons_of_mem _ ht), slc_sumN a b]
      have e1 := sumN_ind (fun p => ps.getD p 0) a ps.length
      rw [Nat.min_eq_right b, Nat.min_eq_right (Nat.le_trans a b)] at e1
      rw [← e1, ← sumN_add]
      refine sumN_congr _ fun p hp => ?_
      by_cases h1 : s.b ≤ p ∧ p < s.e
      · have h2 : inT T p = false := by
          unfold inT
          rw [List.any_eq_false]
          intro t ht z
          have z' := of_decide_eq_true z
          have := hd.1 t ht
          unfold Dj at this
          omega
        have h3 : inT (s :: T) p = true := by
          unfold inT
          rw [List.any_cons, decide_eq_true h1]; rfl
        rw [if_pos h1, if_neg (by rw [h2]; decide), if_pos h3]; omega
      · have h3 : inT (s :: T) p = inT T p := by
          unfold inT
          rw [List.any_cons, decide_eq_false h1]; rfl
        rw [if_neg h1, h3]; omega
  rw [key T hd hT]
  have e := sumN_take ps ps.length (Nat.le_refl _)
  rw [List.take_length] at e
  rw [← e]
  refine sumN_le _ fun p hp => ?_
  split
  · exact Int.le_refl _
  · rw [List.getD_eq_getElem?_getD, List.getElem?_eq_getElem hp]
    exact h0 _ (List.getElem_mem hp)
theorem cov_nn {S : List Sn} {ps : List Int} (h : covB S ps = true) : ∀ x ∈ ps, 0 ≤ x := fun x hx => by
  unfold covB at h
  rw [Bool.and_eq_true, List.all_eq_true] at h
  exact of_decide_eq_true (h.1 x hx)
theorem cov_put {S : List Sn} {ps : List Int} (h : covB S ps = true) : ∀ s ∈ S, (s.w : Int) ≤ slc ps s.b s.e := fun s hs => by
  unfold covB at h
  rw [Bool.and_eq_true, List.all_eq_true, List.all_eq_true] at h
  exact of_decide_eq_true (h.2 s hs)
theorem sum_le {T : List Sn} {f g : Sn → Int} (h : ∀ s ∈ T, f s ≤ g s) : (T.map f).sum ≤ (T.map g).sum := by
  induction T with
  | nil => exact Int.le_refl _
  | cons s T ih =>
    rw [List.map_cons, List.map_cons, List.sum_cons, List.sum_cons]
    have := ih fun t ht => h t (List.mem_cons_of_mem _ ht)
    have := h s List.mem_cons_self
    omega
theorem pk_in {S : List Sn} {cs : List Nat} (hcs : ∀ i ∈ cs, i < S.length) : ∀ s ∈ pk S cs, s ∈ S := fun s hs => by
  unfold pk at hs
  obtain ⟨i, hi, rfl⟩ := List.mem_map.mp hs
  have := hcs i hi
  rw [List.getD_eq_getElem?_getD, List.getElem?_eq_getElem this]
  exact List.getElem_mem this
theorem duality {S : List Sn} {m : Nat} {cs : List Nat} {ps : List Int} (hok : ∀ s ∈ S, s.ok m) (hcs : ∀ i ∈ cs, i < S.length) (hd : (pk S cs).Pairwise Dj) (lp : ps.length = m) (hc : covB S ps = true) : wsum S cs ≤ ps.sum := by
  rw [← pk_sum hcs]
  refine Int.le_trans (sum_le (g := fun s => slc ps s.b s.e) fun s hs => cov_put hc s (pk_in hcs s hs)) (slices_le (cov_nn hc) hd fun s hs => ?_)
  have := (hok s (pk_in hcs s hs)).2.2
  omega
theorem rep_sum : ∀ m : Nat, (List.replicate m (1 : Int)).sum = m
  | 0 => rfl
  | m + 1 => by rw [List.replicate_succ, List.sum_cons, rep_sum m]; omega
theorem ones_sum {α : Type} : ∀ T : List α, (T.map fun _ => (1 : Int)).sum = T.length
  | [] => rfl
  | _ :: T => by rw [List.map_cons, List.sum_cons, ones_sum T, List.length_cons]; omega
theorem few_apart {S : List Sn} {m : Nat} {cs : List Nat} (hok : ∀ s ∈ S, s.ok m) (hcs : ∀ i ∈ cs, i < S.length) (hd : (pk S cs).Pairwise Dj) : cs.length ≤ m := by
  have h := slices_le (ps := List.replicate m 1) (fun x hx => by rw [(List.mem_replicate.mp hx).2]; decide) hd (fun s hs => by
    have := (hok s (pk_in hcs s hs)).2.2
    rw [List.length_replicate]; omega)
  rw [rep_sum] at h
  have h2 := sum_le (T := pk S cs) (f := fun _ => (1 : Int)) (g := fun s => slc (List.replicate m 1) s.b s.e) (fun s hs => by
    have := (hok s (pk_in hcs s hs)).2.2
    unfold slc
    rw [List.drop_replicate, List.take_replicate, rep_sum]
    omega)
  rw [ones_sum] at h2
  have : (pk S cs).length = cs.length := by unfold pk; rw [List.length_map]
  omega
theorem prs_cov {S : List Sn} {m : Nat} {L : List Int} (hok : ∀ s ∈ S, s.ok m) (hl : L.length = m + 1) (h : SumsOk S L) : covB S (prs L m) = true := by
  unfold covB
  rw [Bool.and_eq_true, List.all_eq_true, List.all_eq_true]
  refine ⟨fun x hx => ?_, fun s hs => ?_⟩
  · unfold prs at hx
    obtain ⟨p, hp, rfl⟩ := List.mem_map.mp hx
    have := h.up (p + 1) (by omega) (by have := List.mem_range.mp hp; omega)
    rw [Nat.add_sub_cancel] at this
    exact decide_eq_true (by omega)
  · have ok := (hok s hs).2.2
    refine decide_eq_true ?_
    unfold slc
    rw [prs_sum L m s.b (s.e - s.b) (by omega), show s.b + (s.e - s.b) = s.e by omega]
    have := h.put s hs (by omega)
    omega
theorem chos_dj {S : List Sn} {ms : List Nat} (h : Chos S ms) : (pk S ms).Pairwise Dj := by
  unfold pk
  rw [List.pairwise_map]
  have hn : ms.Pairwise fun i j => i ≠ j := h.up.imp fun h => by omega
  refine hn.imp_of_mem fun {i j} hi hj ne => ?_
  have := h.ap i hi j hj ne
  have li := h.lt i hi
  have lj := h.lt j hj
  rw [bb_of (List.getElem?_eq_getElem li), bb_of (List.getElem?_eq_getElem lj), ee_of (List.getElem?_eq_getElem li), ee_of (List.getElem?_eq_getElem lj)] at this
  unfold Dj
  rw [List.getD_eq_getElem?_getD, List.getD_eq_getElem?_getD, List.getElem?_eq_getElem li, List.getElem?_eq_getElem lj]
  exact this

section
variable {P : Program} {w : World} {K : PySem.W.Frag} {mg : Str → Option Value} {base : Heap}
theorem nd_law_choice_0 : (["_law_k"] : List Str).Nodup := by decide +kernel
theorem k_law_choice_sorted : (defScope s_law_choice).names.lookup ("sorted" : Str) = some NameKind.globalImplicit := by decide +kernel
theorem k_law_choice__law_chosen_here : (defScope s_law_choice).names.lookup ("_law_chosen_here" : Str) = some NameKind.local := by decide +kernel
theorem k_law_choice_range : (defScope s_law_choice).names.lookup ("range" : Str) = some NameKind.globalImplicit := by decide +kernel
theorem k_law_choice_len : (defScope s_law_choice).names.lookup ("len" : Str) = some NameKind.globalImplicit := by decide +kernel
theorem k_law_choice__law_spans_here : (defScope s_law_choice).names.lookup ("_law_spans_here" : Str) = some NameKind.local := by decide +kernel
theorem k_law_choice__law_k : (defScope s_law_choice).names.lookup ("_law_k" : Str) = some NameKind.local := by decide +kernel
theorem k_law_choice__law_mix : (defScope s_law_choice).names.lookup ("_law_mix" : Str) = some NameKind.globalImplicit := by decide +kernel
theorem k_law_choice__law_seed : (defScope s_law_choice).names.lookup ("_law_seed" : Str) = some NameKind.local := by decide +kernel
theorem k_law_choice_all : (defScope s_law_choice).names.lookup ("all" : Str) = some NameKind.globalImplicit := by decide +kernel
theorem k_law_choice__law_begin : (defScope s_law_choice).names.lookup ("_law_begin" : Str) = some NameKind.local := by decide +kernel
theorem k_law_choice__law_end : (defScope s_law_choice).names.lookup ("_law_end" : Str) = some NameKind.local := by decide +kernel
theorem k_law_choice__law_free : (defScope s_law_choice).names.lookup ("_law_free" : Str) = some NameKind.local := by decide +kernel
theorem k_law_choice__law_place : (defScope s_law_choice).names.lookup ("_law_place" : Str) = some NameKind.local := by decide +kernel
theorem k_law_choice__law_at_here : (defScope s_law_choice).names.lookup ("_law_at_here" : Str) = some NameKind.local := by decide +kernel
theorem k_law_choice__law_worth : (defScope s_law_choice).names.lookup ("_law_worth" : Str) = some NameKind.local := by decide +kernel
theorem k_law_choice__law_many : (defScope s_law_choice).names.lookup ("_law_many" : Str) = some NameKind.local := by decide +kernel
noncomputable def spChoice : Sp := fun vs H Q _ => ∃ (a : Addr) (us : List V) (S : List Sn) (m : Nat) (sd : Int), vs = [.ref a, .int m, .int sd] ∧ m ≤ 24 ∧ Lsn H a us S ∧ S.length ≤ 400 ∧ (∀ s ∈ S, s.ok m) ∧
  ∀ (q : Addr) (cs : List Nat) (H' : Hp), H q = none → Same H H' → H' q = some (.lst ((nI cs).map V.int)) → cs.length ≤ 24 → (∀ i ∈ cs, i < S.length) → cs.Pairwise (· < ·) → (pk S cs).Pairwise Dj → Q (.ref q) H'
theorem cut_bools {F : List Bool} {b e : Nat} (h1 : b ≤ e) (h2 : e ≤ F.length) : cutV (F.map V.bl) (some (b : Int)) (some (e : Int)) = ((F.drop b).take (e - b)).map V.bl := by
  unfold cutV
  rw [HT.sIx_nat, HT.sIx_nat, List.length_map, Nat.min_eq_left h2, Nat.min_eq_left (show b ≤ F.length by omega), List.map_take, List.map_drop]
theorem all_cut {F : List Bool} {b e : Nat} (h2 : e ≤ F.length) (h : ((F.drop b).take (e - b)).all id = true) : ∀ p, b ≤ p → p < e → F.getD p false = true := fun p h3 h4 => by
  rw [List.all_eq_true] at h
  have hp : p < F.length := by omega
  have : F[p] ∈ (F.drop b).take (e - b) := by
    refine List.mem_iff_getElem.mpr ⟨p - b, by simp; omega, ?_⟩
    rw [List.getElem_take, List.getElem_drop]
    congr 1; omega
  rw [List.getD_eq_getElem?_getD, List.getElem?_eq_getElem hp]
  exact h _ this
theorem sc_law_choice : FnScope ["_law_spans_here", "_law_many", "_law_seed", "_law_free", "_law_chosen_here", "_law_k", "_law_at_here", "_law_worth", "_law_begin", "_law_end", "_law_place"] ["_law_spans_here", "_law_many", "_law_seed"] (defScope s_law_choice) := ⟨rfl, rfl, rfl, by decide +kernel, rfl, by decide +kernel, by decide +kernel⟩
theorem h_law_choice (T : Txt K mg) : Has P w K mg base 2 "_law_choice" ["_law_spans_here", "_law_many", "_law_seed"] spChoice := by
  have h_law_mix := h_law_mix (P := P) (w := w) (base := base) T
  refine hasJ T.d_law_choice sc_law_choice (fun _ _ _ _ _ _ us hl => L2.usN3 (fun _ _ _ => rfl) us hl) ?_ fun f cdv A outer s H vs Q E hr h => ?_
  · rintro vs H Q E ⟨a, us, S, m, sd, rfl, _⟩; rfl
  obtain ⟨a, us, S, m, sd, rfl, hm, hL, hl, hok, q⟩ := h
  have hu := hr.units0
  have hu64 := hr.units
  refine ⟨_, (jb_cons (js_setC (i := 3) sc_law_choice.nd rfl (Or.inl k_law_choice__law_free) (sub := [none]) (subOk_of (N := ["_law_spans_here", "_law_many", "_law_seed", "_law_free", "_law_chosen_here", "_law_k", "_law_at_here", "_law_worth", "_law_begin", "_law_end", "_law_place"]) (sc := defScope s_law_choice) (N' := ["_law_k"]) (by decide +kernel)) rfl rfl rfl (ji_range1 (glF k_law_choice_range) T.b_range (ja_cons (j_vL 1 k_law_choice__law_many) ja_nil)) (fun C s₀ H₀ ex => (jg_B 0 (by decide +kernel) nd_law_choice_0)) (fun C s₀ H₀ ex => jif_nil) (fun C s₀ H₀ ex => j_bl) rfl) (jb_cons (js_set (i := 4) sc_law_choice.nd rfl (Or.inl k_law_choice__law_chosen_here) (j_lst ja_nil) rfl) (jb_cons (js_for PassesOwn.never rfl (ji_range1 (glF k_law_choice_range) T.b_range (ja_cons (j_callB (call_lenK (K := K) rfl) (glF k_law_choice_len) T.b_len bt_len (ja_cons (j_vL 0 k_law_choice__law_spans_here) ja_nil) (by decide +kernel) (by decide +kernel)) ja_nil)) (jg_name (i := 5) sc_law_choice.nd rfl (Or.inl k_law_choice__law_k) rfl) (jb_cons (js_set (i := 6) sc_law_choice.nd rfl (Or.inl k_law_choice__law_at_here) (j_op op_mod (j_op op_addA (j_vL 2 k_law_choice__law_seed) (j_vL 5 k_law_choice__law_k)) (j_callB (call_lenK (K := K) rfl) (glF k_law_choice_len) T.b_len bt_len (ja_cons (j_vL 0 k_law_choice__law_spans_here) ja_nil) (by decide +kernel) (by decide +kernel))) rfl) (jb_cons (js_asgT (j_ix (K := K) rfl (j_vL 0 k_law_choice__law_spans_here) (j_vL 6 k_law_choice__law_at_here)) (jg_seqT (K := K) rfl rfl (jgs_cons (jg_name (i := 7) sc_law_choice.nd rfl (Or.inl k_law_choice__law_worth) rfl) (jgs_cons (jg_name (i := 8) sc_law_choice.nd rfl (Or.inl k_law_choice__law_begin) rfl) (jgs_cons (jg_name (i := 9) sc_law_choice.nd rfl (Or.inl k_law_choice__law_end) rfl) jgs_nil))))) (jb_one (js_if (jw_pt (jw_and (jt_val (j_callB (call_all rfl) (glF k_law_choice_all) T.b_all bt_all (ja_cons (j_slice (sl_seqK (K := K) rfl) (j_vL 3 k_law_choice__law_free) (jo_some (j_vL 8 k_law_choice__law_begin)) (jo_some (j_vL 9 k_law_choice__law_end))) ja_nil) (by decide +kernel) (by decide +kernel))) (jw_and1 (jt_cmp op_gt (j_op op_mod (j_call h_law_mix (hr.mono (by decide)) (glF k_law_choice__law_mix) (ja_cons (j_vL 2 k_law_choice__law_seed) (ja_cons (j_vL 5 k_law_choice__law_k) ja_nil)) (by decide +kernel)) j_int) j_int (by first | exact nomark _ | with_unfolding_all rfl))))) (jb_cons (js_expr (j_meth (K := K) rfl PySem.F.plainAttrs_list PySem.F.slot_list_append PySem.F.type_list_append mt_append (j_vL 4 k_law_choice__law_chosen_here) (ja_cons (j_vL 6 k_law_choice__law_at_here) ja_nil))) (jb_one (js_for PassesOwn.never rfl (ji_range2 (glF k_law_choice_range) T.b_range (ja_cons (j_vL 8 k_law_choice__law_begin) (ja_cons (j_vL 9 k_law_choice__law_end) ja_nil))) (jg_name (i := 10) sc_law_choice.nd rfl (Or.inl k_law_choice__law_place) rfl) (jb_one (js_asgS (ts := rSetL) j_bl (jg_sub (j_vL 3 k_law_choice__law_free) (j_vL 10 k_law_choice__law_place) set_list)))))) jb_nil))))) (jb_one (js_ret (j_callB call_sorted1 (glF k_law_choice_sorted) T.b_sorted bt_sorted (ja_cons (j_vL 4 k_law_choice__law_chosen_here) ja_nil) (by decide +kernel) (by decide +kernel))))))), ?_⟩
  walk_at "sts"
  have hs : 2000 ≤ sizeLine := by decide
  have hul := hL.len
  refine ⟨_, rfl, by omega, by omega, ?_⟩
  have em : ((m : Nat) : Int).toNat = m := by omega
  rw [em]
  refine comp_rng (n := m) (fun i ys H' => H' = H ∧ ys = (List.replicate i true).map V.bl) (by omega) ⟨rfl, rfl⟩ ?_ ?_ ?_
  · rintro i ys H' ⟨_, rfl⟩
    simp
  · rintro i ys H' hi ⟨rfl, rfl⟩
    walk_at "sts"
    refine ⟨KeepSt.set rfl, ?_⟩
    walk_at "sts"
    refine ⟨rfl, ?_⟩
    rw [List.replicate_succ', List.map_append]; rfl
  rintro ys H' ⟨rfl, rfl⟩ fr nfr
  have S1 : Same H' (upd H' fr (.lst ((List.replicate m true).map V.bl))) := (Same.refl H').upd nfr
  have hf1 : upd H' fr (.lst ((List.replicate m true).map V.bl)) fr = some (.lst ((List.replicate m true).map V.bl)) := upd_same
  generalize upd H' fr (.lst ((List.replicate m true).map V.bl)) = H1 at S1 hf1 ⊢
  walk_at "sts"
  refine r_new rfl fun ch nch => ?_
  have nchH := S1.free nch
  have nfc : fr ≠ ch := fun z => by rw [z, nch] at hf1; cases hf1
  have S2 := S1.upd nch (o := .lst [])
  have hf2 := upd_old nch hf1 (o := .lst [])
  have hc2 := upd_same (H := H1) (a := ch) (o := .lst [])
  generalize upd H1 ch (.lst []) = H2 at S2 hf2 hc2 ⊢
  walk_at "sts"
  refine r_lenL (SqL.of (S2 _ _ hL.1)) ?_
  walk_at "sts"
  rw [hul]
  refine ⟨_, rfl, by omega, by omega, ?_⟩
  refine for_range (fun k σ G => Same H' G ∧ (∃ (F : List Bool) (cs : List Nat), G fr = some (.lst (F.map V.bl)) ∧ F.length = m ∧ G ch = some (.lst ((nI cs).map V.int)) ∧ (∀ i ∈ cs, i < S.length) ∧ (pk S cs).Pairwise Dj ∧ ∀ p, p < m → F.getD p false = true → ∀ i ∈ cs, ¬ Hd S i p) ∧
      ∃ x5 x6 x7 x8 x9 x10, σ = [some (.ref a), some (.int m), some (.int sd), some (.ref fr), some (.ref ch), x5, x6, x7, x8, x9, x10])
    ⟨S2, ⟨List.replicate m true, [], hf2, by simp, hc2, (fun i hi => by cases hi), .nil, fun p _ _ i hi => by cases hi⟩, _, _, _, _, _, _, rfl⟩ ?_ ?_
  · rintro k σ G hk ⟨SG, ⟨F, cs, gf, lF, gc, hcs, hdj, hF⟩, x5, x6, x7, x8, x9, x10, rfl⟩
    have hk' : k < S.length := by omega
    have hn : 0 < us.length := by omega
    have few := few_apart hok hcs hdj
    have hLG := hL.same SG
    walk_at "sts"
    refine r_lenL (SqL.of hLG.1) ?_
    walk_at "sts"
    try refine r_i (show (0 : Int) < (us.length : Int) by omega) ?_
    walk_at "sts"
    have i0 := Int.emod_nonneg (sd + (0 + (k : Int))) (show (us.length : Int) ≠ 0 by omega)
    have i1 := Int.emod_lt_of_pos (sd + (0 + (k : Int))) (show (0 : Int) < (us.length : Int) by omega)
    obtain ⟨i, ei⟩ : ∃ i : Nat, (sd + (0 + (k : Int))) % (us.length : Int) = (i : Int) := ⟨_, (Int.toNat_of_nonneg i0).symm⟩
    rw [ei] at i0 i1
    rw [ei]
    have hx : us[i]? = some (us[i]'(by omega)) := List.getElem?_eq_getElem _
    obtain ⟨t, ad, hti, hu, hta⟩ := DRs_sn hLG.2 hx
    rw [hu] at hx
    have okt := hok t (List.mem_of_getElem? hti)
    have gt : S.getD i s0 = t := by rw [List.getD_eq_getElem?_getD, hti]; rfl
    refine r_ixL (SqL.of hLG.1) (atI_nat hx) ?_
    walk_at "sts"
    refine ⟨ad, _, rfl, .inl (SqT.of hta), rfl, ?_⟩
    walk_at "sts"
    refine r_slL (SqL.of gf) fun p np => ?_
    rw [cut_bools (by have := okt.2.2; omega) (by have := okt.2.2; omega)]
    have S3 := SG.upd np (o := .lst (((F.drop t.b).take (t.e - t.b)).map V.bl))
    have f3 := upd_same (H := G) (a := p) (o := .lst (((F.drop t.b).take (t.e - t.b)).map V.bl))
    have gf3 := upd_old np gf (o := .lst (((F.drop t.b).take (t.e - t.b)).map V.bl))
    have gc3 := upd_old np gc (o := .lst (((F.drop t.b).take (t.e - t.b)).map V.bl))
    generalize upd G p (.lst (((F.drop t.b).take (t.e - t.b)).map V.bl)) = G3 at S3 f3 gf3 gc3 ⊢
    walk_at "sts"
    refine ⟨p, _, rfl, f3, ?_⟩
    walk_at "sts"
    cases hal : ((F.drop t.b).take (t.e - t.b)).all id with
    | false =>
      walk_at "sts"
      exact ⟨S3, ⟨F, cs, gf3, lF, gc3, hcs, hdj, hF⟩, _, _, _, _, _, _, rfl⟩
    | true =>
      have free := all_cut (F := F) (b := t.b) (e := t.e) (by have := okt.2.2; omega) hal
      walk_at "sts"
      refine ⟨_, _, rfl, fun r => ?_⟩
      walk_at "sts"
      refine iteD (fun h5 => ?_) (fun h5 => ?_)
      · walk_at "sts"
        refine ⟨.inl ⟨rfl, _, SqL.of gc3⟩, ?_⟩
        walk_at "sts"
        refine r_append gc3 (by rw [List.length_map, nI_len]; omega) ?_
        have e4 : (nI cs).map V.int ++ [V.int (i : Int)] = (nI (cs ++ [i])).map V.int := by unfold nI; simp
        rw [e4]
        have S4 := Same.put (o := .lst ((nI (cs ++ [i])).map V.int)) S3 nchH
        have gf4 : upd G3 ch (.lst ((nI (cs ++ [i])).map V.int)) fr = _ := (upd_ne nfc).trans gf3
        have gc4 := upd_same (H := G3) (a := ch) (o := .lst ((nI (cs ++ [i])).map V.int))
        generalize upd G3 ch (.lst ((nI (cs ++ [i])).map V.int)) = G4 at S4 gf4 gc4 ⊢
        walk_at "sts"
        refine ⟨⟨by omega, by have := okt.2.2; omega, by omega, by have := okt.2.2; omega⟩, ?_⟩
        have hcs' : ∀ j ∈ cs ++ [i], j < S.length := fun j hj => by
          rcases List.mem_append.mp hj with h | h
          · exact hcs j h
          · rw [List.mem_singleton.mp h]; exact (List.getElem?_eq_some_iff.mp hti).1
        have hdj' : (pk S (cs ++ [i])).Pairwise Dj := by
          unfold pk
          rw [List.map_append, List.pairwise_append]
          refine ⟨hdj, by simp, fun x hx y hy => ?_⟩
          have hy' : y = S.getD i s0 := by simpa using hy
          rw [hy', gt]
          obtain ⟨j, hj, rfl⟩ := List.mem_map.mp hx
          have hjS := hcs j hj
          have okj := (hok _ (List.getElem_mem hjS)).2.2
          have gj : S.getD j s0 = S[j] := by rw [List.getD_eq_getElem?_getD, List.getElem?_eq_getElem hjS]; rfl
          unfold Dj
          refine Classical.byContradiction fun z => ?_
          have h1 := okt.2.2
          rw [gj] at z
          by_cases hmx : t.b ≤ (S[j]).b
          · have := hF (S[j]).b (by omega) (free _ hmx (by omega)) j hj
            unfold Hd at this
            rw [gj] at this
            omega
          · have := hF t.b (by omega) (free _ (Nat.le_refl _) (by omega)) j hj
            unfold Hd at this
            rw [gj] at this
            omega
        refine for_range (fun j σ G => Same H' G ∧ (∃ (F' : List Bool), G fr = some (.lst (F'.map V.bl)) ∧ F'.length = m ∧ G ch = some (.lst ((nI (cs ++ [i])).map V.int)) ∧ ∀ p, p < m → F'.getD p false = true → (∀ x ∈ cs, ¬ Hd S x p) ∧ ¬ (t.b ≤ p ∧ p < t.b + j)) ∧
            ∃ x5 x6 x7 x8 x9 x10, σ = [some (.ref a), some (.int m), some (.int sd), some (.ref fr), some (.ref ch), x5, x6, x7, x8, x9, x10])
          ⟨S4, ⟨F, gf4, lF, gc4, fun p hp h => ⟨hF p hp h, by omega⟩⟩, _, _, _, _, _, _, rfl⟩ ?_ ?_
        · rintro j σ G5 hj ⟨S5, ⟨F', gf5, lF5, gc5, hF5⟩, x5, x6, x7, x8, x9, x10, rfl⟩
          walk_at "sts"
          refine r_setL gf5 (ix_at (p := t.b + j) (by omega) (by rw [List.length_map]; have := okt.2.2; omega)) ?_
          walk_at "sts"
          refine ⟨Same.put S5 nfr, ⟨F'.set (t.b + j) false, by rw [upd_same, List.map_set], by simp; omega, (upd_ne nfc.symm).trans gc5, fun p hp h => ?_⟩, _, _, _, _, _, _, rfl⟩
          by_cases hpj : p = t.b + j
          · rw [hpj, List.getD_eq_getElem?_getD, List.getElem?_set_self (by omega)] at h
            simp at h
          · rw [List.getD_eq_getElem?_getD, List.getElem?_set_ne (fun z => hpj z.symm), ← List.getD_eq_getElem?_getD] at h
            have := hF5 p hp h
            exact ⟨this.1, by have := this.2; omega⟩
        · rintro σ G5 ⟨S5, ⟨F', gf5, lF5, gc5, hF5⟩, x5, x6, x7, x8, x9, x10, rfl⟩
          refine ⟨S5, ⟨F', cs ++ [i], gf5, lF5, gc5, hcs', hdj', fun p hp h x hx => ?_⟩, _, _, _, _, _, _, rfl⟩
          have := hF5 p hp h
          rcases List.mem_append.mp hx with hx | hx
          · exact this.1 x hx
          · rw [List.mem_singleton.mp hx]
            unfold Hd
            rw [gt]
            have := this.2
            have := okt.2.2
            omega
      · walk_at "sts"
        exact ⟨S3, ⟨F, cs, gf3, lF, gc3, hcs, hdj, hF⟩, _, _, _, _, _, _, rfl⟩
  · rintro σ G ⟨SG, ⟨F, cs, gf, lF, gc, hcs, hdj, hF⟩, x5, x6, x7, x8, x9, x10, rfl⟩
    have few := few_apart hok hcs hdj
    walk_at "sts"
    refine r_sorted gc (by rw [nI_len]; omega) fun q1 ms nq perm pw => ?_
    obtain ⟨ns, rfl, hp⟩ := perm_nat perm
    have nod : cs.Nodup := by
      unfold pk at hdj
      rw [List.pairwise_map] at hdj
      refine hdj.imp_of_mem fun {i j} hi hj h => ?_
      intro e
      subst e
      have hiS := hcs i hi
      rw [List.getD_eq_getElem?_getD, List.getElem?_eq_getElem hiS] at h
      have h' : Dj S[i] S[i] := h
      have := (hok _ (List.getElem_mem hiS)).2.2
      unfold Dj at h'
      omega
    refine q q1 ns _ (Same.back SG nq) (SG.upd nq) upd_same (by rw [hp.length_eq]; omega) (fun i hi => hcs i (hp.mem_iff.mp hi)) (strict pw (hp.nodup_iff.mpr nod)) ?_
    have : (pk S ns).Perm (pk S cs) := by unfold pk; exact hp.map _
    exact (this.pairwise_iff (fun h => Dj.symm h)).mpr hdj
end

section
variable {P : Program} {w : World} {K : PySem.W.Frag} {mg : Str → Option Value} {base : Heap}
theorem nd_law_covers_0 : (["_law_k"] : List Str).Nodup := by decide +kernel
theorem k_law_covers__law_prices_here : (defScope s_law_covers).names.lookup ("_law_prices_here" : Str) = some NameKind.local := by decide +kernel
theorem k_law_covers_range : (defScope s_law_covers).names.lookup ("range" : Str) = some NameKind.globalImplicit := by decide +kernel
theorem k_law_covers_len : (defScope s_law_covers).names.lookup ("len" : Str) = some NameKind.globalImplicit := by decide +kernel
theorem k_law_covers__law_spans_here : (defScope s_law_covers).names.lookup ("_law_spans_here" : Str) = some NameKind.local := by decide +kernel
theorem k_law_covers__law_k : (defScope s_law_covers).names.lookup ("_law_k" : Str) = some NameKind.local := by decide +kernel
theorem k_law_covers__law_lack : (defScope s_law_covers).names.lookup ("_law_lack" : Str) = some NameKind.local := by decide +kernel
theorem k_law_covers__law_at_here : (defScope s_law_covers).names.lookup ("_law_at_here" : Str) = some NameKind.local := by decide +kernel
theorem k_law_covers__law_begin : (defScope s_law_covers).names.lookup ("_law_begin" : Str) = some NameKind.local := by decide +kernel
theorem k_law_covers__law_mix : (defScope s_law_covers).names.lookup ("_law_mix" : Str) = some NameKind.globalImplicit := by decide +kernel
theorem k_law_covers__law_seed : (defScope s_law_covers).names.lookup ("_law_seed" : Str) = some NameKind.local := by decide +kernel
theorem k_law_covers__law_end : (defScope s_law_covers).names.lookup ("_law_end" : Str) = some NameKind.local := by decide +kernel
theorem k_law_covers__law_worth : (defScope s_law_covers).names.lookup ("_law_worth" : Str) = some NameKind.local := by decide +kernel
theorem k_law_covers_sum : (defScope s_law_covers).names.lookup ("sum" : Str) = some NameKind.globalImplicit := by decide +kernel
theorem k_law_covers__law_many : (defScope s_law_covers).names.lookup ("_law_many" : Str) = some NameKind.local := by decide +kernel
theorem getD_set (ps : List Int) {a : Nat} (h : a < ps.length) (v : Int) (p : Nat) : (ps.set a v).getD p 0 = ps.getD p 0 + (if p = a then v - ps.getD a 0 else 0) := by
  by_cases e : p = a
  · subst e
    rw [if_pos rfl, List.getD_eq_getElem?_getD, List.getElem?_set_self h]
    show v = _
    omega
  · rw [if_neg e, List.getD_eq_getElem?_getD, List.getElem?_set_ne (fun z => e z.symm), ← List.getD_eq_getElem?_getD]
    omega
theorem sumN_one {a : Nat} {c : Int} : ∀ n, sumN (fun p => if p = a then c else 0) n = if a < n then c else 0
  | 0 => by simp [sumN]
  | n + 1 => by
    rw [sumN, sumN_one n]
    by_cases h : a < n
    · rw [if_pos h, if_neg (by omega), if_pos (by omega)]; omega
    · rw [if_neg h]
      by_cases e : n = a
      · rw [if_pos e, if_pos (by omega)]; omega
      · rw [if_neg e, if_neg (by omega)]; omega
theorem slc_set {ps : List Int} {a b e : Nat} {v : Int} (ha : a < ps.length) (h1 : b ≤ e) (h2 : e ≤ ps.length) : slc (ps.set a v) b e = slc ps b e + (if b ≤ a ∧ a < e then v - ps.getD a 0 else 0) := by
  rw [slc_sumN h1 (by rw [List.length_set]; exact h2), slc_sumN h1 h2]
  have e1 : ∀ n, sumN (fun p => (ps.set a v).getD p 0) n = sumN (fun p => ps.getD p 0) n + if a < n then v - ps.getD a 0 else 0 := fun n => by
    rw [← sumN_one n, ← sumN_add]
    exact sumN_congr n fun p _ => getD_set ps ha v p
  rw [e1, e1]
  by_cases c1 : a < b
  · rw [if_pos (by omega), if_pos c1, if_neg (by omega)]; omega
  · by_cases c2 : a < e
    · rw [if_pos c2, if_neg c1, if_pos (by omega)]; omega
    · rw [if_neg c2, if_neg c1, if_neg (by omega)]; omega
noncomputable def spCovers : Sp := fun vs H Q _ => ∃ (a : Addr) (us : List V) (S : List Sn) (m : Nat) (sd : Int), vs = [.ref a, .int m, .int sd] ∧ m ≤ 24 ∧ Lsn H a us S ∧ S.length ≤ 400 ∧ (∀ s ∈ S, s.ok m) ∧
  ∀ (q : Addr) (ps : List Int) (H' : Hp), H q = none → Same H H' → H' q = some (.lst (ps.map V.int)) → ps.length = m → covB S ps = true → Q (.ref q) H'
theorem set_mem_nn {ps : List Int} {a : Nat} {v : Int} (h : ∀ x ∈ ps, 0 ≤ x) (hv : 0 ≤ v) : ∀ x ∈ ps.set a v, 0 ≤ x := fun x hx => by
  rcases List.mem_or_eq_of_mem_set hx with hx | rfl
  · exact h x hx
  · exact hv
theorem sc_law_covers : FnScope ["_law_spans_here", "_law_many", "_law_seed", "_law_prices_here", "_law_k", "_law_worth", "_law_begin", "_law_end", "_law_lack", "_law_at_here"] ["_law_spans_here", "_law_many", "_law_seed"] (defScope s_law_covers) := ⟨rfl, rfl, rfl, by decide +kernel, rfl, by decide +kernel, by decide +kernel⟩
theorem h_law_covers (T : Txt K mg) : Has P w K mg base 2 "_law_covers" ["_law_spans_here", "_law_many", "_law_seed"] spCovers := by
  have h_law_mix := h_law_mix (P := P) (w := w) (base := base) T
  refine hasJ T.d_law_covers sc_law_covers (fun _ _ _ _ _ _ us hl => L2.usN3 (fun _ _ _ => rfl) us hl) ?_ fun f cdv A outer s H vs Q E hr h => ?_
  · rintro vs H Q E ⟨a, us, S, m, sd, rfl, _⟩; rfl
  obtain ⟨a, us, S, m, sd, rfl, hm, hL, hl, hok, q⟩ := h
  have hu := hr.units0
  have hu64 := hr.units
  refine ⟨_, (jb_cons (js_setC (i := 3) sc_law_covers.nd rfl (Or.inl k_law_covers__law_prices_here) (sub := [none]) (subOk_of (N := ["_law_spans_here", "_law_many", "_law_seed", "_law_prices_here", "_law_k", "_law_worth", "_law_begin", "_law_end", "_law_lack", "_law_at_here"]) (sc := defScope s_law_covers) (N' := ["_law_k"]) (by decide +kernel)) rfl rfl rfl (ji_range1 (glF k_law_covers_range) T.b_range (ja_cons (j_vL 1 k_law_covers__law_many) ja_nil)) (fun C s₀ H₀ ex => (jg_B 0 (by decide +kernel) nd_law_covers_0)) (fun C s₀ H₀ ex => jif_nil) (fun C s₀ H₀ ex => j_int) rfl) (jb_cons (js_for PassesOwn.never rfl (ji_range1 (glF k_law_covers_range) T.b_range (ja_cons (j_vL 1 k_law_covers__law_many) ja_nil)) (jg_name (i := 4) sc_law_covers.nd rfl (Or.inl k_law_covers__law_k) rfl) (jb_one (js_if (jt_cmp (op_eqE (K := K) rfl hu64) (j_op op_mod (j_vL 2 k_law_covers__law_seed) j_int) j_int (by first | exact nomark _ | with_unfolding_all rfl)) (jb_one (js_asgS (ts := rSetL) (j_op op_mod (j_call h_law_mix (hr.mono (by decide)) (glF k_law_covers__law_mix) (ja_cons (j_vL 2 k_law_covers__law_seed) (ja_cons (j_vL 4 k_law_covers__law_k) ja_nil)) (by decide +kernel)) j_int) (jg_sub (j_vL 3 k_law_covers__law_prices_here) (j_vL 4 k_law_covers__law_k) set_list))) jb_nil))) (jb_cons (js_for PassesOwn.never rfl (ji_range1 (glF k_law_covers_range) T.b_range (ja_cons (j_callB (call_lenK (K := K) rfl) (glF k_law_covers_len) T.b_len bt_len (ja_cons (j_vL 0 k_law_covers__law_spans_here) ja_nil) (by decide +kernel) (by decide +kernel)) ja_nil)) (jg_name (i := 4) sc_law_covers.nd rfl (Or.inl k_law_covers__law_k) rfl) (jb_cons (js_asgT (j_ix (K := K) rfl (j_vL 0 k_law_covers__law_spans_here) (j_op op_mod (j_op op_addA (j_op op_fdiv (j_vL 2 k_law_covers__law_seed) j_int) (j_vL 4 k_law_covers__law_k)) (j_callB (call_lenK (K := K) rfl) (glF k_law_covers_len) T.b_len bt_len (ja_cons (j_vL 0 k_law_covers__law_spans_here) ja_nil) (by decide +kernel) (by decide +kernel)))) (jg_seqT (K := K) rfl rfl (jgs_cons (jg_name (i := 5) sc_law_covers.nd rfl (Or.inl k_law_covers__law_worth) rfl) (jgs_cons (jg_name (i := 6) sc_law_covers.nd rfl (Or.inl k_law_covers__law_begin) rfl) (jgs_cons (jg_name (i := 7) sc_law_covers.nd rfl (Or.inl k_law_covers__law_end) rfl) jgs_nil))))) (jb_cons (js_set (i := 8) sc_law_covers.nd rfl (Or.inl k_law_covers__law_lack) (j_op op_sub (j_vL 5 k_law_covers__law_worth) (j_callB (call_sum1 rfl) (glF k_law_covers_sum) T.b_sum bt_sum (ja_cons (j_slice (sl_seqK (K := K) rfl) (j_vL 3 k_law_covers__law_prices_here) (jo_some (j_vL 6 k_law_covers__law_begin)) (jo_some (j_vL 7 k_law_covers__law_end))) ja_nil) (by decide +kernel) (by decide +kernel))) rfl) (jb_one (js_if (jt_cmp op_gt (j_vL 8 k_law_covers__law_lack) j_int (by first | exact nomark _ | with_unfolding_all rfl)) (jb_cons (js_set (i := 9) sc_law_covers.nd rfl (Or.inl k_law_covers__law_at_here) (j_op op_addA (j_vL 6 k_law_covers__law_begin) (j_op op_mod (j_call h_law_mix (hr.mono (by decide)) (glF k_law_covers__law_mix) (ja_cons (j_vL 2 k_law_covers__law_seed) (ja_cons (j_op op_addA (j_vL 4 k_law_covers__law_k) j_int) ja_nil)) (by decide +kernel)) (j_op op_sub (j_vL 7 k_law_covers__law_end) (j_vL 6 k_law_covers__law_begin)))) rfl) (jb_one (js_asgS (ts := rSetL) (j_op op_addA (j_ix (K := K) rfl (j_vL 3 k_law_covers__law_prices_here) (j_vL 9 k_law_covers__law_at_here)) (j_vL 8 k_law_covers__law_lack)) (jg_sub (j_vL 3 k_law_covers__law_prices_here) (j_vL 9 k_law_covers__law_at_here) set_list)))) jb_nil))))) (jb_one (js_ret (j_vL 3 k_law_covers__law_prices_here)))))), ?_⟩
  walk_at "sts"
  have hs : 2000 ≤ sizeLine := by decide
  have hul := hL.len
  refine ⟨_, rfl, by omega, by omega, ?_⟩
  have em : ((m : Nat) : Int).toNat = m := by omega
  rw [em]
  refine comp_rng (n := m) (fun i ys H' => H' = H ∧ ys = (List.replicate i (0 : Int)).map V.int) (by omega) ⟨rfl, rfl⟩ ?_ ?_ ?_
  · rintro i ys H' ⟨_, rfl⟩
    simp
  · rintro i ys H' hi ⟨rfl, rfl⟩
    walk_at "sts"
    refine ⟨KeepSt.set rfl, ?_⟩
    walk_at "sts"
    refine ⟨rfl, ?_⟩
    rw [List.replicate_succ', List.map_append]; rfl
  rintro ys H' ⟨rfl, rfl⟩ pr npr
  have S1 : Same H' (upd H' pr (.lst ((List.replicate m (0 : Int)).map V.int))) := (Same.refl H').upd npr
  have hp1 : upd H' pr (.lst ((List.replicate m (0 : Int)).map V.int)) pr = some (.lst ((List.replicate m (0 : Int)).map V.int)) := upd_same
  generalize upd H' pr (.lst ((List.replicate m (0 : Int)).map V.int)) = H1 at S1 hp1 ⊢
  walk_at "sts"
  refine ⟨_, rfl, by omega, by omega, ?_⟩
  refine for_range (fun k σ G => Same H' G ∧ (∃ ps : List Int, G pr = some (.lst (ps.map V.int)) ∧ ps.length = m ∧ ∀ x ∈ ps, 0 ≤ x) ∧ ∃ x4 x5 x6 x7 x8 x9, σ = [some (.ref a), some (.int m), some (.int sd), some (.ref pr), x4, x5, x6, x7, x8, x9])
    ⟨S1, ⟨_, hp1, by simp, fun x hx => by rw [(List.mem_replicate.mp hx).2]; exact Int.le_refl _⟩, _, _, _, _, _, _, rfl⟩ ?_ ?_
  · rintro k σ G hk ⟨SG, ⟨ps, gp, lp, nn⟩, x4, x5, x6, x7, x8, x9, rfl⟩
    walk_at "sts"
    rw [dec_int2]
    refine iteD (fun h => ?_) (fun h => ?_)
    · walk_at "sts"
      refine ⟨_, _, rfl, fun r => ?_⟩
      walk_at "sts"
      refine r_setL gp (ix_at (p := k) (by omega) (by rw [List.length_map]; omega)) ?_
      walk_at "sts"
      refine ⟨Same.put SG npr, ⟨ps.set k (r % 7), by rw [upd_same, List.map_set], by simp; omega, set_mem_nn nn (by omega)⟩, _, _, _, _, _, _, rfl⟩
    · walk_at "sts"
      exact ⟨SG, ⟨ps, gp, lp, nn⟩, _, _, _, _, _, _, rfl⟩
  · rintro σ G ⟨SG, ⟨ps, gp, lp, nn⟩, x4, x5, x6, x7, x8, x9, rfl⟩
    walk_at "sts"
    refine r_lenL (SqL.of (SG _ _ hL.1)) ?_
    walk_at "sts"
    rw [hul]
    refine ⟨_, rfl, by omega, by omega, ?_⟩
    refine for_range (fun k σ G => Same H' G ∧ (∃ ps : List Int, G pr = some (.lst (ps.map V.int)) ∧ ps.length = m ∧ (∀ x ∈ ps, 0 ≤ x) ∧ ∀ j, j < k → ∀ (i : Nat) (t : Sn), (sd / 4 + (j : Int)) % (S.length : Int) = (i : Int) → S[i]? = some t → (t.w : Int) ≤ slc ps t.b t.e) ∧ ∃ x4 x5 x6 x7 x8 x9, σ = [some (.ref a), some (.int m), some (.int sd), some (.ref pr), x4, x5, x6, x7, x8, x9])
      ⟨SG, ⟨ps, gp, lp, nn, fun j hj => by omega⟩, _, _, _, _, _, _, rfl⟩ ?_ ?_
    · rintro k σ G hk ⟨SG, ⟨ps, gp, lp, nn, hcv⟩, x4, x5, x6, x7, x8, x9, rfl⟩
      have hn : 0 < S.length := by omega
      have hLG := hL.same SG
      walk_at "sts"
      refine r_lenL (SqL.of hLG.1) ?_
      walk_at "sts"
      rw [hul]
      try refine r_i (show (0 : Int) < (S.length : Int) by omega) ?_
      walk_at "sts"
      have ek : sd / 4 + (0 + (k : Int)) = sd / 4 + (k : Int) := by omega
      rw [ek]
      have i0 := Int.emod_nonneg (sd / 4 + (k : Int)) (show (S.length : Int) ≠ 0 by omega)
      have i1 := Int.emod_lt_of_pos (sd / 4 + (k : Int)) (show (0 : Int) < (S.length : Int) by omega)
      obtain ⟨i, ei⟩ : ∃ i : Nat, (sd / 4 + (k : Int)) % (S.length : Int) = (i : Int) := ⟨_, (Int.toNat_of_nonneg i0).symm⟩
      rw [ei] at i0 i1
      rw [ei]
      have hx : us[i]? = some (us[i]'(by omega)) := List.getElem?_eq_getElem _
      obtain ⟨t, ad, hti, hu, hta⟩ := DRs_sn hLG.2 hx
      rw [hu] at hx
      have okt := hok t (List.mem_of_getElem? hti)
      have o1 := okt.2.2
      refine r_ixL (SqL.of hLG.1) (atI_nat hx) ?_
      walk_at "sts"
      refine ⟨ad, _, rfl, .inl (SqT.of hta), rfl, ?_⟩
      walk_at "sts"
      refine r_slL (SqL.of gp) fun p np => ?_
      rw [cut_be (by omega) (by omega)]
      have S3 := SG.upd np (o := .lst (((ps.drop t.b).take (t.e - t.b)).map V.int))
      have f3 := upd_same (H := G) (a := p) (o := .lst (((ps.drop t.b).take (t.e - t.b)).map V.int))
      have gp3 := upd_old np gp (o := .lst (((ps.drop t.b).take (t.e - t.b)).map V.int))
      generalize upd G p (.lst (((ps.drop t.b).take (t.e - t.b)).map V.int)) = G3 at S3 f3 gp3 ⊢
      walk_at "sts"
      refine r_sum f3 ?_
      walk_at "sts"
      rw [show ((ps.drop t.b).take (t.e - t.b)).sum = slc ps t.b t.e from rfl]
      refine iteD (fun h => ?_) (fun h => ?_)
      · walk_at "sts"
        refine ⟨_, _, rfl, fun r => ?_⟩
        walk_at "sts"
        try refine r_i (show (0 : Int) < (t.e : Int) - (t.b : Int) by omega) ?_
        walk_at "sts"
        have j0 := Int.emod_nonneg r (show (t.e : Int) - (t.b : Int) ≠ 0 by omega)
        have j1 := Int.emod_lt_of_pos r (show (0 : Int) < (t.e : Int) - (t.b : Int) by omega)
        obtain ⟨j, ej⟩ : ∃ j : Nat, (t.b : Int) + r % ((t.e : Int) - (t.b : Int)) = (j : Int) := ⟨_, (Int.toNat_of_nonneg (by omega)).symm⟩
        have hj1 : t.b ≤ j := by omega
        have hj2 : j < t.e := by omega
        rw [ej]
        refine r_ixL (SqL.of gp3) (at_nat (k := j) (by omega) rfl) ?_
        walk_at "sts"
        refine r_setL gp3 (ix_at (p := j) rfl (by rw [List.length_map]; omega)) ?_
        walk_at "sts"
        have pj : 0 ≤ ps.getD j 0 := by
          rw [List.getD_eq_getElem?_getD, List.getElem?_eq_getElem (by omega)]
          exact nn _ (List.getElem_mem (by omega))
        refine ⟨Same.put S3 npr, ⟨ps.set j (ps.getD j 0 + ((t.w : Int) - slc ps t.b t.e)), by rw [upd_same, List.map_set], by simp; omega, set_mem_nn nn (by omega), fun j' hj' i' t' e1 e2 => ?_⟩, _, _, _, _, _, _, rfl⟩
        have okt' := (hok t' (List.mem_of_getElem? e2)).2.2
        rw [slc_set (by omega) (by omega) (by omega)]
        by_cases hjk : j' = k
        · subst hjk
          rw [ei] at e1
          have : i = i' := by omega
          subst this
          rw [hti] at e2
          cases e2
          rw [if_pos ⟨hj1, hj2⟩]; omega
        · have := hcv j' (by omega) i' t' e1 e2
          split <;> omega
      · walk_at "sts"
        refine ⟨S3, ⟨ps, gp3, lp, nn, fun j' hj' i' t' e1 e2 => ?_⟩, _, _, _, _, _, _, rfl⟩
        by_cases hjk : j' = k
        · subst hjk
          rw [ei] at e1
          have : i = i' := by omega
          subst this
          rw [hti] at e2
          cases e2
          omega
        · exact hcv j' (by omega) i' t' e1 e2
    · rintro σ G ⟨SG, ⟨ps, gp, lp, nn, hcv⟩, x4, x5, x6, x7, x8, x9, rfl⟩
      walk_at "sts"
      refine q pr ps G npr SG gp lp ?_
      unfold covB
      rw [Bool.and_eq_true, List.all_eq_true, List.all_eq_true]
      refine ⟨fun x hx => decide_eq_true (nn x hx), fun t ht => ?_⟩
      obtain ⟨i, hi, e⟩ := List.mem_iff_getElem.mp ht
      have hn : (0 : Int) < (S.length : Int) := by omega
      have j0 := Int.emod_nonneg ((i : Int) - sd / 4) (show (S.length : Int) ≠ 0 by omega)
      have j1 := Int.emod_lt_of_pos ((i : Int) - sd / 4) hn
      refine decide_eq_true (hcv (((i : Int) - sd / 4) % (S.length : Int)).toNat (by omega) i t ?_ (by rw [List.getElem?_eq_getElem hi, e]))
      rw [Int.toNat_of_nonneg j0, Int.add_emod, Int.emod_emod, ← Int.add_emod, show sd / 4 + ((i : Int) - sd / 4) = (i : Int) by omega]
      exact Int.emod_eq_of_lt (by omega) (by omega)
end

section
variable {P : Program} {w : World} {K : PySem.W.Frag} {mg : Str → Option Value} {base : Heap}
theorem k_law_otherwise_range : (defScope s_law_otherwise).names.lookup ("range" : Str) = some NameKind.globalImplicit := by decide +kernel
theorem k_law_otherwise__law_turn : (defScope s_law_otherwise).names.lookup ("_law_turn" : Str) = some NameKind.local := by decide +kernel
theorem k_law_otherwise__law_told : (defScope s_law_otherwise).names.lookup ("_law_told" : Str) = some NameKind.local := by decide +kernel
theorem k_law_otherwise__law_due : (defScope s_law_otherwise).names.lookup ("_law_due" : Str) = some NameKind.local := by decide +kernel
theorem k_law_otherwise_isinstance : (defScope s_law_otherwise).names.lookup ("isinstance" : Str) = some NameKind.globalImplicit := by decide +kernel
theorem k_law_otherwise_bool : (defScope s_law_otherwise).names.lookup ("bool" : Str) = some NameKind.globalImplicit := by decide +kernel
theorem k_law_otherwise_shows_apart : (defScope s_law_otherwise).names.lookup ("shows_apart" : Str) = some NameKind.globalImplicit := by decide +kernel
theorem k_law_otherwise_list : (defScope s_law_otherwise).names.lookup ("list" : Str) = some NameKind.globalImplicit := by decide +kernel
theorem k_law_otherwise__law_pays : (defScope s_law_otherwise).names.lookup ("_law_pays" : Str) = some NameKind.local := by decide +kernel
theorem k_law_otherwise__law_some : (defScope s_law_otherwise).names.lookup ("_law_some" : Str) = some NameKind.local := by decide +kernel
theorem k_law_otherwise__law_most : (defScope s_law_otherwise).names.lookup ("_law_most" : Str) = some NameKind.local := by decide +kernel
theorem k_law_otherwise__law_spans_here : (defScope s_law_otherwise).names.lookup ("_law_spans_here" : Str) = some NameKind.local := by decide +kernel
theorem k_law_otherwise__law_many : (defScope s_law_otherwise).names.lookup ("_law_many" : Str) = some NameKind.local := by decide +kernel
theorem k_law_otherwise__law_right : (defScope s_law_otherwise).names.lookup ("_law_right" : Str) = some NameKind.globalImplicit := by decide +kernel
theorem k_law_otherwise__law_thing : (defScope s_law_otherwise).names.lookup ("_law_thing" : Str) = some NameKind.local := by decide +kernel
theorem k_law_otherwise__law_at_here : (defScope s_law_otherwise).names.lookup ("_law_at_here" : Str) = some NameKind.local := by decide +kernel
theorem k_law_otherwise__law_mix : (defScope s_law_otherwise).names.lookup ("_law_mix" : Str) = some NameKind.globalImplicit := by decide +kernel
theorem k_law_otherwise__law_seed : (defScope s_law_otherwise).names.lookup ("_law_seed" : Str) = some NameKind.local := by decide +kernel
theorem k_law_otherwise__law_prices_here : (defScope s_law_otherwise).names.lookup ("_law_prices_here" : Str) = some NameKind.local := by decide +kernel
theorem k_law_otherwise_len : (defScope s_law_otherwise).names.lookup ("len" : Str) = some NameKind.globalImplicit := by decide +kernel
theorem k_law_otherwise__law_chosen_here : (defScope s_law_otherwise).names.lookup ("_law_chosen_here" : Str) = some NameKind.local := by decide +kernel
theorem k_law_otherwise__law_found : (defScope s_law_otherwise).names.lookup ("_law_found" : Str) = some NameKind.local := by decide +kernel
noncomputable def spOther (K : PySem.W.Frag) : Sp := fun vs H Q _ => ∃ (a t c pr : Addr) (us : List V) (S : List Sn) (m : Nat) (sd W : Int) (cs : List Nat) (ps : List Int), vs = [.ref a, .int m, .ref t, .int sd] ∧ m ≤ 24 ∧ Lsn H a us S ∧ S.length ≤ 400 ∧ (∀ s ∈ S, s.ok m) ∧ H t = some (.tup [.int W, .ref c, .ref pr]) ∧ H c = some (.lst ((nI cs).map V.int)) ∧ H pr = some (.lst (ps.map V.int)) ∧
  cs.length ≤ 24 ∧ (∀ i ∈ cs, i < S.length) ∧ ps.length = m ∧ ∀ H', Same H H' → Q (.bl true) H'
theorem nI_set (cs : List Nat) (k v : Nat) : ((nI cs).map V.int).set k (.int (v : Nat)) = (nI (cs.set k v)).map V.int := by
  unfold nI
  rw [← List.map_set, ← List.map_set]
theorem sc_law_otherwise : FnScope ["_law_spans_here", "_law_many", "_law_found", "_law_seed", "_law_most", "_law_chosen_here", "_law_prices_here", "_law_turn", "_law_some", "_law_pays", "_law_at_here", "_law_thing", "_law_due", "_law_told"] ["_law_spans_here", "_law_many", "_law_found", "_law_seed"] (defScope s_law_otherwise) := ⟨rfl, rfl, rfl, by decide +kernel, rfl, by decide +kernel, by decide +kernel⟩
theorem h_law_otherwise (T : Txt K mg) : Has P w K mg base 7 "_law_otherwise" ["_law_spans_here", "_law_many", "_law_found", "_law_seed"] (spOther K) := by
  have h_law_right := h_law_right (P := P) (w := w) (base := base) T
  have h_shows_apart := h_shows_apart (P := P) (w := w) (base := base) T
  have h_law_mix := h_law_mix (P := P) (w := w) (base := base) T
  refine hasJ T.d_law_otherwise sc_law_otherwise (fun _ _ _ _ _ _ us hl => L2.usN4 (fun _ _ _ _ => rfl) us hl) ?_ fun f cdv A outer s H vs Q E hr h => ?_
  · rintro vs H Q E ⟨a, t, c, pr, us, S, m, sd, W, cs, ps, rfl, _⟩; rfl
  obtain ⟨a, t, c, pr, us, S, m, sd, W, cs, ps, rfl, hm, hL, hl, hok, ht, hc, hpr, lcs, hcs, lp, q⟩ := h
  have hu := hr.units0
  have hu64 := hr.units
  refine ⟨_, (jb_cons (js_asgT (j_vL 2 k_law_otherwise__law_found) (jg_seqT (K := K) rfl rfl (jgs_cons (jg_name (i := 4) sc_law_otherwise.nd rfl (Or.inl k_law_otherwise__law_most) rfl) (jgs_cons (jg_name (i := 5) sc_law_otherwise.nd rfl (Or.inl k_law_otherwise__law_chosen_here) rfl) (jgs_cons (jg_name (i := 6) sc_law_otherwise.nd rfl (Or.inl k_law_otherwise__law_prices_here) rfl) jgs_nil))))) (jb_cons (js_for PassesOwn.never rfl (ji_range1 (glF k_law_otherwise_range) T.b_range (ja_cons j_int ja_nil)) (jg_name (i := 7) sc_law_otherwise.nd rfl (Or.inl k_law_otherwise__law_turn) rfl) (jb_cons (js_set (i := 8) sc_law_otherwise.nd rfl (Or.inl k_law_otherwise__law_some) (j_callTy (call_listK (K := K) rfl rfl) (glF k_law_otherwise_list) T.b_list bt_list (ja_cons (j_vL 5 k_law_otherwise__law_chosen_here) ja_nil) (by decide +kernel) (by decide +kernel)) rfl) (jb_cons (js_if (jw_pt (jw_and (jt_cmp op_gt (j_vL 7 k_law_otherwise__law_turn) j_int (by first | exact nomark _ | with_unfolding_all rfl)) (jw_and1 (jt_cmp op_gt (j_callB (call_lenK (K := K) rfl) (glF k_law_otherwise_len) T.b_len bt_len (ja_cons (j_vL 5 k_law_otherwise__law_chosen_here) ja_nil) (by decide +kernel) (by decide +kernel)) j_int (by first | exact nomark _ | with_unfolding_all rfl))))) (jb_one (js_asgS (ts := rSetL) (j_op op_mod (j_call h_law_mix (hr.mono (by decide)) (glF k_law_otherwise__law_mix) (ja_cons (j_vL 3 k_law_otherwise__law_seed) (ja_cons (j_op op_addA j_int (j_vL 7 k_law_otherwise__law_turn)) ja_nil)) (by decide +kernel)) (j_callB (call_lenK (K := K) rfl) (glF k_law_otherwise_len) T.b_len bt_len (ja_cons (j_vL 0 k_law_otherwise__law_spans_here) ja_nil) (by decide +kernel) (by decide +kernel))) (jg_sub (j_vL 8 k_law_otherwise__law_some) (j_op op_mod (j_call h_law_mix (hr.mono (by decide)) (glF k_law_otherwise__law_mix) (ja_cons (j_vL 3 k_law_otherwise__law_seed) (ja_cons (j_op op_addA j_int (j_vL 7 k_law_otherwise__law_turn)) ja_nil)) (by decide +kernel)) (j_callB (call_lenK (K := K) rfl) (glF k_law_otherwise_len) T.b_len bt_len (ja_cons (j_vL 5 k_law_otherwise__law_chosen_here) ja_nil) (by decide +kernel) (by decide +kernel))) set_list))) jb_nil) (jb_cons (js_set (i := 9) sc_law_otherwise.nd rfl (Or.inl k_law_otherwise__law_pays) (j_callTy (call_listK (K := K) rfl rfl) (glF k_law_otherwise_list) T.b_list bt_list (ja_cons (j_vL 6 k_law_otherwise__law_prices_here) ja_nil) (by decide +kernel) (by decide +kernel)) rfl) (jb_cons (js_if (jw_pt (jw_and (jt_cmp (op_neX (K := K) rfl hu64) (j_vL 7 k_law_otherwise__law_turn) j_int (by first | exact nomark _ | with_unfolding_all rfl)) (jw_and1 (jt_cmp op_gt (j_vL 1 k_law_otherwise__law_many) j_int (by first | exact nomark _ | with_unfolding_all rfl))))) (jb_cons (js_set (i := 10) sc_law_otherwise.nd rfl (Or.inl k_law_otherwise__law_at_here) (j_op op_mod (j_call h_law_mix (hr.mono (by decide)) (glF k_law_otherwise__law_mix) (ja_cons (j_vL 3 k_law_otherwise__law_seed) (ja_cons (j_op op_addA j_int (j_vL 7 k_law_otherwise__law_turn)) ja_nil)) (by decide +kernel)) (j_vL 1 k_law_otherwise__law_many)) rfl) (jb_cons (js_asgS (ts := rSetL) (j_op op_sub (j_ix (K := K) rfl (j_vL 9 k_law_otherwise__law_pays) (j_vL 10 k_law_otherwise__law_at_here)) j_int) (jg_sub (j_vL 9 k_law_otherwise__law_pays) (j_vL 10 k_law_otherwise__law_at_here) set_list)) (jb_cons (js_set (i := 10) sc_law_otherwise.nd rfl (Or.inl k_law_otherwise__law_at_here) (j_op op_mod (j_call h_law_mix (hr.mono (by decide)) (glF k_law_otherwise__law_mix) (ja_cons (j_vL 3 k_law_otherwise__law_seed) (ja_cons (j_op op_addA j_int (j_vL 7 k_law_otherwise__law_turn)) ja_nil)) (by decide +kernel)) (j_vL 1 k_law_otherwise__law_many)) rfl) (jb_one (js_asgS (ts := rSetL) (j_op op_addA (j_ix (K := K) rfl (j_vL 9 k_law_otherwise__law_pays) (j_vL 10 k_law_otherwise__law_at_here)) j_int) (jg_sub (j_vL 9 k_law_otherwise__law_pays) (j_vL 10 k_law_otherwise__law_at_here) set_list)))))) jb_nil) (jb_cons (js_set (i := 11) sc_law_otherwise.nd rfl (Or.inl k_law_otherwise__law_thing) (j_tup (ja_cons (j_vL 4 k_law_otherwise__law_most) (ja_cons (j_vL 8 k_law_otherwise__law_some) (ja_cons (j_vL 9 k_law_otherwise__law_pays) ja_nil)))) rfl) (jb_cons (js_set (i := 12) sc_law_otherwise.nd rfl (Or.inl k_law_otherwise__law_due) (j_call h_law_right (hr.mono (by decide)) (glF k_law_otherwise__law_right) (ja_cons (j_vL 1 k_law_otherwise__law_many) (ja_cons (j_vL 0 k_law_otherwise__law_spans_here) (ja_cons (j_vL 11 k_law_otherwise__law_thing) (ja_cons (j_vL 4 k_law_otherwise__law_most) ja_nil)))) (by decide +kernel)) rfl) (jb_cons (js_set (i := 13) sc_law_otherwise.nd rfl (Or.inl k_law_otherwise__law_told) (j_call h_shows_apart (hr.mono (by decide)) (glF k_law_otherwise_shows_apart) (ja_cons (j_vL 1 k_law_otherwise__law_many) (ja_cons (j_callTy (call_listK (K := K) rfl rfl) (glF k_law_otherwise_list) T.b_list bt_list (ja_cons (j_vL 0 k_law_otherwise__law_spans_here) ja_nil) (by decide +kernel) (by decide +kernel)) (ja_cons (j_tup (ja_cons (j_vL 4 k_law_otherwise__law_most) (ja_cons (j_callTy (call_listK (K := K) rfl rfl) (glF k_law_otherwise_list) T.b_list bt_list (ja_cons (j_vL 8 k_law_otherwise__law_some) ja_nil) (by decide +kernel) (by decide +kernel)) (ja_cons (j_callTy (call_listK (K := K) rfl rfl) (glF k_law_otherwise_list) T.b_list bt_list (ja_cons (j_vL 9 k_law_otherwise__law_pays) ja_nil) (by decide +kernel) (by decide +kernel)) ja_nil)))) ja_nil))) (by decide +kernel)) rfl) (jb_one (js_if (jw_pt (jw_or (jt_not (jt_val (j_callB (call_isiK (K := K) rfl) (glF k_law_otherwise_isinstance) T.b_isinstance bt_isinstance (ja_cons (j_vL 13 k_law_otherwise__law_told) (ja_cons (j_ty (glF k_law_otherwise_bool) T.b_bool bt_bool (by decide +kernel) (by decide +kernel)) ja_nil)) (by decide +kernel) (by decide +kernel)))) (jw_or1 (jt_cmp (op_neX (K := K) rfl hu64) (j_vL 13 k_law_otherwise__law_told) (j_vL 12 k_law_otherwise__law_due) (by first | exact nomark _ | with_unfolding_all rfl))))) (jb_one (js_ret j_bl)) jb_nil)))))))))) (jb_one (js_ret j_bl)))), ?_⟩
  walk_at "sts"
  have hs : 2000 ≤ sizeLine := by decide
  have hul := hL.len
  have lc : ((nI cs).map V.int).length = cs.length := by rw [List.length_map, nI_len]
  refine ⟨t, _, rfl, .inl (SqT.of ht), rfl, ?_⟩
  walk_at "sts"
  refine ⟨_, rfl, by omega, by omega, ?_⟩
  refine for_range (fun k σ G => Same H G ∧ ∃ x7 x8 x9 x10 x11 x12 x13, σ = [some (.ref a), some (.int m), some (.ref t), some (.int sd), some (.int W), some (.ref c), some (.ref pr), x7, x8, x9, x10, x11, x12, x13])
    ⟨Same.refl H, _, _, _, _, _, _, _, rfl⟩ ?_ ?_
  · rintro k σ G hk ⟨SG, x7, x8, x9, x10, x11, x12, x13, rfl⟩
    have hcG := SG _ _ hc
    have hprG := SG _ _ hpr
    walk_at "stn"
    with_reducible refine r_seq ?_
    walk_at "stn"
    refine r_listL (SqL.of hcG) fun sm nsm => ?_
    have nsmH := SG.free nsm
    have S1 := SG.upd nsm (o := .lst ((nI cs).map V.int))
    have f1 := upd_same (H := G) (a := sm) (o := .lst ((nI cs).map V.int))
    generalize upd G sm (.lst ((nI cs).map V.int)) = G1 at S1 f1 ⊢
    walk_at "stn"
    with_reducible refine r_cut (fun σ G' => Same H G' ∧ (∃ cs' : List Nat, G' sm = some (.lst ((nI cs').map V.int)) ∧ cs'.length ≤ 24 ∧ ∀ i ∈ cs', i < S.length) ∧ σ = [some (.ref a), some (.int m), some (.ref t), some (.int sd), some (.int W), some (.ref c), some (.ref pr), some (.int (0 + (k : Int))), some (.ref sm), x9, x10, x11, x12, x13]) ?_ ?_
    rotate_left
    · intro N hN
      walk_at "sts"
      refine iteD (fun h1 => ?_) (fun h1 => ?_)
      · walk_at "sts"
        refine r_lenL (SqL.of (S1 _ _ hc)) ?_
        walk_at "sts"
        rw [lc]
        refine iteD (fun h2 => ?_) (fun h2 => ?_)
        · have hc0 : 0 < cs.length := by omega
          have hS0 : 0 < S.length := by
            have := hcs cs[0] (List.getElem_mem hc0)
            omega
          walk_at "sts"
          refine ⟨_, _, rfl, fun r => ?_⟩
          walk_at "sts"
          refine r_lenL (SqL.of (S1 _ _ hL.1)) ?_
          walk_at "sts"
          rw [hul]
          try refine r_i (show (0 : Int) < (S.length : Int) by omega) ?_
          walk_at "sts"
          refine ⟨_, _, rfl, fun r2 => ?_⟩
          walk_at "sts"
          refine r_lenL (SqL.of (S1 _ _ hc)) ?_
          walk_at "sts"
          rw [lc]
          try refine r_i (show (0 : Int) < (cs.length : Int) by omega) ?_
          walk_at "sts"
          obtain ⟨v, ev⟩ : ∃ v : Nat, r % (S.length : Int) = (v : Int) := ⟨_, (Int.toNat_of_nonneg (Int.emod_nonneg _ (by omega))).symm⟩
          have v1 := Int.emod_lt_of_pos r (show (0 : Int) < (S.length : Int) by omega)
          obtain ⟨j, ej⟩ : ∃ v : Nat, r2 % (cs.length : Int) = (v : Int) := ⟨_, (Int.toNat_of_nonneg (Int.emod_nonneg _ (by omega))).symm⟩
          have j1 := Int.emod_lt_of_pos r2 (show (0 : Int) < (cs.length : Int) by omega)
          rw [ev, ej]
          refine r_setL f1 (ix_at (p := j) rfl (by rw [lc]; omega)) ?_
          walk_at "sts"
          rw [nI_set]
          refine hN _ _ ⟨Same.put S1 nsmH, ⟨cs.set j v, upd_same, by rw [List.length_set]; exact lcs, fun i hi => ?_⟩, rfl⟩
          rcases List.mem_or_eq_of_mem_set hi with h | rfl
          · exact hcs i h
          · omega
        · walk_at "sts"
          exact hN _ _ ⟨S1, ⟨cs, f1, lcs, hcs⟩, rfl⟩
      · walk_at "sts"
        exact hN _ _ ⟨S1, ⟨cs, f1, lcs, hcs⟩, rfl⟩
    rintro σ G2 ⟨S2, ⟨cs', f2, lcs', hcs'⟩, rfl⟩
    walk_at "stn"
    with_reducible refine r_seq ?_
    walk_at "stn"
    refine r_listL (SqL.of (S2 _ _ hpr)) fun py npy => ?_
    have npyH := S2.free npy
    have nsp : sm ≠ py := fun z => by rw [z, npy] at f2; cases f2
    have S3 := S2.upd npy (o := .lst (ps.map V.int))
    have f3 := upd_same (H := G2) (a := py) (o := .lst (ps.map V.int))
    have f23 := upd_old npy f2 (o := .lst (ps.map V.int))
    generalize upd G2 py (.lst (ps.map V.int)) = G3 at S3 f3 f23 ⊢
    walk_at "stn"
    with_reducible refine r_cut (fun σ G' => Same H G' ∧ G' sm = some (.lst ((nI cs').map V.int)) ∧ (∃ ps' : List Int, G' py = some (.lst (ps'.map V.int)) ∧ ps'.length = m) ∧ ∃ x10, σ = [some (.ref a), some (.int m), some (.ref t), some (.int sd), some (.int W), some (.ref c), some (.ref pr), some (.int (0 + (k : Int))), some (.ref sm), some (.ref py), x10, x11, x12, x13]) ?_ ?_
    rotate_left
    · intro N hN
      walk_at "sts"
      rw [dec_int2]
      by_cases h1 : (0 + (k : Int)) = 1
      · rw [decide_eq_true h1]
        walk_at "sts"
        exact hN _ _ ⟨S3, f23, ⟨ps, f3, lp⟩, _, rfl⟩
      · rw [decide_eq_false h1]
        walk_at "sts"
        refine iteD (fun h2 => ?_) (fun h2 => ?_)
        · walk_at "sts"
          refine ⟨_, _, rfl, fun r => ?_⟩
          walk_at "sts"
          try refine r_i (show (0 : Int) < (m : Int) by omega) ?_
          walk_at "sts"
          obtain ⟨v, ev⟩ : ∃ v : Nat, r % (m : Int) = (v : Int) := ⟨_, (Int.toNat_of_nonneg (Int.emod_nonneg _ (by omega))).symm⟩
          have v1 := Int.emod_lt_of_pos r (show (0 : Int) < (m : Int) by omega)
          rw [ev]
          refine r_ixL (SqL.of f3) (at_nat (k := v) (by omega) rfl) ?_
          walk_at "sts"
          refine r_setL f3 (ix_at (p := v) rfl (by rw [List.length_map]; omega)) ?_
          walk_at "sts"
          rw [← List.map_set]
          have S4 := Same.put (o := .lst ((ps.set v (ps.getD v 0 - 1)).map V.int)) S3 npyH
          have f4 := upd_same (H := G3) (a := py) (o := .lst ((ps.set v (ps.getD v 0 - 1)).map V.int))
          have f24 : upd G3 py (.lst ((ps.set v (ps.getD v 0 - 1)).map V.int)) sm = _ := (upd_ne nsp).trans f23
          have l4 : (ps.set v (ps.getD v 0 - 1)).length = m := by simp [lp]
          generalize (ps.set v (ps.getD v 0 - 1)) = ps4 at S4 f4 f24 l4 ⊢
          generalize upd G3 py (.lst (ps4.map V.int)) = G4 at S4 f4 f24 ⊢
          walk_at "sts"
          refine ⟨_, _, rfl, fun r2 => ?_⟩
          walk_at "sts"
          try refine r_i (show (0 : Int) < (m : Int) by omega) ?_
          walk_at "sts"
          obtain ⟨u, eu⟩ : ∃ v : Nat, r2 % (m : Int) = (v : Int) := ⟨_, (Int.toNat_of_nonneg (Int.emod_nonneg _ (by omega))).symm⟩
          have u1 := Int.emod_lt_of_pos r2 (show (0 : Int) < (m : Int) by omega)
          rw [eu]
          refine r_ixL (SqL.of f4) (at_nat (k := u) (by omega) rfl) ?_
          walk_at "sts"
          refine r_setL f4 (ix_at (p := u) rfl (by rw [List.length_map]; omega)) ?_
          walk_at "sts"
          rw [← List.map_set]
          exact hN _ _ ⟨Same.put S4 npyH, (upd_ne nsp).trans f24, ⟨_, upd_same, by simp [l4]⟩, _, rfl⟩
        · walk_at "sts"
          exact hN _ _ ⟨S3, f23, ⟨ps, f3, lp⟩, _, rfl⟩
    rintro σ G5 ⟨S5, f25, ⟨ps', f5, lp'⟩, x10, rfl⟩
    walk_at "sts"
    refine r_new rfl fun th nth => ?_
    have S6 := S5.upd nth (o := .tup [.int W, .ref sm, .ref py])
    have f6 := upd_same (H := G5) (a := th) (o := .tup [.int W, .ref sm, .ref py])
    have f26 := upd_old nth f25 (o := .tup [.int W, .ref sm, .ref py])
    have f36 := upd_old nth f5 (o := .tup [.int W, .ref sm, .ref py])
    generalize upd G5 th (.tup [.int W, .ref sm, .ref py]) = G6 at S6 f6 f26 f36 ⊢
    walk_at "sts"
    refine ⟨m, a, th, sm, py, us, S, cs', ps', W, rfl, hm, hL.same S6, hl, hok, f6, f26, f36, lcs', hcs', lp', fun G7 S7 => ?_⟩
    have S67 := S6.trans S7
    have hL7 := hL.same S67
    walk_at "sts"
    refine r_listL (SqL.of hL7.1) fun l1 n1 => ?_
    have S8 := (Same.refl G7).upd n1 (o := .lst us)
    have hL8 : Lsn (upd G7 l1 (.lst us)) l1 us S := ⟨upd_same, DRs.same S8 _ _ hL7.2⟩
    generalize upd G7 l1 (.lst us) = G8 at S8 hL8 ⊢
    have f28 := S8 _ _ (S7 _ _ f26)
    have f38 := S8 _ _ (S7 _ _ f36)
    walk_at "sts"
    refine r_listL (SqL.of f28) fun l2 n2 => ?_
    have S9 := (Same.refl G8).upd n2 (o := .lst ((nI cs').map V.int))
    have g2 := upd_same (H := G8) (a := l2) (o := .lst ((nI cs').map V.int))
    generalize upd G8 l2 (.lst ((nI cs').map V.int)) = G9 at S9 g2 ⊢
    walk_at "sts"
    refine r_listL (SqL.of (S9 _ _ f38)) fun l3 n3 => ?_
    have S10 := (Same.refl G9).upd n3 (o := .lst (ps'.map V.int))
    have g3 := upd_same (H := G9) (a := l3) (o := .lst (ps'.map V.int))
    generalize upd G9 l3 (.lst (ps'.map V.int)) = G10 at S10 g3 ⊢
    walk_at "sts"
    refine r_new rfl fun l4 n4 => ?_
    have S11 := (Same.refl G10).upd n4 (o := .tup [.int W, .ref l2, .ref l3])
    have g4 := upd_same (H := G10) (a := l4) (o := .tup [.int W, .ref l2, .ref l3])
    generalize upd G10 l4 (.tup [.int W, .ref l2, .ref l3]) = G11 at S11 g4 ⊢
    walk_at "sts"
    refine ⟨m, l1, l4, l2, l3, us, S, W, cs', ps', rfl, hm, hL8.same (S9.trans (S10.trans S11)), hl, hok, g4, S11 _ _ (S10 _ _ g2), S11 _ _ g3, lcs', hcs', lp', fun G12 S12 => ?_⟩
    walk_at "sts"
    refine r_isi (.bl _) (b := true) (by rfl) ?_
    walk_at "sts"
    rw [decide_eq_true rfl]
    walk_at "sts"
    exact ⟨(S67.trans S8).trans ((S9.trans (S10.trans S11)).trans S12), _, _, _, _, _, _, _, rfl⟩
  · rintro σ G ⟨SG, x7, x8, x9, x10, x11, x12, x13, rfl⟩
    walk_at "sts"
    exact q _ SG
end

section
variable {P : Program} {w : World} {K : PySem.W.Frag} {mg : Str → Option Value} {base : Heap}
theorem nd_law_0 : (["_law_at_here", "_law_spans_here"] : List Str).Nodup := by decide +kernel
theorem k_law_shows_apart : (defScope s_law).names.lookup ("shows_apart" : Str) = some NameKind.globalImplicit := by decide +kernel
theorem k_law__law_found : (defScope s_law).names.lookup ("_law_found" : Str) = some NameKind.local := by decide +kernel
theorem k_law_list : (defScope s_law).names.lookup ("list" : Str) = some NameKind.globalImplicit := by decide +kernel
theorem k_law__law_spans_here : (defScope s_law).names.lookup ("_law_spans_here" : Str) = some NameKind.cell := by decide +kernel
theorem k_law__law_many : (defScope s_law).names.lookup ("_law_many" : Str) = some NameKind.local := by decide +kernel
theorem k_law_range : (defScope s_law).names.lookup ("range" : Str) = some NameKind.globalImplicit := by decide +kernel
theorem k_law__law_turn : (defScope s_law).names.lookup ("_law_turn" : Str) = some NameKind.local := by decide +kernel
theorem k_law__law_otherwise : (defScope s_law).names.lookup ("_law_otherwise" : Str) = some NameKind.globalImplicit := by decide +kernel
theorem k_law__law_seed : (defScope s_law).names.lookup ("_law_seed" : Str) = some NameKind.local := by decide +kernel
theorem k_law__law_right : (defScope s_law).names.lookup ("_law_right" : Str) = some NameKind.globalImplicit := by decide +kernel
theorem k_law_sum : (defScope s_law).names.lookup ("sum" : Str) = some NameKind.globalImplicit := by decide +kernel
theorem k_law__law_prices_here : (defScope s_law).names.lookup ("_law_prices_here" : Str) = some NameKind.local := by decide +kernel
theorem k_law__law_worth : (defScope s_law).names.lookup ("_law_worth" : Str) = some NameKind.local := by decide +kernel
theorem k_law__law_whole : (defScope s_law).names.lookup ("_law_whole" : Str) = some NameKind.globalImplicit := by decide +kernel
theorem k_law_len : (defScope s_law).names.lookup ("len" : Str) = some NameKind.globalImplicit := by decide +kernel
theorem k_law_isinstance : (defScope s_law).names.lookup ("isinstance" : Str) = some NameKind.globalImplicit := by decide +kernel
theorem k_law_tuple : (defScope s_law).names.lookup ("tuple" : Str) = some NameKind.globalImplicit := by decide +kernel
theorem k_law_apart : (defScope s_law).names.lookup ("apart" : Str) = some NameKind.globalImplicit := by decide +kernel
theorem k_law__law_told : (defScope s_law).names.lookup ("_law_told" : Str) = some NameKind.local := by decide +kernel
theorem k_law_bool : (defScope s_law).names.lookup ("bool" : Str) = some NameKind.globalImplicit := by decide +kernel
theorem k_law__law_chosen_here : (defScope s_law).names.lookup ("_law_chosen_here" : Str) = some NameKind.local := by decide +kernel
theorem k_law__law_covers : (defScope s_law).names.lookup ("_law_covers" : Str) = some NameKind.globalImplicit := by decide +kernel
theorem k_law__law_choice : (defScope s_law).names.lookup ("_law_choice" : Str) = some NameKind.globalImplicit := by decide +kernel
theorem k_law__law_at : (defScope s_law).names.lookup ("_law_at" : Str) = some NameKind.globalImplicit := by decide +kernel
theorem k_law__law_script : (defScope s_law).names.lookup ("_law_script" : Str) = some NameKind.local := by decide +kernel
theorem k_law__law_spans : (defScope s_law).names.lookup ("_law_spans" : Str) = some NameKind.globalImplicit := by decide +kernel
noncomputable def spLaw (K : PySem.W.Frag) : Sp := fun vs H Q _ => ∃ (a : Addr) (ns : List Int), vs = [.ref a] ∧ SqL K H a (ns.map V.int) ∧ ns.length ≤ 63 ∧ ∀ H', Q (.bl true) H'
theorem sq_same {H H' : Hp} {a : Addr} {xs : List V} (h : SqL K H a xs) (s : Same H H') : SqL K H' a xs := by
  rcases h with (h | ⟨o, h⟩) | h
  · exact .inl (.inl (s _ _ h))
  · exact .inl (.inr ⟨o, s _ _ h⟩)
  · exact .inr h
theorem shows_all {S : List Sn} {W : Int} {cs : List Nat} {ps : List Int} (h1 : cs.Pairwise (· < ·)) (h2 : (pk S cs).Pairwise Dj) (h3 : covB S ps = true) (h4 : wsum S cs = W) : showsB S W cs ps = decide (W = ps.sum) := by
  unfold showsB
  rw [ris_pw.mpr h1, h3, show disB S cs = true from decide_eq_true h2, decide_eq_true h4]
  rfl
theorem sc_law : FnScope ["_law_script", "_law_many", "_law_spans_here", "_law_seed", "_law_found", "_law_turn", "_law_chosen_here", "_law_prices_here", "_law_worth", "_law_told"] ["_law_script"] (defScope s_law) := ⟨rfl, rfl, rfl, by decide +kernel, rfl, by decide +kernel, by decide +kernel⟩
theorem ok_law (T : Txt K mg) {f0 : Addr} {fd0 : FuncData} (F0 : Fun K "law" "law" s_law f0 fd0) : FnOk P w K mg base CX0 8 f0 fd0 ["_law_script"] (spLaw K) := by
  have h_law_at := h_law_at (P := P) (w := w) (base := base) T
  have h_law_spans := h_law_spans (P := P) (w := w) (base := base) T
  have h_law_choice := h_law_choice (P := P) (w := w) (base := base) T
  have h_law_covers := h_law_covers (P := P) (w := w) (base := base) T
  have h_shows_apart := h_shows_apart (P := P) (w := w) (base := base) T
  have h_apart := h_apart (P := P) (w := w) (base := base) T
  have h_law_right := h_law_right (P := P) (w := w) (base := base) T
  have h_law_otherwise := h_law_otherwise (P := P) (w := w) (base := base) T
  have h_law_whole := h_law_whole (P := P) (w := w) (base := base) T
  refine okJ F0 sc_law ?_ fun f cdv A outer s H vs Q E hr h => ?_
  · rintro vs H Q E ⟨a, ns, rfl, _⟩; rfl
  obtain ⟨a, ns, rfl, hS, hlen, q⟩ := h
  have hu := hr.units0
  have hu64 := hr.units
  refine ⟨_, (jb_cons (js_set (i := 1) sc_law.nd rfl (Or.inl k_law__law_many) (j_op op_mod (j_call h_law_at (hr.mono (by decide)) (glF k_law__law_at) (ja_cons (j_vL 0 k_law__law_script) (ja_cons j_int ja_nil)) (by decide +kernel)) j_int) rfl) (jb_cons (js_set (i := 2) sc_law.nd rfl (Or.inr k_law__law_spans_here) (j_call h_law_spans (hr.mono (by decide)) (glF k_law__law_spans) (ja_cons (j_vL 0 k_law__law_script) (ja_cons (j_vL 1 k_law__law_many) (ja_cons (j_cmp (op_eqE (K := K) rfl hu64) (j_op op_mod (j_op op_fdiv (j_call h_law_at (hr.mono (by decide)) (glF k_law__law_at) (ja_cons (j_vL 0 k_law__law_script) (ja_cons j_int ja_nil)) (by decide +kernel)) j_int) j_int) j_int (by first | exact nomark _ | with_unfolding_all rfl)) ja_nil))) (by decide +kernel)) rfl) (jb_cons (js_set (i := 3) sc_law.nd rfl (Or.inl k_law__law_seed) (j_op op_mod (j_call h_law_at (hr.mono (by decide)) (glF k_law__law_at) (ja_cons (j_vL 0 k_law__law_script) (ja_cons j_int ja_nil)) (by decide +kernel)) (j_op op_pow j_int j_int)) rfl) (jb_cons (js_set (i := 4) sc_law.nd rfl (Or.inl k_law__law_found) (j_tup (ja_cons j_int (ja_cons (j_lst ja_nil) (ja_cons (j_lst ja_nil) ja_nil)))) rfl) (jb_cons (js_for PassesOwn.never rfl (ji_range1 (glF k_law_range) T.b_range (ja_cons j_int ja_nil)) (jg_name (i := 5) sc_law.nd rfl (Or.inl k_law__law_turn) rfl) (jb_cons (js_set (i := 6) sc_law.nd rfl (Or.inl k_law__law_chosen_here) (j_call h_law_choice (hr.mono (by decide)) (glF k_law__law_choice) (ja_cons (j_vC 2 k_law__law_spans_here) (ja_cons (j_vL 1 k_law__law_many) (ja_cons (j_op op_addA (j_vL 3 k_law__law_seed) (j_vL 5 k_law__law_turn)) ja_nil))) (by decide +kernel)) rfl) (jb_cons (js_set (i := 7) sc_law.nd rfl (Or.inl k_law__law_prices_here) (j_call h_law_covers (hr.mono (by decide)) (glF k_law__law_covers) (ja_cons (j_vC 2 k_law__law_spans_here) (ja_cons (j_vL 1 k_law__law_many) (ja_cons (j_op op_addA (j_vL 3 k_law__law_seed) (j_vL 5 k_law__law_turn)) ja_nil))) (by decide +kernel)) rfl) (jb_cons (js_set (i := 8) sc_law.nd rfl (Or.inl k_law__law_worth) (j_callB (call_sum1 rfl) (glF k_law_sum) T.b_sum bt_sum (ja_cons (j_comp (sub := [none, some 2]) (subOk_of (N := ["_law_script", "_law_many", "_law_spans_here", "_law_seed", "_law_found", "_law_turn", "_law_chosen_here", "_law_prices_here", "_law_worth", "_law_told"]) (sc := defScope s_law) (N' := ["_law_at_here", "_law_spans_here"]) (by decide +kernel)) rfl rfl rfl (ji_seq (K := K) rfl (j_vL 6 k_law__law_chosen_here)) (fun C s₀ H₀ ex => (jg_B 0 (by decide +kernel) nd_law_0)) (fun C s₀ H₀ ex => jif_nil) (fun C s₀ H₀ ex => (j_ix (K := K) rfl (j_ix (K := K) rfl (j_vBF 1 (by decide +kernel)) (j_vBL 0 (by decide +kernel))) j_int))) ja_nil) (by decide +kernel) (by decide +kernel)) rfl) (jb_cons (js_set (i := 9) sc_law.nd rfl (Or.inl k_law__law_told) (j_call h_shows_apart (hr.mono (by decide)) (glF k_law_shows_apart) (ja_cons (j_vL 1 k_law__law_many) (ja_cons (j_callTy (call_listK (K := K) rfl rfl) (glF k_law_list) T.b_list bt_list (ja_cons (j_vC 2 k_law__law_spans_here) ja_nil) (by decide +kernel) (by decide +kernel)) (ja_cons (j_tup (ja_cons (j_vL 8 k_law__law_worth) (ja_cons (j_callTy (call_listK (K := K) rfl rfl) (glF k_law_list) T.b_list bt_list (ja_cons (j_vL 6 k_law__law_chosen_here) ja_nil) (by decide +kernel) (by decide +kernel)) (ja_cons (j_callTy (call_listK (K := K) rfl rfl) (glF k_law_list) T.b_list bt_list (ja_cons (j_vL 7 k_law__law_prices_here) ja_nil) (by decide +kernel) (by decide +kernel)) ja_nil)))) ja_nil))) (by decide +kernel)) rfl) (jb_cons (js_if (jw_pt (jw_or (jt_not (jt_val (j_callB (call_isiK (K := K) rfl) (glF k_law_isinstance) T.b_isinstance bt_isinstance (ja_cons (j_vL 9 k_law__law_told) (ja_cons (j_ty (glF k_law_bool) T.b_bool bt_bool (by decide +kernel) (by decide +kernel)) ja_nil)) (by decide +kernel) (by decide +kernel)))) (jw_or1 (jt_cmp (op_neX (K := K) rfl hu64) (j_vL 9 k_law__law_told) (j_cmp (op_eqE (K := K) rfl hu64) (j_vL 8 k_law__law_worth) (j_callB (call_sum1 rfl) (glF k_law_sum) T.b_sum bt_sum (ja_cons (j_vL 7 k_law__law_prices_here) ja_nil) (by decide +kernel) (by decide +kernel)) (by first | exact nomark _ | with_unfolding_all rfl)) (by first | exact nomark _ | with_unfolding_all rfl))))) (jb_one (js_ret j_bl)) jb_nil) (jb_cons (js_set (i := 4) sc_law.nd rfl (Or.inl k_law__law_found) (j_call h_apart (hr.mono (by decide)) (glF k_law_apart) (ja_cons (j_vL 1 k_law__law_many) (ja_cons (j_callTy (call_listK (K := K) rfl rfl) (glF k_law_list) T.b_list bt_list (ja_cons (j_vC 2 k_law__law_spans_here) ja_nil) (by decide +kernel) (by decide +kernel)) ja_nil)) (by decide +kernel)) rfl) (jb_cons (js_if (jw_pt (jw_or (jt_not (jt_val (j_callB (call_isiK (K := K) rfl) (glF k_law_isinstance) T.b_isinstance bt_isinstance (ja_cons (j_vL 4 k_law__law_found) (ja_cons (j_ty (glF k_law_tuple) T.b_tuple bt_tuple (by decide +kernel) (by decide +kernel)) ja_nil)) (by decide +kernel) (by decide +kernel)))) (jw_or (jt_cmp (op_neX (K := K) rfl hu64) (j_callB (call_lenK (K := K) rfl) (glF k_law_len) T.b_len bt_len (ja_cons (j_vL 4 k_law__law_found) ja_nil) (by decide +kernel) (by decide +kernel)) j_int (by first | exact nomark _ | with_unfolding_all rfl)) (jw_or1 (jt_not (jt_val (j_call h_law_whole (hr.mono (by decide)) (glF k_law__law_whole) (ja_cons (j_ix (K := K) rfl (j_vL 4 k_law__law_found) j_int) ja_nil) (by decide +kernel)))))))) (jb_one (js_ret j_bl)) jb_nil) (jb_cons (js_if (jw_pt (jw_or (jt_cmp op_gt (j_vL 8 k_law__law_worth) (j_ix (K := K) rfl (j_vL 4 k_law__law_found) j_int) (by first | exact nomark _ | with_unfolding_all rfl)) (jw_or1 (jt_cmp op_gt (j_ix (K := K) rfl (j_vL 4 k_law__law_found) j_int) (j_callB (call_sum1 rfl) (glF k_law_sum) T.b_sum bt_sum (ja_cons (j_vL 7 k_law__law_prices_here) ja_nil) (by decide +kernel) (by decide +kernel)) (by first | exact nomark _ | with_unfolding_all rfl))))) (jb_one (js_ret j_bl)) jb_nil) (jb_cons (js_if (jt_not (jt_val (j_call h_law_right (hr.mono (by decide)) (glF k_law__law_right) (ja_cons (j_vL 1 k_law__law_many) (ja_cons (j_vC 2 k_law__law_spans_here) (ja_cons (j_vL 4 k_law__law_found) (ja_cons (j_ix (K := K) rfl (j_vL 4 k_law__law_found) j_int) ja_nil)))) (by decide +kernel)))) (jb_one (js_ret j_bl)) jb_nil) (jb_one (js_if (jt_not (jt_val (j_call h_law_otherwise (hr.mono (by decide)) (glF k_law__law_otherwise) (ja_cons (j_vC 2 k_law__law_spans_here) (ja_cons (j_vL 1 k_law__law_many) (ja_cons (j_vL 4 k_law__law_found) (ja_cons (j_op op_addA (j_vL 3 k_law__law_seed) (j_vL 5 k_law__law_turn)) ja_nil)))) (by decide +kernel)))) (jb_one (js_ret j_bl)) jb_nil)))))))))))) (jb_one (js_ret (j_cmp op_isA (j_call h_shows_apart (hr.mono (by decide)) (glF k_law_shows_apart) (ja_cons (j_vL 1 k_law__law_many) (ja_cons (j_callTy (call_listK (K := K) rfl rfl) (glF k_law_list) T.b_list bt_list (ja_cons (j_vC 2 k_law__law_spans_here) ja_nil) (by decide +kernel) (by decide +kernel)) (ja_cons (j_vL 4 k_law__law_found) ja_nil))) (by decide +kernel)) j_bl (by first | exact nomark _ | with_unfolding_all rfl))))))))), ?_⟩
  walk_at "sts"
  have hs : 2000 ≤ sizeLine := by decide
  refine ⟨a, ns, 0, rfl, hS, by omega, fun c0 => ?_⟩
  walk_at "sts"
  refine ⟨a, ns, 0, rfl, hS, by omega, fun c0' => ?_⟩
  walk_at "sts"
  obtain ⟨m, em⟩ : ∃ m : Nat, c0 % 25 = m := ⟨_, (Int.toNat_of_nonneg (by omega)).symm⟩
  have hm : m ≤ 24 := by omega
  rw [em]
  generalize decide (V.int (c0' / 25 % 2) = V.int 1) = g
  refine ⟨a, ns, m, g, rfl, hS, hlen, hm, fun sp us S H1 S1 hL hl hok hz => ?_⟩
  walk_at "sts"
  have hul := hL.len
  refine ⟨a, ns, 1, rfl, sq_same hS S1, by omega, fun c1 => ?_⟩
  walk_at "sts"
  refine r_i (show (0 : Int) < 10 ^ (12 : Int).toNat by decide) ?_
  generalize c1 % 10 ^ (12 : Int).toNat = sd
  walk_at "sts"
  refine r_new rfl fun e1 n1 => ?_
  walk_at "sts"
  refine r_new rfl fun e2 n2 => ?_
  walk_at "sts"
  refine r_new rfl fun e3 n3 => ?_
  have S2 := (((Same.refl H1).upd n1 (o := .lst [])).upd n2 (o := .lst [])).upd n3 (o := .tup [.int 0, .ref e1, .ref e2])
  generalize upd (upd (upd H1 e1 (.lst [])) e2 (.lst [])) e3 (.tup [.int 0, .ref e1, .ref e2]) = H2 at S2 ⊢
  have hL2 := hL.same S2
  walk_at "sts"
  refine ⟨_, rfl, by omega, by omega, ?_⟩
  refine for_range (fun k σ G => Same H2 G ∧ ∃ (t : Addr) (x5 x6 x7 x8 x9 : Option V), σ = [some (.ref a), some (.int m), some (.ref sp), some (.int sd), some (.ref t), x5, x6, x7, x8, x9] ∧
      (k = 0 ∨ ∃ (ch pr : Addr) (L : List Int) (ms : List Nat), G t = some (.tup [.int (L.getD m 0), .ref ch, .ref pr]) ∧ G ch = some (.lst ((nI ms).map V.int)) ∧ G pr = some (.lst ((prs L m).map V.int)) ∧ L.length = m + 1 ∧ SumsOk S L ∧ ms.length ≤ 24 ∧ Chos S ms ∧ wsum S ms = L.getD m 0))
    ⟨Same.refl _, e3, _, _, _, _, _, rfl, .inl rfl⟩ ?_ ?_
  · rintro k σ G hk ⟨SG, t0, x5, x6, x7, x8, x9, rfl, _⟩
    have hLG := hL2.same SG
    walk_at "sts"
    refine ⟨sp, us, S, m, _, rfl, hm, hLG, hl, hok, fun ch cs G1 nch S3 hch lcs hcs hup hdj => ?_⟩
    walk_at "sts"
    refine ⟨sp, us, S, m, _, rfl, hm, hLG.same S3, hl, hok, fun pr ps G2 npr S4 hpr lp hcov => ?_⟩
    have S34 := S3.trans S4
    have hL3 := hLG.same S34
    have hch2 := S4 _ _ hch
    have lc : ((nI cs).map V.int).length = cs.length := by rw [List.length_map, nI_len]
    walk_at "sts"
    refine .inl ⟨ch, rfl, ⟨_, SqL.of hch2⟩, ?_⟩
    refine comp_list (xs := (nI cs).map V.int) (fun i ys G' => G' = G2 ∧ ys = (((cs.take i).map (ww S)).map V.int)) (by omega) ⟨rfl, rfl⟩ ?_ ?_ ?_ ?_
    · rintro i ys G' ⟨_, rfl⟩
      simp; omega
    · rintro i ys G' ⟨rfl, rfl⟩
      exact SqL.of hch2
    · rintro i ys G' x hx ⟨rfl, rfl⟩
      obtain ⟨j, hj, rfl⟩ : ∃ j, cs[i]? = some j ∧ x = V.int (j : Int) := by
        unfold nI at hx
        rw [List.getElem?_map, List.getElem?_map] at hx
        cases e : cs[i]? with
        | none => rw [e] at hx; cases hx
        | some y => rw [e] at hx; exact ⟨y, rfl, (Option.some.inj hx).symm⟩
      have hjS := hcs j (List.mem_of_getElem? hj)
      have hju : us[j]? = some (us[j]'(by omega)) := List.getElem?_eq_getElem _
      obtain ⟨s, ad, hsj, hu, had⟩ := DRs_sn hL3.2 hju
      rw [hu] at hju
      walk_at "sts"
      refine ⟨KeepSt.set rfl, ?_⟩
      walk_at "sts"
      refine r_ixL (SqL.of hL3.1) (atI_nat hju) ?_
      walk_at "sts"
      refine ⟨rfl, ?_⟩
      rw [List.take_add_one, hj, List.map_append, List.map_append]
      show _ ++ [V.int _] = _ ++ [V.int (ww S j)]
      rw [ww_of hsj]
    rintro ys G' ⟨rfl, rfl⟩ D nD
    rw [lc, List.take_length]
    have S5 := (Same.refl G').upd nD (o := .lst ((cs.map (ww S)).map V.int))
    have fD := upd_same (H := G') (a := D) (o := .lst ((cs.map (ww S)).map V.int))
    generalize upd G' D (.lst ((cs.map (ww S)).map V.int)) = G3 at S5 fD ⊢
    walk_at "sts"
    refine r_sum fD ?_
    walk_at "sts"
    rw [show (cs.map (ww S)).sum = wsum S cs from rfl]
    have hL4 := hL3.same S5
    have hch4 := S5 _ _ hch2
    have hpr4 := S5 _ _ hpr
    have SG4 := SG.trans (S34.trans S5)
    refine r_listL (SqL.of hL4.1) fun l1 m1 => ?_
    have S6 := (Same.refl G3).upd m1 (o := .lst us)
    have hL6 : Lsn (upd G3 l1 (.lst us)) l1 us S := ⟨upd_same, DRs.same S6 _ _ hL4.2⟩
    generalize upd G3 l1 (.lst us) = G4 at S6 hL6 ⊢
    walk_at "sts"
    refine r_listL (SqL.of (S6 _ _ hch4)) fun l2 m2 => ?_
    have S7 := (Same.refl G4).upd m2 (o := .lst ((nI cs).map V.int))
    have g2 := upd_same (H := G4) (a := l2) (o := .lst ((nI cs).map V.int))
    generalize upd G4 l2 (.lst ((nI cs).map V.int)) = G5 at S7 g2 ⊢
    walk_at "sts"
    refine r_listL (SqL.of (S7 _ _ (S6 _ _ hpr4))) fun l3 m3 => ?_
    have S8 := (Same.refl G5).upd m3 (o := .lst (ps.map V.int))
    have g3 := upd_same (H := G5) (a := l3) (o := .lst (ps.map V.int))
    generalize upd G5 l3 (.lst (ps.map V.int)) = G6 at S8 g3 ⊢
    walk_at "sts"
    refine r_new rfl fun l4 m4 => ?_
    have S9 := (Same.refl G6).upd m4 (o := .tup [.int (wsum S cs), .ref l2, .ref l3])
    have g4 := upd_same (H := G6) (a := l4) (o := .tup [.int (wsum S cs), .ref l2, .ref l3])
    generalize upd G6 l4 (.tup [.int (wsum S cs), .ref l2, .ref l3]) = G7 at S9 g4 ⊢
    walk_at "sts"
    refine ⟨m, l1, l4, l2, l3, us, S, _, cs, ps, rfl, hm, hL6.same (S7.trans (S8.trans S9)), hl, hok, g4, S9 _ _ (S8 _ _ g2), S9 _ _ g3, lcs, hcs, lp, fun G8 S10 => ?_⟩
    rw [shows_all hup hdj hcov rfl]
    have S410 := S6.trans ((S7.trans (S8.trans S9)).trans S10)
    have SG8 := SG4.trans S410
    have hpr8 := S410 _ _ hpr4
    walk_at "sts"
    refine r_isi (.bl _) (b := true) (by rfl) ?_
    walk_at "sts"
    refine r_sum hpr8 ?_
    walk_at "sts"
    rw [dec_int2, decide_eq_true rfl]
    walk_at "sts"
    have hL8 := hL2.same SG8
    refine r_listL (SqL.of hL8.1) fun l5 m5 => ?_
    have S11 := (Same.refl G8).upd m5 (o := .lst us)
    have hL9 : Lsn (upd G8 l5 (.lst us)) l5 us S := ⟨upd_same, DRs.same S11 _ _ hL8.2⟩
    generalize upd G8 l5 (.lst us) = G9 at S11 hL9 ⊢
    walk_at "sts"
    refine ⟨m, l5, us, S, rfl, hm, hL9, hl, hok, fun t ch2 pr2 L ms G10 nc2 np2 cp S12 ht hc2 hp2 hLl hSO hml hC hw => ?_⟩
    have S1112 := S11.trans S12
    have SG10 := SG8.trans S1112
    have b1 := duality hok hcs hdj (prs_len L m) (prs_cov hok hLl hSO)
    rw [prs_all, hSO.zero] at b1
    have b2 := duality hok hC.lt (chos_dj hC) lp hcov
    rw [hw] at b2
    walk_at "sts"
    refine r_isi (.tup ht) rfl ?_
    walk_at "sts"
    refine r_lenT (SqT.of ht) ?_
    walk_at "sts"
    rw [show decide (V.int (([V.int (L.getD m 0), .ref ch2, .ref pr2] : List V).length : Int) = V.int 3) = true from decide_eq_true rfl]
    walk_at "sts"
    refine ⟨_, rfl, ?_⟩
    walk_at "sts"
    try refine r_ixT (SqT.of ht) (atI_nat (j := 0) rfl) ?_
    walk_at "sts"
    rw [decide_eq_false (show ¬ L.getD m 0 < wsum S cs by omega)]
    walk_at "sts"
    try refine r_ixT (SqT.of ht) (atI_nat (j := 0) rfl) ?_
    walk_at "sts"
    refine r_sum (S1112 _ _ hpr8) ?_
    walk_at "sts"
    rw [decide_eq_false (show ¬ ps.sum < L.getD m 0 by omega)]
    walk_at "sts"
    try refine r_ixT (SqT.of ht) (atI_nat (j := 0) rfl) ?_
    walk_at "sts"
    have sb : showsB S (L.getD m 0) ms (prs L m) = true := by
      rw [shows_all hC.up (chos_dj hC) (prs_cov hok hLl hSO) hw, prs_all, hSO.zero]
      exact decide_eq_true (by omega)
    refine ⟨m, sp, t, ch2, pr2, us, S, ms, prs L m, _, rfl, hm, hL2.same SG10, hl, hok, ht, hc2, hp2, hml, hC.lt, prs_len L m, fun G11 S13 => ?_⟩
    rw [sb]
    walk_at "sts"
    refine ⟨sp, t, ch2, pr2, us, S, m, _, _, ms, prs L m, rfl, hm, hL2.same (SG10.trans S13), hl, hok, S13 _ _ ht, S13 _ _ hc2, S13 _ _ hp2, hml, hC.lt, prs_len L m, fun G12 S14 => ?_⟩
    have S1314 := S13.trans S14
    walk_at "sts"
    exact ⟨SG10.trans S1314, t, _, _, _, _, _, rfl, .inr ⟨ch2, pr2, L, ms, S1314 _ _ ht, S1314 _ _ hc2, S1314 _ _ hp2, hLl, hSO, hml, hC, hw⟩⟩
  · rintro σ G ⟨SG, t, x5, x6, x7, x8, x9, rfl, h⟩
    rcases h with h | ⟨ch2, pr2, L, ms, ht, hc2, hp2, hLl, hSO, hml, hC, hw⟩
    · exact absurd h (by decide)
    have hLG := hL2.same SG
    walk_at "sts"
    refine r_listL (SqL.of hLG.1) fun l1 m1 => ?_
    have S6 := (Same.refl G).upd m1 (o := .lst us)
    have hL6 : Lsn (upd G l1 (.lst us)) l1 us S := ⟨upd_same, DRs.same S6 _ _ hLG.2⟩
    generalize upd G l1 (.lst us) = G4 at S6 hL6 ⊢
    have sb : showsB S (L.getD m 0) ms (prs L m) = true := by
      rw [shows_all hC.up (chos_dj hC) (prs_cov hok hLl hSO) hw, prs_all, hSO.zero]
      exact decide_eq_true (by omega)
    walk_at "sts"
    refine ⟨m, l1, t, ch2, pr2, us, S, _, ms, prs L m, rfl, hm, hL6, hl, hok, S6 _ _ ht, S6 _ _ hc2, S6 _ _ hp2, hml, hC.lt, prs_len L m, fun G8 S10 => ?_⟩
    rw [sb]
    walk_at "sts"
    exact q _
end

end My
open PySem PySem.W PyProof.Rows
set_option maxRecDepth 100000 in
set_option maxHeartbeats 0 in
theorem PySem.Challenge.cw_panethread_k74_whole_no_others_are_worth_holds : PySem.Challenge.rw_panethread_k74_whole_no_others_are_worth.Holds := by
  w_on; o_law; k_head; (case hw => w_witness2)
  k_fill
  refine L2.walkJ (l := PySem.Challenge.rw_panethread_k74_whole_no_others_are_worth) (st := My.s_law) (k := 8) (x := "_law_script") (sp := My.spLaw) rfl rfl rfl ⟨rfl, by decide, by decide, rfl⟩ (fun w h Y => PySem.W.kIn_of Y) (fun _ _ _ _ _ _ us hl => L2.usN1 (fun _ => rfl) us hl) ?F (fun K H a ns hl hS => ⟨a, ns, rfl, hS, hl, fun _ => rfl⟩)
  case F =>
    intro w mg h KX G
    have b_all : mg "all" = none := by
      refine' PySem.W.mg_none_of KX G ?a
      (case a => k_is)
    have b_bool : mg "bool" = none := by
      refine' PySem.W.mg_none_of KX G ?a
      (case a => k_is)
    have b_enumerate : mg "enumerate" = none := by
      refine' PySem.W.mg_none_of KX G ?a
      (case a => k_is)
    have b_int : mg "int" = none := by
      refine' PySem.W.mg_none_of KX G ?a
      (case a => k_is)
    have b_isinstance : mg "isinstance" = none := by
      refine' PySem.W.mg_none_of KX G ?a
      (case a => k_is)
    have b_len : mg "len" = none := by
      refine' PySem.W.mg_none_of KX G ?a
      (case a => k_is)
    have b_list : mg "list" = none := by
      refine' PySem.W.mg_none_of KX G ?a
      (case a => k_is)
    have b_max : mg "max" = none := by
      refine' PySem.W.mg_none_of KX G ?a
      (case a => k_is)
    have b_range : mg "range" = none := by
      refine' PySem.W.mg_none_of KX G ?a
      (case a => k_is)
    have b_sorted : mg "sorted" = none := by
      refine' PySem.W.mg_none_of KX G ?a
      (case a => k_is)
    have b_sum : mg "sum" = none := by
      refine' PySem.W.mg_none_of KX G ?a
      (case a => k_is)
    have b_tuple : mg "tuple" = none := by
      refine' PySem.W.mg_none_of KX G ?a
      (case a => k_is)
    have c_MOST_LETTERS : ∃ t, mg "MOST_LETTERS" = some (.int 24 t) := by
      refine' L2.const_mk KX G ?a ?h
      (case a => k_is); (case h => exact ⟨_, by with_unfolding_all rfl⟩)
    have c_MOST_STRETCHES : ∃ t, mg "MOST_STRETCHES" = some (.int 400 t) := by
      refine' L2.const_mk KX G ?a ?h
      (case a => k_is); (case h => exact ⟨_, by with_unfolding_all rfl⟩)
    have c_MOST_WORTH : ∃ t, mg "MOST_WORTH" = some (.int 1000000 t) := by
      refine' L2.const_mk KX G ?a ?h
      (case a => k_is); (case h => exact ⟨_, by with_unfolding_all rfl⟩)
    have d_is_number : L2.Def (L2.KOf KX) mg "is_number" My.s_is_number := by
      dsimp only [L2.KOf]
      refine' L2.def_mk KX G ?a ?l ?c ?k
      (case a => k_is); (case l => k_is); (case c => k_is); (case k => k_is)
    have d_is_within : L2.Def (L2.KOf KX) mg "is_within" My.s_is_within := by
      dsimp only [L2.KOf]
      refine' L2.def_mk KX G ?a ?l ?c ?k
      (case a => k_is); (case l => k_is); (case c => k_is); (case k => k_is)
    have d_is_span : L2.Def (L2.KOf KX) mg "is_span" My.s_is_span := by
      dsimp only [L2.KOf]
      refine' L2.def_mk KX G ?a ?l ?c ?k
      (case a => k_is); (case l => k_is); (case c => k_is); (case k => k_is)
    have d_need_place : L2.Def (L2.KOf KX) mg "need_place" My.s_need_place := by
      dsimp only [L2.KOf]
      refine' L2.def_mk KX G ?a ?l ?c ?k
      (case a => k_is); (case l => k_is); (case c => k_is); (case k => k_is)
    have d_is_worthy : L2.Def (L2.KOf KX) mg "is_worthy" My.s_is_worthy := by
      dsimp only [L2.KOf]
      refine' L2.def_mk KX G ?a ?l ?c ?k
      (case a => k_is); (case l => k_is); (case c => k_is); (case k => k_is)
    have d_need_stretches : L2.Def (L2.KOf KX) mg "need_stretches" My.s_need_stretches := by
      dsimp only [L2.KOf]
      refine' L2.def_mk KX G ?a ?l ?c ?k
      (case a => k_is); (case l => k_is); (case c => k_is); (case k => k_is)
    have d_sums_by_end : L2.Def (L2.KOf KX) mg "sums_by_end" My.s_sums_by_end := by
      dsimp only [L2.KOf]
      refine' L2.def_mk KX G ?a ?l ?c ?k
      (case a => k_is); (case l => k_is); (case c => k_is); (case k => k_is)
    have d_last_of_the_most : L2.Def (L2.KOf KX) mg "last_of_the_most" My.s_last_of_the_most := by
      dsimp only [L2.KOf]
      refine' L2.def_mk KX G ?a ?l ?c ?k
      (case a => k_is); (case l => k_is); (case c => k_is); (case k => k_is)
    have d_chosen_from : L2.Def (L2.KOf KX) mg "chosen_from" My.s_chosen_from := by
      dsimp only [L2.KOf]
      refine' L2.def_mk KX G ?a ?l ?c ?k
      (case a => k_is); (case l => k_is); (case c => k_is); (case k => k_is)
    have d_apart : L2.Def (L2.KOf KX) mg "apart" My.s_apart := by
      dsimp only [L2.KOf]
      refine' L2.def_mk KX G ?a ?l ?c ?k
      (case a => k_is); (case l => k_is); (case c => k_is); (case k => k_is)
    have d_are_rising_places : L2.Def (L2.KOf KX) mg "are_rising_places" My.s_are_rising_places := by
      dsimp only [L2.KOf]
      refine' L2.def_mk KX G ?a ?l ?c ?k
      (case a => k_is); (case l => k_is); (case c => k_is); (case k => k_is)
    have d_are_apart : L2.Def (L2.KOf KX) mg "are_apart" My.s_are_apart := by
      dsimp only [L2.KOf]
      refine' L2.def_mk KX G ?a ?l ?c ?k
      (case a => k_is); (case l => k_is); (case c => k_is); (case k => k_is)
    have d_do_cover : L2.Def (L2.KOf KX) mg "do_cover" My.s_do_cover := by
      dsimp only [L2.KOf]
      refine' L2.def_mk KX G ?a ?l ?c ?k
      (case a => k_is); (case l => k_is); (case c => k_is); (case k => k_is)
    have d_shows_apart : L2.Def (L2.KOf KX) mg "shows_apart" My.s_shows_apart := by
      dsimp only [L2.KOf]
      refine' L2.def_mk KX G ?a ?l ?c ?k
      (case a => k_is); (case l => k_is); (case c => k_is); (case k => k_is)
    have d_law_at : L2.Def (L2.KOf KX) mg "_law_at" My.s_law_at := by
      dsimp only [L2.KOf]
      refine' L2.def_mk KX G ?a ?l ?c ?k
      (case a => k_is); (case l => k_is); (case c => k_is); (case k => k_is)
    have d_law_mix : L2.Def (L2.KOf KX) mg "_law_mix" My.s_law_mix := by
      dsimp only [L2.KOf]
      refine' L2.def_mk KX G ?a ?l ?c ?k
      (case a => k_is); (case l => k_is); (case c => k_is); (case k => k_is)
    have d_law_whole : L2.Def (L2.KOf KX) mg "_law_whole" My.s_law_whole := by
      dsimp only [L2.KOf]
      refine' L2.def_mk KX G ?a ?l ?c ?k
      (case a => k_is); (case l => k_is); (case c => k_is); (case k => k_is)
    have d_law_span : L2.Def (L2.KOf KX) mg "_law_span" My.s_law_span := by
      dsimp only [L2.KOf]
      refine' L2.def_mk KX G ?a ?l ?c ?k
      (case a => k_is); (case l => k_is); (case c => k_is); (case k => k_is)
    have d_law_spans : L2.Def (L2.KOf KX) mg "_law_spans" My.s_law_spans := by
      dsimp only [L2.KOf]
      refine' L2.def_mk KX G ?a ?l ?c ?k
      (case a => k_is); (case l => k_is); (case c => k_is); (case k => k_is)
    have d_law_chosen : L2.Def (L2.KOf KX) mg "_law_chosen" My.s_law_chosen := by
      dsimp only [L2.KOf]
      refine' L2.def_mk KX G ?a ?l ?c ?k
      (case a => k_is); (case l => k_is); (case c => k_is); (case k => k_is)
    have d_law_prices : L2.Def (L2.KOf KX) mg "_law_prices" My.s_law_prices := by
      dsimp only [L2.KOf]
      refine' L2.def_mk KX G ?a ?l ?c ?k
      (case a => k_is); (case l => k_is); (case c => k_is); (case k => k_is)
    have d_law_right : L2.Def (L2.KOf KX) mg "_law_right" My.s_law_right := by
      dsimp only [L2.KOf]
      refine' L2.def_mk KX G ?a ?l ?c ?k
      (case a => k_is); (case l => k_is); (case c => k_is); (case k => k_is)
    have d_law_choice : L2.Def (L2.KOf KX) mg "_law_choice" My.s_law_choice := by
      dsimp only [L2.KOf]
      refine' L2.def_mk KX G ?a ?l ?c ?k
      (case a => k_is); (case l => k_is); (case c => k_is); (case k => k_is)
    have d_law_covers : L2.Def (L2.KOf KX) mg "_law_covers" My.s_law_covers := by
      dsimp only [L2.KOf]
      refine' L2.def_mk KX G ?a ?l ?c ?k
      (case a => k_is); (case l => k_is); (case c => k_is); (case k => k_is)
    have d_law_otherwise : L2.Def (L2.KOf KX) mg "_law_otherwise" My.s_law_otherwise := by
      dsimp only [L2.KOf]
      refine' L2.def_mk KX G ?a ?l ?c ?k
      (case a => k_is); (case l => k_is); (case c => k_is); (case k => k_is)
    have d_law : L2.Def (L2.KOf KX) mg "law" My.s_law := by
      dsimp only [L2.KOf]
      refine' L2.def_mk KX G ?a ?l ?c ?k
      (case a => k_is); (case l => k_is); (case c => k_is); (case k => k_is)
    have x_NoPlace : L2.XTxt (L2.KOf KX) mg "NoPlace" ["found"] "NoPlace.__init__" My.i_NoPlace := by
      dsimp only [L2.KOf]
      refine' L2.xt_mk KX G ?a ?b ?kp ?na ?i ?t ?l ?c ?k
      (case a => k_is); (case b => kernel_rfl); (case kp => k_is); (case na => kernel_rfl); (case i => k_is); (case t => k_is); (case l => k_is); (case c => k_is); (case k => k_is)
    have x_NoStretches : L2.XTxt (L2.KOf KX) mg "NoStretches" ["found"] "NoStretches.__init__" My.i_NoStretches := by
      dsimp only [L2.KOf]
      refine' L2.xt_mk KX G ?a ?b ?kp ?na ?i ?t ?l ?c ?k
      (case a => k_is); (case b => kernel_rfl); (case kp => k_is); (case na => kernel_rfl); (case i => k_is); (case t => k_is); (case l => k_is); (case c => k_is); (case k => k_is)
    exact ⟨d_law, fun base f fd F => My.ok_law ⟨b_all, b_bool, b_enumerate, b_int, b_isinstance, b_len, b_list, b_max, b_range, b_sorted, b_sum, b_tuple, c_MOST_LETTERS, c_MOST_STRETCHES, c_MOST_WORTH, d_is_number, d_is_within, d_is_span, d_need_place, d_is_worthy, d_need_stretches, d_sums_by_end, d_last_of_the_most, d_chosen_from, d_apart, d_are_rising_places, d_are_apart, d_do_cover, d_shows_apart, d_law_at, d_law_mix, d_law_whole, d_law_span, d_law_spans, d_law_chosen, d_law_prices, d_law_right, d_law_choice, d_law_covers, d_law_otherwise, d_law, x_NoPlace, x_NoStretches⟩ F⟩
