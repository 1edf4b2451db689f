import PyProof.Rows.All
import Wide.All
import OpenK.AllK
import Wide.FinOn
import Lean
import PyProof.EqAt
import PyProof.EqKinds
import PyProof.TupleCall
import PyProof.ReprRoads
import KE.KSortTup
import PySem.Challenge.RW_panethread_k07_refusals_apart
-- CHANGE: your row's module here, as the last of these rows
set_option compiler.extract_closed false
set_option Elab.async false
set_option linter.all false
set_option maxRecDepth 100000
namespace L2
@[elab_as_elim] theorem usN1 {p : List PySem.Value → Prop} (h : ∀ a0 : PySem.Value, p [a0]) (us : List PySem.Value) (hl : us.length = 1) : p us := by
  rcases us with _ | ⟨a0, us0⟩
  · cases hl
  rcases us0 with _ | ⟨b, us⟩
  · exact h a0
  · cases hl
@[elab_as_elim] theorem usN2 {p : List PySem.Value → Prop} (h : ∀ a0 a1 : PySem.Value, p [a0, a1]) (us : List PySem.Value) (hl : us.length = 2) : p us := by
  rcases us with _ | ⟨a0, us0⟩
  · cases hl
  rcases us0 with _ | ⟨a1, us1⟩
  · cases hl
  rcases us1 with _ | ⟨b, us⟩
  · exact h a0 a1
  · cases hl
@[elab_as_elim] theorem usN3 {p : List PySem.Value → Prop} (h : ∀ a0 a1 a2 : PySem.Value, p [a0, a1, a2]) (us : List PySem.Value) (hl : us.length = 3) : p us := by
  rcases us with _ | ⟨a0, us0⟩
  · cases hl
  rcases us0 with _ | ⟨a1, us1⟩
  · cases hl
  rcases us1 with _ | ⟨a2, us2⟩
  · cases hl
  rcases us2 with _ | ⟨b, us⟩
  · exact h a0 a1 a2
  · cases hl
theorem auto1 (h : True := by first | exact .inl rfl | exact .inr rfl | assumption) : True := h
theorem auto2 (h : True := by decide) : True := h
theorem auto3 (h : True := by intro _; rfl) : True := h
theorem auto4 (h : True := by rfl) : True := h
theorem auto5 (h : True := by decide +kernel) : True := h
open PySem PySem.Spec PyProof.Rows

noncomputable abbrev Key := Sum Int Str
noncomputable def keyIs : Key → Value → Bool
  | .inl k, v => Value.isInt k v
  | .inr x, v => Value.isStrOf x v
noncomputable def keyH (w : World) : Key → Int
  | .inl k => hashInt k
  | .inr x => hashStr w x
theorem keyIs_shape : ∀ {k : Key} {v : Value}, keyIs k v = true → (∃ i t, k = Sum.inl i ∧ v = Value.int i t) ∨ (∃ x t, k = Sum.inr x ∧ v = Value.str x t)
  | .inl i, v, h => by
    obtain ⟨t, e⟩ := Value.isInt_shape (k := i) (v := v) h
    exact .inl ⟨i, t, rfl, e⟩
  | .inr x, v, h => by
    obtain ⟨t, e⟩ := Value.isStrOf_shape (x := x) (v := v) h
    exact .inr ⟨x, t, rfl, e⟩
theorem keyIs_int (i : Int) (t : Tok) : keyIs (.inl i) (.int i t) = true := by simp [keyIs, Value.isInt]
theorem keyIs_str (x : Str) (t : Tok) : keyIs (.inr x) (.str x t) = true := by simp [keyIs, Value.isStrOf]
theorem key_ll (a b : Int) : decide ((Sum.inl a : Key) = Sum.inl b) = (a == b) := by
  by_cases e : a = b
  · subst e; simp
  · have h : ¬ (Sum.inl a : Key) = Sum.inl b := fun q => e (Sum.inl.inj q)
    rw [decide_eq_false h]
    exact (beq_eq_false_iff_ne.mpr e).symm
theorem key_rr (a b : Str) : decide ((Sum.inr a : Key) = Sum.inr b) = decide (a = b) := by
  by_cases e : a = b
  · subst e; simp
  · have h : ¬ (Sum.inr a : Key) = Sum.inr b := fun q => e (Sum.inr.inj q)
    rw [decide_eq_false h, decide_eq_false e]
theorem key_lr (a : Int) (b : Str) : decide ((Sum.inl a : Key) = Sum.inr b) = false := decide_eq_false (fun q => nomatch q)
theorem key_rl (a : Str) (b : Int) : decide ((Sum.inr a : Key) = Sum.inl b) = false := decide_eq_false (fun q => nomatch q)

noncomputable def mixKind (prog : Program) (w : World) : PySem.KeyKind prog w Key where
  is := keyIs
  hash := keyH w
  inj := fun v a b ha hb => by
    rcases keyIs_shape ha with ⟨i, t, rfl, rfl⟩ | ⟨x, t, rfl, rfl⟩
    · rcases keyIs_shape hb with ⟨j, u, rfl, e⟩ | ⟨y, u, rfl, e⟩
      · injection e with e1 _; rw [e1]
      · exact nomatch e
    · rcases keyIs_shape hb with ⟨j, u, rfl, e⟩ | ⟨y, u, rfl, e⟩
      · exact nomatch e
      · injection e with e1 _; rw [e1]
  byValue := fun k v h => by
    rcases keyIs_shape h with ⟨i, t, rfl, rfl⟩ | ⟨x, t, rfl, rfl⟩ <;> rfl
  pyHash := fun hv h => by
    rcases keyIs_shape hv with ⟨i, t, rfl, rfl⟩ | ⟨x, t, rfl, rfl⟩
    · exact wpAny_pyHash_int h
    · exact wpAny_pyHash_str h
  eqBool := fun hu hv h => by
    rcases keyIs_shape hu with ⟨i, t, rfl, rfl⟩ | ⟨x, t, rfl, rfl⟩
    · rcases keyIs_shape hv with ⟨j, u, rfl, rfl⟩ | ⟨y, u, rfl, rfl⟩
      · rw [key_ll] at h; exact wpAny_eqBool_int h
      · rw [key_lr] at h; exact SeqAt.EqAt.int_str i t y u _ _ _ _ h
    · rcases keyIs_shape hv with ⟨j, u, rfl, rfl⟩ | ⟨y, u, rfl, rfl⟩
      · rw [key_rl] at h; exact SeqAt.EqAt.str_int x t j u _ _ _ _ h
      · rw [key_rr] at h; exact wpAny_eqBool_str h
  «strs» := fun k x t v h => by
    rcases keyIs_shape h with ⟨i, u, rfl, e⟩ | ⟨y, u, rfl, e⟩
    · exact nomatch e
    · injection e with e1 _
      subst e1
      cases v <;> rfl

theorem mixKind_int (prog : Program) (w : World) (i : Int) (t : Tok) : (mixKind prog w).is (.inl i) (.int i t) = true := keyIs_int i t
theorem mixKind_str (prog : Program) (w : World) (x : Str) (t : Tok) : (mixKind prog w).is (.inr x) (.str x t) = true := keyIs_str x t
end L2

namespace L2
open PySem PySem.Spec PyProof.Rows

inductive V where
  | non | bl (b : Bool) | int (i : Int) | str (x : Str) | byt (b : Array UInt8) | flt (b : UInt64) | ref (a : Addr) | ty (n : String)
  deriving DecidableEq

noncomputable def RelV : V → Value → Prop
  | .non, u => u = Value.none
  | .bl b, u => u = Value.bool b
  | .int i, u => ∃ t, u = Value.int i t
  | .str x, u => ∃ t, u = Value.str x t
  | .byt b, u => ∃ t, u = Value.bytes b t
  | .flt b, u => ∃ t, u = Value.float b t
  | .ref a, u => u = Value.ref a
  | .ty n, u => u = Value.type n

noncomputable abbrev Vals : List V → List Value → Prop := Paired RelV
theorem Vals.length {xs : List V} {us : List Value} (r : Vals xs us) : xs.length = us.length := Paired.length r
theorem Vals.get : ∀ {xs : List V} {us : List Value} {i : Nat} {x : V}, Vals xs us → xs[i]? = some x → ∃ u, us[i]? = some u ∧ RelV x u
  | _, _, _, _, .nil, e => by simp at e
  | _, _, 0, _, .cons r _, e => by simp at e; subst e; exact ⟨_, rfl, r⟩
  | _, _, i + 1, x, .cons _ t, e => by
    obtain ⟨u, h1, h2⟩ := Vals.get (i := i) (x := x) t (by simpa using e)
    exact ⟨u, by simpa using h1, h2⟩
theorem Vals.set {x : V} {u : Value} (r : RelV x u) : ∀ {xs : List V} {us : List Value} (i : Nat), Vals xs us → Vals (xs.set i x) (us.set i u)
  | _, _, _, .nil => .nil
  | _, _, 0, .cons _ t => .cons r t
  | _, _, i + 1, .cons q t => .cons q (Vals.set r i t)
theorem Vals.append : ∀ {xs ys : List V} {us ws : List Value}, Vals xs us → Vals ys ws → Vals (xs ++ ys) (us ++ ws)
  | _, _, _, _, .nil, s => s
  | _, _, _, _, .cons r t, s => .cons r (Vals.append t s)
theorem Vals.take : ∀ {xs : List V} {us : List Value} (n : Nat), Vals xs us → Vals (xs.take n) (us.take n)
  | _, _, 0, _ => .nil
  | _, _, _ + 1, .nil => .nil
  | _, _, n + 1, .cons r t => .cons r (Vals.take n t)
theorem Vals.drop : ∀ {xs : List V} {us : List Value} (n : Nat), Vals xs us → Vals (xs.drop n) (us.drop n)
  | _, _, 0, r => r
  | _, _, _ + 1, .nil => .nil
  | _, _, n + 1, .cons _ t => Vals.drop n t
noncomputable def RelO : Option V → Option Value → Prop
  | some v, some u => RelV v u
  | none, none => True
  | _, _ => False
noncomputable def KV {κ : Type} : List (κ × V) → List (κ × Value) → Prop := Paired fun (p : κ × V) (q : κ × Value) => p.1 = q.1 ∧ RelV p.2 q.2

noncomputable def kV : Key → V
  | .inl i => .int i
  | .inr x => .str x

inductive HO where
  /-- a list -/
  | lst (xs : List V)
  /-- a tuple (never changes) -/
  | tup (xs : List V)
  /-- a dict whose keys are ints and texts; one whose keys are tuples of ints and texts (the empty one is both) -/
  | dK (kvs : List (Key × V)) | dT (kvs : List (List Key × V))
  /-- a set of ints: its members, its size -/
  | set (S : Int → Bool) (n : Nat)
  /-- an instance of the class at C, its dict at dx, its attributes -/
  | ins (C dx : Addr) (fs : List (Str × V))
  /-- the dict of the instance at x -/
  | own (x : Addr)
  /-- the dict of an exception -/
  | xd (fs : List (Str × V))
  /-- a bound method, f of x -/
  | met (f x : Addr)
  /-- a range object lo, lo + 1, .. below hi -/
  | rng (lo hi : Int)
  /-- a thing that is known to the object (the script; a dict while a loop walks it): read, never written while it is so -/
  | frz (o : Obj) (u : HO)
  /-- a code object's table -/
  | tbl (ps : Array Value)
  /-- any other thing, by what is true of its one object (a def of one's own: SetO a S n := HO.ext fun h => ..) -/
  | ext (φ : Heap → Prop)

noncomputable abbrev Hp := Addr → Option HO
noncomputable def upd (H : Hp) (a : Addr) (o : HO) : Hp := fun b => if b = a then some o else H b
theorem upd_same {H : Hp} {a : Addr} {o : HO} : upd H a o a = some o := by unfold upd; rw [if_pos rfl]
theorem upd_ne {H : Hp} {a b : Addr} {o : HO} (h : b ≠ a) : upd H a o b = H b := by unfold upd; rw [if_neg h]
theorem upd_upd {H : Hp} {a : Addr} {o u : HO} : upd (upd H a o) a u = upd H a u := by
  funext b; unfold upd; split <;> rfl
theorem ne_of_none {H : Hp} {a b : Addr} {o : HO} (h : H a = some o) (h' : H b = none) : a ≠ b := by
  intro e; subst e; rw [h] at h'; cases h'

section
variable (P : Program) (w : World)
noncomputable def ObjOk (H : Hp) (h : Heap) (a : Addr) : HO → Prop
  | .lst xs => xs.length ≤ sizeLine ∧ ∃ (its : List Value) (n : Nat), Vals xs its ∧ h.get? a = some { cls := .type "list", data := .seq its.toArray n }
  | .tup xs => xs.length ≤ sizeLine ∧ ∃ its : List Value, Vals xs its ∧ IsTup h a its.toArray
  | .dK kvs => kvs.length ≤ sizeLine ∧ (a == sysModules) = false ∧ ∃ vs, KV kvs vs ∧ h.DictOf (mixKind P w) a vs
  | .dT kvs => kvs.length ≤ sizeLine ∧ (a == sysModules) = false ∧ ∃ xs : List (List Key × Addr × Value),
      Paired (fun (p : List Key × V) (q : List Key × Addr × Value) => p.1 = q.1 ∧ H q.2.1 = some (.tup (p.1.map kV)) ∧ RelV p.2 q.2.2) kvs xs ∧
      ∃ o es ep, h.get? a = some o ∧ o.ExactDict ∧ o.data = .dict es ep ∧ es.toList = xs.map (entryOfKey (tupleKind (mixKind P w))) ∧ (xs.map (·.1)).Nodup
  | .set S n => h.SetOf (intKind P w) a S n
  | .ins C dx fs => H dx = some (.own a) ∧ fs.length ≤ 1000 ∧ dx ≠ a ∧ h.get? a = some (PySem.W.instObj C dx) ∧
      ∃ mA, h.Ns1 dx mA ∧ (∀ f, RelO (fs.lookup f) (mA f)) ∧ PySem.Within mA (fs.map (·.1))
  | .own _ => ∃ o, h.get? a = some o
  | .xd fs => ∃ mA, h.Ns1 a mA ∧ ∀ f, RelO (fs.lookup f) (mA f)
  | .rng lo hi => ∃ t u v, h.get? a = some { cls := .type "range", data := .fields #[.int lo t, .int hi u, .int 1 v] }
  | .frz o u => h.get? a = some o ∧ ObjOk H h a u
  | .tbl ps => h.get? a = some { cls := .none, data := .fields ps }
  | .met f x => h.get? a = some (PySem.W.methodObj (.ref f) (.ref x))
  | .ext φ => φ h ∧ (∃ o, h.get? a = some o) ∧ ∀ h1 h2 : Heap, φ h1 → (∀ o, h1.get? a = some o → h2.get? a = some o) → φ h2
noncomputable def HOk (H : Hp) (h : Heap) : Prop := ∀ a o, H a = some o → ObjOk P w H h a o
end

section
variable {P : Program} {w : World} {H H' : Hp} {h h' : Heap} {a : Addr} {o : HO}
theorem ObjOk.lt (x : ObjOk P w H h a o) : a < h.objs.size := by
  cases o with
  | lst xs => obtain ⟨_, _, _, _, e⟩ := x; exact Heap.lt_size e
  | tup xs => obtain ⟨_, _, _, p⟩ := x; exact p.lt
  | dK kvs => obtain ⟨_, _, _, _, o, _, _, e, _⟩ := x; exact Heap.lt_size e
  | dT kvs => obtain ⟨_, _, _, _, o, _, _, e, _⟩ := x; exact Heap.lt_size e
  | set S n => obtain ⟨o, _, _, _, e, _⟩ := x; exact Heap.lt_size e
  | ins C dx fs => obtain ⟨_, _, _, e, _⟩ := x; exact Heap.lt_size e
  | own y => obtain ⟨_, e⟩ := x; exact Heap.lt_size e
  | xd fs => obtain ⟨_, ⟨_, _, _, e, _⟩, _⟩ := x; exact Heap.lt_size e
  | rng lo hi => obtain ⟨_, _, _, e⟩ := x; exact Heap.lt_size e
  | frz ob u => obtain ⟨e, _⟩ := x; exact Heap.lt_size e
  | tbl ps => exact Heap.lt_size (show h.get? a = some _ from x)
  | met f y => exact Heap.lt_size (show h.get? a = some _ from x)
  | ext φ => obtain ⟨_, ⟨_, e⟩, _⟩ := x; exact Heap.lt_size e
theorem Paired.mapP {α β : Type} {F G : α → β → Prop} : ∀ {l₁ : List α} {l₂ : List β}, Paired F l₁ l₂ → (∀ a b, F a b → G a b) → Paired G l₁ l₂
  | _, _, .nil, _ => .nil
  | _, _, .cons r t, f => .cons (f _ _ r) (Paired.mapP t f)
theorem ObjOk.stay (x : ObjOk P w H h a o) (k : ∀ b u, (b = a ∨ H b = some (.own a)) → h.get? b = some u → h'.get? b = some u)
    (ho : ∀ b, H b = some (.own a) → H' b = some (.own a)) (ht : ∀ b xs, H b = some (.tup xs) → H' b = some (.tup xs)) : ObjOk P w H' h' a o := by
  induction o with
  | lst xs => obtain ⟨z, its, n, r, e⟩ := x; exact ⟨z, its, n, r, k _ _ (.inl rfl) e⟩
  | tup xs => obtain ⟨z, its, r, ob, e, c⟩ := x; exact ⟨z, its, r, ob, k _ _ (.inl rfl) e, c⟩
  | dK kvs => obtain ⟨z, y, vs, r, ob, es, ep, e, c⟩ := x; exact ⟨z, y, vs, r, ob, es, ep, k _ _ (.inl rfl) e, c⟩
  | dT kvs =>
    obtain ⟨z, y, xs, r, ob, es, ep, e, c⟩ := x
    exact ⟨z, y, xs, Paired.mapP r fun p q z => ⟨z.1, ht _ _ z.2.1, z.2.2⟩, ob, es, ep, k _ _ (.inl rfl) e, c⟩
  | set S n => obtain ⟨ob, es, ep, t, e, c⟩ := x; exact ⟨ob, es, ep, t, k _ _ (.inl rfl) e, c⟩
  | ins C dx fs =>
    obtain ⟨d, z, ne, e, mA, ⟨od, es, ep, e2, c⟩, r⟩ := x
    exact ⟨ho _ d, z, ne, k _ _ (.inl rfl) e, mA, ⟨od, es, ep, k _ _ (.inr d) e2, c⟩, r⟩
  | own y => obtain ⟨ob, e⟩ := x; exact ⟨ob, k _ _ (.inl rfl) e⟩
  | xd fs => obtain ⟨mA, ⟨od, es, ep, e, c⟩, r⟩ := x; exact ⟨mA, ⟨od, es, ep, k _ _ (.inl rfl) e, c⟩, r⟩
  | rng lo hi => obtain ⟨t, u, v, e⟩ := x; exact ⟨t, u, v, k _ _ (.inl rfl) e⟩
  | frz ob u ih => obtain ⟨e, q⟩ := x; exact ⟨k _ _ (.inl rfl) e, ih q⟩
  | tbl ps =>
    have e : h.get? a = some { cls := .none, data := .fields ps } := x
    show h'.get? a = some { cls := .none, data := .fields ps }
    exact k a _ (.inl rfl) e
  | met f y =>
    have e : h.get? a = some (PySem.W.methodObj (.ref f) (.ref y)) := x
    show h'.get? a = some (PySem.W.methodObj (.ref f) (.ref y))
    exact k a _ (.inl rfl) e
  | ext φ => obtain ⟨p, ⟨o, e⟩, st⟩ := x; exact ⟨st _ _ p fun o q => k _ _ (.inl rfl) q, ⟨o, k _ _ (.inl rfl) e⟩, st⟩
theorem HOk.lt (x : HOk P w H h) (e : H a = some o) : a < h.objs.size := (x a o e).lt
theorem HOk.fresh (x : HOk P w H h) (e : h.objs.size ≤ a) : H a = none := by
  cases q : H a with
  | none => rfl
  | some u => exact absurd (Nat.lt_of_lt_of_le (x.lt q) e) (Nat.lt_irrefl _)
theorem HOk.kept (x : HOk P w H h) (k : ∀ b u, h.get? b = some u → h'.get? b = some u) : HOk P w H h' := fun a o e =>
  (x a o e).stay (fun b u _ q => k b u q) (fun _ q => q) fun _ _ q => q
theorem HOk.laid (x : HOk P w H h) (k : ∀ b u, h.get? b = some u → h'.get? b = some u) (hp : h.objs.size ≤ a) (new : ObjOk P w (upd H a o) h' a o) : HOk P w (upd H a o) h' := fun b u e => by
  have hn := x.fresh hp
  by_cases hb : b = a
  · subst hb; rw [upd_same] at e; cases e; exact new
  · rw [upd_ne hb] at e
    exact (x b u e).stay (fun c v _ q => k c v q) (fun c q => by rw [upd_ne (ne_of_none q hn)]; exact q) fun c xs q => by rw [upd_ne (ne_of_none q hn)]; exact q
end

noncomputable def Rd (H : Hp) (a : Addr) (u : HO) : Prop := H a = some u ∨ ∃ o, H a = some (.frz o u)
theorem Rd.ok {P : Program} {w : World} {H : Hp} {h : Heap} {a : Addr} {u : HO} (r : Rd H a u) (x : HOk P w H h) : ObjOk P w H h a u := by
  rcases r with r | ⟨o, r⟩
  · exact x a u r
  · obtain ⟨_, q⟩ := x a _ r
    exact q
noncomputable def Mut : Option HO → Prop
  | some (.lst _) => True
  | some (.dK _) => True
  | some (.dT _) => True
  | some (.set _ _) => True
  | some (.ins _ _ _) => True
  | some (.ext _) => True
  | _ => False
section
variable {P : Program} {w : World} {H : Hp} {h h' : Heap} {x e : Addr} {o' : HO}
theorem HOk.write (ok : HOk P w H h) (mu : Mut (H x)) (he : e = x ∨ H e = some (.own x)) (k : ∀ b u, b ≠ e → h.get? b = some u → h'.get? b = some u) (heo : ∃ u, h'.get? e = some u)
    (new : ObjOk P w (upd H x o') h' x o') : HOk P w (upd H x o') h' := fun b u q => by
  have nown : ∀ c y, H c = some (.own y) → c ≠ x := fun c y r z => by subst z; rw [r] at mu; exact mu
  have ntup : ∀ c xs, H c = some (.tup xs) → c ≠ x := fun c xs r z => by subst z; rw [r] at mu; exact mu
  by_cases hb : b = x
  · subst hb; rw [upd_same] at q; cases q; exact new
  · rw [upd_ne hb] at q
    by_cases hbe : b = e
    · have q' : H b = some (.own x) := by
        rcases he with z | z
        · exact absurd (hbe.trans z) hb
        · rw [hbe]; exact z
      rw [q] at q'; cases q'
      obtain ⟨v, hv⟩ := heo
      exact ⟨v, by rw [hbe]; exact hv⟩
    · refine (ok b u q).stay (fun c v hc r => k c v ?_ r) (fun c r => by rw [upd_ne (nown c b r)]; exact r) fun c xs r => by rw [upd_ne (ntup c xs r)]; exact r
      rcases hc with rfl | hc
      · exact hbe
      · rintro rfl
        rcases he with z | z
        · exact nown c b hc z
        · rw [hc] at z; cases z; exact hb rfl
end

structure Un (fs ex : List Addr) (H H' : Hp) (h h' : Heap) : Prop where
  keep : ∀ b o, h.get? b = some o → H b = none → b ∉ fs → b ∉ ex → h'.get? b = some o
  slot : ∀ b o, h.get? b = some o → H b = none → b ∈ fs → b ∉ ex → ∃ sl, h'.get? b = some { o with slots := sl }
  free : ∀ b o, h.get? b = some o → H b = none → b ∉ ex → H' b = none
  there : ∀ b o, h.get? b = some o → b ∉ ex → ∃ o', h'.get? b = some o'
  tups : ∀ b xs, H b = some (.tup xs) → H' b = some (.tup xs)
  frzs : ∀ b o u, H b = some (.frz o u) → H' b = some (.frz o u)
  tbls : ∀ b ps, H b = some (.tbl ps) → ∃ more, H' b = some (.tbl (ps ++ more))
section
variable {fs fs' ex ex' : List Addr} {H H1 H2 : Hp} {h h1 h2 h' : Heap} {a x e : Addr} {o : HO}
theorem Un.any (u : Un fs ex H H1 h h1) {b : Addr} {ob : Obj} (q : h.get? b = some ob) (n : H b = none) (hx : b ∉ ex) : ∃ sl, h1.get? b = some { ob with slots := sl } := by
  by_cases hb : b ∈ fs
  · exact u.slot b ob q n hb hx
  · exact ⟨ob.slots, u.keep b ob q n hb hx⟩
theorem Un.kept (k : ∀ b u, h.get? b = some u → h'.get? b = some u) : Un fs ex H H h h' :=
  ⟨fun b ob q _ _ _ => k b ob q, fun b ob q _ _ _ => ⟨ob.slots, k b ob q⟩, fun _ _ _ n _ => n, fun b ob q _ => ⟨ob, k b ob q⟩, fun _ _ q => q, fun _ _ _ q => q, fun _ ps q => ⟨#[], by rw [q]; simp⟩⟩
theorem Un.refl : Un fs ex H H h h := Un.kept fun _ _ q => q
theorem Un.laid (k : ∀ b u, h.get? b = some u → h'.get? b = some u) (hp : h.objs.size ≤ a) (hn : H a = none) : Un fs ex H (upd H a o) h h' where
  keep := fun b u q _ _ _ => k b u q
  slot := fun b u q _ _ _ => ⟨u.slots, k b u q⟩
  free := fun b u q n _ => by rw [upd_ne (Nat.ne_of_lt (Nat.lt_of_lt_of_le (Heap.lt_size q) hp))]; exact n
  there := fun b u q _ => ⟨u, k b u q⟩
  tups := fun b xs q => by rw [upd_ne (ne_of_none q hn)]; exact q
  frzs := fun b u xs q => by rw [upd_ne (ne_of_none q hn)]; exact q
  tbls := fun b ps q => ⟨#[], by rw [upd_ne (ne_of_none q hn), q]; simp⟩
theorem Un.write (mu : Mut (H x)) (he : e = x ∨ H e = some (.own x)) (k : ∀ b u, b ≠ e → h.get? b = some u → h'.get? b = some u) (heo : ∃ u, h'.get? e = some u) : Un fs ex H (upd H x o) h h' := by
  have hx : ∀ b, H b = none → b ≠ x := fun b n z => by subst z; rw [n] at mu; exact mu
  have hb : ∀ b, H b = none → b ≠ e := fun b n z => by
    subst z
    rcases he with r | r
    · exact hx b n r
    · rw [n] at r; cases r
  have hm : ∀ b u, H b = some u → ¬ Mut (some u) → b ≠ x := fun b u q nm z => by subst z; rw [q] at mu; exact nm mu
  refine ⟨fun b u q n _ _ => k b u (hb b n) q, fun b u q n _ _ => ⟨u.slots, k b u (hb b n) q⟩, fun b u q n _ => by rw [upd_ne (hx b n)]; exact n, fun b u q _ => ?_,
    fun b xs q => by rw [upd_ne (hm b _ q fun z => z)]; exact q, fun b u xs q => by rw [upd_ne (hm b _ q fun z => z)]; exact q, fun b ps q => ⟨#[], by rw [upd_ne (hm b _ q fun z => z), q]; simp⟩⟩
  by_cases hbe : b = e
  · subst hbe; exact heo
  · exact ⟨u, k b u hbe q⟩
end

noncomputable def trk (h : Heap) (H : Hp) : List Addr := (List.range h.objs.size).filter fun a => (H a).isSome
noncomputable def hidT (h : Heap) (H : Hp) : Heap := PySem.W.hideAll h (trk h H)
theorem hidT_size (h : Heap) (H : Hp) : (hidT h H).objs.size = h.objs.size := PySem.W.hideAll_size _ _
theorem hidT_get {h : Heap} {H : Hp} {b : Addr} {o : Obj} (e : h.get? b = some o) (n : H b = none) : (hidT h H).get? b = some o :=
  PySem.W.hideAll_get _ e fun hm => by
    have q : (H b).isSome = true := (List.mem_filter.mp hm).2
    rw [n] at q; simp at q
theorem of_hidT {h : Heap} {H : Hp} {b : Addr} {o : Obj} (e : (hidT h H).get? b = some o) : h.get? b = some o ∧ H b = none := by
  have e' : h.get? b = some o := PySem.W.of_hideAll (trk h H) e
  refine ⟨e', ?_⟩
  cases q : H b with
  | none => rfl
  | some x =>
    have hm : b ∈ trk h H := List.mem_filter.mpr ⟨List.mem_range.mpr (Heap.lt_size e'), by simp [q]⟩
    have z : (hidT h H).get? b = none := PySem.W.hideAll_none (trk h H) hm
    rw [z] at e; cases e

end L2

namespace L2
open PySem PySem.Spec PyProof.Rows

structure Mod (K : PySem.W.Frag) (mg : Str → Option Value) (base : Heap) : Prop where
  kin : K.In base
  glob : base.Ns mainGlobals mg
  blt : ∃ mb, base.Ns builtinsNs mb ∧ ∀ x : Str, x ≠ "__name__" → mb x = bootBuiltins x
  nolimit : base.NoLimit
  sysm : ∃ mm, base.Ns sysModules mm

structure Cx where
  prog : Program
  w : World
  K : PySem.W.Frag
  mg : Str → Option Value
  base : Heap
  A : Around
  N : List Str
  s₀ : Shared
  H₀ : Hp
  env : Env
  outer : List Env
  stack : List Env
  ex : List Addr
  fn : Str → Bool
  calm : Bool
  pn : List (Addr × Obj)
  xe : Value → Shared → Prop
noncomputable def frs (l : List Env) : List Addr := l.filterMap (·.frame)
noncomputable abbrev Cx.fs (X : Cx) : List Addr := frs X.outer

noncomputable def Vis (sc : Scope) (x : Str) : Prop := sc.names.lookup x = some .local ∨ sc.names.lookup x = some .cell ∨ sc.names.lookup x = some .free
noncomputable def Loc (sc : Scope) (x : Str) : Prop := sc.names.lookup x = some .local ∨ sc.names.lookup x = some .cell
noncomputable def Look (env : Env) (h : Heap) (m : Str → Option Value) (x : Str) (u : Value) : Prop :=
  (env.kindOf x = some .local ∧ m x = some u) ∨ ((env.kindOf x = some .cell ∨ env.kindOf x = some .free) ∧ ∃ c, env.cells.lookup x = some c ∧ h.IsCell c (some u))

structure Cx.Ok (X : Cx) : Prop where
  mod : Mod X.K X.mg X.base
  kind : X.env.scope.kind = .function
  glob : X.env.globals = mainGlobals
  blt : X.env.builtins = builtinsNs
  above : X.s₀.heap.objs.size ≤ X.env.locals
  inj : ∀ x y c, X.env.cells.lookup x = some c → X.env.cells.lookup y = some c → x = y
  has : ∀ x, (X.env.kindOf x = some .cell ∨ X.env.kindOf x = some .free) → ∃ c, X.env.cells.lookup x = some c
  cab : ∀ x c, X.fn x = true → X.env.cells.lookup x = some c → X.s₀.heap.objs.size ≤ c
  hd : X.calm = true → X.A.handled = none
  frames : X.A.frames = some X.stack
  stk : X.stack = X.outer ∨ (X.stack = X.env :: X.outer ∧ X.env.frame = some X.env.locals)
  exf : ∀ b ∈ X.ex, b ≠ X.env.locals ∧ ∀ x c, X.env.cells.lookup x = some c → c ≠ b
  bs : ∀ b o, X.base.get? b = some o → X.s₀.heap.get? b = some o ∧ X.H₀ b = none
  bsz : X.base.objs.size ≤ X.s₀.heap.objs.size
  noex : ∀ b o, X.base.get? b = some o → b ∉ X.ex
  exfs : ∀ b ∈ X.ex, b ∉ X.fs
  funs : X.s₀.heap.FunFrames X.base X.outer
  frf : ∀ b ∈ X.fs, X.H₀ b = none

structure Inv (X : Cx) (pins : List (Addr × Obj)) (σ : List (Option V)) (H : Hp) (s : Shared) : Prop where
  ok : X.Ok
  os : s.os = X.s₀.os
  bare : AllBare s.gens
  base : Un X.fs X.ex X.H₀ H X.s₀.heap s.heap
  loc : ∃ m, s.heap.Ns X.env.locals m ∧ ∀ (i : Nat) (x : Str) (v : V), X.N[i]? = some x → σ[i]? = some (some v) → Vis X.env.scope x → ∃ u, RelV v u ∧ Look X.env s.heap m x u
  cell : ∀ x c, X.env.cells.lookup x = some c → ∃ v, s.heap.IsCell c v
  free : H X.env.locals = none
  freeC : ∀ x c, X.env.cells.lookup x = some c → H c = none
  pin : ∀ p ∈ X.pn ++ pins, s.heap.get? p.1 = some p.2 ∧ H p.1 = none ∧ p.1 ≠ X.env.locals ∧ p.1 ∉ X.fs ∧ ∀ v, p.2.data ≠ .cell v
  hok : HOk X.prog X.w H s.heap
  len : σ.length = X.N.length

section
variable {X : Cx} {pins : List (Addr × Obj)} {σ : List (Option V)} {H H' : Hp} {s : Shared} {h' : Heap}

theorem Cx.Ok.nofr (ok : X.Ok) {b : Addr} {o : Obj} (e : X.base.get? b = some o) : b ∉ X.fs := fun hb => by
  have := (ok.funs.mem hb).1
  rw [e] at this; cases this
theorem Inv.bs (I : Inv X pins σ H s) : ∀ b o, X.base.get? b = some o → s.heap.get? b = some o ∧ H b = none := fun b o e =>
  ⟨I.base.keep b o (I.ok.bs b o e).1 (I.ok.bs b o e).2 (I.ok.nofr e) (I.ok.noex b o e), I.base.free b o (I.ok.bs b o e).1 (I.ok.bs b o e).2 (I.ok.noex b o e)⟩
theorem Inv.bk (I : Inv X pins σ H s) : ∀ b o, X.base.get? b = some o → s.heap.get? b = some o := fun b o e => (I.bs b o e).1
theorem Inv.mod (I : Inv X pins σ H s) : Mod X.K X.mg X.base := I.ok.mod
theorem Inv.kIn (I : Inv X pins σ H s) : X.K.In s.heap := I.ok.mod.kin.keeps I.bk
theorem Inv.lt (I : Inv X pins σ H s) : X.env.locals < s.heap.objs.size := let ⟨_, hn, _⟩ := I.loc; hn.lt
theorem Inv.sz (I : Inv X pins σ H s) : X.s₀.heap.objs.size ≤ s.heap.objs.size := Nat.le_trans I.ok.above (Nat.le_of_lt I.lt)
theorem Inv.nofs (I : Inv X pins σ H s) {a : Addr} (h : s.heap.objs.size ≤ a) : a ∉ X.fs := fun hb => by
  obtain ⟨_, o, ho, _⟩ := I.ok.funs.mem hb
  exact absurd (Nat.lt_of_lt_of_le (Heap.lt_size ho) (Nat.le_trans I.sz h)) (Nat.lt_irrefl _)
theorem Inv.cne (I : Inv X pins σ H s) : ∀ x c, X.env.cells.lookup x = some c → c ≠ X.env.locals := fun x c e z => by
  obtain ⟨v, o, ho, hd⟩ := I.cell x c e
  obtain ⟨m, ⟨o', es, ep, ho', hd', _⟩, _⟩ := I.loc
  rw [z, ho'] at ho; cases ho; rw [hd'] at hd; cases hd
theorem Inv.funs (I : Inv X pins σ H s) : s.heap.FunFrames X.base X.outer := by
  have all : ∀ (l : List Env), (∀ b ∈ frs l, b ∈ X.fs) → X.s₀.heap.FunFrames X.base l → s.heap.FunFrames X.base l := by
    intro l
    induction l with
    | nil => intro _ _; trivial
    | cons env r ih =>
      intro hs hl
      obtain ⟨hk, ⟨L, o, hf, hn, ho, hd⟩, hr⟩ := hl
      have hL : L ∈ X.fs := hs L (by unfold frs; rw [List.filterMap_cons, hf]; exact List.mem_cons_self)
      obtain ⟨sl, e⟩ := I.base.slot L o ho (I.ok.frf L hL) hL fun z => I.ok.exfs L z hL
      exact ⟨hk, ⟨L, _, hf, hn, e, hd⟩, ih (fun b hb => hs b (by unfold frs; rw [List.filterMap_cons, hf]; exact List.mem_cons_of_mem _ hb)) hr⟩
  exact all X.outer (fun _ hb => hb) I.ok.funs

theorem Inv.stack (I : Inv X pins σ H s) : s.heap.FunFrames X.base X.stack := by
  rcases I.ok.stk with e | ⟨e, hf⟩
  · rw [e]; exact I.funs
  · rw [e]
    obtain ⟨m, hn, _⟩ := I.loc
    refine .cons (by rw [I.ok.kind]; decide) hf hn ?_ I.funs
    exact Heap.get?_none_of_le (Nat.le_trans I.ok.bsz I.ok.above)
theorem Inv.stkSub (I : Inv X pins σ H s) : ∀ b ∈ frs X.stack, b ∈ X.env.locals :: X.fs := fun b hb => by
  rcases I.ok.stk with e | ⟨e, hf⟩
  · rw [e] at hb; exact List.mem_cons_of_mem _ hb
  · rw [e] at hb
    unfold frs at hb
    rw [List.filterMap_cons, hf] at hb
    exact hb
theorem Inv.stkFree (I : Inv X pins σ H s) : ∀ b ∈ frs X.stack, H b = none := fun b hb => by
  rcases List.mem_cons.mp (I.stkSub b hb) with e | hb
  · rw [e]; exact I.free
  · obtain ⟨_, o, ho, _⟩ := I.ok.funs.mem hb
    exact I.base.free b o ho (I.ok.frf b hb) fun z => I.ok.exfs b z hb

theorem Inv.step {g' : Array GenState} {t' : Nat} {d' : Drawn} {ch : List Addr} (I : Inv X pins σ H s)
    (hch : ∀ b ∈ ch, (b ∈ X.ex ∨ X.s₀.heap.objs.size ≤ b) ∧ b ≠ X.env.locals ∧ (∀ x c, X.env.cells.lookup x = some c → c ≠ b) ∧ ∀ p ∈ X.pn ++ pins, p.1 ≠ b)
    (keep : ∀ b o, b ≠ X.env.locals → b ∉ X.fs → b ∉ ch → s.heap.get? b = some o → H b = none → h'.get? b = some o)
    (slot : ∀ b o, b ≠ X.env.locals → b ∈ X.fs → b ∉ ch → s.heap.get? b = some o → H b = none → ∃ sl, h'.get? b = some { o with slots := sl }) (free : ∀ b o, b ∉ ch → s.heap.get? b = some o → H b = none → H' b = none)
    (there : ∀ b o, b ∉ ch → s.heap.get? b = some o → ∃ o', h'.get? b = some o')
    (tups : ∀ b xs, H b = some (.tup xs) → H' b = some (.tup xs)) (frzs : ∀ b o u, H b = some (.frz o u) → H' b = some (.frz o u)) (tbls : ∀ b ps, H b = some (.tbl ps) → ∃ more, H' b = some (.tbl (ps ++ more)))
    (ns : ∀ m, s.heap.Ns X.env.locals m → h'.Ns X.env.locals m) (hok : HOk X.prog X.w H' h') (hg : AllBare g') :
    Inv X pins σ H' { s with heap := h', gens := g', drawn := d', toks := t' } := by
  have neL : ∀ b o, X.s₀.heap.get? b = some o → b ≠ X.env.locals := fun b o e => Nat.ne_of_lt (Nat.lt_of_lt_of_le (Heap.lt_size e) I.ok.above)
  have neC : ∀ b o, X.s₀.heap.get? b = some o → b ∉ X.ex → b ∉ ch := fun b o e hx hb => by
    rcases (hch b hb).1 with z | z
    · exact hx z
    · exact absurd (Nat.lt_of_lt_of_le (Heap.lt_size e) z) (Nat.lt_irrefl _)
  have cellK : ∀ x c, X.env.cells.lookup x = some c → ∀ v, s.heap.IsCell c v → h'.IsCell c v := fun x c e v ⟨o, ho, hd⟩ => by
    have nch : c ∉ ch := fun z => (hch c z).2.2.1 x c e rfl
    by_cases hc : c ∈ X.fs
    · obtain ⟨sl, q⟩ := slot c o (I.cne x c e) hc nch ho (I.freeC x c e)
      exact ⟨_, q, hd⟩
    · exact ⟨o, keep c o (I.cne x c e) hc nch ho (I.freeC x c e), hd⟩
  refine ⟨I.ok, I.os, hg, ⟨fun b o e n hb hx => ?_, fun b o e n hb hx => ?_, fun b o e n hx => ?_, fun b o e hx => ?_, fun b xs e => tups b xs (I.base.tups b xs e), fun b o xs e => frzs b o xs (I.base.frzs b o xs e), fun b ps e => ?_⟩, ?_, fun x c e => ?_, ?_, fun x c e => ?_, fun p hp => ?_, hok, I.len⟩
  · exact keep b o (neL b o e) hb (neC b o e hx) (I.base.keep b o e n hb hx) (I.base.free b o e n hx)
  · obtain ⟨sl, e1⟩ := I.base.slot b o e n hb hx
    obtain ⟨sl', e2⟩ := slot b _ (neL b o e) hb (neC b o e hx) e1 (I.base.free b o e n hx)
    exact ⟨sl', e2⟩
  · obtain ⟨o', e1⟩ := I.base.there b o e hx
    exact free b o' (neC b o e hx) e1 (I.base.free b o e n hx)
  · obtain ⟨o', e1⟩ := I.base.there b o e hx
    exact there b o' (neC b o e hx) e1
  · obtain ⟨m1, e1⟩ := I.base.tbls b ps e
    obtain ⟨m2, e2⟩ := tbls b _ e1
    exact ⟨m1 ++ m2, by rw [e2, Array.append_assoc]⟩
  · obtain ⟨m, hn, hl⟩ := I.loc
    refine ⟨m, ns m hn, fun i x v e1 e2 e3 => ?_⟩
    obtain ⟨u, r, l⟩ := hl i x v e1 e2 e3
    refine ⟨u, r, ?_⟩
    rcases l with l | ⟨k, c, e, z⟩
    · exact .inl l
    · exact .inr ⟨k, c, e, cellK x c e _ z⟩
  · obtain ⟨v, z⟩ := I.cell x c e
    exact ⟨v, cellK x c e v z⟩
  · obtain ⟨m, ⟨o, _, _, ho, _⟩, _⟩ := I.loc
    exact free _ o (fun z => (hch _ z).2.1 rfl) ho I.free
  · obtain ⟨v, o, ho, hd⟩ := I.cell x c e
    exact free c o (fun z => (hch c z).2.2.1 x c e rfl) ho (I.freeC x c e)
  · obtain ⟨e, n, ne, nf, d⟩ := I.pin p hp
    have nch : p.1 ∉ ch := fun z => (hch p.1 z).2.2.2 p hp rfl
    exact ⟨keep p.1 p.2 ne nf nch e n, free p.1 p.2 nch e n, ne, nf, d⟩
theorem Inv.un {t' : Nat} (I : Inv X pins σ H s) (u : Un X.fs [] H H' s.heap h') (hok : HOk X.prog X.w H' h') : Inv X pins σ H' { s with heap := h', toks := t' } := by
  obtain ⟨m, ⟨o, es, ep, ho, r⟩, _⟩ := id I.loc
  obtain ⟨sl, hL⟩ := u.any ho I.free (by simp)
  exact I.step (g' := s.gens) (d' := s.drawn) (ch := []) (fun _ z => nomatch z) (fun b o _ hb _ e n => u.keep b o e n hb (by simp)) (fun b o _ hb _ e n => u.slot b o e n hb (by simp)) (fun b o _ e n => u.free b o e n (by simp)) (fun b o _ e => u.there b o e (by simp)) u.tups u.frzs u.tbls (fun m' hm => by
    obtain ⟨o', es', ep', ho', r'⟩ := hm
    rw [ho] at ho'; cases ho'
    exact ⟨_, es', ep', hL, r'⟩) hok I.bare
theorem Inv.call {g' : Array GenState} {t' : Nat} {d' : Drawn} {ch : List Addr} (I : Inv X pins σ H s) (u : Un (frs X.stack) ch H H' s.heap h') (hok : HOk X.prog X.w H' h') (hg : AllBare g')
    (hch : ∀ b ∈ ch, (b ∈ X.ex ∨ X.s₀.heap.objs.size ≤ b) ∧ b ≠ X.env.locals ∧ (∀ x c, X.env.cells.lookup x = some c → c ≠ b) ∧ ∀ p ∈ X.pn ++ pins, p.1 ≠ b) :
    Inv X pins σ H' { s with heap := h', gens := g', drawn := d', toks := t' } := by
  obtain ⟨m, ⟨o, es, ep, ho, r⟩, _⟩ := id I.loc
  obtain ⟨sl, hL⟩ := u.any ho I.free fun z => (hch _ z).2.1 rfl
  exact I.step (ch := ch) hch (fun b o hL hb hc e n => u.keep b o e n (fun z => (List.mem_cons.mp (I.stkSub b z)).elim hL hb) hc) (fun b o _ _ hc e n => u.any e n hc) (fun b o hc e n => u.free b o e n hc) (fun b o hc e => u.there b o e hc) u.tups u.frzs u.tbls (fun m' hm => by
    obtain ⟨o', es', ep', ho', r'⟩ := hm
    rw [ho] at ho'; cases ho'
    exact ⟨_, es', ep', hL, r'⟩) hok hg
theorem Inv.turned {t' : Nat} {it : Addr} (I : Inv X pins σ H s) (k : ∀ b o, b ≠ it → s.heap.get? b = some o → h'.get? b = some o) (hn : H it = none) (hL : it ≠ X.env.locals)
    (h1 : it ∈ X.ex ∨ X.s₀.heap.objs.size ≤ it) (h2 : ∀ x c, X.env.cells.lookup x = some c → c ≠ it) (h3 : ∀ p ∈ X.pn ++ pins, p.1 ≠ it) : Inv X pins σ H { s with heap := h', toks := t' } := by
  have nit : ∀ b u, H b = some u → b ≠ it := fun b u e z => by rw [z, hn] at e; cases e
  refine I.step (g' := s.gens) (d' := s.drawn) (ch := [it]) (fun b hb => ?_) (fun b o _ _ hc e _ => k b o (fun z => hc (by simp [z])) e) (fun b o _ _ hc e _ => ⟨o.slots, k b o (fun z => hc (by simp [z])) e⟩) (fun _ _ _ _ n => n)
    (fun b o hc e => ⟨o, k b o (fun z => hc (by simp [z])) e⟩) (fun _ _ e => e) (fun _ _ _ e => e) (fun b ps e => ⟨#[], by rw [e]; simp⟩) (fun m hm => ?_) (fun b u e => ?_) I.bare
  · have e : b = it := by simpa using hb
    subst e
    exact ⟨h1, hL, h2, h3⟩
  · obtain ⟨o, es, ep, ho, r⟩ := hm
    exact ⟨o, es, ep, k _ o (Ne.symm hL) ho, r⟩
  · refine (I.hok b u e).stay (fun c v hc q => k c v ?_ q) (fun _ q => q) fun _ _ q => q
    rcases hc with z | z
    · rw [z]; exact nit b u e
    · exact nit c _ z
theorem Inv.tok (I : Inv X pins σ H s) (t : Nat) : Inv X pins σ H { s with toks := t } := I.un (h' := s.heap) (t' := t) Un.refl I.hok
theorem Inv.kept {t' : Nat} (I : Inv X pins σ H s) (k : ∀ b u, s.heap.get? b = some u → h'.get? b = some u) : Inv X pins σ H { s with heap := h', toks := t' } := I.un (Un.kept k) (I.hok.kept k)
theorem Inv.laid {a : Addr} {o : HO} {t' : Nat} (I : Inv X pins σ H s) (k : ∀ b u, s.heap.get? b = some u → h'.get? b = some u) (hp : s.heap.objs.size ≤ a) (new : ObjOk X.prog X.w (upd H a o) h' a o) :
    Inv X pins σ (upd H a o) { s with heap := h', toks := t' } := I.un (Un.laid k hp (I.hok.fresh hp)) (I.hok.laid k hp new)
theorem Inv.write {x e : Addr} {o : HO} {t' : Nat} (I : Inv X pins σ H s) (mu : Mut (H x)) (he : e = x ∨ H e = some (.own x)) (k : ∀ b u, b ≠ e → s.heap.get? b = some u → h'.get? b = some u) (heo : ∃ u, h'.get? e = some u)
    (new : ObjOk X.prog X.w (upd H x o) h' x o) : Inv X pins σ (upd H x o) { s with heap := h', toks := t' } := I.un (Un.write mu he k heo) (I.hok.write mu he k heo new)
theorem Inv.weak {σ' : List (Option V)} (I : Inv X pins σ H s) (hl : σ'.length = σ.length) (w : ∀ (i : Nat) v, σ'[i]? = some (some v) → σ[i]? = some (some v)) : Inv X pins σ' H s :=
  ⟨I.ok, I.os, I.bare, I.base, let ⟨m, hn, hl'⟩ := I.loc; ⟨m, hn, fun i x v e1 e2 e3 => hl' i x v e1 (w i v e2) e3⟩, I.cell, I.free, I.freeC, I.pin, I.hok, hl.trans I.len⟩
theorem Inv.pins_of {pins' : List (Addr × Obj)} (I : Inv X pins σ H s) (h : ∀ p ∈ pins', s.heap.get? p.1 = some p.2 ∧ H p.1 = none ∧ p.1 ≠ X.env.locals ∧ p.1 ∉ X.fs ∧ ∀ v, p.2.data ≠ .cell v) : Inv X pins' σ H s :=
  ⟨I.ok, I.os, I.bare, I.base, I.loc, I.cell, I.free, I.freeC, fun p hp => (List.mem_append.mp hp).elim (fun z => I.pin p (List.mem_append_left _ z)) (h p), I.hok, I.len⟩

theorem nodup_ix {N : List Str} (hN : N.Nodup) {i j : Nat} {x : Str} (a : N[i]? = some x) (b : N[j]? = some x) : i = j := by
  obtain ⟨h1, e1⟩ := List.getElem?_eq_some_iff.mp a
  obtain ⟨h2, e2⟩ := List.getElem?_eq_some_iff.mp b
  exact (List.getElem_inj hN).mp (e1.trans e2.symm)

theorem store_ok2 {M : Model} {A : Around} {E : Value → Shared → Prop} {i : Nat} {x : Str} {v : V} {u : Value} {Q : Unit → Shared → Prop} (I : Inv X pins σ H s) (hN : X.N.Nodup) (hi : X.N[i]? = some x) (hx : Loc X.env.scope x) (r : RelV v u)
    (h : ∀ s', Inv X pins (σ.set i (some v)) H s' → (∃ a, Heap.SameBut a s.heap s'.heap ∧ (a = X.env.locals ∨ X.env.cells.lookup x = some a)) → Q () s') (hf : autoParam (X.fn x = true ∨ X.env.scope.names.lookup x = some .local) L2.auto1._auto_1) : wpAny M A (storeName X.env x u) Q E s := by
  obtain ⟨m, hn, hl⟩ := id I.loc
  have hcls : (X.env.scope.kind == .class || (X.env.scope.kind == .module && X.env.locals != X.env.globals)) = false := by rw [I.ok.kind]; rfl
  have hiσ : i < σ.length := by rw [I.len]; exact (List.getElem?_eq_some_iff.mp hi).1
  have cne := I.cne
  have tracked : ∀ {a : Addr} {h' : Heap}, (∃ o, s.heap.get? a = some o ∧ H a = none) → Heap.SameBut a s.heap h' → HOk X.prog X.w H h' := fun {a h'} ha hs b ob e => by
    obtain ⟨_, _, hfree⟩ := ha
    refine (I.hok b ob e).stay (fun c w' hc q => (hs.2 c ?_).trans q) (fun _ q => q) fun _ _ q => q
    rintro rfl
    rcases hc with rfl | hc
    · rw [hfree] at e; cases e
    · rw [hfree] at hc; cases hc
  rcases hx with hk | hk
  · refine wpAny_storeName_local hk hn (fun h' hn' hs => ?_) hcls
    obtain ⟨oL, _, _, hoL, _⟩ := id hn
    refine h _ ⟨I.ok, I.os, I.bare, ⟨fun b o e n hb hx => ?_, fun b o e n hb hx => ?_, I.base.free, fun b o e hx => ?_, I.base.tups, I.base.frzs, I.base.tbls⟩, ⟨_, hn', fun j y v' e1 e2 e3 => ?_⟩, fun y c e => ?_, I.free, I.freeC, fun p hp => ?_, tracked ⟨oL, hoL, I.free⟩ hs, by simpa using I.len⟩ ⟨_, hs, .inl rfl⟩
    · exact (hs.2 b (Nat.ne_of_lt (Nat.lt_of_lt_of_le (Heap.lt_size e) I.ok.above))).trans (I.base.keep b o e n hb hx)
    · obtain ⟨sl, e1⟩ := I.base.slot b o e n hb hx
      exact ⟨sl, (hs.2 b (Nat.ne_of_lt (Nat.lt_of_lt_of_le (Heap.lt_size e) I.ok.above))).trans e1⟩
    · obtain ⟨o', e1⟩ := I.base.there b o e hx
      exact ⟨o', (hs.2 b (Nat.ne_of_lt (Nat.lt_of_lt_of_le (Heap.lt_size e) I.ok.above))).trans e1⟩
    · by_cases hj : j = i
      · subst hj
        rw [hi] at e1; cases e1
        rw [List.getElem?_set_self hiσ] at e2
        cases e2
        exact ⟨u, r, .inl ⟨hk, by simp⟩⟩
      · rw [List.getElem?_set_ne (Ne.symm hj)] at e2
        obtain ⟨u', r', q⟩ := hl j y v' e1 e2 e3
        refine ⟨u', r', ?_⟩
        rcases q with ⟨k, e⟩ | ⟨k, c, e, z⟩
        · refine .inl ⟨k, ?_⟩
          have : y ≠ x := fun e => hj (nodup_ix hN e1 (e ▸ hi))
          simp [this, e]
        · exact .inr ⟨k, c, e, z.sameBut hs (cne y c e)⟩
    · obtain ⟨w', z⟩ := I.cell y c e
      exact ⟨w', z.sameBut hs (cne y c e)⟩
    · obtain ⟨e, n, ne, nf, d⟩ := I.pin p hp
      exact ⟨(hs.2 p.1 ne).trans e, n, ne, nf, d⟩
  · have hfn : X.fn x = true := by
      rcases hf with z | z
      · exact z
      · rw [z] at hk; cases hk
    obtain ⟨c, hc⟩ := I.ok.has x (.inl hk)
    obtain ⟨w', z⟩ := I.cell x c hc
    refine wpAny_storeName_cell I.ok.kind hk hc z (fun h' hc' hs => ?_)
    obtain ⟨oc, hoc, hocd⟩ := id z
    refine h { s with heap := h' } ⟨I.ok, I.os, I.bare, ⟨fun b o e n hb hx => ?_, fun b o e n hb hx => ?_, I.base.free, fun b o e hx => ?_, I.base.tups, I.base.frzs, I.base.tbls⟩, ⟨m, hn.sameBut hs (Ne.symm (cne x c hc)), fun j y v' e1 e2 e3 => ?_⟩, fun y c' e => ?_, I.free, I.freeC, fun p hp => ?_, tracked ⟨oc, hoc, I.freeC x c hc⟩ hs, by simpa using I.len⟩ ⟨c, hs, .inr hc⟩
    · exact (hs.2 b (Nat.ne_of_lt (Nat.lt_of_lt_of_le (Heap.lt_size e) (I.ok.cab x c hfn hc)))).trans (I.base.keep b o e n hb hx)
    · obtain ⟨sl, e1⟩ := I.base.slot b o e n hb hx
      exact ⟨sl, (hs.2 b (Nat.ne_of_lt (Nat.lt_of_lt_of_le (Heap.lt_size e) (I.ok.cab x c hfn hc)))).trans e1⟩
    · obtain ⟨o', e1⟩ := I.base.there b o e hx
      exact ⟨o', (hs.2 b (Nat.ne_of_lt (Nat.lt_of_lt_of_le (Heap.lt_size e) (I.ok.cab x c hfn hc)))).trans e1⟩
    · by_cases hj : j = i
      · subst hj
        rw [hi] at e1; cases e1
        rw [List.getElem?_set_self hiσ] at e2
        cases e2
        exact ⟨u, r, .inr ⟨.inl hk, c, hc, hc'⟩⟩
      · rw [List.getElem?_set_ne (Ne.symm hj)] at e2
        obtain ⟨u', r', q⟩ := hl j y v' e1 e2 e3
        refine ⟨u', r', ?_⟩
        rcases q with q | ⟨k, c', e, z'⟩
        · exact .inl q
        · refine .inr ⟨k, c', e, z'.sameBut hs ?_⟩
          rintro rfl
          exact hj (nodup_ix hN e1 (I.ok.inj _ _ _ e hc ▸ hi))
    · by_cases hcc : c' = c
      · subst hcc; exact ⟨_, hc'⟩
      · obtain ⟨w2, z2⟩ := I.cell y c' e
        exact ⟨w2, z2.sameBut hs hcc⟩
    · obtain ⟨e, n, ne, nf, d⟩ := I.pin p hp
      refine ⟨(hs.2 p.1 ?_).trans e, n, ne, nf, d⟩
      intro q
      rw [q, hoc] at e
      have q' : oc = p.2 := Option.some.inj e
      exact d w' (by rw [← q']; exact hocd)
theorem store_ok {M : Model} {A : Around} {E : Value → Shared → Prop} {i : Nat} {x : Str} {v : V} {u : Value} {Q : Unit → Shared → Prop} (I : Inv X pins σ H s) (hN : X.N.Nodup) (hi : X.N[i]? = some x) (hx : Loc X.env.scope x) (r : RelV v u)
    (h : ∀ s', Inv X pins (σ.set i (some v)) H s' → Q () s') (hf : autoParam (X.fn x = true ∨ X.env.scope.names.lookup x = some .local) L2.auto1._auto_1) : wpAny M A (storeName X.env x u) Q E s :=
  store_ok2 I hN hi hx r (fun s' I' _ => h s' I') hf
theorem Inv.call' {s' : Shared} {ch : List Addr} (I : Inv X pins σ H s) (ho : s'.os = s.os) (u : Un (frs X.stack) ch H H' s.heap s'.heap) (hok : HOk X.prog X.w H' s'.heap) (hg : AllBare s'.gens)
    (hch : ∀ b ∈ ch, (b ∈ X.ex ∨ X.s₀.heap.objs.size ≤ b) ∧ b ≠ X.env.locals ∧ (∀ x c, X.env.cells.lookup x = some c → c ≠ b) ∧ ∀ p ∈ X.pn ++ pins, p.1 ≠ b) : Inv X pins σ H' s' := by
  obtain ⟨h', g', d', t', o'⟩ := s'
  have e : o' = s.os := ho
  subst e
  exact I.call (g' := g') (t' := t') (d' := d') u hok hg hch
end

noncomputable abbrev XK := Value → Option Addr → Hp → Prop
noncomputable abbrev St := List (Option V)
noncomputable abbrev VK := V → Hp → Prop
noncomputable abbrev TE := St → Hp → VK → Prop
noncomputable abbrev TT := St → Hp → (Bool → Hp → Prop) → Prop
noncomputable abbrev TA := St → Hp → (List V → Hp → Prop) → Prop
structure Ends where
  nx : St → Hp → Prop
  rt : VK
  bk : St → Hp → Prop := fun _ _ => False
  ct : St → Hp → Prop := fun _ _ => False
noncomputable abbrev TS := Ends → St → Hp → Prop

noncomputable def EP (X : Cx) (pins : List (Addr × Obj)) (σ : St) (Q : VK) (u : Value) (s' : Shared) : Prop := ∃ v H', Inv X pins σ H' s' ∧ RelV v u ∧ Q v H'
noncomputable def TP (X : Cx) (pins : List (Addr × Obj)) (σ : St) (Q : Bool → Hp → Prop) (b : Bool) (s' : Shared) : Prop := ∃ H', Inv X pins σ H' s' ∧ Q b H'
noncomputable def AP (X : Cx) (pins : List (Addr × Obj)) (σ : St) (Q : List V → Hp → Prop) (us : List Value) (s' : Shared) : Prop := ∃ vs H', Inv X pins σ H' s' ∧ Vals vs us ∧ Q vs H'
noncomputable def SP (X : Cx) (pins : List (Addr × Obj)) (D : Ends) (f : Flow) (s' : Shared) : Prop :=
  match f with
  | .next => ∃ σ' H', Inv X pins σ' H' s' ∧ D.nx σ' H'
  | .brk => ∃ σ' H', Inv X pins σ' H' s' ∧ D.bk σ' H'
  | .cont => ∃ σ' H', Inv X pins σ' H' s' ∧ D.ct σ' H'
  | .ret u => ∃ v σ' H', Inv X pins σ' H' s' ∧ RelV v u ∧ D.rt v H'

noncomputable def PE (X : Cx) (e : Expr) (t : TE) : Prop :=
  ∀ (pins : List (Addr × Obj)) (s : Shared) (σ : St) (H : Hp) (Q : VK), Inv X pins σ H s → t σ H Q → wpAny (model X.prog X.w) X.A (eval e X.env) (EP X pins σ Q) X.xe s
noncomputable def PT (X : Cx) (e : Expr) (t : TT) : Prop :=
  ∀ (pins : List (Addr × Obj)) (s : Shared) (σ : St) (H : Hp) (Q : Bool → Hp → Prop), Inv X pins σ H s → t σ H Q → wpAny (model X.prog X.w) X.A (isTrue e X.env (eval e X.env)) (TP X pins σ Q) X.xe s
noncomputable def PW (X : Cx) (e : Expr) (t : TT) : Prop :=
  ∀ (whole : Sem Value) (pins : List (Addr × Obj)) (s : Shared) (σ : St) (H : Hp) (Q : Bool → Hp → Prop), Inv X pins σ H s → t σ H Q → wpAny (model X.prog X.w) X.A (isTrue e X.env whole) (TP X pins σ Q) X.xe s
theorem PW.pt {X : Cx} {e : Expr} {t : TT} (h : PW X e t) : PT X e t := h _
noncomputable def PA (X : Cx) (es : List Expr) (t : TA) : Prop :=
  ∀ (pos : Pos) (pins : List (Addr × Obj)) (s : Shared) (σ : St) (H : Hp) (Q : List V → Hp → Prop), Inv X pins σ H s → t σ H Q → wpAny (model X.prog X.w) X.A (spliced (backTo pos (starEach es X.env))) (AP X pins σ Q) X.xe s
noncomputable def PS (X : Cx) (st : Stmt) (t : TS) : Prop :=
  ∀ (pins : List (Addr × Obj)) (s : Shared) (σ : St) (H : Hp) (D : Ends), Inv X pins σ H s → t D σ H → wpAny (model X.prog X.w) X.A (exec st X.env) (SP X pins D) X.xe s
noncomputable def PSs (X : Cx) (st : List Stmt) (t : TS) : Prop :=
  ∀ (pins : List (Addr × Obj)) (s : Shared) (σ : St) (H : Hp) (D : Ends), Inv X pins σ H s → t D σ H → wpAny (model X.prog X.w) X.A (execs st X.env) (SP X pins D) X.xe s
theorem thn {α : Type} {t : Sem α} {Q Q' : α → Shared → Prop} {M : Model} {A : Around} {E : Value → Shared → Prop} {s : Shared} (h : wpAny M A t Q E s) (hQ : ∀ a s, Q a s → Q' a s) : wpAny M A t Q' E s := wpAny_mono h hQ fun _ _ x => x
end L2

namespace L2
open PySem PySem.Spec PyProof.Rows
section
variable {X : Cx}

noncomputable def tVar (i : Nat) : TE := fun σ H Q => ∃ v, σ[i]? = some (some v) ∧ Q v H
noncomputable def tC (v : V) : TE := fun _ H Q => Q v H
theorem pe_var {i : Nat} {x : Str} {pos : Pos} (hN : X.N[i]? = some x) (hv : Vis X.env.scope x) (hd : autoParam ((x == ("__debug__" : Str)) = false) L2.auto2._auto_1) (hcd : autoParam ((x == ("__classdict__" : Str)) = false) L2.auto2._auto_1) : PE X (.Name x pos) (tVar i) := by
  intro pins s σ H Q I h
  obtain ⟨v, e, h⟩ := h
  obtain ⟨m, hn, hl⟩ := I.loc
  obtain ⟨u, r, l⟩ := hl i x v hN e hv
  have fin : EP X pins σ Q u s := ⟨v, H, I, r, h⟩
  rcases l with ⟨hk, hm⟩ | ⟨hk, c, hc, hcell⟩
  · exact wpAny_Name (wpAny_loadName_local I.ok.kind hk hn hm fin) hd
  · rcases hk with hk | hk
    · exact wpAny_Name (wpAny_loadName_cell I.ok.kind hk hc hcell fin) hd
    · exact wpAny_Name (wpAny_loadName_free I.ok.kind hk hc hcell fin hcd) hd
theorem pe_int {i j pos} : PE X (.Constant (.int i) j pos) (tC (.int i)) := fun _ _ _ H _ I h => wpAny_Constant_int ⟨.int i, H, I.tok _, ⟨_, rfl⟩, h⟩
theorem pe_bl {b j pos} : PE X (.Constant (.bool b) j pos) (tC (.bl b)) := fun _ _ _ H _ I h => Constant_bool ⟨.bl b, H, I, rfl, h⟩
theorem pe_non {j pos} : PE X (.Constant .none j pos) (tC .non) := fun _ _ _ H _ I h => Constant_none ⟨.non, H, I, rfl, h⟩
theorem pe_str {x j pos} : PE X (.Constant (.str x) j pos) (tC (.str x)) := fun _ _ _ H _ I h => Calls.Constant_str ⟨.str x, H, I.tok _, ⟨_, rfl⟩, h⟩

noncomputable def Gl (X : Cx) (x : Str) : Prop := X.env.kindOf x = some .globalImplicit
theorem ld_glob {E : Value → Shared → Prop} {pins : List (Addr × Obj)} {s : Shared} {σ : St} {H : Hp} {x : Str} {u : Value} {pos : Pos} {Q : Value → Shared → Prop} (I : Inv X pins σ H s) (hg : Gl X x) (hm : X.mg x = some u) (h : Q u s)
    (hd : autoParam ((x == ("__debug__" : Str)) = false) L2.auto2._auto_1) : wpAny (model X.prog X.w) X.A (eval (.Name x pos) X.env) Q E s :=
  Calls.Name_function_global I.ok.kind hg (Calls.loadGlobal_global (by rw [I.ok.glob]; exact I.mod.glob.keeps I.bk) hm h) hd
theorem ld_blt {E : Value → Shared → Prop} {pins : List (Addr × Obj)} {s : Shared} {σ : St} {H : Hp} {x : Str} {u : Value} {pos : Pos} {Q : Value → Shared → Prop} (I : Inv X pins σ H s) (hg : Gl X x) (hm : X.mg x = none) (hv : bootBuiltins x = some u) (h : Q u s)
    (hn : autoParam (x ≠ "__name__") L2.auto2._auto_1) (hd : autoParam ((x == ("__debug__" : Str)) = false) L2.auto2._auto_1) : wpAny (model X.prog X.w) X.A (eval (.Name x pos) X.env) Q E s := by
  obtain ⟨mb, h1, h2⟩ := I.mod.blt
  exact Calls.Name_function_global I.ok.kind hg (Calls.loadGlobal_builtin (by rw [I.ok.glob]; exact I.mod.glob.keeps I.bk) hm (by rw [I.ok.blt]; exact h1.keeps I.bk) ((h2 x hn).trans hv) h) hd
theorem pe_glob {x : Str} {v : V} {u : Value} {pos : Pos} (hg : Gl X x) (hm : X.mg x = some u) (r : RelV v u) (hd : autoParam ((x == ("__debug__" : Str)) = false) L2.auto2._auto_1) : PE X (.Name x pos) (tC v) :=
  fun _ _ _ H _ I h => ld_glob I hg hm ⟨v, H, I, r, h⟩ hd
theorem pe_bltn {x : Str} {v : V} {u : Value} {pos : Pos} (hg : Gl X x) (hm : X.mg x = none) (hv : bootBuiltins x = some u) (r : RelV v u) (hn : autoParam (x ≠ "__name__") L2.auto2._auto_1) (hd : autoParam ((x == ("__debug__" : Str)) = false) L2.auto2._auto_1) : PE X (.Name x pos) (tC v) :=
  fun _ _ _ H _ I h => ld_blt I hg hm hv ⟨v, H, I, r, h⟩ hn hd

variable {a b : Expr} {ta tb : TE} {pos : Pos}
noncomputable def tB (t : TE) : TT := fun σ H Q => t σ H fun x H1 => ∃ c, x = .bl c ∧ Q c H1
theorem pt_val {e : Expr} {t : TE} (h : PE X e t) (he : autoParam (∀ whole, isTrue e X.env whole = (do let v ← whole; standAt e.pos; holding [v] (truthy v))) L2.auto3._auto_1) : PT X e (tB t) := by
  intro pins s σ H Q I hw
  refine isTrue_plain (thn (h pins s σ H _ I hw) fun v s1 qq0 => ?_) (he _)
  obtain ⟨x, H1, I1, r1, q1⟩ := qq0
  obtain ⟨d, rfl, q⟩ := q1
  cases r1
  exact wpAny_truthy_bool ⟨H1, I1, q⟩

variable {tA tB' : TT} {rest : List Expr}
noncomputable def tOr (t u : TT) : TT := fun σ H Q => t σ H fun c H1 => if c = true then Q true H1 else u σ H1 Q
noncomputable def tNot (t : TT) : TT := fun σ H Q => t σ H fun c H1 => Q (!c) H1
theorem pw_or1 (ha : PT X a tA) : PW X (.BoolOp .Or [a] pos) tA := by
  intro wh pins s σ H Q I h
  refine isTrue_or (thn (ha pins s σ H Q I h) fun c s1 e => ?_)
  cases c with
  | false => exact isTrue_or_nil e
  | true => exact e
theorem pw_or (ha : PT X a tA) (hb : PW X (.BoolOp .Or (b :: rest) pos) tB') : PW X (.BoolOp .Or (a :: b :: rest) pos) (tOr tA tB') := by
  intro wh pins s σ H Q I h
  refine isTrue_or (thn (ha pins s σ H _ I h) fun c s1 qq0 => ?_)
  obtain ⟨H1, I1, q1⟩ := qq0
  cases c with
  | true => exact ⟨H1, I1, q1⟩
  | false => exact hb wh pins s1 σ H1 Q I1 q1
theorem pt_not (ha : PT X a tA) : PT X (.UnaryOp .Not a pos) (tNot tA) := by
  intro pins s σ H Q I h
  exact isTrue_not (ha pins s σ H (fun c H1 => Q (!c) H1) I h)
noncomputable def tAndV (ta tb : TE) : TE := fun σ H Q => ta σ H fun x H1 => ∃ c, x = .bl c ∧ if c = true then tb σ H1 Q else Q (.bl false) H1
theorem pe_one {op} {t : TE} (h : PE X a t) : PE X (.BoolOp op [a] pos) t := fun pins s σ H Q I hw => BoolOp_one (h pins s σ H Q I hw)
theorem pe_and (ha : PE X a ta) (hb : PE X (.BoolOp .And (b :: rest) pos) tb) : PE X (.BoolOp .And (a :: b :: rest) pos) (tAndV ta tb) := by
  intro pins s σ H Q I h
  refine BoolOp_and (thn (ha pins s σ H _ I h) fun v s1 qq0 => ?_)
  obtain ⟨x, H1, I1, r1, q1⟩ := qq0
  obtain ⟨c, rfl, q1⟩ := q1
  cases r1
  refine wpAny_truthy_bool ?_
  cases c with
  | true => exact hb pins s1 σ H1 Q I1 q1
  | false => exact ⟨.bl false, H1, I1, rfl, q1⟩
end
end L2

namespace L2
open PySem PySem.Spec PyProof.Rows

noncomputable def SqL (K : PySem.W.Frag) (H : Hp) (a : Addr) (xs : List V) : Prop :=
  Rd H a (.lst xs) ∨
    ∃ (o : Obj) (its : Array Value) (n : Nat), K.lookup a = some o ∧ o.cls = .type "list" ∧ o.dict = none ∧ o.data = .seq its n ∧ its.size ≤ sizeLine ∧ Vals xs its.toList
noncomputable def SqT (K : PySem.W.Frag) (H : Hp) (a : Addr) (xs : List V) : Prop :=
  Rd H a (.tup xs) ∨
    ∃ (o : Obj) (its : Array Value) (n : Nat), K.lookup a = some o ∧ o.cls = .type "tuple" ∧ o.data = .seq its n ∧ its.size ≤ sizeLine ∧ Vals xs its.toList
noncomputable def absV : Value → Option V
  | .none => some .non
  | .bool b => some (.bl b)
  | .int i _ => some (.int i)
  | .str x _ => some (.str x)
  | .bytes b _ => some (.byt b)
  | .float b _ => some (.flt b)
  | .ref a => some (.ref a)
  | .type n => some (.ty n)
  | _ => none
theorem RelV.abs {x : V} {u : Value} (r : RelV x u) : absV u = some x := by
  cases x with
  | non => cases r; rfl
  | bl _ => cases r; rfl
  | int _ => obtain ⟨t, rfl⟩ := r; rfl
  | str _ => obtain ⟨t, rfl⟩ := r; rfl
  | byt _ => obtain ⟨t, rfl⟩ := r; rfl
  | flt _ => obtain ⟨t, rfl⟩ := r; rfl
  | ref _ => cases r; rfl
  | ty _ => cases r; rfl
theorem RelV.inj {x y : V} {u : Value} (r : RelV x u) (q : RelV y u) : x = y := Option.some.inj (r.abs.symm.trans q.abs)
theorem Vals.inj : ∀ {xs ys : List V} {us : List Value}, Vals xs us → Vals ys us → xs = ys
  | _, _, _, .nil, .nil => rfl
  | _, _, _, .cons r t, .cons r' t' => by rw [r.inj r', Vals.inj t t']
section
variable {X : Cx} {pins : List (Addr × Obj)} {σ : St} {H : Hp} {s : Shared} {a : Addr} {xs ys : List V}
theorem SqL.of {K : PySem.W.Frag} (h : H a = some (.lst xs)) : SqL K H a xs := .inl (.inl h)
theorem SqT.of {K : PySem.W.Frag} (h : H a = some (.tup xs)) : SqT K H a xs := .inl (.inl h)
theorem Inv.list (I : Inv X pins σ H s) (h : SqL X.K H a xs) : ∃ its : List Value, Vals xs its ∧ PlainL s.heap a its.toArray ∧ xs.length ≤ sizeLine := by
  rcases h with h | ⟨o, its, n, hk, hc, hd, hs, hz, r⟩
  · obtain ⟨z, its, n, r, e⟩ := h.ok I.hok
    exact ⟨its, r, ⟨_, n, e, rfl, rfl, rfl⟩, z⟩
  · refine ⟨its.toList, r, ⟨o, n, I.kIn a o hk, hc, hd, by simpa using hs⟩, ?_⟩
    have e := r.length
    simp only [Array.length_toList] at e
    omega
theorem Inv.tuple (I : Inv X pins σ H s) (h : SqT X.K H a xs) : ∃ its : List Value, Vals xs its ∧ IsTup s.heap a its.toArray ∧ xs.length ≤ sizeLine := by
  rcases h with h | ⟨o, its, n, hk, hc, hs, hz, r⟩
  · obtain ⟨z, its, r, p⟩ := h.ok I.hok
    exact ⟨its, r, p, z⟩
  · refine ⟨its.toList, r, ⟨o, I.kIn a o hk, hc, n, by simpa using hs⟩, ?_⟩
    have e := r.length
    simp only [Array.length_toList] at e
    omega
theorem Inv.list_inj (I : Inv X pins σ H s) (h : SqL X.K H a xs) (h' : SqL X.K H a ys) : xs = ys := by
  obtain ⟨its, r, ⟨o, n, e, _, _, d⟩, _⟩ := I.list h
  obtain ⟨its', r', ⟨o', n', e', _, _, d'⟩, _⟩ := I.list h'
  rw [e] at e'; cases e'
  rw [d] at d'
  injection d' with d1 _
  have : its = its' := by simpa using congrArg Array.toList d1
  subst this
  exact r.inj r'
theorem Inv.tuple_inj (I : Inv X pins σ H s) (h : SqT X.K H a xs) (h' : SqT X.K H a ys) : xs = ys := by
  obtain ⟨its, r, ⟨o, e, _, n, d⟩, _⟩ := I.tuple h
  obtain ⟨its', r', ⟨o', e', _, n', d'⟩, _⟩ := I.tuple h'
  rw [e] at e'; cases e'
  rw [d] at d'
  injection d' with d1 _
  have : its = its' := by simpa using congrArg Array.toList d1
  subst this
  exact r.inj r'
end

noncomputable abbrev Cx.wish (X : Cx) (E : Value → Shared → Prop) : Cx := { X with xe := E }
noncomputable abbrev Cx.nox (X : Cx) : Cx := X.wish fun _ _ => False
theorem Cx.Ok.wish {X : Cx} (ok : X.Ok) (E : Value → Shared → Prop) : (X.wish E).Ok :=
  ⟨ok.mod, ok.kind, ok.glob, ok.blt, ok.above, ok.inj, ok.has, ok.cab, ok.hd, ok.frames, ok.stk, ok.exf, ok.bs, ok.bsz, ok.noex, ok.exfs, ok.funs, ok.frf⟩
theorem Cx.Ok.unwish {X : Cx} {E : Value → Shared → Prop} (ok : (X.wish E).Ok) : X.Ok :=
  ⟨ok.mod, ok.kind, ok.glob, ok.blt, ok.above, ok.inj, ok.has, ok.cab, ok.hd, ok.frames, ok.stk, ok.exf, ok.bs, ok.bsz, ok.noex, ok.exfs, ok.funs, ok.frf⟩
section
variable {X : Cx} {pins : List (Addr × Obj)} {σ : St} {H : Hp} {s : Shared} {E : Value → Shared → Prop}
theorem Inv.wish (I : Inv X pins σ H s) (E : Value → Shared → Prop) : Inv (X.wish E) pins σ H s := ⟨I.ok.wish E, I.os, I.bare, I.base, I.loc, I.cell, I.free, I.freeC, I.pin, I.hok, I.len⟩
theorem Inv.unwish (I : Inv (X.wish E) pins σ H s) : Inv X pins σ H s := ⟨I.ok.unwish, I.os, I.bare, I.base, I.loc, I.cell, I.free, I.freeC, I.pin, I.hok, I.len⟩
theorem SP.unwish {D : Ends} {f : Flow} {s' : Shared} (h : SP (X.wish E) pins D f s') : SP X pins D f s' := by
  cases f with
  | next => obtain ⟨σ', H', I, q⟩ := h; exact ⟨σ', H', I.unwish, q⟩
  | brk => obtain ⟨σ', H', I, q⟩ := h; exact ⟨σ', H', I.unwish, q⟩
  | cont => obtain ⟨σ', H', I, q⟩ := h; exact ⟨σ', H', I.unwish, q⟩
  | ret u => obtain ⟨v, σ', H', I, r, q⟩ := h; exact ⟨v, σ', H', I.unwish, r, q⟩
theorem PSs.nox {st : List Stmt} {t : TS} (h : PSs X.nox st t) : PSs X st t := fun pins s σ H D I hw =>
  wpAny_mono (h pins s σ H D (I.wish _) hw) (fun _ _ q => q.unwish) fun _ _ z => False.elim z
end

section
variable {X : Cx} {st : Stmt} {rest : List Stmt} {t u : TS} {e : Expr} {te : TE} {pos : Pos}
noncomputable def tNext : TS := fun D σ H => D.nx σ H
noncomputable def tSeq (t u : TS) : TS := fun D σ H => t { D with nx := u D } σ H
theorem pss_nil : PSs X [] tNext := fun _ _ σ H _ I h => wpAny_execs_nil ⟨σ, H, I, h⟩
theorem pss_cons (h1 : PS X st t) (h2 : PSs X rest u) : PSs X (st :: rest) (tSeq t u) := by
  intro pins s σ H D I h
  refine wpAny_execs_cons (thn (h1 pins s σ H { D with nx := u D } I h) fun f s1 q => ?_)
  cases f with
  | next =>
    obtain ⟨σ', H', I', q⟩ := q
    exact h2 pins s1 σ' H' D I' q
  | ret v => exact q
  | brk => exact q
  | cont => exact q
theorem pss_one (h1 : PS X st t) : PSs X [st] t := by
  intro pins s σ H D I h
  refine wpAny_execs_cons (thn (h1 pins s σ H D I h) fun f s1 q => ?_)
  cases f with
  | next => exact wpAny_execs_nil q
  | ret v => exact q
  | brk => exact q
  | cont => exact q
noncomputable def tRet (te : TE) : TS := fun D σ H => te σ H D.rt
theorem ps_ret (he : PE X e te) : PS X (.Return (some e) pos) (tRet te) := by
  intro pins s σ H D I h
  exact wpAny_Return_some (thn (he pins s σ H _ I h) fun v s1 ⟨x, H1, I1, r1, q1⟩ => ⟨x, σ, H1, I1, r1, q1⟩)
noncomputable def tIfS (c : TT) (t u : TS) : TS := fun D σ H => c σ H fun b H1 => if b = true then t D σ H1 else u D σ H1
theorem ps_if {c : Expr} {a b : List Stmt} {tc : TT} (hc : PT X c tc) (ha : PSs X a t) (hb : PSs X b u) : PS X (.If c a b pos) (tIfS tc t u) := by
  intro pins s σ H D I h
  refine wpAny_If (thn (hc pins s σ H _ I h) fun d s1 qq0 => ?_)
  obtain ⟨H1, I1, q1⟩ := qq0
  cases d with
  | true => exact ha pins s1 σ H1 D I1 q1
  | false => exact hb pins s1 σ H1 D I1 q1
end

noncomputable abbrev TG := V → St → Hp → (St → Hp → Prop) → Prop
noncomputable abbrev TGs := List V → St → Hp → (St → Hp → Prop) → Prop
noncomputable def PG (X : Cx) (target : Expr) (t : TG) : Prop :=
  ∀ (pins : List (Addr × Obj)) (s : Shared) (σ : St) (H : Hp) (v : V) (u : Value) (Q : St → Hp → Prop), Inv X pins σ H s → RelV v u → t v σ H Q →
    wpAny (model X.prog X.w) X.A (assign target X.env u) (fun _ s' => ∃ σ' H', Inv X pins σ' H' s' ∧ Q σ' H') X.xe s
noncomputable def PGs (X : Cx) (ts : List Expr) (t : TGs) : Prop :=
  ∀ (pins : List (Addr × Obj)) (s : Shared) (σ : St) (H : Hp) (vs : List V) (us : List Value) (Q : St → Hp → Prop), Inv X pins σ H s → Vals vs us → t vs σ H Q →
    wpAny (model X.prog X.w) X.A (assignInOrder ((assignEach ts X.env).map (·.2)) us) (fun _ s' => ∃ σ' H', Inv X pins σ' H' s' ∧ Q σ' H') X.xe s
noncomputable abbrev TSet := V → V → V → Hp → (Hp → Prop) → Prop
noncomputable def PSet (X : Cx) (t : TSet) : Prop :=
  ∀ (pins : List (Addr × Obj)) (s : Shared) (σ : St) (H : Hp) (o i v : V) (ov iv u : Value) (Q : Hp → Prop), Inv X pins σ H s → RelV o ov → RelV i iv → RelV v u → t o i v H Q →
    wpAny (model X.prog X.w) X.A (setItem ov iv u) (fun _ s' => ∃ H', Inv X pins σ H' s' ∧ Q H') X.xe s
section
variable {X : Cx} {pos : Pos}
noncomputable def gName (i : Nat) : TG := fun v σ H Q => Q (σ.set i (some v)) H
theorem pg_name {i : Nat} {x : Str} (hN : X.N.Nodup) (hi : X.N[i]? = some x) (hx : Loc X.env.scope x) (hf : autoParam (X.fn x = true ∨ X.env.scope.names.lookup x = some .local) L2.auto1._auto_1) : PG X (.Name x pos) (gName i) := by
  intro pins s σ H v u Q I r h
  exact wpAny_assign_Name (store_ok I hN hi hx r (fun s' I' => ⟨_, H, I', h⟩) hf)
noncomputable def gNil : TGs := fun vs σ H Q => vs = [] ∧ Q σ H
noncomputable def gCons (t : TG) (u : TGs) : TGs := fun vs σ H Q => ∃ v r, vs = v :: r ∧ t v σ H fun σ' H' => u r σ' H' Q
theorem pgs_nil : PGs X [] gNil := by
  intro pins s σ H vs us Q I r h
  obtain ⟨e, h⟩ := h
  subst e
  cases r
  exact assignInOrder_nil ⟨σ, H, I, h⟩
theorem pgs_cons {e : Expr} {es : List Expr} {t : TG} {u : TGs} (h1 : PG X e t) (h2 : PGs X es u)
    (hs : autoParam ((assignEach (e :: es) X.env).map (·.2) = assign e X.env :: (assignEach es X.env).map (·.2)) L2.auto4._auto_1) : PGs X (e :: es) (gCons t u) := by
  intro pins s σ H vs us Q I r h
  obtain ⟨v, vr, e1, h⟩ := h
  subst e1
  cases r with
  | cons r rr =>
    rw [hs]
    refine assignInOrder_cons (thn (h1 pins s σ H _ _ _ I r h) fun _ s1 qq0 => ?_)
    obtain ⟨σ1, H1, I1, q1⟩ := qq0
    exact h2 pins s1 σ1 H1 _ _ Q I1 rr q1
noncomputable def gTup (K : PySem.W.Frag) (n : Nat) (t : TGs) : TG := fun v σ H Q => ∃ a xs, v = .ref a ∧ SqT K H a xs ∧ xs.length = n ∧ t xs σ H Q
theorem pg_tup {es : List Expr} {k : Nat} {t : TGs} {n : Nat} (hc : X.calm = true) (h : PGs X es t)
    (hn : autoParam ((assignEach es X.env).length = n) L2.auto4._auto_1) (hst : autoParam ((assignEach es X.env).findIdx? (·.1) = none) L2.auto4._auto_1) : PG X (.Tuple es k pos) (gTup X.K n t) := by
  intro pins s σ H v u Q I r hw
  obtain ⟨a, xs, e1, hq, hl, hw⟩ := hw
  subst e1
  cases r
  obtain ⟨its, rv, ht, hz⟩ := I.tuple hq
  refine assign_Tuple_tuple (I.ok.hd hc) ht (by simp [hn, ← hl, rv.length]) hst fun h' hx => ?_
  have I1 : Inv X pins σ H { s with heap := h' } := I.kept (t' := s.toks) fun b o e => hx b o (Nat.ne_of_lt (Heap.lt_size e)) e
  exact h pins _ σ H xs _ Q I1 (by simpa using rv) hw
noncomputable def gSub (to ti : TE) (t : TSet) : TG := fun v σ H Q => to σ H fun o H1 => ti σ H1 fun i H2 => t o i v H2 fun H3 => Q σ H3
theorem pg_sub {o i : Expr} {to ti : TE} {t : TSet} (ho : PE X o to) (hi : PE X i ti) (hs : PSet X t)
    (ha : ∀ v, assign (.Subscript o i pos) X.env v = (do
      let ov ← holding [v] (eval o X.env)
      let iv ← holding [v, ov] (eval i X.env)
      standAt pos
      holding [v, ov, iv] (setItem ov iv v)
      release [v, ov, iv] []) := by intro _; rfl) : PG X (.Subscript o i pos) (gSub to ti t) := by
  intro pins s σ H v u Q I r h
  rw [ha]
  refine wpAny_bind (wpAny_holding (thn (ho pins s σ H _ I h) fun ov s1 qq0 => ?_))
  obtain ⟨x, H1, I1, r1, q1⟩ := qq0
  refine wpAny_bind (wpAny_holding (thn (hi pins s1 σ H1 _ I1 q1) fun iv s2 qq0 => ?_))
  obtain ⟨y, H2, I2, r2, q2⟩ := qq0
  refine wpAny_bind (wpAny_standAt (wpAny_bind (wpAny_holding (thn (hs pins s2 σ H2 x y v ov iv u _ I2 r1 r2 r q2) fun _ s3 qq0 => ?_))))
  obtain ⟨H3, I3, q3⟩ := qq0
  exact wpAny_release ⟨σ, H3, I3, q3⟩
noncomputable def tAsg (te : TE) (g : TG) : TS := fun D σ H => te σ H fun x H1 => g x σ H1 D.nx
theorem ps_asg {tg e : Expr} {te : TE} {g : TG} (he : PE X e te) (hg : PG X tg g) (hs : autoParam (swapsWithSole [tg] e pos.line X.env = pure false) L2.auto4._auto_1) (hw : autoParam (swappedStores [tg] e X.env = pure none) L2.auto4._auto_1)
    (h1 : autoParam ((assignEach [tg] X.env).map (·.2) = [assign tg X.env]) L2.auto4._auto_1) : PS X (.Assign [tg] e pos) (tAsg te g) := by
  intro pins s σ H D I h
  refine wpAny_Assign_stores (thn (he pins s σ H _ I h) fun v s1 qq0 => ?_) hs hw
  obtain ⟨x, H1, I1, r1, q1⟩ := qq0
  rw [h1]
  exact thn (hg pins s1 σ H1 x v _ I1 r1 q1) fun _ s2 q => q
theorem ps_set {i : Nat} {x : Str} {e : Expr} {te : TE} {pos' : Pos} (hN : X.N.Nodup) (hi : X.N[i]? = some x) (hx : Loc X.env.scope x) (he : PE X e te) (hs : autoParam (swapsWith e (some (.Name x pos')) pos.line X.env = pure false) L2.auto4._auto_1) (hf : autoParam (X.fn x = true ∨ X.env.scope.names.lookup x = some .local) L2.auto1._auto_1) :
    PS X (.Assign [.Name x pos'] e pos) (tAsg te (gName i)) := by
  intro pins s σ H D I h
  refine wpAny_Assign_Name (thn (he pins s σ H _ I h) fun v s1 qq0 => ?_) hs
  obtain ⟨y, H1, I1, r1, q1⟩ := qq0
  exact store_ok I1 hN hi hx r1 (fun s2 I2 => ⟨_, H1, I2, q1⟩) hf
end

section
variable {X : Cx} {pos : Pos}
end

structure It where
  go : Nat → Hp → Prop
  yld : Nat → Hp → V → Hp → Prop
  stop : Nat → Hp → Prop
noncomputable def FpOk (X : Cx) (pins : List (Addr × Obj)) (H : Hp) (b : Addr) : Prop :=
  H b = none ∧ b ≠ X.env.locals ∧ b ∉ X.fs ∧ (b ∈ X.ex ∨ X.s₀.heap.objs.size ≤ b) ∧ (∀ x c, X.env.cells.lookup x = some c → c ≠ b) ∧ ∀ p ∈ X.pn ++ pins, p.1 ≠ b
theorem Inv.fpOk {X : Cx} {pins : List (Addr × Obj)} {σ : St} {H H' : Hp} {s : Shared} {b : Addr} (I : Inv X pins σ H s) (hb : s.heap.objs.size ≤ b) (hn : H' b = none) : FpOk X pins H' b := by
  refine ⟨hn, Nat.ne_of_gt (Nat.lt_of_lt_of_le I.lt hb), I.nofs hb, .inr (Nat.le_trans I.sz hb), fun x c e z => ?_, fun p hp z => ?_⟩
  · obtain ⟨v, q⟩ := I.cell x c e
    exact absurd (Nat.lt_of_lt_of_le q.lt (by rw [z]; exact hb)) (Nat.lt_irrefl _)
  · exact absurd (Nat.lt_of_lt_of_le (Heap.lt_size (I.pin p hp).1) (by rw [z]; exact hb)) (Nat.lt_irrefl _)
structure Turn (P : Program) (w : World) (K : PySem.W.Frag) (tg : Expr) (J : It) (fp : List Addr) (it : Addr) (tn : Nat → Heap → Prop) : Prop where
  mem : it ∈ fp
  obj : ∀ i h, tn i h → ∀ b ∈ fp, ∃ o, h.get? b = some o ∧ ∀ v, o.data ≠ .cell v
  keep : ∀ i h h', tn i h → (∀ b ∈ fp, ∀ o, h.get? b = some o → h'.get? b = some o) → tn i h'
  item : ∀ (X : Cx), X.prog = P → X.w = w → X.K = K → X.calm = true → ∀ (i : Nat) (pins : List (Addr × Obj)) (s : Shared) (σ : St) (H : Hp) (E : Value → Shared → Prop), Inv X pins σ H s → (∀ b ∈ fp, FpOk X pins H b) → tn i s.heap → J.go i H →
    wpAny (model P w) X.A (pyNext (.ref it)) (fun r s1 => ∃ u, r = some u ∧
      wpAny (model P w) X.A (letOwnedTupleGo tg (.ref it) u) (fun _ s2 => ∃ x H', Inv X pins σ H' s2 ∧ RelV x u ∧ J.yld i H x H' ∧ tn (i + 1) s2.heap ∧ ∀ b ∈ fp, H' b = none) E s1) E s
  done : ∀ (X : Cx), X.prog = P → X.w = w → X.K = K → X.calm = true → ∀ (i : Nat) (pins : List (Addr × Obj)) (s : Shared) (σ : St) (H : Hp) (E : Value → Shared → Prop), Inv X pins σ H s → (∀ b ∈ fp, FpOk X pins H b) → tn i s.heap → J.stop i H →
    wpAny (model P w) X.A (pyNext (.ref it)) (fun r s1 => r = none ∧ Inv X pins σ H s1) E s
  self : ∀ (A : Around) (i : Nat) (s : Shared) (Q : Value → Shared → Prop) (E : Value → Shared → Prop), tn i s.heap → Q (.ref it) s → wpAny (model P w) A (pyIter (.ref it)) Q E s
noncomputable abbrev TI := St → Hp → (It → Hp → Prop) → Prop
noncomputable def PIE (X : Cx) (pins : List (Addr × Obj)) (σ : St) (tg : Expr) (R : It → Hp → Prop) (itv : Value) (s2 : Shared) : Prop :=
  ∃ (it : Addr) (fp : List Addr) (tn : Nat → Heap → Prop) (J : It) (H' : Hp), itv = .ref it ∧ Inv X pins σ H' s2 ∧ Turn X.prog X.w X.K tg J fp it tn ∧ tn 0 s2.heap ∧ (∀ b ∈ fp, FpOk X pins H' b) ∧ R J H'
noncomputable def PI (X : Cx) (tg iter : Expr) (wi : TI) : Prop :=
  ∀ (pins : List (Addr × Obj)) (s : Shared) (σ : St) (H : Hp) (R : It → Hp → Prop), Inv X pins σ H s → wi σ H R →
    wpAny (model X.prog X.w) X.A (eval iter X.env) (fun v s1 => wpAny (model X.prog X.w) X.A (pyIter v) (PIE X pins σ tg R) X.xe s1) X.xe s

theorem go_of {M : Model} {A : Around} {E : Value → Shared → Prop} {s : Shared} {tg : Expr} {it : Addr} {u : Value} {o : Obj} {n : String} {vs : Array Value} {Q : Unit → Shared → Prop} (ho : s.heap.get? it = some o) (hc : o.cls = .type n) (hd : o.data = .fields vs)
    (hn : ["enumerate", "zip", "dict_itemiterator", "dict_reverseitemiterator", "odict_iterator", "itertools.zip_longest", "itertools.pairwise"].contains n = false) (hQ : Q () s) : wpAny M A (letOwnedTupleGo tg (.ref it) u) Q E s := by
  unfold letOwnedTupleGo
  cases tg <;> first
    | exact wpAny_pure hQ
    | (cases u <;> first
        | exact wpAny_pure hQ
        | (refine wpAny_bind (wpAny_load ho ?_)
           rw [hc, hd]
           show wpAny M A (if (["enumerate", "zip", "dict_itemiterator", "dict_reverseitemiterator", "odict_iterator", "itertools.zip_longest", "itertools.pairwise"].contains n && vs[0]? == some (rawInt _)) = true then _ else _) Q E s
           rw [if_neg (by intro h; rw [hn, Bool.false_and] at h; cases h)]
           exact wpAny_pure hQ))

noncomputable def Itl (K : PySem.W.Frag) (a : Addr) : It :=
  ⟨fun i H => ∃ xs x, SqL K H a xs ∧ xs[i]? = some x, fun i H x H' => H' = H ∧ ∀ xs, SqL K H a xs → xs[i]? = some x, fun i H => ∃ xs, SqL K H a xs ∧ xs.length ≤ i⟩
noncomputable def Itt (K : PySem.W.Frag) (a : Addr) : It :=
  ⟨fun i H => ∃ xs x, SqT K H a xs ∧ xs[i]? = some x, fun i H x H' => H' = H ∧ ∀ xs, SqT K H a xs → xs[i]? = some x, fun i H => ∃ xs, SqT K H a xs ∧ xs.length ≤ i⟩
noncomputable def Itr (lo : Int) (n : Nat) : It := ⟨fun i _ => i < n, fun i H x H' => H' = H ∧ x = .int (lo + i), fun i _ => n ≤ i⟩
theorem turn_list {P : Program} {w : World} {K : PySem.W.Frag} {tg : Expr} (a it : Addr) : Turn P w K tg (Itl K a) [it] it (fun i h => h.IsListIter it a i) where
  mem := by simp
  obj := fun i h st b hb => by
    have e : b = it := by simpa using hb
    subst e
    obtain ⟨o, e, c, d⟩ := st
    exact ⟨o, e, fun v z => by rw [d] at z; cases z⟩
  keep := fun i h h' st k => st.at fun o e => k it (by simp) o e
  item := by
    intro X hP hw hK hc i pins s σ H E I hf st hg
    subst hP hw hK
    obtain ⟨xs, x, hq, hx⟩ := hg
    obtain ⟨its, rv, p, hz⟩ := I.list hq
    obtain ⟨u, hu, ru⟩ := rv.get hx
    obtain ⟨f0, f1, f2, f3, f4, f5⟩ := hf it (by simp)
    refine wpAny_pyNext_list_item st p.isList (x := u) (by simpa using hu) fun h' st' sb => ?_
    have I1 : Inv X pins σ H { s with heap := h' } := I.turned (t' := s.toks) (fun b o hb e => (sb.2 b hb).trans e) f0 f1 f3 f4 f5
    obtain ⟨o, e, c, d⟩ := id st'
    exact ⟨u, rfl, go_of (s := { s with heap := h' }) e c d (by decide) ⟨x, H, I1, ru, ⟨rfl, fun ys hy => by rw [I.list_inj hy hq]; exact hx⟩, st', fun b hb => (hf b hb).1⟩⟩
  done := by
    intro X hP hw hK hc i pins s σ H E I hf st hg
    subst hP hw hK
    obtain ⟨xs, hq, hx⟩ := hg
    obtain ⟨its, rv, p, hz⟩ := I.list hq
    obtain ⟨f0, f1, f2, f3, f4, f5⟩ := hf it (by simp)
    have hl := rv.length
    exact wpAny_pyNext_list_end (I.ok.hd hc) st p.isList (by simp; omega) fun h' eb => ⟨rfl, I.turned (t' := s.toks) (fun b o hb e => eb b o hb e) f0 f1 f3 f4 f5⟩
  self := fun _ _ _ _ _ st h => wpAny_pyIter_listiter st h
theorem turn_tuple {P : Program} {w : World} {K : PySem.W.Frag} {tg : Expr} (a it : Addr) : Turn P w K tg (Itt K a) [it] it (fun i h => h.IsTupleIter it a i) where
  mem := by simp
  obj := fun i h st b hb => by
    have e : b = it := by simpa using hb
    subst e
    obtain ⟨o, e, c, d⟩ := st
    exact ⟨o, e, fun v z => by rw [d] at z; cases z⟩
  keep := fun i h h' st k => st.at fun o e => k it (by simp) o e
  item := by
    intro X hP hw hK hc i pins s σ H E I hf st hg
    subst hP hw hK
    obtain ⟨xs, x, hq, hx⟩ := hg
    obtain ⟨its, rv, p, hz⟩ := I.tuple hq
    obtain ⟨u, hu, ru⟩ := rv.get hx
    obtain ⟨f0, f1, f2, f3, f4, f5⟩ := hf it (by simp)
    refine wpAny_pyNext_tuple_item st (show s.heap.IsTuple a its.toArray from p) (x := u) (by simpa using hu) fun h' st' sb => ?_
    have I1 : Inv X pins σ H { s with heap := h' } := I.turned (t' := s.toks) (fun b o hb e => (sb.2 b hb).trans e) f0 f1 f3 f4 f5
    obtain ⟨o, e, c, d⟩ := id st'
    exact ⟨u, rfl, go_of (s := { s with heap := h' }) e c d (by decide) ⟨x, H, I1, ru, ⟨rfl, fun ys hy => by rw [I.tuple_inj hy hq]; exact hx⟩, st', fun b hb => (hf b hb).1⟩⟩
  done := by
    intro X hP hw hK hc i pins s σ H E I hf st hg
    subst hP hw hK
    obtain ⟨xs, hq, hx⟩ := hg
    obtain ⟨its, rv, p, hz⟩ := I.tuple hq
    obtain ⟨f0, f1, f2, f3, f4, f5⟩ := hf it (by simp)
    have hl := rv.length
    exact wpAny_pyNext_tuple_end (I.ok.hd hc) st (show s.heap.IsTuple a its.toArray from p) (by simp; omega) fun h' eb => ⟨rfl, I.turned (t' := s.toks) (fun b o hb e => eb b o hb e) f0 f1 f3 f4 f5⟩
  self := fun _ _ _ _ _ st h => wpAny_pyIter_tupleiter st h
theorem turn_range {P : Program} {w : World} {K : PySem.W.Frag} {tg : Expr} (it : Addr) (lo : Int) (n : Nat) : Turn P w K tg (Itr lo n) [it] it (fun i h => IsRangeIter h it (lo + (i : Nat) * 1) ((n : Int) - (i : Nat)) 1) where
  mem := by simp
  obj := fun i h st b hb => by
    have e : b = it := by simpa using hb
    subst e
    exact ⟨_, st, fun v z => by
      have z' : Data.fields _ = Data.cell v := z
      cases z'⟩
  keep := fun i h h' st k => k it (by simp) _ st
  item := by
    intro X hP hw hK hc i pins s σ H E I hf st hg
    subst hP hw hK
    obtain ⟨f0, f1, f2, f3, f4, f5⟩ := hf it (by simp)
    have W := Walks.range (prog := X.prog) (w := X.w) (I.ok.hd hc) it lo 1 n
    refine W.item i s _ _ hg st fun v h' tk hv st' kk => ?_
    obtain ⟨t, rfl⟩ := hv
    have I1 : Inv X pins σ H { s with heap := h', toks := tk } := I.turned (fun b o hb e => kk b o (by simpa using hb) e) f0 f1 f3 f4 f5
    refine ⟨_, rfl, go_of (s := { s with heap := h', toks := tk }) (n := "range_iterator") st' rfl rfl (by decide) ⟨.int (lo + i), H, I1, ⟨t, ?_⟩, ⟨rfl, rfl⟩, st', fun b hb => (hf b hb).1⟩⟩
    rw [Int.mul_one]
  done := by
    intro X hP hw hK hc i pins s σ H E I hf st hg
    subst hP hw hK
    obtain ⟨f0, f1, f2, f3, f4, f5⟩ := hf it (by simp)
    exact wpAny_pyNext_range_end (I.ok.hd hc) st (by have : n ≤ i := hg; omega) fun h' eb => ⟨rfl, I.turned (t' := s.toks) (fun b o hb e => eb b o hb e) f0 f1 f3 f4 f5⟩
  self := fun _ _ _ _ _ st h => wpAny_pyIter_rangeiter st h
end L2

namespace L2
open PySem PySem.Spec PyProof.Rows
section
variable {X : Cx} {tg : Expr}
theorem range_it {pins : List (Addr × Obj)} {σ : St} {H : Hp} {s : Shared} {R : It → Hp → Prop} {E : Value → Shared → Prop} {lo hi : Int} {t u v : Tok} {tk : Nat} (I : Inv X pins σ H s) (h1 : -(2 ^ 62) ≤ lo) (h2 : lo < 2 ^ 62) (h3 : -(2 ^ 62) ≤ hi) (h4 : hi < 2 ^ 62)
    (q : R (Itr lo (hi - lo).toNat) H) : wpAny (model X.prog X.w) X.A (pyIter (.ref s.heap.objs.size)) (PIE X pins σ tg R) E { s with heap := s.heap.push { cls := .type "range", data := .fields #[.int lo t, .int hi u, .int 1 v] }, toks := tk } := by
  refine wpAny_pyIter_range (IsRange.new ..) (small_one h1 h2 h3 h4) ?_
  have I1 : Inv X pins σ H { s with heap := s.heap.push { cls := .type "range", data := .fields #[.int lo t, .int hi u, .int 1 v] }, toks := tk } := I.kept fun b o e => Heap.get?_push_of_some _ e
  refine ⟨(s.heap.push { cls := .type "range", data := .fields #[.int lo t, .int hi u, .int 1 v] }).objs.size, [(s.heap.push { cls := .type "range", data := .fields #[.int lo t, .int hi u, .int 1 v] }).objs.size], _, _, H, rfl,
    I1.kept (t' := tk) fun b o e => Heap.get?_push_of_some _ e, turn_range _ lo (hi - lo).toNat, ?_, fun b hb => ?_, q⟩
  · have e1 : lo + ((0 : Nat) : Int) * 1 = lo := by simp
    have e2 : (((hi - lo).toNat : Nat) : Int) - ((0 : Nat) : Int) = Builtin.Range.rangeSize lo hi 1 := by rw [rangeSize_one]; split <;> omega
    show IsRangeIter _ _ (lo + ((0 : Nat) : Int) * 1) ((((hi - lo).toNat : Nat) : Int) - ((0 : Nat) : Int)) 1
    rw [e1, e2]
    exact Heap.get?_push_size _ rfl
  · have e : b = (s.heap.push { cls := .type "range", data := .fields #[.int lo t, .int hi u, .int 1 v] }).objs.size := by simpa using hb
    subst e
    exact I1.fpOk (Nat.le_refl _) (I1.hok.fresh (Nat.le_refl _))
noncomputable def iRng1 (ta : TA) : TI := fun σ H R => ta σ H fun vs H1 => ∃ j : Int, vs = [.int j] ∧ -(2 ^ 62) ≤ j ∧ j < 2 ^ 62 ∧ R (Itr 0 j.toNat) H1
theorem pi_range1 {a : Expr} {ta : TA} {p pos : Pos} (hg : Gl X "range") (hm : X.mg "range" = none) (ha : PA X [a] ta) (hs : autoParam (starEach [a] X.env = [(false, eval a X.env)]) L2.auto4._auto_1) : PI X tg (.Call (.Name "range" p) [a] [] pos) (iRng1 ta) := by
  intro pins s σ H R I h
  refine Call_ (ld_blt I hg hm boot_range (PyProof.Rows.callWith_type1 (thn (ha pos pins s σ H _ I h) fun us s1 ⟨vs, H1, I1, r1, q1⟩ => ?_) hs rfl))
  obtain ⟨j, e, q1, q2, q⟩ := q1
  subst e
  cases r1 with
  | cons r rr =>
    cases rr
    obtain ⟨t, rfl⟩ := r
    exact call_range_1 (range_it I1 (by omega) (by omega) q1 q2 (by simpa using q))
noncomputable def tFor (wi : TI) (g : TG) (tb : TS) : TS := fun D σ H => wi σ H fun J H1 => ∃ W : Nat → Nat → St → Hp → Prop, (∃ m, W 0 m σ H1) ∧ ∀ i m σ H, W i m σ H →
  (J.stop i H ∧ D.nx σ H) ∨ (J.go i H ∧ ∃ N : St → Hp → Prop, (∀ σ' H', N σ' H' → ∃ m', m' < m ∧ W (i + 1) m' σ' H') ∧ ∀ x H', J.yld i H x H' → g x σ H' fun σ2 H2 => tb { D with nx := N, ct := N, bk := D.nx } σ2 H2)
noncomputable def pinsAt (fp : List Addr) (h : Heap) : List (Addr × Obj) := fp.filterMap fun b => (h.get? b).map fun o => (b, o)
theorem mem_pinsAt {fp : List Addr} {h : Heap} {b : Addr} {o : Obj} (hb : b ∈ fp) (e : h.get? b = some o) : (b, o) ∈ pinsAt fp h := List.mem_filterMap.mpr ⟨b, hb, by rw [e]; rfl⟩
theorem of_pinsAt {fp : List Addr} {h : Heap} {p : Addr × Obj} (hp : p ∈ pinsAt fp h) : p.1 ∈ fp ∧ h.get? p.1 = some p.2 := by
  obtain ⟨b, hb, e⟩ := List.mem_filterMap.mp hp
  cases q : h.get? b with
  | none => rw [q] at e; cases e
  | some o =>
    rw [q] at e
    have e' : (b, o) = p := Option.some.inj e
    subst e'
    exact ⟨hb, q⟩
theorem Inv.pinned {pins : List (Addr × Obj)} {σ : St} {H : Hp} {s : Shared} {fp : List Addr} (I : Inv X pins σ H s) (hf : ∀ b ∈ fp, FpOk X pins H b) (ho : ∀ b ∈ fp, ∃ o, s.heap.get? b = some o ∧ ∀ v, o.data ≠ .cell v) : Inv X (pins ++ pinsAt fp s.heap) σ H s :=
  I.pins_of fun p hp => (List.mem_append.mp hp).elim (fun z => I.pin p (List.mem_append_right _ z)) fun z => by
    obtain ⟨hb, e⟩ := of_pinsAt z
    obtain ⟨f0, f1, f2, _⟩ := hf p.1 hb
    obtain ⟨o, e', d⟩ := ho p.1 hb
    rw [e] at e'; cases e'
    exact ⟨e, f0, f1, f2, d⟩
theorem Inv.unpinned {pins pl : List (Addr × Obj)} {σ : St} {H : Hp} {s : Shared} (I : Inv X (pins ++ pl) σ H s) : Inv X pins σ H s := I.pins_of fun p hp => I.pin p (List.mem_append_right _ (List.mem_append_left _ hp))
theorem ps_for {iter : Expr} {body : List Stmt} {wi : TI} {g : TG} {tb : TS} {pos : Pos} (hp : PassesOwn (model X.prog X.w) X.A X.env X.xe) (hc : X.calm = true) (hi : PI X tg iter wi) (hg : PG X tg g) (hb : PSs X body tb)
    (hs : autoParam (∀ x, foldedSetIterable iter X.env x = pure x) L2.auto3._auto_1) : PS X (.For tg iter body [] pos) (tFor wi g tb) := by
  intro pins s σ H D I h
  refine wpAny_For (thn (hi pins s σ H _ I h) fun v s1 h1 => thn h1 fun itv s2 h2 => ?_) hs
  obtain ⟨it, fp, tn, J, H2, e, I2, T, st2, f2, W, ⟨m0, w0⟩, turn⟩ := h2
  subst e
  -- what stays true of the iterator's objects through the loop
  have stat : ∀ {H' : Hp}, (∀ b ∈ fp, H' b = none) → ∀ b ∈ fp, FpOk X pins H' b := fun hn b hb => ⟨hn b hb, (f2 b hb).2⟩
  refine codeAny_forLoop_any (fun n s' => ∃ i σ' H', Inv X pins σ' H' s' ∧ tn i s'.heap ∧ (∀ b ∈ fp, H' b = none) ∧ W i n σ' H') ?_ m0 ⟨0, σ, H2, I2, st2, fun b hb => (f2 b hb).1, w0⟩
  rintro n s3 ⟨i, σ3, H3, I3, st3, fr3, w3⟩
  rcases turn i n σ3 H3 w3 with ⟨stop, qn⟩ | ⟨go, N, hN, step⟩
  · refine wpAny_passesOwn hp (thn (T.done X rfl rfl rfl hc i pins s3 σ3 H3 X.xe I3 (stat fr3) st3 stop) fun r s4 qq0 => ?_)
    obtain ⟨hr, I4⟩ := qq0
    subst hr
    exact wpAny_execs_nil ⟨σ3, H3, I4, qn⟩
  · refine wpAny_passesOwn hp (thn (T.item X rfl rfl rfl hc i pins s3 σ3 H3 X.xe I3 (stat fr3) st3 go) fun r s4 qq0 => ?_)
    obtain ⟨u, hr, h4⟩ := qq0
    subst hr
    refine wpAny_passesOwn hp (thn h4 fun _ s5 qq0 => ?_)
    obtain ⟨x, H5, I5, r5, y5, st5, fr5⟩ := qq0
    have I5' := I5.pinned (stat fr5) (T.obj _ _ st5)
    refine wpAny_passesOwn hp (thn (hg _ s5 σ3 H5 x u _ I5' r5 (step x H5 y5)) fun _ s6 qq0 => ?_)
    obtain ⟨σ6, H6, I6, q6⟩ := qq0
    refine wpAny_passesOwn hp (thn (hb _ s6 σ6 H6 _ I6 q6) fun f s7 q7 => ?_)
    have again : ∀ {σ7 : St} {H7 : Hp}, Inv X (pins ++ pinsAt fp s5.heap) σ7 H7 s7 → N σ7 H7 → ∃ m, m < n ∧ ∃ i σ' H', Inv X pins σ' H' s7 ∧ tn i s7.heap ∧ (∀ b ∈ fp, H' b = none) ∧ W i m σ' H' := fun {σ7 H7} I7 n7 => by
      obtain ⟨m', hm, w7⟩ := hN σ7 H7 n7
      refine ⟨m', hm, i + 1, σ7, H7, I7.unpinned, T.keep _ _ _ st5 fun b hb o e => (I7.pin (b, o) (List.mem_append_right _ (List.mem_append_right _ (mem_pinsAt hb e)))).1, fun b hb => ?_, w7⟩
      obtain ⟨o, e, d⟩ := T.obj _ _ st5 b hb
      exact (I7.pin (b, o) (List.mem_append_right _ (List.mem_append_right _ (mem_pinsAt hb e)))).2.1
    cases f with
    | next => obtain ⟨σ7, H7, I7, n7⟩ := q7; exact again I7 n7
    | cont => obtain ⟨σ7, H7, I7, n7⟩ := q7; exact again I7 n7
    | brk => obtain ⟨σ7, H7, I7, q7⟩ := q7; exact ⟨σ7, H7, I7.unpinned, q7⟩
    | ret v => obtain ⟨x7, σ7, H7, I7, r7, q7⟩ := q7; exact ⟨x7, σ7, H7, I7.unpinned, r7, q7⟩
end

theorem for_list {K : PySem.W.Frag} {a : Addr} {xs : List V} {g : TG} {tb : TS} {D : Ends} {σ : St} {H : Hp} (Pv : Nat → St → Hp → Prop) (h0 : Pv 0 σ H) (hl : ∀ i σ H, i ≤ xs.length → Pv i σ H → SqL K H a xs)
    (hs : ∀ i x σ H, xs[i]? = some x → Pv i σ H → g x σ H fun σ2 H2 => tb { D with nx := Pv (i + 1), ct := Pv (i + 1), bk := D.nx } σ2 H2) (hd : ∀ σ H, Pv xs.length σ H → D.nx σ H) :
    ∃ W : Nat → Nat → St → Hp → Prop, (∃ m, W 0 m σ H) ∧ ∀ i m σ H, W i m σ H →
      ((Itl K a).stop i H ∧ D.nx σ H) ∨ ((Itl K a).go i H ∧ ∃ N : St → Hp → Prop, (∀ σ' H', N σ' H' → ∃ m', m' < m ∧ W (i + 1) m' σ' H') ∧ ∀ x H', (Itl K a).yld i H x H' → g x σ H' fun σ2 H2 => tb { D with nx := N, ct := N, bk := D.nx } σ2 H2) := by
  refine ⟨fun i m σ H => m = xs.length - i ∧ i ≤ xs.length ∧ Pv i σ H, ⟨xs.length, by simp, Nat.zero_le _, h0⟩, ?_⟩
  rintro i m σ H ⟨rfl, hi, p⟩
  have q := hl i σ H hi p
  by_cases hlt : i < xs.length
  · refine .inr ⟨⟨xs, xs[i], q, by simp [hlt]⟩, Pv (i + 1), fun σ' H' p' => ⟨xs.length - (i + 1), by omega, rfl, hlt, p'⟩, fun x H' y => ?_⟩
    obtain ⟨e, y⟩ := y
    subst e
    exact hs i x σ _ (y xs q) p
  · have e : i = xs.length := by omega
    subst e
    exact .inl ⟨⟨xs, q, Nat.le_refl _⟩, hd σ H p⟩
theorem for_range {lo : Int} {n : Nat} {g : TG} {tb : TS} {D : Ends} {σ : St} {H : Hp} (Pv : Nat → St → Hp → Prop) (h0 : Pv 0 σ H)
    (hs : ∀ i σ H, i < n → Pv i σ H → g (.int (lo + i)) σ H fun σ2 H2 => tb { D with nx := Pv (i + 1), ct := Pv (i + 1), bk := D.nx } σ2 H2) (hd : ∀ σ H, Pv n σ H → D.nx σ H) :
    ∃ W : Nat → Nat → St → Hp → Prop, (∃ m, W 0 m σ H) ∧ ∀ i m σ H, W i m σ H →
      ((Itr lo n).stop i H ∧ D.nx σ H) ∨ ((Itr lo n).go i H ∧ ∃ N : St → Hp → Prop, (∀ σ' H', N σ' H' → ∃ m', m' < m ∧ W (i + 1) m' σ' H') ∧ ∀ x H', (Itr lo n).yld i H x H' → g x σ H' fun σ2 H2 => tb { D with nx := N, ct := N, bk := D.nx } σ2 H2) := by
  refine ⟨fun i m σ H => m = n - i ∧ i ≤ n ∧ Pv i σ H, ⟨n, by simp, Nat.zero_le _, h0⟩, ?_⟩
  rintro i m σ H ⟨rfl, hi, p⟩
  by_cases hlt : i < n
  · refine .inr ⟨hlt, Pv (i + 1), fun σ' H' p' => ⟨n - (i + 1), by omega, rfl, hlt, p'⟩, fun x H' y => ?_⟩
    obtain ⟨e, y⟩ := y
    subst e y
    exact hs i σ _ hlt p
  · have e : i = n := by omega
    subst e
    exact .inl ⟨Nat.le_refl _, hd σ H p⟩
end L2

namespace L2
open PySem PySem.Spec PyProof.Rows

noncomputable abbrev R2 := V → V → Hp → VK → Prop
noncomputable def OpR (X : Cx) (f : Value → Value → Sem Value) (r : R2) : Prop :=
  ∀ (pins : List (Addr × Obj)) (s : Shared) (σ : St) (H : Hp) (x y : V) (v u : Value) (Q : VK), Inv X pins σ H s → RelV x v → RelV y u → r x y H Q →
    wpAny (model X.prog X.w) X.A (f v u) (EP X pins σ Q) X.xe s
noncomputable def CallR (X : Cx) (f : Value) (r : List V → Hp → VK → Prop) : Prop :=
  ∀ (pins : List (Addr × Obj)) (s : Shared) (σ : St) (H : Hp) (xs : List V) (us : List Value) (Q : VK), Inv X pins σ H s → Vals xs us → r xs H Q →
    wpAny (model X.prog X.w) X.A (call f us) (EP X pins σ Q) X.xe s
noncomputable def tOp (r : R2) (ta tb : TE) : TE := fun σ H Q => ta σ H fun x H1 => tb σ H1 fun y H2 => r x y H2 Q
noncomputable def rI (C : Int → Int → Prop) (g : Int → Int → V) : R2 := fun x y H Q => ∃ i j, x = .int i ∧ y = .int j ∧ C i j ∧ Q (g i j) H
noncomputable def rI0 (g : Int → Int → V) : R2 := fun x y H Q => ∃ i j, x = .int i ∧ y = .int j ∧ Q (g i j) H
section
variable {X : Cx} {a b c : Expr} {ta tb tc : TE} {pos : Pos}

theorem binT (ha : PE X a ta) (hb : PE X b tb) {pins : List (Addr × Obj)} {s : Shared} {σ : St} {H : Hp} {R : V → V → Hp → Prop} (I : Inv X pins σ H s)
    (h : ta σ H fun x H1 => tb σ H1 fun y H2 => R x y H2) {Q : Value → Shared → Prop} {f : Value → Value → Sem Value}
    (hf : ∀ v u s2 x y H2, Inv X pins σ H2 s2 → RelV x v → RelV y u → R x y H2 → wpAny (model X.prog X.w) X.A (f v u) Q X.xe s2) :
    wpAny (model X.prog X.w) X.A (eval a X.env) (fun v s₁ => wpAny (model X.prog X.w) X.A (eval b X.env) (fun u s₂ => wpAny (model X.prog X.w) X.A (f v u) Q X.xe s₂) X.xe s₁) X.xe s := by
  refine thn (ha pins s σ H _ I h) fun v s1 qq0 => ?_
  obtain ⟨x, H1, I1, r1, q1⟩ := qq0
  refine thn (hb pins s1 σ H1 _ I1 q1) fun u s2 qq0 => ?_
  obtain ⟨y, H2, I2, r2, q2⟩ := qq0
  exact hf v u s2 x y H2 I2 r1 r2 q2

theorem pe_op {op : Operator} {r : R2} (ho : OpR X (binaryOp op) r) (ha : PE X a ta) (hb : PE X b tb) : PE X (.BinOp a op b pos) (tOp r ta tb) := by
  intro pins s σ H Q I h
  exact wpAny_BinOp (binT ha hb I h fun v u s2 x y H2 I2 rx ry q => ho pins s2 σ H2 x y v u Q I2 rx ry q)
theorem opI {f : Value → Value → Sem Value} {C : Int → Int → Prop} {g : Int → Int → Int}
    (rule : ∀ (i j : Int) (t u : Tok) (s : Shared) (Q : Value → Shared → Prop) (E : Value → Shared → Prop), C i j → Q (.int (g i j) s.toks) { s with toks := s.toks + 1 } → wpAny (model X.prog X.w) X.A (f (.int i t) (.int j u)) Q E s) :
    OpR X f (rI C fun i j => .int (g i j)) := by
  intro pins s σ H x y v u Q I rx ry h
  obtain ⟨i, j, rfl, rfl, hc, q⟩ := h
  obtain ⟨t, rfl⟩ := rx
  obtain ⟨t', rfl⟩ := ry
  exact rule i j t t' s _ _ hc ⟨.int (g i j), H, I.tok _, ⟨_, rfl⟩, q⟩
theorem opI0 {f : Value → Value → Sem Value} {g : Int → Int → Int}
    (rule : ∀ (i j : Int) (t u : Tok) (s : Shared) (Q : Value → Shared → Prop) (E : Value → Shared → Prop), Q (.int (g i j) s.toks) { s with toks := s.toks + 1 } → wpAny (model X.prog X.w) X.A (f (.int i t) (.int j u)) Q E s) :
    OpR X f (rI0 fun i j => .int (g i j)) := by
  intro pins s σ H x y v u Q I rx ry h
  obtain ⟨i, j, rfl, rfl, q⟩ := h
  obtain ⟨t, rfl⟩ := rx
  obtain ⟨t', rfl⟩ := ry
  exact rule i j t t' s _ _ ⟨.int (g i j), H, I.tok _, ⟨_, rfl⟩, q⟩
theorem opB0 {f : Value → Value → Sem Value} {g : Int → Int → Bool}
    (rule : ∀ (i j : Int) (t u : Tok) (s : Shared) (Q : Value → Shared → Prop) (E : Value → Shared → Prop), Q (.bool (g i j)) s → wpAny (model X.prog X.w) X.A (f (.int i t) (.int j u)) Q E s) :
    OpR X f (rI0 fun i j => .bl (g i j)) := by
  intro pins s σ H x y v u Q I rx ry h
  obtain ⟨i, j, rfl, rfl, q⟩ := h
  obtain ⟨t, rfl⟩ := rx
  obtain ⟨t', rfl⟩ := ry
  exact rule i j t t' s _ _ ⟨.bl (g i j), H, I, rfl, q⟩

noncomputable def CPow (i j : Int) : Prop := 0 ≤ j ∧ j ≤ 1000000 ∧ i.natAbs < 2 ^ 64
noncomputable def CMul (i j : Int) : Prop := (-(2 ^ 64) < i ∧ i < 2 ^ 64) ∨ (-(2 ^ 64) < j ∧ j < 2 ^ 64)
theorem CMul.ok {i j : Int} (h : CMul i j) : IntMulOk i j := by
  rcases h with ⟨h1, h2⟩ | ⟨h1, h2⟩
  · exact .of_left (intBits_le_64 h1 h2)
  · exact .of_right (intBits_le_64 h1 h2)
theorem op_add : OpR X (binaryOp .Add) (rI0 fun i j => .int (i + j)) := opI0 fun _ _ _ _ _ _ _ q => add_int q
theorem op_sub : OpR X (binaryOp .Sub) (rI0 fun i j => .int (i - j)) := opI0 fun _ _ _ _ _ _ _ q => sub_int q
theorem op_mul : OpR X (binaryOp .Mult) (rI CMul fun i j => .int (i * j)) := opI fun _ _ _ _ _ _ _ hc q => mul_int q hc.ok
theorem op_mod : OpR X (binaryOp .Mod) (rI (fun _ j => 0 < j) fun i j => .int (i % j)) := opI fun i j _ _ _ _ _ hc q => by
  have h1 : (0 : Int) < j := hc
  exact mod_int' (by omega) (by rw [Int.fmod_eq_emod_of_nonneg i (by omega)]; exact q)
theorem op_pow : OpR X (binaryOp .Pow) (rI CPow fun i j => .int (i ^ j.toNat)) := opI fun _ _ _ _ _ _ _ hc q => pow_int_small hc.1 hc.2.1 hc.2.2 q
end

noncomputable def scal : V → V → Bool
  | .non, .non => true | .non, .int _ => true | .int _, .non => true | .non, .bl _ => true | .bl _, .non => true | .non, .str _ => true | .str _, .non => true
  | .int _, .int _ => true | .bl _, .bl _ => true | .str _, .str _ => true | .byt _, .byt _ => true
  | .int _, .str _ => true | .str _, .int _ => true | .bl _, .str _ => true | .str _, .bl _ => true
  | _, _ => false
noncomputable def rEq : R2 := fun x y H Q => scal x y = true ∧ Q (.bl (decide (x = y))) H
noncomputable def rNe : R2 := fun x y H Q => scal x y = true ∧ Q (.bl (!decide (x = y))) H

theorem dec_int {i j : Int} : decide (V.int i = V.int j) = (i == j) := by
  rw [Bool.eq_iff_iff]
  simp
theorem dec_bl {i j : Bool} : decide (V.bl i = V.bl j) = (i == j) := by
  rw [Bool.eq_iff_iff]
  simp
theorem dec_str {i j : Str} : decide (V.str i = V.str j) = (i == j) := by
  rw [Bool.eq_iff_iff]
  simp
theorem dec_byt {i j : Array UInt8} : decide (V.byt i = V.byt j) = (i.toList == j.toList) := by
  rw [Bool.eq_iff_iff]
  cases i
  cases j
  simp

section
variable {X : Cx} {a b c : Expr} {ta tb tc : TE} {pos : Pos}
theorem fin_bl {pins : List (Addr × Obj)} {σ : St} {H : Hp} {s : Shared} {Q : VK} {k k' : Bool} (I : Inv X pins σ H s) (q : Q (.bl k) H) (e : k = k') : EP X pins σ Q (.bool k') s := by
  subst e
  exact ⟨.bl k, H, I, rfl, q⟩
theorem op_eq : OpR X (compareOp .Eq) rEq := by
  intro pins s σ H x y v u Q I rx ry h
  obtain ⟨hs, q⟩ := h
  cases x with
  | non =>
    cases rx
    cases y with
    | non => cases ry; exact PySem.EqNone.eq_none_none (fin_bl I q (by simp))
    | bl j => cases ry; exact PySem.EqNone.eq_none_bool (fin_bl I q (by simp))
    | int j => obtain ⟨t', rfl⟩ := ry; exact PySem.EqNone.eq_none_int (fin_bl I q (by simp))
    | str j => obtain ⟨t', rfl⟩ := ry; exact PySem.EqNone.eq_none_str (fin_bl I q (by simp))
    | _ => exact absurd (show false = true from hs) Bool.false_ne_true
  | bl i =>
    cases rx
    cases y with
    | non => cases ry; exact PySem.EqNone.eq_bool_none (fin_bl I q (by simp))
    | bl j => cases ry; exact eq_bool (fin_bl I q dec_bl)
    | str j => obtain ⟨t', rfl⟩ := ry; exact PySem.EqMixed.eq_bool_str (fin_bl I q (by simp))
    | _ => exact absurd (show false = true from hs) Bool.false_ne_true
  | int i =>
    obtain ⟨t, rfl⟩ := rx
    cases y with
    | non => cases ry; exact PySem.EqNone.eq_int_none (fin_bl I q (by simp))
    | int j => obtain ⟨t', rfl⟩ := ry; exact eq_int (fin_bl I q dec_int)
    | str j => obtain ⟨t', rfl⟩ := ry; exact PySem.EqMixed.eq_int_str (fin_bl I q (by simp))
    | _ => exact absurd (show false = true from hs) Bool.false_ne_true
  | str i =>
    obtain ⟨t, rfl⟩ := rx
    cases y with
    | non => cases ry; exact PySem.EqNone.eq_str_none (fin_bl I q (by simp))
    | bl j => cases ry; exact PySem.EqMixed.eq_str_bool (fin_bl I q (by simp))
    | int j => obtain ⟨t', rfl⟩ := ry; exact PySem.EqMixed.eq_str_int (fin_bl I q (by simp))
    | str j => obtain ⟨t', rfl⟩ := ry; exact eq_str (fin_bl I q dec_str)
    | _ => exact absurd (show false = true from hs) Bool.false_ne_true
  | byt i =>
    obtain ⟨t, rfl⟩ := rx
    cases y with
    | byt j => obtain ⟨t', rfl⟩ := ry; exact PySem.W.eq_bytes (fin_bl I q dec_byt)
    | _ => exact absurd (show false = true from hs) Bool.false_ne_true
  | _ => cases y <;> exact absurd (show false = true from hs) Bool.false_ne_true
theorem op_ne : OpR X (compareOp .NotEq) rNe := by
  intro pins s σ H x y v u Q I rx ry h
  obtain ⟨hs, q⟩ := h
  cases x with
  | non =>
    cases rx
    cases y with
    | non => cases ry; exact PySem.EqNone.ne_none_none (fin_bl I q (by simp))
    | bl j => cases ry; exact PySem.EqNone.ne_none_bool (fin_bl I q (by simp))
    | int j => obtain ⟨t', rfl⟩ := ry; exact PySem.EqNone.ne_none_int (fin_bl I q (by simp))
    | str j => obtain ⟨t', rfl⟩ := ry; exact PySem.EqNone.ne_none_str (fin_bl I q (by simp))
    | _ => exact absurd (show false = true from hs) Bool.false_ne_true
  | bl i =>
    cases rx
    cases y with
    | non => cases ry; exact PySem.EqNone.ne_bool_none (fin_bl I q (by simp))
    | bl j => cases ry; exact ne_bool (fin_bl I q (congrArg not dec_bl))
    | str j => obtain ⟨t', rfl⟩ := ry; exact PySem.EqMixed.ne_bool_str (fin_bl I q (by simp))
    | _ => exact absurd (show false = true from hs) Bool.false_ne_true
  | int i =>
    obtain ⟨t, rfl⟩ := rx
    cases y with
    | non => cases ry; exact PySem.EqNone.ne_int_none (fin_bl I q (by simp))
    | int j => obtain ⟨t', rfl⟩ := ry; exact ne_int (fin_bl I q (congrArg not dec_int))
    | str j => obtain ⟨t', rfl⟩ := ry; exact PySem.EqMixed.ne_int_str (fin_bl I q (by simp))
    | _ => exact absurd (show false = true from hs) Bool.false_ne_true
  | str i =>
    obtain ⟨t, rfl⟩ := rx
    cases y with
    | non => cases ry; exact PySem.EqNone.ne_str_none (fin_bl I q (by simp))
    | bl j => cases ry; exact PySem.EqMixed.ne_str_bool (fin_bl I q (by simp))
    | int j => obtain ⟨t', rfl⟩ := ry; exact PySem.EqMixed.ne_str_int (fin_bl I q (by simp))
    | str j => obtain ⟨t', rfl⟩ := ry; exact ne_str (fin_bl I q (congrArg not dec_str))
    | _ => exact absurd (show false = true from hs) Bool.false_ne_true
  | byt i =>
    obtain ⟨t, rfl⟩ := rx
    cases y with
    | byt j => obtain ⟨t', rfl⟩ := ry; exact PySem.W.ne_bytes (fin_bl I q (congrArg not dec_byt))
    | _ => exact absurd (show false = true from hs) Bool.false_ne_true
  | _ => cases y <;> exact absurd (show false = true from hs) Bool.false_ne_true

theorem op_lt : OpR X (compareOp .Lt) (rI0 fun i j => .bl (decide (i < j))) := opB0 fun _ _ _ _ _ _ _ q => lt_int q
theorem op_gt : OpR X (compareOp .Gt) (rI0 fun i j => .bl (decide (j < i))) := opB0 fun _ _ _ _ _ _ _ q => gt_int q
theorem OpR.or {f : Value → Value → Sem Value} {r r' : R2} (h : OpR X f r) (h' : OpR X f r') : OpR X f (fun x y H Q => r x y H Q ∨ r' x y H Q) := by
  intro pins s σ H x y v u Q I rx ry q
  rcases q with q | q
  · exact h pins s σ H x y v u Q I rx ry q
  · exact h' pins s σ H x y v u Q I rx ry q

theorem nomark (b : Expr) {op : CmpOp} (h : autoParam (op ≠ .In) L2.auto2._auto_1) (h2 : autoParam (op ≠ .NotIn) L2.auto2._auto_1) : behindInMarks op b = false := by
  have e1 : (op == CmpOp.In) = false := by cases op <;> first | rfl | exact absurd rfl h
  have e2 : (op == CmpOp.NotIn) = false := by cases op <;> first | rfl | exact absurd rfl h2
  cases b <;> simp [behindInMarks, e1, e2]
theorem pe_cmpR {op : CmpOp} {r : R2} (ho : OpR X (compareOp op) r) (ha : PE X a ta) (hb : PE X b tb) (hm : behindInMarks op b = false) : PE X (.Compare a [op] [b] pos) (tOp r ta tb) := by
  intro pins s σ H Q I h
  exact wpAny_Compare1 (binT ha hb I h fun v u s2 x y H2 I2 rx ry q => ho pins s2 σ H2 x y v u Q I2 rx ry q) hm
noncomputable def tTest (t : TE) : TT := fun σ H Q => t σ H fun x H' => ∃ k, x = .bl k ∧ Q k H'
theorem pt_cmpR {op : CmpOp} {r : R2} (ho : OpR X (compareOp op) r) (ha : PE X a ta) (hb : PE X b tb) (hm : behindInMarks op b = false) : PT X (.Compare a [op] [b] pos) (tTest (tOp r ta tb)) := by
  intro pins s σ H Q I h
  refine wpAny_isTrue_Compare1 (thn (ha pins s σ H _ I h) fun v s1 ⟨x, H1, I1, r1, q1⟩ => thn (hb pins s1 σ H1 _ I1 q1) fun u s2 ⟨y, H2, I2, r2, q2⟩ =>
    thn (ho pins s2 σ H2 x y v u _ I2 r1 r2 q2) fun c s3 ⟨z, H3, I3, r3, k, e, q3⟩ => ?_) hm
  subst e
  cases r3
  exact wpAny_truthy_bool ⟨H3, I3, q3⟩
theorem line63 : (sizeLine : Nat) < 2 ^ 63 := by rw [sizeLine_eq]; decide
theorem op_add_str : OpR X (binaryOp .Add) (fun x y H Q => ∃ i j, x = .str i ∧ y = .str j ∧ i.length + j.length ≤ sizeLine ∧ Q (.str (i ++ j)) H) := by
  intro pins s σ H x y v u Q I rx ry h
  obtain ⟨i, j, rfl, rfl, hz, q⟩ := h
  obtain ⟨t, rfl⟩ := rx
  obtain ⟨t', rfl⟩ := ry
  exact add_str (fun t' tk => ⟨.str (i ++ j), H, I.tok _, ⟨_, rfl⟩, q⟩) hz
theorem vals1 {x : V} {us : List Value} (r : Vals [x] us) : ∃ u, us = [u] ∧ RelV x u := by
  cases r with
  | cons r1 r2 => cases r2; exact ⟨_, rfl, r1⟩
theorem vals2 {x y : V} {us : List Value} (r : Vals [x, y] us) : ∃ u w', us = [u, w'] ∧ RelV x u ∧ RelV y w' := by
  cases r with
  | cons r1 r2 =>
    cases r2 with
    | cons r3 r4 => cases r4; exact ⟨_, _, rfl, r1, r3⟩
theorem call_max2 (hc : X.calm = true) : CallR X (.builtin "max") (fun xs H Q => ∃ i j, xs = [.int i, .int j] ∧ Q (.int (if j > i then j else i)) H) := by
  intro pins s σ H xs us Q I r h
  obtain ⟨i, j, rfl, q⟩ := h
  obtain ⟨u, w', rfl, ⟨t, rfl⟩, ⟨t', rfl⟩⟩ := vals2 r
  refine max_two_ints (I.ok.hd hc) fun h' tk k => ⟨_, H, I.kept k, ?_, q⟩
  by_cases hj : j > i
  · rw [if_pos hj, if_pos hj]; exact ⟨_, rfl⟩
  · rw [if_neg hj, if_neg hj]; exact ⟨_, rfl⟩
theorem call_int1 : CallR X (.type "int") (fun xs H Q => (∃ i, xs = [.int i] ∧ Q (.int i) H) ∨ ∃ k, xs = [.bl k] ∧ Q (.int (if k then 1 else 0)) H) := by
  intro pins s σ H xs us Q I r h
  rcases h with ⟨i, rfl, q⟩ | ⟨k, rfl, q⟩
  · obtain ⟨u, rfl, t, rfl⟩ := vals1 r
    exact call_int_int ⟨.int i, H, I, ⟨_, rfl⟩, q⟩
  · obtain ⟨u, rfl, r1⟩ := vals1 r
    cases r1
    exact call_int_bool ⟨.int (if k then 1 else 0), H, I.tok _, ⟨_, rfl⟩, q⟩
noncomputable def LenV (K : PySem.W.Frag) (x : V) (H : Hp) (n : Nat) : Prop :=
  match x with
  | .str y => y.length ≤ sizeLine ∧ n = y.length
  | .byt y => y.size ≤ sizeLine ∧ n = y.size
  | .ref p => (∃ xs, SqL K H p xs ∧ n = xs.length) ∨ ∃ xs, SqT K H p xs ∧ n = xs.length
  | _ => False
theorem call_len : CallR X (.builtin "len") (fun xs H Q => ∃ x n, xs = [x] ∧ LenV X.K x H n ∧ Q (.int n) H) := by
  intro pins s σ H xs us Q I r h
  obtain ⟨x, n, rfl, e, q⟩ := h
  obtain ⟨u, rfl, rx⟩ := vals1 r
  have hl := line63
  have hs : sizeLine = 16777216 := sizeLine_eq
  cases x with
  | str y =>
    obtain ⟨t, rfl⟩ := rx
    obtain ⟨hy, e'⟩ : y.length ≤ sizeLine ∧ n = y.length := e
    subst e'
    exact len_str (by omega) ⟨.int _, H, I.tok _, ⟨_, rfl⟩, q⟩
  | byt y =>
    obtain ⟨t, rfl⟩ := rx
    obtain ⟨hy, e'⟩ : y.size ≤ sizeLine ∧ n = y.size := e
    subst e'
    exact PySem.W.len_bytes (by omega) ⟨.int _, H, I.tok _, ⟨_, rfl⟩, q⟩
  | ref p =>
    cases rx
    have e' : (∃ xs, SqL X.K H p xs ∧ n = xs.length) ∨ ∃ xs, SqT X.K H p xs ∧ n = xs.length := e
    rcases e' with ⟨xs, hx, e'⟩ | ⟨xs, hx, e'⟩
    · subst e'
      obtain ⟨its, r', pl, hz⟩ := I.list hx
      have hlen := r'.length
      exact Calls.call_len_list pl.isList (by simp only [List.size_toArray]; omega) ⟨.int xs.length, H, I.tok _, ⟨_, by simp only [List.size_toArray]; rw [hlen]⟩, q⟩
    · subst e'
      obtain ⟨its, r', pl, hz⟩ := I.tuple hx
      have hlen := r'.length
      exact len_tuple pl (by simp only [List.size_toArray]; omega) ⟨.int xs.length, H, I.tok _, ⟨_, by simp only [List.size_toArray]; rw [hlen]⟩, q⟩
  | _ => exact (show False from e).elim
end
end L2

namespace L2
open PySem PySem.Spec PyProof.Rows

structure ObjM (h : Heap) (x dx C : Addr) (mA : Str → Option Value) : Prop where
  obj : h.get? x = some (PySem.W.instObj C dx)
  ns : h.Ns1 dx mA
  ne : dx ≠ x

theorem lookIn_ns {h : Heap} {dx : Addr} {mA : Str → Option Value} (n : h.Ns1 dx mA) : ∃ od, h.get? dx = some od ∧ ∀ name, PySem.W.lookIn name od = some (mA name) := by
  obtain ⟨o, es, ep, ho, hd, hk, _, hm⟩ := n
  refine ⟨o, ho, fun name => ?_⟩
  have e := hm name
  unfold nsFind findBy at e
  rw [← Array.find?_toList] at e
  unfold PySem.W.lookIn
  rw [hd]
  dsimp only
  split
  · rename_i y q
    rw [q] at e
    exact congrArg some e
  · rename_i q
    rw [q] at e
    have a : es.toList.any (·.refKey) = false := by
      rw [List.any_eq_false]
      intro y hy
      obtain ⟨z, t, hkey⟩ := hk y (Array.mem_toList_iff.mp hy)
      simp [DictEntry.refKey, hkey]
    have a' : ¬ es.toList.any (·.refKey) = true := by rw [a]; exact Bool.false_ne_true
    rw [if_neg a']
    exact congrArg some e

theorem ObjM.look {h : Heap} {x dx C : Addr} {mA : Str → Option Value} (I : ObjM h x dx C mA) : ∃ od, PySem.W.InstAt h x (PySem.W.instObj C dx) C (some od) ∧ ∀ name, PySem.W.lookIn name od = some (mA name) :=
  let ⟨od, ho, hl⟩ := lookIn_ns I.ns
  ⟨od, ⟨I.obj, rfl, rfl, ho⟩, hl⟩

section
variable {prog : Program} {w : World} {A : Around} {E : Value → Shared → Prop} {s : Shared} {K : PySem.W.Frag} {x dx C f : Addr} {mA : Str → Option Value} {name : Str} {v : Value}

end

noncomputable def putF (f : Str) (v : V) : List (Str × V) → List (Str × V)
  | [] => [(f, v)]
  | (g, x) :: r => if g = f then (g, v) :: r else (g, x) :: putF f v r
theorem lookup_putF (f g : Str) (v : V) : ∀ fs : List (Str × V), (putF f v fs).lookup g = if g = f then some v else fs.lookup g
  | [] => by
    show List.lookup g [(f, v)] = _
    by_cases h : g = f
    · have hb : (g == f) = true := beq_iff_eq.mpr h
      simp only [List.lookup, hb, if_pos h]
    · have hb : (g == f) = false := beq_eq_false_iff_ne.mpr h
      simp only [List.lookup, hb, if_neg h]
  | (k, x) :: r => by
    have ih := lookup_putF f g v r
    rw [show putF f v ((k, x) :: r) = (if k = f then (k, v) :: r else (k, x) :: putF f v r) from rfl]
    by_cases hk : k = f
    · rw [if_pos hk]
      by_cases h : g = k
      · have hb : (g == k) = true := beq_iff_eq.mpr h
        simp only [List.lookup, hb, if_pos (h.trans hk)]
      · have hb : (g == k) = false := beq_eq_false_iff_ne.mpr h
        simp only [List.lookup, hb, if_neg (fun e : g = f => h (e.trans hk.symm))]
    · rw [if_neg hk]
      by_cases h : g = k
      · have hb : (g == k) = true := beq_iff_eq.mpr h
        simp only [List.lookup, hb, if_neg (fun e : g = f => hk (h.symm.trans e))]
      · have hb : (g == k) = false := beq_eq_false_iff_ne.mpr h
        simp only [List.lookup, hb]
        exact ih
theorem RelO.some_of {v : V} {o : Option Value} (r : RelO (some v) o) : ∃ u, o = some u ∧ RelV v u := by
  cases o with
  | none => exact (show False from r).elim
  | some u => exact ⟨u, rfl, r⟩
theorem RelO.none_of {o : Option Value} (r : RelO none o) : o = none := by
  cases o with
  | none => rfl
  | some u => exact (show False from r).elim
theorem handed_of {v : V} {u : Value} (r : RelV v u) : PySem.W.handedIn u = true := by
  cases v with
  | non => cases (show u = Value.none from r); rfl
  | bl b => cases (show u = Value.bool b from r); rfl
  | int i => obtain ⟨t, e⟩ := (show ∃ t, u = Value.int i t from r); cases e; rfl
  | str x => obtain ⟨t, e⟩ := (show ∃ t, u = Value.str x t from r); cases e; rfl
  | byt b => obtain ⟨t, e⟩ := (show ∃ t, u = Value.bytes b t from r); cases e; rfl
  | flt b => obtain ⟨t, e⟩ := (show ∃ t, u = Value.float b t from r); cases e; rfl
  | ref a => cases (show u = Value.ref a from r); rfl
  | ty n => cases (show u = Value.type n from r); rfl

section
variable {P : Program} {w : World} {H H' : Hp} {h h' : Heap} {a C dx : Addr} {fs fs' : List (Str × V)}
theorem ins_get (hok : HOk P w H h) (e : H a = some (.ins C dx fs)) : ∃ mA, ObjM h a dx C mA ∧ (∀ f, RelO (fs.lookup f) (mA f)) ∧ PySem.Within mA (fs.map (·.1)) ∧ fs.length ≤ 1000 ∧ H dx = some (.own a) := by
  obtain ⟨d, z, ne, ob, mA, n, r, q⟩ := (show ObjOk P w H h a (.ins C dx fs) from hok a _ e)
  exact ⟨mA, ⟨ob, n, ne⟩, r, q, z, d⟩
end

structure Cls (K : PySem.W.Frag) (C : Addr) : Prop where
  pg : PySem.W.plainGet K C Str.empty = true
  hd : PySem.W.hasDictIn K C = true
  po : PySem.W.plainOver K C = true
  sa : PySem.W.findIn K (.ref C) "__setattr__" = some (some (.builtin "object.__setattr__"))
theorem Cls.get {K : PySem.W.Frag} {C : Addr} (c : Cls K C) (f : Str) : PySem.W.plainGet K C f = true := c.pg
noncomputable def NoAttr (K : PySem.W.Frag) (C : Addr) (f : Str) : Prop := PySem.W.findIn K (.ref C) f = some none
structure Con (K : PySem.W.Frag) (C : Addr) (f : Str) (v : V) (u : Value) : Prop where
  at_ : PySem.W.findIn K (.ref C) f = some (some u)
  rel : RelV v u
  get : PySem.W.specialIn K u "__get__" = some none
  cp : PySem.W.copiedNames.contains f = false
structure Meth (K : PySem.W.Frag) (C : Addr) (m : Str) (f : Addr) : Prop where
  at_ : PySem.W.findIn K (.ref C) m = some (some (.ref f))
  fn : PySem.W.isFn K (.ref f) = true
  kp : PySem.W.keepIn K (.ref f) = true

section
variable {X : Cx} {pins : List (Addr × Obj)} {σ : St} {H : Hp} {s : Shared} {a C dx : Addr} {fs : List (Str × V)} {f : Str} {v : V} {A : Around} {E : Value → Shared → Prop}

theorem attr_of {prog : Program} {w : World} {env : Env} {e : Expr} {f : Str} {pos : Pos} {s : Shared} {Q : Value → Shared → Prop} (hb : attributeBase e f env (eval e env) = eval e env)
    (h : wpAny (model prog w) A (eval e env) (fun o s₁ => wpAny (model prog w) A (getAttr o f true) Q E s₁) E s) : wpAny (model prog w) A (eval (.Attribute e f pos) env) Q E s :=
  Attribute_any_ h (by rw [arm_eval_Attribute, hb])
end

section
variable {X : Cx} {o e value : Expr} {f : Str} {pos pos' tpos : Pos} {ta tv : TE}
end

section
variable {X : Cx} {pins : List (Addr × Obj)} {σ : St} {H : Hp} {s : Shared} {A : Around} {E : Value → Shared → Prop} {Q : Value → Shared → Prop} {c : Value} {b : Bool}
inductive TyOf (K : PySem.W.Frag) (H : Hp) : V → Value → Prop where
  | non : TyOf K H .non (.type "NoneType")
  | bl (x : Bool) : TyOf K H (.bl x) (.type "bool")
  | int (i : Int) : TyOf K H (.int i) (.type "int")
  | str (x : Str) : TyOf K H (.str x) (.type "str")
  | flt (x : UInt64) : TyOf K H (.flt x) (.type "float")
  | lst {a : Addr} {xs : List V} (e : H a = some (.lst xs)) : TyOf K H (.ref a) (.type "list")
  | frz {a : Addr} {o : Obj} {xs : List V} (e : H a = some (.frz o (.lst xs))) : TyOf K H (.ref a) (.type "list")
  | tup {a : Addr} {xs : List V} (e : H a = some (.tup xs)) : TyOf K H (.ref a) (.type "tuple")
  | dK {a : Addr} {kvs : List (Key × V)} (e : H a = some (.dK kvs)) : TyOf K H (.ref a) (.type "dict")
  | dT {a : Addr} {kvs : List (List Key × V)} (e : H a = some (.dT kvs)) : TyOf K H (.ref a) (.type "dict")
  | ins {a C dx : Addr} {fs : List (Str × V)} (e : H a = some (.ins C dx fs)) (cl : Cls K C) (ha : PySem.W.findIn K (.ref C) "__class__" = some (some (.builtin "object.__class__")))
      (hn : PySem.W.specialIn K (.builtin "object.__class__") "__get__" = some (some (.builtin "getset_descriptor.__get__"))) (htk : PySem.W.takesIn K (.builtin "object.__class__") = some true)
      (hm : PySem.W.mroIn K C (.type "object") = some true) : TyOf K H (.ref a) (.ref C)
end
end L2

namespace L2
open PySem PySem.Spec PyProof.Rows

structure Room (k : Nat) (A : Around) : Prop where
  hd : A.handled = none
  dp : A.depth + 3 * k + 5 < recursionLimit
  un : A.units + 16 * k + 200 < cLine
  gd : A.guards = some []
theorem Room.mono {j k : Nat} {A : Around} (r : Room k A) (h : j ≤ k) : Room j A := ⟨r.hd, by have := r.dp; omega, by have := r.un; omega, r.gd⟩
theorem Room.deeper {k : Nat} {A : Around} (r : Room (k + 1) A) (env : Env) : Room k (A.deeper env) :=
  ⟨r.hd, by have := r.dp; show A.depth + 1 + 3 * k + 5 < _; omega, by have := r.un; show A.units + 3 + 16 * k + 200 < _; omega, r.gd⟩
theorem make_depth {A : Around} {C : Addr} {us : List Value} {kw : List (Str × Value)} : (A.under (.builtin "type.__call__" ⟨.ref C :: us, kw⟩)).depth = A.depth + 1 := by
  first | rfl | simp [Around.under, Code.weight, Code.isCreation, Code.isGuard, Code.isCaller, Code.frames, Code.isFrame, guardIds]
theorem make_units {A : Around} {C : Addr} {us : List Value} {kw : List (Str × Value)} : (A.under (.builtin "type.__call__" ⟨.ref C :: us, kw⟩)).units = A.units + 1 := by
  first | rfl | simp [Around.under, Code.cUnits, Code.frames, Code.isFrame]
theorem make_guards {A : Around} {C : Addr} {us : List Value} {kw : List (Str × Value)} : (A.under (.builtin "type.__call__" ⟨.ref C :: us, kw⟩)).guards = pushGuards [] A.guards := by
  first | rfl | simp [Around.under, Code.guards, Code.isGuard, guardIds]
theorem Room.make {k : Nat} {A : Around} (r : Room (k + 1) A) (C : Addr) (us : List Value) (kw : List (Str × Value)) : Room k (A.under (.builtin "type.__call__" ⟨.ref C :: us, kw⟩)) :=
  ⟨r.hd, by have := r.dp; rw [make_depth]; omega, by have := r.un; rw [make_units]; omega, (make_guards.trans (by rw [r.gd]; rfl))⟩
theorem Room.depth {k : Nat} {A : Around} (r : Room k A) : A.depth < recursionLimit := by have := r.dp; omega
theorem Room.units {k : Nat} {A : Around} (r : Room k A) : A.units + 64 < cLine := by have := r.un; omega
theorem Room.units0 {k : Nat} {A : Around} (r : Room k A) : A.units < cLine := by have := r.un; omega

noncomputable def tNil : TA := fun _ H Q => Q [] H
noncomputable def tCons (ta : TE) (tr : TA) : TA := fun σ H Q => ta σ H fun x H1 => tr σ H1 fun xs H2 => Q (x :: xs) H2
section
variable {X : Cx} {e : Expr} {es : List Expr} {te : TE} {t : TA} {pos : Pos}
theorem pa_nil : PA X [] tNil := fun _ _ _ _ H Q I h => Calls.spliced_nil ⟨[], H, I, .nil, h⟩
theorem pa_cons (ha : PE X e te) (hr : PA X es t) (hs : autoParam (starEach (e :: es) X.env = (false, eval e X.env) :: starEach es X.env) L2.auto4._auto_1) : PA X (e :: es) (tCons te t) := by
  intro pos pins s σ H Q I h
  rw [hs]
  show wpAny _ _ (spliced ((false, eval e X.env) :: backTo pos (starEach es X.env))) _ _ s
  refine Calls.spliced_cons (thn (ha pins s σ H _ I h) fun u s1 qq0 => ?_)
  obtain ⟨x, H1, I1, r1, q1⟩ := qq0
  exact thn (hr pos pins s1 σ H1 _ I1 q1) fun us s2 ⟨xs, H2, I2, r2, q2⟩ => ⟨x :: xs, H2, I2, .cons r1 r2, q2⟩

noncomputable def tTup (t : TA) : TE := fun σ H Q => t σ H fun xs H1 => xs.length ≤ sizeLine ∧ ∀ p, H1 p = none → Q (.ref p) (upd H1 p (.tup xs))
noncomputable def tLst (t : TA) : TE := fun σ H Q => t σ H fun xs H1 => xs.length ≤ sizeLine ∧ ∀ p, H1 p = none → Q (.ref p) (upd H1 p (.lst xs))
theorem pe_tup {x1} (h : PA X es t) : PE X (.Tuple es x1 pos) (tTup t) := by
  intro pins s σ H Q I hq
  refine wpAny_Tuple_spliced (thn (h pos pins s σ H _ I hq) fun us s1 ⟨xs, H1, I1, r, z, q⟩ => ⟨by rw [← r.length]; exact z, ?_⟩)
  have hf : H1 s1.heap.objs.size = none := I1.hok.fresh (Nat.le_refl _)
  refine ⟨.ref s1.heap.objs.size, upd H1 s1.heap.objs.size (.tup xs), I1.laid (t' := s1.toks) (fun b u e => Heap.get?_push_of_some _ e) (Nat.le_refl _) ?_, rfl, q _ hf⟩
  exact ⟨z, us, r, ⟨_, Heap.get?_push_size _ rfl, rfl, _, rfl⟩⟩
theorem pe_lst (h : PA X es t) : PE X (.List es pos) (tLst t) := by
  intro pins s σ H Q I hq
  refine wpAny_List_spliced (thn (h pos pins s σ H _ I hq) fun us s1 ⟨xs, H1, I1, r, z, q⟩ => ⟨by rw [← r.length]; exact z, ?_⟩)
  have hf : H1 s1.heap.objs.size = none := I1.hok.fresh (Nat.le_refl _)
  refine ⟨.ref s1.heap.objs.size, upd H1 s1.heap.objs.size (.lst xs), I1.laid (t' := s1.toks) (fun b u e => Heap.get?_push_of_some _ e) (Nat.le_refl _) ?_, rfl, q _ hf⟩
  exact ⟨z, us, 0, r, Heap.get?_push_size _ rfl⟩
end

noncomputable abbrev Sp := List V → Hp → VK → XK → Prop
noncomputable abbrev CXT := List Env → Hp → Shared → XK → Value → Shared → Prop

structure Env0 (P : Program) (w : World) (K : PySem.W.Frag) (mg : Str → Option Value) (base : Heap) (A : Around) (outer : List Env) (s : Shared) (H : Hp) : Prop where
  frames : A.frames = some outer
  mod : Mod K mg base
  bs : ∀ b o, base.get? b = some o → s.heap.get? b = some o ∧ H b = none
  bsz : base.objs.size ≤ s.heap.objs.size
  funs : s.heap.FunFrames base outer
  frf : ∀ b ∈ frs outer, H b = none
  hok : HOk P w H s.heap
  bare : AllBare s.gens
noncomputable def CE (outer : List Env) (P : Program) (w : World) (H : Hp) (s : Shared) (Q : VK) (u : Value) (s' : Shared) : Prop :=
  ∃ v H', s'.os = s.os ∧ AllBare s'.gens ∧ Un (frs outer) [] H H' s.heap s'.heap ∧ HOk P w H' s'.heap ∧ RelV v u ∧ Q v H'
noncomputable def CR (CX : CXT) (outer : List Env) (P : Program) (w : World) (H : Hp) (s : Shared) (Q : VK) (E : XK) (r : Result) (s' : Shared) : Prop :=
  match r with
  | .ok (.ret u) => CE outer P w H s Q u s'
  | .ok _ => False
  | .error e => CX outer H s E e s'
structure FnOk (P : Program) (w : World) (K : PySem.W.Frag) (mg : Str → Option Value) (base : Heap) (CX : CXT) (k : Nat) (f : Addr) (fd : FuncData) (ps : List Str) (sp : Sp) : Prop where
  len : ∀ vs H Q E, sp vs H Q E → vs.length = ps.length
  run : ∀ (A : Around) (outer : List Env) (s : Shared) (H : Hp) (args : Args) (us : List Value) (vs : List V) (Q : VK) (E : XK), Room k A → Env0 P w K mg base A outer s H → BindsTo s fd args (ps.zip us) → Vals vs us → sp vs H Q E →
    codeAny (model P w) A (.call (.ref f) args) (CR CX outer P w H s Q E) s
theorem Env0.make {P : Program} {w : World} {K : PySem.W.Frag} {mg : Str → Option Value} {base : Heap} {A : Around} {outer : List Env} {s : Shared} {H : Hp} (e : Env0 P w K mg base A outer s H) (C : Addr) (us : List Value) (kw : List (Str × Value)) :
    Env0 P w K mg base (A.under (.builtin "type.__call__" ⟨.ref C :: us, kw⟩)) outer s H := ⟨by first | exact e.frames | (simpa [Around.under, Code.envs, Code.isFrame, pushEnvs] using e.frames), e.mod, e.bs, e.bsz, e.funs, e.frf, e.hok, e.bare⟩
section
variable {X : Cx} {pins : List (Addr × Obj)} {σ : St} {H : Hp} {s s' : Shared}
theorem Inv.env0 (I : Inv X pins σ H s) : Env0 X.prog X.w X.K X.mg X.base X.A X.stack s H :=
  ⟨I.ok.frames, I.ok.mod, I.bs, Nat.le_trans I.ok.bsz I.sz, I.stack, I.stkFree, I.hok, I.bare⟩
theorem Inv.after {Q : VK} {u : Value} (I : Inv X pins σ H s) (h : CE X.stack X.prog X.w H s Q u s') : EP X pins σ Q u s' := by
  obtain ⟨v, H', os, bare, un, hok, r, q⟩ := h
  obtain ⟨hh, g, d, t, os'⟩ := s'
  obtain rfl : os' = s.os := os
  exact ⟨v, H', I.call (h' := hh) (g' := g) (d' := d) (t' := t) (ch := []) un hok bare (fun b z => absurd z (by simp)), r, q⟩
end

noncomputable def tCall (sp : Sp) (dvs : List V) (E : XK) (t : TA) : TE := fun σ H Q => t σ H fun vs H1 => sp (vs ++ dvs) H1 Q E
noncomputable def Binds (K : PySem.W.Frag) (fd : FuncData) (ps : List Str) (ds : List Value) : Prop :=
  ∀ (s : Shared) (us : List Value), K.In s.heap → (us ++ ds).length = ps.length → BindsTo s fd ⟨us, []⟩ (ps.zip (us ++ ds))
theorem Binds.all {K : PySem.W.Frag} {fd : FuncData} {ps : List Str} (h : ∀ us : List Value, us.length = ps.length → bindArgs fd ⟨us, []⟩ = pure (ps.zip us)) : Binds K fd ps [] := fun s us _ hl => by
  rw [List.append_nil] at hl ⊢
  exact .of_eq (h us hl)

noncomputable def Passes (CX : CXT) (X : Cx) (E : XK) : Prop := ∀ (pins : List (Addr × Obj)) (σ : St) (H : Hp) (s : Shared) (e : Value) (s' : Shared), Inv X pins σ H s → CX X.stack H s E e s' → X.xe e s'

section
variable {X : Cx} {CX : CXT} {k : Nat} {f C : Addr} {fd : FuncData} {ps : List Str} {sp : Sp} {dvs : List V} {ds : List Value} {E : XK} {x m : Str} {p pos apos : Pos} {e o : Expr} {es : List Expr} {ta : TE} {t : TA}

theorem run_fn {pins : List (Addr × Obj)} {σ : St} {H : Hp} {s : Shared} {Q : VK} {us : List Value} {vs : List V} (F : FnOk X.prog X.w X.K X.mg X.base CX k f fd ps sp) (hr : Room k X.A) (hb : Binds X.K fd ps ds) (hd : Vals dvs ds) (hx : Passes CX X E)
    (I : Inv X pins σ H s) (r : Vals vs us) (h : sp (vs ++ dvs) H Q E) : wpAny (model X.prog X.w) X.A (call (.ref f) us) (EP X pins σ Q) X.xe s := by
  have r2 : Vals (vs ++ dvs) (us ++ ds) := r.append hd
  have hl : (us ++ ds).length = ps.length := by rw [← r2.length]; exact F.len _ _ _ _ h
  refine wpAny_call (codeAny_mono (F.run X.A X.stack s H ⟨us, []⟩ (us ++ ds) (vs ++ dvs) Q E hr I.env0 (hb s us I.kIn hl) r2 h) fun r s' hq => ?_)
  cases r with
  | error e => exact hx pins σ H s e s' I hq
  | ok fl =>
    cases fl with
    | ret u => exact I.after hq
    | next => exact False.elim hq
    | brk => exact False.elim hq
    | cont => exact False.elim hq

theorem pe_call (F : FnOk X.prog X.w X.K X.mg X.base CX k f fd ps sp) (hr : Room k X.A) (hg : Gl X x) (hm : X.mg x = some (.ref f)) (hk : PySem.W.keepIn X.K (.ref f) = true) (hb : Binds X.K fd ps ds) (hd : Vals dvs ds) (hx : Passes CX X E)
    (ha : PA X (e :: es) t) (hdb : autoParam ((x == ("__debug__" : Str)) = false) L2.auto2._auto_1) (he : autoParam (starEach (e :: es) X.env = (false, eval e X.env) :: starEach es X.env) L2.auto4._auto_1) (hpl : autoParam ((backTo pos (starEach es X.env)).any (·.1) = false) L2.auto4._auto_1) :
    PE X (.Call (.Name x p) (e :: es) [] pos) (tCall sp dvs E t) := by
  intro pins s σ H Q I h
  refine wpAny_Call_Name_kw (ld_glob I hg hm ?_ hdb)
  refine PySem.W.callWith_K (h₀ := X.base) I.ok.mod.kin hk (thn (ha pos pins s σ H _ I h) fun us s1 ⟨vs, H1, I1, r, q⟩ => ⟨I1.kIn, ?_⟩) he hpl
  exact run_fn F hr hb hd hx I1 r q
structure Mk (K : PySem.W.Frag) (C f : Addr) : Prop where
  makes : PySem.W.makesIn K C = true
  init : PySem.W.findIn K (.ref C) "__init__" = some (some (.ref f))
  fn : PySem.W.isFn K (.ref f) = true
  kp : PySem.W.keepIn K (.ref C) = true

end

section
variable {X : Cx} {CX : CXT} {k : Nat} {f C : Addr} {fd : FuncData} {ps ks : List Str} {sp : Sp} {E : XK} {x m : Str} {p pos apos kpos : Pos} {e o : Expr} {es : List Expr} {kws : List Keyword} {te ta : TE} {t tk : TA} {nm : Option Str}
structure KBinds (K : PySem.W.Frag) (fd : FuncData) (ps ks : List Str) (g : List Value → List Value → List Value) (gV : List V → List V → List V) : Prop where
  to : ∀ (s : Shared) (us ws : List Value), K.In s.heap → (g us ws).length = ps.length → BindsTo s fd ⟨us, ks.zip ws⟩ (ps.zip (g us ws))
  rel : ∀ {vs : List V} {us : List Value} {zs : List V} {ws : List Value}, Vals vs us → Vals zs ws → Vals (gV vs zs) (g us ws)
variable {g : List Value → List Value → List Value} {gV : List V → List V → List V}
end

structure FnScope (N P : List Str) (sc : Scope) : Prop where
  kind : sc.kind = .function
  co : sc.isCoroutine = false
  gen : sc.isGenerator = false
  nd : N.Nodup
  pre : N.take P.length = P
  par : ∀ x ∈ P, sc.names.lookup x = some .local ∨ sc.names.lookup x = some .cell
  nofree : ∀ y ∈ sc.names, y.2 ≠ .free

theorem bindL_out {kindOf : Str → Option NameKind} {x : Str} : ∀ {binds : List (Str × Value)} {m : Str → Option Value}, (∀ v, (x, v) ∉ binds) → bindL kindOf binds m x = m x
  | [], _, _ => rfl
  | (n, v) :: r, m, h => by
    unfold bindL
    rw [bindL_out fun w hw => h w (List.mem_cons_of_mem _ hw)]
    split
    · have : x ≠ n := by rintro rfl; exact h v List.mem_cons_self
      simp [this]
    · rfl
theorem bindC_out {kindOf : Str → Option NameKind} {x : Str} : ∀ {binds : List (Str × Value)} {m : Str → Option Value}, (∀ v, (x, v) ∉ binds) → bindC kindOf binds m x = m x
  | [], _, _ => rfl
  | (n, v) :: r, m, h => by
    unfold bindC
    rw [bindC_out fun w hw => h w (List.mem_cons_of_mem _ hw)]
    split
    · rfl
    · have : x ≠ n := by rintro rfl; exact h v List.mem_cons_self
      simp [this]
theorem bindL_get {kindOf : Str → Option NameKind} {x : Str} {v : Value} : ∀ {P : List Str} {vs : List Value} {i : Nat} {m : Str → Option Value}, P.Nodup → P[i]? = some x → vs[i]? = some v → kindOf x = some .local →
    bindL kindOf (P.zip vs) m x = some v
  | [], _, _, _, _, h, _, _ => by simp at h
  | _ :: _, [], _, _, _, _, h, _ => by simp at h
  | p :: P, w :: vs, 0, m, nd, h1, h2, hk => by
    simp at h1 h2; subst h1; subst h2
    show bindL kindOf ((p, w) :: P.zip vs) m p = _
    unfold bindL
    rw [bindL_out fun v hv => (List.nodup_cons.mp nd).1 (List.of_mem_zip hv).1, if_pos hk]
    simp
  | p :: P, w :: vs, i + 1, m, nd, h1, h2, hk => by
    show bindL kindOf ((p, w) :: P.zip vs) m x = _
    unfold bindL
    exact bindL_get (i := i) (List.nodup_cons.mp nd).2 (by simpa using h1) (by simpa using h2) hk
theorem bindC_get {kindOf : Str → Option NameKind} {x : Str} {v : Value} : ∀ {P : List Str} {vs : List Value} {i : Nat} {m : Str → Option Value}, P.Nodup → P[i]? = some x → vs[i]? = some v → kindOf x ≠ some .local →
    bindC kindOf (P.zip vs) m x = some v
  | [], _, _, _, _, h, _, _ => by simp at h
  | _ :: _, [], _, _, _, _, h, _ => by simp at h
  | p :: P, w :: vs, 0, m, nd, h1, h2, hk => by
    simp at h1 h2; subst h1; subst h2
    show bindC kindOf ((p, w) :: P.zip vs) m p = _
    unfold bindC
    rw [bindC_out fun v hv => (List.nodup_cons.mp nd).1 (List.of_mem_zip hv).1, if_neg hk]
    simp
  | p :: P, w :: vs, i + 1, m, nd, h1, h2, hk => by
    show bindC kindOf ((p, w) :: P.zip vs) m x = _
    unfold bindC
    exact bindC_get (i := i) (List.nodup_cons.mp nd).2 (by simpa using h1) (by simpa using h2) hk

noncomputable def start (N : List Str) (vs : List V) : St := vs.map some ++ List.replicate (N.length - vs.length) none

noncomputable def cxOf (CX : CXT) (P : Program) (w : World) (K : PySem.W.Frag) (mg : Str → Option Value) (base : Heap) (N : List Str) (qual : Str) (scope : Scope) (f : Addr) (cd : Value) (A : Around) (outer : List Env) (s : Shared) (H : Hp) (E : XK) : Cx where
  prog := P
  w := w
  K := K
  mg := mg
  base := base
  A := A.deeper (envOfC qual scope s.heap.objs.size f cd)
  N := N
  s₀ := s
  H₀ := H
  env := envOfC qual scope s.heap.objs.size f cd
  outer := outer
  stack := envOfC qual scope s.heap.objs.size f cd :: outer
  ex := []
  calm := true
  fn := fun _ => true
  pn := []
  xe := fun e s' => wpAny (model P w) (A.deeper (envOfC qual scope s.heap.objs.size f cd)) (leaving (envOfC qual scope s.heap.objs.size f cd) e) (fun _ s'' => CX outer H s E e s'') (fun e' s'' => CX outer H s E e' s'') s'

theorem cell_has {sc : Scope} {n : Nat} {x : Str} (h : sc.names.lookup x = some .cell) : ∃ c, (cellsFrom n sc.names []).lookup x = some c := by
  have q := PySem.W.cellsFrom_some sc.names n [] (.inl h)
  exact Option.isSome_iff_exists.mp q

theorem inv_start {CX : CXT} {P : Program} {w : World} {K : PySem.W.Frag} {mg : Str → Option Value} {base : Heap} {N ps : List Str} {qual : Str} {scope : Scope} {f : Addr} {cd : Value} {A : Around} {outer : List Env} {s s1 : Shared} {H : Hp} {E : XK} {us : List Value} {vs : List V}
    (S : FnScope N ps scope) (hd : A.handled = none) (e0 : Env0 P w K mg base A outer s H) (hl : vs.length = ps.length) (r : Vals vs us)
    (x : InCallC s s.heap.objs.size (bindL (envOfC qual scope s.heap.objs.size f cd).kindOf (ps.zip us) fun _ => none) (cellsFrom (s.heap.objs.size + 1) scope.names []) (bindC (envOfC qual scope s.heap.objs.size f cd).kindOf (ps.zip us) fun _ => none) s1) :
    Inv (cxOf CX P w K mg base N qual scope f cd A outer s H E) [] (start N vs) H s1 := by
  have hpl : ps.length ≤ N.length := by have := congrArg List.length S.pre; rw [List.length_take] at this; omega
  obtain ⟨h1, tk, rfl, hk⟩ := x.done
  have noA : ∀ b : Addr, b ∉ (cxOf CX P w K mg base N qual scope f cd A outer s H E).ex := fun b z => absurd (show b ∈ ([] : List Addr) from z) (by simp)
  refine ⟨⟨e0.mod, S.kind, rfl, rfl, Nat.le_refl _, fun y z c h1 h2 => ?_, fun y hy => ?_, fun y c _ h => ?_, fun _ => hd, Around.frames_deeper e0.frames, .inr ⟨rfl, rfl⟩, fun b z => absurd z (noA b), e0.bs, e0.bsz, fun b _ _ => noA b, fun b z => absurd z (noA b), e0.funs, e0.frf⟩,
    rfl, e0.bare, Un.kept hk, ⟨_, x.toInCall.ns, fun i y v h1 h2 h3 => ?_⟩, fun y c h => ⟨_, x.cell y c h⟩, e0.hok.fresh (Nat.le_refl _), fun y c h => ?_, fun p hp => absurd (show p ∈ ([] : List (Addr × Obj)) from hp) (by simp), e0.hok.kept hk, ?_⟩
  · exact name_of_addr x.apart (PySem.mem_of_lookup h1) (PySem.mem_of_lookup h2)
  · have hy : scope.names.lookup y = some .cell ∨ scope.names.lookup y = some .free := hy
    rcases hy with hy | hy
    · exact cell_has hy
    · exact absurd rfl (S.nofree _ (PySem.mem_of_lookup hy))
  · exact Nat.le_of_lt (x.above y c (PySem.mem_of_lookup h))
  · have hi : i < vs.length := by
      unfold start at h2
      by_cases hi : i < vs.length
      · exact hi
      · rw [List.getElem?_append_right (by simpa using hi)] at h2
        rw [List.getElem?_replicate] at h2
        split at h2 <;> cases h2
    have ha : vs[i]? = some v := by
      unfold start at h2
      rw [List.getElem?_append_left (by simpa using hi), List.getElem?_map] at h2
      cases e : vs[i]? with
      | none => rw [e] at h2; cases h2
      | some a => rw [e] at h2; cases h2; rfl
    obtain ⟨u, hu, rv⟩ := r.get ha
    have hp : ps[i]? = some y := by
      rw [← S.pre, List.getElem?_take_of_lt (by omega)]; exact h1
    have ndP : ps.Nodup := by rw [← S.pre]; exact S.nd.sublist (List.take_sublist _ _)
    refine ⟨u, rv, ?_⟩
    rcases S.par y (List.mem_of_getElem? hp) with k | k
    · exact .inl ⟨k, bindL_get ndP hp hu k⟩
    · obtain ⟨c, e⟩ := cell_has (n := s.heap.objs.size + 1) k
      refine .inr ⟨.inl k, c, e, ?_⟩
      have q := x.cell y c e
      rw [bindC_get ndP hp hu (by show scope.names.lookup y ≠ _; rw [k]; decide)] at q
      exact q
  · exact e0.hok.fresh (Nat.le_of_lt (x.above y c (PySem.mem_of_lookup h)))
  · unfold start
    show _ = N.length
    rw [List.length_append, List.length_map, List.length_replicate]
    omega

theorem fn_of {CX : CXT} {P : Program} {w : World} {K : PySem.W.Frag} {mg : Str → Option Value} {base : Heap} {k : Nat} {f : Addr} {name qual : Str} {params : Arguments} {body : List Stmt} {scope : Scope} {dV kV doc pm cdv ct oc : Value} {an od : Option Addr}
    {osl : Array (Option Value)} {N ps : List Str} {sp : Sp} (lk : K.lookup f = some ⟨oc, od, .func (PySem.W.fnOf name qual params body scope dV kV doc pm an cdv ct), osl⟩) (hcd : PySem.W.codeIn K cdv qual = true) (S : FnScope N ps scope)
    (len : ∀ vs H Q E, sp vs H Q E → vs.length = ps.length)
    (hbody : ∀ (A : Around) (outer : List Env) (s : Shared) (H : Hp) (vs : List V) (Q : VK) (E : XK), Room k (A.deeper (envOfC qual scope s.heap.objs.size f cdv)) → sp vs H Q E →
      ∃ t, PSs (cxOf CX P w K mg base N qual scope f cdv A outer s H E) body t ∧ t { nx := fun _ H' => Q .non H', rt := Q } (start N vs) H) :
    FnOk P w K mg base CX (k + 1) f (PySem.W.fnOf name qual params body scope dV kV doc pm an cdv ct) ps sp := by
  refine ⟨len, fun A outer s H args us vs Q E hr e0 hb r hsp => ?_⟩
  have hl := len _ _ _ _ hsp
  have KX : K.In s.heap := e0.mod.kin.keeps fun b o e => (e0.bs b o e).1
  have lim : s.heap.NoLimit := e0.mod.nolimit.keeps fun b o e => (e0.bs b o e).1
  have hkind : ∀ y ∈ ps.zip us, scope.names.lookup y.1 = some .local ∨ (scope.names.lookup y.1 = some .cell ∧ ((cellsFrom (s.heap.objs.size + 1) scope.names []).lookup y.1).isSome = true) := fun ⟨n, v⟩ hy => by
    rcases S.par n (List.of_mem_zip hy).1 with q | q
    · exact .inl q
    · exact .inr ⟨q, PySem.W.cellsFrom_some _ _ _ (.inl q)⟩
  refine codeAny_call_function hr.depth (KX _ _ lk) rfl S.co S.gen rfl (PySem.W.codeRec_of KX hcd) (hb _ _ _ _ ?_)
  refine wpAny_newFunctionEnv_cells S.kind hkind fun env he s1 x => ?_
  subst he
  refine ⟨lim.keeps x.toInCall.keep, codeAny_func ?_⟩
  obtain ⟨t, ht, hq⟩ := hbody A outer s H vs Q E (hr.deeper _) hsp
  have I : Inv (cxOf CX P w K mg base N qual scope f cdv A outer s H E) [] (start N vs) H s1 := inv_start S hr.hd e0 hl r x
  refine wpAny_mono (ht [] s1 (start N vs) H _ I hq) (fun fl s' hs => ?_) fun e s' hs => hs
  have fin : ∀ {σ' : St} {H' : Hp} {v : V} {u : Value}, Inv (cxOf CX P w K mg base N qual scope f cdv A outer s H E) [] σ' H' s' → RelV v u → Q v H' → CE outer P w H s Q u s' :=
    fun {σ' H' v u} J rv q => ⟨v, H', J.os, J.bare, J.base, J.hok, rv, q⟩
  cases fl with
  | ret u =>
    obtain ⟨v, σ', H', J, rv, q⟩ := hs
    exact fin J rv q
  | next =>
    obtain ⟨σ', H', J, q⟩ := hs
    exact fin (v := V.non) (u := Value.none) J rfl q
  | brk =>
    obtain ⟨_, _, _, q⟩ := hs
    exact False.elim q
  | cont =>
    obtain ⟨_, _, _, q⟩ := hs
    exact False.elim q
end L2

namespace L2
open PySem PySem.Spec PyProof.Rows
section
variable {X : Cx} {x : Str} {p pos : Pos} {e : Expr} {es : List Expr} {t : TA} {id T : String} {r : List V → Hp → VK → Prop}

noncomputable def tCB (r : List V → Hp → VK → Prop) (t : TA) : TE := fun σ H Q => t σ H fun vs H1 => r vs H1 Q
theorem pe_callB (hc : CallR X (.builtin id) r) (hg : Gl X x) (hm : X.mg x = none) (hv : bootBuiltins x = some (.builtin id)) (ha : PA X (e :: es) t) (hn : autoParam (x ≠ "__name__") L2.auto2._auto_1) (hdb : autoParam ((x == ("__debug__" : Str)) = false) L2.auto2._auto_1)
    (he : autoParam (starEach (e :: es) X.env = (false, eval e X.env) :: starEach es X.env) L2.auto4._auto_1) (hpl : autoParam ((backTo pos (starEach es X.env)).any (·.1) = false) L2.auto4._auto_1) : PE X (.Call (.Name x p) (e :: es) [] pos) (tCB r t) := by
  intro pins s σ H Q I h
  refine wpAny_Call_Name_kw (ld_blt I hg hm hv ?_ hn hdb)
  exact PyProof.Rows.callWith_builtin1 (thn (ha pos pins s σ H _ I h) fun us s1 ⟨vs, H1, I1, r1, q1⟩ => hc pins s1 σ H1 vs us Q I1 r1 q1) he hpl
theorem pe_callTy (hc : CallR X (.type T) r) (hg : Gl X x) (hm : X.mg x = none) (hv : bootBuiltins x = some (.type T)) (ha : PA X (e :: es) t) (hn : autoParam (x ≠ "__name__") L2.auto2._auto_1) (hdb : autoParam ((x == ("__debug__" : Str)) = false) L2.auto2._auto_1)
    (he : autoParam (starEach (e :: es) X.env = (false, eval e X.env) :: starEach es X.env) L2.auto4._auto_1) (hpl : autoParam ((backTo pos (starEach es X.env)).any (·.1) = false) L2.auto4._auto_1) : PE X (.Call (.Name x p) (e :: es) [] pos) (tCB r t) := by
  intro pins s σ H Q I h
  refine wpAny_Call_Name_kw (ld_blt I hg hm hv ?_ hn hdb)
  exact PyProof.Rows.callWith_type1 (thn (ha pos pins s σ H _ I h) fun us s1 ⟨vs, H1, I1, r1, q1⟩ => hc pins s1 σ H1 vs us Q I1 r1 q1) he hpl
end
end L2

namespace HT
open PySem PyProof.Rows

section
open PySem.SeqAt
open PySem.AutoSeq1 (wpAny_loadPart')
open PySem.MeetsSeq PySem.MeetsSeq2 PySem.MeetsSeq3

end

section
variable {prog : Program} {w : World} {A : Around} {E : Value → Shared → Prop} {s : Shared}

noncomputable def sIx (n d : Nat) : Option Int → Nat
  | none => d
  | some v => if v < 0 then (v + (n : Int)).toNat else min v.toNat n
theorem sIx_le (n d : Nat) (hd : d ≤ n) (o : Option Int) : sIx n d o ≤ n := by
  cases o with
  | none => exact hd
  | some v =>
    show (if v < 0 then (v + (n : Int)).toNat else min v.toNat n) ≤ n
    by_cases hv : v < 0
    · rw [if_pos hv]; omega
    · rw [if_neg hv]; exact Nat.min_le_right _ _
theorem clip_eq (v : Int) (n d : Nat) : (if v < 0 then max (v + (n : Int)) 0 else min v (n : Int)) = ((sIx n d (some v) : Nat) : Int) := by
  show (if v < 0 then max (v + (n : Int)) 0 else min v (n : Int)) = (((if v < 0 then (v + (n : Int)).toNat else min v.toNat n) : Nat) : Int)
  by_cases hv : v < 0
  · simp only [if_pos hv]; omega
  · simp only [if_neg hv]; omega
theorem adjust_gen (lo hi : Option Int) (n : Nat) : Builtin.Slice.sliceAdjust lo hi 1 (n : Int) = (((sIx n 0 lo : Nat) : Int), ((sIx n n hi : Nat) : Int)) := by
  have h1 : ¬ ((1 : Int) < 0) := by omega
  unfold Builtin.Slice.sliceAdjust
  simp only [h1, if_false]
  refine Prod.ext ?_ ?_
  · cases lo with
    | none => rfl
    | some v => exact clip_eq v n 0
  · cases hi with
    | none => rfl
    | some v => exact clip_eq v n n
theorem places_gen (i j : Nat) : Builtin.Slice.slicePlaces (i : Int) (j : Int) 1 = j - i := by
  unfold Builtin.Slice.slicePlaces
  have h1 : (1 : Int) > 0 := by omega
  simp only [h1, if_true, Int.ediv_one]
  split <;> omega
theorem slicePart_ {v : Value} {o : Option Int} {Q : Option Int → Shared → Prop} (p : IsPart v o) (h : Q o s) : wpAny (model prog w) A (Builtin.Slice.slicePartIndex v) Q E s := by
  cases p with
  | none => exact slicePart_none h
  | int i t => exact slicePart_int h
theorem sliceApplied_gen {sl : Addr} {vl vu : Value} {lo hi : Option Int} {n : Nat} {Q : Int × Int × Nat → Shared → Prop} (hs : s.heap.IsSliceOf sl vl vu .none) (pl : IsPart vl lo) (pu : IsPart vu hi)
    (h : Q (((sIx n 0 lo : Nat) : Int), 1, sIx n n hi - sIx n 0 lo) s) : wpAny (model prog w) A (Builtin.Slice.sliceApplied (.ref sl) (pure (n : Int))) Q E s := by
  obtain ⟨os, hos, hcs, hds⟩ := id hs
  unfold Builtin.Slice.sliceApplied Builtin.Slice.sliceFields
  refine wpAny_bind (wpAny_bind (wpAny_field hos hds (x := vl) rfl (wpAny_bind (wpAny_field hos hds (x := vu) rfl (wpAny_bind (wpAny_field hos hds (x := .none) rfl (wpAny_pure ?_)))))))
  refine wpAny_bind (slicePart_none ?_)
  show wpAny _ _ (if ((1 : Int) == 0) = true then _ else _) _ _ s
  rw [if_neg (by decide)]
  refine wpAny_bind (slicePart_ pl (wpAny_bind (slicePart_ pu (wpAny_bind (wpAny_pure ?_)))))
  show wpAny _ _ (match Builtin.Slice.sliceAdjust lo hi 1 (n : Int) with | (lo, hi) => pure (lo, (1 : Int), Builtin.Slice.slicePlaces lo hi 1)) _ _ s
  rw [adjust_gen lo hi n]
  show wpAny _ _ (pure (((sIx n 0 lo : Nat) : Int), (1 : Int), Builtin.Slice.slicePlaces ((sIx n 0 lo : Nat) : Int) ((sIx n n hi : Nat) : Int) 1)) _ _ s
  rw [places_gen]
  exact wpAny_pure h
theorem pick_gen (xs : Array Value) (i k : Nat) : ((List.range k).filterMap fun (m : Nat) => xs[((i : Int) + (m : Int) * 1).toNat]?).toArray = ((xs.toList.drop i).take k).toArray := by
  have e : (fun (m : Nat) => xs[((i : Int) + (m : Int) * 1).toNat]?) = fun m => xs[i + m]? := by
    funext m
    have : ((i : Int) + (m : Int) * 1).toNat = i + m := by omega
    rw [this]
  rw [e]
  have := pick_run xs i k
  rw [List.filterMap_map] at this
  have e2 : ((fun x => xs[x]?) ∘ fun x => i + x) = fun m => xs[i + m]? := rfl
  rw [e2] at this
  rw [this]

theorem getItem_tuple_cut {t sl : Addr} {items : Array Value} {vl vu : Value} {lo hi : Option Int} {Q : Value → Shared → Prop} (ht : IsTup s.heap t items) (hs : s.heap.IsSliceOf sl vl vu .none) (pl : IsPart vl lo) (pu : IsPart vu hi)
    (hw : ¬ (sIx items.size 0 lo = 0 ∧ sIx items.size items.size hi = items.size))
    (h : Q (.ref s.heap.objs.size) { s with heap := s.heap.push { cls := .type "tuple", data := .seq ((items.toList.drop (sIx items.size 0 lo)).take (sIx items.size items.size hi - sIx items.size 0 lo)).toArray } })
    (hsz : items.size ≤ sizeLine) : wpAny (model prog w) A (getItem (.ref t) (.ref sl)) Q E s := by
  have htake : sizeOk (.seq ((items.toList.drop (sIx items.size 0 lo)).take (sIx items.size items.size hi - sIx items.size 0 lo)).toArray) := by
    show ((items.toList.drop (sIx items.size 0 lo)).take (sIx items.size items.size hi - sIx items.size 0 lo)).toArray.size ≤ sizeLine
    rw [List.size_toArray, List.length_take, List.length_drop, Array.length_toList]
    omega
  have hj : sIx items.size items.size hi ≤ items.size := sIx_le _ _ (Nat.le_refl _) hi
  obtain ⟨os, hos, hcs, hds⟩ := id hs
  have hTs : s.TypeIs (.ref sl) "slice" := ⟨os, hos, hcs⟩
  unfold getItem
  try with_reducible refine wpAny_holding ?_
  first | refine wpAny_bind (wpAny_pure ?_) | skip
  refine wpAny_bind (wpAny_sequenceKey ht.typeIs (by decide) ?_)
  refine wpAny_bind (wpAny_callSpecial?_slot (name := Str.ofString "__getitem__") ht.typeIs PyProof.Rows.slot_tuple_getitem
    (wpAny_call_entry PyProof.Rows.slot_tuple_getitem ht.typeIs entry_tuple_getitem ?_ (args_tuple_getitem _ _)))
  show wpAny _ _ (Builtin.Tuple.tupleItemsOf (.ref t) >>= _) _ _ s
  refine wpAny_bind (tupleItemsOf_ ht ?_)
  refine wpAny_bind (wpAny_typeOf hTs ?_)
  rw [if_pos (by decide)]
  refine wpAny_bind (sliceApplied_gen hs pl pu ?_)
  have hno : ¬ ((((sIx items.size 0 lo : Nat) : Int) == 0 && (1 : Int) == 1 && (sIx items.size items.size hi - sIx items.size 0 lo) == items.size) = true) := by
    intro q
    rw [Bool.and_eq_true, Bool.and_eq_true] at q
    have q1 : ((sIx items.size 0 lo : Nat) : Int) = 0 := eq_of_beq q.1.1
    have q2 : sIx items.size items.size hi - sIx items.size 0 lo = items.size := eq_of_beq q.2
    exact hw ⟨by omega, by omega⟩
  show wpAny _ _ (if (((sIx items.size 0 lo : Nat) : Int) == 0 && (1 : Int) == 1 && (sIx items.size items.size hi - sIx items.size 0 lo) == items.size) = true then _ else _) _ _ s
  rw [if_neg hno, pick_gen]
  first
    | exact wpAny_bind (m := Builtin.Tuple.tupleExact _) (wpAny_newObj_type (wpAny_pure ⟨_, rfl, wpAny_pure h⟩) htake)
    | exact wpAny_bind (m := Builtin.Tuple.tupleExact _) (wpAny_newObj_type (wpAny_bind (wpAny_pure (wpAny_pure ⟨_, rfl, wpAny_pure h⟩))) htake)
    | exact wpAny_bind (wpAny_bind (m := Builtin.Tuple.tupleExact _) (wpAny_newObj_type (wpAny_pure (wpAny_pure ⟨_, rfl, wpAny_pure h⟩)) htake))
    | exact wpAny_bind (wpAny_bind (m := Builtin.Tuple.tupleExact _) (wpAny_newObj_type (wpAny_pure ⟨_, rfl, wpAny_pure h⟩) htake))
end
end HT

namespace L2
open PySem PySem.Spec PyProof.Rows

noncomputable abbrev TO := St → Hp → (Option Int → Hp → Prop) → Prop
noncomputable def PO (X : Cx) (e : Option Expr) (t : TO) : Prop :=
  ∀ (pins : List (Addr × Obj)) (s : Shared) (σ : St) (H : Hp) (Q : Option Int → Hp → Prop), Inv X pins σ H s → t σ H Q →
    wpAny (model X.prog X.w) X.A (evalPart e X.env) (fun u s' => ∃ o H', Inv X pins σ H' s' ∧ IsPart u o ∧ Q o H') X.xe s
noncomputable def tNoPart : TO := fun _ H Q => Q none H
noncomputable def tPart (t : TE) : TO := fun σ H Q => t σ H fun x H1 => ∃ i, x = .int i ∧ Q (some i) H1

theorem intsAre_of {ns : List Int} : ∀ {us : List Value}, Vals (ns.map V.int) us → IntsAre us ns := by
  induction ns with
  | nil => intro us r; rw [List.map_nil] at r; cases r; exact .nil
  | cons n ns ih =>
    intro us r
    rw [List.map_cons] at r
    cases r with
    | cons r1 r2 =>
      obtain ⟨t, e⟩ := r1
      subst e
      exact .cons n t (ih r2)

section
variable {X : Cx} {e : Expr} {te : TE} {lo hi : Option Expr} {tl th : TO} {pos p2 : Pos}

theorem po_none : PO X none tNoPart := by
  intro pins s σ H Q I h
  rw [evalPart_none]
  exact wpAny_pure ⟨none, H, I, .none, h⟩
theorem po_some (h : PE X e te) : PO X (some e) (tPart te) := by
  intro pins s σ H Q I hw
  rw [evalPart_some]
  refine thn (h pins s σ H _ I hw) fun u s1 qq0 => ?_
  obtain ⟨x, H1, I1, r1, q1⟩ := qq0
  obtain ⟨i, rfl, q⟩ := q1
  obtain ⟨t, rfl⟩ := r1
  exact ⟨some i, H1, I1, .int i t, q⟩

noncomputable def SlR (X : Cx) (r : V → Option Int → Option Int → Hp → VK → Prop) : Prop :=
  ∀ (pins : List (Addr × Obj)) (s : Shared) (σ : St) (H : Hp) (x : V) (v vl vu : Value) (lo hi : Option Int) (sl : Addr) (Q : VK), Inv X pins σ H s → RelV x v → s.heap.IsSliceOf sl vl vu .none → IsPart vl lo → IsPart vu hi → r x lo hi H Q →
    ∃ T id, typeLookup (.type T) "__getitem__" = pure (some (.builtin id)) ∧ s.TypeIs v T ∧ wpAny (model X.prog X.w) X.A (getItem v (.ref sl)) (EP X pins σ Q) X.xe s
theorem SlR.or {r r' : V → Option Int → Option Int → Hp → VK → Prop} (h : SlR X r) (h' : SlR X r') : SlR X (fun x lo hi H Q => r x lo hi H Q ∨ r' x lo hi H Q) := by
  intro pins s σ H x v vl vu lo hi sl Q I rx hs pl pu q
  rcases q with q | q
  · exact h pins s σ H x v vl vu lo hi sl Q I rx hs pl pu q
  · exact h' pins s σ H x v vl vu lo hi sl Q I rx hs pl pu q
noncomputable def tSl (r : V → Option Int → Option Int → Hp → VK → Prop) (te : TE) (tl th : TO) : TE := fun σ H Q => te σ H fun x H1 => tl σ H1 fun l H2 => th σ H2 fun u H3 => r x l u H3 Q
theorem pe_slice {r : V → Option Int → Option Int → Hp → VK → Prop} (hr : SlR X r) (he : PE X e te) (hl : PO X lo tl) (hu : PO X hi th) : PE X (.Subscript e (.Slice lo hi none p2) pos) (tSl r te tl th) := by
  intro pins s σ H Q I h
  refine Subscript_ (thn (he pins s σ H _ I h) fun v s1 qq0 => ?_)
  obtain ⟨x, H1, I1, r1, q1⟩ := qq0
  refine wpAny_Slice (thn (hl pins s1 σ H1 _ I1 q1) fun vl s2 ⟨l, H2, I2, pl, q2⟩ => thn (hu pins s2 σ H2 _ I2 q2) fun vu s3 qq0 => ?_)
  obtain ⟨u, H3, I3, pu, q3⟩ := qq0
  rw [evalPart_none]
  refine wpAny_pure ?_
  have I4 : Inv X pins σ H3 { s3 with heap := s3.heap.push { cls := .type "slice", data := .fields #[vl, vu, .none] } } := I3.kept (t' := s3.toks) fun b ob q => Heap.get?_push_of_some _ q
  obtain ⟨T, id, hT, ht, hg⟩ := hr pins { s3 with heap := s3.heap.push { cls := .type "slice", data := .fields #[vl, vu, .none] } } σ H3 x v vl vu l u s3.heap.objs.size Q I4 r1 (Heap.IsSliceOf.new ..) pl pu q3
  show wpAny (model X.prog X.w) X.A (subscriptTail e (.Slice lo hi none p2) v (.ref s3.heap.objs.size)) (EP X pins σ Q) X.xe { s3 with heap := s3.heap.push { cls := .type "slice", data := .fields #[vl, vu, .none] } }
  exact tail_any (ops := [.ref s3.heap.objs.size, v]) ht hT hg (by with_unfolding_all rfl)

noncomputable def cutV (xs : List V) (lo hi : Option Int) : List V := (xs.drop (HT.sIx xs.length 0 lo)).take (HT.sIx xs.length xs.length hi - HT.sIx xs.length 0 lo)
theorem cutV_length (xs : List V) (lo hi : Option Int) : (cutV xs lo hi).length ≤ xs.length := by
  unfold cutV
  rw [List.length_take, List.length_drop]
  omega
noncomputable def rSlT (K : PySem.W.Frag) : V → Option Int → Option Int → Hp → VK → Prop := fun x lo hi H Q => ∃ a xs, x = .ref a ∧ SqT K H a xs ∧
  ¬ (HT.sIx xs.length 0 lo = 0 ∧ HT.sIx xs.length xs.length hi = xs.length) ∧ ∀ p, H p = none → Q (.ref p) (upd H p (.tup (cutV xs lo hi)))
theorem sl_tup : SlR X (rSlT X.K) := by
  intro pins s σ H x v vl vu lo hi sl Q I rx hs pl pu h
  obtain ⟨a, xs, rfl, hx, hw, q⟩ := h
  cases rx
  obtain ⟨its, r, ht, hz⟩ := I.tuple hx
  have hlen : its.toArray.size = xs.length := by rw [List.size_toArray]; exact r.length.symm
  refine ⟨"tuple", _, PyProof.Rows.slot_tuple_getitem.lookup, ht.typeIs, ?_⟩
  refine HT.getItem_tuple_cut ht hs pl pu (by rw [hlen]; exact hw) ?_ (by rw [hlen]; exact hz)
  rw [hlen]
  refine ⟨.ref s.heap.objs.size, _, I.laid (t' := s.toks) (o := .tup (cutV xs lo hi)) (fun b ob q => Heap.get?_push_of_some _ q) (Nat.le_refl _) ?_, rfl, q _ (I.hok.fresh (Nat.le_refl _))⟩
  exact ⟨Nat.le_trans (cutV_length xs lo hi) hz, _, (r.drop (HT.sIx xs.length 0 lo)).take (HT.sIx xs.length xs.length hi - HT.sIx xs.length 0 lo), IsTup.new _ _⟩

end
end L2

namespace L2
open PySem PySem.Spec PyProof.Rows

noncomputable def ixN (n : Nat) (i : Int) : Option Nat := if 0 ≤ i then (if i < n then some i.toNat else none) else if -(n : Int) ≤ i then some (i + n).toNat else none
noncomputable def atI {α : Type} (xs : List α) (i : Int) : Option α := (ixN xs.length i).bind fun j => xs[j]?
theorem ixN_seq {n : Nat} {i : Int} {j : Nat} (h : ixN n i = some j) : seqIndex? i n = some j ∧ j < n ∧ -(n : Int) ≤ i ∧ i < n := by
  unfold ixN at h
  by_cases h0 : 0 ≤ i
  · rw [if_pos h0] at h
    by_cases h1 : i < n
    · rw [if_pos h1] at h
      have e : i.toNat = j := Option.some.inj h
      exact ⟨by rw [seqIndex_of h0 h1, e], by omega, by omega, h1⟩
    · rw [if_neg h1] at h; cases h
  · rw [if_neg h0] at h
    by_cases h1 : -(n : Int) ≤ i
    · rw [if_pos h1] at h
      have e : (i + n).toNat = j := Option.some.inj h
      exact ⟨by rw [seqIndex_neg (by omega) h1, e], by omega, h1, by omega⟩
    · rw [if_neg h1] at h; cases h
theorem atI_get {α : Type} {xs : List α} {i : Int} {v : α} (h : atI xs i = some v) : ∃ j, seqIndex? i xs.length = some j ∧ xs[j]? = some v ∧ j < xs.length ∧ -(xs.length : Int) ≤ i ∧ i < xs.length := by
  unfold atI at h
  cases e : ixN xs.length i with
  | none => rw [e] at h; cases h
  | some j =>
    rw [e] at h
    obtain ⟨h1, h2, h3, h4⟩ := ixN_seq e
    exact ⟨j, h1, h, h2, h3, h4⟩
theorem atI_nat {α : Type} {xs : List α} {j : Nat} {v : α} (h : xs[j]? = some v) : atI xs (j : Int) = some v := by
  have hj : j < xs.length := (List.getElem?_eq_some_iff.mp h).1
  have e : ixN xs.length (j : Int) = some j := by
    unfold ixN
    rw [if_pos (by omega), if_pos (by omega)]; simp
  unfold atI; rw [e]; exact h
noncomputable def PlainIx (b : Expr) : Prop := ∀ o i, subscripted b false o i = operate [o, i] (getItem o i)
noncomputable def IxR (X : Cx) (r : R2) : Prop :=
  ∀ (value slice : Expr) (pins : List (Addr × Obj)) (s : Shared) (σ : St) (H : Hp) (x y : V) (v u : Value) (Q : VK), Inv X pins σ H s → RelV x v → RelV y u → r x y H Q →
    subscripted slice false v u = operate [v, u] (getItem v u) → wpAny (model X.prog X.w) X.A (subscriptTail value slice v u) (EP X pins σ Q) X.xe s
noncomputable def MtR (X : Cx) (id : String) (r : V → List V → Hp → VK → Prop) : Prop :=
  ∀ (pins : List (Addr × Obj)) (s : Shared) (σ : St) (H : Hp) (x : V) (xs : List V) (v : Value) (us : List Value) (Q : VK), Inv X pins σ H s → RelV x v → Vals xs us → r x xs H Q →
    wpAny (model X.prog X.w) X.A (call (.builtin id) (v :: us)) (EP X pins σ Q) X.xe s
section
variable {X : Cx} {a b : Expr} {ta tb : TE} {pos : Pos}
theorem IxR.or {r r' : R2} (h : IxR X r) (h' : IxR X r') : IxR X (fun x y H Q => r x y H Q ∨ r' x y H Q) := by
  intro value slice pins s σ H x y v u Q I rx ry q hs
  rcases q with q | q
  · exact h value slice pins s σ H x y v u Q I rx ry q hs
  · exact h' value slice pins s σ H x y v u Q I rx ry q hs
theorem pe_ix {r : R2} (hr : IxR X r) (ha : PE X a ta) (hb : PE X b tb) (hs : PlainIx b) : PE X (.Subscript a b pos) (tOp r ta tb) := by
  intro pins s σ H Q I h
  exact Subscript_ (binT ha hb I h fun v u s2 x y H2 I2 rx ry q => hr a b pins s2 σ H2 x y v u Q I2 rx ry q (hs _ _))

noncomputable def rIxL (K : PySem.W.Frag) : R2 := fun x y H Q => ∃ p xs i v, x = .ref p ∧ y = .int i ∧ SqL K H p xs ∧ atI xs i = some v ∧ Q v H
noncomputable def rIxT (K : PySem.W.Frag) : R2 := fun x y H Q => ∃ p xs i v, x = .ref p ∧ y = .int i ∧ SqT K H p xs ∧ atI xs i = some v ∧ Q v H
noncomputable def rIxS : R2 := fun x y H Q => ∃ z i c, x = .str z ∧ y = .int i ∧ z.length ≤ sizeLine ∧ atI z.cps.toList i = some c ∧ Q (.str ⟨#[c]⟩) H
theorem ix_list : IxR X (rIxL X.K) := by
  intro value slice pins s σ H x y v u Q I rx ry h hs
  obtain ⟨p, xs, i, z, rfl, rfl, hq, he, q⟩ := h
  cases rx
  obtain ⟨t, rfl⟩ := ry
  obtain ⟨its, r, pl, hz⟩ := I.list hq
  obtain ⟨j, h1, h2, h3, h4, h5⟩ := atI_get he
  obtain ⟨w, ew, rw'⟩ := r.get h2
  have hl := r.length
  have hn := line63
  have fin : EP X pins σ Q w s := ⟨z, H, I, rw', q⟩
  by_cases h0 : 0 ≤ i
  · have hj : i.toNat = j := by
      rw [seqIndex_of h0 h5] at h1
      exact Option.some.inj h1
    exact item_listR pl.isList h0 (by omega) (by rw [hj]; simpa using ew) fin hs
  · have hj : (i + (its.toArray.size : Int)).toNat = j := by
      rw [seqIndex_neg (by omega) h4] at h1
      rw [List.size_toArray, ← hl]
      exact Option.some.inj h1
    exact subscriptTail_builtinR (x := w) pl.isList.typeIs slot_list_getitem.lookup
      (wpAny_getItem_list_neg (Q := fun r s' => r = w ∧ EP X pins σ Q r s') pl.isList (by omega) (by rw [List.size_toArray] <;> omega) (by omega) (by rw [hj]; simpa using ew) ⟨rfl, fin⟩) hs
theorem ix_tup : IxR X (rIxT X.K) := by
  intro value slice pins s σ H x y v u Q I rx ry h hs
  obtain ⟨p, xs, i, z, rfl, rfl, hq, he, q⟩ := h
  cases rx
  obtain ⟨t, rfl⟩ := ry
  obtain ⟨its, r, pl, hz⟩ := I.tuple hq
  obtain ⟨j, h1, h2, h3, h4, h5⟩ := atI_get he
  obtain ⟨w, ew, rw'⟩ := r.get h2
  have hl := r.length
  have hn := line63
  have fin : EP X pins σ Q w s := ⟨z, H, I, rw', q⟩
  exact subscriptTail_builtinR (x := w) pl.typeIs slot_tuple_getitem.lookup
    (getItem_tuple (j := j) (Q := fun r s' => r = w ∧ EP X pins σ Q r s') pl (by omega) (by omega) (by rw [List.size_toArray, ← hl]; exact h1) (by simpa using ew) ⟨rfl, fin⟩) hs
theorem ix_str : IxR X rIxS := by
  intro value slice pins s σ H x y v u Q I rx ry h hs
  obtain ⟨z, i, c, rfl, rfl, hz, he, q⟩ := h
  obtain ⟨t, rfl⟩ := rx
  obtain ⟨t', rfl⟩ := ry
  obtain ⟨j, h1, h2, h3, h4, h5⟩ := atI_get he
  have hl : z.cps.toList.length = z.length := by simp [Str.length]
  rw [hl] at h1 h4 h5
  have hn := line63
  exact tail_any (typeIs_str s z t) slot_str_getitem.lookup (getItem_str (c := c) (by
    have e1 : decide (i < -(2 ^ 63 : Int)) = false := decide_eq_false (by omega)
    have e2 : decide (i ≥ 2 ^ 63) = false := decide_eq_false (by omega)
    rw [e1, e2, Bool.or_false]) (by rw [h1]; simpa using h2) ⟨.str ⟨#[c]⟩, H, I.tok _, ⟨_, rfl⟩, q⟩) hs
noncomputable def rIx (K : PySem.W.Frag) : R2 := fun x y H Q => rIxL K x y H Q ∨ rIxT K x y H Q ∨ rIxS x y H Q
theorem ix_seq : IxR X (rIx X.K) := ix_list.or (ix_tup.or ix_str)

theorem mapSeq_set (its : List Value) (n j : Nat) (u : Value) : Obj.mapSeq (·.setIfInBounds j u) { cls := .type "list", data := .seq its.toArray n } = { cls := .type "list", data := .seq (its.set j u).toArray n } := by
  simp [Obj.mapSeq]
theorem Inv.lst {pins : List (Addr × Obj)} {σ : St} {H : Hp} {s : Shared} {p : Addr} {xs : List V} (I : Inv X pins σ H s) (h : H p = some (.lst xs)) :
    ∃ (its : List Value) (n : Nat), Vals xs its ∧ s.heap.get? p = some { cls := .type "list", data := .seq its.toArray n } ∧ xs.length ≤ sizeLine := by
  obtain ⟨z, its, n, r, e⟩ := I.hok p _ h
  exact ⟨its, n, r, e, z⟩
theorem Inv.lstUpd {pins : List (Addr × Obj)} {σ : St} {H : Hp} {s : Shared} {p : Addr} {xs ys : List V} {its its' : List Value} {n n' : Nat} {f : Obj → Obj} (I : Inv X pins σ H s) (h : H p = some (.lst xs))
    (ho : s.heap.get? p = some { cls := .type "list", data := .seq its.toArray n }) (hf : f { cls := .type "list", data := .seq its.toArray n } = { cls := .type "list", data := .seq its'.toArray n' }) (r : Vals ys its') (hz : ys.length ≤ sizeLine) (t : Nat) :
    Inv X pins σ (upd H p (.lst ys)) { s with heap := s.heap.update p f, toks := t } := by
  have e : (s.heap.update p f).get? p = some { cls := .type "list", data := .seq its'.toArray n' } := by
    rw [Heap.get?_update_self f ho (by rw [hf] <;> rfl), hf]
  refine I.write (x := p) (e := p) (by rw [h]; trivial) (.inl rfl) (fun b u hb q => (Heap.get?_update_other _ _ (Ne.symm hb)).trans q) ⟨_, e⟩ ?_
  exact ⟨hz, its', n', r, e⟩
noncomputable def rSetL : V → V → V → Hp → (Hp → Prop) → Prop := fun o i v H Q => ∃ p xs k j, o = .ref p ∧ i = .int k ∧ H p = some (.lst xs) ∧ ixN xs.length k = some j ∧ Q (upd H p (.lst (xs.set j v)))
theorem set_list : PSet X rSetL := by
  intro pins s σ H o i v ov iv u Q I ro ri rv h
  obtain ⟨p, xs, k, j, rfl, rfl, hp, hj, q⟩ := h
  cases ro
  obtain ⟨t, rfl⟩ := ri
  obtain ⟨its, n, r, ho, hz⟩ := I.lst hp
  obtain ⟨h1, h2, h3, h4⟩ := ixN_seq hj
  have hl := r.length
  have hn := line63
  have I' : Inv X pins σ (upd H p (.lst (xs.set j v))) { s with heap := s.heap.update p (Obj.mapSeq (·.setIfInBounds j u)) } :=
    I.lstUpd hp ho (mapSeq_set its n j u) (r.set rv j) (by rw [List.length_set]; exact hz) s.toks
  by_cases h0 : 0 ≤ k
  · have hk : k.toNat = j := by
      rw [seqIndex_of h0 h4] at h1
      exact Option.some.inj h1
    exact PySem.W.ki_setAt ho h0 (by omega) (by rw [List.size_toArray, ← hl]; exact h4) (by rw [hk]; exact ⟨_, I', q⟩)
  · have hk : (k + (its.toArray.size : Int)).toNat = j := by
      rw [seqIndex_neg (by omega) h3] at h1
      rw [List.size_toArray, ← hl]
      exact Option.some.inj h1
    exact PySem.W.ki_setBack ho (by omega) (by rw [List.size_toArray, ← hl]; exact h3) (by omega) (by rw [hk]; exact ⟨_, I', q⟩)

theorem slice_bounds (lo hi : Option Int) (n : Nat) : (sliceBounds lo hi none n).1 = ((HT.sIx n 0 lo : Nat) : Int) ∧ (sliceBounds lo hi none n).2.1 = ((HT.sIx n n hi : Nat) : Int) ∧ (sliceBounds lo hi none n).2.2 = 1 := by
  refine ⟨?_, ?_, rfl⟩
  · cases lo with
    | none => simp [sliceBounds, HT.sIx]
    | some i =>
      simp only [sliceBounds, HT.sIx, Option.getD_none, show (1 : Int) > 0 by decide, if_true]
      by_cases h : i < 0
      · simp only [h, if_true] <;> omega
      · simp only [h, if_false] <;> omega
  · cases hi with
    | none => simp [sliceBounds, HT.sIx]
    | some i =>
      simp only [sliceBounds, HT.sIx, Option.getD_none, show (1 : Int) > 0 by decide, if_true]
      by_cases h : i < 0
      · simp only [h, if_true] <;> omega
      · simp only [h, if_false] <;> omega
theorem slicePick_cut (its : List Value) (lo hi : Option Int) : slicePick its.toArray lo hi none = ((its.drop (HT.sIx its.length 0 lo)).take (HT.sIx its.length its.length hi - HT.sIx its.length 0 lo)).toArray := by
  obtain ⟨h1, h2, h3⟩ := slice_bounds lo hi its.toArray.size
  unfold slicePick
  rw [h1, h2, h3]
  simp only [sliceRange_one, pick_run, List.size_toArray] <;> rfl
noncomputable def rSlL (K : PySem.W.Frag) : V → Option Int → Option Int → Hp → VK → Prop := fun x lo hi H Q => ∃ a xs, x = .ref a ∧ SqL K H a xs ∧ ∀ p, H p = none → Q (.ref p) (upd H p (.lst (cutV xs lo hi)))
theorem sl_list : SlR X (rSlL X.K) := by
  intro pins s σ H x v vl vu lo hi sl Q I rx hs pl pu h
  obtain ⟨a, xs, rfl, hx, q⟩ := h
  cases rx
  obtain ⟨its, r, ht, hz⟩ := I.list hx
  have hlen := r.length
  refine ⟨"list", _, slot_list_getitem.lookup, ht.isList.typeIs, ?_⟩
  refine wpAny_getItem_list_slice ht.isList hs pl pu .none (by simp) ?_ (by rw [List.size_toArray] <;> omega)
  rw [slicePick_cut, ← hlen]
  refine ⟨.ref s.heap.objs.size, _, I.laid (t' := s.toks) (o := .lst (cutV xs lo hi)) (fun b ob q => Heap.get?_push_of_some _ q) (Nat.le_refl _) ?_, rfl, q _ (I.hok.fresh (Nat.le_refl _))⟩
  exact ⟨Nat.le_trans (cutV_length xs lo hi) hz, _, 0, (r.drop (HT.sIx xs.length 0 lo)).take (HT.sIx xs.length xs.length hi - HT.sIx xs.length 0 lo), Heap.get?_push_size _ rfl⟩

noncomputable def flatV : V → Bool
  | .non => true
  | .bl _ => true
  | .int _ => true
  | .str _ => true
  | _ => false
noncomputable def eqV : V → V → Bool
  | .non, .non => true
  | .bl a, .bl b => a == b
  | .bl a, .int b => (if a then 1 else 0) == b
  | .int a, .bl b => a == (if b then 1 else 0)
  | .int a, .int b => a == b
  | .str a, .str b => a == b
  | _, _ => false
theorem eqAt_V {A : Around} {s : Shared} {y x : V} {u v : Value} (ry : RelV y u) (rx : RelV x v) (fy : flatV y = true) (fx : flatV x = true) : SeqAt.EqAt A s u v (eqV y x) := by
  cases y with
  | non =>
    cases ry
    cases x with
    | non => cases rx; exact SeqAt.EqAt.same _
    | bl b => cases rx; exact SeqAt.EqAt.none_bool b
    | int b => obtain ⟨t, rfl⟩ := rx; exact SeqAt.EqAt.none_int b t
    | str b => obtain ⟨t, rfl⟩ := rx; exact SeqAt.EqAt.none_str b t
    | _ => exact absurd (show false = true from fx) Bool.false_ne_true
  | bl a =>
    cases ry
    cases x with
    | non => cases rx; exact SeqAt.EqAt.bool_none a
    | bl b => cases rx; exact SeqAt.EqAt.bool_bool a b
    | int b => obtain ⟨t, rfl⟩ := rx; exact SeqAt.EqAt.bool_int a b t
    | str b => obtain ⟨t, rfl⟩ := rx; exact SeqAt.EqAt.bool_str a b t
    | _ => exact absurd (show false = true from fx) Bool.false_ne_true
  | int a =>
    obtain ⟨t', rfl⟩ := ry
    cases x with
    | non => cases rx; exact SeqAt.EqAt.int_none a t'
    | bl b => cases rx; exact SeqAt.EqAt.int_bool a t' b
    | int b => obtain ⟨t, rfl⟩ := rx; exact SeqAt.EqAt.int_int a t' b t
    | str b => obtain ⟨t, rfl⟩ := rx; exact SeqAt.EqAt.int_str a t' b t
    | _ => exact absurd (show false = true from fx) Bool.false_ne_true
  | str a =>
    obtain ⟨t', rfl⟩ := ry
    cases x with
    | non => cases rx; exact SeqAt.EqAt.str_none a t'
    | bl b => cases rx; exact SeqAt.EqAt.str_bool a t' b
    | int b => obtain ⟨t, rfl⟩ := rx; exact SeqAt.EqAt.str_int a t' b t
    | str b => obtain ⟨t, rfl⟩ := rx; exact SeqAt.EqAt.str_str a t' b t
    | _ => exact absurd (show false = true from fx) Bool.false_ne_true
  | _ => exact absurd (show false = true from fy) Bool.false_ne_true
noncomputable def eqU (x : V) (u : Value) : Bool := match u with
  | .none => eqV .non x
  | .bool b => eqV (.bl b) x
  | .int i _ => eqV (.int i) x
  | .str z _ => eqV (.str z) x
  | _ => false
theorem eqU_of {x y : V} {u : Value} (r : RelV y u) (f : flatV y = true) : eqU x u = eqV y x := by
  cases y with
  | non => cases r; rfl
  | bl b => cases r; rfl
  | int i => obtain ⟨t, rfl⟩ := r; rfl
  | str z => obtain ⟨t, rfl⟩ := r; rfl
  | _ => exact absurd (show false = true from f) Bool.false_ne_true
theorem any_eqU {x : V} : ∀ {xs : List V} {us : List Value}, Vals xs us → xs.all flatV = true → us.any (eqU x) = xs.any fun y => eqV y x
  | _, _, .nil, _ => rfl
  | y :: xs, u :: us, .cons r t, f => by
    rw [List.all_cons, Bool.and_eq_true] at f
    rw [List.any_cons, List.any_cons, eqU_of r f.1, any_eqU t f.2]
theorem mem_eqAt {A : Around} {s : Shared} {x : V} {v : Value} (rx : RelV x v) (fx : flatV x = true) : ∀ {xs : List V} {us : List Value}, Vals xs us → xs.all flatV = true → ∀ u ∈ us, SeqAt.EqAt A s u v (eqU x u)
  | _, _, .nil, _ => fun u hu => by cases hu
  | y :: xs, u :: us, .cons r t, f => fun u' hu => by
    rw [List.all_cons, Bool.and_eq_true] at f
    rcases List.mem_cons.mp hu with rfl | hu
    · rw [eqU_of r f.1]; exact eqAt_V r rx f.1 fx
    · exact mem_eqAt rx fx t f.2 u' hu
noncomputable def inV (x : V) (xs : List V) : Bool := xs.any fun y => eqV y x
noncomputable def rIn (K : PySem.W.Frag) (neg : Bool) : R2 := fun x y H Q => ∃ p xs, y = .ref p ∧ (SqL K H p xs ∨ SqT K H p xs) ∧ flatV x = true ∧ xs.all flatV = true ∧ Q (.bl (if neg then !inV x xs else inV x xs)) H
theorem op_notIn_seq : OpR X (compareOp .NotIn) (rIn X.K true) := by
  intro pins s σ H x y v u Q I rx ry h
  obtain ⟨p, xs, rfl, hq, fx, fs, q⟩ := h
  cases ry
  rcases hq with hq | hq
  · obtain ⟨its, r, pl, hz⟩ := I.list hq
    refine SeqAt.notIn_listAt (eqU x) pl.isList (fun w hw => mem_eqAt rx fx r fs w (by simpa using hw)) ⟨.bl _, H, I, rfl, ?_⟩
    rw [show its.toArray.any (eqU x) = its.any (eqU x) by simp, any_eqU r fs]
    exact q
  · obtain ⟨its, r, pl, hz⟩ := I.tuple hq
    refine SeqAt.notIn_tupleAt (eqU x) pl (fun w hw => mem_eqAt rx fx r fs w (by simpa using hw)) ⟨.bl _, H, I, rfl, ?_⟩
    rw [show its.toArray.any (eqU x) = its.any (eqU x) by simp, any_eqU r fs]
    exact q
theorem op_notIn_str : OpR X (compareOp .NotIn) (fun x y H Q => ∃ i j, x = .str i ∧ y = .str j ∧ Q (.bl (!(!(Builtin.Str.occurrences j i 0 j.length 1).isEmpty))) H) := by
  intro pins s σ H x y v u Q I rx ry h
  obtain ⟨i, j, rfl, rfl, q⟩ := h
  obtain ⟨t, rfl⟩ := rx
  obtain ⟨t', rfl⟩ := ry
  exact notIn_str ⟨.bl _, H, I, rfl, q⟩

noncomputable def tyV (K : PySem.W.Frag) (T : String) (x : V) (H : Hp) : Prop := match x with
  | .str _ => T = "str"
  | .int _ => T = "int"
  | .ref p => (T = "list" ∧ ∃ xs, SqL K H p xs) ∨ (T = "tuple" ∧ ∃ o, K.lookup p = some o ∧ o.cls = .type "tuple" ∧ o.dict = none) ∨
      (T = "dict" ∧ ((∃ kvs, H p = some (.dK kvs)) ∨ ∃ kvs, H p = some (.dT kvs))) ∨ (T = "set" ∧ ∃ S n, H p = some (.set S n))
  | _ => False
theorem tyV_is {pins : List (Addr × Obj)} {σ : St} {H : Hp} {s : Shared} {T : String} {x : V} {v : Value} (I : Inv X pins σ H s) (r : RelV x v) (ty : tyV X.K T x H) :
    s.TypeIs v T ∧ ∀ a, v = .ref a → ∃ ob, s.heap.get? a = some ob ∧ ob.dict = none := by
  cases x with
  | str z =>
    obtain ⟨t, rfl⟩ := r
    cases (show T = "str" from ty)
    exact ⟨typeIs_str s z t, fun _ e => nomatch e⟩
  | int i =>
    obtain ⟨t, rfl⟩ := r
    cases (show T = "int" from ty)
    exact ⟨typeIs_int s i t, fun _ e => nomatch e⟩
  | ref p =>
    cases r
    rcases ty with ⟨rfl, xs, hq⟩ | ⟨rfl, o, hk, hc, hd⟩ | ⟨rfl, hk⟩ | ⟨rfl, S, n, hk⟩
    · obtain ⟨its, _, pl, _⟩ := I.list hq
      refine ⟨pl.isList.typeIs, fun a e => ?_⟩
      cases e
      obtain ⟨o, n, e, c, hd, _⟩ := pl
      exact ⟨o, e, hd⟩
    · refine ⟨⟨o, I.kIn p o hk, hc⟩, fun a e => ?_⟩
      cases e
      exact ⟨o, I.kIn _ o hk, hd⟩
    · have z : ∃ o, s.heap.get? p = some o ∧ o.ExactDict := by
        rcases hk with ⟨kvs, hk⟩ | ⟨kvs, hk⟩
        · obtain ⟨_, _, _, _, o, _, _, e, ex, _⟩ := I.hok p _ hk
          exact ⟨o, e, ex⟩
        · obtain ⟨_, _, _, _, o, _, _, e, ex, _⟩ := I.hok p _ hk
          exact ⟨o, e, ex⟩
      obtain ⟨o, e, ex⟩ := z
      refine ⟨⟨o, e, ex.1⟩, fun a e2 => ?_⟩
      cases e2
      exact ⟨o, e, ex.2.1⟩
    · obtain ⟨o, _, _, _, e, ex, _⟩ := I.hok p _ hk
      refine ⟨⟨o, e, ex.1⟩, fun a e2 => ?_⟩
      cases e2
      exact ⟨o, e, ex.2.1⟩
  | _ => exact False.elim ty
noncomputable def tBM (K : PySem.W.Frag) (T : String) (r : V → List V → Hp → VK → Prop) (to : TE) (t : TA) : TE := fun σ H Q => to σ H fun x H1 => tyV K T x H1 ∧ t σ H1 fun xs H2 => r x xs H2 Q
variable {o e : Expr} {es : List Expr} {to : TE} {t : TA} {name : Str} {apos cpos : Pos} {T id : String} {r : V → List V → Hp → VK → Prop}
theorem pe_bm (pa : PlainAttrs T) (slot : Slot T name id) (hty : typeOf (.builtin id) = pure (.type "method_descriptor")) (hm : MtR X id r) (ho : PE X o to) (ha : PA X (e :: es) t)
    (hbase : autoParam (attributeBase o name X.env (eval o X.env) = eval o X.env) L2.auto4._auto_1)
    (hfew : ((backTo cpos (starEach (e :: es) X.env)).all (fun x => !x.1) && (backToKw cpos (keywordEach [] X.env)).all (fun x => x.1.isSome)
      && decide ((e :: es).length + ([] : List Keyword).length + (if ([] : List Keyword).isEmpty then 0 else 1) < 30)) = true := by rfl)
    (hline : autoParam ((apos.endLine == cpos.line) = true) L2.auto4._auto_1) (hs : autoParam (starEach (e :: es) X.env = (false, eval e X.env) :: starEach es X.env) L2.auto4._auto_1) (hplain : autoParam ((backTo cpos (starEach es X.env)).any (·.1) = false) L2.auto4._auto_1) :
    PE X (.Call (.Attribute o name apos) (e :: es) [] cpos) (tBM X.K T r to t) := by
  intro pins s σ H Q I h
  refine wpAny_Call_method_late hbase hfew hline rfl (thn (ho pins s σ H _ I h) fun v s1 qq0 => ?_)
  obtain ⟨x, H1, I1, r1, ty, q1⟩ := qq0
  obtain ⟨h1, h2⟩ := tyV_is I1 r1 ty
  refine ⟨T, id, pa, slot, hty, h1, h2, ?_⟩
  have hA := ha cpos pins s1 σ H1 _ I1 q1
  rw [hs] at hA ⊢
  refine Calls.callWith_builtin (by show (false || (backTo cpos (starEach es X.env)).any (·.1)) = false; rw [hplain] <;> rfl) (Calls.evalArgs_plain ?_)
  exact thn hA fun us s2 ⟨vs, H2, I2, r2, q2⟩ => hm pins s2 σ H2 x vs v us Q I2 r1 r2 q2
end
end L2

namespace L2
open PySem PySem.Spec PyProof.Rows

theorem Vals.rep {xs : List V} {us : List Value} (h : Vals xs us) : ∀ k : Nat, Vals (List.replicate k xs).flatten (List.replicate k us).flatten
  | 0 => .nil
  | k + 1 => by
    rw [List.replicate_succ, List.replicate_succ, List.flatten_cons, List.flatten_cons]
    exact Vals.append h (Vals.rep h k)
theorem foldl_rep (its : List Value) : ∀ (k : Nat) (acc : List Value),
    List.foldl (fun x1 x2 => x1 ++ x2) acc.toArray (List.replicate k its.toArray) = (acc ++ (List.replicate k its).flatten).toArray
  | 0, acc => by simp
  | k + 1, acc => by
    have e : acc.toArray ++ its.toArray = (acc ++ its).toArray := by simp
    have e2 : (acc ++ its) ++ (List.replicate k its).flatten = acc ++ (List.replicate (k + 1) its).flatten := by
      rw [List.replicate_succ, List.flatten_cons, List.append_assoc]
    rw [← e2, ← foldl_rep its k (acc ++ its), ← e, List.replicate_succ, List.foldl_cons]

section
variable {X : Cx} {pins : List (Addr × Obj)} {σ : St} {H : Hp} {s : Shared} {l b : Addr} {xs ys zs : List V}

theorem Inv.lnew {its : List Value} {t' : Nat} (I : Inv X pins σ H s) (hv : Vals ys its) (hz : ys.length ≤ sizeLine) :
    Inv X pins σ (upd H s.heap.objs.size (.lst ys)) { s with heap := s.heap.push { cls := .type "list", data := .seq its.toArray }, toks := t' } :=
  I.laid (fun _ _ q => Heap.get?_push_of_some _ q) (Nat.le_refl _) ⟨hz, its, 0, hv, Heap.get?_push_size _ rfl⟩
theorem Inv.fresh (I : Inv X pins σ H s) : H s.heap.objs.size = none := I.hok.fresh (Nat.le_refl _)
theorem Inv.lstM (I : Inv X pins σ H s) (hH : H l = some (.lst xs)) : xs.length ≤ sizeLine ∧ ∃ (its : List Value) (n : Nat), Vals xs its ∧ xs.length = its.length ∧ s.heap.get? l = some { cls := .type "list", data := .seq its.toArray n } := by
  obtain ⟨z, its, n, r, e⟩ := I.hok l _ hH
  exact ⟨z, its, n, r, r.length, e⟩

theorem notLongL {n : Nat} (h : n ≤ sizeLine) : Builtin.List.listTooLong n = false := by
  unfold Builtin.List.listTooLong
  exact decide_eq_false (by omega)
end

section
variable {X : Cx}

noncomputable def rCat : R2 := fun x y H Q => ∃ l b xs zs, x = .ref l ∧ y = .ref b ∧ H l = some (.lst xs) ∧ H b = some (.lst zs) ∧ xs.length + zs.length ≤ sizeLine ∧ ∀ p, H p = none → Q (.ref p) (upd H p (.lst (xs ++ zs)))
theorem op_cat : OpR X (binaryOp .Add) rCat := by
  intro pins s σ H x y v u Q I rx ry h
  obtain ⟨l, b, xs, zs, rfl, rfl, hH, hB, hz, q⟩ := h
  cases rx
  cases ry
  obtain ⟨z, its, n, r, hl, e⟩ := I.lstM hH
  obtain ⟨z2, its2, n2, r2, hl2, e2⟩ := I.lstM hB
  refine PySem.P.add_list e e2 ?_ (by rw [List.size_toArray, List.size_toArray]; omega)
  have ea : its.toArray ++ its2.toArray = (its ++ its2).toArray := by simp
  rw [ea]
  exact ⟨.ref _, _, I.lnew (t' := s.toks) (r.append r2) (by rw [List.length_append]; omega), rfl, q _ I.fresh⟩
noncomputable def rRep : R2 := fun x y H Q => ∃ l k xs, x = .ref l ∧ y = .int k ∧ H l = some (.lst xs) ∧ -(2 ^ 63) ≤ k ∧ k < 2 ^ 63 ∧ xs.length * k.toNat ≤ sizeLine ∧
  ∀ p, H p = none → Q (.ref p) (upd H p (.lst (List.replicate k.toNat xs).flatten))
theorem len_rep {α : Type} (xs : List α) (k : Nat) : (List.replicate k xs).flatten.length = k * xs.length := by
  induction k with
  | zero => simp
  | succ k ih => rw [List.replicate_succ, List.flatten_cons, List.length_append, ih, Nat.succ_mul, Nat.add_comm]
theorem op_rep : OpR X (binaryOp .Mult) rRep := by
  intro pins s σ H x y v u Q I rx ry h
  obtain ⟨l, k, xs, rfl, rfl, hH, h1, h2, hz, q⟩ := h
  cases rx
  obtain ⟨t, rfl⟩ := ry
  obtain ⟨z, its, n, r, hl, e⟩ := I.lstM hH
  have hlen : its.toArray.size * k.toNat ≤ sizeLine := by rw [List.size_toArray, ← hl]; exact hz
  have hcap : ¬ its.toArray.size * k.toNat > (2 ^ 63 - 1) / 8 := by
    have : (sizeLine : Nat) ≤ (2 ^ 63 - 1) / 8 := by decide
    omega
  have hfit : ¬ (!Builtin.List.listFitsIndex k) = true := by
    rw [fitsIndex_both h1 h2]
    exact Bool.false_ne_true
  have hlong : ¬ Builtin.List.listTooLong (its.toArray.size * k.toNat) = true := by
    rw [notLongL hlen]
    exact Bool.false_ne_true
  have hnew : List.foldl (fun x1 x2 => x1 ++ x2) #[] (List.replicate (if its.toArray.isEmpty = true then 0 else k.toNat) its.toArray) = (List.replicate k.toNat its).flatten.toArray := by
    have f0 : ∀ m : Nat, List.foldl (fun x1 x2 => x1 ++ x2) #[] (List.replicate m its.toArray) = (List.replicate m its).flatten.toArray := fun m => by
      have := foldl_rep its m []
      rw [List.nil_append] at this
      exact this
    rw [f0]
    cases its with
    | nil => simp
    | cons a r' => rw [if_neg (by simp)]
  refine wpAny_binaryOp_repeat_ref (T := "list") (U := "int") (by decide) ⟨_, e, rfl⟩ (fun s' => typeIs_int s' k t) noFill_list_mul F.fills_int_mul F.slot_int_rmul repeat_list F.slot_int_index.lookup
    (call_meets F.slot_int_rmul (typeIs_int s k t) F.entry_int_rmul (F.args_int_rmul_2 _ _) (int___rmul___int_list k t l its.toArray n)
      ⟨e, rfl, ⟨_, e, rfl⟩, call_meets F.slot_list_mul ⟨_, e, rfl⟩ F.entry_list_mul (F.args_list_mul_2 _ _) (AutoListH.list___mul___list_int_3 l its.toArray n k t hfit hcap hlong) ⟨e, ?_⟩⟩)
  rw [hnew]
  exact ⟨.ref _, _, I.lnew (t' := s.toks) (r.rep k.toNat) (by rw [len_rep, Nat.mul_comm]; exact hz), rfl, q _ I.fresh⟩

end

section
variable {prog : Program} {w : World} {A : Around} {E : Value → Shared → Prop} {s : Shared}
end

section
variable {X : Cx}
end
end L2

namespace Att
open PySem PySem.W PySem.Calls PyProof.Rows

theorem ints_of_wellAll {P : Params} {h : Heap} : ∀ (ns : List Int) (vs : List Value), WellAll P h vs (ns.map WData.int) → IntsAre vs ns := by
  intro ns
  induction ns with
  | nil =>
    intro vs w
    rw [List.map_nil] at w
    cases w
    exact .nil
  | cons n ns ih =>
    intro vs w
    rw [List.map_cons] at w
    cases w with
    | cons a b =>
      cases a
      exact .cons _ _ (ih _ b)

theorem script_of {l : OpenLaw} {n : Nat} (hn : l.most = some n) {P : Params} {h : Heap} {args : List WData} {vals : List Value}
    (hpre : l.row.toRowW.claim.pre args = true) (hwl : WellAll P h vals args) :
    ∃ a vs ns, vals = [Value.ref a] ∧ args = [WData.list (ns.map WData.int)] ∧ h.get? a = some { cls := .type "list", data := .seq vs.toArray } ∧ IntsAre vs ns ∧ ns.length ≤ n := by
  have hsh : WShape.hasAll [] args [.list .int] = true := (pre_splitW hpre).1
  have hc : l.pre.holds [] { args := args } = true := (pre_splitW hpre).2
  obtain ⟨d, r, rfl, h1, h2⟩ := hasAllW_cons hsh
  obtain rfl := hasAllW_nil h2
  obtain ⟨xs, rfl, h3⟩ := hasW_list h1
  obtain ⟨ns, rfl⟩ := items_int h3
  have hlen : ns.length ≤ n := by
    unfold OpenLaw.pre at hc
    have h4 : (WTm.not (.lt (.lit (.int (n : Int))) (.len (.arg 0)))).holds [] { args := [.list (ns.map .int)] } = true := by
      have h4 := (holds_andW hc).1
      rw [hn] at h4
      exact h4
    have h5 := condW_of h4 (w_not (w_lt w_lit (w_len_list (w_arg rfl))))
    rw [List.length_map] at h5
    refine Nat.le_of_not_lt fun q => ?_
    have q' : (n : Int) < ((ns.length : Nat) : Int) := by omega
    first
      | (rw [decide_eq_true q'] at h5; exact absurd h5 (by decide))
      | (simp at h5; omega)
  cases hwl with
  | cons w1 w2 =>
    cases w2
    cases w1 with
    | list ho hall => exact ⟨_, _, ns, rfl, rfl, ho, ints_of_wellAll ns _ hall, hlen⟩

theorem post_true (l : OpenLaw) (args : List WData) : l.row.toRowW.claim.post args (.bool true) args = true :=
  postW_of (r := l.row.toRowW) (X := (true == true))
    (show WShape.has [] (.bool true) .bool = true by first | rfl | decide | simp [WShape.has, WShape.arms, WShape.armsAll])
    (show (WTm.eq .res (.lit (.bool true))).value [] { args := args, res := some (.bool true), after := args } = some (.bool (true == true)) from w_eq_bool (w_res rfl) w_lit) rfl

theorem attach_call {l : OpenLaw} {n : Nat} {q : Program} {loose : List Str} {XP : (Str → Option Value) → Heap → Prop} {YP : World → Heap → Prop} {d : DefRec}
    (hn : l.most = some n) (hdf : d.params.defaults = [])
    (call : ∀ (w : World) (s₀ s₁ : Shared) (mg mb : Str → Option Value) (fa : Addr) (o : Obj) (pm cd doc : Value) (a : Addr) (vs : List Value) (ns : List Int),
      Ground q loose [] XP w s₀ mg mb s₁.heap → YP w s₁.heap →
      s₁.heap.get? fa = some o → o.data = .func (docDef d.name d.params d.body d.scope pm cd doc) → s₁.heap.CodeRec cd d.name → mg d.name = some (.ref fa) →
      s₁.heap.get? a = some { cls := .type "list", data := .seq vs.toArray } → IntsAre vs ns → ns.length ≤ n → s₁.gens = #[] →
      codeAny (model l.prog w) callerA (.call (.ref fa) ⟨[.ref a], []⟩) (fun r s' => r = .ok (.ret (.bool true)) ∧ OldK s₁.heap s'.heap ∧ s'.os = s₁.os ∧ AllBare s'.gens) s₁) :
    WalkO q loose XP YP l.row.toRowW d [] (fun f vs => PySem.call f vs) := by
  intro w s₀ s₁ mg mb G Y fa o pm cd doc dV kV ho hd hcd hD hmg hg args vals as hpre hlay hrd hwl hlo
  obtain rfl : dV = .none := Dflts.none hD hdf
  obtain rfl : kV = .none := Dflts.noKw hD
  obtain ⟨a, vs, ns, rfl, rfl, hobj, hints, hlen⟩ := script_of hn hpre hwl
  refine enter_call (codeAny_mono (call w s₀ s₁ mg mb fa o pm cd doc a vs ns G Y ho (fd_plain hd) hcd hmg hobj hints hlen hg) fun r s' hq => ?_)
  obtain ⟨rfl, h2, h3, h4⟩ := hq
  exact ⟨.inl ⟨.bool true, .bool true, [], rfl, fun _ => rfl, .bool true, post_true l _, fun _ => ⟨List.Pairwise.nil, fun _ hm => (nomatch hm)⟩⟩, h2, h3, h4⟩

section
variable {prog : Program} {w : World} {A : Around} {E : Value → Shared → Prop} {s : Shared} {K : Frag}

end
end Att

namespace L2
open PySem PySem.Spec PyProof.Rows

theorem vals_ints : ∀ {vs : List Value} {ns : List Int}, IntsAre vs ns → Vals (ns.map V.int) vs
  | _, _, .nil => .nil
  | _, _, .cons n t h => .cons ⟨t, rfl⟩ (vals_ints h)

noncomputable def Only (H : Hp) : Prop := ∀ b, H b = none ∨ ∃ o xs, H b = some (.frz o (.lst xs))

theorem law_call {P : Program} {w : World} {K : PySem.W.Frag} {mg mb : Str → Option Value} {CX : CXT} {k : Nat} {fa a : Addr} {fd : FuncData} {x : Str} {sp : Sp} {s₁ : Shared} {vs : List Value} {ns : List Int}
    (KX : K.In s₁.heap) (hns : s₁.heap.Ns mainGlobals mg) (hb : s₁.heap.Ns builtinsNs mb) (hbb : ∀ x : Str, x ≠ "__name__" → mb x = bootBuiltins x) (hlim : s₁.heap.NoLimit) (hsm : ∃ mm, s₁.heap.Ns sysModules mm) (hg : s₁.gens = #[])
    (ha : s₁.heap.get? a = some { cls := .type "list", data := .seq vs.toArray }) (hi : IntsAre vs ns) (hl : ns.length ≤ sizeLine) (hr : Room k callerA)
    (F : ∀ base : Heap, K.In base → base.Ns mainGlobals mg → FnOk P w K mg base CX k fa fd [x] sp) (hbind : ∀ (s : Shared) (u : Value), BindsTo s fd ⟨[u], []⟩ [(x, u)])
    (hsp : ∀ H : Hp, Only H → SqL K H a (ns.map V.int) → sp [.ref a] H (fun v _ => v = .bl true) fun _ _ _ => False)
    (hCX : ∀ H e s', CX [] H s₁ (fun _ _ _ => False) e s' → False) :
    codeAny (model P w) callerA (.call (.ref fa) ⟨[.ref a], []⟩) (fun r s' => r = .ok (.ret (.bool true)) ∧ OldK s₁.heap s'.heap ∧ s'.os = s₁.os ∧ AllBare s'.gens) s₁ := by
  have rv := vals_ints hi
  have lenV := hi.length
  -- from an abstract heap in which nothing but the script may be tracked
  have core : ∀ H : Hp, Only H → SqL K H a (ns.map V.int) → HOk P w H s₁.heap → (∀ b, H b ≠ none → b = a) → (H a ≠ none → K.lookup a = none) →
      codeAny (model P w) callerA (.call (.ref fa) ⟨[.ref a], []⟩) (fun r s' => r = .ok (.ret (.bool true)) ∧ OldK s₁.heap s'.heap ∧ s'.os = s₁.os ∧ AllBare s'.gens) s₁ := by
    intro H hO hS hok hA hK
    have base_of : ∀ {b : Addr} {o : Obj}, s₁.heap.get? b = some o → H b = none → (hidT s₁.heap H).get? b = some o := fun e n => hidT_get e n
    have noA : ∀ {b : Addr} {o : Obj} {es : Array DictEntry} {ep : Nat}, s₁.heap.get? b = some o → o.data = .dict es ep → H b = none := fun {b o es ep} e d => by
      cases q : H b with
      | none => rfl
      | some u =>
        have e' : b = a := hA b (by rw [q]; simp)
        subst e'
        rw [ha] at e; cases e
        have d' : Data.seq vs.toArray _ = Data.dict es ep := d
        cases d'
    have nsK : ∀ {b : Addr} {m : Str → Option Value}, s₁.heap.Ns b m → (hidT s₁.heap H).Ns b m := fun {b m} ⟨o, es, ep, e, d, r⟩ => ⟨o, es, ep, base_of e (noA e d), d, r⟩
    have hKb : K.In (hidT s₁.heap H) := fun b o e => base_of (KX b o e) (by
      cases q : H b with
      | none => rfl
      | some u =>
        have e' : b = a := hA b (by rw [q]; simp)
        subst e'
        rw [hK (by rw [q]; simp)] at e; cases e)
    have hM : Mod K mg (hidT s₁.heap H) := ⟨hKb, nsK hns, ⟨mb, nsK hb, hbb⟩, (let ⟨mc, h1, h2⟩ := hlim; ⟨mc, nsK h1, h2⟩), let ⟨mm, h1⟩ := hsm; ⟨mm, nsK h1⟩⟩
    have e0 : Env0 P w K mg (hidT s₁.heap H) callerA [] s₁ H := ⟨rfl, hM, fun b o e => of_hidT e, Nat.le_of_eq (hidT_size _ _), trivial, fun b hb => absurd (show b ∈ ([] : List Addr) from hb) (by simp), hok, .of_eq hg⟩
    refine codeAny_mono ((F _ hKb (nsK hns)).run callerA [] s₁ H ⟨[.ref a], []⟩ [.ref a] [.ref a] _ _ hr e0 (hbind s₁ (.ref a)) (.cons rfl .nil) (hsp H hO hS)) fun r s' h => ?_
    cases r with
    | error e => exact (hCX H e s' h).elim
    | ok fl =>
      cases fl with
      | next => exact False.elim h
      | brk => exact False.elim h
      | cont => exact False.elim h
      | ret u =>
        obtain ⟨v, H', os, bare, un, hok', r', q⟩ := h
        have q' : v = .bl true := q
        subst q'
        obtain rfl : u = Value.bool true := r'
        refine ⟨rfl, OldK.of_keep fun b o e => ?_, os, bare⟩
        cases q : H b with
        | none => exact un.keep b o e q (by intro z; exact absurd (show b ∈ ([] : List Addr) from z) (by simp)) (by simp)
        | some u =>
          rcases hO b with z | ⟨ob, xs, z⟩
          · rw [q] at z; cases z
          · have z2 := un.frzs b ob _ z
            obtain ⟨e1, _⟩ := hok b _ z
            obtain ⟨e2, _⟩ := hok' b _ z2
            rw [e] at e1; cases e1
            exact e2
  cases hk : K.lookup a with
  | some o =>
    -- the script is one of the module's own objects
    have e := KX a o hk
    rw [ha] at e
    cases e
    refine core (fun _ => none) (fun _ => .inl rfl) (.inr ⟨_, vs.toArray, _, hk, rfl, rfl, rfl, by rw [List.size_toArray, lenV]; exact hl, by simpa using rv⟩) (fun b u z => by have z' : (none : Option HO) = some u := z; cases z') (fun b z => absurd rfl z) fun z => absurd rfl z
  | none =>
    refine core (fun b => if b = a then some (.frz { cls := .type "list", data := .seq vs.toArray } (.lst (ns.map V.int))) else none) (fun b => ?_) (.inl (.inr ⟨{ cls := .type "list", data := .seq vs.toArray }, if_pos rfl⟩)) (fun b u z => ?_) (fun b z => ?_) fun _ => hk
    · by_cases hb : b = a
      · exact .inr ⟨_, _, if_pos hb⟩
      · exact .inl (if_neg hb)
    · by_cases hb : b = a
      · have z' := (if_pos hb).symm.trans z
        cases z'
        subst hb
        exact ⟨ha, by rw [List.length_map]; exact hl, vs, _, rv, ha⟩
      · have z' := (if_neg hb).symm.trans z
        cases z'
    · by_cases hb : b = a
      · exact hb
      · exact absurd (if_neg hb) z
end L2

namespace L2
open PySem PySem.Spec PyProof.Rows

noncomputable abbrev KOf {K : PySem.W.Frag} {h : Heap} (_ : K.In h) : PySem.W.Frag := K

theorem walk_of {l : PySem.W.OpenLaw} {n k : Nat} {q : Program} {loose : List Str} {XP : (Str → Option Value) → Heap → Prop} {YP : World → Heap → Prop} {d : DefRec} {K : Params → PySem.W.Frag} {CX : World → CXT} {sp : World → Sp} {x : Str}
    (hn : l.most = some n) (hn2 : n ≤ sizeLine) (hdf : d.params.defaults = []) (hr : Room k callerA)
    (hY : ∀ (w : World) (h : Heap), YP w h → (K w.params).In h)
    (F : ∀ (w : World) (mg : Str → Option Value) (fa : Addr) (h : Heap), (K w.params).In h → h.Ns mainGlobals mg → mg d.name = some (.ref fa) →
      ∃ fd : FuncData, (∀ (s : Shared) (u : Value), BindsTo s fd ⟨[u], []⟩ [(x, u)]) ∧
        ∀ base : Heap, (K w.params).In base → base.Ns mainGlobals mg → FnOk l.prog w (K w.params) mg base (CX w) k fa fd [x] (sp w))
    (hsp : ∀ (w : World) (H : Hp) (a : Addr) (ns : List Int), ns.length ≤ n → Only H → SqL (K w.params) H a (ns.map V.int) → sp w [.ref a] H (fun v _ => v = .bl true) fun _ _ _ => False)
    (hCX : ∀ (w : World) (H : Hp) (s : Shared) (e : Value) (s' : Shared), CX w [] H s (fun _ _ _ => False) e s' → False) (him : importsNone q = true) :
    PySem.W.WalkO q loose XP YP l.row.toRowW d [] (fun f vs => PySem.call f vs) := by
  refine Att.attach_call hn hdf fun w s₀ s₁ mg mb fa o pm cd doc a vs ns G Y ho hd hcd hmg hobj hints hlen hg => ?_
  have KX := hY w _ Y
  obtain ⟨fd, hb, hF⟩ := F w mg fa _ KX G.T.g hmg
  exact law_call KX G.T.g G.T.b G.T.builtins G.T.nolimit (let ⟨mm, h1, _⟩ := (G.T.seer him).mods; ⟨mm, h1⟩) hg hobj hints (Nat.le_trans hlen hn2) hr hF hb (fun H hO hS => hsp w H a ns hlen hO hS) fun H e s' => hCX w H s₁ e s'
end L2


namespace L2
open PySem PySem.Spec PyProof.Rows

noncomputable def defArgs (s : Stmt) : Arguments := match s with
  | .FunctionDef _ a _ _ _ _ _ _ _ _ => a
  | _ => { posonlyargs := [], args := [], vararg := none, kwonlyargs := [], kw_defaults := [], kwarg := none, defaults := [] }
noncomputable def defBody (s : Stmt) : List Stmt := match s with
  | .FunctionDef _ _ b _ _ _ _ _ _ _ => b
  | _ => []
noncomputable def defScope (s : Stmt) : Scope := match s with
  | .FunctionDef _ _ _ _ _ _ sc _ _ _ => sc
  | _ => { kind := .function, names := [], isGenerator := false, isCoroutine := false }

noncomputable abbrev CX0 : CXT := fun _ _ _ _ _ _ => False
noncomputable abbrev E0 : XK := fun _ _ _ => False
theorem pass0 {X : Cx} : Passes CX0 X E0 := fun _ _ _ _ _ _ _ h => h.elim

structure Fun (K : PySem.W.Frag) (x qual : Str) (st : Stmt) (f : Addr) (fd : FuncData) : Prop where
  ex : ∃ (oc : Value) (od : Option Addr) (kV doc pm : Value) (an : Option Addr) (cdv ct : Value) (osl : Array (Option Value)),
    fd = PySem.W.fnOf x qual (defArgs st) (defBody st) (defScope st) .none kV doc pm an cdv ct ∧ K.lookup f = some ⟨oc, od, .func fd, osl⟩ ∧ PySem.W.codeIn K cdv qual = true
  kp : PySem.W.keepIn K (.ref f) = true
section
variable {P : Program} {w : World} {K : PySem.W.Frag} {mg : Str → Option Value} {base : Heap}
theorem Fun.ok {x qual : Str} {st : Stmt} {f : Addr} {fd : FuncData} {N ps : List Str} {k : Nat} {sp : Sp} (F : Fun K x qual st f fd) (S : FnScope N ps (defScope st)) (len : ∀ vs H Q E, sp vs H Q E → vs.length = ps.length)
    (hbody : ∀ (cdv : Value) (A : Around) (outer : List Env) (s : Shared) (H : Hp) (vs : List V) (Q : VK) (E : XK), Room k (A.deeper (envOfC qual (defScope st) s.heap.objs.size f cdv)) → sp vs H Q E →
      ∃ t, PSs (cxOf CX0 P w K mg base N qual (defScope st) f cdv A outer s H E).nox (defBody st) t ∧ t { nx := fun _ H' => Q .non H', rt := Q } (start N vs) H) : FnOk P w K mg base CX0 (k + 1) f fd ps sp := by
  obtain ⟨oc, od, kV, doc, pm, an, cdv, ct, osl, rfl, lk, hcd⟩ := F.ex
  refine fn_of lk hcd S len fun A outer s H vs Q E hr hsp => ?_
  obtain ⟨t, h, q⟩ := hbody cdv A outer s H vs Q E hr hsp
  exact ⟨t, h.nox, q⟩
theorem Fun.binds {x qual : Str} {st : Stmt} {f : Addr} {fd : FuncData} {ps : List Str} (F : Fun K x qual st f fd)
    (h : ∀ (kV doc pm : Value) (an : Option Addr) (cdv ct : Value) (us : List Value), us.length = ps.length → bindArgs (PySem.W.fnOf x qual (defArgs st) (defBody st) (defScope st) .none kV doc pm an cdv ct) ⟨us, []⟩ = pure (ps.zip us)) : Binds K fd ps [] := by
  obtain ⟨oc, od, kV, doc, pm, an, cdv, ct, osl, rfl, lk, hcd⟩ := F.ex
  exact .all (h kV doc pm an cdv ct)
theorem fun_mk {x qual : Str} {st : Stmt} {f : Addr} {oc : Value} {od an : Option Addr} {osl : Array (Option Value)} {kV doc pm cdv ct : Value} (l : K.lookup f = some ⟨oc, od, .func (PySem.W.fnOf x qual (defArgs st) (defBody st) (defScope st) .none kV doc pm an cdv ct), osl⟩)
    (c : PySem.W.codeIn K cdv qual = true) (k : PySem.W.keepIn K (.ref f) = true) : Fun K x qual st f (PySem.W.fnOf x qual (defArgs st) (defBody st) (defScope st) .none kV doc pm an cdv ct) := ⟨⟨oc, od, kV, doc, pm, an, cdv, ct, osl, rfl, l, c⟩, k⟩
end
section
variable {X : Cx}
end

theorem iteF {A B : Prop} (h : B) : if false = true then A else B := by
  rw [if_neg Bool.false_ne_true]
  exact h
theorem iteT {A B : Prop} (h : A) : if true = true then A else B := by
  rw [if_pos rfl]
  exact h
noncomputable def Same (H H' : Hp) : Prop := ∀ b o, H b = some o → H' b = some o
theorem Same.refl (H : Hp) : Same H H := fun _ _ h => h
theorem Same.trans {H H1 H2 : Hp} (a : Same H H1) (b : Same H1 H2) : Same H H2 := fun c o h => b c o (a c o h)
theorem Same.free {H H' : Hp} (e : Same H H') {l : Addr} (h : H' l = Option.none) : H l = Option.none := by
  cases q : H l with
  | none => rfl
  | some o =>
    rw [e l o q] at h
    cases h
theorem Same.seq {K : PySem.W.Frag} {H H' : Hp} {a : Addr} {xs : List V} (e : Same H H') (h : SqL K H a xs) : SqL K H' a xs := by
  rcases h with (h | ⟨o, h⟩) | h
  · exact .inl (.inl (e _ _ h))
  · exact .inl (.inr ⟨o, e _ _ h⟩)
  · exact .inr h

end L2

set_option maxHeartbeats 4000000
namespace L2
open PySem PySem.Spec PyProof.Rows

noncomputable def clOf (env : Env) : List (Str × NameKind) → List (Str × Addr) → List (Str × Addr)
  | [], acc => acc
  | (n, k) :: r, acc => clOf env r (if k == .free then (match env.cells.lookup n with | some c => (n, c) :: acc | none => acc) else acc)
theorem clOf_mem {env : Env} : ∀ {names : List (Str × NameKind)} {acc : List (Str × Addr)}, (∀ x c, (x, c) ∈ acc → env.cells.lookup x = some c) → ∀ x c, (x, c) ∈ clOf env names acc → env.cells.lookup x = some c
  | [], _, h, x, c, m => h x c m
  | (n, k) :: r, acc, h, x, c, m => by
    refine clOf_mem (names := r) ?_ x c m
    intro y d hm
    cases hk : (k == NameKind.free) with
    | false => rw [hk] at hm; exact h y d hm
    | true =>
      rw [hk] at hm
      simp only [if_true] at hm
      cases e : env.cells.lookup n with
      | none => rw [e] at hm; exact h y d hm
      | some c' =>
        rw [e] at hm
        rcases List.mem_cons.mp hm with z | z
        · cases z; exact e
        · exact h y d z
theorem clOf_sub {env : Env} : ∀ {names : List (Str × NameKind)} {acc : List (Str × Addr)} {p : Str × Addr}, p ∈ acc → p ∈ clOf env names acc
  | [], _, _, h => h
  | (n, k) :: r, acc, p, h => by
    refine clOf_sub (names := r) ?_
    split
    · split
      · exact List.mem_cons_of_mem _ h
      · exact h
    · exact h
theorem clOf_has {env : Env} {x : Str} {c : Addr} (e : env.cells.lookup x = some c) : ∀ {names : List (Str × NameKind)} {acc : List (Str × Addr)}, (x, NameKind.free) ∈ names → (x, c) ∈ clOf env names acc
  | [], _, h => by simp at h
  | (n, k) :: r, acc, h => by
    rcases List.mem_cons.mp h with z | z
    · cases z
      refine clOf_sub (names := r) ?_
      rw [e]
      simp
    · exact clOf_has e (names := r) z
theorem lookup_of_all {l : List (Str × Addr)} {x : Str} {c : Addr} (hm : (x, c) ∈ l) (ha : ∀ d, (x, d) ∈ l → d = c) : l.lookup x = some c := by
  induction l with
  | nil => simp at hm
  | cons p r ih =>
    obtain ⟨n, d⟩ := p
    by_cases e : x = n
    · subst e
      have : d = c := ha d (by simp)
      subst this
      simp [List.lookup_cons]
    · have hb : (x == n) = false := by simpa using e
      rw [List.lookup_cons, hb]
      refine ih ?_ fun d' h' => ha d' (List.mem_cons_of_mem _ h')
      rcases List.mem_cons.mp hm with z | z
      · cases z; exact absurd rfl e
      · exact z
theorem clOf_lookup {env : Env} {names : List (Str × NameKind)} {x : Str} {c : Addr} (e : env.cells.lookup x = some c) (h : (x, NameKind.free) ∈ names) : (clOf env names []).lookup x = some c :=
  lookup_of_all (clOf_has e h) fun d hd => by
    have q := clOf_mem (names := names) (acc := []) (env := env) (by simp) x d hd
    rw [e] at q
    exact (Option.some.inj q).symm
theorem clOf_some {env : Env} {names : List (Str × NameKind)} {x : Str} {c : Addr} (e : (clOf env names []).lookup x = some c) : env.cells.lookup x = some c :=
  clOf_mem (names := names) (acc := []) (env := env) (by simp) x c (PySem.mem_of_lookup e)

theorem closure_eq {env : Env} : ∀ (names : List (Str × NameKind)) (acc : List (Str × Addr)), (∀ x ∈ names, x.2 = NameKind.free → ∃ c, env.cells.lookup x.1 = some c) →
    (forIn (m := Sem) names acc fun x r => match x with
      | (name, kind) => if (kind == NameKind.free) = true then do let c ← cellOf env name; pure (ForInStep.yield ((name, c) :: r)) else pure (ForInStep.yield r)) = pure (clOf env names acc)
  | [], acc, _ => rfl
  | (n, k) :: r, acc, h => by
    rw [List.forIn_cons]
    cases hk : (k == NameKind.free) with
    | false =>
      simp only [hk, Bool.false_eq_true, if_false, pure_bind, clOf]
      exact closure_eq r acc fun x hx => h x (List.mem_cons_of_mem _ hx)
    | true =>
      obtain ⟨c, e⟩ := h (n, k) List.mem_cons_self (by simpa using hk)
      simp only [hk, if_true, pure_bind, clOf, cellOf, e]
      exact closure_eq r ((n, c) :: acc) fun x hx => h x (List.mem_cons_of_mem _ hx)
theorem closureFor_cl {scope : Scope} {env : Env} (h : ∀ x ∈ scope.names, x.2 = NameKind.free → ∃ c, env.cells.lookup x.1 = some c) : closureFor scope env = pure (clOf env scope.names []) := by
  unfold closureFor
  have := closure_eq (env := env) scope.names [] h
  simp only [this, pure_bind]

theorem comp_loop {prog : Program} {w : World} {A : Around} {R : Result → Shared → Prop} {s : Shared} {elt target iter : Expr} {ifs : List Expr} {scope : Scope} {pos : Pos} {it acc : Value} {env : Env} (I : Nat → Shared → Prop)
    (turn : ∀ n s, I n s → wpAny (model prog w) A (pyNext it) (fun r s₁ => match r with
      | none => R (.ok .next) s₁
      | some v => wpAny (model prog w) A (letOwnedTupleGo target it v) (fun _ s₁' => wpAny (model prog w) A (assign target env v) (fun _ s₂ =>
          wpAny (model prog w) A (forIn ifs true fun c r => if r = true then do let ok ← isTrue c env (eval c env); pure (ForInStep.yield ok) else pure (ForInStep.yield r)) (fun ok s₃ =>
            if ok = true then wpAny (model prog w) A (eval elt env) (fun x s₄ =>
              wpAny (model prog w) A (call (.builtin "list.append") [acc, x]) (fun _ s₅ => ∃ m, m < n ∧ I m s₅) (fun _ _ => False) s₄) (fun _ _ => False) s₃
            else ∃ m, m < n ∧ I m s₃) (fun _ _ => False) s₂) (fun _ _ => False) s₁') (fun _ _ => False) s₁) (fun _ _ => False) s)
    (n : Nat) (h : I n s) :
    codeAny (model prog w) A (.compLoop (.ListComp elt [⟨target, iter, ifs, 0⟩] scope pos) 0 it acc env) R s := by
  refine codeAny_loop rfl I (fun n s hI => ?_) n h
  show wpAny _ A ((compTurn (.ListComp elt [⟨target, iter, ifs, 0⟩] scope pos) 0 it acc env).onRaise (fun x => do noteFrame x env; theTreesLotGoes x)) _ _ s
  refine wpAny_noted ?_
  rw [compTurn_list]
  refine wpAny_bind (wpAny_standAt (wpAny_bind (wpAny_mono (turn n s hI) (fun r s₁ h₁ => ?_) fun _ _ h' => h'.elim)))
  cases r with
  | none => exact wpAny_pure h₁
  | some v =>
    refine wpAny_bind (wpAny_mono h₁ (fun _ s₁' h₁' => ?_) fun _ _ h' => h'.elim)
    refine wpAny_bind (wpAny_mono h₁' (fun _ s₂ h₂ => wpAny_bind (wpAny_mono h₂ (fun ok s₃ h₃ => ?_) fun _ _ h' => h'.elim)) fun _ _ h' => h'.elim)
    cases ok with
    | false => exact wpAny_pure ⟨rfl, h₃⟩
    | true =>
      exact wpAny_bind (wpAny_bind (wpAny_mono h₃ (fun x s₄ h₄ => wpAny_bind (wpAny_mono h₄ (fun _ s₅ h₅ => wpAny_pure (wpAny_pure ⟨rfl, h₅⟩)) fun _ _ h' => h'.elim)) fun _ _ h' => h'.elim))
end L2

namespace L2
open PySem PySem.Spec PyProof.Rows

noncomputable def cxC (X : Cx) (N' : List Str) (scope : Scope) (C : Addr) (s₀ : Shared) (H₀ : Hp) (ex : List Addr) : Cx :=
  { X with N := N', s₀ := s₀, H₀ := H₀, env := compEnvC scope (clOf X.env scope.names []) C X.env, outer := X.stack, ex := ex, fn := fun _ => false, pn := [], xe := fun _ _ => False }
noncomputable def subSt (sub : List (Option Nat)) (σ : St) : St := sub.map fun o => o.bind fun j => (σ[j]?).join
structure SubOk (N : List Str) (sc : Scope) (N' : List Str) (scope : Scope) (sub : List (Option Nat)) : Prop where
  kind : scope.kind = .function
  nocell : ∀ x ∈ scope.names, x.2 ≠ .cell
  loc : ∀ x ∈ scope.names, x.2 = .local → scope.names.lookup x.1 = some .local
  free : ∀ x ∈ scope.names, x.2 = .free → sc.names.lookup x.1 = some .cell ∨ sc.names.lookup x.1 = some .free
  len : sub.length = N'.length
  at_ : ∀ (i j : Nat) (x : Str), sub[i]? = some (some j) → N'[i]? = some x → N[j]? = some x ∧ (x, NameKind.free) ∈ scope.names ∧ scope.names.lookup x = some .free
noncomputable def subOkB (N : List Str) (sc : Scope) (N' : List Str) (scope : Scope) (sub : List (Option Nat)) : Bool :=
  decide (scope.kind = .function) && scope.names.all (fun x => decide (x.2 ≠ .cell)) && scope.names.all (fun x => decide (x.2 = .local → scope.names.lookup x.1 = some .local)) &&
  scope.names.all (fun x => decide (x.2 = .free → sc.names.lookup x.1 = some .cell ∨ sc.names.lookup x.1 = some .free)) && decide (sub.length = N'.length) &&
  (List.range sub.length).all fun i => match sub[i]?, N'[i]? with
    | some (some j), some x => decide (N[j]? = some x ∧ (x, NameKind.free) ∈ scope.names ∧ scope.names.lookup x = some .free)
    | _, _ => true
theorem subOk_of {N : List Str} {sc : Scope} {N' : List Str} {scope : Scope} {sub : List (Option Nat)} (h : subOkB N sc N' scope sub = true) : SubOk N sc N' scope sub := by
  simp only [subOkB, Bool.and_eq_true, decide_eq_true_eq, List.all_eq_true] at h
  obtain ⟨⟨⟨⟨⟨h1, h2⟩, h3⟩, h4⟩, h5⟩, h6⟩ := h
  refine ⟨h1, h2, h3, h4, h5, fun i j x e1 e2 => ?_⟩
  have hi : i < sub.length := (List.getElem?_eq_some_iff.mp e1).1
  have q := h6 i (List.mem_range.mpr hi)
  rw [e1, e2] at q
  simpa using q

noncomputable def tTrue : TT := fun _ H Q => Q true H
noncomputable def PIfs (X : Cx) (ifs : List Expr) (t : TT) : Prop :=
  ∀ (pins : List (Addr × Obj)) (s : Shared) (σ : St) (H : Hp) (Q : Bool → Hp → Prop), Inv X pins σ H s → t σ H Q →
    wpAny (model X.prog X.w) X.A (forIn ifs true fun c r => if r = true then do let ok ← isTrue c X.env (eval c X.env); pure (ForInStep.yield ok) else pure (ForInStep.yield r)) (TP X pins σ Q) X.xe s
theorem pifs_nil {X : Cx} : PIfs X [] tTrue := fun _ _ _ H _ I h => wpAny_tests_nil ⟨H, I, h⟩
noncomputable def KeepSt (σ σ' : St) : Prop := σ'.length = σ.length ∧ ∀ (i : Nat) (v : V), σ[i]? = some (some v) → σ'[i]? = some (some v)
theorem KeepSt.set {σ : St} {i : Nat} {v : V} (h : σ[i]? = some none) : KeepSt σ (σ.set i (some v)) := by
  refine ⟨by simp, fun j u e => ?_⟩
  by_cases hj : i = j
  · subst hj; rw [h] at e; cases e
  · rw [List.getElem?_set_ne hj]; exact e
noncomputable def tComp (sub : List (Option Nat)) (wi : TI) (g : TG) (tt : TT) (te : TE) : TE := fun σ H Q => wi σ H fun J H1 => ∃ W : Nat → Nat → List V → Hp → Prop, (∃ m, W 0 m [] H1) ∧ ∀ i m ys H, W i m ys H →
  (J.stop i H ∧ ys.length ≤ sizeLine ∧ ∀ D, H D = none → Q (.ref D) (upd H D (.lst ys))) ∨
  (J.go i H ∧ ys.length < sizeLine ∧ ∃ N : List V → Hp → Prop, (∀ ys' H', N ys' H' → ∃ m', m' < m ∧ W (i + 1) m' ys' H') ∧
    ∀ x H', J.yld i H x H' → g x (subSt sub σ) H' fun σ2 H2 => KeepSt (subSt sub σ) σ2 ∧ tt σ2 H2 fun b H3 => if b = true then te σ2 H3 fun y H4 => N (ys ++ [y]) H4 else N ys H3)

theorem relabel_free {scope : Scope} {env : Env} {x : Str} (hx : scope.names.lookup x = some .free) : (relabel scope env).names.lookup x = some .cell ∨ (relabel scope env).names.lookup x = some .free := by
  have : ∀ names : List (Str × NameKind), names.lookup x = some .free →
    (names.map fun (n, k) => if (k == NameKind.free && env.scope.kind == .function && env.kindOf n == some .cell) then (n, NameKind.cell) else (n, k)).lookup x = some .cell ∨
    (names.map fun (n, k) => if (k == NameKind.free && env.scope.kind == .function && env.kindOf n == some .cell) then (n, NameKind.cell) else (n, k)).lookup x = some .free := by
    intro names
    induction names with
    | nil => intro h; simp at h
    | cons p r ih =>
      obtain ⟨n, k⟩ := p
      intro h
      by_cases e : x = n
      · subst e
        have hk : k = .free := by simpa [List.lookup_cons] using h
        subst hk
        by_cases hc : ((NameKind.free == NameKind.free && env.scope.kind == .function && env.kindOf x == some .cell) = true)
        · left; simp only [List.map_cons]; rw [if_pos hc]; simp [List.lookup_cons]
        · right; simp only [List.map_cons]; rw [if_neg hc]; simp [List.lookup_cons]
      · have hb : (x == n) = false := by simpa using e
        rw [List.lookup_cons, hb] at h
        have q := ih h
        simp only [List.map_cons]
        split <;> (rw [List.lookup_cons, hb]; exact q)
  exact this scope.names hx
theorem relabel_back {scope : Scope} {env : Env} {x : Str} (hn : ∀ y ∈ scope.names, y.2 ≠ .cell) (h : (relabel scope env).names.lookup x = some .cell ∨ (relabel scope env).names.lookup x = some .free) : (x, NameKind.free) ∈ scope.names := by
  have key : ∀ k, (k = NameKind.cell ∨ k = NameKind.free) → (relabel scope env).names.lookup x = some k → (x, NameKind.free) ∈ scope.names := by
    intro k hk hl
    have hm := PySem.mem_of_lookup hl
    unfold relabel at hm
    obtain ⟨⟨n, k'⟩, hm1, hm2⟩ := List.mem_map.mp hm
    dsimp only at hm2
    by_cases hc : (k' == NameKind.free && env.scope.kind == .function && env.kindOf n == some .cell) = true
    · rw [if_pos hc] at hm2
      cases hm2
      simp only [Bool.and_eq_true, beq_iff_eq] at hc
      rw [← hc.1.1]; exact hm1
    · rw [if_neg hc] at hm2
      cases hm2
      rcases hk with hk | hk
      · subst hk; exact absurd rfl (hn _ hm1)
      · subst hk; exact hm1
  rcases h with h | h
  · exact key _ (.inl rfl) h
  · exact key _ (.inr rfl) h

section
variable {X : Cx} {tg iter elt : Expr} {ifs : List Expr} {scope : Scope} {pos : Pos} {N' : List Str} {sub : List (Option Nat)} {wi : TI} {g : TG} {tt : TT} {te : TE}

theorem inv_block {pins : List (Addr × Obj)} {σ : St} {H : Hp} {s : Shared} {fp : List Addr} {D : Addr} {h' : Heap} {tk : Nat} {N : List Str} {sc : Scope} (S : SubOk N sc N' scope sub) (hN : X.N = N) (hsc : X.env.scope = sc) (I : Inv X pins σ H s) (hf : ∀ b ∈ fp, FpOk X pins H b) (hfo : ∀ b ∈ fp, b < s.heap.objs.size)
    (hD : D < s.heap.objs.size) (fD : FpOk X pins H D) (hns : h'.Ns s.heap.objs.size fun _ => none) (hk : ∀ b o, s.heap.get? b = some o → h'.get? b = some o) :
    Inv (cxC X N' scope s.heap.objs.size s H (D :: fp)) [] (subSt sub σ) H { s with heap := h', toks := tk } := by
  have hex : ∀ b ∈ D :: fp, FpOk X pins H b ∧ b < s.heap.objs.size := fun b hb => by
    rcases List.mem_cons.mp hb with rfl | z
    · exact ⟨fD, hD⟩
    · exact ⟨hf b z, hfo b z⟩
  refine ⟨⟨I.ok.mod, S.kind, I.ok.glob, I.ok.blt, Nat.le_refl _, fun x y c h1 h2 => I.ok.inj x y c (clOf_some h1) (clOf_some h2), fun x hx => ?_, fun x c hx _ => (nomatch hx), I.ok.hd, I.ok.frames, .inl rfl, fun b hb => ?_, I.bs, Nat.le_trans I.ok.bsz I.sz, fun b o e hb => ?_, fun b hb => ?_, I.stack, I.stkFree⟩,
    rfl, I.bare, Un.kept hk, ⟨_, hns, fun i x v h1 h2 h3 => ?_⟩, fun x c h => ?_, I.hok.fresh (Nat.le_refl _), fun x c h => I.freeC x c (clOf_some h), fun p hp => (nomatch hp), I.hok.kept hk, ?_⟩
  · have hx' : (x, NameKind.free) ∈ scope.names := relabel_back S.nocell hx
    obtain ⟨c, e⟩ := I.ok.has x (by have := S.free _ hx' rfl; rw [← hsc] at this; exact this)
    exact ⟨c, clOf_lookup e hx'⟩
  · obtain ⟨⟨f0, f1, f2, f3, f4, f5⟩, hlt⟩ := hex b hb
    exact ⟨Nat.ne_of_lt hlt, fun x c h => f4 x c (clOf_some h)⟩
  · obtain ⟨⟨f0, f1, f2, f3, f4, f5⟩, hlt⟩ := hex b hb
    rcases f3 with z | z
    · exact I.ok.noex b o e z
    · exact absurd (Nat.lt_of_lt_of_le (Heap.lt_size (I.ok.bs b o e).1) z) (Nat.lt_irrefl _)
  · obtain ⟨⟨f0, f1, f2, f3, f4, f5⟩, hlt⟩ := hex b hb
    intro z
    rcases List.mem_cons.mp (I.stkSub b z) with z | z
    · exact f1 z
    · exact f2 z
  · have hs : ∃ j, sub[i]? = some (some j) ∧ σ[j]? = some (some v) := by
      unfold subSt at h2
      rw [List.getElem?_map] at h2
      cases e : sub[i]? with
      | none => rw [e] at h2; cases h2
      | some o =>
        rw [e] at h2
        cases o with
        | none => cases h2
        | some j =>
          refine ⟨j, rfl, ?_⟩
          have h3 : (σ[j]?).join = some v := Option.some.inj h2
          cases e2 : σ[j]? with
          | none => rw [e2] at h3; cases h3
          | some z => rw [e2] at h3; cases z with
            | none => cases h3
            | some z => cases h3; rfl
    obtain ⟨j, e1, e2⟩ := hs
    obtain ⟨g1, g2, g3⟩ := S.at_ i j x e1 h1
    rw [← hN] at g1
    obtain ⟨m, hn, hl⟩ := I.loc
    have hkf : X.env.kindOf x = some .cell ∨ X.env.kindOf x = some .free := by have := S.free _ g2 rfl; rw [← hsc] at this; exact this
    have hvis : Vis X.env.scope x := by
      rcases hkf with z | z
      · exact .inr (.inl z)
      · exact .inr (.inr z)
    obtain ⟨u, r, l⟩ := hl j x v g1 e2 hvis
    refine ⟨u, r, .inr ⟨relabel_free g3, ?_⟩⟩
    rcases l with ⟨k, _⟩ | ⟨_, c, e, o, ho, hd⟩
    · have k' : X.env.kindOf x = some .local := k
      rcases hkf with z | z <;> (rw [k'] at z; cases z)
    · exact ⟨c, clOf_lookup e g2, o, hk _ _ ho, hd⟩
  · obtain ⟨v, o, ho, hd⟩ := I.cell x c (clOf_some h)
    exact ⟨v, o, hk _ _ ho, hd⟩
  · show (subSt sub σ).length = N'.length
    unfold subSt
    rw [List.length_map]
    exact S.len

theorem pe_comp {N : List Str} {sc : Scope} (S : SubOk N sc N' scope sub) (hc : X.calm = true) (hN : X.N = N) (hsc : X.env.scope = sc) (hi : PI X tg iter wi)
    (hg : ∀ (C : Addr) (s₀ : Shared) (H₀ : Hp) (ex : List Addr), PG (cxC X N' scope C s₀ H₀ ex) tg g)
    (ht : ∀ (C : Addr) (s₀ : Shared) (H₀ : Hp) (ex : List Addr), PIfs (cxC X N' scope C s₀ H₀ ex) ifs tt)
    (he : ∀ (C : Addr) (s₀ : Shared) (H₀ : Hp) (ex : List Addr), PE (cxC X N' scope C s₀ H₀ ex) elt te)
    (hs : autoParam (∀ x, foldedSetIterable iter X.env x = pure x) L2.auto3._auto_1) :
    PE X (.ListComp elt [⟨tg, iter, ifs, 0⟩] scope pos) (tComp sub wi g tt te) := by
  intro pins s σ H Q I h
  rw [eval_ListComp]
  have hcl : ∀ x ∈ scope.names, x.2 = NameKind.free → ∃ c, X.env.cells.lookup x.1 = some c := fun x hx hk => I.ok.has x.1 (by have := S.free x hx hk; rw [← hsc] at this; exact this)
  refine wpAny_comprehension_free (use := none) rfl hs (closureFor_cl hcl) S.kind S.loc ?_
  refine thn (hi pins s σ H _ I h) fun v s1 h1 => thn h1 fun itv s2 h2 => ?_
  obtain ⟨it, fp, tn, J, H2, e, I2, T, st2, f2, W, ⟨m0, w0⟩, turn⟩ := h2
  subst e
  refine wpAny_newObj_type (wpAny_newFunctionEnv S.nocell (by intro y hy; simp at hy) (fun h₁ hns₁ hsb₁ => ?_) S.kind)
  dsimp only at hns₁ hsb₁ ⊢
  generalize hs3 : ({ s2 with heap := s2.heap.push { cls := .type "list", dict := none, data := .seq ([] : List Value).toArray } } : Shared) = s3
  have e3 : s2.heap.push { cls := .type "list", dict := none, data := .seq ([] : List Value).toArray } = s3.heap := by rw [← hs3]
  rw [e3] at hns₁ hsb₁ ⊢
  have hD3 : s3.heap.get? s2.heap.objs.size = some { cls := .type "list", dict := none, data := .seq ([] : List Value).toArray } := by rw [← e3]; exact Heap.get?_push_size _ rfl
  have I3 : Inv X pins σ H2 s3 := by
    rw [← hs3]
    exact I2.kept (t' := s2.toks) fun b o e => Heap.get?_push_of_some _ e
  have k23 : ∀ b o, s2.heap.get? b = some o → s3.heap.get? b = some o := fun b o e => by rw [← e3]; exact Heap.get?_push_of_some _ e
  have hsz : s3.heap.objs.size = s2.heap.objs.size + 1 := by rw [← e3, Heap.size_push]
  have hk31 : ∀ b o, s3.heap.get? b = some o → h₁.get? b = some o := fun b o e => hsb₁.extBut b o (Nat.ne_of_lt (Heap.lt_size e)) (Heap.get?_push_of_some _ e)
  have hDn : H2 s2.heap.objs.size = none := I2.hok.fresh (Nat.le_refl _)
  have fD : FpOk X pins H2 s2.heap.objs.size := I2.fpOk (Nat.le_refl _) hDn
  have hfo : ∀ b ∈ fp, b < s2.heap.objs.size := fun b hb => let ⟨o, e, _⟩ := T.obj _ _ st2 b hb; Heap.lt_size e
  have hDfp : s2.heap.objs.size ∉ fp := fun z => absurd (hfo _ z) (Nat.lt_irrefl _)
  have I4 := inv_block (tk := s3.toks + ([] : List (Str × Value)).length) S hN hsc I3 f2 (fun b hb => by rw [hsz]; exact Nat.lt_succ_of_lt (hfo b hb)) (D := s2.heap.objs.size) (by rw [hsz]; exact Nat.lt_succ_self _) fD hns₁ hk31
  -- facts of the block
  have stat : ∀ {H' : Hp} {ob : Obj}, (∀ b ∈ fp, H' b = none) → ∀ b ∈ fp, FpOk (cxC X N' scope s3.heap.objs.size s3 H2 (s2.heap.objs.size :: fp)) [(s2.heap.objs.size, ob)] H' b := fun {H' ob} hn b hb => by
    obtain ⟨q1, q2⟩ := I4.ok.exf b (List.mem_cons_of_mem _ hb)
    refine ⟨hn b hb, q1, I4.ok.exfs b (List.mem_cons_of_mem _ hb), .inl (List.mem_cons_of_mem _ hb), q2, fun p hp z => ?_⟩
    have hp' : p = (s2.heap.objs.size, ob) := by simpa [cxC] using hp
    subst hp'
    have z' : s2.heap.objs.size = b := z
    exact hDfp (by rw [z']; exact hb)
  generalize hXC : cxC X N' scope s3.heap.objs.size s3 H2 (s2.heap.objs.size :: fp) = XC at I4 stat
  have eP : XC.prog = X.prog := by rw [← hXC]; rfl
  have eW : XC.w = X.w := by rw [← hXC]; rfl
  have eK : XC.K = X.K := by rw [← hXC]; rfl
  have eA : XC.A = X.A := by rw [← hXC]; rfl
  have eE : XC.env = compEnvC scope (clOf X.env scope.names []) s3.heap.objs.size X.env := by rw [← hXC]; rfl
  have eC : XC.calm = true := by rw [← hXC]; exact hc
  have eX : XC.xe = fun _ _ => False := by rw [← hXC]; rfl
  have eH : XC.H₀ = H2 := by rw [← hXC]; rfl
  have eS : XC.s₀ = s3 := by rw [← hXC]; rfl
  have eF : XC.fs = frs X.stack := by rw [← hXC]; rfl
  have eEx : XC.ex = s2.heap.objs.size :: fp := by rw [← hXC]; rfl
  have ePn : XC.pn = [] := by rw [← hXC]; rfl
  have hgC : PG XC tg g := by rw [← hXC]; exact hg _ _ _ _
  have htC : PIfs XC ifs tt := by rw [← hXC]; exact ht _ _ _ _
  have heC : PE XC elt te := by rw [← hXC]; exact he _ _ _ _
  have pinD : ∀ {σ' : St} {H' : Hp} {s' : Shared} {ob : Obj}, Inv XC [] σ' H' s' → H' s2.heap.objs.size = none → s'.heap.get? s2.heap.objs.size = some ob → (∀ v, ob.data ≠ .cell v) → Inv XC [(s2.heap.objs.size, ob)] σ' H' s' := fun {σ' H' s' ob} J hn hg hd =>
    J.pins_of fun p hp => by
      have hp' : p = (s2.heap.objs.size, ob) := by simpa using hp
      subst hp'
      refine ⟨hg, hn, (J.ok.exf _ (by rw [eEx]; exact List.mem_cons_self)).1, J.ok.exfs _ (by rw [eEx]; exact List.mem_cons_self), hd⟩
  have loop : codeAny (model X.prog X.w) X.A (.compLoop (.ListComp elt [⟨tg, iter, ifs, 0⟩] scope pos) 0 (.ref it) (.ref s2.heap.objs.size) (compEnvC scope (clOf X.env scope.names []) s3.heap.objs.size X.env))
      (compPost (model X.prog X.w) X.A X.xe none (EP X pins σ Q) (.ref s2.heap.objs.size) s3.heap.objs.size) { s3 with heap := h₁, toks := s3.toks + ([] : List (Str × Value)).length } := by
    refine comp_loop (fun n s' => ∃ (i : Nat) (ys : List V) (its : List Value) (nn : Nat) (H' : Hp), Inv XC [] (subSt sub σ) H' s' ∧ tn i s'.heap ∧ (∀ b ∈ fp, H' b = none) ∧ H' s2.heap.objs.size = none ∧
      s'.heap.get? s2.heap.objs.size = some { cls := .type "list", data := .seq its.toArray nn } ∧ Vals ys its ∧ W i n ys H') ?_ m0
      ⟨0, [], [], _, H2, I4, T.keep _ _ _ st2 fun b _ o e => hk31 b o (k23 b o e), fun b hb => (f2 b hb).1, hDn, hk31 _ _ hD3, .nil, w0⟩
    rintro n s4 ⟨i, ys, its, nn, H4, J4, st4, fr4, dn4, dg4, rv4, w4⟩
    have P4 := pinD J4 dn4 dg4 (fun v z => by cases z)
    rcases turn i n ys H4 w4 with ⟨stop, hyl, qn⟩ | ⟨go, hyl, N, hN, step⟩
    · have hdone := T.done XC eP eW eK eC i _ s4 _ H4 (fun _ _ => False) P4 (stat fr4) st4 stop
      rw [eA] at hdone
      refine wpAny_mono hdone (fun r s5 ⟨hr, I5⟩ => ?_) fun _ _ z => z
      subst hr
      -- the end
      obtain ⟨m, hn, _⟩ := id I5.loc
      have hCe : XC.env.locals = s3.heap.objs.size := by rw [eE]; rfl
      rw [hCe] at hn
      refine ⟨m, hn, fun h6 hs6 => ?_⟩
      have hDg := (I5.pin (s2.heap.objs.size, _) (by rw [ePn]; exact List.mem_cons_self)).1
      have hDne : s2.heap.objs.size ≠ s3.heap.objs.size := by rw [hsz]; exact Nat.ne_of_lt (Nat.lt_succ_self _)
      have hHC : H4 s3.heap.objs.size = none := by have := I5.free; rw [hCe] at this; exact this
      have k56 : ∀ b o, b ≠ s3.heap.objs.size → s5.heap.get? b = some o → h6.get? b = some o := fun b o hb e => hs6.extBut b o hb e
      have un := I5.base
      rw [eF, eEx, eH, eS] at un
      have nC : ∀ b o, s3.heap.get? b = some o → b ≠ s3.heap.objs.size := fun b o e => Nat.ne_of_lt (Heap.lt_size e)
      have hok6 : HOk X.prog X.w (upd H4 s2.heap.objs.size (.lst ys)) h6 := by
        have h5 := I5.hok
        rw [eP, eW] at h5
        have trk : ∀ b u, H4 b = some u → b ≠ s3.heap.objs.size := fun b u e z => by rw [z, hHC] at e; cases e
        intro b u e
        by_cases hb : b = s2.heap.objs.size
        · subst hb
          rw [upd_same] at e; cases e
          exact ⟨hyl, its, nn, rv4, k56 _ _ hDne hDg⟩
        · rw [upd_ne hb] at e
          have nD : ∀ c u, H4 c = some u → c ≠ s2.heap.objs.size := fun c u e z => by rw [z, dn4] at e; cases e
          refine (h5 b u e).stay (fun c v hc' q => k56 c v ?_ q) (fun c q => by rw [upd_ne (nD c _ q)]; exact q) fun c xs q => by rw [upd_ne (nD c _ q)]; exact q
          rcases hc' with z | z
          · rw [z]; exact trk b u e
          · exact trk c _ z
      have nD2 : ∀ c u, H4 c = some u → c ≠ s2.heap.objs.size := fun c u e z => by rw [z, dn4] at e; cases e
      have un6 : Un (frs X.stack) (s2.heap.objs.size :: fp) H2 (upd H4 s2.heap.objs.size (.lst ys)) s3.heap h6 :=
        ⟨fun b o e nn' hb hx => k56 b o (nC b o e) (un.keep b o e nn' hb hx), fun b o e nn' hb hx => let ⟨sl, q⟩ := un.slot b o e nn' hb hx; ⟨sl, k56 b _ (nC b o e) q⟩,
          fun b o e nn' hx => by rw [upd_ne (fun z => hx (by rw [z]; exact List.mem_cons_self))]; exact un.free b o e nn' hx,
          fun b o e hx => let ⟨o', q⟩ := un.there b o e hx; ⟨o', k56 b o' (nC b o e) q⟩,
          fun b xs e => by have q := un.tups b xs e; rw [upd_ne (nD2 b _ q)]; exact q,
          fun b o u e => by have q := un.frzs b o u e; rw [upd_ne (nD2 b _ q)]; exact q,
          fun b ps e => let ⟨more, q⟩ := un.tbls b ps e; ⟨more, by rw [upd_ne (nD2 b _ q)]; exact q⟩⟩
      have I6 : Inv X pins σ (upd H4 s2.heap.objs.size (.lst ys)) { s5 with heap := h6 } := by
        refine I3.call' (s' := { s5 with heap := h6 }) (ch := s2.heap.objs.size :: fp) ?_ un6 hok6 I5.bare fun b hb => ?_
        · show s5.os = s3.os
          have := I5.os
          rw [eS] at this
          exact this
        · have q : FpOk X pins H2 b := by
            rcases List.mem_cons.mp hb with rfl | z
            · exact fD
            · exact f2 b z
          obtain ⟨f0, f1, f2', f3, f4, f5⟩ := q
          exact ⟨f3, f1, f4, f5⟩
      exact ⟨.ref s2.heap.objs.size, _, I6, rfl, qn _ dn4⟩
    · have hitem := T.item XC eP eW eK eC i _ s4 _ H4 (fun _ _ => False) P4 (stat fr4) st4 go
      rw [eA] at hitem
      refine wpAny_mono hitem (fun r s5 ⟨u, hr, h5⟩ => ?_) fun _ _ z => z
      subst hr
      dsimp only
      refine wpAny_mono h5 (fun _ s6 ⟨x, H6, I6, r6, y6, st6, fr6⟩ => ?_) fun _ _ z => z
      have P6 := I6.pinned (stat fr6) (T.obj _ _ st6)
      rw [← eE, ← eP, ← eW, ← eA]
      refine wpAny_mono (hgC _ s6 _ H6 x u _ P6 r6 (step x H6 y6)) (fun _ s7 ⟨σ7, H7, I7, kp7, q7⟩ => ?_) fun _ _ z => by rw [eX] at z; exact z
      refine wpAny_mono (htC _ s7 σ7 H7 _ I7 q7) (fun ok s8 ⟨H8, I8, q8⟩ => ?_) fun _ _ z => by rw [eX] at z; exact z
      -- back to the turn's start
      have fin : ∀ {H9 : Hp} {s9 : Shared}, Inv XC ([(s2.heap.objs.size, ({ cls := .type "list", data := .seq its.toArray nn } : Obj))] ++ pinsAt fp s6.heap) σ7 H9 s9 → Inv XC [] (subSt sub σ) H9 s9 ∧ tn (i + 1) s9.heap ∧ (∀ b ∈ fp, H9 b = none) ∧ H9 s2.heap.objs.size = none ∧
          s9.heap.get? s2.heap.objs.size = some { cls := .type "list", data := .seq its.toArray nn } := fun {H9 s9} J => by
        have pD := J.pin (s2.heap.objs.size, ({ cls := .type "list", data := .seq its.toArray nn } : Obj)) (by rw [ePn]; simp)
        have pF : ∀ b ∈ fp, ∀ o, s6.heap.get? b = some o → s9.heap.get? b = some o ∧ H9 b = none := fun b hb o e => by
          have q := J.pin (b, o) (by rw [ePn]; exact List.mem_append_right _ (List.mem_append_right _ (mem_pinsAt hb e)))
          exact ⟨q.1, q.2.1⟩
        refine ⟨?_, T.keep _ _ _ st6 fun b hb o e => (pF b hb o e).1, fun b hb => ?_, pD.2.1, pD.1⟩
        · have J0 : Inv XC [] σ7 H9 s9 := J.pins_of fun p hp => nomatch hp
          exact J0.weak kp7.1.symm fun j v e => kp7.2 j v e
        · obtain ⟨o, e, _⟩ := T.obj _ _ st6 b hb
          exact (pF b hb o e).2
      cases ok with
      | false =>
        rw [if_neg (by simp)]
        rw [if_neg (by simp)] at q8
        obtain ⟨m', hm, w8⟩ := hN _ _ q8
        obtain ⟨a1, a2, a3, a4, a5⟩ := fin I8
        exact ⟨m', hm, i + 1, ys, its, nn, H8, a1, a2, a3, a4, a5, rv4, w8⟩
      | true =>
        rw [if_pos rfl]
        rw [if_pos rfl] at q8
        refine wpAny_mono (heC _ s8 σ7 H8 _ I8 q8) (fun xv s9 ⟨y, H9, I9, r9, n9⟩ => ?_) fun _ _ z => by rw [eX] at z; exact z
        obtain ⟨m', hm, w9⟩ := hN _ _ n9
        obtain ⟨a1, a2, a3, a4, a5⟩ := fin I9
        refine wpAny_list_append_plain (items := its.toArray) ⟨nn, a5⟩ (fun h' ⟨n', hp'⟩ sb => ?_) (by simp; rw [← rv4.length]; omega)
        obtain ⟨q1, q2⟩ := I4.ok.exf s2.heap.objs.size (by rw [eEx]; exact List.mem_cons_self)
        have a1' : Inv XC [] (subSt sub σ) H9 { s9 with heap := h' } := a1.turned (t' := s9.toks) (fun b o hb e => (sb.2 b hb).trans e) a4 q1 (.inl (by rw [eEx]; exact List.mem_cons_self)) q2 (fun p hp => by rw [ePn] at hp; exact nomatch hp)
        refine ⟨m', hm, i + 1, ys ++ [y], its ++ [xv], n', H9, a1', T.keep _ _ _ a2 fun b hb o e => (sb.2 b (fun z => hDfp (by rw [← z]; exact hb))).trans e, a3, a4, ?_, rv4.append (.cons r9 .nil), w9⟩
        rw [hp']
        simp
  subst hs3
  exact codeAny_compStart_list loop (T.self _ 0 _ _ _ (T.keep _ _ _ st2 fun b _ o e => hk31 b o (k23 b o e)) loop)
end

noncomputable abbrev CompR (sub : List (Option Nat)) (g : TG) (tt : TT) (te : TE) (σ : St) (Q : VK) (J : It) (H1 : Hp) : Prop := ∃ W : Nat → Nat → List V → Hp → Prop, (∃ m, W 0 m [] H1) ∧ ∀ i m ys H, W i m ys H →
  (J.stop i H ∧ ys.length ≤ sizeLine ∧ ∀ D, H D = none → Q (.ref D) (upd H D (.lst ys))) ∨
  (J.go i H ∧ ys.length < sizeLine ∧ ∃ N : List V → Hp → Prop, (∀ ys' H', N ys' H' → ∃ m', m' < m ∧ W (i + 1) m' ys' H') ∧
    ∀ x H', J.yld i H x H' → g x (subSt sub σ) H' fun σ2 H2 => KeepSt (subSt sub σ) σ2 ∧ tt σ2 H2 fun b H3 => if b = true then te σ2 H3 fun y H4 => N (ys ++ [y]) H4 else N ys H3)
theorem comp_by {sub : List (Option Nat)} {g : TG} {tt : TT} {te : TE} {σ : St} {Q : VK} {J : It} {H : Hp} {n : Nat} (Pv : Nat → List V → Hp → Prop) (hn : n ≤ sizeLine) (h0 : Pv 0 [] H) (hl : ∀ i ys H, Pv i ys H → ys.length ≤ i)
    (hgo : ∀ i ys H, i < n → Pv i ys H → J.go i H) (hstop : ∀ ys H, Pv n ys H → J.stop n H)
    (hs : ∀ i ys H x H', i < n → Pv i ys H → J.yld i H x H' → g x (subSt sub σ) H' fun σ2 H2 => KeepSt (subSt sub σ) σ2 ∧ tt σ2 H2 fun b H3 => if b = true then te σ2 H3 fun y H4 => Pv (i + 1) (ys ++ [y]) H4 else Pv (i + 1) ys H3)
    (hd : ∀ ys H, Pv n ys H → ∀ D, H D = none → Q (.ref D) (upd H D (.lst ys))) : CompR sub g tt te σ Q J H := by
  refine ⟨fun i m ys H => m = n - i ∧ i ≤ n ∧ Pv i ys H, ⟨n, by simp, Nat.zero_le _, h0⟩, ?_⟩
  rintro i m ys H ⟨rfl, hi, p⟩
  have hl' := hl i ys H p
  by_cases hlt : i < n
  · exact .inr ⟨hgo i ys H hlt p, by omega, fun ys' H' => Pv (i + 1) ys' H', fun ys' H' p' => ⟨n - (i + 1), by omega, rfl, hlt, p'⟩, fun x H' y => hs i ys H x H' hlt p y⟩
  · have e : i = n := by omega
    subst e
    exact .inl ⟨hstop ys H p, by omega, hd ys H p⟩
end L2

namespace L2
open PySem PySem.Spec PyProof.Rows

section
variable {κ : Type} [DecidableEq κ]
noncomputable def putK (kvs : List (κ × V)) (k : κ) (v : V) : List (κ × V) :=
  if (kvs.any fun kv => decide (kv.1 = k)) = true then kvs.map (fun kv => if kv.1 = k then (kv.1, v) else kv) else kvs ++ [(k, v)]
theorem length_putK (kvs : List (κ × V)) (k : κ) (v : V) : (putK kvs k v).length ≤ kvs.length + 1 := by
  unfold putK
  split
  · rw [List.length_map]; omega
  · rw [List.length_append, List.length_cons, List.length_nil]; omega
theorem KV.any {kvs : List (κ × V)} {vs : List (κ × Value)} (r : KV kvs vs) (k : κ) : (kvs.any fun kv => decide (kv.1 = k)) = vs.any fun kv => decide (kv.1 = k) := by
  unfold KV at r
  induction r with
  | nil => rfl
  | cons h t ih => rw [List.any_cons, List.any_cons, ih, h.1]
theorem KV.repl {kvs : List (κ × V)} {vs : List (κ × Value)} (r : KV kvs vs) (k : κ) {y : V} {u : Value} (ry : RelV y u) :
    KV (kvs.map fun kv => if kv.1 = k then (kv.1, y) else kv) (vs.map fun kv => if kv.1 = k then (kv.1, u) else kv) := by
  unfold KV at r ⊢
  induction r with
  | nil => exact .nil
  | @cons p q ps qs h t ih =>
    rw [List.map_cons, List.map_cons]
    refine .cons ?_ ih
    obtain ⟨h1, h2⟩ := h
    by_cases e : p.1 = k
    · rw [if_pos e, if_pos (h1.symm.trans e)]; exact ⟨h1, ry⟩
    · rw [if_neg e, if_neg (fun z => e (h1.trans z))]; exact ⟨h1, h2⟩
theorem KV.put {kvs : List (κ × V)} {vs : List (κ × Value)} (r : KV kvs vs) (k : κ) {y : V} {u : Value} (ry : RelV y u) : KV (putK kvs k y) (stored vs k u) := by
  unfold putK stored
  rw [r.any k]
  by_cases e : (vs.any fun kv => decide (kv.1 = k)) = true
  · rw [if_pos e, if_pos e]; exact r.repl k ry
  · rw [if_neg e, if_neg e]; exact Paired.snoc r ⟨rfl, ry⟩
end


theorem kV_is {P : Program} {w : World} {k : Key} {u : Value} (r : RelV (kV k) u) : (mixKind P w).is k u = true := by
  cases k with
  | inl i => obtain ⟨t, e⟩ := (show ∃ t, u = Value.int i t from r); subst e; exact mixKind_int P w i t
  | inr x => obtain ⟨t, e⟩ := (show ∃ t, u = Value.str x t from r); subst e; exact mixKind_str P w x t
section
variable {P : Program} {w : World} {H : Hp} {h : Heap} {a : Addr}
theorem rd_of {u : HO} (ok : HOk P w H h) (e : Rd H a u) : ObjOk P w H h a u := e.ok ok
theorem dk_rd {kvs : List (Key × V)} (ok : HOk P w H h) (e : Rd H a (.dK kvs)) : kvs.length ≤ sizeLine ∧ (a == sysModules) = false ∧ ∃ vs, KV kvs vs ∧ h.DictOf (mixKind P w) a vs :=
  show ObjOk P w H h a (.dK kvs) from rd_of ok e
theorem dk_of {kvs : List (Key × V)} (ok : HOk P w H h) (e : H a = some (.dK kvs)) : kvs.length ≤ sizeLine ∧ (a == sysModules) = false ∧ ∃ vs, KV kvs vs ∧ h.DictOf (mixKind P w) a vs := dk_rd ok (.inl e)
end

section
variable {X : Cx} {pins : List (Addr × Obj)} {σ : St} {H : Hp} {s : Shared} {a : Addr} {y v : V} {u r : Value} {o : Option V} {A : Around} {E : Value → Shared → Prop}

theorem Inv.big (I : Inv X pins σ H s) : sysModules < s.heap.objs.size := by
  have h : mainGlobals < s.heap.objs.size := (I.mod.glob.keeps I.bk).lt
  exact Nat.lt_trans (by decide) h

theorem d_write {h' : Heap} {t' : Nat} {ob : HO} (I : Inv X pins σ H s) (mu : Mut (H a)) (hs : Heap.SameBut a s.heap h') (he : ∃ q, h'.get? a = some q) (new : ObjOk X.prog X.w (upd H a ob) h' a ob) :
    Inv X pins σ (upd H a ob) { s with heap := h', toks := t' } :=
  I.write (x := a) (e := a) mu (.inl rfl) (fun b q hb z => (hs.2 b hb).trans z) he new
theorem dk_new {P : Program} {w : World} {H' : Hp} {h' : Heap} {kvs : List (Key × V)} {vs : List (Key × Value)} (z : kvs.length ≤ sizeLine) (hd : (a == sysModules) = false) (rel : KV kvs vs) (dd : h'.DictOf (mixKind P w) a vs) :
    ObjOk P w H' h' a (.dK kvs) := ⟨z, hd, vs, rel, dd⟩
end

section
variable {X : Cx} {pins : List (Addr × Obj)} {σ : St} {H : Hp} {s : Shared} {a : Addr} {kvs : List (Key × V)} {k : Key} {u : Value} {A : Around} {E : Value → Shared → Prop}
end


section
variable {X : Cx} {o i e value : Expr} {pos pos' tpos : Pos} {td ty tv : TE}
end


theorem dk_empty {P : Program} {w : World} {H : Hp} (h : Heap) (hb : sysModules < h.objs.size) : ObjOk P w H (h.push { cls := .type "dict", data := .dict #[] }) h.objs.size (.dK []) :=
  ⟨Nat.zero_le _, beq_eq_false_iff_ne.mpr (Ne.symm (Nat.ne_of_lt hb)), [], .nil, Heap.DictOf.new h⟩
section
variable {X : Cx} {pos : Pos}
end

noncomputable def tPairs : List (TE × TE) → St → Hp → (List (V × V) → Hp → Prop) → Prop
  | [], _, H, Q => Q [] H
  | (tk, tv) :: r, σ, H, Q => tk σ H fun x H1 => tv σ H1 fun y H2 => tPairs r σ H2 fun ps H3 => Q ((x, y) :: ps) H3
noncomputable abbrev VV : List (V × V) → List (Value × Value) → Prop := Paired fun p q => RelV p.1 q.1 ∧ RelV p.2 q.2
noncomputable def PPs (X : Cx) (pos : Pos) (keys : List (Option Expr)) (values : List Expr) (trs : List (TE × TE)) : Prop :=
  ∀ (pins : List (Addr × Obj)) (s : Shared) (σ : St) (H : Hp) (Q : List (V × V) → Hp → Prop), Inv X pins σ H s → tPairs trs σ H Q →
    wpAny (model X.prog X.w) X.A (evalPairs (pairTrees keys values X.env pos)) (fun vs s' => ∃ ps H', Inv X pins σ H' s' ∧ VV ps vs ∧ Q ps H') X.xe s
theorem pps_nil {X : Cx} {pos : Pos} : PPs X pos [] [] [] := fun pins s σ H Q I h => pairTrees_nil_walk ⟨[], H, I, .nil, h⟩
theorem pps_cons {X : Cx} {pos : Pos} {k v : Expr} {ks : List (Option Expr)} {vs : List Expr} {tk tv : TE} {trs : List (TE × TE)} (hk : PE X k tk) (hv : PE X v tv) (hr : PPs X pos ks vs trs) :
    PPs X pos (some k :: ks) (v :: vs) ((tk, tv) :: trs) := fun pins s σ H Q I h =>
  pairTrees_cons_walk (thn (hk pins s σ H _ I h) fun u s1 ⟨x, H1, I1, rx, q1⟩ => thn (hv pins s1 σ H1 _ I1 q1) fun w2 s2 ⟨y, H2, I2, ry, q2⟩ =>
    thn (hr pins s2 σ H2 _ I2 q2) fun ws s3 ⟨ps, H3, I3, rel, q3⟩ => ⟨(x, y) :: ps, H3, I3, .cons ⟨rx, ry⟩ rel, q3⟩)

noncomputable def mergeK (kvs more : List (Key × V)) : List (Key × V) := more.foldl (fun acc kv => putK acc kv.1 kv.2) kvs
theorem KV.merge : ∀ {more : List (Key × V)} {rs : List (Key × Value)} {kvs : List (Key × V)} {vs : List (Key × Value)}, KV more rs → KV kvs vs → KV (mergeK kvs more) (merged vs rs) := by
  intro more rs kvs vs r
  unfold KV at r
  induction r generalizing kvs vs with
  | nil => intro q; exact q
  | @cons p q ps qs h t ih =>
    intro r0
    have e : KV (putK kvs p.1 p.2) (stored vs q.1 q.2) := by
      have := r0.put p.1 h.2
      rw [← h.1]; exact this
    exact ih e
theorem length_mergeK : ∀ (more kvs : List (Key × V)), (mergeK kvs more).length ≤ kvs.length + more.length
  | [], kvs => by show kvs.length ≤ kvs.length + 0; omega
  | p :: r, kvs => by
    have h1 := length_mergeK r (putK kvs p.1 p.2)
    have h2 := length_putK kvs p.1 p.2
    show (mergeK (putK kvs p.1 p.2) r).length ≤ _
    rw [List.length_cons]; omega
theorem carries_of {P : Program} {w : World} : ∀ {kvs : List (Key × V)} {ws : List (Value × Value)}, VV (kvs.map fun kv => (kV kv.1, kv.2)) ws → ∃ rs, Carries (mixKind P w) ws rs ∧ KV kvs rs
  | [], _, r => by rw [List.map_nil] at r; cases r; exact ⟨[], True.intro, .nil⟩
  | p :: kvs, _, r => by
    rw [List.map_cons] at r
    cases r with
    | @cons a b as bs h t =>
      obtain ⟨rs, c, q⟩ := carries_of (P := P) (w := w) t
      obtain ⟨b1, b2⟩ := b
      exact ⟨(p.1, b2) :: rs, ⟨kV_is h.1, rfl, c⟩, .cons ⟨rfl, h.2⟩ q⟩
noncomputable def tDisp (trs : List (TE × TE)) : TE := fun σ H Q => ∀ p, H p = none → tPairs trs σ (upd H p (.dK [])) fun ps H2 => H2 p = some (.dK []) ∧ ∃ kvs : List (Key × V), ps = kvs.map (fun kv => (kV kv.1, kv.2)) ∧ kvs.length ≤ 15 ∧ Q (.ref p) (upd H2 p (.dK (mergeK [] kvs)))
theorem pe_disp {X : Cx} {pos : Pos} {keys : List (Option Expr)} {values : List Expr} {trs : List (TE × TE)} (h : PPs X pos keys values trs) (hall : keys.all (·.isSome) = true) (hl : keys.length = values.length) (h0 : keys ≠ [])
    (h15 : keys.length ≤ 15) : PE X (.Dict keys values pos) (tDisp trs) := by
  intro pins s σ H Q I q
  have hn := I.hok.fresh (Nat.le_refl s.heap.objs.size)
  have I1 := I.laid (a := s.heap.objs.size) (o := .dK []) (h' := s.heap.push { cls := .type "dict", data := .dict #[] }) (t' := s.toks) (fun _ _ q => Heap.get?_push_of_some _ q) (Nat.le_refl _) (dk_empty s.heap I.big)
  refine wpAny_Dict_walk (knd := mixKind X.prog X.w) hall hl h0 h15 (thn (h pins _ σ _ _ I1 (q _ hn)) fun ws s2 qq0 => ?_)
  obtain ⟨ps, H2, I2, rel, e, kvs, ep, lk, q2⟩ := qq0
  subst ep
  obtain ⟨rs, c, rk⟩ := carries_of (P := X.prog) (w := X.w) rel
  obtain ⟨z, hd, vs0, r0, dd⟩ := dk_of I2.hok e
  cases r0
  refine ⟨rs, c, dd, fun h' dd' hs => ⟨.ref s.heap.objs.size, _, ?_, rfl, q2⟩⟩
  have hz : (mergeK [] kvs).length ≤ sizeLine := by
    have h1 := length_mergeK kvs []
    rw [List.length_nil] at h1
    rw [sizeLine_eq]; omega
  have he : ∃ q, h'.get? s.heap.objs.size = some q := let ⟨q, _, _, hq, _⟩ := dd'; ⟨q, hq⟩
  exact d_write I2 (by rw [e]; exact True.intro) hs he (dk_new hz hd (rk.merge .nil) dd')


structure M1 (X : Cx) (o : Expr) (m : Str) (apos : Pos) (e : Expr) (cpos : Pos) : Prop where
  base : attributeBase o m X.env (eval o X.env) = eval o X.env
  few : ((backTo cpos (starEach [e] X.env)).all (fun x => !x.1) && (backToKw cpos (keywordEach [] X.env)).all (fun x => x.1.isSome)
    && decide (([e] : List Expr).length + ([] : List Keyword).length + (if ([] : List Keyword).isEmpty then 0 else 1) < 30)) = true
  line : (apos.endLine == cpos.line) = true
  trees : backTo cpos (starEach [e] X.env) = [(false, eval e X.env)]
structure M2 (X : Cx) (o : Expr) (m : Str) (apos : Pos) (e f : Expr) (cpos : Pos) : Prop where
  base : attributeBase o m X.env (eval o X.env) = eval o X.env
  few : ((backTo cpos (starEach [e, f] X.env)).all (fun x => !x.1) && (backToKw cpos (keywordEach [] X.env)).all (fun x => x.1.isSome)
    && decide (([e, f] : List Expr).length + ([] : List Keyword).length + (if ([] : List Keyword).isEmpty then 0 else 1) < 30)) = true
  line : (apos.endLine == cpos.line) = true
  trees : backTo cpos (starEach [e, f] X.env) = [(false, eval e X.env), (false, eval f X.env)]

section
variable {X : Cx} {pins : List (Addr × Obj)} {σ : St} {H : Hp} {s : Shared} {a : Addr} {y d : V} {u r : Value} {o : Option V} {A : Around} {E : Value → Shared → Prop}
end

section
variable {X : Cx} {o e f : Expr} {apos cpos : Pos} {td ty tx : TE}
end

section
variable {X : Cx} {pins : List (Addr × Obj)} {σ : St} {H : Hp} {s : Shared} {a : Addr} {kvs : List (Key × V)} {A : Around} {E : Value → Shared → Prop}
end


section
variable {X : Cx} {pins : List (Addr × Obj)} {σ : St} {H : Hp} {s : Shared} {a : Addr} {y : V} {u : Value} {A : Around} {E : Value → Shared → Prop}
end
end L2

namespace L2
open PySem PySem.Spec PyProof.Rows
section
variable {X : Cx}
section
variable {κ : Type} [DecidableEq κ]
end
end
end L2

namespace L2
open PySem PySem.Spec PyProof.Rows

noncomputable def Its (x : Str) : It := ⟨fun i _ => i < x.cps.size, fun i H v H' => H' = H ∧ ∃ c, x.cps[i]? = some c ∧ v = .str ⟨#[c]⟩, fun i _ => i = x.cps.size⟩
theorem turn_str {P : Program} {w : World} {K : PySem.W.Frag} {tg : Expr} (it : Addr) (x : Str) (t : Tok) (ty : String)
    (hty : ["enumerate", "zip", "dict_itemiterator", "dict_reverseitemiterator", "odict_iterator", "itertools.zip_longest", "itertools.pairwise"].contains ty = false)
    (W : ∀ A : Around, A.handled = none → Walks P w A it [it] [it] x.cps.size (SignAt x) fun i h => h.IsStrIter it ty x t i)
    (hself : ∀ (A : Around) (i : Nat) (s : Shared) (Q : Value → Shared → Prop) (E : Value → Shared → Prop), s.heap.IsStrIter it ty x t i → Q (.ref it) s → wpAny (model P w) A (pyIter (.ref it)) Q E s) : Turn P w K tg (Its x) [it] it (fun i h => h.IsStrIter it ty x t i) where
  mem := by simp
  obj := fun i h st b hb => by
    have e : b = it := by simpa using hb
    subst e
    obtain ⟨o, e, c, d⟩ := st
    exact ⟨o, e, fun v z => by rw [d] at z; cases z⟩
  keep := fun i h h' st k => by
    obtain ⟨o, e, r⟩ := st
    exact ⟨o, k it (by simp) o e, r⟩
  item := by
    intro X hP hw hK hc i pins s σ H E I hf st hg
    subst hP hw hK
    obtain ⟨f0, f1, f2, f3, f4, f5⟩ := hf it (by simp)
    refine (W X.A (I.ok.hd hc)).item i s _ _ hg st fun v h' tk hv st' kk => ?_
    obtain ⟨c, u, e1, rfl⟩ := hv
    have I1 : Inv X pins σ H { s with heap := h', toks := tk } := I.turned (fun b o hb e => kk b o (by simpa using hb) e) f0 f1 f3 f4 f5
    obtain ⟨o, e, cl, d⟩ := id st'
    exact ⟨_, rfl, go_of (s := { s with heap := h', toks := tk }) e cl d hty ⟨.str ⟨#[c]⟩, H, I1, ⟨u, rfl⟩, ⟨rfl, c, e1, rfl⟩, st', fun b hb => (hf b hb).1⟩⟩
  done := by
    intro X hP hw hK hc i pins s σ H E I hf st hg
    subst hP hw hK
    obtain ⟨f0, f1, f2, f3, f4, f5⟩ := hf it (by simp)
    have hg : i = x.cps.size := hg
    subst hg
    exact (W X.A (I.ok.hd hc)).done s _ _ st fun h' tk kk => ⟨rfl, I.turned (fun b o hb e => kk b o (by simpa using hb) e) f0 f1 f3 f4 f5⟩
  self := hself
section
variable {X : Cx}
theorem strsAre_of : ∀ {ys : List Str} {us : List Value}, Vals (ys.map V.str) us → StrsAre us ys
  | [], _, .nil => .nil
  | y :: ys, _, .cons r t => by
    obtain ⟨k, e⟩ := (show ∃ t, _ = Value.str y t from r)
    subst e
    exact .cons y k (strsAre_of t)
noncomputable def rJoin : V → List V → Hp → VK → Prop := fun x xs H Q => ∃ (sep : Str) (p : Addr) (ys : List Str), x = .str sep ∧ xs = [.ref p] ∧ H p = some (.lst (ys.map V.str)) ∧ (ys.map (·.length)).sum + ys.length * sep.length ≤ 16777216 ∧ Q (.str (Txt.join sep ys)) H
theorem mt_join : MtR X "str.join" rJoin := by
  intro pins s σ H x xs v us Q I rx r h
  obtain ⟨sep, p, ys, rfl, rfl, hp, hz, q⟩ := h
  obtain ⟨u, rfl, ru⟩ := vals1 r
  cases ru
  obtain ⟨t, rfl⟩ := rx
  obtain ⟨hz', its, n, rv, e⟩ := I.hok p _ hp
  exact join_list (items := its.toArray) ⟨_, e, rfl, n, rfl⟩ (by simpa using strsAre_of rv) hz fun t' k => ⟨.str _, H, I.tok _, ⟨_, rfl⟩, q⟩
noncomputable def rSlS : V → Option Int → Option Int → Hp → VK → Prop := fun v lo hi H Q => ∃ x, v = .str x ∧ x.length ≤ sizeLine ∧ Q (.str (Txt.slice x lo hi)) H
theorem sl_str : SlR X rSlS := by
  intro pins s σ H x v vl vu lo hi sl Q I rx hs pl pu h
  obtain ⟨z, rfl, hz, q⟩ := h
  obtain ⟨t, rfl⟩ := rx
  refine ⟨"str", _, F.slot_str_getitem.lookup, typeIs_str _ _ _, ?_⟩
  have fin : ∀ (t' k : Nat), EP X pins σ Q (.str (Txt.slice z lo hi) t') { s with toks := k } := fun t' k => ⟨.str _, H, I.tok _, ⟨_, rfl⟩, q⟩
  have sz := Nat.le_trans (Txt.slice_le z lo hi) hz
  obtain ⟨o, ho, hc, hd⟩ := hs
  cases pl with
  | none =>
    cases pu with
    | none => exact wpAny_getItem_str_slice (l := none) (u := none) (st := none) ⟨o, ho, hc, hd⟩ rfl (post_val_or_str ⟨sz, fin⟩)
    | int j tj => exact wpAny_getItem_str_slice (l := none) (u := some (j, tj)) (st := none) ⟨o, ho, hc, hd⟩ rfl (post_val_or_str ⟨sz, fin⟩)
  | int i ti =>
    cases pu with
    | none => exact wpAny_getItem_str_slice (l := some (i, ti)) (u := none) (st := none) ⟨o, ho, hc, hd⟩ rfl (post_val_or_str ⟨sz, fin⟩)
    | int j tj => exact wpAny_getItem_str_slice (l := some (i, ti)) (u := some (j, tj)) (st := none) ⟨o, ho, hc, hd⟩ rfl (post_val_or_str ⟨sz, fin⟩)
noncomputable def rMulS : R2 := fun x y H Q => ∃ i n, x = .str i ∧ y = .int n ∧ MulOk i n ∧ Q (.str (Txt.mul i n)) H
theorem op_mul_str : OpR X (binaryOp .Mult) rMulS := by
  intro pins s σ H x y v u Q I rx ry h
  obtain ⟨i, n, rfl, rfl, hk, q⟩ := h
  obtain ⟨t, rfl⟩ := rx
  obtain ⟨t', rfl⟩ := ry
  exact SB.mul hk fun t' k => ⟨.str _, H, I.tok _, ⟨_, rfl⟩, q⟩
noncomputable def eqVs : List V → List V → Bool
  | [], [] => true
  | x :: xs, y :: ys => eqV x y && eqVs xs ys
  | _, _ => false
theorem eqVs_range : ∀ (xs ys : List V), xs.length = ys.length → (List.range xs.length).all (fun j => eqV (xs.getD j .non) (ys.getD j .non)) = eqVs xs ys
  | [], [], _ => rfl
  | x :: xs, y :: ys, h => by
    have ih := eqVs_range xs ys (by simpa using h)
    rw [List.length_cons, List.range_succ_eq_map, List.all_cons, List.all_map]
    simp only [eqVs]
    rw [← ih]
    rfl
  | [], y :: ys, h => by simp at h
  | x :: xs, [], h => by simp at h
theorem eqVs_len : ∀ {xs ys : List V}, xs.length ≠ ys.length → eqVs xs ys = false
  | [], [], h => absurd rfl h
  | [], y :: ys, _ => rfl
  | x :: xs, [], _ => rfl
  | x :: xs, y :: ys, h => by simp [eqVs, eqVs_len (xs := xs) (ys := ys) (by simpa using h)]
noncomputable def rEqL (K : PySem.W.Frag) (neg : Bool) : R2 := fun x y H Q => ∃ a b xs ys, x = .ref a ∧ y = .ref b ∧ SqL K H a xs ∧ SqL K H b ys ∧ xs.all flatV = true ∧ ys.all flatV = true ∧ Q (.bl (if neg then !eqVs xs ys else eqVs xs ys)) H
theorem op_eq_lst (hu : X.A.units < cLine) : OpR X (compareOp .Eq) (rEqL X.K false) := by
  intro pins s σ H x y v u Q I rx ry h
  obtain ⟨a, b, xs, ys, rfl, rfl, ha, hb, fx, fy, q⟩ := h
  cases rx
  cases ry
  obtain ⟨its, r1, p1, z1⟩ := I.list ha
  obtain ⟨jts, r2, p2, z2⟩ := I.list hb
  have l1 : its.toArray.size = xs.length := by simpa using r1.length.symm
  have l2 : jts.toArray.size = ys.length := by simpa using r2.length.symm
  by_cases hl : xs.length = ys.length
  · refine SeqAt.eq_listAt (e := fun j => eqV (xs.getD j .non) (ys.getD j .non)) p1.isList p2.isList (by rw [l1, l2]; exact hl) hu (fun j h1 h2 => ?_) ?_
    · have h1' : j < xs.length := by omega
      have h2' : j < ys.length := by omega
      obtain ⟨u1, e1, q1⟩ := r1.get (List.getElem?_eq_getElem h1')
      obtain ⟨u2, e2, q2⟩ := r2.get (List.getElem?_eq_getElem h2')
      have e1' : its.toArray[j] = u1 := by
        have := List.getElem?_eq_some_iff.mp e1
        obtain ⟨_, z⟩ := this
        simpa using z
      have e2' : jts.toArray[j] = u2 := by
        have := List.getElem?_eq_some_iff.mp e2
        obtain ⟨_, z⟩ := this
        simpa using z
      rw [e1', e2']
      have g1 : xs.getD j .non = xs[j] := by rw [List.getD_eq_getElem?_getD, List.getElem?_eq_getElem h1']; rfl
      have g2 : ys.getD j .non = ys[j] := by rw [List.getD_eq_getElem?_getD, List.getElem?_eq_getElem h2']; rfl
      show SeqAt.EqAt X.A.in1 s u1 u2 (eqV (xs.getD j .non) (ys.getD j .non))
      rw [g1, g2]
      exact eqAt_V q1 q2 (List.all_eq_true.mp fx _ (List.getElem_mem h1')) (List.all_eq_true.mp fy _ (List.getElem_mem h2'))
    · rw [l1, eqVs_range xs ys hl]
      exact ⟨.bl _, H, I, rfl, q⟩
  · refine SeqAt.eq_list_lengthsAt p1.isList p2.isList (by rw [l1, l2]; simpa using hl) hu ?_
    rw [if_neg (by simp), eqVs_len hl] at q
    exact ⟨.bl false, H, I, rfl, q⟩
end
end L2

namespace L2
open PySem PySem.Spec PyProof.Rows

noncomputable def Def (K : PySem.W.Frag) (mg : Str → Option Value) (x : Str) (st : Stmt) : Prop := ∃ f fd, Fun K x x st f fd ∧ mg x = some (.ref f)
theorem def_mk {K : PySem.W.Frag} {mg : Str → Option Value} {h : Heap} (X : K.In h) (G : h.Ns mainGlobals mg) {x : Str} {st : Stmt} {f : Addr} {oc : Value} {od an : Option Addr} {osl : Array (Option Value)} {kV doc pm cdv ct : Value}
    (a : PySem.W.nsIn K mainGlobals x = some (some (.ref f)))
    (l : K.lookup f = some ⟨oc, od, .func (PySem.W.fnOf x x (defArgs st) (defBody st) (defScope st) .none kV doc pm an cdv ct), osl⟩)
    (c : PySem.W.codeIn K cdv x = true) (k : PySem.W.keepIn K (.ref f) = true) : Def K mg x st := ⟨f, _, fun_mk l c k, PySem.W.mg_of X G a⟩
noncomputable def Has (P : Program) (w : World) (K : PySem.W.Frag) (mg : Str → Option Value) (base : Heap) (k : Nat) (x : Str) (ps : List Str) (sp : Sp) : Prop :=
  ∃ f fd, mg x = some (.ref f) ∧ PySem.W.keepIn K (.ref f) = true ∧ Binds K fd ps [] ∧ FnOk P w K mg base CX0 k f fd ps sp
section
variable {P : Program} {w : World} {K : PySem.W.Frag} {mg : Str → Option Value} {base : Heap}
theorem has_of {x : Str} {st : Stmt} {N ps : List Str} {k : Nat} {sp : Sp} (D : Def K mg x st) (S : FnScope N ps (defScope st))
    (hb : ∀ (kV doc pm : Value) (an : Option Addr) (cdv ct : Value) (us : List Value), us.length = ps.length → bindArgs (PySem.W.fnOf x x (defArgs st) (defBody st) (defScope st) .none kV doc pm an cdv ct) ⟨us, []⟩ = pure (ps.zip us))
    (len : ∀ vs H Q E, sp vs H Q E → vs.length = ps.length)
    (hbody : ∀ (f : Addr) (cdv : Value) (A : Around) (outer : List Env) (s : Shared) (H : Hp) (vs : List V) (Q : VK) (E : XK), Room k (A.deeper (envOfC x (defScope st) s.heap.objs.size f cdv)) → sp vs H Q E →
      ∃ t, PSs (cxOf CX0 P w K mg base N x (defScope st) f cdv A outer s H E).nox (defBody st) t ∧ t { nx := fun _ H' => Q .non H', rt := Q } (start N vs) H) : Has P w K mg base (k + 1) x ps sp := by
  obtain ⟨f, fd, F, hm⟩ := D
  exact ⟨f, fd, hm, F.kp, F.binds hb, F.ok S len fun cdv A outer s H vs Q E hr h => hbody f cdv A outer s H vs Q E hr h⟩
end
section
variable {X : Cx}
theorem pe_callH {k : Nat} {x : Str} {ps : List Str} {sp : Sp} {p pos : Pos} {e : Expr} {es : List Expr} {t : TA} (F : Has X.prog X.w X.K X.mg X.base k x ps sp) (hr : Room k X.A) (hg : Gl X x)
    (ha : PA X (e :: es) t) (hdb : autoParam ((x == ("__debug__" : Str)) = false) L2.auto2._auto_1) (he : autoParam (starEach (e :: es) X.env = (false, eval e X.env) :: starEach es X.env) L2.auto4._auto_1) (hpl : autoParam ((backTo pos (starEach es X.env)).any (·.1) = false) L2.auto4._auto_1) :
    PE X (.Call (.Name x p) (e :: es) [] pos) (tCall sp [] E0 t) := by
  obtain ⟨f, fd, a, b, c, d⟩ := F
  exact pe_call d hr hg a b c .nil pass0 ha hdb he hpl
noncomputable def rAddA : R2 := fun x y H Q => (∃ i j, x = .int i ∧ y = .int j ∧ Q (.int (i + j)) H) ∨ (∃ i j, x = .str i ∧ y = .str j ∧ i.length + j.length ≤ sizeLine ∧ Q (.str (i ++ j)) H) ∨ rCat x y H Q
theorem op_addA : OpR X (binaryOp .Add) rAddA := op_add.or (op_add_str.or op_cat)
noncomputable def rMulA : R2 := fun x y H Q => (∃ i j, x = .int i ∧ y = .int j ∧ CMul i j ∧ Q (.int (i * j)) H) ∨ rMulS x y H Q ∨ rRep x y H Q
theorem op_mulA : OpR X (binaryOp .Mult) rMulA := op_mul.or (op_mul_str.or op_rep)
theorem pe_ty {x : Str} {T : String} {pos : Pos} (hg : Gl X x) (hm : X.mg x = none) (hv : bootBuiltins x = some (.type T)) (hn : autoParam (x ≠ "__name__") L2.auto2._auto_1) (hd : autoParam ((x == ("__debug__" : Str)) = false) L2.auto2._auto_1) : PE X (.Name x pos) (tC (.ty T)) :=
  pe_bltn hg hm hv rfl hn hd
noncomputable def rNotInA (K : PySem.W.Frag) : R2 := fun x y H Q => (∃ i j, x = .str i ∧ y = .str j ∧ Q (.bl (!(!(Builtin.Str.occurrences j i 0 j.length 1).isEmpty))) H) ∨ rIn K true x y H Q
theorem op_notInA : OpR X (compareOp .NotIn) (rNotInA X.K) := op_notIn_str.or op_notIn_seq
noncomputable def rEqA (K : PySem.W.Frag) : R2 := fun x y H Q => rEq x y H Q ∨ rEqL K false x y H Q
theorem op_eqA (hu : X.A.units < cLine) : OpR X (compareOp .Eq) (rEqA X.K) := op_eq.or (op_eq_lst hu)
noncomputable def rSl (K : PySem.W.Frag) : V → Option Int → Option Int → Hp → VK → Prop := fun x lo hi H Q => rSlL K x lo hi H Q ∨ rSlT K x lo hi H Q ∨ rSlS x lo hi H Q
theorem sl_seq : SlR X (rSl X.K) := sl_list.or (sl_tup.or sl_str)
noncomputable def iSeq (K : PySem.W.Frag) (tl : TE) : TI := fun σ H R => tl σ H fun x H1 => (∃ a, x = .ref a ∧ (∃ xs, SqL K H1 a xs) ∧ R (Itl K a) H1) ∨ (∃ a, x = .ref a ∧ (∃ xs, SqT K H1 a xs) ∧ R (Itt K a) H1) ∨ (∃ z, x = .str z ∧ R (Its z) H1)
theorem pi_seq {tg l : Expr} {tl : TE} (hl : PE X l tl) : PI X tg l (iSeq X.K tl) := by
  intro pins s σ H R I h
  refine thn (hl pins s σ H _ I h) fun v s1 qq0 => ?_
  obtain ⟨x, H1, I1, r1, q1⟩ := qq0
  rcases q1 with ⟨a, rfl, ⟨xs, hq⟩, q⟩ | ⟨a, rfl, ⟨xs, hq⟩, q⟩ | ⟨z, rfl, q⟩
  · cases r1
    obtain ⟨its, rv, p, hz⟩ := I1.list hq
    refine wpAny_pyIter_list p.isList ?_
    refine ⟨s1.heap.objs.size, [s1.heap.objs.size], _, _, H1, rfl, I1.kept (t' := s1.toks) fun b o e => Heap.get?_push_of_some _ e, turn_list a _, ⟨_, Heap.get?_push_size _ rfl, rfl, rfl⟩, fun b hb => ?_, q⟩
    have e : b = s1.heap.objs.size := by simpa using hb
    subst e
    exact I1.fpOk (Nat.le_refl _) (I1.hok.fresh (Nat.le_refl _))
  · cases r1
    obtain ⟨its, rv, p, hz⟩ := I1.tuple hq
    refine wpAny_pyIter_tuple (show s1.heap.IsTuple a its.toArray from p) ?_
    refine ⟨s1.heap.objs.size, [s1.heap.objs.size], _, _, H1, rfl, I1.kept (t' := s1.toks) fun b o e => Heap.get?_push_of_some _ e, turn_tuple a _, ⟨_, Heap.get?_push_size _ rfl, rfl, rfl⟩, fun b hb => ?_, q⟩
    have e : b = s1.heap.objs.size := by simpa using hb
    subst e
    exact I1.fpOk (Nat.le_refl _) (I1.hok.fresh (Nat.le_refl _))
  · obtain ⟨t, rfl⟩ := r1
    have fin : ∀ (ty : String) (T : Turn X.prog X.w X.K tg (Its z) [s1.heap.objs.size] s1.heap.objs.size (fun i h => h.IsStrIter s1.heap.objs.size ty z t i)) (o : Obj), (s1.heap.push o).IsStrIter s1.heap.objs.size ty z t 0 → PIE X pins σ tg R (.ref s1.heap.objs.size) { s1 with heap := s1.heap.push o } :=
      fun ty T o st => ⟨s1.heap.objs.size, [s1.heap.objs.size], _, _, H1, rfl, I1.kept (t' := s1.toks) fun b o e => Heap.get?_push_of_some _ e, T, st, fun b hb => by
        have e : b = s1.heap.objs.size := by simpa using hb
        subst e
        exact I1.fpOk (Nat.le_refl _) (I1.hok.fresh (Nat.le_refl _)), q⟩
    cases ha : z.cps.all (· < 128)
    · exact wpAny_pyIter_wide ha (fin "str_iterator" (turn_str _ z t _ (by decide) (fun A' hA => Walks.strWide hA _ z t) fun A i s Q E st h => wpAny_pyIter_striter_wide st h) _ ⟨_, Heap.get?_push_size _ rfl, rfl, rfl⟩)
    · exact wpAny_pyIter_ascii ha (fin "str_ascii_iterator" (turn_str _ z t _ (by decide) (fun A' hA => Walks.strAscii hA _ z t) fun A i s Q E st h => wpAny_pyIter_striter_ascii st h) _ ⟨_, Heap.get?_push_size _ rfl, rfl, rfl⟩)
end
section
variable {X : Cx} {K : PySem.W.Frag}
theorem ix_seqK (hK : X.K = K) : IxR X (rIx K) := hK ▸ ix_seq
theorem op_notInK (hK : X.K = K) : OpR X (compareOp .NotIn) (rNotInA K) := hK ▸ op_notInA
theorem op_eqK (hK : X.K = K) (hu : X.A.units < cLine) : OpR X (compareOp .Eq) (rEqA K) := hK ▸ op_eqA hu
theorem sl_seqK (hK : X.K = K) : SlR X (rSl K) := hK ▸ sl_seq
theorem pi_seqK {tg l : Expr} {tl : TE} (hK : X.K = K) (hl : PE X l tl) : PI X tg l (iSeq K tl) := hK ▸ pi_seq hl
noncomputable def rLen (K : PySem.W.Frag) : List V → Hp → VK → Prop := fun xs H Q => ∃ x n, xs = [x] ∧ LenV K x H n ∧ Q (.int n) H
theorem call_lenK (hK : X.K = K) : CallR X (.builtin "len") (rLen K) := hK ▸ call_len
variable {o e : Expr} {es : List Expr} {to : TE} {t : TA} {name : Str} {apos cpos : Pos} {T id : String} {r : V → List V → Hp → VK → Prop}
theorem pe_bmK (hK : X.K = K) (pa : PlainAttrs T) (slot : Slot T name id) (hty : typeOf (.builtin id) = pure (.type "method_descriptor")) (hm : MtR X id r) (ho : PE X o to) (ha : PA X (e :: es) t)
    (hbase : autoParam (attributeBase o name X.env (eval o X.env) = eval o X.env) L2.auto4._auto_1)
    (hfew : ((backTo cpos (starEach (e :: es) X.env)).all (fun x => !x.1) && (backToKw cpos (keywordEach [] X.env)).all (fun x => x.1.isSome)
      && decide ((e :: es).length + ([] : List Keyword).length + (if ([] : List Keyword).isEmpty then 0 else 1) < 30)) = true := by rfl)
    (hline : autoParam ((apos.endLine == cpos.line) = true) L2.auto4._auto_1) (hs : autoParam (starEach (e :: es) X.env = (false, eval e X.env) :: starEach es X.env) L2.auto4._auto_1) (hplain : autoParam ((backTo cpos (starEach es X.env)).any (·.1) = false) L2.auto4._auto_1) :
    PE X (.Call (.Attribute o name apos) (e :: es) [] cpos) (tBM K T r to t) := by
  subst hK; exact pe_bm pa slot hty hm ho ha hbase hfew hline hs hplain
theorem pg_tupK {ts : List Expr} {k : Nat} {gs : TGs} {n : Nat} {pos : Pos} (hK : X.K = K) (hc : X.calm = true) (h : PGs X ts gs)
    (hn : autoParam ((assignEach ts X.env).length = n) L2.auto4._auto_1) (hst : autoParam ((assignEach ts X.env).findIdx? (·.1) = none) L2.auto4._auto_1) : PG X (.Tuple ts k pos) (gTup K n gs) := by
  subst hK; exact pg_tup hc h hn hst
end
section
variable {X : Cx} {sc scope : Scope} {N' : List Str} {C : Addr} {s₀ : Shared} {H₀ : Hp} {ex : List Addr} {x : Str} {pos : Pos}
theorem pvL (i : Nat) (h : sc.names.lookup x = some .local) (hN : autoParam (X.N[i]? = some x) L2.auto4._auto_1) (hsc : autoParam (X.env.scope = sc) L2.auto4._auto_1) (hd : autoParam ((x == ("__debug__" : Str)) = false) L2.auto5._auto_1) (hcd : autoParam ((x == ("__classdict__" : Str)) = false) L2.auto5._auto_1) :
    PE X (.Name x pos) (tVar i) := pe_var hN (.inl (by rw [hsc]; exact h)) hd hcd
theorem pvC (i : Nat) (h : sc.names.lookup x = some .cell) (hN : autoParam (X.N[i]? = some x) L2.auto4._auto_1) (hsc : autoParam (X.env.scope = sc) L2.auto4._auto_1) (hd : autoParam ((x == ("__debug__" : Str)) = false) L2.auto5._auto_1) (hcd : autoParam ((x == ("__classdict__" : Str)) = false) L2.auto5._auto_1) :
    PE X (.Name x pos) (tVar i) := pe_var hN (.inr (.inl (by rw [hsc]; exact h))) hd hcd
theorem pvBL (i : Nat) (h : scope.names.lookup x = some .local) (hN : autoParam (N'[i]? = some x) L2.auto4._auto_1) (hd : autoParam ((x == ("__debug__" : Str)) = false) L2.auto5._auto_1) (hcd : autoParam ((x == ("__classdict__" : Str)) = false) L2.auto5._auto_1) :
    PE (cxC X N' scope C s₀ H₀ ex) (.Name x pos) (tVar i) := pe_var hN (.inl (lookup_relabel_local h)) hd hcd
theorem pvBF (i : Nat) (h : scope.names.lookup x = some .free) (hN : autoParam (N'[i]? = some x) L2.auto4._auto_1) (hd : autoParam ((x == ("__debug__" : Str)) = false) L2.auto5._auto_1) (hcd : autoParam ((x == ("__classdict__" : Str)) = false) L2.auto5._auto_1) :
    PE (cxC X N' scope C s₀ H₀ ex) (.Name x pos) (tVar i) := pe_var hN (by
      rcases relabel_free (env := X.env) h with z | z
      · exact .inr (.inl z)
      · exact .inr (.inr z)) hd hcd
theorem glF (h : sc.names.lookup x = some .globalImplicit) (hsc : autoParam (X.env.scope = sc) L2.auto4._auto_1) : Gl X x := by
  show X.env.scope.names.lookup x = _
  rw [hsc]; exact h
theorem lookup_relabel_glob {env : Env} : ∀ {names : List (Str × NameKind)} {x : Str}, names.lookup x = some .globalImplicit →
    (names.map fun (n, k) => if (k == NameKind.free && env.scope.kind == .function && env.kindOf n == some .cell) then (n, NameKind.cell) else (n, k)).lookup x = some .globalImplicit
  | [], _, h => by simp at h
  | (n, k) :: r, x, h => by
    have ih := @lookup_relabel_glob env r x
    show List.lookup x ((if (k == NameKind.free && env.scope.kind == .function && env.kindOf n == some .cell) = true then (n, NameKind.cell) else (n, k)) :: _) = _
    cases hx : x == n with
    | true =>
      simp only [List.lookup_cons, hx] at h
      cases h
      simp [List.lookup_cons, hx]
    | false =>
      simp only [List.lookup_cons, hx] at h
      by_cases hc : (k == NameKind.free && env.scope.kind == .function && env.kindOf n == some .cell) = true
      · rw [if_pos hc]; simp only [List.lookup_cons, hx]; exact ih h
      · rw [if_neg hc]; simp only [List.lookup_cons, hx]; exact ih h
theorem glB (h : scope.names.lookup x = some .globalImplicit) : Gl (cxC X N' scope C s₀ H₀ ex) x := lookup_relabel_glob h
theorem pgB (i : Nat) (h : scope.names.lookup x = some .local) (hN : N'.Nodup) (hi : autoParam (N'[i]? = some x) L2.auto4._auto_1) : PG (cxC X N' scope C s₀ H₀ ex) (.Name x pos) (gName i) :=
  pg_name hN hi (.inl (lookup_relabel_local h)) (.inr (lookup_relabel_local h))
end
noncomputable def notComp : Expr → Bool
  | .ListComp .. => false | .SetComp .. => false | .DictComp .. => false | _ => true
theorem sw_no {value : Expr} {target : Option Expr} {line : Nat} {env : Env} (h : notComp value = true) : swapsWith value target line env = pure false := by
  cases value <;> first | rfl | cases h
noncomputable def notSlice : Expr → Bool
  | .Slice .. => false | _ => true
theorem pix {b : Expr} (h : notSlice b = true) : PlainIx b := by
  intro o i
  cases b <;> first | rfl | cases h
noncomputable def notSet : Expr → Bool
  | .Set .. => false | _ => true
theorem fs_no {e : Expr} {env : Env} (h : notSet e = true) : ∀ x, foldedSetIterable e env x = pure x := by
  intro x
  cases e <;> first | rfl | cases h
noncomputable def notStar : Expr → Bool
  | .Starred .. => false | _ => true
theorem se_cons {e : Expr} {es : List Expr} {env : Env} (h : notStar e = true) : starEach (e :: es) env = (false, eval e env) :: starEach es env := by
  cases e <;> first | rfl | cases h
theorem se_any {env : Env} {pos : Pos} : ∀ {es : List Expr}, es.all notStar = true → (backTo pos (starEach es env)).any (·.1) = false
  | [], _ => rfl
  | e :: es, h => by
    simp only [List.all_cons, Bool.and_eq_true] at h
    rw [se_cons h.1]
    show (false || (backTo pos (starEach es env)).any (·.1)) = false
    rw [se_any h.2]; rfl
theorem se_all {env : Env} {pos : Pos} : ∀ {es : List Expr}, es.all notStar = true → (backTo pos (starEach es env)).all (fun x => !x.1) = true
  | [], _ => rfl
  | e :: es, h => by
    simp only [List.all_cons, Bool.and_eq_true] at h
    rw [se_cons h.1]
    show (true && (backTo pos (starEach es env)).all (fun x => !x.1)) = true
    rw [se_all h.2]; rfl
section
variable {X : Cx} {K : PySem.W.Frag} {e : Expr} {es : List Expr} {te : TE} {t : TA} {pos p : Pos}
theorem paC (ha : PE X e te) (hr : PA X es t) (h : autoParam (notStar e = true) L2.auto4._auto_1) : PA X (e :: es) (tCons te t) := pa_cons ha hr (se_cons h)
theorem callH {k : Nat} {x : Str} {ps : List Str} {sp : Sp} (F : Has X.prog X.w X.K X.mg X.base k x ps sp) (hr : Room k X.A) (hg : Gl X x) (ha : PA X (e :: es) t) (hdb : (x == ("__debug__" : Str)) = false) (h : autoParam ((e :: es).all notStar = true) L2.auto4._auto_1) :
    PE X (.Call (.Name x p) (e :: es) [] pos) (tCall sp [] E0 t) := by
  simp only [List.all_cons, Bool.and_eq_true] at h
  exact pe_callH F hr hg ha hdb (se_cons h.1) (se_any h.2)
theorem callB {x : Str} {id : String} {r : List V → Hp → VK → Prop} (hc : CallR X (.builtin id) r) (hg : Gl X x) (hm : X.mg x = none) (hv : bootBuiltins x = some (.builtin id)) (ha : PA X (e :: es) t) (hn : x ≠ "__name__") (hdb : (x == ("__debug__" : Str)) = false) (h : autoParam ((e :: es).all notStar = true) L2.auto4._auto_1) :
    PE X (.Call (.Name x p) (e :: es) [] pos) (tCB r t) := by
  simp only [List.all_cons, Bool.and_eq_true] at h
  exact pe_callB hc hg hm hv ha hn hdb (se_cons h.1) (se_any h.2)
theorem callTy {x : Str} {T : String} {r : List V → Hp → VK → Prop} (hc : CallR X (.type T) r) (hg : Gl X x) (hm : X.mg x = none) (hv : bootBuiltins x = some (.type T)) (ha : PA X (e :: es) t) (hn : x ≠ "__name__") (hdb : (x == ("__debug__" : Str)) = false) (h : autoParam ((e :: es).all notStar = true) L2.auto4._auto_1) :
    PE X (.Call (.Name x p) (e :: es) [] pos) (tCB r t) := by
  simp only [List.all_cons, Bool.and_eq_true] at h
  exact pe_callTy hc hg hm hv ha hn hdb (se_cons h.1) (se_any h.2)
noncomputable def notCall : Expr → Bool
  | .Call .. => false | _ => true
theorem ab_no {o : Expr} {f : Str} {env : Env} {w : Sem Value} (h : notCall o = true) : attributeBase o f env w = w := by
  cases o <;> first | rfl | cases h
theorem methK {o : Expr} {to : TE} {name : Str} {apos cpos : Pos} {T id : String} {r : V → List V → Hp → VK → Prop} (hK : X.K = K) (pa : PlainAttrs T) (slot : Slot T name id) (hty : typeOf (.builtin id) = pure (.type "method_descriptor")) (hm : MtR X id r) (ho : PE X o to) (ha : PA X (e :: es) t)
    (hbase : autoParam (notCall o = true) L2.auto4._auto_1) (hl : autoParam (es.length < 20) L2.auto2._auto_1) (hline : autoParam ((apos.endLine == cpos.line) = true) L2.auto4._auto_1) (h : autoParam ((e :: es).all notStar = true) L2.auto4._auto_1) :
    PE X (.Call (.Attribute o name apos) (e :: es) [] cpos) (tBM K T r to t) := by
  have hA := se_all (env := X.env) (pos := cpos) h
  simp only [List.all_cons, Bool.and_eq_true] at h
  refine pe_bmK hK pa slot hty hm ho ha (ab_no hbase) ?_ hline (se_cons h.1) (se_any h.2)
  rw [hA]
  have : (e :: es).length + ([] : List Keyword).length + (if ([] : List Keyword).isEmpty then 0 else 1) < 30 := by simp; omega
  rw [decide_eq_true this]; rfl
theorem psSet {i : Nat} {x : Str} {pos' : Pos} (hN : X.N.Nodup) (hi : X.N[i]? = some x) (hx : Loc X.env.scope x) (he : PE X e te) (hf : X.fn x = true) (h : autoParam (notComp e = true) L2.auto4._auto_1) : PS X (.Assign [.Name x pos'] e pos) (tAsg te (gName i)) :=
  ps_set hN hi hx he (sw_no h) (.inl hf)
theorem ixE {a b : Expr} {ta tb : TE} (hK : X.K = K) (ha : PE X a ta) (hb : PE X b tb) (h : autoParam (notSlice b = true) L2.auto4._auto_1) : PE X (.Subscript a b pos) (tOp (rIx K) ta tb) := pe_ix (ix_seqK hK) ha hb (pix h)
theorem psFor {tg iter : Expr} {body : List Stmt} {wi : TI} {g : TG} {tb : TS} (hp : PassesOwn (model X.prog X.w) X.A X.env X.xe) (hc : X.calm = true) (hi : PI X tg iter wi) (hg : PG X tg g) (hb : PSs X body tb) (h : autoParam (notSet iter = true) L2.auto4._auto_1) : PS X (.For tg iter body [] pos) (tFor wi g tb) :=
  ps_for hp hc hi hg hb (fs_no h)
end
section
variable {X : Cx} {tg iter elt : Expr} {ifs : List Expr} {scope : Scope} {pos : Pos} {N' : List Str} {sub : List (Option Nat)} {wi : TI} {g : TG} {tt : TT} {te : TE} {N : List Str} {sc : Scope}
theorem compE (S : SubOk N sc N' scope sub) (hc : X.calm = true) (hN : X.N = N) (hsc : X.env.scope = sc) (hi : PI X tg iter wi)
    (hg : ∀ (C : Addr) (s₀ : Shared) (H₀ : Hp) (ex : List Addr), PG (cxC X N' scope C s₀ H₀ ex) tg g)
    (ht : ∀ (C : Addr) (s₀ : Shared) (H₀ : Hp) (ex : List Addr), PIfs (cxC X N' scope C s₀ H₀ ex) ifs tt)
    (he : ∀ (C : Addr) (s₀ : Shared) (H₀ : Hp) (ex : List Addr), PE (cxC X N' scope C s₀ H₀ ex) elt te) (h : autoParam (notSet iter = true) L2.auto4._auto_1) :
    PE X (.ListComp elt [⟨tg, iter, ifs, 0⟩] scope pos) (tComp sub wi g tt te) := pe_comp S hc hN hsc hi hg ht he (fs_no h)
end
theorem bt_len : bootBuiltins "len" = some (.builtin "len") := by decide +kernel
theorem bt_max : bootBuiltins "max" = some (.builtin "max") := by decide +kernel
theorem bt_isinstance : bootBuiltins "isinstance" = some (.builtin "isinstance") := by decide +kernel
theorem bt_repr : bootBuiltins "repr" = some (.builtin "repr") := by decide +kernel
theorem bt_int : bootBuiltins "int" = some (.type "int") := by decide +kernel
theorem iteD {c A B : Prop} [Decidable c] (h1 : c → A) (h2 : ¬ c → B) : if decide c = true then A else B := by
  by_cases h : c
  · rw [if_pos (decide_eq_true h)]; exact h1 h
  · rw [if_neg (by rw [decide_eq_false h]; exact Bool.false_ne_true)]; exact h2 h
theorem atI_int {α : Type} {xs : List α} {k : Int} {v : α} (h0 : 0 ≤ k) (h : xs[k.toNat]? = some v) : atI xs k = some v := by
  have e : ((k.toNat : Nat) : Int) = k := by omega
  rw [← e]
  exact atI_nat h
end L2

namespace L2
open PySem PySem.Spec PyProof.Rows
section
variable {σ : St} {H : Hp} {D : Ends} {ta tb te tc : TE} {tt tu : TT} {Q : VK} {t u : TS} {g : TG}
theorem r_seq (h : t { D with nx := u D } σ H) : tSeq t u D σ H := h
theorem r_next (h : D.nx σ H) : tNext D σ H := h
theorem r_asg (h : te σ H fun x H1 => g x σ H1 D.nx) : tAsg te g D σ H := h
theorem r_name {i : Nat} {v : V} {R : St → Hp → Prop} (h : R (σ.set i (some v)) H) : gName i v σ H R := h
theorem r_sub {to ti : TE} {ts : TSet} {v : V} {R : St → Hp → Prop} (h : to σ H fun o H1 => ti σ H1 fun i H2 => ts o i v H2 fun H3 => R σ H3) : gSub to ti ts v σ H R := h
theorem r_ret (h : te σ H D.rt) : tRet te D σ H := h
theorem r_if (h : tt σ H fun b H1 => if b = true then t D σ H1 else u D σ H1) : tIfS tt t u D σ H := h
theorem r_test {R : Bool → Hp → Prop} (h : te σ H fun x H1 => ∃ k, x = .bl k ∧ R k H1) : tTest te σ H R := h
theorem r_tb {R : Bool → Hp → Prop} (h : te σ H fun x H1 => ∃ k, x = .bl k ∧ R k H1) : tB te σ H R := h
theorem r_not {R : Bool → Hp → Prop} (h : tt σ H fun c H1 => R (!c) H1) : tNot tt σ H R := h
theorem r_or {R : Bool → Hp → Prop} (h : tt σ H fun c H1 => if c = true then R true H1 else tu σ H1 R) : tOr tt tu σ H R := h
theorem r_andV (h : ta σ H fun x H1 => ∃ c, x = .bl c ∧ if c = true then tb σ H1 Q else Q (.bl false) H1) : tAndV ta tb σ H Q := h
theorem r_var {i : Nat} {v : V} (e : σ[i]? = some (some v)) (h : Q v H) : tVar i σ H Q := ⟨v, e, h⟩
theorem r_C {v : V} (h : Q v H) : tC v σ H Q := h
theorem r_op {r : R2} (h : ta σ H fun x H1 => tb σ H1 fun y H2 => r x y H2 Q) : tOp r ta tb σ H Q := h
theorem r_cb {r : List V → Hp → VK → Prop} {a : TA} (h : a σ H fun vs H1 => r vs H1 Q) : tCB r a σ H Q := h
theorem r_cons {a : TA} {R : List V → Hp → Prop} (h : te σ H fun x H1 => a σ H1 fun xs H2 => R (x :: xs) H2) : tCons te a σ H R := h
theorem r_nil {R : List V → Hp → Prop} (h : R [] H) : tNil σ H R := h
theorem r_call {sp : Sp} {E : XK} {a : TA} (h : a σ H fun vs H1 => sp vs H1 Q E) : tCall sp [] E a σ H Q := by
  unfold tCall
  simpa only [List.append_nil] using h
theorem r_tup {a : TA} (h : a σ H fun xs H1 => xs.length ≤ sizeLine ∧ ∀ p, H1 p = none → Q (.ref p) (upd H1 p (.tup xs))) : tTup a σ H Q := h
theorem r_lst {a : TA} (h : a σ H fun xs H1 => xs.length ≤ sizeLine ∧ ∀ p, H1 p = none → Q (.ref p) (upd H1 p (.lst xs))) : tLst a σ H Q := h
theorem r_bm {K : PySem.W.Frag} {T : String} {r : V → List V → Hp → VK → Prop} {a : TA} (h : te σ H fun x H1 => tyV K T x H1 ∧ a σ H1 fun xs H2 => r x xs H2 Q) : tBM K T r te a σ H Q := h
theorem r_sl {r : V → Option Int → Option Int → Hp → VK → Prop} {tl th : TO} (h : te σ H fun x H1 => tl σ H1 fun l H2 => th σ H2 fun u H3 => r x l u H3 Q) : tSl r te tl th σ H Q := h
theorem r_nop {R : Option Int → Hp → Prop} (h : R none H) : tNoPart σ H R := h
theorem r_part {R : Option Int → Hp → Prop} (h : te σ H fun x H1 => ∃ i, x = .int i ∧ R (some i) H1) : tPart te σ H R := h
theorem r_true {R : Bool → Hp → Prop} (h : R true H) : tTrue σ H R := h
theorem r_rng1 {a : TA} {R : It → Hp → Prop} (h : a σ H fun vs H1 => ∃ j : Int, vs = [.int j] ∧ -(2 ^ 62) ≤ j ∧ j < 2 ^ 62 ∧ R (Itr 0 j.toNat) H1) : iRng1 a σ H R := h
theorem r_iseq {K : PySem.W.Frag} {R : It → Hp → Prop} (h : te σ H fun x H1 => (∃ a, x = .ref a ∧ (∃ xs, SqL K H1 a xs) ∧ R (Itl K a) H1) ∨ (∃ a, x = .ref a ∧ (∃ xs, SqT K H1 a xs) ∧ R (Itt K a) H1) ∨ (∃ z, x = .str z ∧ R (Its z) H1)) : iSeq K te σ H R := h
theorem r_comp {sub : List (Option Nat)} {wi : TI} (h : wi σ H fun J H1 => CompR sub g tt te σ Q J H1) : tComp sub wi g tt te σ H Q := h
theorem r_for {wi : TI} {tbd : TS} (h : wi σ H fun J H1 => ∃ W : Nat → Nat → St → Hp → Prop, (∃ m, W 0 m σ H1) ∧ ∀ i m σ H, W i m σ H →
  (J.stop i H ∧ D.nx σ H) ∨ (J.go i H ∧ ∃ N : St → Hp → Prop, (∀ σ' H', N σ' H' → ∃ m', m' < m ∧ W (i + 1) m' σ' H') ∧ ∀ x H', J.yld i H x H' → g x σ H' fun σ2 H2 => tbd { D with nx := N, ct := N, bk := D.nx } σ2 H2)) : tFor wi g tbd D σ H := h
variable {i j : Int} {x y : Str} {f : Int → Int → V} {C : Int → Int → Prop} {K : PySem.W.Frag}
theorem r_i0 (h : Q (f i j) H) : rI0 f (.int i) (.int j) H Q := ⟨_, _, rfl, rfl, h⟩
theorem r_i (c : C i j) (h : Q (f i j) H) : rI C f (.int i) (.int j) H Q := ⟨_, _, rfl, rfl, c, h⟩
theorem r_addI (h : Q (.int (i + j)) H) : rAddA (.int i) (.int j) H Q := .inl ⟨_, _, rfl, rfl, h⟩
theorem r_addL {a b : Addr} {xs ys : List V} (ha : H a = some (.lst xs)) (hb : H b = some (.lst ys)) (c : xs.length + ys.length ≤ sizeLine) (h : ∀ p, H p = none → Q (.ref p) (upd H p (.lst (xs ++ ys)))) : rAddA (.ref a) (.ref b) H Q :=
  .inr (.inr ⟨a, b, xs, ys, rfl, rfl, ha, hb, c, h⟩)
theorem r_mulI (c : CMul i j) (h : Q (.int (i * j)) H) : rMulA (.int i) (.int j) H Q := .inl ⟨_, _, rfl, rfl, c, h⟩
theorem r_ixL {p : Addr} {xs : List V} {v : V} (s : SqL K H p xs) (e : atI xs i = some v) (h : Q v H) : rIx K (.ref p) (.int i) H Q := .inl ⟨p, xs, i, v, rfl, rfl, s, e, h⟩
theorem r_ixS {c : Nat} (s : x.length ≤ sizeLine) (e : atI x.cps.toList i = some c) (h : Q (.str ⟨#[c]⟩) H) : rIx K (.str x) (.int i) H Q := .inr (.inr ⟨x, i, c, rfl, rfl, s, e, h⟩)
theorem r_setL {p : Addr} {xs : List V} {n : Nat} {v : V} {R : Hp → Prop} (hp : H p = some (.lst xs)) (e : ixN xs.length i = some n) (h : R (upd H p (.lst (xs.set n v)))) : rSetL (.ref p) (.int i) v H R := ⟨p, xs, i, n, rfl, rfl, hp, e, h⟩
theorem r_bl {b : Bool} {R : Bool → Prop} (h : R b) : ∃ k, V.bl b = .bl k ∧ R k := ⟨b, rfl, h⟩
theorem r_intE {n : Int} {R : Int → Prop} (h : R n) : ∃ k, V.int n = .int k ∧ R k := ⟨n, rfl, h⟩
end
theorem Same.upd {H H' : Hp} {p : Addr} {o : HO} (s : Same H H') (hn : H' p = none) : Same H (upd H' p o) := fun b u e => by
  have q := s b u e
  rw [upd_ne (fun z => by rw [z, hn] at q; cases q)]
  exact q
end L2

namespace L2
open PySem PySem.Spec PyProof.Rows
noncomputable def Chg (p : Addr) (H H' : Hp) : Prop := ∀ b o, b ≠ p → H b = some o → H' b = some o
noncomputable def Pur (H : Hp) (p : Addr) : Prop := ∃ a b c : Int, H p = some (.lst [.int a, .int b, .int c]) ∧ 0 ≤ a ∧ 0 ≤ b ∧ b < 2147483629
theorem Chg.refl (p : Addr) (H : Hp) : Chg p H H := fun _ _ _ e => e
theorem Chg.trans {p : Addr} {H H1 H2 : Hp} (a : Chg p H H1) (b : Chg p H1 H2) : Chg p H H2 := fun c o n e => b c o n (a c o n e)
theorem Chg.of_same {p : Addr} {H H' : Hp} (s : Same H H') : Chg p H H' := fun b o _ e => s b o e
theorem Chg.new {p q : Addr} {H H1 : Hp} {o : HO} (a : Chg p H H1) (hn : H1 q = none) : Chg p H (upd H1 q o) := fun b u n e => by
  have z := a b u n e
  rw [upd_ne (fun k => by rw [k, hn] at z; cases z)]
  exact z
theorem Chg.at_ {p q : Addr} {H H' : Hp} {o : HO} (a : Chg p H H') (hq : H q = some o) (hn : q ≠ p) : H' q = some o := a q o hn hq
theorem Chg.same {p : Addr} {H H' : Hp} (a : Chg p H H') (hp : H p = none) : Same H H' := fun b o e => a b o (fun z => by rw [z, hp] at e; cases e) e
theorem Pur.ne {H : Hp} {p q : Addr} (h : Pur H p) (hq : H q = none) : q ≠ p := by
  obtain ⟨a, b, c, e, _⟩ := h
  intro z; subst z; rw [e] at hq; cases hq
theorem Pur.new {H : Hp} {p q : Addr} {o : HO} (h : Pur H p) (hq : H q = none) : Pur (upd H q o) p := by
  have n := h.ne hq
  obtain ⟨a, b, c, e, r⟩ := h
  exact ⟨a, b, c, by rw [upd_ne (Ne.symm n)]; exact e, r⟩
theorem upd_old {H : Hp} {q b : Addr} {o u : HO} (hq : H q = none) (hb : H b = some u) : upd H q o b = some u := by
  rw [upd_ne (fun z => by rw [z, hq] at hb; cases hb)]; exact hb
theorem pickI {ns : List Int} {d : Int} (h0 : 0 ≤ d) (h1 : d < ns.length) : ∃ n, n ∈ ns ∧ atI (ns.map V.int) d = some (.int n) := by
  have hl : d.toNat < ns.length := by omega
  refine ⟨ns[d.toNat], List.getElem_mem hl, atI_int h0 ?_⟩
  rw [List.getElem?_map, List.getElem?_eq_getElem hl]; rfl
theorem pickV {vs : List V} {d : Int} (h0 : 0 ≤ d) (h1 : d < vs.length) : ∃ v, v ∈ vs ∧ atI vs d = some v := by
  have hl : d.toNat < vs.length := by omega
  exact ⟨vs[d.toNat], List.getElem_mem hl, atI_int h0 (List.getElem?_eq_getElem hl)⟩
theorem glued_join (sep : Str) (ys : List Str) : Txt.join sep ys = Str.join sep ys := by
  show Builtin.Str.glued sep ys = Str.join sep ys
  exact PySem.StrLaws.glued_eq_join sep ys
theorem join_cps (ys : List Str) : (Txt.join (Str.ofString "") ys).cps.toList = (ys.map fun y => y.cps.toList).flatten := by
  rw [glued_join]
  have e0 : (Str.ofString "").cps = #[] := by decide +kernel
  have key : ∀ ys : List Str, (Str.join (Str.ofString "") ys).cps.toList = (ys.map fun y => y.cps.toList).flatten := by
    intro ys
    induction ys with
    | nil => rfl
    | cons y r ih =>
      cases r with
      | nil => simp [Str.join]
      | cons z r =>
        show ((y ++ Str.ofString "") ++ Str.join (Str.ofString "") (z :: r)).cps.toList = _
        rw [Str.cps_append, Str.cps_append, e0]
        simp only [Array.append_empty, Array.toList_append, ih, List.map_cons, List.flatten_cons]
  exact key ys
theorem len_cps (x : Str) : x.length = x.cps.toList.length := by simp [Str.length]
theorem join_len {ys : List Str} (h : ∀ y ∈ ys, y.length = 1) : (Txt.join (Str.ofString "") ys).length = ys.length := by
  rw [len_cps, join_cps]
  induction ys with
  | nil => rfl
  | cons y r ih =>
    have h1 := h y (by simp)
    rw [len_cps] at h1
    simp only [List.map_cons, List.flatten_cons, List.length_append, List.length_cons, h1]
    rw [ih fun z hz => h z (by simp [hz])]
    omega
theorem sum_ones {ys : List Str} (h : ∀ y ∈ ys, y.length = 1) : (ys.map (·.length)).sum = ys.length := by
  induction ys with
  | nil => rfl
  | cons y r ih =>
    simp only [List.map_cons, List.sum_cons, List.length_cons, h y (by simp), ih fun z hz => h z (by simp [hz])]
    omega
theorem len1 (c : Nat) : (⟨#[c]⟩ : Str).length = 1 := by simp [Str.length]
section
variable {H : Hp} {Q : VK} {K : PySem.W.Frag}
theorem r_ii {i j : Int} {R : Int → Int → Prop} (h : R i j) : ∃ a b, [V.int i, V.int j] = [.int a, .int b] ∧ R a b := ⟨_, _, rfl, h⟩
theorem r_join {sep : Str} {p : Addr} {ys : List Str} (hp : H p = some (.lst (ys.map V.str))) (hz : (ys.map (·.length)).sum + ys.length * sep.length ≤ 16777216) (h : Q (.str (Txt.join sep ys)) H) : rJoin (.str sep) [.ref p] H Q := ⟨sep, p, ys, rfl, rfl, hp, hz, h⟩
theorem r_slL {p : Addr} {xs : List V} {lo hi : Option Int} (s : SqL K H p xs) (h : ∀ q, H q = none → Q (.ref q) (upd H q (.lst (cutV xs lo hi)))) : rSl K (.ref p) lo hi H Q := .inl ⟨p, xs, rfl, s, h⟩
end
section
variable {σ : St} {H : Hp} {Q : VK}
theorem r_pcons {tk tv : TE} {r : List (TE × TE)} {R : List (V × V) → Hp → Prop} (h : tk σ H fun x H1 => tv σ H1 fun y H2 => tPairs r σ H2 fun ps H3 => R ((x, y) :: ps) H3) : tPairs ((tk, tv) :: r) σ H R := h
theorem r_pnil {R : List (V × V) → Hp → Prop} (h : R [] H) : tPairs [] σ H R := h
end
theorem comp_rng {sub : List (Option Nat)} {g : TG} {tt : TT} {te : TE} {σ : St} {Q : VK} {H : Hp} {lo : Int} {n : Nat} (Pv : Nat → List V → Hp → Prop) (hn : n ≤ sizeLine) (h0 : Pv 0 [] H) (hl : ∀ i ys H, Pv i ys H → ys.length ≤ i)
    (hs : ∀ i ys H, i < n → Pv i ys H → g (.int (lo + i)) (subSt sub σ) H fun σ2 H2 => KeepSt (subSt sub σ) σ2 ∧ tt σ2 H2 fun b H3 => if b = true then te σ2 H3 fun y H4 => Pv (i + 1) (ys ++ [y]) H4 else Pv (i + 1) ys H3)
    (hd : ∀ ys H, Pv n ys H → ∀ D, H D = none → Q (.ref D) (upd H D (.lst ys))) : CompR sub g tt te σ Q (Itr lo n) H :=
  comp_by (n := n) Pv hn h0 hl (fun i ys H hi _ => hi) (fun ys H _ => Nat.le_refl _) (fun i ys H x H' hi p y => by
    obtain ⟨e1, e2⟩ := y
    subst e1 e2
    exact hs i ys _ hi p) hd
end L2

namespace L2
open PySem PySem.Spec PyProof.Rows
structure JE (X : Cx) (e : Expr) (t : TE) : Prop where
  run : PE X e t
structure JT (X : Cx) (e : Expr) (t : TT) : Prop where
  run : PT X e t
structure JW (X : Cx) (e : Expr) (t : TT) : Prop where
  run : PW X e t
structure JA (X : Cx) (es : List Expr) (t : TA) : Prop where
  run : PA X es t
structure JS (X : Cx) (s : Stmt) (t : TS) : Prop where
  run : PS X s t
structure JB (X : Cx) (s : List Stmt) (t : TS) : Prop where
  run : PSs X s t
structure JI (X : Cx) (tg iter : Expr) (t : TI) : Prop where
  run : PI X tg iter t
structure JG (X : Cx) (tg : Expr) (t : TG) : Prop where
  run : PG X tg t
structure JGs (X : Cx) (tg : List Expr) (t : TGs) : Prop where
  run : PGs X tg t
structure JO (X : Cx) (e : Option Expr) (t : TO) : Prop where
  run : PO X e t
structure JPs (X : Cx) (pos : Pos) (keys : List (Option Expr)) (values : List Expr) (t : List (TE × TE)) : Prop where
  run : PPs X pos keys values t
structure JIfs (X : Cx) (ifs : List Expr) (t : TT) : Prop where
  run : PIfs X ifs t
section
variable {X : Cx} {K : PySem.W.Frag} {sc scope : Scope} {N' : List Str} {C : Addr} {s₀ : Shared} {H₀ : Hp} {ex : List Addr} {x : Str} {pos p p2 pos' apos cpos tpos : Pos} {a b c e o : Expr} {es : List Expr} {ta tb tc te to ti : TE} {t : TA} {tA tB' tt : TT} {rest : List Expr}
theorem j_vL (i : Nat) (h : sc.names.lookup x = some .local) (hN : autoParam (X.N[i]? = some x) L2.auto4._auto_1) (hsc : autoParam (X.env.scope = sc) L2.auto4._auto_1) (hd : autoParam ((x == ("__debug__" : Str)) = false) L2.auto5._auto_1) (hcd : autoParam ((x == ("__classdict__" : Str)) = false) L2.auto5._auto_1) : JE X (.Name x pos) (tVar i) := ⟨pvL i h hN hsc hd hcd⟩
theorem j_vC (i : Nat) (h : sc.names.lookup x = some .cell) (hN : autoParam (X.N[i]? = some x) L2.auto4._auto_1) (hsc : autoParam (X.env.scope = sc) L2.auto4._auto_1) (hd : autoParam ((x == ("__debug__" : Str)) = false) L2.auto5._auto_1) (hcd : autoParam ((x == ("__classdict__" : Str)) = false) L2.auto5._auto_1) : JE X (.Name x pos) (tVar i) := ⟨pvC i h hN hsc hd hcd⟩
theorem j_vBL (i : Nat) (h : scope.names.lookup x = some .local) (hN : autoParam (N'[i]? = some x) L2.auto4._auto_1) (hd : autoParam ((x == ("__debug__" : Str)) = false) L2.auto5._auto_1) (hcd : autoParam ((x == ("__classdict__" : Str)) = false) L2.auto5._auto_1) : JE (cxC X N' scope C s₀ H₀ ex) (.Name x pos) (tVar i) := ⟨pvBL i h hN hd hcd⟩
theorem j_vBF (i : Nat) (h : scope.names.lookup x = some .free) (hN : autoParam (N'[i]? = some x) L2.auto4._auto_1) (hd : autoParam ((x == ("__debug__" : Str)) = false) L2.auto5._auto_1) (hcd : autoParam ((x == ("__classdict__" : Str)) = false) L2.auto5._auto_1) : JE (cxC X N' scope C s₀ H₀ ex) (.Name x pos) (tVar i) := ⟨pvBF i h hN hd hcd⟩
theorem j_int {i j} : JE X (.Constant (.int i) j pos) (tC (.int i)) := ⟨pe_int⟩
theorem j_bl {i j} : JE X (.Constant (.bool i) j pos) (tC (.bl i)) := ⟨pe_bl⟩
theorem j_non {j} : JE X (.Constant .none j pos) (tC .non) := ⟨pe_non⟩
theorem j_str {i j} : JE X (.Constant (.str i) j pos) (tC (.str i)) := ⟨pe_str⟩
theorem j_ty {T : String} (hg : Gl X x) (hm : X.mg x = none) (hv : bootBuiltins x = some (.type T)) (hn : x ≠ "__name__") (hd : (x == ("__debug__" : Str)) = false) : JE X (.Name x pos) (tC (.ty T)) := ⟨pe_ty hg hm hv hn hd⟩
theorem j_op {op : Operator} {r : R2} (ho : OpR X (binaryOp op) r) (ha : JE X a ta) (hb : JE X b tb) : JE X (.BinOp a op b pos) (tOp r ta tb) := ⟨pe_op ho ha.run hb.run⟩
theorem j_cmp {op : CmpOp} {r : R2} (ho : OpR X (compareOp op) r) (ha : JE X a ta) (hb : JE X b tb) (hm : behindInMarks op b = false) : JE X (.Compare a [op] [b] pos) (tOp r ta tb) := ⟨pe_cmpR ho ha.run hb.run hm⟩
theorem jt_cmp {op : CmpOp} {r : R2} (ho : OpR X (compareOp op) r) (ha : JE X a ta) (hb : JE X b tb) (hm : behindInMarks op b = false) : JT X (.Compare a [op] [b] pos) (tTest (tOp r ta tb)) := ⟨pt_cmpR ho ha.run hb.run hm⟩
theorem jw_or1 (ha : JT X a tA) : JW X (.BoolOp .Or [a] pos) tA := ⟨pw_or1 ha.run⟩
theorem jw_or (ha : JT X a tA) (hb : JW X (.BoolOp .Or (b :: rest) pos) tB') : JW X (.BoolOp .Or (a :: b :: rest) pos) (tOr tA tB') := ⟨pw_or ha.run hb.run⟩
theorem jw_pt (h : JW X e tt) : JT X e tt := ⟨h.run.pt⟩
theorem jt_not (ha : JT X a tA) : JT X (.UnaryOp .Not a pos) (tNot tA) := ⟨pt_not ha.run⟩
noncomputable def plainT : Expr → Bool
  | .BoolOp .. => false | .UnaryOp .. => false | .Compare .. => false | .IfExp .. => false | _ => true
theorem jt_val (h : JE X e te) (hp : autoParam (plainT e = true) L2.auto4._auto_1) : JT X e (tB te) := ⟨pt_val h.run (by
  intro whole
  cases e <;> first | rfl | cases hp)⟩
theorem j_one {op} (h : JE X a te) : JE X (.BoolOp op [a] pos) te := ⟨pe_one h.run⟩
theorem j_and (ha : JE X a ta) (hb : JE X (.BoolOp .And (b :: rest) pos) tb) : JE X (.BoolOp .And (a :: b :: rest) pos) (tAndV ta tb) := ⟨pe_and ha.run hb.run⟩
theorem j_tup {x1} (h : JA X es t) : JE X (.Tuple es x1 pos) (tTup t) := ⟨pe_tup h.run⟩
theorem j_lst (h : JA X es t) : JE X (.List es pos) (tLst t) := ⟨pe_lst h.run⟩
theorem ja_nil : JA X [] tNil := ⟨pa_nil⟩
theorem ja_cons (ha : JE X e te) (hr : JA X es t) (h : autoParam (notStar e = true) L2.auto4._auto_1) : JA X (e :: es) (tCons te t) := ⟨paC ha.run hr.run h⟩
theorem jp_nil : JPs X pos [] [] [] := ⟨pps_nil⟩
theorem jp_cons {k v : Expr} {ks : List (Option Expr)} {vs : List Expr} {tk tv : TE} {trs : List (TE × TE)} (hk : JE X k tk) (hv : JE X v tv) (hr : JPs X pos ks vs trs) : JPs X pos (some k :: ks) (v :: vs) ((tk, tv) :: trs) := ⟨pps_cons hk.run hv.run hr.run⟩
theorem j_disp {keys : List (Option Expr)} {values : List Expr} {trs : List (TE × TE)} (h : JPs X pos keys values trs) (hall : keys.all (·.isSome) = true) (hl : keys.length = values.length) (h0 : keys ≠ []) (h15 : keys.length ≤ 15) : JE X (.Dict keys values pos) (tDisp trs) := ⟨pe_disp h.run hall hl h0 h15⟩
theorem jo_none : JO X none tNoPart := ⟨po_none⟩
theorem jo_some (h : JE X e te) : JO X (some e) (tPart te) := ⟨po_some h.run⟩
theorem j_slice {r : V → Option Int → Option Int → Hp → VK → Prop} {lo hi : Option Expr} {tl th : TO} (hr : SlR X r) (he : JE X e te) (hl : JO X lo tl) (hu : JO X hi th) : JE X (.Subscript e (.Slice lo hi none p2) pos) (tSl r te tl th) := ⟨pe_slice hr he.run hl.run hu.run⟩
theorem j_ix (hK : X.K = K) (ha : JE X a ta) (hb : JE X b tb) (h : autoParam (notSlice b = true) L2.auto4._auto_1) : JE X (.Subscript a b pos) (tOp (rIx K) ta tb) := ⟨ixE hK ha.run hb.run h⟩
theorem j_call {k : Nat} {ps : List Str} {sp : Sp} (F : Has X.prog X.w X.K X.mg X.base k x ps sp) (hr : Room k X.A) (hg : Gl X x) (ha : JA X (e :: es) t) (hdb : (x == ("__debug__" : Str)) = false) (h : autoParam ((e :: es).all notStar = true) L2.auto4._auto_1) :
    JE X (.Call (.Name x p) (e :: es) [] pos) (tCall sp [] E0 t) := ⟨callH F hr hg ha.run hdb h⟩
theorem j_callB {id : String} {r : List V → Hp → VK → Prop} (hc : CallR X (.builtin id) r) (hg : Gl X x) (hm : X.mg x = none) (hv : bootBuiltins x = some (.builtin id)) (ha : JA X (e :: es) t) (hn : x ≠ "__name__") (hdb : (x == ("__debug__" : Str)) = false) (h : autoParam ((e :: es).all notStar = true) L2.auto4._auto_1) :
    JE X (.Call (.Name x p) (e :: es) [] pos) (tCB r t) := ⟨callB hc hg hm hv ha.run hn hdb h⟩
theorem j_callTy {T : String} {r : List V → Hp → VK → Prop} (hc : CallR X (.type T) r) (hg : Gl X x) (hm : X.mg x = none) (hv : bootBuiltins x = some (.type T)) (ha : JA X (e :: es) t) (hn : x ≠ "__name__") (hdb : (x == ("__debug__" : Str)) = false) (h : autoParam ((e :: es).all notStar = true) L2.auto4._auto_1) :
    JE X (.Call (.Name x p) (e :: es) [] pos) (tCB r t) := ⟨callTy hc hg hm hv ha.run hn hdb h⟩
theorem j_meth {name : Str} {T id : String} {r : V → List V → Hp → VK → Prop} (hK : X.K = K) (pa : PlainAttrs T) (slot : Slot T name id) (hty : typeOf (.builtin id) = pure (.type "method_descriptor")) (hm : MtR X id r) (ho : JE X o to) (ha : JA X (e :: es) t)
    (hbase : autoParam (notCall o = true) L2.auto4._auto_1) (hl : autoParam (es.length < 20) L2.auto2._auto_1) (hline : autoParam ((apos.endLine == cpos.line) = true) L2.auto4._auto_1) (h : autoParam ((e :: es).all notStar = true) L2.auto4._auto_1) : JE X (.Call (.Attribute o name apos) (e :: es) [] cpos) (tBM K T r to t) := ⟨methK hK pa slot hty hm ho.run ha.run hbase hl hline h⟩
theorem jif_nil : JIfs X [] tTrue := ⟨pifs_nil⟩
variable {tg iter elt : Expr} {ifs : List Expr} {sub : List (Option Nat)} {wi : TI} {g : TG} {N : List Str}
theorem ji_range1 {ta : TA} (hg : Gl X "range") (hm : X.mg "range" = none) (ha : JA X [a] ta) (h : autoParam (notStar a = true) L2.auto4._auto_1) : JI X tg (.Call (.Name "range" p) [a] [] pos) (iRng1 ta) := ⟨pi_range1 hg hm ha.run (se_cons h)⟩
theorem ji_seq (hK : X.K = K) (hl : JE X e te) : JI X tg e (iSeq K te) := ⟨pi_seqK hK hl.run⟩
theorem jg_name {i : Nat} (hN : X.N.Nodup) (hi : X.N[i]? = some x) (hx : Loc X.env.scope x) (hf : X.fn x = true) : JG X (.Name x pos) (gName i) := ⟨pg_name hN hi hx (.inl hf)⟩
theorem jg_B (i : Nat) (h : scope.names.lookup x = some .local) (hN : N'.Nodup) (hi : autoParam (N'[i]? = some x) L2.auto4._auto_1) : JG (cxC X N' scope C s₀ H₀ ex) (.Name x pos) (gName i) := ⟨pgB i h hN hi⟩
theorem jgs_nil : JGs X [] gNil := ⟨pgs_nil⟩
theorem jgs_cons {gs : TGs} (h1 : JG X e g) (h2 : JGs X es gs) (hs : autoParam ((assignEach (e :: es) X.env).map (·.2) = assign e X.env :: (assignEach es X.env).map (·.2)) L2.auto4._auto_1) : JGs X (e :: es) (gCons g gs) := ⟨pgs_cons h1.run h2.run hs⟩
theorem jg_tup {ts : List Expr} {k : Nat} {gs : TGs} {n : Nat} (hK : X.K = K) (hc : X.calm = true) (h : JGs X ts gs) (hn : autoParam ((assignEach ts X.env).length = n) L2.auto4._auto_1) (hst : autoParam ((assignEach ts X.env).findIdx? (·.1) = none) L2.auto4._auto_1) : JG X (.Tuple ts k pos) (gTup K n gs) := ⟨pg_tupK hK hc h.run hn hst⟩
theorem jg_sub {ts : TSet} (ho : JE X a ta) (hi : JE X b tb) (hs : PSet X ts) (h : autoParam (notSlice b = true) L2.auto4._auto_1) : JG X (.Subscript a b pos) (gSub ta tb ts) := ⟨pg_sub ho.run hi.run hs (by
  intro v
  cases b <;> first | rfl | cases h)⟩
theorem j_comp (S : SubOk N sc N' scope sub) (hc : X.calm = true) (hN : X.N = N) (hsc : X.env.scope = sc) (hi : JI X tg iter wi)
    (hg : ∀ (C : Addr) (s₀ : Shared) (H₀ : Hp) (ex : List Addr), JG (cxC X N' scope C s₀ H₀ ex) tg g)
    (ht : ∀ (C : Addr) (s₀ : Shared) (H₀ : Hp) (ex : List Addr), JIfs (cxC X N' scope C s₀ H₀ ex) ifs tt)
    (he : ∀ (C : Addr) (s₀ : Shared) (H₀ : Hp) (ex : List Addr), JE (cxC X N' scope C s₀ H₀ ex) elt te) (h : autoParam (notSet iter = true) L2.auto4._auto_1) :
    JE X (.ListComp elt [⟨tg, iter, ifs, 0⟩] scope pos) (tComp sub wi g tt te) := ⟨compE S hc hN hsc hi.run (fun C s₀ H₀ ex => (hg C s₀ H₀ ex).run) (fun C s₀ H₀ ex => (ht C s₀ H₀ ex).run) (fun C s₀ H₀ ex => (he C s₀ H₀ ex).run) h⟩
variable {st : Stmt} {sts : List Stmt} {u v : TS}
theorem js_set {i : Nat} (hN : X.N.Nodup) (hi : X.N[i]? = some x) (hx : Loc X.env.scope x) (he : JE X e te) (hf : X.fn x = true) (h : autoParam (notComp e = true) L2.auto4._auto_1) : JS X (.Assign [.Name x pos'] e pos) (tAsg te (gName i)) := ⟨psSet hN hi hx he.run hf h⟩
theorem js_asgS {ts : TSet} (he : JE X e te) (hg : JG X (.Subscript a b pos') g) (h : autoParam (notComp e = true) L2.auto4._auto_1) : JS X (.Assign [.Subscript a b pos'] e pos) (tAsg te g) := ⟨ps_asg he.run hg.run (by show swapsWith e (some (.Subscript a b pos')) pos.line X.env = pure false; exact sw_no h) (by cases e <;> rfl) rfl⟩
theorem js_ret (he : JE X e te) : JS X (.Return (some e) pos) (tRet te) := ⟨ps_ret he.run⟩
theorem js_if {sa sb : List Stmt} (hc : JT X c tt) (ha : JB X sa u) (hb : JB X sb v) : JS X (.If c sa sb pos) (tIfS tt u v) := ⟨ps_if hc.run ha.run hb.run⟩
theorem js_for {body : List Stmt} (hp : PassesOwn (model X.prog X.w) X.A X.env X.xe) (hc : X.calm = true) (hi : JI X tg iter wi) (hg : JG X tg g) (hb : JB X body u) (h : autoParam (notSet iter = true) L2.auto4._auto_1) : JS X (.For tg iter body [] pos) (tFor wi g u) := ⟨psFor hp hc hi.run hg.run hb.run h⟩
theorem jb_nil : JB X [] tNext := ⟨pss_nil⟩
theorem jb_one (h : JS X st u) : JB X [st] u := ⟨pss_one h.run⟩
theorem jb_cons (h : JS X st u) (h2 : JB X sts v) : JB X (st :: sts) (tSeq u v) := ⟨pss_cons h.run h2.run⟩
end
section
variable {P : Program} {w : World} {K : PySem.W.Frag} {mg : Str → Option Value} {base : Heap}
theorem hasJ {x : Str} {st : Stmt} {N ps : List Str} {k : Nat} {sp : Sp} (D : Def K mg x st) (S : FnScope N ps (defScope st))
    (hb : ∀ (kV doc pm : Value) (an : Option Addr) (cdv ct : Value) (us : List Value), us.length = ps.length → bindArgs (PySem.W.fnOf x x (defArgs st) (defBody st) (defScope st) .none kV doc pm an cdv ct) ⟨us, []⟩ = pure (ps.zip us))
    (len : ∀ vs H Q E, sp vs H Q E → vs.length = ps.length)
    (hbody : ∀ (f : Addr) (cdv : Value) (A : Around) (outer : List Env) (s : Shared) (H : Hp) (vs : List V) (Q : VK) (E : XK), Room k (A.deeper (envOfC x (defScope st) s.heap.objs.size f cdv)) → sp vs H Q E →
      ∃ t, JB (cxOf CX0 P w K mg base N x (defScope st) f cdv A outer s H E).nox (defBody st) t ∧ t { nx := fun _ H' => Q .non H', rt := Q } (start N vs) H) : Has P w K mg base (k + 1) x ps sp :=
  has_of D S hb len fun f cdv A outer s H vs Q E hr h => let ⟨t, j, q⟩ := hbody f cdv A outer s H vs Q E hr h; ⟨t, j.run, q⟩
theorem okJ {x : Str} {st : Stmt} {N ps : List Str} {k : Nat} {sp : Sp} {f : Addr} {fd : FuncData} (F : Fun K x x st f fd) (S : FnScope N ps (defScope st)) (len : ∀ vs H Q E, sp vs H Q E → vs.length = ps.length)
    (hbody : ∀ (f : Addr) (cdv : Value) (A : Around) (outer : List Env) (s : Shared) (H : Hp) (vs : List V) (Q : VK) (E : XK), Room k (A.deeper (envOfC x (defScope st) s.heap.objs.size f cdv)) → sp vs H Q E →
      ∃ t, JB (cxOf CX0 P w K mg base N x (defScope st) f cdv A outer s H E).nox (defBody st) t ∧ t { nx := fun _ H' => Q .non H', rt := Q } (start N vs) H) : FnOk P w K mg base CX0 (k + 1) f fd ps sp :=
  F.ok S len fun cdv A outer s H vs Q E hr h => let ⟨t, j, q⟩ := hbody f cdv A outer s H vs Q E hr h; ⟨t, j.run, q⟩
end
theorem walkJ {l : PySem.W.OpenLaw} {q : Program} {loose : List Str} {XP : (Str → Option Value) → Heap → Prop} {YP : World → Heap → Prop} {d : DefRec} {K : Params → PySem.W.Frag} {st : Stmt} {k : Nat} {sp : PySem.W.Frag → Sp} {x : Str}
    (hn : l.most = some 63) (hdf : d.params.defaults = []) (hdn : d.name = "law") (hk : Room k callerA) (hY : ∀ (w : World) (h : Heap), YP w h → (K w.params).In h)
    (hb : ∀ (kV doc pm : Value) (an : Option Addr) (cdv ct : Value) (us : List Value), us.length = [x].length → bindArgs (PySem.W.fnOf "law" "law" (defArgs st) (defBody st) (defScope st) .none kV doc pm an cdv ct) ⟨us, []⟩ = pure ([x].zip us))
    (F : ∀ (w : World) (mg : Str → Option Value) (h : Heap), (K w.params).In h → h.Ns mainGlobals mg → Def (K w.params) mg "law" st ∧ ∀ (base : Heap) (f : Addr) (fd : FuncData), Fun (K w.params) "law" "law" st f fd → FnOk l.prog w (K w.params) mg base CX0 k f fd [x] (sp (K w.params)))
    (hsp : ∀ (K : PySem.W.Frag) (H : Hp) (a : Addr) (ns : List Int), ns.length ≤ 63 → SqL K H a (ns.map V.int) → sp K [.ref a] H (fun v _ => v = .bl true) fun _ _ _ => False) (him : autoParam (importsNone q = true) L2.auto5._auto_1) :
    PySem.W.WalkO q loose XP YP l.row.toRowW d [] (fun f vs => PySem.call f vs) :=
  L2.walk_of (n := 63) (k := k) (x := x) (CX := fun _ => CX0) (sp := fun w => sp (K w.params)) hn (by decide) hdf hk hY (fun w mg fa h X G e => by
    obtain ⟨⟨f, fd, Fn, hm⟩, ok⟩ := F w mg h X G
    rw [hdn, hm] at e
    have ef : f = fa := by injection (Option.some.inj e)
    subst ef
    refine ⟨fd, fun s u => ?_, fun base _ _ => ok base f fd Fn⟩
    obtain ⟨oc, od, kV, doc, pm, an, cdv, ct, osl, rfl, lk, hcd⟩ := Fn.ex
    exact .of_eq (hb kV doc pm an cdv ct [u] rfl)) (fun w H a ns hl _ hS => hsp _ H a ns hl hS) (fun _ _ _ _ _ z => z) him
end L2

namespace L2
open PySem PySem.Spec PyProof.Rows
end L2

namespace L2
open PySem PySem.Spec PyProof.Rows
section
variable {prog : Program} {w : World} {A : Around} {E : Value → Shared → Prop} {s : Shared}
end
noncomputable def rNeA (K : PySem.W.Frag) : R2 := fun x y H Q => rNe x y H Q ∨ ∃ (a b : Addr) (ns ms : List Int), x = .ref a ∧ y = .ref b ∧ SqL K H a (ns.map V.int) ∧ SqL K H b (ms.map V.int) ∧ Q (.bl (!decide (ns = ms))) H
theorem op_neK {X : Cx} {K : PySem.W.Frag} (hK : X.K = K) (hu : X.A.units + 64 < cLine) : OpR X (compareOp .NotEq) (rNeA K) := by
  subst hK
  intro pins s σ H x y v u Q I rx ry h
  rcases h with h | ⟨a, b, ns, ms, rfl, rfl, ha, hb, q⟩
  · exact op_ne pins s σ H x y v u Q I rx ry h
  · cases rx
    cases ry
    obtain ⟨its, r1, p1, z1⟩ := I.list ha
    obtain ⟨jts, r2, p2, z2⟩ := I.list hb
    exact PySem.W.ne_intsK p1.isList (intsAre_of r1) p2.isList (intsAre_of r2) hu ⟨.bl _, H, I, rfl, q⟩
section
variable {H : Hp} {Q : VK} {K : PySem.W.Frag} {σ : St}
theorem r_gtup {n : Nat} {gs : TGs} {p : Addr} {xs : List V} {R : St → Hp → Prop} (s : SqT K H p xs) (hl : xs.length = n) (h : gs xs σ H R) : gTup K n gs (.ref p) σ H R := ⟨p, xs, rfl, s, hl, h⟩
theorem r_gcons {t : TG} {u : TGs} {v : V} {vs : List V} {R : St → Hp → Prop} (h : t v σ H fun σ' H' => u vs σ' H' R) : gCons t u (v :: vs) σ H R := ⟨v, vs, rfl, h⟩
theorem r_gnil {R : St → Hp → Prop} (h : R σ H) : gNil [] σ H R := ⟨rfl, h⟩
end
end L2

namespace L2
open PySem PySem.Spec PyProof.Rows
section
variable {X : Cx} {tg iter elt : Expr} {ifs : List Expr} {scope : Scope} {pos : Pos} {N' : List Str} {sub : List (Option Nat)} {wi : TI} {g : TG} {tt : TT} {te : TE}
end
section
variable {X : Cx} {tg iter elt : Expr} {ifs : List Expr} {scope : Scope} {pos : Pos} {N' : List Str} {sub : List (Option Nat)} {wi : TI} {g : TG} {tt : TT} {te : TE} {N : List Str} {sc : Scope}
end
end L2

namespace L2
open PySem PySem.Spec PyProof.Rows
section
variable {X : Cx} {pins : List (Addr × Obj)} {σ : St} {H : Hp} {s : Shared}
end
end L2

namespace L2
open PySem PySem.Spec PyProof.Rows PySem.SeqAt
mutual
noncomputable def DR (H : Hp) : PyData → V → Prop
  | .none, v => v = .non
  | .bool b, v => v = .bl b
  | .int n, v => v = .int n
  | .str x, v => v = .str x
  | .list ds, v => ∃ a vs, v = .ref a ∧ H a = some (.lst vs) ∧ DRs H ds vs
  | .tuple ds, v => ∃ a vs, v = .ref a ∧ H a = some (.tup vs) ∧ DRs H ds vs
  | .dict _, _ => False
noncomputable def DRs (H : Hp) : List PyData → List V → Prop
  | [], vs => vs = []
  | d :: ds, vs => ∃ v r, vs = v :: r ∧ DR H d v ∧ DRs H ds r
end
theorem DR_bool {H : Hp} {n : Bool} {v : V} : DR H (.bool n) v ↔ v = .bl n := by rw [DR]
theorem DR_list {H : Hp} {ds : List PyData} {v : V} : DR H (.list ds) v ↔ ∃ a vs, v = .ref a ∧ H a = some (.lst vs) ∧ DRs H ds vs := by rw [DR]
theorem DRs_nil {H : Hp} {vs : List V} : DRs H [] vs ↔ vs = [] := by rw [DRs]
theorem DRs_cons {H : Hp} {d : PyData} {ds : List PyData} {vs : List V} : DRs H (d :: ds) vs ↔ ∃ v r, vs = v :: r ∧ DR H d v ∧ DRs H ds r := by rw [DRs]
mutual
theorem DR.reads {P : Program} {w : World} {H : Hp} {h : Heap} (ok : HOk P w H h) : ∀ (d : PyData) (v : V) (u : Value), DR H d v → RelV v u → ∃ as, Reads h u d as
  | .none, _, u, q, r => by rw [DR] at q; subst q; cases r; exact ⟨_, .none⟩
  | .bool b, _, u, q, r => by rw [DR] at q; subst q; cases r; exact ⟨_, .bool _⟩
  | .int n, _, u, q, r => by rw [DR] at q; subst q; obtain ⟨t, rfl⟩ := r; exact ⟨_, .int _ _⟩
  | .str n, _, u, q, r => by rw [DR] at q; subst q; obtain ⟨t, rfl⟩ := r; exact ⟨_, .str _ _⟩
  | .list ds, v, u, q, r => by
    rw [DR] at q
    obtain ⟨a, vs, rfl, e, t⟩ := q
    cases r
    obtain ⟨_, its, n, rv, g⟩ := ok a _ e
    obtain ⟨as, ra⟩ := DRs.reads ok ds vs its t rv
    exact ⟨_, .list g rfl rfl (by simpa using ra)⟩
  | .tuple ds, v, u, q, r => by
    rw [DR] at q
    obtain ⟨a, vs, rfl, e, t⟩ := q
    cases r
    obtain ⟨_, its, rv, g⟩ := ok a _ e
    obtain ⟨as, ra⟩ := DRs.reads ok ds vs its t rv
    obtain ⟨o, ho, hc, n, hd⟩ := g
    exact ⟨_, .tuple ho hc hd (by simpa using ra)⟩
  | .dict _, _, _, q, _ => by rw [DR] at q; exact q.elim
theorem DRs.reads {P : Program} {w : World} {H : Hp} {h : Heap} (ok : HOk P w H h) : ∀ (ds : List PyData) (vs : List V) (us : List Value), DRs H ds vs → Vals vs us → ∃ as, ReadsAll h us ds as
  | [], _, us, q, r => by rw [DRs] at q; subst q; cases r; exact ⟨_, .nil⟩
  | d :: ds, _, us, q, r => by
    rw [DRs] at q
    obtain ⟨v, r', rfl, q1, q2⟩ := q
    cases r with
    | cons a b =>
      obtain ⟨as, h1⟩ := DR.reads ok d v _ q1 a
      obtain ⟨bs, h2⟩ := DRs.reads ok ds r' _ q2 b
      exact ⟨_, .cons h1 h2⟩
end
noncomputable def rEqD : R2 := fun x y H Q => ∃ d e, DR H d x ∧ DR H e y ∧ shaped d = true ∧ shaped e = true ∧ Q (.bl (PyData.eqv d e)) H
noncomputable def rNeD : R2 := fun x y H Q => ∃ d e, DR H d x ∧ DR H e y ∧ shaped d = true ∧ shaped e = true ∧ Q (.bl (!PyData.eqv d e)) H
section
variable {X : Cx}
theorem op_eqD (hu : X.A.units + 64 < cLine) : OpR X (compareOp .Eq) rEqD := by
  intro pins s σ H x y v u Q I rx ry h
  obtain ⟨d, e, h1, h2, h3, h4, q⟩ := h
  obtain ⟨as, r1⟩ := DR.reads I.hok d x v h1 rx
  obtain ⟨bs, r2⟩ := DR.reads I.hok e y u h2 ry
  exact eq_dataH r1 r2 h3 h4 hu ⟨.bl _, H, I, rfl, q⟩
theorem op_neD (hu : X.A.units + 64 < cLine) : OpR X (compareOp .NotEq) rNeD := by
  intro pins s σ H x y v u Q I rx ry h
  obtain ⟨d, e, h1, h2, h3, h4, q⟩ := h
  obtain ⟨as, r1⟩ := DR.reads I.hok d x v h1 rx
  obtain ⟨bs, r2⟩ := DR.reads I.hok e y u h2 ry
  exact ne_dataH r1 r2 h3 h4 hu ⟨.bl _, H, I, rfl, q⟩
noncomputable def rEqB (K : PySem.W.Frag) : R2 := fun x y H Q => rEqA K x y H Q ∨ rEqD x y H Q
noncomputable def rNeB (K : PySem.W.Frag) : R2 := fun x y H Q => rNeA K x y H Q ∨ rNeD x y H Q
theorem op_eqX {K : PySem.W.Frag} (hK : X.K = K) (hu : X.A.units + 64 < cLine) : OpR X (compareOp .Eq) (rEqB K) := (op_eqK hK (Nat.lt_of_le_of_lt (Nat.le_add_right _ _) hu)).or (op_eqD hu)
theorem op_neX {K : PySem.W.Frag} (hK : X.K = K) (hu : X.A.units + 64 < cLine) : OpR X (compareOp .NotEq) (rNeB K) := (op_neK hK hu).or (op_neD hu)
end
section
variable {H : Hp} {Q : VK} {K : PySem.W.Frag} {σ : St}
theorem r_eqBI {i j : Int} (h : Q (.bl (decide (V.int i = V.int j))) H) : rEqB K (.int i) (.int j) H Q := .inl (.inl ⟨rfl, h⟩)
theorem r_neBS {i j : Str} (h : Q (.bl (!decide (V.str i = V.str j))) H) : rNeB K (.str i) (.str j) H Q := .inl (.inl ⟨rfl, h⟩)
theorem r_neSame {x y : V} {d : PyData} (h1 : DR H d x) (h2 : DR H d y) (hs : shaped d = true) (h : Q (.bl false) H) : rNeB K x y H Q :=
  .inr ⟨d, d, h1, h2, hs, hs, by rw [PySem.SeqAt.eqv_refl d (canLay_of_shaped hs)]; exact h⟩
end
end L2

namespace L2
open PySem PySem.Spec PyProof.Rows
section
variable {prog : Program} {w : World} {A : Around} {E : Value → Shared → Prop} {s : Shared}
end
end L2

namespace L2
open PySem PySem.Spec PyProof.Rows
section
variable {X : Cx} {K : PySem.W.Frag} {a b c e : Expr} {ta tb tc te : TE} {pos p p2 p3 : Pos}
end
end L2

namespace L2
open PySem PySem.Spec PyProof.Rows
noncomputable def TbOk (h : Heap) (T : Addr) : Prop := ∃ oT ts, h.get? T = some oT ∧ oT.data = .fields ts ∧ 3 < ts.size
noncomputable def XObj (C : Addr) (dd : Option Addr) (vs : Array Value) : Obj := { cls := .ref C, dict := dd, data := .fields vs }
section
variable {M : Model} {A : Around} {E : Value → Shared → Prop}
structure NoteK (fs : List Addr) (x C : Addr) (dd : Option Addr) (hd : Option Addr) (h h' : Heap) (T : Addr) : Prop where
  obj : ∃ vs, h'.get? x = some (XObj C dd vs) ∧ vs[1]? = some (.ref T) ∧ vs[2]? = some .none
  tb : TbOk h' T
  ne : T ≠ x
  new : h.objs.size ≤ T ∨ hd = some T
  keep : ∀ b o, b ≠ x → some b ≠ hd → b ∉ fs → h.get? b = some o → h'.get? b = some o
  slot : ∀ b o, b ≠ x → some b ≠ hd → h.get? b = some o → ∃ sl, h'.get? b = some { o with slots := sl }
  tail : ∀ b o, hd = some b → h.get? b = some o → ∃ o', h'.get? b = some o'
end
end L2

namespace L2
open PySem PySem.Spec PyProof.Rows
noncomputable def VEm : List Value := [.type "ValueError", .type "Exception", .type "BaseException", .type "object"]
noncomputable def xIn (K : PySem.W.Frag) (D : Addr) : Bool := match K.lookup D with
  | some ⟨.type "type", _, .cls cd, sl⟩ => (match cd.mro, sl.toList with
    | .ref E :: bm, [_, _, _, _, some (.builtin n), _] => E == D && n == "ValueError.__new__" && cd.hasDel == false && cd.hasDict && PySem.W.tailIn K VEm bm
    | _, _ => false)
  | _ => false
theorem xIn_of {K : PySem.W.Frag} {D : Addr} (q : xIn K D = true) : ∃ nm qn N bs bm sn sub ab col dd k0 k1 k2 k3 k5, K.lookup D = some (excClassObj nm qn D N bs bm true sn sub ab col dd k0 k1 k2 k3 k5 "ValueError.__new__") ∧ ∀ h, K.In h → OwnTail h VEm bm := by
  unfold xIn at q
  split at q
  · rename_i dd cd sl ho
    split at q
    · rename_i D' bm k0 k1 k2 k3 n k5 hm hs
      simp only [Bool.and_eq_true, beq_iff_eq] at q
      obtain ⟨⟨⟨⟨e1, e2⟩, e3⟩, e4⟩, e5⟩ := q
      subst e1 e2
      obtain ⟨nm, bs, mro, ns, qn, hd, sn, sub, ab, col, del⟩ := cd
      dsimp only at hm e3 e4
      subst hm e3 e4
      have hsl : sl = #[k0, k1, k2, k3, some (.builtin "ValueError.__new__"), k5] := by
        obtain ⟨l⟩ := sl
        dsimp only at hs
        rw [hs]
      subst hsl
      exact ⟨nm, qn, ns, bs, bm, sn, sub, ab, col, dd, k0, k1, k2, k3, k5, ho, fun h X => PySem.W.tail_of_in X e5⟩
    · cases q
  · cases q
section
variable {prog : Program} {w : World} {A : Around} {K : PySem.W.Frag} {D f : Addr} {E : Value → Shared → Prop}
theorem type_call_x {h : Heap} {g : Array GenState} {d : Drawn} {t : Nat} {os : OsState} {us : List Value} {Q : Fin → Shared → Prop} (X : K.In h) (hx : xIn K D = true)
    (hi : PySem.W.findIn K (.ref D) "__init__" = some (some (.ref f))) (hf : PySem.W.typeIn K (.ref f) = some (.type "function")) (hl : us.length ≤ sizeLine)
    (k : wpAny (model prog w) A (call (.ref f) (.ref (h.objs.size + 1) :: us)) (fun r s' => r = .none ∧ Q (.done (.ret (.ref (h.objs.size + 1)))) s') E
      ⟨(h.push { cls := .type "tuple", data := .seq us.toArray }).push (XObj D none #[.ref h.objs.size, .none, .none, .none, .bool false, .none]), g, d, t, os⟩) :
    wpAny (model prog w) A (Builtin.«type.__call__» ⟨.ref D :: us, []⟩) Q E ⟨h, g, d, t, os⟩ := by
  obtain ⟨nm, qn, N, bs, bm, sn, sub, ab, col, dd, k0, k1, k2, k3, k5, lk0, tl⟩ := xIn_of hx
  have T := tl h X
  have hD := X _ _ lk0
  have L3 := PySem.W.looks_findIn (M := model prog w) X hi
  have L4 := PySem.W.bind_fn (M := model prog w) X (.ref (h.objs.size + 1)) hf
  repeat (first | with_reducible refine wpAny_loadPart_at hD ?_ | with_reducible refine wpAny_madeBy_exc hD ?_ | wp_step)
  refine codeAny_call_builtin_code (Code.quiet_builtin _ F.excBase_ValueError.quiet) (wpAny_check_new_subT F.excBase_ValueError T hD (codeAny_exc_new_subT F.excBase_ValueError T hD ?_ hl))
  show wpAny _ _ _ _ _ _
  have keep : ∀ b o, h.get? b = some o → ((h.push { cls := .type "tuple", data := .seq us.toArray }).push (XObj D none #[.ref h.objs.size, .none, .none, .none, .bool false, .none])).get? b = some o := fun b o q => Heap.get?_push_of_some _ (Heap.get?_push_of_some _ q)
  have gx : ((h.push { cls := .type "tuple", data := .seq us.toArray }).push (XObj D none #[.ref h.objs.size, .none, .none, .none, .bool false, .none])).get? (h.objs.size + 1) = some (XObj D none #[.ref h.objs.size, .none, .none, .none, .bool false, .none]) := by
    have := Heap.get?_push_size (h.push { cls := .type "tuple", data := .seq us.toArray }) (o := XObj D none #[.ref h.objs.size, .none, .none, .none, .bool false, .none]) rfl
    rwa [Heap.size_push] at this
  have hD1 := keep _ _ hD
  have M3 := L3.keeps keep
  have M4 := L4.keeps keep
  have cD : (Value.ref D :: bm).contains (.ref D) = true := by simp
  unfold XObj at gx M3 M4 hD1 k
  unfold isInstance
  repeat (first | with_reducible refine wpAny_loadPart_at gx ?_ | (with_reducible refine wpAny_isSubtype_exc hD1 ?_; rw [cD]) | wp_step)
  show wpAny _ _ (typeLookup (.ref D) _) _ _ _
  refine M3.at ?_
  refine wpAny_holding (wpAny_bind (M4.at ?_))
  dsimp only
  refine wpAny_bind (wpAny_mono k (fun r s' hr => ?_) fun _ _ z => z)
  obtain ⟨rfl, z⟩ := hr
  wp_walk
  exact z
theorem call_x {s : Shared} {us : List Value} {Q : Value → Shared → Prop} (X : K.In s.heap) (hx : xIn K D = true)
    (hi : PySem.W.findIn K (.ref D) "__init__" = some (some (.ref f))) (hf : PySem.W.typeIn K (.ref f) = some (.type "function")) (hl : us.length ≤ sizeLine)
    (k : wpAny (model prog w) (A.under (.builtin "type.__call__" ⟨.ref D :: us, []⟩)) (call (.ref f) (.ref (s.heap.objs.size + 1) :: us)) (fun r s' => r = .none ∧ Q (.ref (s.heap.objs.size + 1)) s') E
      { s with heap := (s.heap.push { cls := .type "tuple", data := .seq us.toArray }).push (XObj D none #[.ref s.heap.objs.size, .none, .none, .none, .bool false, .none]) }) :
    wpAny (model prog w) A (call (.ref D) us) Q E s := by
  obtain ⟨h, g, d, t, os⟩ := s
  obtain ⟨nm, qn, N, bs, bm, sn, sub, ab, col, dd, k0, k1, k2, k3, k5, lk0, tl⟩ := xIn_of hx
  have hD := X _ _ lk0
  have f1 := tc_lookup
  have f2 := tc_bind (.ref D)
  have hT : (⟨h, g, d, t, os⟩ : Shared).TypeIs (.ref D) "type" := ⟨_, hD, rfl⟩
  refine wpAny_call (codeAny_of_tree ?_)
  show wpAny _ _ (callAny (.ref D) _) _ _ _
  repeat (any_goals (first | assumption | with_reducible refine wpAny_loadPart_at hD ?_ | wp_step))
  refine ⟨rfl, codeAny_call_builtin_at (Code.quiet_builtin _ (by decide +kernel)) entry_typeCall (wpAny_check_type_call_sub hD (type_call_x X hx hi hf hl ?_))⟩
  exact k
end
end L2

namespace L2
open PySem PySem.Spec PyProof.Rows
noncomputable def excO (x C dx : Addr) : HO := .ext fun h => ∃ vs, h.get? x = some (XObj C (some dx) vs) ∧ vs[2]? = some .none
noncomputable def excRaw (x C : Addr) : HO := .ext fun h => ∃ t, h.get? x = some (XObj C none #[.ref t, .none, .none, .none, .bool false, .none])
theorem excO_ok {P : Program} {w : World} {H : Hp} {h : Heap} {x C dx : Addr} {vs : Array Value} (e : h.get? x = some (XObj C (some dx) vs)) (h2 : vs[2]? = some .none) : ObjOk P w H h x (excO x C dx) :=
  ⟨⟨vs, e, h2⟩, ⟨_, e⟩, fun h1 h2 ⟨vs, e, z⟩ k => ⟨vs, k _ e, z⟩⟩
theorem excO_of {P : Program} {w : World} {H : Hp} {h : Heap} {x C dx : Addr} (ok : HOk P w H h) (e : H x = some (excO x C dx)) : ∃ vs, h.get? x = some (XObj C (some dx) vs) ∧ vs[2]? = some .none := (ok _ _ e).1
structure Head (X : Cx) (pins : List (Addr × Obj)) (H : Hp) (x C dx T : Addr) (h : Heap) : Prop where
  obj : ∃ vs, h.get? x = some (XObj C (some dx) vs) ∧ vs[1]? = some (.ref T) ∧ vs[2]? = some .none
  tb : TbOk h T
  fp : FpOk X pins H T
  tr : H x = some (excO x C dx)
section
variable {X : Cx} {pins : List (Addr × Obj)} {σ : St} {H : Hp} {s : Shared} {x C dx : Addr} {h' : Heap} {T : Addr} {hd : Option Addr}
end
end L2

namespace L2
open PySem PySem.Spec PyProof.Rows
noncomputable def excD (d : Addr) (fs : List (Str × V)) : HO := .ext fun h => ∃ mA, h.Ns1 d mA ∧ ∀ f, RelO (fs.lookup f) (mA f)
theorem excD_ok {P : Program} {w : World} {H : Hp} {h : Heap} {d : Addr} {fs : List (Str × V)} {mA : Str → Option Value} (n : h.Ns1 d mA) (r : ∀ f, RelO (fs.lookup f) (mA f)) : ObjOk P w H h d (excD d fs) := by
  refine ⟨⟨mA, n, r⟩, let ⟨o, _, _, e, _⟩ := n; ⟨o, e⟩, fun h1 h2 ⟨m, n, r⟩ k => ⟨m, ?_, r⟩⟩
  obtain ⟨o, es, ep, e, q⟩ := n
  exact ⟨o, es, ep, k _ e, q⟩
theorem excD_of {P : Program} {w : World} {H : Hp} {h : Heap} {d : Addr} {fs : List (Str × V)} (ok : HOk P w H h) (e : H d = some (excD d fs)) : ∃ mA, h.Ns1 d mA ∧ ∀ f, RelO (fs.lookup f) (mA f) := (ok _ _ e).1
noncomputable def excNew (x C d : Addr) : HO := .ext fun h => ∃ t, h.get? x = some (XObj C (some d) #[.ref t, .none, .none, .none, .bool false, .none])
theorem excNew_ok {P : Program} {w : World} {H : Hp} {h : Heap} {x C d t : Addr} (e : h.get? x = some (XObj C (some d) #[.ref t, .none, .none, .none, .bool false, .none])) : ObjOk P w H h x (excNew x C d) :=
  ⟨⟨t, e⟩, ⟨_, e⟩, fun h1 h2 ⟨t, e⟩ k => ⟨t, k _ e⟩⟩
theorem excNew_of {P : Program} {w : World} {H : Hp} {h : Heap} {x C d : Addr} (ok : HOk P w H h) (e : H x = some (excNew x C d)) : ∃ t, h.get? x = some (XObj C (some d) #[.ref t, .none, .none, .none, .bool false, .none]) := (ok _ _ e).1
noncomputable def refsThen : List Value → Bool
  | [.type a, .type b, .type c, .type d] => a == "ValueError" && b == "Exception" && c == "BaseException" && d == "object"
  | .ref _ :: r => refsThen r
  | _ => false
theorem refsThen_ve {l : List Value} (e : refsThen l = true) : (∃ a r, l = .ref a :: r ∧ refsThen r = true) ∨ l = VEm := by
  unfold refsThen at e
  split at e
  · simp only [Bool.and_eq_true, beq_iff_eq] at e
    obtain ⟨⟨⟨rfl, rfl⟩, rfl⟩, rfl⟩ := e
    exact .inr rfl
  · exact .inl ⟨_, _, rfl, e⟩
  · cases e
theorem refuse_refs (self : Value) : ∀ (l : List Value), refsThen l = true → refuseLoop self "__setattr__" l = pure ()
  | [], e => by cases e
  | v :: r, e => by
    rcases refsThen_ve e with ⟨a, r', q, e'⟩ | q
    · cases q
      rw [refuseLoop_ref]
      exact refuse_refs self r e'
    · rw [q]
      exact F.store_ValueError.passes self
theorem refs_has : ∀ (l : List Value), refsThen l = true → l.contains (.type "object") = true ∧ l.contains (.type "BaseException") = true
  | [], e => by cases e
  | v :: r, e => by
    rcases refsThen_ve e with ⟨a, r', q, e'⟩ | q
    · cases q
      obtain ⟨h1, h2⟩ := refs_has r e'
      exact ⟨by rw [List.contains_cons, h1, Bool.or_true], by rw [List.contains_cons, h2, Bool.or_true]⟩
    · rw [q]
      decide
noncomputable def xcIn (K : PySem.W.Frag) (C : Addr) : Bool := xIn K C && (PySem.W.clsIn K C).any (fun cd => refsThen cd.mro && cd.hasDict) && PySem.W.findIn K (.ref C) "__setattr__" == some (some (.builtin "object.__setattr__")) &&
  PySem.W.findIn K (.ref C) "__getattribute__" == some (some (.builtin "BaseException.__getattribute__")) && PySem.W.findIn K (.ref C) "__getattr__" == some none
structure XCls (K : PySem.W.Frag) (C : Addr) : Prop where
  xi : xIn K C = true
  ov : ∃ cd, PySem.W.clsIn K C = some cd ∧ refsThen cd.mro = true ∧ cd.hasDict = true
  sa : PySem.W.findIn K (.ref C) "__setattr__" = some (some (.builtin "object.__setattr__"))
  ga : PySem.W.findIn K (.ref C) "__getattribute__" = some (some (.builtin "BaseException.__getattribute__"))
  gh : PySem.W.findIn K (.ref C) "__getattr__" = some none
theorem xcIn_of {K : PySem.W.Frag} {C : Addr} (h : xcIn K C = true) : XCls K C := by
  unfold xcIn at h
  simp only [Bool.and_eq_true, beq_iff_eq] at h
  obtain ⟨⟨⟨⟨h1, h2⟩, h3⟩, h4⟩, h5⟩ := h
  obtain ⟨cd, a, b⟩ := PySem.W.any_some h2
  simp only [Bool.and_eq_true] at b
  exact ⟨h1, ⟨cd, a, b.1, b.2⟩, h3, h4, h5⟩
theorem refs_ne {l : List Value} (e : refsThen l = true) : l.isEmpty = false := by
  cases l with
  | nil => cases e
  | cons _ _ => rfl
section
variable {prog : Program} {w : World} {A : Around} {s : Shared} {K : PySem.W.Frag} {x C : Addr} {R : Result → Shared → Prop}
theorem XCls.mro {c : Value} {b : Bool} (k : XCls K C) (h : ∀ cd, PySem.W.clsIn K C = some cd → refsThen cd.mro = true → cd.mro.contains c = b) : PySem.W.mroIn K C c = some b := by
  obtain ⟨cd, a, o, _⟩ := k.ov
  unfold PySem.W.mroIn
  rw [a, Option.bind_some, if_neg (by rw [refs_ne o]; decide), h cd a o]
theorem XCls.isObj (k : XCls K C) : PySem.W.mroIn K C (.type "object") = some true := k.mro fun cd _ o => (refs_has _ o).1
theorem XCls.isExc (k : XCls K C) : PySem.W.mroIn K C (.type "BaseException") = some true := k.mro fun cd _ o => (refs_has _ o).2
theorem osa_x {ox : Obj} {od : Option Obj} {name : Str} {tk : Tok} {v : Value} (X : K.In s.heap) (I : PySem.W.InstAt s.heap x ox C od) (c : XCls K C) (ht : NoAttr K C name)
    (h : wpAny (model prog w) A.in1 (Builtin.ObjectAttr.storeInOwnDict (.ref x) (.ref C) (.str name tk) name v false)
      (fun fin s' => match fin with | .done f => R (.ok f) s' | .again c' => c'.quiet = true ∧ codeAny (model prog w) A c' R s') (fun e s' => R (.error e) s') s) :
    codeAny (model prog w) A (.call (.builtin "object.__setattr__") ⟨[.ref x, .str name tk, v], []⟩) R s := by
  obtain ⟨cd, hc, ho, _⟩ := c.ov
  have sub : PySem.W.Looks (model prog w) s.heap (isInstance (.ref x) (.type "object")) true := I.type.andThen (PySem.W.looks_mroIn X c.isObj)
  refine codeAny_call_builtin F.store_object.slot.plain F.store_object.entry (@PySem.W.check_slot (model prog w) _ _ s "object.__setattr__" "object" "__setattr__" (.ref x) [.str name tk, v] [] _ F.store_object.kind F.store_object.split sub (F.store_object.args (.ref x) (.str name tk) v) ?_)
  have hm : PySem.W.Looks (model prog w) s.heap (mroOf (.ref C)) cd.mro := (PySem.W.looks_clsIn X hc).andThen .now
  have L3 : PySem.W.Looks (model prog w) s.heap (Builtin.ObjectAttr.storeTaker? none) none := .now
  rw [PySem.W.osa_eq, refuse_eq]
  refine wpAny_bind (wpAny_bind (I.type.here (wpAny_bind (hm.here ?_))))
  rw [refuse_refs _ _ ho]
  refine wpAny_pure (wpAny_bind (I.type.here (wpAny_bind ((PySem.W.looks_findIn X ht).here (wpAny_bind (L3.here ?_))))))
  exact h
end
theorem upd_swap {H : Hp} {d x : Addr} {a b c : HO} (n : d ≠ x) : upd (upd (upd H d a) x b) d c = upd (upd H x b) d c := by
  funext y
  unfold upd
  by_cases h : y = d
  · simp [h]
  · simp [h]
section
variable {X : Cx} {pins : List (Addr × Obj)} {σ : St} {H : Hp} {s : Shared} {x C d : Addr} {fs : List (Str × V)} {f : Str} {v y : V} {u : Value} {A : Around} {E : Value → Shared → Prop}
theorem setx0 {Q : Unit → Shared → Prop} (I : Inv X pins σ H s) (e : H x = some (excRaw x C)) (c : XCls X.K C) (n : NoAttr X.K C f) (ry : RelV y u)
    (h : ∀ s' d, H d = none → d ≠ x → Inv X pins σ (upd (upd H x (excNew x C d)) d (excD d [(f, y)])) s' → Q () s') : wpAny (model X.prog X.w) A (setAttr (.ref x) f u) Q E s := by
  obtain ⟨⟨t, hx⟩, -, -⟩ : ObjOk X.prog X.w H s.heap x (excRaw x C) := I.hok x _ e
  obtain ⟨cd, hc, ho, hd⟩ := c.ov
  have J : PySem.W.InstAt s.heap x (XObj C none #[.ref t, .none, .none, .none, .bool false, .none]) C none := ⟨hx, rfl, rfl, True.intro⟩
  refine PySem.W.set_plain I.kIn J c.sa (osa_x (s := { s with toks := s.toks + 1 }) I.kIn J c n ?_)
  refine wpAny_bind (wpAny_pure (wpAny_bind (wpAny_bind (wpAny_loadPart hx (wpAny_bind ((PySem.W.looks_clsIn (M := model X.prog X.w) I.kIn hc).here (s := { s with toks := s.toks + 1 }) ?_))))))
  rw [hd]
  have hp : s.heap.objs.size ≠ x := Nat.ne_of_gt (Heap.lt_size hx)
  have hx1 : (s.heap.push { cls := .type "dict", data := .dict #[] }).get? x = some (XObj C none #[.ref t, .none, .none, .none, .bool false, .none]) := Heap.get?_push_of_some _ hx
  have d1 : (s.heap.push { cls := .type "dict", data := .dict #[] }).get? s.heap.objs.size = some { cls := .type "dict", data := .dict #[] } := Heap.get?_push_size _ rfl
  have n1 : ∀ {hh : Heap}, hh.get? s.heap.objs.size = some { cls := .type "dict", data := .dict #[] } → hh.Ns1 s.heap.objs.size (fun _ => none) := fun q => Heap.Ns1.of_empty ⟨_, #[], _, q, rfl, fun e he => absurd he (by simp), fun _ => rfl⟩
  have I1 : Inv X pins σ (upd H s.heap.objs.size (excD s.heap.objs.size [])) { s with heap := s.heap.push { cls := .type "dict", data := .dict #[] }, toks := s.toks + 1 } :=
    I.laid (t' := s.toks + 1) (fun b o q => Heap.get?_push_of_some _ q) (Nat.le_refl _) (excD_ok (n1 d1) fun g => True.intro)
  refine wpAny_bind (wpAny_alloc' ?_)
  refine wpAny_bind (wpAny_update' hx1 ?_)
  have hx2 := Heap.get?_update_self (fun o : Obj => ({ o with dict := some s.heap.objs.size } : Obj)) hx1 rfl
  have ot : ∀ b, b ≠ x → ((s.heap.push { cls := .type "dict", data := .dict #[] }).update x fun o => { o with dict := some s.heap.objs.size }).get? b = (s.heap.push { cls := .type "dict", data := .dict #[] }).get? b := fun b hb => Heap.get?_update_other _ _ (Ne.symm hb)
  have e1 : upd H s.heap.objs.size (excD s.heap.objs.size []) x = some (excRaw x C) := (upd_ne (Ne.symm hp)).trans e
  have I2 : Inv X pins σ (upd (upd H s.heap.objs.size (excD s.heap.objs.size [])) x (excNew x C s.heap.objs.size)) { s with heap := (s.heap.push { cls := .type "dict", data := .dict #[] }).update x fun o => { o with dict := some s.heap.objs.size }, toks := s.toks + 1 } :=
    I1.write (t' := s.toks + 1) (x := x) (e := x) (by rw [e1]; exact True.intro) (.inl rfl) (fun b o hb q => (ot b hb).trans q) ⟨_, hx2⟩ (excNew_ok hx2)
  refine wpAny_pure (wpAny_bind (wpAny_pure (wpAny_bind ?_)))
  refine wpAny_nsSet1 (n1 ((ot _ hp).trans d1)) fun h' hn' hs => ?_
  obtain ⟨oD, esD, epD, hoD, hdD, hcD⟩ := hn'.count (PySem.Within.cons f u PySem.Within.nil)
  refine wpAny_bind (wpAny_lookBehind hoD (by rw [hdD]; exact pastItsLine_dict (Nat.le_trans hcD (by rw [List.length_cons, List.length_nil, sizeLine_eq]; omega))) ?_)
  refine wpAny_pure (h _ s.heap.objs.size (I.hok.fresh (Nat.le_refl _)) hp ?_)
  rw [← upd_swap (a := excD s.heap.objs.size []) hp]
  refine I2.write (x := s.heap.objs.size) (e := s.heap.objs.size) (by rw [upd_ne hp, upd_same]; exact True.intro) (.inl rfl) (fun b o hb q => (hs.2 b hb).trans q) ⟨_, hoD⟩ (excD_ok hn' fun g => ?_)
  by_cases q : g = f
  · have qb : (g == f) = true := beq_iff_eq.mpr q
    simp only [List.lookup, qb, if_pos q]
    exact ry
  · have qb : (g == f) = false := beq_eq_false_iff_ne.mpr q
    simp only [List.lookup, qb, if_neg q]
    exact True.intro
end
end L2

namespace L2
open PySem PySem.Spec PyProof.Rows
section
variable {X : Cx} {pins : List (Addr × Obj)} {σ : St} {H : Hp} {s : Shared} {x C d : Addr} {fs : List (Str × V)} {f : Str} {v y : V} {u : Value} {A : Around} {E : Value → Shared → Prop}
theorem excN_ne {h : Heap} {P : Program} {w : World} (ok : HOk P w H h) (e : H x = some (excNew x C d)) (e2 : H d = some (excD d fs)) : d ≠ x := fun z => by
  subst z
  obtain ⟨t, a⟩ := excNew_of ok e
  obtain ⟨mA, ⟨o, es, ep, b, q, _⟩, _⟩ := excD_of ok e2
  rw [a] at b; cases b; cases q
theorem setx1 {Q : Unit → Shared → Prop} (I : Inv X pins σ H s) (e : H x = some (excNew x C d)) (e2 : H d = some (excD d fs)) (hl : fs.length < 1000) (c : XCls X.K C) (n : NoAttr X.K C f) (ry : RelV y u)
    (h : ∀ s', Inv X pins σ (upd H d (excD d (putF f y fs))) s' → Q () s') : wpAny (model X.prog X.w) A (setAttr (.ref x) f u) Q E s := by
  have ne := excN_ne I.hok e e2
  obtain ⟨vs, hx⟩ := excNew_of I.hok e
  obtain ⟨mA, nA, rA⟩ := excD_of I.hok e2
  obtain ⟨cd, hc, ho, hd⟩ := c.ov
  have J : PySem.W.InstAt s.heap x (XObj C (some d) #[.ref vs, .none, .none, .none, .bool false, .none]) C (some (Classical.choose nA)) := ⟨hx, rfl, rfl, let ⟨_, _, q, _⟩ := Classical.choose_spec nA; q⟩
  refine PySem.W.set_plain I.kIn J c.sa (osa_x (s := { s with toks := s.toks + 1 }) I.kIn J c n ?_)
  refine wpAny_bind (wpAny_pure (wpAny_bind (wpAny_bind (wpAny_loadPart hx (wpAny_bind ((PySem.W.looks_clsIn (M := model X.prog X.w) I.kIn hc).here (s := { s with toks := s.toks + 1 }) ?_))))))
  rw [hd]
  refine wpAny_pure (a := some d) (wpAny_bind (wpAny_pure (wpAny_bind ?_)))
  refine wpAny_nsSet1 (s := { s with toks := s.toks + 1 }) nA fun h' hn' hs => ?_
  have wi : PySem.Within mA (fs.map (·.1)) := fun z hz => by
    have r := rA z
    cases q : fs.lookup z with
    | none => rw [q] at r; exact absurd (RelO.none_of r) hz
    | some a => exact List.mem_map.mpr ⟨(z, a), PySem.mem_of_lookup q, rfl⟩
  obtain ⟨oD, esD, epD, hoD, hdD, hcD⟩ := hn'.count (PySem.Within.cons f u wi)
  refine wpAny_bind (wpAny_lookBehind hoD (by rw [hdD]; exact pastItsLine_dict (Nat.le_trans hcD (by rw [List.length_cons, List.length_map, sizeLine_eq]; omega))) ?_)
  refine wpAny_pure (h _ ?_)
  refine I.write (x := d) (e := d) (by rw [e2]; exact True.intro) (.inl rfl) (fun b o hb q => (hs.2 b hb).trans q) ⟨_, hoD⟩ (excD_ok hn' fun g => ?_)
  rw [lookup_putF]
  by_cases q : g = f
  · rw [if_pos q, if_pos q]; exact ry
  · rw [if_neg q, if_neg q]; exact rA g
theorem getx {b : Bool} {Q : Value → Shared → Prop} (I : Inv X pins σ H s) (e : H x = some (excO x C d)) (e2 : H d = some (excD d fs)) (c : XCls X.K C) (n : NoAttr X.K C f) (l : fs.lookup f = some v)
    (h : ∀ u s', Inv X pins σ H s' → RelV v u → Q u s') : wpAny (model X.prog X.w) A (getAttr (.ref x) f b) Q E s := by
  obtain ⟨vs, hx, _⟩ := excO_of I.hok e
  obtain ⟨mA, nA, rA⟩ := excD_of I.hok e2
  obtain ⟨cd, hc, ho, hd⟩ := c.ov
  obtain ⟨od, hod, lk⟩ := lookIn_ns nA
  obtain ⟨u, hu, ru⟩ := RelO.some_of (v := v) (o := mA f) (by rw [← l]; exact rA f)
  have J : PySem.W.InstAt s.heap x (XObj C (some d) vs) C (some od) := ⟨hx, rfl, rfl, hod⟩
  have hf : PySem.W.findObj X.K C (some od) f = some (.value u) := PySem.W.findObj_own (by unfold PySem.W.hasDictIn; rw [hc]; exact hd) n rfl (by rw [lk, hu])
  have Z := h u { s with toks := s.toks + 1 } (I.tok _) ru
  have KI := I.kIn
  obtain ⟨hh, g, dr, t, os⟩ := s
  have L0 := J.type (M := model X.prog X.w)
  have L1 := PySem.W.looks_findIn (M := model X.prog X.w) KI c.ga
  have L2 := PySem.W.looks_findIn (M := model X.prog X.w) KI c.gh
  have L3 := PySem.W.looks_find (M := model X.prog X.w) KI J hf
  have sub : PySem.W.Looks (model X.prog X.w) hh (isInstance (.ref x) (.type "BaseException")) true := L0.andThen (PySem.W.looks_mroIn KI c.isExc)
  have hb0 : (onTheHeap (Value.ref C) && Value.builtin "BaseException.__getattribute__" == Value.builtin "object.__getattribute__") = false := by
    rw [show (Value.builtin "BaseException.__getattribute__" == Value.builtin "object.__getattribute__") = false from by decide +kernel, Bool.and_false]
  unfold getAttr getAttrBy
  refine wpAny_bind (wpAny_mkText (wpAny_holding (wpAny_bind (L0.at (wpAny_bind (L1.at ?_))))))
  dsimp only
  rw [hb0]
  rw [if_neg Bool.false_ne_true]
  unfold getAttrByItsOwn hookBefore
  refine wpAny_bind ?_
  rw [if_pos (show onTheHeap (Value.ref C) = true from rfl)]
  refine L2.at ?_
  refine wpAny_bind (wpAny_attempt (wpAny_holding ?_))
  have hb1 : (b && onTheHeap (Value.builtin "BaseException.__getattribute__")) = false := by cases b <;> rfl
  unfold callGetattribute
  rw [hb1, if_neg Bool.false_ne_true]
  unfold boundAndCalled
  refine wpAny_bind (wpAny_of_eq (F.attrBase_ValueError.ga.bind (.ref x)) ?_)
  refine wpAny_call (codeAny_call_builtin F.attrBase_ValueError.ga.plain F.entry_bexc_ga (@PySem.W.check_slot (model X.prog X.w) _ _ ⟨hh, g, dr, t + 1, os⟩ "BaseException.__getattribute__" "BaseException" "__getattribute__" (.ref x) [.str f t] [] _ (by decide +kernel) (by decide +kernel) sub (F.args_bexc_ga (.ref x) (.str f t)) ?_))
  refine wpAny_bind (wpAny_pure (wpAny_bind (wpAny_pure (wpAny_bind (L0.at (wpAny_bind (L3.at ?_)))))))
  refine wpAny_pure ?_
  show wpAny _ _ (handedOut u) _ _ _
  rw [PySem.W.handedOut_of (handed_of ru)]
  exact wpAny_pure Z
end
end L2

namespace L2
open PySem PySem.Spec PyProof.Rows
noncomputable def xclIn (K : PySem.W.Frag) (C : Addr) : Bool := xcIn K C && PySem.W.findIn K (.ref C) "__class__" == some (some (.builtin "object.__class__")) && PySem.W.specialIn K (.builtin "object.__class__") "__get__" == some (some (.builtin "getset_descriptor.__get__")) && PySem.W.takesIn K (.builtin "object.__class__") == some true
structure XCl (K : PySem.W.Frag) (C : Addr) : Prop where
  cls : XCls K C
  ca : PySem.W.findIn K (.ref C) "__class__" = some (some (.builtin "object.__class__"))
  cg : PySem.W.specialIn K (.builtin "object.__class__") "__get__" = some (some (.builtin "getset_descriptor.__get__"))
  ct : PySem.W.takesIn K (.builtin "object.__class__") = some true
theorem xclIn_of {K : PySem.W.Frag} {C : Addr} (h : xclIn K C = true) : XCl K C := by
  unfold xclIn at h
  simp only [Bool.and_eq_true, beq_iff_eq] at h
  exact ⟨xcIn_of h.1.1.1, h.1.1.2, h.1.2, h.2⟩
section
variable {prog : Program} {w : World} {A : Around} {E : Value → Shared → Prop} {s : Shared} {K : PySem.W.Frag} {x C : Addr} {ox od : Obj}
theorem exc_class {Q : Option Value → Shared → Prop} (c : XCl K C) (KI : K.In s.heap) (J : PySem.W.InstAt s.heap x ox C (some od)) (h : Q (some (.ref C)) { s with toks := s.toks + 1 }) : wpAny (model prog w) A (getAttr? (.ref x) "__class__") Q E s := by
  obtain ⟨cd, hc, ho, hd⟩ := c.cls.ov
  have hf : PySem.W.findObj K C (some od) "__class__" = some (.bind (.builtin "getset_descriptor.__get__") (.builtin "object.__class__")) := PySem.W.findObj_data (by rw [hc]; rfl) c.ca c.cg c.ct
  obtain ⟨hh, g, dr, t, os⟩ := s
  have L0 := J.type (M := model prog w)
  have L1 := PySem.W.looks_findIn (M := model prog w) KI c.cls.ga
  have L2 := PySem.W.looks_findIn (M := model prog w) KI c.cls.gh
  have L3 := PySem.W.looks_find (M := model prog w) KI J hf
  have sub : PySem.W.Looks (model prog w) hh (isInstance (.ref x) (.type "BaseException")) true := L0.andThen (PySem.W.looks_mroIn KI c.cls.isExc)
  have hb0 : (onTheHeap (Value.ref C) && Value.builtin "BaseException.__getattribute__" == Value.builtin "object.__getattribute__") = false := by
    rw [show (Value.builtin "BaseException.__getattribute__" == Value.builtin "object.__getattribute__") = false from by decide +kernel, Bool.and_false]
  unfold getAttr? getAttrBy? getAttrBy
  refine wpAny_bind (wpAny_mkText (wpAny_bind (wpAny_attempt (wpAny_holding (wpAny_bind (L0.at (wpAny_bind (L1.at ?_))))))))
  dsimp only
  rw [hb0, if_neg Bool.false_ne_true]
  unfold getAttrByItsOwn hookBefore
  refine wpAny_bind ?_
  rw [if_pos (show onTheHeap (Value.ref C) = true from rfl)]
  refine L2.at ?_
  refine wpAny_bind (wpAny_attempt (wpAny_holding ?_))
  unfold callGetattribute
  rw [if_neg (show ¬ ((false && onTheHeap (Value.builtin "BaseException.__getattribute__")) = true) from by decide)]
  unfold boundAndCalled
  refine wpAny_bind (wpAny_of_eq (F.attrBase_ValueError.ga.bind (.ref x)) ?_)
  refine wpAny_call (codeAny_call_builtin F.attrBase_ValueError.ga.plain F.entry_bexc_ga (@PySem.W.check_slot (model prog w) _ _ ⟨hh, g, dr, t + 1, os⟩ "BaseException.__getattribute__" "BaseException" "__getattribute__" (.ref x) [.str "__class__" t] [] _ (by decide +kernel) (by decide +kernel) sub (F.args_bexc_ga (.ref x) (.str "__class__" t)) ?_))
  refine wpAny_bind (wpAny_pure (wpAny_bind (wpAny_pure (wpAny_bind (L0.at (wpAny_bind (L3.at ?_)))))))
  show wpAny _ _ (holding [.builtin "object.__class__"] (call (.builtin "getset_descriptor.__get__") [.builtin "object.__class__", .ref x, .ref C]) >>= ret) _ _ _
  refine wpAny_bind (wpAny_holding (wpAny_call (PySem.W.class_get (s := ⟨hh, g, dr, t + 1, os⟩) KI J c.cls.isObj ?_)))
  refine wpAny_pure ?_
  show wpAny _ _ (handedOut (.ref C)) _ _ _
  rw [PySem.W.handedOut_of rfl]
  exact wpAny_pure (wpAny_pure h)
theorem kitx_exc (c : XCl K C) : PySem.W.KitX K (.ref x) (.ref C) (fun h => PySem.W.InstAt h x ox C (some od)) where
  ty := fun _ _ _ I => I.type
  it := fun _ _ X _ => by
    obtain ⟨cd, hc, _⟩ := c.cls.ov
    unfold PySem.W.clsIn at hc
    split at hc
    · rename_i a1 a2 a3 a4 ho
      intro A1 Q1 E1 s1 k q
      unfold isType loadHead
      exact wpAny_bind (wpAny_loadPart (k _ _ (X _ _ ho)) (wpAny_pure q))
    · cases hc
  ne := fun h tp dd its n sl X htp => by
    obtain ⟨cd, hc, _⟩ := c.cls.ov
    refine Bool.eq_false_iff.mpr fun q => ?_
    obtain rfl : C = tp := Value.ref.inj (beq_iff_eq.mp q)
    unfold PySem.W.clsIn at hc
    split at hc
    · rename_i a1 a2 a3 a4 ho
      cases (X _ _ ho).symm.trans htp
    · cases hc
  ca := fun X I k => exc_class c X I k
end
noncomputable def IsX (H : Hp) (x C : Addr) (fs : List (Str × V)) : Prop := ∃ d, H x = some (excO x C d) ∧ H d = some (excD d fs)
noncomputable def clV : V → Option Value
  | .ty T => some (.type T)
  | .ref C => some (.ref C)
  | _ => none
theorem clV_of {v : V} {u c : Value} (e : clV v = some c) (r : RelV v u) : u = c := by
  cases v <;> first | cases e; exact r | cases e
noncomputable def clVs : List V → Option (List Value)
  | [] => some []
  | v :: r => match clV v, clVs r with
    | some c, some l => some (c :: l)
    | _, _ => none
theorem clVs_of : ∀ {vs : List V} {us cs : List Value}, clVs vs = some cs → Vals vs us → us = cs
  | [], us, cs, e, r => by cases r; cases e; rfl
  | v :: vs, us, cs, e, r => by
    cases r with
    | cons r1 r2 =>
      unfold clVs at e
      split at e
      · rename_i c l h1 h2
        cases e
        rw [clV_of h1 r1, clVs_of h2 r2]
      · cases e
noncomputable def rIsiX (K : PySem.W.Frag) : List V → Hp → VK → Prop := fun xs H Q => ∃ x t b, (TyOf K H x t ∨ ∃ a C fs, x = .ref a ∧ IsX H a C fs ∧ XCl K C ∧ t = .ref C) ∧
  ((∃ v c, xs = [x, v] ∧ clV v = some c ∧ PySem.W.kitOne K t c = some b) ∨ (∃ p vs cs, xs = [x, .ref p] ∧ H p = some (.tup vs) ∧ clVs vs = some cs ∧ PySem.W.kitAny K t cs = some b)) ∧ Q (.bl b) H
section
variable {X : Cx} {pins : List (Addr × Obj)} {σ : St} {H : Hp} {s : Shared} {A : Around} {E : Value → Shared → Prop} {Q : Value → Shared → Prop} {c : Value} {b : Bool}
theorem kit_of {x : V} {u t : Value} (I : Inv X pins σ H s) (rx : RelV x u) (ty : TyOf X.K H x t ∨ ∃ a C fs, x = .ref a ∧ IsX H a C fs ∧ XCl X.K C ∧ t = .ref C) :
    ∃ φ : Heap → Prop, PySem.W.KitX X.K u t φ ∧ φ s.heap ∧ u ≠ .builtin "__main__.__loader__#opaque" := by
  rcases ty with ty | ⟨a, C, fs, rfl, ⟨d, e1, e2⟩, c, rfl⟩
  · cases ty with
    | non => cases (show u = Value.none from rx); exact ⟨_, PySem.W.kitx_none, True.intro, (fun z => nomatch z)⟩
    | bl y => cases (show u = Value.bool y from rx); exact ⟨_, PySem.W.kitx_bool, True.intro, (fun z => nomatch z)⟩
    | int i => obtain ⟨t, q⟩ := (show ∃ t, u = Value.int i t from rx); cases q; exact ⟨_, PySem.W.kitx_int, True.intro, (fun z => nomatch z)⟩
    | str y => obtain ⟨t, q⟩ := (show ∃ t, u = Value.str y t from rx); cases q; exact ⟨_, PySem.W.kitx_str, True.intro, (fun z => nomatch z)⟩
    | flt y => obtain ⟨t, q⟩ := (show ∃ t, u = Value.float y t from rx); cases q; exact ⟨_, PySem.W.kitx_float, True.intro, (fun z => nomatch z)⟩
    | @lst a xs ea =>
      cases (show u = Value.ref a from rx)
      obtain ⟨_, _, n, _, h1⟩ := (show ObjOk X.prog X.w H s.heap a (.lst xs) from I.hok a _ ea)
      exact ⟨_, PySem.W.kitx_list, ⟨_, h1, rfl⟩, (fun z => nomatch z)⟩
    | @frz a ob xs ea =>
      cases (show u = Value.ref a from rx)
      obtain ⟨_, _, _, n, _, h1⟩ := (show ObjOk X.prog X.w H s.heap a (.frz ob (.lst xs)) from I.hok a _ ea)
      exact ⟨_, PySem.W.kitx_list, ⟨_, h1, rfl⟩, (fun z => nomatch z)⟩
    | @tup a xs ea =>
      cases (show u = Value.ref a from rx)
      obtain ⟨_, _, _, p⟩ := (show ObjOk X.prog X.w H s.heap a (.tup xs) from I.hok a _ ea)
      obtain ⟨o, h1, h2, _⟩ := p
      exact ⟨_, PySem.W.kitx_tuple, ⟨o, h1, h2⟩, (fun z => nomatch z)⟩
    | @dK a kvs ea =>
      cases (show u = Value.ref a from rx)
      obtain ⟨_, _, vs, _, p⟩ := (show ObjOk X.prog X.w H s.heap a (.dK kvs) from I.hok a _ ea)
      obtain ⟨o, es, ep, h1, h2, _⟩ := p
      exact ⟨_, PySem.W.kitx_dict, ⟨o, h1, h2.1⟩, (fun z => nomatch z)⟩
    | @dT a kvs ea =>
      cases (show u = Value.ref a from rx)
      obtain ⟨_, _, xs, _, o, es, ep, h1, h2, _⟩ := (show ObjOk X.prog X.w H s.heap a (.dT kvs) from I.hok a _ ea)
      exact ⟨_, PySem.W.kitx_dict, ⟨o, h1, h2.1⟩, (fun z => nomatch z)⟩
    | @ins a C dx fs ea cl ha hn htk hm =>
      cases (show u = Value.ref a from rx)
      obtain ⟨mA, O, _⟩ := ins_get I.hok ea
      obtain ⟨od, J, _⟩ := O.look
      exact ⟨_, PySem.W.kitx_own (cl.get _) cl.hd ha hn htk hm, J, (fun z => nomatch z)⟩
  · cases (show u = Value.ref a from rx)
    obtain ⟨vs, hx, _⟩ := excO_of I.hok e1
    obtain ⟨mA, nA, rA⟩ := excD_of I.hok e2
    obtain ⟨od, hod, lk⟩ := lookIn_ns nA
    exact ⟨_, kitx_exc (ox := XObj C (some d) vs) (od := od) c, ⟨hx, rfl, rfl, hod⟩, (fun z => nomatch z)⟩
theorem call_isiX {K : PySem.W.Frag} (hK : X.K = K) : CallR X (.builtin "isinstance") (rIsiX K) := by
  subst hK
  intro pins s σ H xs us Q I r h
  obtain ⟨x, t, b, ty, w, q⟩ := h
  rcases w with ⟨v, c, rfl, ec, e⟩ | ⟨p, vs, cs, rfl, ep, ec, e⟩
  · obtain ⟨u, u2, rfl, ru, rv⟩ := vals2 r
    obtain rfl := clV_of ec rv
    obtain ⟨φ, Z, hφ, hne⟩ := kit_of I ru ty
    exact PySem.W.kia_one Z I.kIn hφ e hne fun tk => ⟨.bl b, H, I.tok _, rfl, q⟩
  · obtain ⟨u, u2, rfl, ru, rv⟩ := vals2 r
    cases (show u2 = Value.ref p from rv)
    obtain ⟨φ, Z, hφ, hne⟩ := kit_of I ru ty
    obtain ⟨_, its, rt, o, h1, h2, n, h3⟩ := (show ObjOk X.prog X.w H s.heap p (.tup vs) from I.hok p _ ep)
    obtain rfl := clVs_of ec rt
    obtain ⟨oc, odd, oda, osl⟩ := o
    dsimp only at h2 h3
    subst h2 h3
    exact PySem.W.kia_tup Z I.kIn hφ h1 e hne fun tk => ⟨.bl b, H, I.tok _, rfl, q⟩
end
end L2

namespace L2
open PySem PySem.Spec PyProof.Rows
section
variable {X : Cx} {k : Nat} {f C : Addr} {fd : FuncData} {ps : List Str} {sp : Sp} {R : St → XK} {x : Str} {p pos : Pos} {e : Expr} {es : List Expr} {t : TA} {pins : List (Addr × Obj)} {σ : St} {H : Hp} {s : Shared} {Q : VK} {us : List Value} {vs : List V}
noncomputable def sFldX (K : PySem.W.Frag) (ta tv : TE) (f : Str) : TS := fun D σ H => tv σ H fun y H1 => ta σ H1 fun x H2 => ∃ a C, x = .ref a ∧ XCls K C ∧ NoAttr K C f ∧
  ((H2 a = some (excRaw a C) ∧ ∀ d, H2 d = none → d ≠ a → D.nx σ (upd (upd H2 a (excNew a C d)) d (excD d [(f, y)]))) ∨
   (∃ d fs, H2 a = some (excNew a C d) ∧ H2 d = some (excD d fs) ∧ fs.length < 1000 ∧ D.nx σ (upd H2 d (excD d (putF f y fs)))))
theorem ps_fldX {o value : Expr} {ta tv : TE} {fn : Str} {pos' : Pos} (ha : PE X o ta) (hv : PE X value tv) (hs : swapsWith value (some (.Attribute o fn pos')) pos.line X.env = pure false) : PS X (.Assign [.Attribute o fn pos'] value pos) (sFldX X.K ta tv fn) := by
  intro pins s σ H D I h
  refine plainObj_wpAny_Assign_Attribute (thn (hv pins s σ H _ I h) fun u s1 ⟨y, H1, I1, ry, q⟩ => thn (ha pins s1 σ H1 _ I1 q) fun ov s2 qq0 => ?_) hs
  obtain ⟨x, H2, I2, rx, a, C, ex, c, n, q2⟩ := qq0
  subst ex
  obtain rfl : ov = Value.ref a := rx
  rcases q2 with ⟨e, q2⟩ | ⟨d, fs, e, e2, hl, q2⟩
  · exact setx0 I2 e c n ry fun s3 d z1 z2 I3 => ⟨σ, _, I3, q2 d z1 z2⟩
  · exact setx1 I2 e e2 hl c n ry fun s3 I3 => ⟨σ, _, I3, q2⟩
noncomputable def tFldX (K : PySem.W.Frag) (ta : TE) (f : Str) : TE := fun σ H Q => ta σ H fun x H1 => ∃ a C fs v, x = .ref a ∧ IsX H1 a C fs ∧ XCls K C ∧ NoAttr K C f ∧ fs.lookup f = some v ∧ Q v H1
theorem pe_fldX {ta : TE} {fn : Str} (he : PE X e ta) (hb : attributeBase e fn X.env (eval e X.env) = eval e X.env) : PE X (.Attribute e fn pos) (tFldX X.K ta fn) := by
  intro pins s σ H Q I h
  refine attr_of hb (thn (he pins s σ H _ I h) fun u s1 qq0 => ?_)
  obtain ⟨x, H1, I1, rx, a, C, fs, v, ex, ⟨d, e1, e2⟩, c, n, l, q⟩ := qq0
  subst ex
  obtain rfl : u = Value.ref a := rx
  exact getx I1 e1 e2 c n l fun u2 s2 I2 ru => ⟨v, H1, I2, ru, q⟩
noncomputable def spInit (C : Addr) (fl : List Str) : Sp := fun vs H Q E => ∃ x ws, vs = .ref x :: ws ∧ ws.length = fl.length ∧ H x = some (excRaw x C) ∧ ∀ d, H d = none → d ≠ x → Q .non (upd (upd H x (excNew x C d)) d (excD d (fl.zip ws)))
structure XMk (P : Program) (w : World) (K : PySem.W.Frag) (mg : Str → Option Value) (base : Heap) (k : Nat) (x : Str) (C : Addr) (fl : List Str) : Prop where
  at_ : mg x = some (.ref C)
  cl : XCl K C
  kp : PySem.W.keepIn K (.ref C) = true
  na : ∀ f ∈ fl, NoAttr K C f
  run : ∃ f fd ps, PySem.W.findIn K (.ref C) "__init__" = some (some (.ref f)) ∧ PySem.W.typeIn K (.ref f) = some (.type "function") ∧ Binds K fd ps [] ∧ FnOk P w K mg base CX0 k f fd ps (spInit C fl)
theorem made_x {Q : Value → Shared → Prop} {E : Value → Shared → Prop} {fl : List Str} (M : XMk X.prog X.w X.K X.mg X.base k x C fl) (hr : Room (k + 1) X.A) (I : Inv X pins σ H s) (r : Vals vs us) (hl : vs.length = fl.length) (hz : vs.length ≤ sizeLine)
    (q : ∀ a d s', H a = none → H d = none → d ≠ a → Inv X pins σ (upd (upd (upd H a (excRaw a C)) a (excNew a C d)) d (excD d (fl.zip vs))) s' → Q (.ref a) s') : wpAny (model X.prog X.w) X.A (call (.ref C) us) Q E s := by
  obtain ⟨f, fd, ps, hi, hf, hb, F⟩ := M.run
  refine call_x I.kIn M.cl.cls.xi hi hf (by rw [← r.length]; exact hz) ?_
  have I1 : Inv X pins σ H { s with heap := s.heap.push { cls := .type "tuple", data := .seq us.toArray } } := I.kept (t' := s.toks) fun b o e => Heap.get?_push_of_some _ e
  have sz1 : (s.heap.push { cls := .type "tuple", data := .seq us.toArray }).objs.size = s.heap.objs.size + 1 := Heap.size_push _ _
  have hfr : H (s.heap.objs.size + 1) = none := I.hok.fresh (Nat.le_succ _)
  have gx : ((s.heap.push { cls := .type "tuple", data := .seq us.toArray }).push (XObj C none #[.ref s.heap.objs.size, .none, .none, .none, .bool false, .none])).get? (s.heap.objs.size + 1) = some (XObj C none #[.ref s.heap.objs.size, .none, .none, .none, .bool false, .none]) := by
    rw [← sz1]; exact Heap.get?_push_size _ rfl
  have I2 : Inv X pins σ (upd H (s.heap.objs.size + 1) (excRaw (s.heap.objs.size + 1) C)) { s with heap := (s.heap.push { cls := .type "tuple", data := .seq us.toArray }).push (XObj C none #[.ref s.heap.objs.size, .none, .none, .none, .bool false, .none]) } :=
    I1.laid (t' := s.toks) (fun b o e => Heap.get?_push_of_some _ e) (by show (s.heap.push _).objs.size ≤ _; rw [sz1]; exact Nat.le_refl _) ⟨⟨_, gx⟩, ⟨_, gx⟩, fun h1 h2 ⟨t, z⟩ kk => ⟨t, kk _ z⟩⟩
  have r2 : Vals (V.ref (s.heap.objs.size + 1) :: vs) (Value.ref (s.heap.objs.size + 1) :: us) := .cons rfl r
  have sp0 : spInit C fl (V.ref (s.heap.objs.size + 1) :: vs) (upd H (s.heap.objs.size + 1) (excRaw (s.heap.objs.size + 1) C)) (fun v H2 => v = .non ∧ ∃ d, H d = none ∧ d ≠ s.heap.objs.size + 1 ∧ H2 = upd (upd (upd H (s.heap.objs.size + 1) (excRaw (s.heap.objs.size + 1) C)) (s.heap.objs.size + 1) (excNew (s.heap.objs.size + 1) C d)) d (excD d (fl.zip vs))) E0 :=
    ⟨_, _, rfl, hl, upd_same, fun d hd ne => ⟨rfl, d, by rw [upd_ne ne] at hd; exact hd, ne, rfl⟩⟩
  have hl2 : ((Value.ref (s.heap.objs.size + 1) :: us) ++ []).length = ps.length := by rw [List.append_nil, ← r2.length]; exact F.len _ _ _ _ sp0
  have bd := hb _ (Value.ref (s.heap.objs.size + 1) :: us) I2.kIn hl2
  rw [List.append_nil] at bd
  refine wpAny_call (codeAny_mono (F.run _ X.stack _ _ ⟨Value.ref (s.heap.objs.size + 1) :: us, []⟩ (Value.ref (s.heap.objs.size + 1) :: us) _ _ E0 (hr.make C us []) (I2.env0.make C us []) bd r2 sp0) fun rr s' hq => ?_)
  cases rr with
  | error e => exact False.elim hq
  | ok fl =>
    cases fl with
    | ret u =>
      obtain ⟨v, H', I3, rv, ev, d, hd, ne, eH⟩ := I2.after hq
      subst ev
      rw [eH] at I3
      exact ⟨rv, q _ d s' hfr hd ne I3⟩
    | next => exact False.elim hq
    | brk => exact False.elim hq
    | cont => exact False.elim hq
end
end L2

namespace L2
open PySem PySem.Spec PyProof.Rows
section
variable {X : Cx} {k : Nat} {C : Addr} {R : St → XK} {x : Str} {p cpos pos : Pos} {e : Expr} {es : List Expr} {t : TA} {fl : List Str}
theorem raised_heap {H : Hp} {a d : Addr} {vs : List V} (ha : H a = none) (hd : H d = none) (ne : d ≠ a) : Same H (upd (upd (upd (upd H a (excRaw a C)) a (excNew a C d)) d (excD d (fl.zip vs))) a (excO a C d)) ∧
    IsX (upd (upd (upd (upd H a (excRaw a C)) a (excNew a C d)) d (excD d (fl.zip vs))) a (excO a C d)) a C (fl.zip vs) := by
  refine ⟨fun b o h => ?_, d, upd_same, by rw [upd_ne ne, upd_same]⟩
  have na : b ≠ a := fun z => by rw [z, ha] at h; cases h
  have nd : b ≠ d := fun z => by rw [z, hd] at h; cases h
  rw [upd_ne na, upd_ne nd, upd_ne na, upd_ne na]
  exact h
end
section
variable {X : Cx} {pins : List (Addr × Obj)} {σ σ' : St} {H : Hp} {s : Shared} {h' : Heap}
end
end L2

namespace L2
open PySem PySem.Spec PyProof.Rows
section
variable {X : Cx} {pins pins' : List (Addr × Obj)} {σ : St} {H : Hp} {s : Shared} {x C d T : Addr} {R : St → XK} {D : Ends}
noncomputable abbrev TH := Ends → St → Addr → Addr → Hp → Prop
noncomputable def PH (X : Cx) (hs : List ExceptHandler) (th : TH) : Prop := ∀ (pins : List (Addr × Obj)) (s : Shared) (σ : St) (H : Hp) (D : Ends) (x C d T : Addr), Inv X pins σ H s → Head X pins H x C d T s.heap → th D σ x C H →
  wpAny (model X.prog X.w) X.A (handleBy (.ref x) X.env hs) (SP X pins D) X.xe s
variable {nm n : Str} {P : Addr} {i : Nat} {p pos : Pos} {b0 : Stmt} {suite : List Stmt} {ts : TS} {th : TH} {hs : List ExceptHandler}
end
end L2

namespace L2
open PySem PySem.Spec PyProof.Rows
noncomputable def clsA (mg : Str → Option Value) (x : Str) : Addr := match mg x with
  | some (.ref a) => a
  | _ => 0
theorem clsA_of {mg : Str → Option Value} {x : Str} {C : Addr} (h : mg x = some (.ref C)) : clsA mg x = C := by unfold clsA; rw [h]
structure CTxt (K : PySem.W.Frag) (mg : Str → Option Value) (x : Str) : Prop where
  at_ : mg x = some (.ref (clsA mg x))
  cl : XCl K (clsA mg x)
theorem ct_mk {K : PySem.W.Frag} {mg : Str → Option Value} {h : Heap} (X : K.In h) (G : h.Ns mainGlobals mg) {x : Str} {C : Addr} (a : PySem.W.nsIn K mainGlobals x = some (some (.ref C))) (b : xclIn K C = true) : CTxt K mg x := by
  have m := PySem.W.mg_of X G a
  have e := clsA_of m
  exact ⟨by rw [e]; exact m, by rw [e]; exact xclIn_of b⟩
structure XTxt (K : PySem.W.Frag) (mg : Str → Option Value) (x : Str) (fl : List Str) (qual : Str) (st : Stmt) : Prop where
  c : CTxt K mg x
  kp : PySem.W.keepIn K (.ref (clsA mg x)) = true
  na : ∀ f ∈ fl, NoAttr K (clsA mg x) f
  ini : ∃ f fd, PySem.W.findIn K (.ref (clsA mg x)) "__init__" = some (some (.ref f)) ∧ PySem.W.typeIn K (.ref f) = some (.type "function") ∧ Fun K "__init__" qual st f fd
noncomputable def noneOf (K : PySem.W.Frag) (C : Addr) (fl : List Str) : Bool := fl.all fun n => PySem.W.findIn K (.ref C) n == some none
theorem xt_mk {K : PySem.W.Frag} {mg : Str → Option Value} {h : Heap} (X : K.In h) (G : h.Ns mainGlobals mg) {x qual : Str} {C f : Addr} {fl : List Str} {st : Stmt} {oc : Value} {od an : Option Addr} {osl : Array (Option Value)} {kV doc pm cdv ct : Value}
    (a : PySem.W.nsIn K mainGlobals x = some (some (.ref C))) (b : xclIn K C = true) (kp : PySem.W.keepIn K (.ref C) = true) (na : noneOf K C fl = true)
    (i : PySem.W.findIn K (.ref C) "__init__" = some (some (.ref f))) (t : PySem.W.typeIn K (.ref f) = some (.type "function"))
    (l : K.lookup f = some ⟨oc, od, .func (PySem.W.fnOf "__init__" qual (defArgs st) (defBody st) (defScope st) .none kV doc pm an cdv ct), osl⟩) (c : PySem.W.codeIn K cdv qual = true) (k : PySem.W.keepIn K (.ref f) = true) : XTxt K mg x fl qual st := by
  have m := PySem.W.mg_of X G a
  have e := clsA_of m
  refine ⟨ct_mk X G a b, by rw [e]; exact kp, fun n hn => ?_, f, _, by rw [e]; exact i, t, fun_mk l c k⟩
  rw [e]
  have := List.all_eq_true.mp na n hn
  exact beq_iff_eq.mp this
structure Sub (K : PySem.W.Frag) (mg : Str → Option Value) (x y : Str) (b : Bool) : Prop where
  mro : PySem.W.mroIn K (clsA mg x) (.ref (clsA mg y)) = some b
  one : PySem.W.kitOne K (.ref (clsA mg x)) (.ref (clsA mg y)) = some b
structure JH (X : Cx) (hs : List ExceptHandler) (th : TH) : Prop where
  run : PH X hs th
section
variable {X : Cx} {K : PySem.W.Frag} {k : Nat} {x n fn : Str} {ps : List Str} {sp : Sp} {R : St → XK} {p pos cpos pos' : Pos} {e o value : Expr} {es : List Expr} {t : TA} {ta tv : TE} {st : Stmt} {u ts : TS} {th : TH} {hs : List ExceptHandler} {i : Nat}
theorem j_cls {C : Addr} (hg : Gl X x) (hm : X.mg x = some (.ref C)) (hd : (x == ("__debug__" : Str)) = false) : JE X (.Name x pos) (tC (.ref C)) := ⟨pe_glob hg hm rfl hd⟩
theorem j_fldX (hK : X.K = K) (he : JE X e ta) (h : autoParam (notCall e = true) L2.auto4._auto_1) : JE X (.Attribute e fn pos) (tFldX K ta fn) := by
  subst hK
  exact ⟨pe_fldX he.run (by cases e <;> first | rfl | cases h)⟩
theorem js_fldX (hK : X.K = K) (ha : JE X o ta) (hv : JE X value tv) (h : autoParam (notComp value = true) L2.auto4._auto_1) : JS X (.Assign [.Attribute o fn pos'] value pos) (sFldX K ta tv fn) := by
  subst hK
  exact ⟨ps_fldX ha.run hv.run (sw_no h)⟩
end
section
variable {P : Program} {w : World} {K : PySem.W.Frag} {mg : Str → Option Value} {base : Heap}
theorem mkX {x qual : Str} {st : Stmt} {N ps : List Str} {fl : List Str} {k : Nat} (D : XTxt K mg x fl qual st) (S : FnScope N ps (defScope st))
    (hb : ∀ (kV doc pm : Value) (an : Option Addr) (cdv ct : Value) (us : List Value), us.length = ps.length → bindArgs (PySem.W.fnOf "__init__" qual (defArgs st) (defBody st) (defScope st) .none kV doc pm an cdv ct) ⟨us, []⟩ = pure (ps.zip us))
    (hl : ps.length = fl.length + 1)
    (hbody : ∀ (f : Addr) (cdv : Value) (A : Around) (outer : List Env) (s : Shared) (H : Hp) (vs : List V) (Q : VK) (E : XK), Room k (A.deeper (envOfC qual (defScope st) s.heap.objs.size f cdv)) → spInit (clsA mg x) fl vs H Q E →
      ∃ t, JB (cxOf CX0 P w K mg base N qual (defScope st) f cdv A outer s H E).nox (defBody st) t ∧ t { nx := fun _ H' => Q .non H', rt := Q } (start N vs) H) : XMk P w K mg base (k + 1) x (clsA mg x) fl := by
  obtain ⟨f, fd, a, b, F⟩ := D.ini
  refine ⟨D.c.at_, D.c.cl, D.kp, D.na, f, fd, ps, a, b, F.binds hb, F.ok S (fun vs H Q E h => ?_) fun cdv A outer s H vs Q E hr h => let ⟨t, j, q⟩ := hbody f cdv A outer s H vs Q E hr h; ⟨t, j.run, q⟩⟩
  obtain ⟨y, ws, rfl, hw, _⟩ := h
  rw [List.length_cons, hw, hl]
end
end L2

namespace L2
open PySem PySem.Spec PyProof.Rows
noncomputable def initOf : Stmt → Stmt
  | .ClassDef _ _ _ (s :: _) _ _ _ _ _ _ _ => s
  | s => s
section
variable {σ : St} {H : Hp} {D : Ends} {Q : VK} {sp : Sp} {R : St → XK} {a : TA} {K : PySem.W.Frag} {C P : Addr} {fl : List Str} {th : TH} {ts : TS} {i : Nat} {ta : TE} {f : Str}
theorem r_fldX (h : ta σ H fun x H1 => ∃ a C fs v, x = .ref a ∧ IsX H1 a C fs ∧ XCls K C ∧ NoAttr K C f ∧ fs.lookup f = some v ∧ Q v H1) : tFldX K ta f σ H Q := h
theorem rd1 {f1 p0 p1 : Str} {vs : List V} {E : XK} (c : XCls K C) (n : NoAttr K C f1) (h : spInit C [f1] vs H Q E) : sFldX K (tVar 0) (tVar 1) f1 { nx := fun _ H' => Q .non H', rt := Q } (start [p0, p1] vs) H := by
  obtain ⟨x, ws, rfl, hw, hx, q⟩ := h
  match ws, hw with
  | [v], _ => exact ⟨v, rfl, .ref x, rfl, x, C, rfl, c, n, .inl ⟨hx, fun d hd ne => q d hd ne⟩⟩
theorem rd2 {f1 f2 p0 p1 p2 : Str} {vs : List V} {E : XK} (c : XCls K C) (n : NoAttr K C f1) (n2 : NoAttr K C f2) (ne : f1 ≠ f2) (h : spInit C [f1, f2] vs H Q E) :
    tSeq (sFldX K (tVar 0) (tVar 1) f1) (sFldX K (tVar 0) (tVar 2) f2) { nx := fun _ H' => Q .non H', rt := Q } (start [p0, p1, p2] vs) H := by
  obtain ⟨x, ws, rfl, hw, hx, q⟩ := h
  match ws, hw with
  | [v, u], _ =>
    refine ⟨v, rfl, .ref x, rfl, x, C, rfl, c, n, .inl ⟨hx, fun d hd nd => ?_⟩⟩
    refine ⟨u, rfl, .ref x, rfl, x, C, rfl, c, n2, .inr ⟨d, [(f1, v)], ?_, upd_same, by show 1 < 1000; decide, ?_⟩⟩
    · rw [upd_ne (Ne.symm nd), upd_same]
    · rw [upd_upd]
      have e : putF f2 u [(f1, v)] = [(f1, v), (f2, u)] := by
        show (if f1 = f2 then _ else _) = _
        rw [if_neg ne]
        rfl
      rw [e]
      exact q d hd nd
end
theorem IsX.same {H H' : Hp} {x C : Addr} {fs : List (Str × V)} (h : IsX H x C fs) (s : Same H H') : IsX H' x C fs := let ⟨d, a, b⟩ := h; ⟨d, s _ _ a, s _ _ b⟩
end L2

namespace L2
open PySem PySem.Spec PyProof.Rows
section
variable {X : Cx} {tg : Expr}
end
section
variable {σ : St} {H : Hp} {Q : VK}
end
section
variable {X : Cx} {e : Expr} {te : TE} {lo hi : Option Expr} {st : Expr} {tl th ts : TO} {pos p2 : Pos}
end
section
variable {σ : St} {H : Hp} {Q : VK} {te : TE}
end
section
variable {X : Cx}
end
section
variable {H : Hp} {Q : VK} {K : PySem.W.Frag}
end
end L2

namespace L2
open PySem PySem.Spec PyProof.Rows
open AutoSeq1 (wpAny_loadPart')
section
variable {X : Cx}
end
section
variable {H : Hp} {Q : VK} {K : PySem.W.Frag}
end
end L2

namespace L2
open PySem PySem.Spec PyProof.Rows PySem.SeqAt
theorem layAll {n : Nat} : ∀ {ds : List PyData}, (∀ d ∈ ds, d.canLay0 = true ∧ d.depth ≤ n) → PyData.canLayAll0 ds = true ∧ PyData.depthAll ds ≤ n
  | [], _ => ⟨rfl, by simp [PyData.depthAll]⟩
  | d :: ds, h => by
    obtain ⟨a, b⟩ := layAll fun e he => h e (List.mem_cons_of_mem _ he)
    obtain ⟨c, e⟩ := h d (by simp)
    rw [PyData.canLayAll0, PyData.depthAll, a, c]
    exact ⟨rfl, by omega⟩
theorem lay_list {n : Nat} {ds : List PyData} (h : ∀ d ∈ ds, d.canLay0 = true ∧ d.depth ≤ n) : (PyData.list ds).canLay0 = true ∧ (PyData.list ds).depth ≤ n + 1 := by
  obtain ⟨a, b⟩ := layAll h
  rw [PyData.canLay0, PyData.depth]
  exact ⟨a, by omega⟩
theorem lay_shaped {d : PyData} {n : Nat} (h : d.canLay0 = true ∧ d.depth ≤ n) (hn : n ≤ 64) : shaped d = true := by
  unfold shaped
  rw [h.1, decide_eq_true (by omega)]; rfl
theorem r_new {xs : List V} {H : Hp} {R : Addr → Prop} (c : Nat.ble xs.length 64 = true) (h : ∀ p, H p = none → R p) : xs.length ≤ sizeLine ∧ ∀ p, H p = none → R p :=
  ⟨Nat.le_trans (Nat.le_of_ble_eq_true c) (by decide), h⟩
theorem iteNF {A B : Prop} (h : B) : if (!true) = true then A else B := by rw [if_neg (by simp)]; exact h
end L2

namespace L2
open PySem PySem.Spec PyProof.Rows PySem.SeqAt
open AutoSeq1 (wpAny_loadPart')
section
variable {X : Cx}
end
section
variable {X : Cx}
end
section
variable {H : Hp} {Q : VK} {K : PySem.W.Frag} {σ : St} {D : Ends}
end
end L2

namespace L2
open PySem PySem.Spec PyProof.Rows
section
variable {X : Cx}
end
section
variable {σ : St} {H : Hp} {Q : VK} {D : Ends}
end
end L2

namespace L2
open PySem PySem.Spec PyProof.Rows
section
variable {X : Cx}
end
section
variable {X : Cx}
end
section
variable {σ : St} {H : Hp} {Q : VK} {K : PySem.W.Frag}
end
end L2

namespace L2
open PySem PySem.Spec PyProof.Rows
noncomputable def CDivW (i j : Int) : Prop := 0 < j ∧ j < 1606938044258990275541962092341162602522202993782792835301376
section
variable {X : Cx}
theorem op_fdivW : OpR X (binaryOp .FloorDiv) (rI CDivW fun i j => .int (i / j)) := opI fun i j _ _ _ _ _ hc q => by
  have h1 : (0 : Int) < j := hc.1
  have h2 := hc.2
  refine floordiv_int (by omega) (by rw [Int.fdiv_eq_ediv_of_nonneg i (by omega)]; exact q) (.inl (PyProof.noPylong_of_log2 ?_))
  have h3 : j.natAbs.log2 < 200 := (Nat.log2_lt (by omega)).mpr (by omega)
  omega
end
end L2

namespace L2
open PySem PySem.Spec PyProof.Rows
open PySem.Sem (wp)
open PySem.AutoSeq1 (wpAny_loadPart')
section
variable {prog : Program} {w : World} {A : Around} {E : Value → Shared → Prop} {s : Shared}
end
end L2

namespace L2
open PySem PySem.Spec PyProof.Rows
section
variable {K : PySem.W.Frag} {σ : St} {H : Hp}
end
section
variable {X : Cx} {e : Expr} {te : TE} {lo hi : Option Expr} {st : Expr} {tl th ts : TO} {pos p2 : Pos}
end
end L2

namespace L2
open PySem PySem.Spec PyProof.Rows
end L2

namespace L2
open PySem PySem.Spec PyProof.Rows
open PySem.Sem (wp)
open PySem.AutoSeq1 (wpAny_loadPart')
section
variable {prog : Program} {w : World} {A : Around} {E : Value → Shared → Prop} {s : Shared}
end
end L2

namespace L2
open PySem PySem.Spec PyProof.Rows
section
variable {prog : Program} {w : World} {A : Around} {E : Value → Shared → Prop} {s : Shared}
end
end L2

namespace L2
open PySem PySem.Spec PyProof.Rows
section
variable {K : PySem.W.Frag} {σ : St} {H : Hp}
end
end L2

namespace L2
open PySem PySem.Spec PyProof.Rows
theorem Inv.nosys {X : Cx} {pins : List (Addr × Obj)} {σ : St} {H : Hp} {s : Shared} (I : Inv X pins σ H s) : H sysModules = none :=
  let ⟨_, o, _, _, e, _⟩ := I.mod.sysm
  (I.bs _ o e).2
noncomputable def flD : V → Option PyData
  | .non => some .none
  | .bl b => some (.bool b)
  | .int n => some (.int n)
  | .str z => some (.str z)
  | _ => none
noncomputable def keyD : Key → PyData
  | .inl i => .int i
  | .inr x => .str x
mutual
noncomputable def RD (H : Hp) : PyData → V → Prop
  | .none, v => v = .non
  | .bool b, v => v = .bl b
  | .int n, v => v = .int n
  | .str z, v => v = .str z
  | .list ds, v => ∃ a vs, v = .ref a ∧ H a = some (.lst vs) ∧ RDs H ds vs
  | .tuple ds, v => ∃ a vs, v = .ref a ∧ H a = some (.tup vs) ∧ RDs H ds vs
  | .dict kvs, v => ∃ a ks, v = .ref a ∧ H a = some (.dK ks) ∧ ks.map (fun p => (keyD p.1, flD p.2)) = kvs.map (fun q => (q.1, some q.2))
noncomputable def RDs (H : Hp) : List PyData → List V → Prop
  | [], vs => vs = []
  | d :: ds, vs => ∃ v r, vs = v :: r ∧ RD H d v ∧ RDs H ds r
end
mutual
theorem RD.same {H H' : Hp} (s : Same H H') : ∀ (d : PyData) (v : V), RD H d v → RD H' d v
  | .none, _, h => by rw [RD] at h ⊢; exact h
  | .bool _, _, h => by rw [RD] at h ⊢; exact h
  | .int _, _, h => by rw [RD] at h ⊢; exact h
  | .str _, _, h => by rw [RD] at h ⊢; exact h
  | .list ds, v, h => by rw [RD] at h ⊢; obtain ⟨a, vs, e, q, r⟩ := h; exact ⟨a, vs, e, s _ _ q, RDs.same s ds vs r⟩
  | .tuple ds, v, h => by rw [RD] at h ⊢; obtain ⟨a, vs, e, q, r⟩ := h; exact ⟨a, vs, e, s _ _ q, RDs.same s ds vs r⟩
  | .dict _, _, h => by rw [RD] at h ⊢; obtain ⟨a, vs, e, q, r⟩ := h; exact ⟨a, vs, e, s _ _ q, r⟩
theorem RDs.same {H H' : Hp} (s : Same H H') : ∀ (ds : List PyData) (vs : List V), RDs H ds vs → RDs H' ds vs
  | [], _, h => by rw [RDs] at h ⊢; exact h
  | d :: ds, vs, h => by rw [RDs] at h ⊢; obtain ⟨v, r, e, q, t⟩ := h; exact ⟨v, r, e, RD.same s d v q, RDs.same s ds r t⟩
end
theorem RD_int {H : Hp} {n : Int} {v : V} : RD H (.int n) v ↔ v = .int n := by rw [RD]
theorem RD_str {H : Hp} {n : Str} {v : V} : RD H (.str n) v ↔ v = .str n := by rw [RD]
theorem RD_bool {H : Hp} {n : Bool} {v : V} : RD H (.bool n) v ↔ v = .bl n := by rw [RD]
theorem RD_none {H : Hp} {v : V} : RD H .none v ↔ v = .non := by rw [RD]
theorem RD_list {H : Hp} {ds : List PyData} {v : V} : RD H (.list ds) v ↔ ∃ a vs, v = .ref a ∧ H a = some (.lst vs) ∧ RDs H ds vs := by rw [RD]
theorem RD_tuple {H : Hp} {ds : List PyData} {v : V} : RD H (.tuple ds) v ↔ ∃ a vs, v = .ref a ∧ H a = some (.tup vs) ∧ RDs H ds vs := by rw [RD]
theorem RD_dict {H : Hp} {kvs : List (PyData × PyData)} {v : V} : RD H (.dict kvs) v ↔ ∃ a ks, v = .ref a ∧ H a = some (.dK ks) ∧ ks.map (fun p => (keyD p.1, flD p.2)) = kvs.map (fun q => (q.1, some q.2)) := by rw [RD]
theorem RDs_nil {H : Hp} {vs : List V} : RDs H [] vs ↔ vs = [] := by rw [RDs]
theorem RDs_cons {H : Hp} {d : PyData} {ds : List PyData} {vs : List V} : RDs H (d :: ds) vs ↔ ∃ v r, vs = v :: r ∧ RD H d v ∧ RDs H ds r := by rw [RDs]
theorem RDs_one {H : Hp} {d : PyData} {v : V} {ds : List PyData} {vs : List V} (h : RD H d v) (t : RDs H ds vs) : RDs H (d :: ds) (v :: vs) := RDs_cons.mpr ⟨v, vs, rfl, h, t⟩
theorem flD_reads {h : Heap} {v : V} {d : PyData} {u : Value} (e : flD v = some d) (r : RelV v u) : Reads h u d [] := by
  cases v <;> simp only [flD, Option.some.injEq, reduceCtorEq] at e
  · subst e; cases r; exact .none
  · subst e; cases r; exact .bool _
  · subst e; obtain ⟨t, rfl⟩ := r; exact .int _ _
  · subst e; obtain ⟨t, rfl⟩ := r; exact .str _ _
theorem pairs_reads {P : Program} {w : World} {h : Heap} : ∀ {es : List DictEntry} {vs : List (Key × Value)} {ks : List (Key × V)} {kvs : List (PyData × PyData)}, Pairs (mixKind P w) es vs → KV ks vs →
    ks.map (fun p => (keyD p.1, flD p.2)) = kvs.map (fun q => (q.1, some q.2)) → ReadsAll h (es.map (·.key)) (kvs.map (·.1)) [] ∧ ReadsAll h (es.map (·.val)) (kvs.map (·.2)) []
  | _, _, _, kvs, .nil, r, e => by
    cases r
    cases kvs with
    | nil => exact ⟨.nil, .nil⟩
    | cons _ _ => simp at e
  | _, _, _, kvs, .cons (e := en) (kv := kv) h1 h2 t, r, e => by
    cases r with
    | cons a b =>
      rename_i p ks'
      cases kvs with
      | nil => simp at e
      | cons q kvs =>
        simp only [List.map_cons, List.cons.injEq, Prod.mk.injEq] at e
        obtain ⟨⟨e1, e2⟩, e3⟩ := e
        obtain ⟨i1, i2⟩ := pairs_reads t b e3
        obtain ⟨a1, a2⟩ := a
        have k1 : Reads h en.key q.1 [] := by
          rcases keyIs_shape h1 with ⟨i, t', ek, ev⟩ | ⟨x, t', ek, ev⟩
          · rw [ev, ← e1, a1, ek]; exact .int _ _
          · rw [ev, ← e1, a1, ek]; exact .str _ _
        have k2 : Reads h en.val q.2 [] := by rw [h2]; exact flD_reads e2 a2
        exact ⟨.cons (as := []) (bs := []) k1 i1, .cons (as := []) (bs := []) k2 i2⟩
mutual
theorem RD.reads {P : Program} {w : World} {H : Hp} {h : Heap} (ok : HOk P w H h) : ∀ (d : PyData) (v : V) (u : Value), RD H d v → RelV v u → ∃ as, Reads h u d as ∧ ∀ b ∈ as, ∃ o, H b = some o
  | .none, _, u, q, r => by rw [RD] at q; subst q; cases r; exact ⟨_, .none, by simp⟩
  | .bool b, _, u, q, r => by rw [RD] at q; subst q; cases r; exact ⟨_, .bool _, by simp⟩
  | .int n, _, u, q, r => by rw [RD] at q; subst q; obtain ⟨t, rfl⟩ := r; exact ⟨_, .int _ _, by simp⟩
  | .str n, _, u, q, r => by rw [RD] at q; subst q; obtain ⟨t, rfl⟩ := r; exact ⟨_, .str _ _, by simp⟩
  | .list ds, v, u, q, r => by
    rw [RD] at q
    obtain ⟨a, vs, rfl, e, t⟩ := q
    cases r
    obtain ⟨_, its, n, rv, g⟩ := ok a _ e
    obtain ⟨as, ra, ha⟩ := RDs.reads ok ds vs its t rv
    refine ⟨_, .list g rfl rfl (by simpa using ra), fun b hb => ?_⟩
    rcases List.mem_cons.mp hb with rfl | hb
    · exact ⟨_, e⟩
    · exact ha b hb
  | .tuple ds, v, u, q, r => by
    rw [RD] at q
    obtain ⟨a, vs, rfl, e, t⟩ := q
    cases r
    obtain ⟨_, its, rv, g⟩ := ok a _ e
    obtain ⟨as, ra, ha⟩ := RDs.reads ok ds vs its t rv
    obtain ⟨o, ho, hc, n, hd⟩ := g
    exact ⟨_, .tuple ho hc hd (by simpa using ra), ha⟩
  | .dict kvs, v, u, q, r => by
    rw [RD] at q
    obtain ⟨a, ks, rfl, e, t⟩ := q
    cases r
    obtain ⟨_, _, vs, kv, o, es, ep, ho, xd, hd, _, prs, _⟩ := ok a _ e
    obtain ⟨i1, i2⟩ := pairs_reads (h := h) prs kv t
    refine ⟨_, .dict ho xd.1 hd i1 i2, fun b hb => ?_⟩
    simp only [List.append_nil, List.mem_singleton] at hb
    subst hb
    exact ⟨_, e⟩
theorem RDs.reads {P : Program} {w : World} {H : Hp} {h : Heap} (ok : HOk P w H h) : ∀ (ds : List PyData) (vs : List V) (us : List Value), RDs H ds vs → Vals vs us → ∃ as, ReadsAll h us ds as ∧ ∀ b ∈ as, ∃ o, H b = some o
  | [], _, us, q, r => by rw [RDs] at q; subst q; cases r; exact ⟨_, .nil, by simp⟩
  | d :: ds, _, us, q, r => by
    rw [RDs] at q
    obtain ⟨v, r', rfl, q1, q2⟩ := q
    cases r with
    | cons a b =>
      obtain ⟨as, h1, t1⟩ := RD.reads ok d v _ q1 a
      obtain ⟨bs, h2, t2⟩ := RDs.reads ok ds r' _ q2 b
      exact ⟨_, .cons h1 h2, fun b hb => (List.mem_append.mp hb).elim (t1 b) (t2 b)⟩
end
noncomputable def rReprR : List V → Hp → VK → Prop := fun xs H Q => ∃ (x : V) (d : PyData), xs = [x] ∧ RD H d x ∧ d.showable = true ∧ d.depth ≤ 60 ∧ d.shown.length ≤ sizeLine ∧ Q (.str d.shown) H
theorem call_reprR {X : Cx} (hg : X.A.guards = some []) (hu : X.A.units + 64 < cLine) : CallR X (.builtin "repr") rReprR := by
  intro pins s σ H xs us Q I r h
  obtain ⟨x, d, rfl, hd, hs, hdp, hz, q⟩ := h
  obtain ⟨u, rfl, ru⟩ := vals1 r
  obtain ⟨as, rd, ha⟩ := RD.reads I.hok d x u hd ru
  have nsy : d.hasDict = true → sysModules ∉ as := fun _ hm => by
    obtain ⟨o, e⟩ := ha _ hm
    rw [I.nosys] at e; cases e
  have key : ∀ (a : Addr), u = .ref a → wpAny (model X.prog X.w) X.A (call (.builtin "repr") [u]) (EP X pins σ Q) X.xe s := fun a e => by
    subst e
    refine repr_of_reads' rd hs nsy hg (by omega) (fun _ _ e => e) (fun h' u tk hk => ?_) hz
    exact ⟨.str d.shown, H, I.kept (t' := tk) hk, ⟨u, rfl⟩, q⟩
  cases rd with
  | none =>
    simp only [PyData.shown] at q
    exact P.repr_of_none ⟨.str _, H, I.tok _, ⟨_, rfl⟩, q⟩
  | bool b =>
    simp only [PyData.shown] at q
    exact P.repr_of_bool ⟨.str _, H, I.tok _, ⟨_, rfl⟩, q⟩
  | int i t =>
    simp only [PyData.shown] at q
    exact P.repr_of_int (by simpa [PyData.showable] using hs) ⟨.str _, H, I.tok _, ⟨_, rfl⟩, q⟩
  | str z t =>
    simp only [PyData.shown] at q hz
    exact P.repr_of_str ⟨.str _, H, I.tok _, ⟨_, rfl⟩, q⟩ hz
  | list h1 h2 h3 h4 => exact key _ rfl
  | tuple h1 h2 h3 h4 => exact key _ rfl
  | dict h1 h2 h3 h4 h5 => exact key _ rfl
theorem r_reprR {H : Hp} {Q : VK} {x : V} {d : PyData} (hd : RD H d x) (hs : d.showable = true) (hp : d.depth ≤ 60) (hz : d.shown.length ≤ sizeLine) (h : Q (.str d.shown) H) : rReprR [x] H Q := ⟨x, d, rfl, hd, hs, hp, hz, h⟩
structure Sml (d : PyData) : Prop where
  sh : d.showable = true
  dp : d.depth ≤ 58
  lv : d.leavesShort 60 = true
  bk : d.bulk ≤ 10000
end L2

namespace L2
open PySem PySem.Spec PyProof.Rows
open PySem.Sem (wp)
section
variable {X : Cx} {pos : Pos} {σ : St} {H : Hp} {Q : VK} {K : PySem.W.Frag}
end
end L2

namespace L2
open PySem PySem.Spec PyProof.Rows
end L2

namespace L2
open PySem PySem.Spec PyProof.Rows
structure RoomU (k : Nat) (A : Around) : Prop where
  dp : A.depth + 3 * k + 5 < recursionLimit
  un : A.units + 16 * k + 200 < cLine
  gd : A.guards = some []
structure FnU (P : Program) (w : World) (K : PySem.W.Frag) (mg : Str → Option Value) (base : Heap) (k : Nat) (f : Addr) (fd : FuncData) (ps : List Str) (sp : Sp) : Prop where
  len : ∀ vs H Q E, sp vs H Q E → vs.length = ps.length
  run : ∀ (A : Around) (outer : List Env) (s : Shared) (H : Hp) (args : Args) (us : List Value) (vs : List V) (Q : VK) (E : XK), RoomU k A → Env0 P w K mg base A outer s H → BindsTo s fd args (ps.zip us) → Vals vs us → sp vs H Q E →
    codeAny (model P w) A (.call (.ref f) args) (CR CX0 outer P w H s Q E) s
end L2

namespace L2
open PySem PySem.Spec PyProof.Rows
section
variable {prog : Program} {w : World} {A : Around} {E : Value → Shared → Prop} {s : Shared} {K : PySem.W.Frag} {x C : Addr} {ox : Obj} {od : Option Obj}
theorem exc_classO {Q : Option Value → Shared → Prop} (c : XCl K C) (KI : K.In s.heap) (J : PySem.W.InstAt s.heap x ox C od) (h : Q (some (.ref C)) { s with toks := s.toks + 1 }) : wpAny (model prog w) A (getAttr? (.ref x) "__class__") Q E s := by
  obtain ⟨cd, hc, ho, hd⟩ := c.cls.ov
  have hf : PySem.W.findObj K C od "__class__" = some (.bind (.builtin "getset_descriptor.__get__") (.builtin "object.__class__")) := by
    have ha := c.ca
    have hg := c.cg
    have ht := c.ct
    unfold PySem.W.findObj
    rw [hc, Option.bind_some, ha, Option.bind_some]
    simp [hg, ht]
  obtain ⟨hh, g, dr, t, os⟩ := s
  have L0 := J.type (M := model prog w)
  have L1 := PySem.W.looks_findIn (M := model prog w) KI c.cls.ga
  have L2 := PySem.W.looks_findIn (M := model prog w) KI c.cls.gh
  have L3 := PySem.W.looks_find (M := model prog w) KI J hf
  have sub : PySem.W.Looks (model prog w) hh (isInstance (.ref x) (.type "BaseException")) true := L0.andThen (PySem.W.looks_mroIn KI c.cls.isExc)
  have hb0 : (onTheHeap (Value.ref C) && Value.builtin "BaseException.__getattribute__" == Value.builtin "object.__getattribute__") = false := by
    rw [show (Value.builtin "BaseException.__getattribute__" == Value.builtin "object.__getattribute__") = false from by decide +kernel, Bool.and_false]
  unfold getAttr? getAttrBy? getAttrBy
  refine wpAny_bind (wpAny_mkText (wpAny_bind (wpAny_attempt (wpAny_holding (wpAny_bind (L0.at (wpAny_bind (L1.at ?_))))))))
  dsimp only
  rw [hb0, if_neg Bool.false_ne_true]
  unfold getAttrByItsOwn hookBefore
  refine wpAny_bind ?_
  rw [if_pos (show onTheHeap (Value.ref C) = true from rfl)]
  refine L2.at ?_
  refine wpAny_bind (wpAny_attempt (wpAny_holding ?_))
  unfold callGetattribute
  rw [if_neg (show ¬ ((false && onTheHeap (Value.builtin "BaseException.__getattribute__")) = true) from by decide)]
  unfold boundAndCalled
  refine wpAny_bind (wpAny_of_eq (F.attrBase_ValueError.ga.bind (.ref x)) ?_)
  refine wpAny_call (codeAny_call_builtin F.attrBase_ValueError.ga.plain F.entry_bexc_ga (@PySem.W.check_slot (model prog w) _ _ ⟨hh, g, dr, t + 1, os⟩ "BaseException.__getattribute__" "BaseException" "__getattribute__" (.ref x) [.str "__class__" t] [] _ (by decide +kernel) (by decide +kernel) sub (F.args_bexc_ga (.ref x) (.str "__class__" t)) ?_))
  refine wpAny_bind (wpAny_pure (wpAny_bind (wpAny_pure (wpAny_bind (L0.at (wpAny_bind (L3.at ?_)))))))
  show wpAny _ _ (holding [.builtin "object.__class__"] (call (.builtin "getset_descriptor.__get__") [.builtin "object.__class__", .ref x, .ref C]) >>= ret) _ _ _
  refine wpAny_bind (wpAny_holding (wpAny_call (PySem.W.class_get (s := ⟨hh, g, dr, t + 1, os⟩) KI J c.cls.isObj ?_)))
  refine wpAny_pure ?_
  show wpAny _ _ (handedOut (.ref C)) _ _ _
  rw [PySem.W.handedOut_of rfl]
  exact wpAny_pure (wpAny_pure h)
theorem kitx_excO (c : XCl K C) : PySem.W.KitX K (.ref x) (.ref C) (fun h => PySem.W.InstAt h x ox C od) where
  ty := fun _ _ _ I => I.type
  it := fun _ _ X _ => by
    obtain ⟨cd, hc, _⟩ := c.cls.ov
    unfold PySem.W.clsIn at hc
    split at hc
    · rename_i a1 a2 a3 a4 ho
      intro A1 Q1 E1 s1 k q
      unfold isType loadHead
      exact wpAny_bind (wpAny_loadPart (k _ _ (X _ _ ho)) (wpAny_pure q))
    · cases hc
  ne := fun h tp dd its n sl X htp => by
    obtain ⟨cd, hc, _⟩ := c.cls.ov
    refine Bool.eq_false_iff.mpr fun q => ?_
    obtain rfl : C = tp := Value.ref.inj (beq_iff_eq.mp q)
    unfold PySem.W.clsIn at hc
    split at hc
    · rename_i a1 a2 a3 a4 ho
      cases (X _ _ ho).symm.trans htp
    · cases hc
  ca := fun X I k => exc_classO c X I k
end
noncomputable def IsE (H : Hp) (x C : Addr) : Prop := (∃ fs, IsX H x C fs) ∨ H x = some (excRaw x C)
theorem IsE.same {H H' : Hp} {x C : Addr} (h : IsE H x C) (s : Same H H') : IsE H' x C := by
  rcases h with ⟨fs, h⟩ | h
  · exact .inl ⟨fs, h.same s⟩
  · exact .inr (s _ _ h)
noncomputable def rIsiY (K : PySem.W.Frag) : List V → Hp → VK → Prop := fun xs H Q => ∃ x C b v c, xs = [.ref x, v] ∧ IsE H x C ∧ XCl K C ∧ clV v = some c ∧ PySem.W.kitOne K (.ref C) c = some b ∧ Q (.bl b) H
theorem call_isiY {X : Cx} {K : PySem.W.Frag} (hK : X.K = K) : CallR X (.builtin "isinstance") (rIsiY K) := by
  subst hK
  intro pins s σ H xs us Q I r h
  obtain ⟨x, C, b, v, c, rfl, ie, cl, ec, e, q⟩ := h
  rcases ie with ⟨fs, ix⟩ | hr
  · exact call_isiX rfl pins s σ H _ us Q I r ⟨.ref x, .ref C, b, .inr ⟨x, C, fs, rfl, ix, cl, rfl⟩, .inl ⟨v, c, rfl, ec, e⟩, q⟩
  · obtain ⟨u, u2, rfl, ru, rv⟩ := vals2 r
    obtain rfl := clV_of ec rv
    cases (show u = Value.ref x from ru)
    obtain ⟨t, hx⟩ := (I.hok x _ hr).1
    exact PySem.W.kia_one (kitx_excO (ox := XObj C none #[.ref t, .none, .none, .none, .bool false, .none]) (od := none) cl) I.kIn ⟨hx, rfl, rfl, trivial⟩ e (fun z => nomatch z) fun tk => ⟨.bl b, H, I.tok _, rfl, q⟩
theorem r_isiY {K : PySem.W.Frag} {H : Hp} {Q : VK} {x C : Addr} {v : V} {c : Value} {b : Bool} (ie : IsE H x C) (cl : XCl K C) (e : clV v = some c) (o : PySem.W.kitOne K (.ref C) c = some b) (h : Q (.bl b) H) : rIsiY K [.ref x, v] H Q := ⟨x, C, b, v, c, rfl, ie, cl, e, o, h⟩
section
variable {prog : Program} {w : World} {A : Around} {K : PySem.W.Frag} {D : Addr} {E : Value → Shared → Prop}
theorem type_call_x0 {h : Heap} {g : Array GenState} {d : Drawn} {t : Nat} {os : OsState} {us : List Value} {Q : Fin → Shared → Prop} (X : K.In h) (hx : xIn K D = true)
    (hi : PySem.W.findIn K (.ref D) "__init__" = some (some (.builtin "ValueError.__init__"))) (hl : us.length ≤ sizeLine)
    (hq : ∀ h' e, Heap.MadeExcOf h h' e (.ref D) us → e = h.objs.size + 1 → Q (.done (.ret (.ref e))) ⟨h', g, d, t, os⟩) :
    wpAny (model prog w) A (Builtin.«type.__call__» ⟨.ref D :: us, []⟩) Q E ⟨h, g, d, t, os⟩ := by
  obtain ⟨nm, qn, N, bs, bm, sn, sub, ab, col, dd, k0, k1, k2, k3, k5, lk0, tl⟩ := xIn_of hx
  have T := tl h X
  have hC := X _ _ lk0
  have L3 := PySem.W.looks_findIn (M := model prog w) X hi
  repeat (first | with_reducible refine wpAny_loadPart_at hC ?_ | with_reducible refine wpAny_madeBy_exc hC ?_ | wp_step)
  refine codeAny_call_builtin_code (Code.quiet_builtin _ F.excBase_ValueError.quiet) (wpAny_check_new_subT F.excBase_ValueError T hC (codeAny_exc_new_subT F.excBase_ValueError T hC ?_ hl))
  show wpAny _ _ _ _ _ _
  have keep : ∀ b o, h.get? b = some o → ((h.push { cls := .type "tuple", data := .seq us.toArray }).push { cls := .ref D, data := .fields #[.ref h.objs.size, .none, .none, .none, .bool false, .none] }).get? b = some o := fun b o q => Heap.get?_push_of_some _ (Heap.get?_push_of_some _ q)
  have hC₁ := keep _ _ hC
  have M3 := L3.keeps keep
  have hget : ((h.push { cls := .type "tuple", data := .seq us.toArray }).push
      { cls := .ref D, data := .fields #[.ref h.objs.size, .none, .none, .none, .bool false, .none] }).get? (h.objs.size + 1) = some
      { cls := .ref D, data := .fields #[.ref h.objs.size, .none, .none, .none, .bool false, .none] } := by heap_get
  have hcC : (Value.ref D :: bm).contains (.ref D) = true := by simp
  have T₁ := T.keeps keep
  unfold isInstance
  repeat (first | with_reducible refine wpAny_loadPart_at hget ?_ | (with_reducible refine wpAny_isSubtype_exc hC₁ ?_; rw [hcC]) | wp_step)
  show wpAny _ _ (typeLookup (.ref D) _) _ _ _
  refine M3.at ?_
  refine wpAny_holding (wpAny_bind (wpAny_of_eq (F.excBase_ValueError.init.bind _) ?_))
  refine wpAny_bind (wpAny_call (codeAny_call_builtin F.excBase_ValueError.init.plain F.excBase_ValueError.initEntry (wpAny_check_init_subT F.excBase_ValueError T₁ hC₁ hget rfl ?_)))
  wp_walk
  refine hq _ _ ⟨fun b o hb => ?_, Heap.get?_none_of_le (Nat.le_succ _), h.objs.size + 2, ?_, Heap.get?_none_of_le (by omega), ?_⟩ rfl
  · rw [Heap.get?_update_other _ _ (Nat.ne_of_gt (Nat.lt_succ_of_lt (Heap.lt_size hb)))]
    exact Heap.get?_push_of_some _ (Heap.get?_push_of_some _ (Heap.get?_push_of_some _ hb))
  · rw [Heap.get?_update_self _ (Heap.get?_push_of_some _ hget) rfl]
    simp only [Heap.size_push]
    rfl
  · rw [Heap.get?_update_other _ _ (show h.objs.size + 1 ≠ h.objs.size + 2 by omega)]
    exact Heap.get?_push_at (by simp only [Heap.size_push]) rfl
theorem call_x0 {s : Shared} {us : List Value} {Q : Value → Shared → Prop} (X : K.In s.heap) (hx : xIn K D = true)
    (hi : PySem.W.findIn K (.ref D) "__init__" = some (some (.builtin "ValueError.__init__"))) (hl : us.length ≤ sizeLine)
    (hq : ∀ h' e, Heap.MadeExcOf s.heap h' e (.ref D) us → e = s.heap.objs.size + 1 → Q (.ref e) { s with heap := h' }) : wpAny (model prog w) A (call (.ref D) us) Q E s := by
  obtain ⟨h, g, d, t, os⟩ := s
  obtain ⟨nm, qn, N, bs, bm, sn, sub, ab, col, dd, k0, k1, k2, k3, k5, lk0, tl⟩ := xIn_of hx
  have hD := X _ _ lk0
  have f1 := tc_lookup
  have f2 := tc_bind (.ref D)
  have hT : (⟨h, g, d, t, os⟩ : Shared).TypeIs (.ref D) "type" := ⟨_, hD, rfl⟩
  refine wpAny_call (codeAny_of_tree ?_)
  show wpAny _ _ (callAny (.ref D) _) _ _ _
  repeat (any_goals (first | assumption | with_reducible refine wpAny_loadPart_at hD ?_ | wp_step))
  refine ⟨rfl, codeAny_call_builtin_at (Code.quiet_builtin _ (by decide +kernel)) entry_typeCall (wpAny_check_type_call_sub hD (type_call_x0 X hx hi hl fun h' e hm he => ?_))⟩
  exact hq h' e hm he
end
structure X0 (K : PySem.W.Frag) (mg : Str → Option Value) (x : Str) : Prop where
  c : CTxt K mg x
  ini : PySem.W.findIn K (.ref (clsA mg x)) "__init__" = some (some (.builtin "ValueError.__init__"))
  kp : PySem.W.keepIn K (.ref (clsA mg x)) = true
theorem x0_mk {K : PySem.W.Frag} {mg : Str → Option Value} {h : Heap} (X : K.In h) (G : h.Ns mainGlobals mg) {x : Str} {C : Addr} (a : PySem.W.nsIn K mainGlobals x = some (some (.ref C))) (b : xclIn K C = true)
    (i : PySem.W.findIn K (.ref C) "__init__" = some (some (.builtin "ValueError.__init__"))) (k : PySem.W.keepIn K (.ref C) = true) : X0 K mg x := by
  have e := clsA_of (PySem.W.mg_of X G a)
  exact ⟨ct_mk X G a b, by rw [e]; exact i, by rw [e]; exact k⟩
noncomputable def tMk0 (C : Addr) (t : TA) : TE := fun σ H Q => t σ H fun vs H1 => vs.length ≤ sizeLine ∧ ∀ x, H1 x = none → Q (.ref x) (upd H1 x (excRaw x C))
noncomputable def tMkX (C : Addr) (fl : List Str) (t : TA) : TE := fun σ H Q => t σ H fun vs H1 => vs.length = fl.length ∧ vs.length ≤ sizeLine ∧ ∀ x H2, H1 x = none → Same H1 H2 → IsX H2 x C (fl.zip vs) → Q (.ref x) H2
section
variable {X : Cx} {x : Str} {p pos : Pos} {e : Expr} {es : List Expr} {t : TA}
theorem j_mk0 {K : PySem.W.Frag} (hK : X.K = K) (M : X0 K X.mg x) (hg : Gl X x) (ha : JA X (e :: es) t) (hdb : (x == ("__debug__" : Str)) = false) (h : autoParam ((e :: es).all notStar = true) L2.auto4._auto_1) :
    JE X (.Call (.Name x p) (e :: es) [] pos) (tMk0 (clsA X.mg x) t) := ⟨by
  subst hK
  simp only [List.all_cons, Bool.and_eq_true] at h
  intro pins s σ H Q I hq
  refine wpAny_Call_Name_kw (ld_glob I hg M.c.at_ ?_ hdb)
  refine PySem.W.callWith_K (h₀ := X.base) I.ok.mod.kin M.kp (thn (ha.run pos pins s σ H _ I hq) fun us s1 ⟨vs, H1, I1, r, hz, q⟩ => ⟨I1.kIn, ?_⟩) (se_cons h.1) (se_any h.2)
  refine call_x0 I1.kIn M.c.cl.cls.xi M.ini (by rw [List.nil_append, ← r.length]; exact hz) fun h' a hm ha => ?_
  obtain ⟨tt, ht, _, _⟩ := hm.there
  have hp : s1.heap.objs.size ≤ a := by rw [ha]; exact Nat.le_succ _
  exact ⟨.ref a, _, I1.laid (o := excRaw a (clsA X.mg x)) (t' := s1.toks) hm.keeps hp ⟨⟨tt, ht⟩, ⟨_, ht⟩, fun h1 h2 ⟨t, z⟩ kk => ⟨t, kk _ z⟩⟩, rfl, q a (I1.hok.fresh hp)⟩⟩
theorem j_mkX {k : Nat} {fl : List Str} (M : XMk X.prog X.w X.K X.mg X.base k x (clsA X.mg x) fl) (hr : Room (k + 1) X.A) (hg : Gl X x) (ha : JA X (e :: es) t) (hdb : (x == ("__debug__" : Str)) = false) (h : autoParam ((e :: es).all notStar = true) L2.auto4._auto_1) :
    JE X (.Call (.Name x p) (e :: es) [] pos) (tMkX (clsA X.mg x) fl t) := ⟨by
  simp only [List.all_cons, Bool.and_eq_true] at h
  intro pins s σ H Q I hq
  refine wpAny_Call_Name_kw (ld_glob I hg M.at_ ?_ hdb)
  refine PySem.W.callWith_K (h₀ := X.base) I.ok.mod.kin M.kp (thn (ha.run pos pins s σ H _ I hq) fun us s1 ⟨vs, H1, I1, r, hl, hz, q⟩ => ⟨I1.kIn, ?_⟩) (se_cons h.1) (se_any h.2)
  refine made_x M hr I1 r hl hz fun a d s2 z1 z2 ne I2 => ?_
  obtain ⟨w1, w2⟩ := raised_heap (C := clsA X.mg x) (fl := fl) (vs := vs) z1 z2 ne
  have e1 : (upd (upd (upd H1 a (excRaw a (clsA X.mg x))) a (excNew a (clsA X.mg x) d)) d (excD d (fl.zip vs))) a = some (excNew a (clsA X.mg x) d) := by rw [upd_ne (Ne.symm ne), upd_same]
  obtain ⟨tt, ht⟩ := excNew_of I2.hok e1
  have I3 := I2.write (x := a) (e := a) (o := excO a (clsA X.mg x) d) (t' := s2.toks) (h' := s2.heap) (by rw [e1]; exact True.intro) (.inl rfl) (fun b u _ z => z) ⟨_, ht⟩ (excO_ok ht rfl)
  exact ⟨.ref a, _, I3, rfl, q a _ z1 w1 w2⟩⟩
theorem r_mk0 {C : Addr} {σ : St} {H : Hp} {Q : VK} (h : t σ H fun vs H1 => vs.length ≤ sizeLine ∧ ∀ x, H1 x = none → Q (.ref x) (upd H1 x (excRaw x C))) : tMk0 C t σ H Q := h
theorem r_mkX {C : Addr} {fl : List Str} {σ : St} {H : Hp} {Q : VK} (h : t σ H fun vs H1 => vs.length = fl.length ∧ vs.length ≤ sizeLine ∧ ∀ x H2, H1 x = none → Same H1 H2 → IsX H2 x C (fl.zip vs) → Q (.ref x) H2) : tMkX C fl t σ H Q := h
end
end L2

namespace L2
open PySem PySem.Spec PyProof.Rows
open PySem.Sem (wp)
structure ZApart (z TI TO i1 i2 : Addr) (fp1 fp2 : List Addr) : Prop where
  TIz : TI ≠ z
  TOz : TO ≠ z
  i1z : i1 ≠ z
  i2z : i2 ≠ z
  TITO : TI ≠ TO
  TIi1 : TI ≠ i1
  TIi2 : TI ≠ i2
  TOi1 : TO ≠ i1
  TOi2 : TO ≠ i2
  i12 : i1 ≠ i2
  f1 : ∀ b ∈ fp1, b ≠ z ∧ b ≠ TO ∧ b ≠ i2
  f2 : ∀ b ∈ fp2, b ≠ z ∧ b ≠ TO ∧ b ≠ i1
section
variable {prog : Program} {w : World} {A : Around} {E : Value → Shared → Prop} {s : Shared} {z TI TO i1 i2 : Addr} {fp1 fp2 : List Addr} {n1 n2 k1 k2 : Nat} {P1 P2 : Nat → Value → Prop} {St1 St2 : Nat → Heap → Prop} {a b : Value}
end
end L2

namespace L2
open PySem PySem.Spec PyProof.Rows
open PySem.Sem (wp)
section
variable {σ : St} {H : Hp} {K : PySem.W.Frag}
end
end L2

namespace L2
open PySem PySem.Spec PyProof.Rows
open PySem.Sem (wp)
open AutoSeq1 (wpAny_loadPart')
section
variable {X : Cx}
end
section
variable {H : Hp} {Q : VK} {K : PySem.W.Frag}
end
end L2

namespace L2
open PySem PySem.W PySem.Spec PyProof.Rows
section
variable {g : Nat → Int} {N : Nat}
end
end L2

namespace L2
open PySem PySem.W PySem.Spec PyProof.Rows
section
variable {prog : Program} {w : World} {A : Around} {E : Value → Shared → Prop} {s : Shared}
end
end L2

namespace L2
open PySem PySem.W PySem.Spec PyProof.Rows
section
variable {prog : Program} {w : World} {A : Around} {E : Value → Shared → Prop} {s : Shared}
end
section
variable {X : Cx}
end
section
variable {H : Hp} {Q : VK}
end
end L2

namespace L2
open PySem PySem.Spec PyProof.Rows
open PySem.Sem (wp)
section
variable {prog : Program} {w : World} {A : Around} {E : Value → Shared → Prop} {s : Shared} {z TI TO i1 i2 : Addr} {fp1 fp2 : List Addr} {n1 n2 k1 k2 : Nat} {P1 P2 : Nat → Value → Prop} {St1 St2 : Nat → Heap → Prop} {a b f0 f1 : Value}
end
end L2

namespace L2
open PySem PySem.Spec PyProof.Rows
open PySem.Sem (wp)
open PySem.AutoSeq1 (wpAny_loadPart')
section
variable {prog : Program} {w : World} {A : Around} {E : Value → Shared → Prop} {s : Shared} {z TI TO i1 i2 e : Addr} {fp1 fp2 : List Addr} {n1 n2 k1 k2 : Nat} {P1 P2 : Nat → Value → Prop} {St1 St2 : Nat → Heap → Prop} {a b f0 f1 : Value}
end
structure EApart (e z TI TO i1 i2 a b : Addr) : Prop where
  Z : ZApart z TI TO i1 i2 [i1, a] [i2, b]
  ez : e ≠ z
  eTI : e ≠ TI
  eTO : e ≠ TO
  ei1 : e ≠ i1
  ei2 : e ≠ i2
  a1 : a ≠ i1
  b2 : b ≠ i2
end L2

namespace L2
open PySem PySem.Spec PyProof.Rows
open PySem.Sem (wp)
open PySem.AutoSeq1 (wpAny_loadPart')
section
variable {σ : St} {H : Hp} {K : PySem.W.Frag}
end
end L2

namespace L2
open PySem PySem.Spec PyProof.Rows
open PySem.Sem (wp)
section
variable {prog : Program} {w : World} {A : Around} {E : Value → Shared → Prop} {s : Shared}
end
structure TurnU (P : Program) (w : World) (K : PySem.W.Frag) (tg : Expr) (J : It) (fp : List Addr) (it : Addr) (tn : Nat → Heap → Prop) (xh : Addr) : Prop where
  mem : it ∈ fp
  obj : ∀ i h, tn i h → ∀ b ∈ fp, ∃ o, h.get? b = some o ∧ ∀ v, o.data ≠ .cell v
  keep : ∀ i h h', tn i h → (∀ b ∈ fp, ∀ o, h.get? b = some o → h'.get? b = some o) → tn i h'
  item : ∀ (X : Cx), X.prog = P → X.w = w → X.K = K → X.A.handled = some (.ref xh) → ∀ (i : Nat) (pins : List (Addr × Obj)) (s : Shared) (σ : St) (H : Hp) (E : Value → Shared → Prop), Inv X pins σ H s → (∀ b ∈ fp, FpOk X pins H b) → tn i s.heap → J.go i H →
    wpAny (model P w) X.A (pyNext (.ref it)) (fun r s1 => ∃ u, r = some u ∧
      wpAny (model P w) X.A (letOwnedTupleGo tg (.ref it) u) (fun _ s2 => ∃ x H', Inv X pins σ H' s2 ∧ RelV x u ∧ J.yld i H x H' ∧ tn (i + 1) s2.heap ∧ ∀ b ∈ fp, H' b = none) E s1) E s
  done : ∀ (X : Cx), X.prog = P → X.w = w → X.K = K → X.A.handled = some (.ref xh) → ∀ (i : Nat) (pins : List (Addr × Obj)) (s : Shared) (σ : St) (H : Hp) (E : Value → Shared → Prop), Inv X pins σ H s → (∀ b ∈ fp, FpOk X pins H b) → tn i s.heap → J.stop i H →
    wpAny (model P w) X.A (pyNext (.ref it)) (fun r s1 => r = none ∧ Inv X pins σ H s1) E s
  self : ∀ (A : Around) (i : Nat) (s : Shared) (Q : Value → Shared → Prop) (E : Value → Shared → Prop), tn i s.heap → Q (.ref it) s → wpAny (model P w) A (pyIter (.ref it)) Q E s
section
variable {X : Cx} {tg iter elt : Expr} {ifs : List Expr} {scope : Scope} {pos : Pos} {N' : List Str} {sub : List (Option Nat)} {wi : TI} {g : TG} {tt : TT} {te : TE}
end
structure FnV (P : Program) (w : World) (K : PySem.W.Frag) (mg : Str → Option Value) (base : Heap) (k : Nat) (f : Addr) (fd : FuncData) (ps : List Str) (sp : Addr → Sp) : Prop where
  len : ∀ xh vs H Q E, sp xh vs H Q E → vs.length = ps.length
  run : ∀ (A : Around) (outer : List Env) (s : Shared) (H : Hp) (args : Args) (us : List Value) (vs : List V) (Q : VK) (E : XK) (xh : Addr), A.handled = some (.ref xh) → RoomU k A → Env0 P w K mg base A outer s H → BindsTo s fd args (ps.zip us) → Vals vs us → sp xh vs H Q E →
    codeAny (model P w) A (.call (.ref f) args) (CR CX0 outer P w H s Q E) s
end L2

namespace L2
open PySem PySem.Spec PyProof.Rows
section
variable {X : Cx} {nm n : Str} {P : Addr} {i : Nat} {p pos : Pos} {b0 : Stmt} {suite : List Stmt} {ts : Addr → TS} {th : TH} {hs : List ExceptHandler}
variable {K : PySem.W.Frag} {x : Str}
end
end L2

namespace L2
open PySem PySem.Spec PyProof.Rows
section
variable {K : PySem.W.Frag} {σ : St} {H : Hp}
end
section
variable {X : Cx}
end
section
variable {K : PySem.W.Frag} {H : Hp} {Q : VK}
end
end L2

namespace My
open PySem L2
noncomputable def top (i : Nat) : Stmt := PySem.Challenge.pw_panethread_k07_refusals_apart.main.body.getD i (.Pass ⟨0, 0, 0, 0⟩)
noncomputable abbrev s_law_cell : Stmt := top 24
noncomputable abbrev s_law_purse : Stmt := top 25
noncomputable abbrev s_law_take : Stmt := top 26
noncomputable abbrev s_law_thing : Stmt := top 27
noncomputable abbrev s_law_made : Stmt := top 28
noncomputable abbrev s_law_kinds : Stmt := top 29
noncomputable abbrev s_law_fields : Stmt := top 30
noncomputable abbrev s_law : Stmt := top 31
noncomputable abbrev i_NoRow : Stmt := initOf (top 2)
noncomputable abbrev i_NoPlain : Stmt := initOf (top 3)
noncomputable abbrev i_NoNames : Stmt := initOf (top 4)
noncomputable abbrev i_NoLetter : Stmt := initOf (top 5)
noncomputable abbrev i_NoPlace : Stmt := initOf (top 6)
noncomputable abbrev i_NoSpan : Stmt := initOf (top 7)
noncomputable abbrev i_NoThread : Stmt := initOf (top 8)
noncomputable abbrev i_NoTurning : Stmt := initOf (top 9)
noncomputable abbrev i_NoCounts : Stmt := initOf (top 10)
noncomputable abbrev i_NoSteps : Stmt := initOf (top 11)
noncomputable abbrev i_NoCells : Stmt := initOf (top 12)
noncomputable abbrev i_NoWindow : Stmt := initOf (top 13)
noncomputable abbrev i_NoPiece : Stmt := initOf (top 14)
noncomputable abbrev i_Unlike : Stmt := initOf (top 15)
noncomputable abbrev i_TooLong : Stmt := initOf (top 16)
noncomputable abbrev i_NoChanges : Stmt := initOf (top 17)
noncomputable abbrev i_NoStretches : Stmt := initOf (top 18)
noncomputable abbrev i_NoPart : Stmt := initOf (top 19)
noncomputable abbrev i_NoNear : Stmt := initOf (top 20)
noncomputable abbrev i_NoTold : Stmt := initOf (top 21)
noncomputable abbrev i_NoWords : Stmt := initOf (top 22)
local macro_rules | `(tactic| walk_at "sts") => `(tactic| (with_reducible repeat (first | refine r_op ?_ | refine iteT ?_ | refine iteF ?_ | refine iteNF ?_ | refine r_var (by with_unfolding_all rfl) ?_ | refine r_C ?_ | refine r_i0 ?_ | refine r_addI ?_ | refine r_cons ?_ | refine r_nil ?_ | refine r_seq ?_ | refine r_asg ?_ | refine r_name ?_ | refine r_ret ?_ | refine r_next ?_ | refine r_if ?_ | refine r_test ?_ | refine r_bl ?_ | refine r_cb ?_ | refine r_call ?_ | refine r_tb ?_ | refine r_not ?_ | refine r_or ?_ | refine r_andV ?_ | refine r_sub ?_ | refine r_tup ?_ | refine r_lst ?_ | refine r_bm ?_ | refine r_sl ?_ | refine r_nop ?_ | refine r_part ?_ | refine r_true ?_ | refine r_rng1 ?_ | refine r_iseq ?_ | refine r_comp ?_ | refine r_for ?_ | refine r_pcons ?_ | refine r_pnil ?_ | refine r_gcons ?_ | refine r_gnil ?_ | refine r_gtup (SqT.of (by first | assumption | exact upd_same)) (by rfl) ?_ | refine r_fldX ?_ | refine r_ii ?_ | refine r_eqBI ?_ | refine r_neBS ?_ | refine r_intE ?_ | refine r_i (by with_unfolding_all first | assumption | omega | (dsimp only <;> omega) | exact ⟨by omega, by omega⟩ | exact .inl ⟨by omega, by omega⟩ | exact .inr ⟨by omega, by omega⟩ | exact ⟨by decide, by decide, by decide⟩) ?_ | refine r_mulI (by with_unfolding_all first | assumption | omega | (dsimp only <;> omega) | exact ⟨by omega, by omega⟩ | exact .inl ⟨by omega, by omega⟩ | exact .inr ⟨by omega, by omega⟩ | exact ⟨by decide, by decide, by decide⟩) ?_ | refine r_ixL (SqL.of (by first | assumption | exact upd_same)) (by with_unfolding_all rfl) ?_ | refine r_setL (by first | assumption | exact upd_same) (by with_unfolding_all rfl) ?_ | refine r_mkX ?_ | refine r_mk0 ?_)))
noncomputable def spCell (K : PySem.W.Frag) : Sp := fun vs H Q _ => ∃ (a : Addr) (ns : List Int) (k : Int), vs = [.ref a, .int k] ∧ SqL K H a (ns.map V.int) ∧ 0 ≤ k ∧ ∀ n, Q (.int n) H
noncomputable def spPurse : Sp := fun vs H Q _ => ∃ n : Int, vs = [.int n] ∧ ∀ p H', H p = none → Chg p H H' → Pur H' p → Q (.ref p) H'
noncomputable def spTake : Sp := fun vs H Q _ => ∃ (p : Addr) (n : Int), vs = [.ref p, .int n] ∧ Pur H p ∧ 0 < n ∧ n < 1606938044258990275541962092341162602522202993782792835301376 ∧ ∀ d H', 0 ≤ d → d < n → Pur H' p → Chg p H H' → Q (.int d) H'
noncomputable def nms : List Str := ["NoRow", "NoPlain", "NoNames", "NoLetter", "NoPlace", "NoThread", "NoTurning", "NoCounts", "NoSteps", "NoCells", "NoWindow", "NoPiece", "TooLong", "NoChanges", "NoStretches", "NoPart", "NoNear", "NoTold", "NoWords", "NoSpan", "Unlike", "PaneError"]
noncomputable def clsN (mg : Str → Option Value) (i : Nat) : Addr := clsA mg (nms.getD i "")
structure Kits (K : PySem.W.Frag) (mg : Str → Option Value) : Prop where
  kit : ∀ i j, i < 22 → j < 22 → PySem.W.kitOne K (.ref (clsN mg i)) (.ref (clsN mg j)) = some (decide (i = j) || decide (j = 21))
  val : ∀ i, i < 22 → PySem.W.kitOne K (.ref (clsN mg i)) (.type "ValueError") = some true
  cl : ∀ i, i < 22 → XCl K (clsN mg i)
noncomputable def kitsOk (K : PySem.W.Frag) (Cs : List Addr) : Bool := (List.range 22).all fun i => (PySem.W.kitOne K (.ref (Cs.getD i 0)) (.type "ValueError") == some true) && xclIn K (Cs.getD i 0) && (List.range 22).all fun j => PySem.W.kitOne K (.ref (Cs.getD i 0)) (.ref (Cs.getD j 0)) == some (decide (i = j) || decide (j = 21))
theorem kits_mk {K : PySem.W.Frag} {mg : Str → Option Value} {h : Heap} (X : K.In h) (G : h.Ns mainGlobals mg) {C0 C1 C2 C3 C4 C5 C6 C7 C8 C9 C10 C11 C12 C13 C14 C15 C16 C17 C18 C19 C20 C21 : Addr}
    (a0 : PySem.W.nsIn K mainGlobals "NoRow" = some (some (.ref C0)))
    (a1 : PySem.W.nsIn K mainGlobals "NoPlain" = some (some (.ref C1)))
    (a2 : PySem.W.nsIn K mainGlobals "NoNames" = some (some (.ref C2)))
    (a3 : PySem.W.nsIn K mainGlobals "NoLetter" = some (some (.ref C3)))
    (a4 : PySem.W.nsIn K mainGlobals "NoPlace" = some (some (.ref C4)))
    (a5 : PySem.W.nsIn K mainGlobals "NoThread" = some (some (.ref C5)))
    (a6 : PySem.W.nsIn K mainGlobals "NoTurning" = some (some (.ref C6)))
    (a7 : PySem.W.nsIn K mainGlobals "NoCounts" = some (some (.ref C7)))
    (a8 : PySem.W.nsIn K mainGlobals "NoSteps" = some (some (.ref C8)))
    (a9 : PySem.W.nsIn K mainGlobals "NoCells" = some (some (.ref C9)))
    (a10 : PySem.W.nsIn K mainGlobals "NoWindow" = some (some (.ref C10)))
    (a11 : PySem.W.nsIn K mainGlobals "NoPiece" = some (some (.ref C11)))
    (a12 : PySem.W.nsIn K mainGlobals "TooLong" = some (some (.ref C12)))
    (a13 : PySem.W.nsIn K mainGlobals "NoChanges" = some (some (.ref C13)))
    (a14 : PySem.W.nsIn K mainGlobals "NoStretches" = some (some (.ref C14)))
    (a15 : PySem.W.nsIn K mainGlobals "NoPart" = some (some (.ref C15)))
    (a16 : PySem.W.nsIn K mainGlobals "NoNear" = some (some (.ref C16)))
    (a17 : PySem.W.nsIn K mainGlobals "NoTold" = some (some (.ref C17)))
    (a18 : PySem.W.nsIn K mainGlobals "NoWords" = some (some (.ref C18)))
    (a19 : PySem.W.nsIn K mainGlobals "NoSpan" = some (some (.ref C19)))
    (a20 : PySem.W.nsIn K mainGlobals "Unlike" = some (some (.ref C20)))
    (a21 : PySem.W.nsIn K mainGlobals "PaneError" = some (some (.ref C21)))
    (o : kitsOk K [C0, C1, C2, C3, C4, C5, C6, C7, C8, C9, C10, C11, C12, C13, C14, C15, C16, C17, C18, C19, C20, C21] = true) : Kits K mg := by
  have key : ∀ i, i < 22 → clsN mg i = [C0, C1, C2, C3, C4, C5, C6, C7, C8, C9, C10, C11, C12, C13, C14, C15, C16, C17, C18, C19, C20, C21].getD i 0 := fun i hi => by
    have : i = 0 ∨ i = 1 ∨ i = 2 ∨ i = 3 ∨ i = 4 ∨ i = 5 ∨ i = 6 ∨ i = 7 ∨ i = 8 ∨ i = 9 ∨ i = 10 ∨ i = 11 ∨ i = 12 ∨ i = 13 ∨ i = 14 ∨ i = 15 ∨ i = 16 ∨ i = 17 ∨ i = 18 ∨ i = 19 ∨ i = 20 ∨ i = 21 := by omega
    rcases this with rfl | rfl | rfl | rfl | rfl | rfl | rfl | rfl | rfl | rfl | rfl | rfl | rfl | rfl | rfl | rfl | rfl | rfl | rfl | rfl | rfl | rfl
    · exact clsA_of (PySem.W.mg_of X G a0)
    · exact clsA_of (PySem.W.mg_of X G a1)
    · exact clsA_of (PySem.W.mg_of X G a2)
    · exact clsA_of (PySem.W.mg_of X G a3)
    · exact clsA_of (PySem.W.mg_of X G a4)
    · exact clsA_of (PySem.W.mg_of X G a5)
    · exact clsA_of (PySem.W.mg_of X G a6)
    · exact clsA_of (PySem.W.mg_of X G a7)
    · exact clsA_of (PySem.W.mg_of X G a8)
    · exact clsA_of (PySem.W.mg_of X G a9)
    · exact clsA_of (PySem.W.mg_of X G a10)
    · exact clsA_of (PySem.W.mg_of X G a11)
    · exact clsA_of (PySem.W.mg_of X G a12)
    · exact clsA_of (PySem.W.mg_of X G a13)
    · exact clsA_of (PySem.W.mg_of X G a14)
    · exact clsA_of (PySem.W.mg_of X G a15)
    · exact clsA_of (PySem.W.mg_of X G a16)
    · exact clsA_of (PySem.W.mg_of X G a17)
    · exact clsA_of (PySem.W.mg_of X G a18)
    · exact clsA_of (PySem.W.mg_of X G a19)
    · exact clsA_of (PySem.W.mg_of X G a20)
    · exact clsA_of (PySem.W.mg_of X G a21)
  unfold kitsOk at o
  rw [List.all_eq_true] at o
  have o' : ∀ i, i < 22 → _ := fun i hi => o i (List.mem_range.mpr hi)
  simp only [Bool.and_eq_true, beq_iff_eq, List.all_eq_true, List.mem_range] at o'
  refine ⟨fun i j hi hj => ?_, fun i hi => ?_, fun i hi => ?_⟩
  · rw [key i hi, key j hj]; exact (o' i hi).2 j hj
  · rw [key i hi]; exact (o' i hi).1.1
  · rw [key i hi]; exact xclIn_of (o' i hi).1.2
structure Txt (K : PySem.W.Frag) (mg : Str → Option Value) : Prop where
  b_ValueError : mg "ValueError" = none
  b_int : mg "int" = none
  b_isinstance : mg "isinstance" = none
  b_len : mg "len" = none
  b_max : mg "max" = none
  b_range : mg "range" = none
  b_repr : mg "repr" = none
  d_law_cell : Def K mg "_law_cell" s_law_cell
  d_law_purse : Def K mg "_law_purse" s_law_purse
  d_law_take : Def K mg "_law_take" s_law_take
  d_law_thing : Def K mg "_law_thing" s_law_thing
  d_law_made : Def K mg "_law_made" s_law_made
  d_law_kinds : Def K mg "_law_kinds" s_law_kinds
  d_law_fields : Def K mg "_law_fields" s_law_fields
  d_law : Def K mg "law" s_law
  x_PaneError : CTxt K mg "PaneError"
  x_NoRow : XTxt K mg "NoRow" ["found"] "NoRow.__init__" i_NoRow
  x_NoPlain : XTxt K mg "NoPlain" ["found"] "NoPlain.__init__" i_NoPlain
  x_NoNames : XTxt K mg "NoNames" ["found"] "NoNames.__init__" i_NoNames
  x_NoLetter : XTxt K mg "NoLetter" ["found"] "NoLetter.__init__" i_NoLetter
  x_NoPlace : XTxt K mg "NoPlace" ["found"] "NoPlace.__init__" i_NoPlace
  x_NoSpan : XTxt K mg "NoSpan" ["begin", "end"] "NoSpan.__init__" i_NoSpan
  x_NoThread : XTxt K mg "NoThread" ["found"] "NoThread.__init__" i_NoThread
  x_NoTurning : XTxt K mg "NoTurning" ["found"] "NoTurning.__init__" i_NoTurning
  x_NoCounts : XTxt K mg "NoCounts" ["found"] "NoCounts.__init__" i_NoCounts
  x_NoSteps : XTxt K mg "NoSteps" ["found"] "NoSteps.__init__" i_NoSteps
  x_NoCells : XTxt K mg "NoCells" ["found"] "NoCells.__init__" i_NoCells
  x_NoWindow : XTxt K mg "NoWindow" ["found"] "NoWindow.__init__" i_NoWindow
  x_NoPiece : XTxt K mg "NoPiece" ["found"] "NoPiece.__init__" i_NoPiece
  x_Unlike : XTxt K mg "Unlike" ["one", "other"] "Unlike.__init__" i_Unlike
  x_TooLong : XTxt K mg "TooLong" ["found"] "TooLong.__init__" i_TooLong
  x_NoChanges : XTxt K mg "NoChanges" ["found"] "NoChanges.__init__" i_NoChanges
  x_NoStretches : XTxt K mg "NoStretches" ["found"] "NoStretches.__init__" i_NoStretches
  x_NoPart : XTxt K mg "NoPart" ["found"] "NoPart.__init__" i_NoPart
  x_NoNear : XTxt K mg "NoNear" ["found"] "NoNear.__init__" i_NoNear
  x_NoTold : XTxt K mg "NoTold" ["found"] "NoTold.__init__" i_NoTold
  x_NoWords : XTxt K mg "NoWords" ["found"] "NoWords.__init__" i_NoWords
  kits : Kits K mg
  z_PaneError : X0 K mg "PaneError"
section
variable {P : Program} {w : World} {K : PySem.W.Frag} {mg : Str → Option Value} {base : Heap}
theorem ki_NoRow_self : (defScope i_NoRow).names.lookup ("self" : Str) = some NameKind.local := by decide +kernel
theorem ki_NoRow_found : (defScope i_NoRow).names.lookup ("found" : Str) = some NameKind.local := by decide +kernel
theorem ki_NoPlain_self : (defScope i_NoPlain).names.lookup ("self" : Str) = some NameKind.local := by decide +kernel
theorem ki_NoPlain_found : (defScope i_NoPlain).names.lookup ("found" : Str) = some NameKind.local := by decide +kernel
theorem ki_NoNames_self : (defScope i_NoNames).names.lookup ("self" : Str) = some NameKind.local := by decide +kernel
theorem ki_NoNames_found : (defScope i_NoNames).names.lookup ("found" : Str) = some NameKind.local := by decide +kernel
theorem ki_NoLetter_self : (defScope i_NoLetter).names.lookup ("self" : Str) = some NameKind.local := by decide +kernel
theorem ki_NoLetter_found : (defScope i_NoLetter).names.lookup ("found" : Str) = some NameKind.local := by decide +kernel
theorem ki_NoPlace_self : (defScope i_NoPlace).names.lookup ("self" : Str) = some NameKind.local := by decide +kernel
theorem ki_NoPlace_found : (defScope i_NoPlace).names.lookup ("found" : Str) = some NameKind.local := by decide +kernel
theorem ki_NoThread_self : (defScope i_NoThread).names.lookup ("self" : Str) = some NameKind.local := by decide +kernel
theorem ki_NoThread_found : (defScope i_NoThread).names.lookup ("found" : Str) = some NameKind.local := by decide +kernel
theorem ki_NoTurning_self : (defScope i_NoTurning).names.lookup ("self" : Str) = some NameKind.local := by decide +kernel
theorem ki_NoTurning_found : (defScope i_NoTurning).names.lookup ("found" : Str) = some NameKind.local := by decide +kernel
theorem ki_NoCounts_self : (defScope i_NoCounts).names.lookup ("self" : Str) = some NameKind.local := by decide +kernel
theorem ki_NoCounts_found : (defScope i_NoCounts).names.lookup ("found" : Str) = some NameKind.local := by decide +kernel
theorem ki_NoSteps_self : (defScope i_NoSteps).names.lookup ("self" : Str) = some NameKind.local := by decide +kernel
theorem ki_NoSteps_found : (defScope i_NoSteps).names.lookup ("found" : Str) = some NameKind.local := by decide +kernel
theorem ki_NoCells_self : (defScope i_NoCells).names.lookup ("self" : Str) = some NameKind.local := by decide +kernel
theorem ki_NoCells_found : (defScope i_NoCells).names.lookup ("found" : Str) = some NameKind.local := by decide +kernel
theorem ki_NoWindow_self : (defScope i_NoWindow).names.lookup ("self" : Str) = some NameKind.local := by decide +kernel
theorem ki_NoWindow_found : (defScope i_NoWindow).names.lookup ("found" : Str) = some NameKind.local := by decide +kernel
theorem ki_NoPiece_self : (defScope i_NoPiece).names.lookup ("self" : Str) = some NameKind.local := by decide +kernel
theorem ki_NoPiece_found : (defScope i_NoPiece).names.lookup ("found" : Str) = some NameKind.local := by decide +kernel
theorem ki_TooLong_self : (defScope i_TooLong).names.lookup ("self" : Str) = some NameKind.local := by decide +kernel
theorem ki_TooLong_found : (defScope i_TooLong).names.lookup ("found" : Str) = some NameKind.local := by decide +kernel
theorem ki_NoChanges_self : (defScope i_NoChanges).names.lookup ("self" : Str) = some NameKind.local := by decide +kernel
theorem ki_NoChanges_found : (defScope i_NoChanges).names.lookup ("found" : Str) = some NameKind.local := by decide +kernel
theorem ki_NoStretches_self : (defScope i_NoStretches).names.lookup ("self" : Str) = some NameKind.local := by decide +kernel
theorem ki_NoStretches_found : (defScope i_NoStretches).names.lookup ("found" : Str) = some NameKind.local := by decide +kernel
theorem ki_NoPart_self : (defScope i_NoPart).names.lookup ("self" : Str) = some NameKind.local := by decide +kernel
theorem ki_NoPart_found : (defScope i_NoPart).names.lookup ("found" : Str) = some NameKind.local := by decide +kernel
theorem ki_NoNear_self : (defScope i_NoNear).names.lookup ("self" : Str) = some NameKind.local := by decide +kernel
theorem ki_NoNear_found : (defScope i_NoNear).names.lookup ("found" : Str) = some NameKind.local := by decide +kernel
theorem ki_NoTold_self : (defScope i_NoTold).names.lookup ("self" : Str) = some NameKind.local := by decide +kernel
theorem ki_NoTold_found : (defScope i_NoTold).names.lookup ("found" : Str) = some NameKind.local := by decide +kernel
theorem ki_NoWords_self : (defScope i_NoWords).names.lookup ("self" : Str) = some NameKind.local := by decide +kernel
theorem ki_NoWords_found : (defScope i_NoWords).names.lookup ("found" : Str) = some NameKind.local := by decide +kernel
theorem ki_NoSpan_self : (defScope i_NoSpan).names.lookup ("self" : Str) = some NameKind.local := by decide +kernel
theorem ki_NoSpan_begin : (defScope i_NoSpan).names.lookup ("begin" : Str) = some NameKind.local := by decide +kernel
theorem ki_NoSpan_end : (defScope i_NoSpan).names.lookup ("end" : Str) = some NameKind.local := by decide +kernel
theorem ki_Unlike_self : (defScope i_Unlike).names.lookup ("self" : Str) = some NameKind.local := by decide +kernel
theorem ki_Unlike_one : (defScope i_Unlike).names.lookup ("one" : Str) = some NameKind.local := by decide +kernel
theorem ki_Unlike_other : (defScope i_Unlike).names.lookup ("other" : Str) = some NameKind.local := by decide +kernel
theorem k_law_cell__law_k : (defScope s_law_cell).names.lookup ("_law_k" : Str) = some NameKind.local := by decide +kernel
theorem k_law_cell_len : (defScope s_law_cell).names.lookup ("len" : Str) = some NameKind.globalImplicit := by decide +kernel
theorem k_law_cell__law_script : (defScope s_law_cell).names.lookup ("_law_script" : Str) = some NameKind.local := by decide +kernel
theorem k_law_purse__law_cell_here : (defScope s_law_purse).names.lookup ("_law_cell_here" : Str) = some NameKind.local := by decide +kernel
theorem k_law_purse_max : (defScope s_law_purse).names.lookup ("max" : Str) = some NameKind.globalImplicit := by decide +kernel
theorem k_law_take__law_number : (defScope s_law_take).names.lookup ("_law_number" : Str) = some NameKind.local := by decide +kernel
theorem k_law_take__law_many : (defScope s_law_take).names.lookup ("_law_many" : Str) = some NameKind.local := by decide +kernel
theorem k_law_take__law_purse_here : (defScope s_law_take).names.lookup ("_law_purse_here" : Str) = some NameKind.local := by decide +kernel
theorem k_law_take__law_digit : (defScope s_law_take).names.lookup ("_law_digit" : Str) = some NameKind.local := by decide +kernel
theorem sci_NoRow : FnScope ["self", "found"] ["self", "found"] (defScope i_NoRow) := ⟨rfl, rfl, rfl, by decide +kernel, rfl, by decide +kernel, by decide +kernel⟩
theorem mk_NoRow (T : Txt K mg) : XMk P w K mg base 1 "NoRow" (clsA mg "NoRow") ["found"] := mkX T.x_NoRow sci_NoRow (fun _ _ _ _ _ _ us hl => L2.usN2 (fun _ _ => rfl) us hl) rfl fun f cdv A outer s H vs Q E hr h => ⟨_, (jb_one (js_fldX (K := K) rfl (j_vL 0 ki_NoRow_self) (j_vL 1 ki_NoRow_found))), rd1 T.x_NoRow.c.cl.cls (T.x_NoRow.na _ (by simp)) h⟩
theorem sci_NoPlain : FnScope ["self", "found"] ["self", "found"] (defScope i_NoPlain) := ⟨rfl, rfl, rfl, by decide +kernel, rfl, by decide +kernel, by decide +kernel⟩
theorem mk_NoPlain (T : Txt K mg) : XMk P w K mg base 1 "NoPlain" (clsA mg "NoPlain") ["found"] := mkX T.x_NoPlain sci_NoPlain (fun _ _ _ _ _ _ us hl => L2.usN2 (fun _ _ => rfl) us hl) rfl fun f cdv A outer s H vs Q E hr h => ⟨_, (jb_one (js_fldX (K := K) rfl (j_vL 0 ki_NoPlain_self) (j_vL 1 ki_NoPlain_found))), rd1 T.x_NoPlain.c.cl.cls (T.x_NoPlain.na _ (by simp)) h⟩
theorem sci_NoNames : FnScope ["self", "found"] ["self", "found"] (defScope i_NoNames) := ⟨rfl, rfl, rfl, by decide +kernel, rfl, by decide +kernel, by decide +kernel⟩
theorem mk_NoNames (T : Txt K mg) : XMk P w K mg base 1 "NoNames" (clsA mg "NoNames") ["found"] := mkX T.x_NoNames sci_NoNames (fun _ _ _ _ _ _ us hl => L2.usN2 (fun _ _ => rfl) us hl) rfl fun f cdv A outer s H vs Q E hr h => ⟨_, (jb_one (js_fldX (K := K) rfl (j_vL 0 ki_NoNames_self) (j_vL 1 ki_NoNames_found))), rd1 T.x_NoNames.c.cl.cls (T.x_NoNames.na _ (by simp)) h⟩
theorem sci_NoLetter : FnScope ["self", "found"] ["self", "found"] (defScope i_NoLetter) := ⟨rfl, rfl, rfl, by decide +kernel, rfl, by decide +kernel, by decide +kernel⟩
theorem mk_NoLetter (T : Txt K mg) : XMk P w K mg base 1 "NoLetter" (clsA mg "NoLetter") ["found"] := mkX T.x_NoLetter sci_NoLetter (fun _ _ _ _ _ _ us hl => L2.usN2 (fun _ _ => rfl) us hl) rfl fun f cdv A outer s H vs Q E hr h => ⟨_, (jb_one (js_fldX (K := K) rfl (j_vL 0 ki_NoLetter_self) (j_vL 1 ki_NoLetter_found))), rd1 T.x_NoLetter.c.cl.cls (T.x_NoLetter.na _ (by simp)) h⟩
theorem sci_NoPlace : FnScope ["self", "found"] ["self", "found"] (defScope i_NoPlace) := ⟨rfl, rfl, rfl, by decide +kernel, rfl, by decide +kernel, by decide +kernel⟩
theorem mk_NoPlace (T : Txt K mg) : XMk P w K mg base 1 "NoPlace" (clsA mg "NoPlace") ["found"] := mkX T.x_NoPlace sci_NoPlace (fun _ _ _ _ _ _ us hl => L2.usN2 (fun _ _ => rfl) us hl) rfl fun f cdv A outer s H vs Q E hr h => ⟨_, (jb_one (js_fldX (K := K) rfl (j_vL 0 ki_NoPlace_self) (j_vL 1 ki_NoPlace_found))), rd1 T.x_NoPlace.c.cl.cls (T.x_NoPlace.na _ (by simp)) h⟩
theorem sci_NoThread : FnScope ["self", "found"] ["self", "found"] (defScope i_NoThread) := ⟨rfl, rfl, rfl, by decide +kernel, rfl, by decide +kernel, by decide +kernel⟩
theorem mk_NoThread (T : Txt K mg) : XMk P w K mg base 1 "NoThread" (clsA mg "NoThread") ["found"] := mkX T.x_NoThread sci_NoThread (fun _ _ _ _ _ _ us hl => L2.usN2 (fun _ _ => rfl) us hl) rfl fun f cdv A outer s H vs Q E hr h => ⟨_, (jb_one (js_fldX (K := K) rfl (j_vL 0 ki_NoThread_self) (j_vL 1 ki_NoThread_found))), rd1 T.x_NoThread.c.cl.cls (T.x_NoThread.na _ (by simp)) h⟩
theorem sci_NoTurning : FnScope ["self", "found"] ["self", "found"] (defScope i_NoTurning) := ⟨rfl, rfl, rfl, by decide +kernel, rfl, by decide +kernel, by decide +kernel⟩
theorem mk_NoTurning (T : Txt K mg) : XMk P w K mg base 1 "NoTurning" (clsA mg "NoTurning") ["found"] := mkX T.x_NoTurning sci_NoTurning (fun _ _ _ _ _ _ us hl => L2.usN2 (fun _ _ => rfl) us hl) rfl fun f cdv A outer s H vs Q E hr h => ⟨_, (jb_one (js_fldX (K := K) rfl (j_vL 0 ki_NoTurning_self) (j_vL 1 ki_NoTurning_found))), rd1 T.x_NoTurning.c.cl.cls (T.x_NoTurning.na _ (by simp)) h⟩
theorem sci_NoCounts : FnScope ["self", "found"] ["self", "found"] (defScope i_NoCounts) := ⟨rfl, rfl, rfl, by decide +kernel, rfl, by decide +kernel, by decide +kernel⟩
theorem mk_NoCounts (T : Txt K mg) : XMk P w K mg base 1 "NoCounts" (clsA mg "NoCounts") ["found"] := mkX T.x_NoCounts sci_NoCounts (fun _ _ _ _ _ _ us hl => L2.usN2 (fun _ _ => rfl) us hl) rfl fun f cdv A outer s H vs Q E hr h => ⟨_, (jb_one (js_fldX (K := K) rfl (j_vL 0 ki_NoCounts_self) (j_vL 1 ki_NoCounts_found))), rd1 T.x_NoCounts.c.cl.cls (T.x_NoCounts.na _ (by simp)) h⟩
theorem sci_NoSteps : FnScope ["self", "found"] ["self", "found"] (defScope i_NoSteps) := ⟨rfl, rfl, rfl, by decide +kernel, rfl, by decide +kernel, by decide +kernel⟩
theorem mk_NoSteps (T : Txt K mg) : XMk P w K mg base 1 "NoSteps" (clsA mg "NoSteps") ["found"] := mkX T.x_NoSteps sci_NoSteps (fun _ _ _ _ _ _ us hl => L2.usN2 (fun _ _ => rfl) us hl) rfl fun f cdv A outer s H vs Q E hr h => ⟨_, (jb_one (js_fldX (K := K) rfl (j_vL 0 ki_NoSteps_self) (j_vL 1 ki_NoSteps_found))), rd1 T.x_NoSteps.c.cl.cls (T.x_NoSteps.na _ (by simp)) h⟩
theorem sci_NoCells : FnScope ["self", "found"] ["self", "found"] (defScope i_NoCells) := ⟨rfl, rfl, rfl, by decide +kernel, rfl, by decide +kernel, by decide +kernel⟩
theorem mk_NoCells (T : Txt K mg) : XMk P w K mg base 1 "NoCells" (clsA mg "NoCells") ["found"] := mkX T.x_NoCells sci_NoCells (fun _ _ _ _ _ _ us hl => L2.usN2 (fun _ _ => rfl) us hl) rfl fun f cdv A outer s H vs Q E hr h => ⟨_, (jb_one (js_fldX (K := K) rfl (j_vL 0 ki_NoCells_self) (j_vL 1 ki_NoCells_found))), rd1 T.x_NoCells.c.cl.cls (T.x_NoCells.na _ (by simp)) h⟩
theorem sci_NoWindow : FnScope ["self", "found"] ["self", "found"] (defScope i_NoWindow) := ⟨rfl, rfl, rfl, by decide +kernel, rfl, by decide +kernel, by decide +kernel⟩
theorem mk_NoWindow (T : Txt K mg) : XMk P w K mg base 1 "NoWindow" (clsA mg "NoWindow") ["found"] := mkX T.x_NoWindow sci_NoWindow (fun _ _ _ _ _ _ us hl => L2.usN2 (fun _ _ => rfl) us hl) rfl fun f cdv A outer s H vs Q E hr h => ⟨_, (jb_one (js_fldX (K := K) rfl (j_vL 0 ki_NoWindow_self) (j_vL 1 ki_NoWindow_found))), rd1 T.x_NoWindow.c.cl.cls (T.x_NoWindow.na _ (by simp)) h⟩
theorem sci_NoPiece : FnScope ["self", "found"] ["self", "found"] (defScope i_NoPiece) := ⟨rfl, rfl, rfl, by decide +kernel, rfl, by decide +kernel, by decide +kernel⟩
theorem mk_NoPiece (T : Txt K mg) : XMk P w K mg base 1 "NoPiece" (clsA mg "NoPiece") ["found"] := mkX T.x_NoPiece sci_NoPiece (fun _ _ _ _ _ _ us hl => L2.usN2 (fun _ _ => rfl) us hl) rfl fun f cdv A outer s H vs Q E hr h => ⟨_, (jb_one (js_fldX (K := K) rfl (j_vL 0 ki_NoPiece_self) (j_vL 1 ki_NoPiece_found))), rd1 T.x_NoPiece.c.cl.cls (T.x_NoPiece.na _ (by simp)) h⟩
theorem sci_TooLong : FnScope ["self", "found"] ["self", "found"] (defScope i_TooLong) := ⟨rfl, rfl, rfl, by decide +kernel, rfl, by decide +kernel, by decide +kernel⟩
theorem mk_TooLong (T : Txt K mg) : XMk P w K mg base 1 "TooLong" (clsA mg "TooLong") ["found"] := mkX T.x_TooLong sci_TooLong (fun _ _ _ _ _ _ us hl => L2.usN2 (fun _ _ => rfl) us hl) rfl fun f cdv A outer s H vs Q E hr h => ⟨_, (jb_one (js_fldX (K := K) rfl (j_vL 0 ki_TooLong_self) (j_vL 1 ki_TooLong_found))), rd1 T.x_TooLong.c.cl.cls (T.x_TooLong.na _ (by simp)) h⟩
theorem sci_NoChanges : FnScope ["self", "found"] ["self", "found"] (defScope i_NoChanges) := ⟨rfl, rfl, rfl, by decide +kernel, rfl, by decide +kernel, by decide +kernel⟩
theorem mk_NoChanges (T : Txt K mg) : XMk P w K mg base 1 "NoChanges" (clsA mg "NoChanges") ["found"] := mkX T.x_NoChanges sci_NoChanges (fun _ _ _ _ _ _ us hl => L2.usN2 (fun _ _ => rfl) us hl) rfl fun f cdv A outer s H vs Q E hr h => ⟨_, (jb_one (js_fldX (K := K) rfl (j_vL 0 ki_NoChanges_self) (j_vL 1 ki_NoChanges_found))), rd1 T.x_NoChanges.c.cl.cls (T.x_NoChanges.na _ (by simp)) h⟩
theorem sci_NoStretches : FnScope ["self", "found"] ["self", "found"] (defScope i_NoStretches) := ⟨rfl, rfl, rfl, by decide +kernel, rfl, by decide +kernel, by decide +kernel⟩
theorem mk_NoStretches (T : Txt K mg) : XMk P w K mg base 1 "NoStretches" (clsA mg "NoStretches") ["found"] := mkX T.x_NoStretches sci_NoStretches (fun _ _ _ _ _ _ us hl => L2.usN2 (fun _ _ => rfl) us hl) rfl fun f cdv A outer s H vs Q E hr h => ⟨_, (jb_one (js_fldX (K := K) rfl (j_vL 0 ki_NoStretches_self) (j_vL 1 ki_NoStretches_found))), rd1 T.x_NoStretches.c.cl.cls (T.x_NoStretches.na _ (by simp)) h⟩
theorem sci_NoPart : FnScope ["self", "found"] ["self", "found"] (defScope i_NoPart) := ⟨rfl, rfl, rfl, by decide +kernel, rfl, by decide +kernel, by decide +kernel⟩
theorem mk_NoPart (T : Txt K mg) : XMk P w K mg base 1 "NoPart" (clsA mg "NoPart") ["found"] := mkX T.x_NoPart sci_NoPart (fun _ _ _ _ _ _ us hl => L2.usN2 (fun _ _ => rfl) us hl) rfl fun f cdv A outer s H vs Q E hr h => ⟨_, (jb_one (js_fldX (K := K) rfl (j_vL 0 ki_NoPart_self) (j_vL 1 ki_NoPart_found))), rd1 T.x_NoPart.c.cl.cls (T.x_NoPart.na _ (by simp)) h⟩
theorem sci_NoNear : FnScope ["self", "found"] ["self", "found"] (defScope i_NoNear) := ⟨rfl, rfl, rfl, by decide +kernel, rfl, by decide +kernel, by decide +kernel⟩
theorem mk_NoNear (T : Txt K mg) : XMk P w K mg base 1 "NoNear" (clsA mg "NoNear") ["found"] := mkX T.x_NoNear sci_NoNear (fun _ _ _ _ _ _ us hl => L2.usN2 (fun _ _ => rfl) us hl) rfl fun f cdv A outer s H vs Q E hr h => ⟨_, (jb_one (js_fldX (K := K) rfl (j_vL 0 ki_NoNear_self) (j_vL 1 ki_NoNear_found))), rd1 T.x_NoNear.c.cl.cls (T.x_NoNear.na _ (by simp)) h⟩
theorem sci_NoTold : FnScope ["self", "found"] ["self", "found"] (defScope i_NoTold) := ⟨rfl, rfl, rfl, by decide +kernel, rfl, by decide +kernel, by decide +kernel⟩
theorem mk_NoTold (T : Txt K mg) : XMk P w K mg base 1 "NoTold" (clsA mg "NoTold") ["found"] := mkX T.x_NoTold sci_NoTold (fun _ _ _ _ _ _ us hl => L2.usN2 (fun _ _ => rfl) us hl) rfl fun f cdv A outer s H vs Q E hr h => ⟨_, (jb_one (js_fldX (K := K) rfl (j_vL 0 ki_NoTold_self) (j_vL 1 ki_NoTold_found))), rd1 T.x_NoTold.c.cl.cls (T.x_NoTold.na _ (by simp)) h⟩
theorem sci_NoWords : FnScope ["self", "found"] ["self", "found"] (defScope i_NoWords) := ⟨rfl, rfl, rfl, by decide +kernel, rfl, by decide +kernel, by decide +kernel⟩
theorem mk_NoWords (T : Txt K mg) : XMk P w K mg base 1 "NoWords" (clsA mg "NoWords") ["found"] := mkX T.x_NoWords sci_NoWords (fun _ _ _ _ _ _ us hl => L2.usN2 (fun _ _ => rfl) us hl) rfl fun f cdv A outer s H vs Q E hr h => ⟨_, (jb_one (js_fldX (K := K) rfl (j_vL 0 ki_NoWords_self) (j_vL 1 ki_NoWords_found))), rd1 T.x_NoWords.c.cl.cls (T.x_NoWords.na _ (by simp)) h⟩
theorem sci_NoSpan : FnScope ["self", "begin", "end"] ["self", "begin", "end"] (defScope i_NoSpan) := ⟨rfl, rfl, rfl, by decide +kernel, rfl, by decide +kernel, by decide +kernel⟩
theorem mk_NoSpan (T : Txt K mg) : XMk P w K mg base 1 "NoSpan" (clsA mg "NoSpan") ["begin", "end"] := mkX T.x_NoSpan sci_NoSpan (fun _ _ _ _ _ _ us hl => L2.usN3 (fun _ _ _ => rfl) us hl) rfl fun f cdv A outer s H vs Q E hr h => ⟨_, (jb_cons (js_fldX (K := K) rfl (j_vL 0 ki_NoSpan_self) (j_vL 1 ki_NoSpan_begin)) (jb_one (js_fldX (K := K) rfl (j_vL 0 ki_NoSpan_self) (j_vL 2 ki_NoSpan_end)))), rd2 T.x_NoSpan.c.cl.cls (T.x_NoSpan.na _ (by simp)) (T.x_NoSpan.na _ (by simp)) (by decide) h⟩
theorem sci_Unlike : FnScope ["self", "one", "other"] ["self", "one", "other"] (defScope i_Unlike) := ⟨rfl, rfl, rfl, by decide +kernel, rfl, by decide +kernel, by decide +kernel⟩
theorem mk_Unlike (T : Txt K mg) : XMk P w K mg base 1 "Unlike" (clsA mg "Unlike") ["one", "other"] := mkX T.x_Unlike sci_Unlike (fun _ _ _ _ _ _ us hl => L2.usN3 (fun _ _ _ => rfl) us hl) rfl fun f cdv A outer s H vs Q E hr h => ⟨_, (jb_cons (js_fldX (K := K) rfl (j_vL 0 ki_Unlike_self) (j_vL 1 ki_Unlike_one)) (jb_one (js_fldX (K := K) rfl (j_vL 0 ki_Unlike_self) (j_vL 2 ki_Unlike_other)))), rd2 T.x_Unlike.c.cl.cls (T.x_Unlike.na _ (by simp)) (T.x_Unlike.na _ (by simp)) (by decide) h⟩
theorem sc_law_cell : FnScope ["_law_script", "_law_k"] ["_law_script", "_law_k"] (defScope s_law_cell) := ⟨rfl, rfl, rfl, by decide +kernel, rfl, by decide +kernel, by decide +kernel⟩
theorem h_law_cell (T : Txt K mg) : Has P w K mg base 1 "_law_cell" ["_law_script", "_law_k"] (spCell K) := by
  refine hasJ T.d_law_cell sc_law_cell (fun _ _ _ _ _ _ us hl => L2.usN2 (fun _ _ => rfl) us hl) ?_ fun f cdv A outer s H vs Q E hr h => ?_
  · rintro vs H Q E ⟨a, ns, k, rfl, _⟩; rfl
  obtain ⟨a, ns, k, rfl, hS, h0, q⟩ := h
  refine ⟨_, (jb_cons (js_if (jt_cmp op_lt (j_vL 1 k_law_cell__law_k) (j_callB (call_lenK (K := K) rfl) (glF k_law_cell_len) T.b_len bt_len (ja_cons (j_vL 0 k_law_cell__law_script) ja_nil) (by decide +kernel) (by decide +kernel)) (by first | exact nomark _ | with_unfolding_all rfl)) (jb_one (js_ret (j_ix (K := K) rfl (j_vL 0 k_law_cell__law_script) (j_vL 1 k_law_cell__law_k)))) jb_nil) (jb_one (js_ret (j_op op_addA (j_op op_mulA j_int (j_vL 1 k_law_cell__law_k)) j_int)))), ?_⟩
  walk_at "sts"
  refine ⟨_, _, rfl, .inl ⟨_, hS, rfl⟩, ?_⟩
  walk_at "sts"
  refine iteD (fun hk => ?_) (fun hk => ?_)
  · rw [List.length_map] at hk
    walk_at "sts"
    refine r_ixL hS (atI_int (v := .int (ns.getD k.toNat 0)) h0 ?_) (q _)
    rw [List.getElem?_map, List.getD_eq_getElem?_getD, List.getElem?_eq_getElem (by omega)]; rfl
  · walk_at "sts"
    exact q _
theorem sc_law_purse : FnScope ["_law_cell_here"] ["_law_cell_here"] (defScope s_law_purse) := ⟨rfl, rfl, rfl, by decide +kernel, rfl, by decide +kernel, by decide +kernel⟩
theorem h_law_purse (T : Txt K mg) : Has P w K mg base 1 "_law_purse" ["_law_cell_here"] spPurse := by
  refine hasJ T.d_law_purse sc_law_purse (fun _ _ _ _ _ _ us hl => L2.usN1 (fun _ => rfl) us hl) ?_ fun f cdv A outer s H vs Q E hr h => ?_
  · rintro vs H Q E ⟨a, rfl, _⟩; rfl
  obtain ⟨n, rfl, q⟩ := h
  refine ⟨_, (jb_one (js_ret (j_lst (ja_cons (j_callB (call_max2 rfl) (glF k_law_purse_max) T.b_max bt_max (ja_cons j_int (ja_cons (j_op op_sub (j_vL 0 k_law_purse__law_cell_here) (j_op op_pow j_int j_int)) ja_nil)) (by decide +kernel) (by decide +kernel)) (ja_cons (j_op op_mod (j_vL 0 k_law_purse__law_cell_here) j_int) (ja_cons j_int ja_nil)))))), ?_⟩
  walk_at "sts"
  refine ⟨by simp; decide, fun p hp => q p _ hp ((Chg.refl p H).new hp) ⟨_, _, _, upd_same, ?_, ?_, ?_⟩⟩
  · split <;> omega
  · omega
  · omega
theorem sc_law_take : FnScope ["_law_purse_here", "_law_many", "_law_digit", "_law_number"] ["_law_purse_here", "_law_many"] (defScope s_law_take) := ⟨rfl, rfl, rfl, by decide +kernel, rfl, by decide +kernel, by decide +kernel⟩
theorem h_law_take (T : Txt K mg) : Has P w K mg base 1 "_law_take" ["_law_purse_here", "_law_many"] spTake := by
  refine hasJ T.d_law_take sc_law_take (fun _ _ _ _ _ _ us hl => L2.usN2 (fun _ _ => rfl) us hl) ?_ fun f cdv A outer s H vs Q E hr h => ?_
  · rintro vs H Q E ⟨a, n, rfl, _⟩; rfl
  obtain ⟨p, n, rfl, ⟨a, b, c, hp, ha, hb, hb2⟩, hn, hn2, q⟩ := h
  refine ⟨_, (jb_cons (js_asgS (ts := rSetL) (j_op op_addA (j_ix (K := K) rfl (j_vL 0 k_law_take__law_purse_here) j_int) j_int) (jg_sub (j_vL 0 k_law_take__law_purse_here) j_int set_list)) (jb_cons (js_if (jt_cmp op_gt (j_ix (K := K) rfl (j_vL 0 k_law_take__law_purse_here) j_int) j_int (by first | exact nomark _ | with_unfolding_all rfl)) (jb_cons (js_set (i := 2) sc_law_take.nd rfl (Or.inl k_law_take__law_digit) (j_op op_mod (j_ix (K := K) rfl (j_vL 0 k_law_take__law_purse_here) j_int) (j_vL 1 k_law_take__law_many)) rfl) (jb_cons (js_asgS (ts := rSetL) (j_op op_fdivW (j_ix (K := K) rfl (j_vL 0 k_law_take__law_purse_here) j_int) (j_vL 1 k_law_take__law_many)) (jg_sub (j_vL 0 k_law_take__law_purse_here) j_int set_list)) (jb_one (js_ret (j_vL 2 k_law_take__law_digit))))) jb_nil) (jb_cons (js_set (i := 3) sc_law_take.nd rfl (Or.inl k_law_take__law_number) (j_op op_mod (j_op op_addA (j_op op_addA (j_op op_mulA (j_ix (K := K) rfl (j_vL 0 k_law_take__law_purse_here) j_int) j_int) (j_op op_mulA j_int (j_ix (K := K) rfl (j_vL 0 k_law_take__law_purse_here) j_int))) j_int) j_int) rfl) (jb_cons (js_set (i := 3) sc_law_take.nd rfl (Or.inl k_law_take__law_number) (j_op op_mod (j_op op_mulA (j_vL 3 k_law_take__law_number) (j_vL 3 k_law_take__law_number)) j_int) rfl) (jb_cons (js_set (i := 3) sc_law_take.nd rfl (Or.inl k_law_take__law_number) (j_op op_mod (j_op op_mulA (j_op op_addA (j_vL 3 k_law_take__law_number) (j_op op_mulA j_int (j_ix (K := K) rfl (j_vL 0 k_law_take__law_purse_here) j_int))) j_int) j_int) rfl) (jb_one (js_ret (j_op op_mod (j_op op_fdivW (j_op op_mod (j_op op_mulA (j_vL 3 k_law_take__law_number) (j_vL 3 k_law_take__law_number)) j_int) j_int) (j_vL 1 k_law_take__law_many))))))))), ?_⟩
  walk_at "sts"
  refine iteD (fun h1 => ?_) (fun h1 => ?_)
  · walk_at "sts"
    refine q _ _ (Int.emod_nonneg _ (by omega)) (Int.emod_lt_of_pos _ hn) ⟨_, _, _, upd_same, Int.ediv_nonneg ha (by omega), hb, hb2⟩ fun b' o hb' e => ?_
    rw [upd_ne hb', upd_ne hb']; exact e
  · walk_at "sts"
    refine q _ _ (Int.emod_nonneg _ (by omega)) (Int.emod_lt_of_pos _ hn) ⟨_, _, _, upd_same, ha, hb, hb2⟩ fun b' o hb' e => ?_
    rw [upd_ne hb']; exact e
end

section
variable {P : Program} {w : World} {K : PySem.W.Frag} {mg : Str → Option Value} {base : Heap}
theorem k_law_kinds__law_found : (defScope s_law_kinds).names.lookup ("_law_found" : Str) = some NameKind.local := by decide +kernel
theorem k_law_kinds_isinstance : (defScope s_law_kinds).names.lookup ("isinstance" : Str) = some NameKind.globalImplicit := by decide +kernel
theorem k_law_kinds_Unlike : (defScope s_law_kinds).names.lookup ("Unlike" : Str) = some NameKind.globalImplicit := by decide +kernel
theorem k_law_kinds__law_e : (defScope s_law_kinds).names.lookup ("_law_e" : Str) = some NameKind.local := by decide +kernel
theorem k_law_kinds_NoSpan : (defScope s_law_kinds).names.lookup ("NoSpan" : Str) = some NameKind.globalImplicit := by decide +kernel
theorem k_law_kinds_NoWords : (defScope s_law_kinds).names.lookup ("NoWords" : Str) = some NameKind.globalImplicit := by decide +kernel
theorem k_law_kinds_NoTold : (defScope s_law_kinds).names.lookup ("NoTold" : Str) = some NameKind.globalImplicit := by decide +kernel
theorem k_law_kinds_NoNear : (defScope s_law_kinds).names.lookup ("NoNear" : Str) = some NameKind.globalImplicit := by decide +kernel
theorem k_law_kinds_NoPart : (defScope s_law_kinds).names.lookup ("NoPart" : Str) = some NameKind.globalImplicit := by decide +kernel
theorem k_law_kinds_NoStretches : (defScope s_law_kinds).names.lookup ("NoStretches" : Str) = some NameKind.globalImplicit := by decide +kernel
theorem k_law_kinds_NoChanges : (defScope s_law_kinds).names.lookup ("NoChanges" : Str) = some NameKind.globalImplicit := by decide +kernel
theorem k_law_kinds_TooLong : (defScope s_law_kinds).names.lookup ("TooLong" : Str) = some NameKind.globalImplicit := by decide +kernel
theorem k_law_kinds_NoPiece : (defScope s_law_kinds).names.lookup ("NoPiece" : Str) = some NameKind.globalImplicit := by decide +kernel
theorem k_law_kinds_NoWindow : (defScope s_law_kinds).names.lookup ("NoWindow" : Str) = some NameKind.globalImplicit := by decide +kernel
theorem k_law_kinds_NoCells : (defScope s_law_kinds).names.lookup ("NoCells" : Str) = some NameKind.globalImplicit := by decide +kernel
theorem k_law_kinds_NoSteps : (defScope s_law_kinds).names.lookup ("NoSteps" : Str) = some NameKind.globalImplicit := by decide +kernel
theorem k_law_kinds_NoCounts : (defScope s_law_kinds).names.lookup ("NoCounts" : Str) = some NameKind.globalImplicit := by decide +kernel
theorem k_law_kinds_NoTurning : (defScope s_law_kinds).names.lookup ("NoTurning" : Str) = some NameKind.globalImplicit := by decide +kernel
theorem k_law_kinds_NoThread : (defScope s_law_kinds).names.lookup ("NoThread" : Str) = some NameKind.globalImplicit := by decide +kernel
theorem k_law_kinds_NoPlace : (defScope s_law_kinds).names.lookup ("NoPlace" : Str) = some NameKind.globalImplicit := by decide +kernel
theorem k_law_kinds_NoLetter : (defScope s_law_kinds).names.lookup ("NoLetter" : Str) = some NameKind.globalImplicit := by decide +kernel
theorem k_law_kinds_NoNames : (defScope s_law_kinds).names.lookup ("NoNames" : Str) = some NameKind.globalImplicit := by decide +kernel
theorem k_law_kinds_NoPlain : (defScope s_law_kinds).names.lookup ("NoPlain" : Str) = some NameKind.globalImplicit := by decide +kernel
theorem k_law_kinds_NoRow : (defScope s_law_kinds).names.lookup ("NoRow" : Str) = some NameKind.globalImplicit := by decide +kernel
theorem bt_ValueError : bootBuiltins "ValueError" = some (.type "ValueError") := by first | rfl | kernel_rfl
noncomputable def flds (k : Nat) (t u : V) : List (Str × V) := if k < 19 then [("found", t)] else if k = 19 then [("begin", t), ("end", u)] else [("one", t), ("other", u)]
noncomputable def spKinds (K : PySem.W.Frag) (mg : Str → Option Value) : Sp := fun vs H Q _ => ∃ (x : Addr) (i : Nat), vs = [.ref x] ∧ i < 22 ∧ IsE H x (clsN mg i) ∧
  ∀ (r : Addr) (H' : Hp), H r = none → Same H H' → H' r = some (.lst (((List.range 21).map fun j => decide (i = j)).map V.bl)) → Q (.ref r) H'
theorem sc_law_kinds : FnScope ["_law_e", "_law_found"] ["_law_e"] (defScope s_law_kinds) := ⟨rfl, rfl, rfl, by decide +kernel, rfl, by decide +kernel, by decide +kernel⟩
theorem h_law_kinds (T : Txt K mg) : Has P w K mg base 1 "_law_kinds" ["_law_e"] (spKinds K mg) := by
  refine hasJ T.d_law_kinds sc_law_kinds (fun _ _ _ _ _ _ us hl => L2.usN1 (fun _ => rfl) us hl) ?_ fun f cdv A outer s H vs Q E hr h => ?_
  · rintro vs H Q E ⟨x, i, rfl, _⟩; rfl
  obtain ⟨x, i, rfl, hi, hx, q⟩ := h
  have hu := hr.units0
  have hu64 := hr.units
  refine ⟨_, (jb_cons (js_set (i := 1) sc_law_kinds.nd rfl (Or.inl k_law_kinds__law_found) (j_lst (ja_cons (j_callB (call_isiY (K := K) rfl) (glF k_law_kinds_isinstance) T.b_isinstance bt_isinstance (ja_cons (j_vL 0 k_law_kinds__law_e) (ja_cons (j_cls (glF k_law_kinds_NoRow) T.x_NoRow.c.at_ (by decide +kernel)) ja_nil)) (by decide +kernel) (by decide +kernel)) (ja_cons (j_callB (call_isiY (K := K) rfl) (glF k_law_kinds_isinstance) T.b_isinstance bt_isinstance (ja_cons (j_vL 0 k_law_kinds__law_e) (ja_cons (j_cls (glF k_law_kinds_NoPlain) T.x_NoPlain.c.at_ (by decide +kernel)) ja_nil)) (by decide +kernel) (by decide +kernel)) (ja_cons (j_callB (call_isiY (K := K) rfl) (glF k_law_kinds_isinstance) T.b_isinstance bt_isinstance (ja_cons (j_vL 0 k_law_kinds__law_e) (ja_cons (j_cls (glF k_law_kinds_NoNames) T.x_NoNames.c.at_ (by decide +kernel)) ja_nil)) (by decide +kernel) (by decide +kernel)) (ja_cons (j_callB (call_isiY (K := K) rfl) (glF k_law_kinds_isinstance) T.b_isinstance bt_isinstance (ja_cons (j_vL 0 k_law_kinds__law_e) (ja_cons (j_cls (glF k_law_kinds_NoLetter) T.x_NoLetter.c.at_ (by decide +kernel)) ja_nil)) (by decide +kernel) (by decide +kernel)) ja_nil))))) rfl) (jb_cons (js_set (i := 1) sc_law_kinds.nd rfl (Or.inl k_law_kinds__law_found) (j_op op_addA (j_vL 1 k_law_kinds__law_found) (j_lst (ja_cons (j_callB (call_isiY (K := K) rfl) (glF k_law_kinds_isinstance) T.b_isinstance bt_isinstance (ja_cons (j_vL 0 k_law_kinds__law_e) (ja_cons (j_cls (glF k_law_kinds_NoPlace) T.x_NoPlace.c.at_ (by decide +kernel)) ja_nil)) (by decide +kernel) (by decide +kernel)) (ja_cons (j_callB (call_isiY (K := K) rfl) (glF k_law_kinds_isinstance) T.b_isinstance bt_isinstance (ja_cons (j_vL 0 k_law_kinds__law_e) (ja_cons (j_cls (glF k_law_kinds_NoThread) T.x_NoThread.c.at_ (by decide +kernel)) ja_nil)) (by decide +kernel) (by decide +kernel)) (ja_cons (j_callB (call_isiY (K := K) rfl) (glF k_law_kinds_isinstance) T.b_isinstance bt_isinstance (ja_cons (j_vL 0 k_law_kinds__law_e) (ja_cons (j_cls (glF k_law_kinds_NoTurning) T.x_NoTurning.c.at_ (by decide +kernel)) ja_nil)) (by decide +kernel) (by decide +kernel)) ja_nil))))) rfl) (jb_cons (js_set (i := 1) sc_law_kinds.nd rfl (Or.inl k_law_kinds__law_found) (j_op op_addA (j_vL 1 k_law_kinds__law_found) (j_lst (ja_cons (j_callB (call_isiY (K := K) rfl) (glF k_law_kinds_isinstance) T.b_isinstance bt_isinstance (ja_cons (j_vL 0 k_law_kinds__law_e) (ja_cons (j_cls (glF k_law_kinds_NoCounts) T.x_NoCounts.c.at_ (by decide +kernel)) ja_nil)) (by decide +kernel) (by decide +kernel)) (ja_cons (j_callB (call_isiY (K := K) rfl) (glF k_law_kinds_isinstance) T.b_isinstance bt_isinstance (ja_cons (j_vL 0 k_law_kinds__law_e) (ja_cons (j_cls (glF k_law_kinds_NoSteps) T.x_NoSteps.c.at_ (by decide +kernel)) ja_nil)) (by decide +kernel) (by decide +kernel)) (ja_cons (j_callB (call_isiY (K := K) rfl) (glF k_law_kinds_isinstance) T.b_isinstance bt_isinstance (ja_cons (j_vL 0 k_law_kinds__law_e) (ja_cons (j_cls (glF k_law_kinds_NoCells) T.x_NoCells.c.at_ (by decide +kernel)) ja_nil)) (by decide +kernel) (by decide +kernel)) (ja_cons (j_callB (call_isiY (K := K) rfl) (glF k_law_kinds_isinstance) T.b_isinstance bt_isinstance (ja_cons (j_vL 0 k_law_kinds__law_e) (ja_cons (j_cls (glF k_law_kinds_NoWindow) T.x_NoWindow.c.at_ (by decide +kernel)) ja_nil)) (by decide +kernel) (by decide +kernel)) ja_nil)))))) rfl) (jb_cons (js_set (i := 1) sc_law_kinds.nd rfl (Or.inl k_law_kinds__law_found) (j_op op_addA (j_vL 1 k_law_kinds__law_found) (j_lst (ja_cons (j_callB (call_isiY (K := K) rfl) (glF k_law_kinds_isinstance) T.b_isinstance bt_isinstance (ja_cons (j_vL 0 k_law_kinds__law_e) (ja_cons (j_cls (glF k_law_kinds_NoPiece) T.x_NoPiece.c.at_ (by decide +kernel)) ja_nil)) (by decide +kernel) (by decide +kernel)) (ja_cons (j_callB (call_isiY (K := K) rfl) (glF k_law_kinds_isinstance) T.b_isinstance bt_isinstance (ja_cons (j_vL 0 k_law_kinds__law_e) (ja_cons (j_cls (glF k_law_kinds_TooLong) T.x_TooLong.c.at_ (by decide +kernel)) ja_nil)) (by decide +kernel) (by decide +kernel)) (ja_cons (j_callB (call_isiY (K := K) rfl) (glF k_law_kinds_isinstance) T.b_isinstance bt_isinstance (ja_cons (j_vL 0 k_law_kinds__law_e) (ja_cons (j_cls (glF k_law_kinds_NoChanges) T.x_NoChanges.c.at_ (by decide +kernel)) ja_nil)) (by decide +kernel) (by decide +kernel)) ja_nil))))) rfl) (jb_cons (js_set (i := 1) sc_law_kinds.nd rfl (Or.inl k_law_kinds__law_found) (j_op op_addA (j_vL 1 k_law_kinds__law_found) (j_lst (ja_cons (j_callB (call_isiY (K := K) rfl) (glF k_law_kinds_isinstance) T.b_isinstance bt_isinstance (ja_cons (j_vL 0 k_law_kinds__law_e) (ja_cons (j_cls (glF k_law_kinds_NoStretches) T.x_NoStretches.c.at_ (by decide +kernel)) ja_nil)) (by decide +kernel) (by decide +kernel)) (ja_cons (j_callB (call_isiY (K := K) rfl) (glF k_law_kinds_isinstance) T.b_isinstance bt_isinstance (ja_cons (j_vL 0 k_law_kinds__law_e) (ja_cons (j_cls (glF k_law_kinds_NoPart) T.x_NoPart.c.at_ (by decide +kernel)) ja_nil)) (by decide +kernel) (by decide +kernel)) (ja_cons (j_callB (call_isiY (K := K) rfl) (glF k_law_kinds_isinstance) T.b_isinstance bt_isinstance (ja_cons (j_vL 0 k_law_kinds__law_e) (ja_cons (j_cls (glF k_law_kinds_NoNear) T.x_NoNear.c.at_ (by decide +kernel)) ja_nil)) (by decide +kernel) (by decide +kernel)) (ja_cons (j_callB (call_isiY (K := K) rfl) (glF k_law_kinds_isinstance) T.b_isinstance bt_isinstance (ja_cons (j_vL 0 k_law_kinds__law_e) (ja_cons (j_cls (glF k_law_kinds_NoTold) T.x_NoTold.c.at_ (by decide +kernel)) ja_nil)) (by decide +kernel) (by decide +kernel)) ja_nil)))))) rfl) (jb_one (js_ret (j_op op_addA (j_vL 1 k_law_kinds__law_found) (j_lst (ja_cons (j_callB (call_isiY (K := K) rfl) (glF k_law_kinds_isinstance) T.b_isinstance bt_isinstance (ja_cons (j_vL 0 k_law_kinds__law_e) (ja_cons (j_cls (glF k_law_kinds_NoWords) T.x_NoWords.c.at_ (by decide +kernel)) ja_nil)) (by decide +kernel) (by decide +kernel)) (ja_cons (j_callB (call_isiY (K := K) rfl) (glF k_law_kinds_isinstance) T.b_isinstance bt_isinstance (ja_cons (j_vL 0 k_law_kinds__law_e) (ja_cons (j_cls (glF k_law_kinds_NoSpan) T.x_NoSpan.c.at_ (by decide +kernel)) ja_nil)) (by decide +kernel) (by decide +kernel)) (ja_cons (j_callB (call_isiY (K := K) rfl) (glF k_law_kinds_isinstance) T.b_isinstance bt_isinstance (ja_cons (j_vL 0 k_law_kinds__law_e) (ja_cons (j_cls (glF k_law_kinds_Unlike) T.x_Unlike.c.at_ (by decide +kernel)) ja_nil)) (by decide +kernel) (by decide +kernel)) ja_nil)))))))))))), ?_⟩
  walk_at "sts"
  have kt : ∀ j, j < 21 → PySem.W.kitOne K (.ref (clsN mg i)) (.ref (clsN mg j)) = some (decide (i = j)) := fun j hj => by
    rw [T.kits.kit i j hi (by omega), decide_eq_false (show ¬ j = 21 by omega), Bool.or_false]
  have cl := T.kits.cl i hi
  refine r_isiY hx cl rfl (kt 0 (by omega)) ?_
  walk_at "sts"
  refine r_isiY hx cl rfl (kt 1 (by omega)) ?_
  walk_at "sts"
  refine r_isiY hx cl rfl (kt 2 (by omega)) ?_
  walk_at "sts"
  refine r_isiY hx cl rfl (kt 3 (by omega)) ?_
  walk_at "sts"
  refine r_new rfl fun l1 n1 => ?_
  walk_at "sts"
  have S1 := (Same.refl H).upd (o := .lst [.bl (decide (i = 0)), .bl (decide (i = 1)), .bl (decide (i = 2)), .bl (decide (i = 3))]) n1
  have f1 := upd_same (H := H) (a := l1) (o := .lst [.bl (decide (i = 0)), .bl (decide (i = 1)), .bl (decide (i = 2)), .bl (decide (i = 3))])
  have z1 := n1
  generalize upd H l1 (.lst [.bl (decide (i = 0)), .bl (decide (i = 1)), .bl (decide (i = 2)), .bl (decide (i = 3))]) = G1 at S1 f1 ⊢
  have hx1 := hx.same S1
  refine r_isiY hx1 cl rfl (kt 4 (by omega)) ?_
  walk_at "sts"
  refine r_isiY hx1 cl rfl (kt 5 (by omega)) ?_
  walk_at "sts"
  refine r_isiY hx1 cl rfl (kt 6 (by omega)) ?_
  walk_at "sts"
  refine r_new rfl fun l2 n2 => ?_
  walk_at "sts"
  refine r_addL (upd_old n2 f1) upd_same (by simp; decide) fun l3 n3 => ?_
  walk_at "sts"
  have S3 := ((S1.upd (o := .lst [.bl (decide (i = 4)), .bl (decide (i = 5)), .bl (decide (i = 6))]) n2).upd (o := .lst ([.bl (decide (i = 0)), .bl (decide (i = 1)), .bl (decide (i = 2)), .bl (decide (i = 3))] ++ [.bl (decide (i = 4)), .bl (decide (i = 5)), .bl (decide (i = 6))])) n3)
  have f3 := upd_same (H := upd G1 l2 (.lst [.bl (decide (i = 4)), .bl (decide (i = 5)), .bl (decide (i = 6))])) (a := l3) (o := .lst ([.bl (decide (i = 0)), .bl (decide (i = 1)), .bl (decide (i = 2)), .bl (decide (i = 3))] ++ [.bl (decide (i = 4)), .bl (decide (i = 5)), .bl (decide (i = 6))]))
  generalize upd (upd G1 l2 (.lst [.bl (decide (i = 4)), .bl (decide (i = 5)), .bl (decide (i = 6))])) l3 (.lst ([.bl (decide (i = 0)), .bl (decide (i = 1)), .bl (decide (i = 2)), .bl (decide (i = 3))] ++ [.bl (decide (i = 4)), .bl (decide (i = 5)), .bl (decide (i = 6))])) = G3 at S3 f3 ⊢
  have hx3 := hx.same S3
  refine r_isiY hx3 cl rfl (kt 7 (by omega)) ?_
  walk_at "sts"
  refine r_isiY hx3 cl rfl (kt 8 (by omega)) ?_
  walk_at "sts"
  refine r_isiY hx3 cl rfl (kt 9 (by omega)) ?_
  walk_at "sts"
  refine r_isiY hx3 cl rfl (kt 10 (by omega)) ?_
  walk_at "sts"
  refine r_new rfl fun l4 n4 => ?_
  walk_at "sts"
  refine r_addL (upd_old n4 f3) upd_same (by simp; decide) fun l5 n5 => ?_
  walk_at "sts"
  have S5 := ((S3.upd (o := .lst [.bl (decide (i = 7)), .bl (decide (i = 8)), .bl (decide (i = 9)), .bl (decide (i = 10))]) n4).upd (o := .lst (([.bl (decide (i = 0)), .bl (decide (i = 1)), .bl (decide (i = 2)), .bl (decide (i = 3))] ++ [.bl (decide (i = 4)), .bl (decide (i = 5)), .bl (decide (i = 6))]) ++ [.bl (decide (i = 7)), .bl (decide (i = 8)), .bl (decide (i = 9)), .bl (decide (i = 10))])) n5)
  have f5 := upd_same (H := upd G3 l4 (.lst [.bl (decide (i = 7)), .bl (decide (i = 8)), .bl (decide (i = 9)), .bl (decide (i = 10))])) (a := l5) (o := .lst (([.bl (decide (i = 0)), .bl (decide (i = 1)), .bl (decide (i = 2)), .bl (decide (i = 3))] ++ [.bl (decide (i = 4)), .bl (decide (i = 5)), .bl (decide (i = 6))]) ++ [.bl (decide (i = 7)), .bl (decide (i = 8)), .bl (decide (i = 9)), .bl (decide (i = 10))]))
  generalize upd (upd G3 l4 (.lst [.bl (decide (i = 7)), .bl (decide (i = 8)), .bl (decide (i = 9)), .bl (decide (i = 10))])) l5 (.lst (([.bl (decide (i = 0)), .bl (decide (i = 1)), .bl (decide (i = 2)), .bl (decide (i = 3))] ++ [.bl (decide (i = 4)), .bl (decide (i = 5)), .bl (decide (i = 6))]) ++ [.bl (decide (i = 7)), .bl (decide (i = 8)), .bl (decide (i = 9)), .bl (decide (i = 10))])) = G5 at S5 f5 ⊢
  have hx5 := hx.same S5
  refine r_isiY hx5 cl rfl (kt 11 (by omega)) ?_
  walk_at "sts"
  refine r_isiY hx5 cl rfl (kt 12 (by omega)) ?_
  walk_at "sts"
  refine r_isiY hx5 cl rfl (kt 13 (by omega)) ?_
  walk_at "sts"
  refine r_new rfl fun l6 n6 => ?_
  walk_at "sts"
  refine r_addL (upd_old n6 f5) upd_same (by simp; decide) fun l7 n7 => ?_
  walk_at "sts"
  have S7 := ((S5.upd (o := .lst [.bl (decide (i = 11)), .bl (decide (i = 12)), .bl (decide (i = 13))]) n6).upd (o := .lst ((([.bl (decide (i = 0)), .bl (decide (i = 1)), .bl (decide (i = 2)), .bl (decide (i = 3))] ++ [.bl (decide (i = 4)), .bl (decide (i = 5)), .bl (decide (i = 6))]) ++ [.bl (decide (i = 7)), .bl (decide (i = 8)), .bl (decide (i = 9)), .bl (decide (i = 10))]) ++ [.bl (decide (i = 11)), .bl (decide (i = 12)), .bl (decide (i = 13))])) n7)
  have f7 := upd_same (H := upd G5 l6 (.lst [.bl (decide (i = 11)), .bl (decide (i = 12)), .bl (decide (i = 13))])) (a := l7) (o := .lst ((([.bl (decide (i = 0)), .bl (decide (i = 1)), .bl (decide (i = 2)), .bl (decide (i = 3))] ++ [.bl (decide (i = 4)), .bl (decide (i = 5)), .bl (decide (i = 6))]) ++ [.bl (decide (i = 7)), .bl (decide (i = 8)), .bl (decide (i = 9)), .bl (decide (i = 10))]) ++ [.bl (decide (i = 11)), .bl (decide (i = 12)), .bl (decide (i = 13))]))
  generalize upd (upd G5 l6 (.lst [.bl (decide (i = 11)), .bl (decide (i = 12)), .bl (decide (i = 13))])) l7 (.lst ((([.bl (decide (i = 0)), .bl (decide (i = 1)), .bl (decide (i = 2)), .bl (decide (i = 3))] ++ [.bl (decide (i = 4)), .bl (decide (i = 5)), .bl (decide (i = 6))]) ++ [.bl (decide (i = 7)), .bl (decide (i = 8)), .bl (decide (i = 9)), .bl (decide (i = 10))]) ++ [.bl (decide (i = 11)), .bl (decide (i = 12)), .bl (decide (i = 13))])) = G7 at S7 f7 ⊢
  have hx7 := hx.same S7
  refine r_isiY hx7 cl rfl (kt 14 (by omega)) ?_
  walk_at "sts"
  refine r_isiY hx7 cl rfl (kt 15 (by omega)) ?_
  walk_at "sts"
  refine r_isiY hx7 cl rfl (kt 16 (by omega)) ?_
  walk_at "sts"
  refine r_isiY hx7 cl rfl (kt 17 (by omega)) ?_
  walk_at "sts"
  refine r_new rfl fun l8 n8 => ?_
  walk_at "sts"
  refine r_addL (upd_old n8 f7) upd_same (by simp; decide) fun l9 n9 => ?_
  walk_at "sts"
  have S9 := ((S7.upd (o := .lst [.bl (decide (i = 14)), .bl (decide (i = 15)), .bl (decide (i = 16)), .bl (decide (i = 17))]) n8).upd (o := .lst (((([.bl (decide (i = 0)), .bl (decide (i = 1)), .bl (decide (i = 2)), .bl (decide (i = 3))] ++ [.bl (decide (i = 4)), .bl (decide (i = 5)), .bl (decide (i = 6))]) ++ [.bl (decide (i = 7)), .bl (decide (i = 8)), .bl (decide (i = 9)), .bl (decide (i = 10))]) ++ [.bl (decide (i = 11)), .bl (decide (i = 12)), .bl (decide (i = 13))]) ++ [.bl (decide (i = 14)), .bl (decide (i = 15)), .bl (decide (i = 16)), .bl (decide (i = 17))])) n9)
  have f9 := upd_same (H := upd G7 l8 (.lst [.bl (decide (i = 14)), .bl (decide (i = 15)), .bl (decide (i = 16)), .bl (decide (i = 17))])) (a := l9) (o := .lst (((([.bl (decide (i = 0)), .bl (decide (i = 1)), .bl (decide (i = 2)), .bl (decide (i = 3))] ++ [.bl (decide (i = 4)), .bl (decide (i = 5)), .bl (decide (i = 6))]) ++ [.bl (decide (i = 7)), .bl (decide (i = 8)), .bl (decide (i = 9)), .bl (decide (i = 10))]) ++ [.bl (decide (i = 11)), .bl (decide (i = 12)), .bl (decide (i = 13))]) ++ [.bl (decide (i = 14)), .bl (decide (i = 15)), .bl (decide (i = 16)), .bl (decide (i = 17))]))
  generalize upd (upd G7 l8 (.lst [.bl (decide (i = 14)), .bl (decide (i = 15)), .bl (decide (i = 16)), .bl (decide (i = 17))])) l9 (.lst (((([.bl (decide (i = 0)), .bl (decide (i = 1)), .bl (decide (i = 2)), .bl (decide (i = 3))] ++ [.bl (decide (i = 4)), .bl (decide (i = 5)), .bl (decide (i = 6))]) ++ [.bl (decide (i = 7)), .bl (decide (i = 8)), .bl (decide (i = 9)), .bl (decide (i = 10))]) ++ [.bl (decide (i = 11)), .bl (decide (i = 12)), .bl (decide (i = 13))]) ++ [.bl (decide (i = 14)), .bl (decide (i = 15)), .bl (decide (i = 16)), .bl (decide (i = 17))])) = G9 at S9 f9 ⊢
  have hx9 := hx.same S9
  refine r_isiY hx9 cl rfl (kt 18 (by omega)) ?_
  walk_at "sts"
  refine r_isiY hx9 cl rfl (kt 19 (by omega)) ?_
  walk_at "sts"
  refine r_isiY hx9 cl rfl (kt 20 (by omega)) ?_
  walk_at "sts"
  refine r_new rfl fun l10 n10 => ?_
  walk_at "sts"
  refine r_addL (upd_old n10 f9) upd_same (by simp; decide) fun l11 n11 => ?_
  have S11 := ((S9.upd (o := .lst [.bl (decide (i = 18)), .bl (decide (i = 19)), .bl (decide (i = 20))]) n10).upd (o := .lst ((((([.bl (decide (i = 0)), .bl (decide (i = 1)), .bl (decide (i = 2)), .bl (decide (i = 3))] ++ [.bl (decide (i = 4)), .bl (decide (i = 5)), .bl (decide (i = 6))]) ++ [.bl (decide (i = 7)), .bl (decide (i = 8)), .bl (decide (i = 9)), .bl (decide (i = 10))]) ++ [.bl (decide (i = 11)), .bl (decide (i = 12)), .bl (decide (i = 13))]) ++ [.bl (decide (i = 14)), .bl (decide (i = 15)), .bl (decide (i = 16)), .bl (decide (i = 17))]) ++ [.bl (decide (i = 18)), .bl (decide (i = 19)), .bl (decide (i = 20))])) n11)
  exact q l11 _ (((Same.refl H).free (S9.free ((Same.refl _).upd n10 |>.free n11)))) S11 upd_same
end

section
variable {P : Program} {w : World} {K : PySem.W.Frag} {mg : Str → Option Value} {base : Heap}
theorem k_law_fields_repr : (defScope s_law_fields).names.lookup ("repr" : Str) = some NameKind.globalImplicit := by decide +kernel
theorem k_law_fields__law_e : (defScope s_law_fields).names.lookup ("_law_e" : Str) = some NameKind.local := by decide +kernel
theorem k_law_fields__law_k : (defScope s_law_fields).names.lookup ("_law_k" : Str) = some NameKind.local := by decide +kernel
theorem k_law_made_Unlike : (defScope s_law_made).names.lookup ("Unlike" : Str) = some NameKind.globalImplicit := by decide +kernel
theorem k_law_made__law_other : (defScope s_law_made).names.lookup ("_law_other" : Str) = some NameKind.local := by decide +kernel
theorem k_law_made__law_thing_here : (defScope s_law_made).names.lookup ("_law_thing_here" : Str) = some NameKind.local := by decide +kernel
theorem k_law_made_NoSpan : (defScope s_law_made).names.lookup ("NoSpan" : Str) = some NameKind.globalImplicit := by decide +kernel
theorem k_law_made__law_k : (defScope s_law_made).names.lookup ("_law_k" : Str) = some NameKind.local := by decide +kernel
theorem k_law_made_NoWords : (defScope s_law_made).names.lookup ("NoWords" : Str) = some NameKind.globalImplicit := by decide +kernel
theorem k_law_made_NoTold : (defScope s_law_made).names.lookup ("NoTold" : Str) = some NameKind.globalImplicit := by decide +kernel
theorem k_law_made_NoNear : (defScope s_law_made).names.lookup ("NoNear" : Str) = some NameKind.globalImplicit := by decide +kernel
theorem k_law_made_NoPart : (defScope s_law_made).names.lookup ("NoPart" : Str) = some NameKind.globalImplicit := by decide +kernel
theorem k_law_made_NoStretches : (defScope s_law_made).names.lookup ("NoStretches" : Str) = some NameKind.globalImplicit := by decide +kernel
theorem k_law_made__law_some : (defScope s_law_made).names.lookup ("_law_some" : Str) = some NameKind.local := by decide +kernel
theorem k_law_made_NoChanges : (defScope s_law_made).names.lookup ("NoChanges" : Str) = some NameKind.globalImplicit := by decide +kernel
theorem k_law_made_TooLong : (defScope s_law_made).names.lookup ("TooLong" : Str) = some NameKind.globalImplicit := by decide +kernel
theorem k_law_made_NoPiece : (defScope s_law_made).names.lookup ("NoPiece" : Str) = some NameKind.globalImplicit := by decide +kernel
theorem k_law_made_NoWindow : (defScope s_law_made).names.lookup ("NoWindow" : Str) = some NameKind.globalImplicit := by decide +kernel
theorem k_law_made_NoCells : (defScope s_law_made).names.lookup ("NoCells" : Str) = some NameKind.globalImplicit := by decide +kernel
theorem k_law_made_NoSteps : (defScope s_law_made).names.lookup ("NoSteps" : Str) = some NameKind.globalImplicit := by decide +kernel
theorem k_law_made_NoCounts : (defScope s_law_made).names.lookup ("NoCounts" : Str) = some NameKind.globalImplicit := by decide +kernel
theorem k_law_made_NoTurning : (defScope s_law_made).names.lookup ("NoTurning" : Str) = some NameKind.globalImplicit := by decide +kernel
theorem k_law_made_NoThread : (defScope s_law_made).names.lookup ("NoThread" : Str) = some NameKind.globalImplicit := by decide +kernel
theorem k_law_made_NoPlace : (defScope s_law_made).names.lookup ("NoPlace" : Str) = some NameKind.globalImplicit := by decide +kernel
theorem k_law_made_NoLetter : (defScope s_law_made).names.lookup ("NoLetter" : Str) = some NameKind.globalImplicit := by decide +kernel
theorem k_law_made_NoNames : (defScope s_law_made).names.lookup ("NoNames" : Str) = some NameKind.globalImplicit := by decide +kernel
theorem k_law_made_NoPlain : (defScope s_law_made).names.lookup ("NoPlain" : Str) = some NameKind.globalImplicit := by decide +kernel
theorem k_law_made_NoRow : (defScope s_law_made).names.lookup ("NoRow" : Str) = some NameKind.globalImplicit := by decide +kernel
theorem na_found (T : Txt K mg) : ∀ k, k < 19 → NoAttr K (clsN mg k) "found" := fun k hk => by
  have : k = 0 ∨ k = 1 ∨ k = 2 ∨ k = 3 ∨ k = 4 ∨ k = 5 ∨ k = 6 ∨ k = 7 ∨ k = 8 ∨ k = 9 ∨ k = 10 ∨ k = 11 ∨ k = 12 ∨ k = 13 ∨ k = 14 ∨ k = 15 ∨ k = 16 ∨ k = 17 ∨ k = 18 := by omega
  rcases this with rfl | rfl | rfl | rfl | rfl | rfl | rfl | rfl | rfl | rfl | rfl | rfl | rfl | rfl | rfl | rfl | rfl | rfl | rfl
  · exact T.x_NoRow.na _ (by simp)
  · exact T.x_NoPlain.na _ (by simp)
  · exact T.x_NoNames.na _ (by simp)
  · exact T.x_NoLetter.na _ (by simp)
  · exact T.x_NoPlace.na _ (by simp)
  · exact T.x_NoThread.na _ (by simp)
  · exact T.x_NoTurning.na _ (by simp)
  · exact T.x_NoCounts.na _ (by simp)
  · exact T.x_NoSteps.na _ (by simp)
  · exact T.x_NoCells.na _ (by simp)
  · exact T.x_NoWindow.na _ (by simp)
  · exact T.x_NoPiece.na _ (by simp)
  · exact T.x_TooLong.na _ (by simp)
  · exact T.x_NoChanges.na _ (by simp)
  · exact T.x_NoStretches.na _ (by simp)
  · exact T.x_NoPart.na _ (by simp)
  · exact T.x_NoNear.na _ (by simp)
  · exact T.x_NoTold.na _ (by simp)
  · exact T.x_NoWords.na _ (by simp)
noncomputable def shD (k : Nat) (dt du : PyData) : PyData := .list (if k < 19 then [dt] else [dt, du])
structure Sm (d : PyData) : Prop where
  sh : d.showable = true
  dp : d.depth ≤ 3
  lv : d.leavesShort 60 = true
  bk : d.bulk ≤ 1000
theorem shD_ok {k : Nat} {dt du : PyData} (h : Sm dt) (h' : Sm du) : (shD k dt du).showable = true ∧ (shD k dt du).depth ≤ 60 ∧ (shD k dt du).shown.length ≤ sizeLine := by
  have e1 := h.dp
  have e2 := h'.dp
  have b1 := h.bk
  have b2 := h'.bk
  have key : (shD k dt du).showable = true ∧ (shD k dt du).depth ≤ 60 ∧ (shD k dt du).leavesShort 60 = true ∧ (shD k dt du).bulk ≤ 3000 := by
    unfold shD
    split
    · refine ⟨by simp only [PyData.showable, PyData.showableAll, h.sh, Bool.and_true], by simp only [PyData.depth, PyData.depthAll]; omega, by simp only [PyData.leavesShort, PyData.leavesShortAll, h.lv, Bool.and_true], by simp only [PyData.bulk, PyData.bulkAll]; omega⟩
    · refine ⟨by simp only [PyData.showable, PyData.showableAll, h.sh, h'.sh, Bool.and_true], by simp only [PyData.depth, PyData.depthAll]; omega, by simp only [PyData.leavesShort, PyData.leavesShortAll, h.lv, h'.lv, Bool.and_true], by simp only [PyData.bulk, PyData.bulkAll]; omega⟩
  refine ⟨key.1, key.2.1, ?_⟩
  have e := PyData.shown_le_bulk 60 (by omega) _ key.2.2.1
  have := Nat.mul_le_mul_left (60 + 2) key.2.2.2
  exact Nat.le_trans (show (shD k dt du).shown.length ≤ 1000000 by omega) (by decide)
noncomputable def spFields (K : PySem.W.Frag) (mg : Str → Option Value) : Sp := fun vs H Q _ => ∃ (x : Addr) (k : Nat) (t u : V) (dt du : PyData), vs = [.ref x, .int k] ∧ k < 21 ∧ IsX H x (clsN mg k) (flds k t u) ∧ RD H dt t ∧ RD H du u ∧ Sm dt ∧ Sm du ∧
  ∀ H', Same H H' → Q (.str (shD k dt du).shown) H'
theorem sc_law_fields : FnScope ["_law_e", "_law_k"] ["_law_e", "_law_k"] (defScope s_law_fields) := ⟨rfl, rfl, rfl, by decide +kernel, rfl, by decide +kernel, by decide +kernel⟩
theorem h_law_fields (T : Txt K mg) : Has P w K mg base 1 "_law_fields" ["_law_e", "_law_k"] (spFields K mg) := by
  refine hasJ T.d_law_fields sc_law_fields (fun _ _ _ _ _ _ us hl => L2.usN2 (fun _ _ => rfl) us hl) ?_ fun f cdv A outer s H vs Q E hr h => ?_
  · rintro vs H Q E ⟨x, k, t, u, dt, du, rfl, _⟩; rfl
  obtain ⟨x, k, t, u, dt, du, rfl, hk, hx, rt, ru, st, su, q⟩ := h
  have hu := hr.units0
  have hu64 := hr.units
  refine ⟨_, (jb_cons (js_if (jt_cmp op_lt (j_vL 1 k_law_fields__law_k) j_int (by first | exact nomark _ | with_unfolding_all rfl)) (jb_one (js_ret (j_callB (call_reprR hr.gd hu64) (glF k_law_fields_repr) T.b_repr bt_repr (ja_cons (j_lst (ja_cons (j_fldX (K := K) rfl (j_vL 0 k_law_fields__law_e)) ja_nil)) ja_nil) (by decide +kernel) (by decide +kernel)))) jb_nil) (jb_cons (js_if (jt_cmp (op_eqX (K := K) rfl hu64) (j_vL 1 k_law_fields__law_k) j_int (by first | exact nomark _ | with_unfolding_all rfl)) (jb_one (js_ret (j_callB (call_reprR hr.gd hu64) (glF k_law_fields_repr) T.b_repr bt_repr (ja_cons (j_lst (ja_cons (j_fldX (K := K) rfl (j_vL 0 k_law_fields__law_e)) (ja_cons (j_fldX (K := K) rfl (j_vL 0 k_law_fields__law_e)) ja_nil))) ja_nil) (by decide +kernel) (by decide +kernel)))) jb_nil) (jb_one (js_ret (j_callB (call_reprR hr.gd hu64) (glF k_law_fields_repr) T.b_repr bt_repr (ja_cons (j_lst (ja_cons (j_fldX (K := K) rfl (j_vL 0 k_law_fields__law_e)) (ja_cons (j_fldX (K := K) rfl (j_vL 0 k_law_fields__law_e)) ja_nil))) ja_nil) (by decide +kernel) (by decide +kernel)))))), ?_⟩
  walk_at "sts"
  obtain ⟨o1, o2, o3⟩ := shD_ok (k := k) st su
  have cl := T.kits.cl k (by omega)
  by_cases h1 : k < 19
  · rw [decide_eq_true (show (k : Int) < 19 by omega)]
    have ef : flds k t u = ([("found", t)] : List (Str × V)) := by unfold flds; rw [if_pos h1]
    have es : shD k dt du = .list [dt] := by unfold shD; rw [if_pos h1]
    rw [ef] at hx
    rw [es] at o1 o2 o3 q
    walk_at "sts"
    refine ⟨x, _, _, t, rfl, hx, cl.cls, na_found T k h1, rfl, ?_⟩
    walk_at "sts"
    refine r_new rfl fun l n => ?_
    walk_at "sts"
    have S := (Same.refl H).upd (o := .lst [t]) n
    refine r_reprR (d := .list [dt]) (RD_list.mpr ⟨l, _, rfl, upd_same, RDs_one (RD.same S _ _ rt) (RDs_nil.mpr rfl)⟩) o1 o2 o3 ?_
    exact q _ S
  · rw [decide_eq_false (show ¬ (k : Int) < 19 by omega)]
    have es : shD k dt du = .list [dt, du] := by unfold shD; rw [if_neg h1]
    rw [es] at o1 o2 o3 q
    walk_at "sts"
    by_cases h2 : k = 19
    · subst h2
      have hx' : IsX H x (clsN mg 19) [("begin", t), ("end", u)] := hx
      rw [decide_eq_true (show V.int ((19 : Nat) : Int) = V.int 19 from rfl)]
      walk_at "sts"
      refine ⟨x, _, _, t, rfl, hx', cl.cls, T.x_NoSpan.na _ (by simp), rfl, ?_⟩
      walk_at "sts"
      refine ⟨x, _, _, u, rfl, hx', cl.cls, T.x_NoSpan.na _ (by simp), rfl, ?_⟩
      walk_at "sts"
      refine r_new rfl fun l n => ?_
      walk_at "sts"
      have S := (Same.refl H).upd (o := .lst [t, u]) n
      refine r_reprR (d := .list [dt, du]) (RD_list.mpr ⟨l, _, rfl, upd_same, RDs_one (RD.same S _ _ rt) (RDs_one (RD.same S _ _ ru) (RDs_nil.mpr rfl))⟩) o1 o2 o3 ?_
      exact q _ S
    · have h3 : k = 20 := by omega
      subst h3
      have hx' : IsX H x (clsN mg 20) [("one", t), ("other", u)] := hx
      rw [decide_eq_false (show ¬ V.int ((20 : Nat) : Int) = V.int 19 by intro z; injection z with z; omega)]
      walk_at "sts"
      refine ⟨x, _, _, t, rfl, hx', cl.cls, T.x_Unlike.na _ (by simp), rfl, ?_⟩
      walk_at "sts"
      refine ⟨x, _, _, u, rfl, hx', cl.cls, T.x_Unlike.na _ (by simp), rfl, ?_⟩
      walk_at "sts"
      refine r_new rfl fun l n => ?_
      walk_at "sts"
      have S := (Same.refl H).upd (o := .lst [t, u]) n
      refine r_reprR (d := .list [dt, du]) (RD_list.mpr ⟨l, _, rfl, upd_same, RDs_one (RD.same S _ _ rt) (RDs_one (RD.same S _ _ ru) (RDs_nil.mpr rfl))⟩) o1 o2 o3 ?_
      exact q _ S
noncomputable def spMade (K : PySem.W.Frag) (mg : Str → Option Value) : Sp := fun vs H Q _ => ∃ (k : Nat) (t u : V), vs = [.int k, t, u] ∧ k < 21 ∧
  ∀ (x : Addr) (H' : Hp), H x = none → Same H H' → IsX H' x (clsN mg k) (flds k t u) → Q (.ref x) H'
theorem sc_law_made : FnScope ["_law_k", "_law_thing_here", "_law_other", "_law_some"] ["_law_k", "_law_thing_here", "_law_other"] (defScope s_law_made) := ⟨rfl, rfl, rfl, by decide +kernel, rfl, by decide +kernel, by decide +kernel⟩
theorem h_law_made (T : Txt K mg) : Has P w K mg base 3 "_law_made" ["_law_k", "_law_thing_here", "_law_other"] (spMade K mg) := by
  refine hasJ T.d_law_made sc_law_made (fun _ _ _ _ _ _ us hl => L2.usN3 (fun _ _ _ => rfl) us hl) ?_ fun f cdv A outer s H vs Q E hr h => ?_
  · rintro vs H Q E ⟨k, t, u, rfl, _⟩; rfl
  obtain ⟨k, t, u, rfl, hk, q⟩ := h
  have hu := hr.units0
  have hu64 := hr.units
  refine ⟨_, (jb_cons (js_if (jt_cmp op_lt (j_vL 0 k_law_made__law_k) j_int (by first | exact nomark _ | with_unfolding_all rfl)) (jb_cons (js_set (i := 3) sc_law_made.nd rfl (Or.inl k_law_made__law_some) (j_lst (ja_cons (j_mkX (mk_NoRow (P := P) (w := w) (base := base) T) (hr.mono (by decide)) (glF k_law_made_NoRow) (ja_cons (j_vL 1 k_law_made__law_thing_here) ja_nil) (by decide +kernel)) (ja_cons (j_mkX (mk_NoPlain (P := P) (w := w) (base := base) T) (hr.mono (by decide)) (glF k_law_made_NoPlain) (ja_cons (j_vL 1 k_law_made__law_thing_here) ja_nil) (by decide +kernel)) (ja_cons (j_mkX (mk_NoNames (P := P) (w := w) (base := base) T) (hr.mono (by decide)) (glF k_law_made_NoNames) (ja_cons (j_vL 1 k_law_made__law_thing_here) ja_nil) (by decide +kernel)) (ja_cons (j_mkX (mk_NoLetter (P := P) (w := w) (base := base) T) (hr.mono (by decide)) (glF k_law_made_NoLetter) (ja_cons (j_vL 1 k_law_made__law_thing_here) ja_nil) (by decide +kernel)) (ja_cons (j_mkX (mk_NoPlace (P := P) (w := w) (base := base) T) (hr.mono (by decide)) (glF k_law_made_NoPlace) (ja_cons (j_vL 1 k_law_made__law_thing_here) ja_nil) (by decide +kernel)) (ja_cons (j_mkX (mk_NoThread (P := P) (w := w) (base := base) T) (hr.mono (by decide)) (glF k_law_made_NoThread) (ja_cons (j_vL 1 k_law_made__law_thing_here) ja_nil) (by decide +kernel)) ja_nil))))))) rfl) (jb_one (js_ret (j_ix (K := K) rfl (j_op op_addA (j_vL 3 k_law_made__law_some) (j_lst (ja_cons (j_mkX (mk_NoTurning (P := P) (w := w) (base := base) T) (hr.mono (by decide)) (glF k_law_made_NoTurning) (ja_cons (j_vL 1 k_law_made__law_thing_here) ja_nil) (by decide +kernel)) ja_nil))) (j_vL 0 k_law_made__law_k))))) jb_nil) (jb_cons (js_if (jt_cmp op_lt (j_vL 0 k_law_made__law_k) j_int (by first | exact nomark _ | with_unfolding_all rfl)) (jb_cons (js_set (i := 3) sc_law_made.nd rfl (Or.inl k_law_made__law_some) (j_lst (ja_cons (j_mkX (mk_NoCounts (P := P) (w := w) (base := base) T) (hr.mono (by decide)) (glF k_law_made_NoCounts) (ja_cons (j_vL 1 k_law_made__law_thing_here) ja_nil) (by decide +kernel)) (ja_cons (j_mkX (mk_NoSteps (P := P) (w := w) (base := base) T) (hr.mono (by decide)) (glF k_law_made_NoSteps) (ja_cons (j_vL 1 k_law_made__law_thing_here) ja_nil) (by decide +kernel)) (ja_cons (j_mkX (mk_NoCells (P := P) (w := w) (base := base) T) (hr.mono (by decide)) (glF k_law_made_NoCells) (ja_cons (j_vL 1 k_law_made__law_thing_here) ja_nil) (by decide +kernel)) (ja_cons (j_mkX (mk_NoWindow (P := P) (w := w) (base := base) T) (hr.mono (by decide)) (glF k_law_made_NoWindow) (ja_cons (j_vL 1 k_law_made__law_thing_here) ja_nil) (by decide +kernel)) (ja_cons (j_mkX (mk_NoPiece (P := P) (w := w) (base := base) T) (hr.mono (by decide)) (glF k_law_made_NoPiece) (ja_cons (j_vL 1 k_law_made__law_thing_here) ja_nil) (by decide +kernel)) (ja_cons (j_mkX (mk_TooLong (P := P) (w := w) (base := base) T) (hr.mono (by decide)) (glF k_law_made_TooLong) (ja_cons (j_vL 1 k_law_made__law_thing_here) ja_nil) (by decide +kernel)) ja_nil))))))) rfl) (jb_one (js_ret (j_ix (K := K) rfl (j_op op_addA (j_vL 3 k_law_made__law_some) (j_lst (ja_cons (j_mkX (mk_NoChanges (P := P) (w := w) (base := base) T) (hr.mono (by decide)) (glF k_law_made_NoChanges) (ja_cons (j_vL 1 k_law_made__law_thing_here) ja_nil) (by decide +kernel)) ja_nil))) (j_op op_sub (j_vL 0 k_law_made__law_k) j_int))))) jb_nil) (jb_cons (js_if (jt_cmp op_lt (j_vL 0 k_law_made__law_k) j_int (by first | exact nomark _ | with_unfolding_all rfl)) (jb_one (js_ret (j_ix (K := K) rfl (j_lst (ja_cons (j_mkX (mk_NoStretches (P := P) (w := w) (base := base) T) (hr.mono (by decide)) (glF k_law_made_NoStretches) (ja_cons (j_vL 1 k_law_made__law_thing_here) ja_nil) (by decide +kernel)) (ja_cons (j_mkX (mk_NoPart (P := P) (w := w) (base := base) T) (hr.mono (by decide)) (glF k_law_made_NoPart) (ja_cons (j_vL 1 k_law_made__law_thing_here) ja_nil) (by decide +kernel)) (ja_cons (j_mkX (mk_NoNear (P := P) (w := w) (base := base) T) (hr.mono (by decide)) (glF k_law_made_NoNear) (ja_cons (j_vL 1 k_law_made__law_thing_here) ja_nil) (by decide +kernel)) (ja_cons (j_mkX (mk_NoTold (P := P) (w := w) (base := base) T) (hr.mono (by decide)) (glF k_law_made_NoTold) (ja_cons (j_vL 1 k_law_made__law_thing_here) ja_nil) (by decide +kernel)) (ja_cons (j_mkX (mk_NoWords (P := P) (w := w) (base := base) T) (hr.mono (by decide)) (glF k_law_made_NoWords) (ja_cons (j_vL 1 k_law_made__law_thing_here) ja_nil) (by decide +kernel)) ja_nil)))))) (j_op op_sub (j_vL 0 k_law_made__law_k) j_int)))) jb_nil) (jb_one (js_ret (j_ix (K := K) rfl (j_lst (ja_cons (j_mkX (mk_NoSpan (P := P) (w := w) (base := base) T) (hr.mono (by decide)) (glF k_law_made_NoSpan) (ja_cons (j_vL 1 k_law_made__law_thing_here) (ja_cons (j_vL 2 k_law_made__law_other) ja_nil)) (by decide +kernel)) (ja_cons (j_mkX (mk_Unlike (P := P) (w := w) (base := base) T) (hr.mono (by decide)) (glF k_law_made_Unlike) (ja_cons (j_vL 1 k_law_made__law_thing_here) (ja_cons (j_vL 2 k_law_made__law_other) ja_nil)) (by decide +kernel)) ja_nil))) (j_op op_sub (j_vL 0 k_law_made__law_k) j_int))))))), ?_⟩
  walk_at "sts"
  by_cases h1 : k < 7
  · rw [decide_eq_true (show (k : Int) < 7 by omega)]
    walk_at "sts"
    refine ⟨rfl, (show 1 ≤ sizeLine by decide), fun x0 G0 n0 S0 X0 => ?_⟩
    walk_at "sts"
    refine ⟨rfl, (show 1 ≤ sizeLine by decide), fun x1 G1 n1 S1 X1 => ?_⟩
    walk_at "sts"
    refine ⟨rfl, (show 1 ≤ sizeLine by decide), fun x2 G2 n2 S2 X2 => ?_⟩
    walk_at "sts"
    refine ⟨rfl, (show 1 ≤ sizeLine by decide), fun x3 G3 n3 S3 X3 => ?_⟩
    walk_at "sts"
    refine ⟨rfl, (show 1 ≤ sizeLine by decide), fun x4 G4 n4 S4 X4 => ?_⟩
    walk_at "sts"
    refine ⟨rfl, (show 1 ≤ sizeLine by decide), fun x5 G5 n5 S5 X5 => ?_⟩
    walk_at "sts"
    refine r_new rfl fun la na => ?_
    walk_at "sts"
    have Sa := ((Same.refl G5).upd (o := .lst [.ref x0, .ref x1, .ref x2, .ref x3, .ref x4, .ref x5]) na)
    have fa := upd_same (H := G5) (a := la) (o := .lst [.ref x0, .ref x1, .ref x2, .ref x3, .ref x4, .ref x5])
    generalize upd G5 la (.lst [.ref x0, .ref x1, .ref x2, .ref x3, .ref x4, .ref x5]) = Ga at Sa fa ⊢
    refine ⟨rfl, (show 1 ≤ sizeLine by decide), fun x6 G6 n6 S6 X6 => ?_⟩
    walk_at "sts"
    refine r_new rfl fun lb nb => ?_
    walk_at "sts"
    have Sb := ((Same.refl G6).upd (o := .lst [.ref x6]) nb)
    have fb := upd_same (H := G6) (a := lb) (o := .lst [.ref x6])
    generalize upd G6 lb (.lst [.ref x6]) = Gb at Sb fb ⊢
    refine r_addL (Sb _ _ (S6 _ _ fa)) fb (by simp; decide) fun lc nc => ?_
    walk_at "sts"
    have Sc := ((Same.refl Gb).upd (o := .lst ([.ref x0, .ref x1, .ref x2, .ref x3, .ref x4, .ref x5] ++ [.ref x6])) nc)
    have fc : upd Gb lc (.lst ([.ref x0, .ref x1, .ref x2, .ref x3, .ref x4, .ref x5] ++ [.ref x6])) lc = some (.lst [.ref x0, .ref x1, .ref x2, .ref x3, .ref x4, .ref x5, .ref x6]) := upd_same
    generalize upd Gb lc (.lst ([.ref x0, .ref x1, .ref x2, .ref x3, .ref x4, .ref x5] ++ [.ref x6])) = Gc at Sc fc ⊢
    have A0 := S0
    have A1 := A0.trans S1
    have A2 := A1.trans S2
    have A3 := A2.trans S3
    have A4 := A3.trans S4
    have A5 := A4.trans S5
    have A6 := A5.trans Sa
    have A7 := A6.trans S6
    have A8 := A7.trans Sb
    have A9 := A8.trans Sc
    have B9 := Same.refl Gc
    have B8 := Sc.trans B9
    have B7 := Sb.trans B8
    have B6 := S6.trans B7
    have B5 := Sa.trans B6
    have B4 := S5.trans B5
    have B3 := S4.trans B4
    have B2 := S3.trans B3
    have B1 := S2.trans B2
    have B0 := S1.trans B1
    have hc : k = 0 ∨ k = 1 ∨ k = 2 ∨ k = 3 ∨ k = 4 ∨ k = 5 ∨ k = 6 := by omega
    rcases hc with rfl | rfl | rfl | rfl | rfl | rfl | rfl
    · refine r_ixL (SqL.of fc) (show atI _ _ = some (.ref x0) from rfl) ?_
      exact q x0 _ (n0) A9 (X0.same B0)
    · refine r_ixL (SqL.of fc) (show atI _ _ = some (.ref x1) from rfl) ?_
      exact q x1 _ (A0.free n1) A9 (X1.same B1)
    · refine r_ixL (SqL.of fc) (show atI _ _ = some (.ref x2) from rfl) ?_
      exact q x2 _ (A1.free n2) A9 (X2.same B2)
    · refine r_ixL (SqL.of fc) (show atI _ _ = some (.ref x3) from rfl) ?_
      exact q x3 _ (A2.free n3) A9 (X3.same B3)
    · refine r_ixL (SqL.of fc) (show atI _ _ = some (.ref x4) from rfl) ?_
      exact q x4 _ (A3.free n4) A9 (X4.same B4)
    · refine r_ixL (SqL.of fc) (show atI _ _ = some (.ref x5) from rfl) ?_
      exact q x5 _ (A4.free n5) A9 (X5.same B5)
    · refine r_ixL (SqL.of fc) (show atI _ _ = some (.ref x6) from rfl) ?_
      exact q x6 _ (A6.free n6) A9 (X6.same B7)
  · rw [decide_eq_false (show ¬ (k : Int) < 7 by omega)]
    walk_at "sts"
    by_cases h2 : k < 14
    · rw [decide_eq_true (show (k : Int) < 14 by omega)]
      walk_at "sts"
      refine ⟨rfl, (show 1 ≤ sizeLine by decide), fun x7 G7 n7 S7 X7 => ?_⟩
      walk_at "sts"
      refine ⟨rfl, (show 1 ≤ sizeLine by decide), fun x8 G8 n8 S8 X8 => ?_⟩
      walk_at "sts"
      refine ⟨rfl, (show 1 ≤ sizeLine by decide), fun x9 G9 n9 S9 X9 => ?_⟩
      walk_at "sts"
      refine ⟨rfl, (show 1 ≤ sizeLine by decide), fun x10 G10 n10 S10 X10 => ?_⟩
      walk_at "sts"
      refine ⟨rfl, (show 1 ≤ sizeLine by decide), fun x11 G11 n11 S11 X11 => ?_⟩
      walk_at "sts"
      refine ⟨rfl, (show 1 ≤ sizeLine by decide), fun x12 G12 n12 S12 X12 => ?_⟩
      walk_at "sts"
      refine r_new rfl fun la na => ?_
      walk_at "sts"
      have Sa := ((Same.refl G12).upd (o := .lst [.ref x7, .ref x8, .ref x9, .ref x10, .ref x11, .ref x12]) na)
      have fa := upd_same (H := G12) (a := la) (o := .lst [.ref x7, .ref x8, .ref x9, .ref x10, .ref x11, .ref x12])
      generalize upd G12 la (.lst [.ref x7, .ref x8, .ref x9, .ref x10, .ref x11, .ref x12]) = Ga at Sa fa ⊢
      refine ⟨rfl, (show 1 ≤ sizeLine by decide), fun x13 G13 n13 S13 X13 => ?_⟩
      walk_at "sts"
      refine r_new rfl fun lb nb => ?_
      walk_at "sts"
      have Sb := ((Same.refl G13).upd (o := .lst [.ref x13]) nb)
      have fb := upd_same (H := G13) (a := lb) (o := .lst [.ref x13])
      generalize upd G13 lb (.lst [.ref x13]) = Gb at Sb fb ⊢
      refine r_addL (Sb _ _ (S13 _ _ fa)) fb (by simp; decide) fun lc nc => ?_
      walk_at "sts"
      have Sc := ((Same.refl Gb).upd (o := .lst ([.ref x7, .ref x8, .ref x9, .ref x10, .ref x11, .ref x12] ++ [.ref x13])) nc)
      have fc : upd Gb lc (.lst ([.ref x7, .ref x8, .ref x9, .ref x10, .ref x11, .ref x12] ++ [.ref x13])) lc = some (.lst [.ref x7, .ref x8, .ref x9, .ref x10, .ref x11, .ref x12, .ref x13]) := upd_same
      generalize upd Gb lc (.lst ([.ref x7, .ref x8, .ref x9, .ref x10, .ref x11, .ref x12] ++ [.ref x13])) = Gc at Sc fc ⊢
      have A0 := S7
      have A1 := A0.trans S8
      have A2 := A1.trans S9
      have A3 := A2.trans S10
      have A4 := A3.trans S11
      have A5 := A4.trans S12
      have A6 := A5.trans Sa
      have A7 := A6.trans S13
      have A8 := A7.trans Sb
      have A9 := A8.trans Sc
      have B9 := Same.refl Gc
      have B8 := Sc.trans B9
      have B7 := Sb.trans B8
      have B6 := S13.trans B7
      have B5 := Sa.trans B6
      have B4 := S12.trans B5
      have B3 := S11.trans B4
      have B2 := S10.trans B3
      have B1 := S9.trans B2
      have B0 := S8.trans B1
      have hc : k = 7 ∨ k = 8 ∨ k = 9 ∨ k = 10 ∨ k = 11 ∨ k = 12 ∨ k = 13 := by omega
      rcases hc with rfl | rfl | rfl | rfl | rfl | rfl | rfl
      · refine r_ixL (SqL.of fc) (show atI _ _ = some (.ref x7) from rfl) ?_
        exact q x7 _ (n7) A9 (X7.same B0)
      · refine r_ixL (SqL.of fc) (show atI _ _ = some (.ref x8) from rfl) ?_
        exact q x8 _ (A0.free n8) A9 (X8.same B1)
      · refine r_ixL (SqL.of fc) (show atI _ _ = some (.ref x9) from rfl) ?_
        exact q x9 _ (A1.free n9) A9 (X9.same B2)
      · refine r_ixL (SqL.of fc) (show atI _ _ = some (.ref x10) from rfl) ?_
        exact q x10 _ (A2.free n10) A9 (X10.same B3)
      · refine r_ixL (SqL.of fc) (show atI _ _ = some (.ref x11) from rfl) ?_
        exact q x11 _ (A3.free n11) A9 (X11.same B4)
      · refine r_ixL (SqL.of fc) (show atI _ _ = some (.ref x12) from rfl) ?_
        exact q x12 _ (A4.free n12) A9 (X12.same B5)
      · refine r_ixL (SqL.of fc) (show atI _ _ = some (.ref x13) from rfl) ?_
        exact q x13 _ (A6.free n13) A9 (X13.same B7)
    · rw [decide_eq_false (show ¬ (k : Int) < 14 by omega)]
      walk_at "sts"
      by_cases h3 : k < 19
      · rw [decide_eq_true (show (k : Int) < 19 by omega)]
        walk_at "sts"
        refine ⟨rfl, (show 1 ≤ sizeLine by decide), fun x14 G14 n14 S14 X14 => ?_⟩
        walk_at "sts"
        refine ⟨rfl, (show 1 ≤ sizeLine by decide), fun x15 G15 n15 S15 X15 => ?_⟩
        walk_at "sts"
        refine ⟨rfl, (show 1 ≤ sizeLine by decide), fun x16 G16 n16 S16 X16 => ?_⟩
        walk_at "sts"
        refine ⟨rfl, (show 1 ≤ sizeLine by decide), fun x17 G17 n17 S17 X17 => ?_⟩
        walk_at "sts"
        refine ⟨rfl, (show 1 ≤ sizeLine by decide), fun x18 G18 n18 S18 X18 => ?_⟩
        walk_at "sts"
        refine r_new rfl fun la na => ?_
        walk_at "sts"
        have Sa := ((Same.refl G18).upd (o := .lst [.ref x14, .ref x15, .ref x16, .ref x17, .ref x18]) na)
        have fa := upd_same (H := G18) (a := la) (o := .lst [.ref x14, .ref x15, .ref x16, .ref x17, .ref x18])
        generalize upd G18 la (.lst [.ref x14, .ref x15, .ref x16, .ref x17, .ref x18]) = Ga at Sa fa ⊢
        have A0 := S14
        have A1 := A0.trans S15
        have A2 := A1.trans S16
        have A3 := A2.trans S17
        have A4 := A3.trans S18
        have A5 := A4.trans Sa
        have B5 := Same.refl Ga
        have B4 := Sa.trans B5
        have B3 := S18.trans B4
        have B2 := S17.trans B3
        have B1 := S16.trans B2
        have B0 := S15.trans B1
        have hc : k = 14 ∨ k = 15 ∨ k = 16 ∨ k = 17 ∨ k = 18 := by omega
        rcases hc with rfl | rfl | rfl | rfl | rfl
        · refine r_ixL (SqL.of fa) (show atI _ _ = some (.ref x14) from rfl) ?_
          exact q x14 _ (n14) A5 (X14.same B0)
        · refine r_ixL (SqL.of fa) (show atI _ _ = some (.ref x15) from rfl) ?_
          exact q x15 _ (A0.free n15) A5 (X15.same B1)
        · refine r_ixL (SqL.of fa) (show atI _ _ = some (.ref x16) from rfl) ?_
          exact q x16 _ (A1.free n16) A5 (X16.same B2)
        · refine r_ixL (SqL.of fa) (show atI _ _ = some (.ref x17) from rfl) ?_
          exact q x17 _ (A2.free n17) A5 (X17.same B3)
        · refine r_ixL (SqL.of fa) (show atI _ _ = some (.ref x18) from rfl) ?_
          exact q x18 _ (A3.free n18) A5 (X18.same B4)
      · rw [decide_eq_false (show ¬ (k : Int) < 19 by omega)]
        walk_at "sts"
        refine ⟨rfl, (show 2 ≤ sizeLine by decide), fun x19 G19 n19 S19 X19 => ?_⟩
        walk_at "sts"
        refine ⟨rfl, (show 2 ≤ sizeLine by decide), fun x20 G20 n20 S20 X20 => ?_⟩
        walk_at "sts"
        refine r_new rfl fun la na => ?_
        walk_at "sts"
        have Sa := ((Same.refl G20).upd (o := .lst [.ref x19, .ref x20]) na)
        have fa := upd_same (H := G20) (a := la) (o := .lst [.ref x19, .ref x20])
        generalize upd G20 la (.lst [.ref x19, .ref x20]) = Ga at Sa fa ⊢
        have A0 := S19
        have A1 := A0.trans S20
        have A2 := A1.trans Sa
        have B2 := Same.refl Ga
        have B1 := Sa.trans B2
        have B0 := S20.trans B1
        have hc : k = 19 ∨ k = 20 := by omega
        rcases hc with rfl | rfl
        · refine r_ixL (SqL.of fa) (show atI _ _ = some (.ref x19) from rfl) ?_
          exact q x19 _ (n19) A2 (X19.same B0)
        · refine r_ixL (SqL.of fa) (show atI _ _ = some (.ref x20) from rfl) ?_
          exact q x20 _ (A0.free n20) A2 (X20.same B1)
end

section
variable {P : Program} {w : World} {K : PySem.W.Frag} {mg : Str → Option Value} {base : Heap}
theorem nd_law_thing_0 : (["_law_k", "_law_letters", "_law_purse_here"] : List Str).Nodup := by decide +kernel
theorem k_law_thing__law_some : (defScope s_law_thing).names.lookup ("_law_some" : Str) = some NameKind.local := by decide +kernel
theorem k_law_thing__law_take : (defScope s_law_thing).names.lookup ("_law_take" : Str) = some NameKind.globalImplicit := by decide +kernel
theorem k_law_thing__law_purse_here : (defScope s_law_thing).names.lookup ("_law_purse_here" : Str) = some NameKind.cell := by decide +kernel
theorem k_law_thing__law_text : (defScope s_law_thing).names.lookup ("_law_text" : Str) = some NameKind.local := by decide +kernel
theorem k_law_thing__law_number : (defScope s_law_thing).names.lookup ("_law_number" : Str) = some NameKind.local := by decide +kernel
theorem k_law_thing_range : (defScope s_law_thing).names.lookup ("range" : Str) = some NameKind.globalImplicit := by decide +kernel
theorem k_law_thing__law_letters : (defScope s_law_thing).names.lookup ("_law_letters" : Str) = some NameKind.cell := by decide +kernel
noncomputable def Hx (p : Addr) (H : Hp) : Hp := fun b => if b = p then none else H b
theorem Hx_same (p : Addr) (H : Hp) : Same (Hx p H) H := fun b o e => by
  unfold Hx at e
  split at e
  · cases e
  · exact e
theorem Hx_at {p b : Addr} {H : Hp} {o : HO} (h : H b = some o) (n : b ≠ p) : Hx p H b = some o := by unfold Hx; rw [if_neg n]; exact h
theorem lett_lt : ∀ c ∈ (Str.ofString "abcdefghijklmnopqrstuvwxyz").cps.toList, c < 16 ^ 8 := by decide +kernel
structure Lf (d : PyData) : Prop where
  sh : d.showable = true
  dp : d.depth = 0
  lv : d.leavesShort 60 = true
  bk : d.bulk ≤ 19
theorem lf_str {z : Str} (h : ∀ c ∈ z.cps.toList, c < 16 ^ 8) (hl : z.length ≤ 19) : Lf (.str z) :=
  ⟨rfl, rfl, by simp only [PyData.leavesShort, List.all_eq_true, decide_eq_true_eq]; exact h, by show z.cps.size ≤ 19; exact hl⟩
theorem lf_big {n : Int} (h : n.natAbs < 10 ^ 41) : Lf (.int n) := by
  refine ⟨?_, rfl, ?_, by show 0 ≤ 19; omega⟩
  · simp only [PyData.showable, decide_eq_true_eq]
    by_cases h0 : n.natAbs = 0
    · rw [h0]; decide
    · exact (Nat.log2_lt h0).mpr (Nat.lt_of_lt_of_le h (by decide +kernel))
  · have e := int_text_length_le10 (k := 41) (by decide) h
    have : (PyData.shown (.int n)).length = (toString n).length := by
      simp only [PyData.shown]
      exact ofString_length _
    simp only [PyData.leavesShort, decide_eq_true_eq]
    rw [this]; omega
theorem Lf.s {d : PyData} (h : Lf d) : Sm d := ⟨h.sh, by rw [h.dp]; omega, h.lv, by have := h.bk; omega⟩
theorem sm_l2 {a b : PyData} (h : Lf a) (h' : Lf b) : Sm (.list [a, b]) := by
  have := h.bk
  have := h'.bk
  refine ⟨by simp only [PyData.showable, PyData.showableAll, h.sh, h'.sh, Bool.and_self], by simp only [PyData.depth, PyData.depthAll, h.dp, h'.dp]; omega, by simp only [PyData.leavesShort, PyData.leavesShortAll, h.lv, h'.lv, Bool.and_self], by simp only [PyData.bulk, PyData.bulkAll]; omega⟩
theorem sm_t2 {a b : PyData} (h : Lf a) (h' : Lf b) : Sm (.tuple [a, b]) := by
  have := h.bk
  have := h'.bk
  refine ⟨by simp only [PyData.showable, PyData.showableAll, h.sh, h'.sh, Bool.and_self], by simp only [PyData.depth, PyData.depthAll, h.dp, h'.dp]; omega, by simp only [PyData.leavesShort, PyData.leavesShortAll, h.lv, h'.lv, Bool.and_self], by simp only [PyData.bulk, PyData.bulkAll]; omega⟩
theorem sm_d2 {a b : PyData} (h : Lf a) (h' : Lf b) : Sm (.dict [(a, b)]) := by
  have := h.bk
  have := h'.bk
  refine ⟨by simp only [PyData.showable, PyData.showableKv, h.sh, h'.sh, Bool.and_self], by simp only [PyData.depth, PyData.depthKv, h.dp, h'.dp]; omega, by simp only [PyData.leavesShort, PyData.leavesShortKv, h.lv, h'.lv, Bool.and_self], by simp only [PyData.bulk, PyData.bulkKv]; omega⟩
noncomputable def spThing : Sp := fun vs H Q _ => ∃ (p : Addr), vs = [.ref p] ∧ Pur H p ∧ ∀ v d H', RD (Hx p H') d v → Sm d → Pur H' p → Chg p H H' → Q v H'
theorem sc_law_thing : FnScope ["_law_purse_here", "_law_letters", "_law_text", "_law_number", "_law_some"] ["_law_purse_here"] (defScope s_law_thing) := ⟨rfl, rfl, rfl, by decide +kernel, rfl, by decide +kernel, by decide +kernel⟩
theorem h_law_thing (T : Txt K mg) : Has P w K mg base 2 "_law_thing" ["_law_purse_here"] spThing := by
  have h_law_take := h_law_take (P := P) (w := w) (base := base) T
  refine hasJ T.d_law_thing sc_law_thing (fun _ _ _ _ _ _ us hl => L2.usN1 (fun _ => rfl) us hl) ?_ fun f cdv A outer s H vs Q E hr h => ?_
  · rintro vs H Q E ⟨p, rfl, _⟩; rfl
  obtain ⟨p, rfl, hP, q⟩ := h
  have hu := hr.units0
  have hu64 := hr.units
  refine ⟨_, (jb_cons (js_set (i := 1) sc_law_thing.nd rfl (Or.inr k_law_thing__law_letters) j_str rfl) (jb_cons (js_set (i := 2) sc_law_thing.nd rfl (Or.inl k_law_thing__law_text) (j_meth (K := K) rfl PySem.F.plainAttrs_str PySem.F.slot_str_join PySem.F.type_str_join mt_join j_str (ja_cons (j_comp (sub := [none, some 1, some 0]) (subOk_of (N := ["_law_purse_here", "_law_letters", "_law_text", "_law_number", "_law_some"]) (sc := defScope s_law_thing) (N' := ["_law_k", "_law_letters", "_law_purse_here"]) (by decide +kernel)) rfl rfl rfl (ji_range1 (glF k_law_thing_range) T.b_range (ja_cons (j_call h_law_take (hr.mono (by decide)) (glF k_law_thing__law_take) (ja_cons (j_vC 0 k_law_thing__law_purse_here) (ja_cons j_int ja_nil)) (by decide +kernel)) ja_nil)) (fun C s₀ H₀ ex => (jg_B 0 (by decide +kernel) nd_law_thing_0)) (fun C s₀ H₀ ex => jif_nil) (fun C s₀ H₀ ex => (j_ix (K := K) rfl (j_vBF 1 (by decide +kernel)) (j_call h_law_take (hr.mono (by decide)) (glB (by decide +kernel)) (ja_cons (j_vBF 2 (by decide +kernel)) (ja_cons j_int ja_nil)) (by decide +kernel))))) ja_nil)) rfl) (jb_cons (js_set (i := 3) sc_law_thing.nd rfl (Or.inl k_law_thing__law_number) (j_op op_sub (j_call h_law_take (hr.mono (by decide)) (glF k_law_thing__law_take) (ja_cons (j_vC 0 k_law_thing__law_purse_here) (ja_cons (j_ix (K := K) rfl (j_lst (ja_cons j_int (ja_cons j_int (ja_cons (j_op op_pow j_int j_int) ja_nil)))) (j_call h_law_take (hr.mono (by decide)) (glF k_law_thing__law_take) (ja_cons (j_vC 0 k_law_thing__law_purse_here) (ja_cons j_int ja_nil)) (by decide +kernel))) ja_nil)) (by decide +kernel)) j_int) rfl) (jb_cons (js_set (i := 4) sc_law_thing.nd rfl (Or.inl k_law_thing__law_some) (j_lst (ja_cons (j_vL 2 k_law_thing__law_text) (ja_cons (j_vL 3 k_law_thing__law_number) (ja_cons j_bl (ja_cons j_bl (ja_cons j_non (ja_cons (j_lst (ja_cons (j_vL 2 k_law_thing__law_text) (ja_cons (j_vL 3 k_law_thing__law_number) ja_nil))) (ja_cons (j_tup (ja_cons (j_vL 3 k_law_thing__law_number) (ja_cons (j_vL 2 k_law_thing__law_text) ja_nil))) (ja_cons (j_disp (jp_cons (j_vL 2 k_law_thing__law_text) (j_vL 3 k_law_thing__law_number) jp_nil) rfl rfl (by simp) (by decide)) (ja_cons (j_lst ja_nil) (ja_cons (j_tup ja_nil) ja_nil))))))))))) rfl) (jb_one (js_ret (j_ix (K := K) rfl (j_vL 4 k_law_thing__law_some) (j_call h_law_take (hr.mono (by decide)) (glF k_law_thing__law_take) (ja_cons (j_vC 0 k_law_thing__law_purse_here) (ja_cons j_int ja_nil)) (by decide +kernel))))))))), ?_⟩
  walk_at "sts"
  have hs : 1000 ≤ sizeLine := by decide
  refine ⟨rfl, ?_⟩
  walk_at "sts"
  refine ⟨p, 9, rfl, hP, by omega, by omega, fun d1 H1 a1 b1 P1 C1 => ?_⟩
  walk_at "sts"
  refine ⟨_, rfl, by omega, by omega, ?_⟩
  refine comp_rng (fun i us H' => Pur H' p ∧ Chg p H1 H' ∧ ∃ zs : List Str, us = zs.map V.str ∧ zs.length = i ∧ ∀ z ∈ zs, ∃ c, z = ⟨#[c]⟩ ∧ c ∈ (Str.ofString "abcdefghijklmnopqrstuvwxyz").cps.toList) (Nat.le_trans (show d1.toNat ≤ 1000 by omega) (by decide)) ⟨P1, Chg.refl _ _, [], rfl, rfl, by intro y hy; cases hy⟩ (by rintro i ys H' ⟨_, _, zs, rfl, hl, _⟩; simp [hl]) ?_ ?_
  · rintro i us H4 hi ⟨P4, C4, zs, rfl, hl, hz⟩
    walk_at "sts"
    refine ⟨KeepSt.set rfl, ?_⟩
    walk_at "sts"
    refine ⟨p, 26, rfl, P4, by omega, by omega, fun d5 H5 a5 b5 P5 C5 => ?_⟩
    walk_at "sts"
    have e26 : (Str.ofString "abcdefghijklmnopqrstuvwxyz").cps.toList.length = 26 := by decide +kernel
    obtain ⟨c, gc⟩ : ∃ c, (Str.ofString "abcdefghijklmnopqrstuvwxyz").cps.toList[d5.toNat]? = some c := ⟨_, List.getElem?_eq_getElem (show d5.toNat < _ by omega)⟩
    refine r_ixS (by decide +kernel) (atI_int a5 gc) ⟨P5, C4.trans C5, zs ++ [⟨#[c]⟩], by simp, by simp [hl], fun x hx => ?_⟩
    rcases List.mem_append.mp hx with h | h
    · exact hz x h
    · rw [List.mem_singleton.mp h]; exact ⟨c, rfl, List.mem_of_getElem? gc⟩
  · rintro us H4 ⟨P4, C4, zs, rfl, hl, hz⟩ D hD
    walk_at "sts"
    have ones : ∀ y ∈ zs, y.length = 1 := fun y hy => by obtain ⟨c, rfl, _⟩ := hz y hy; exact len1 c
    have hs1 := sum_ones ones
    have e0 : (Str.ofString "").length = 0 := by decide +kernel
    refine r_join upd_same (by rw [hs1, e0]; omega) ?_
    walk_at "sts"
    have tl : (Txt.join (Str.ofString "") zs).length ≤ 19 := by rw [join_len ones]; omega
    have tc : ∀ c ∈ (Txt.join (Str.ofString "") zs).cps.toList, c < 16 ^ 8 := fun c hc => by
      rw [join_cps] at hc
      obtain ⟨l, hl1, hl2⟩ := List.mem_flatten.mp hc
      obtain ⟨y, hy, e⟩ := List.mem_map.mp hl1
      obtain ⟨d, rfl, hd⟩ := hz y hy
      subst e
      simp at hl2
      subst hl2
      exact lett_lt _ hd
    have lt := lf_str tc tl
    generalize Txt.join (Str.ofString "") zs = tx at tl tc lt ⊢
    have P5 := P4.new (o := .lst (zs.map V.str)) hD
    have C5 : Chg p H (upd H4 D (.lst (zs.map V.str))) := (C1.trans C4).new hD
    generalize upd H4 D (.lst (zs.map V.str)) = H5 at P5 C5 ⊢
    refine r_new rfl fun L nL => ?_
    walk_at "sts"
    refine ⟨p, 3, rfl, P5.new nL, by omega, by omega, fun d2 H6 a2 b2 P6 C6 => ?_⟩
    walk_at "sts"
    obtain ⟨w1, hw1, e1⟩ := pickI (ns := [5, 100, 10 ^ Int.toNat 40]) a2 b2
    refine r_ixL (SqL.of (C6.at_ upd_same (P5.ne nL))) e1 ?_
    walk_at "sts"
    have gw : 1 ≤ w1 ∧ w1 ≤ 10000000000000000000000000000000000000000 := by
      simp only [List.mem_cons, List.mem_nil_iff, or_false] at hw1
      rcases hw1 with rfl | rfl | rfl
      · omega
      · omega
      · exact ⟨by decide +kernel, by decide +kernel⟩
    refine ⟨p, w1, rfl, P6, by omega, by omega, fun d3 G0 a3 b3 Q0 C7 => ?_⟩
    walk_at "sts"
    have C07 : Chg p H G0 := (C5.new nL).trans (C6.trans C7)
    have ln : Lf (.int (d3 - 2)) := lf_big (by
      have : (d3 - 2).natAbs < 100000000000000000000000000000000000000000 := by omega
      exact Nat.lt_of_lt_of_le this (by decide +kernel))
    generalize d3 - 2 = num at ln ⊢
    refine r_new rfl fun e1 n1 => ?_
    walk_at "sts"
    have m1 := Q0.ne n1
    have Q1 := Q0.new (o := .lst [.str tx, .int num]) n1
    have S1 := (Same.refl G0).upd (o := .lst [.str tx, .int num]) n1
    have f1 := upd_same (H := G0) (a := e1) (o := .lst [.str tx, .int num])
    generalize upd G0 e1 (.lst [.str tx, .int num]) = G1 at Q1 S1 f1 ⊢
    refine r_new rfl fun e2 n2 => ?_
    walk_at "sts"
    have m2 := Q1.ne n2
    have Q2 := Q1.new (o := .tup [.int num, .str tx]) n2
    have S2 := (Same.refl G1).upd (o := .tup [.int num, .str tx]) n2
    have f2 := upd_same (H := G1) (a := e2) (o := .tup [.int num, .str tx])
    generalize upd G1 e2 (.tup [.int num, .str tx]) = G2 at Q2 S2 f2 ⊢
    intro e3 n3
    walk_at "sts"
    refine ⟨upd_same, [(.inr tx, .int num)], rfl, by simp, ?_⟩
    have em : mergeK [] [((Sum.inr tx : Key), V.int num)] = [(Sum.inr tx, V.int num)] := rfl
    rw [em, upd_upd]
    have m3 := Q2.ne n3
    have Q3 := Q2.new (o := .dK [(Sum.inr tx, V.int num)]) n3
    have S3 := (Same.refl G2).upd (o := .dK [(Sum.inr tx, V.int num)]) n3
    have f3 := upd_same (H := G2) (a := e3) (o := .dK [(Sum.inr tx, V.int num)])
    generalize upd G2 e3 (.dK [(Sum.inr tx, V.int num)]) = G3 at Q3 S3 f3 ⊢
    walk_at "sts"
    refine r_new rfl fun e4 n4 => ?_
    walk_at "sts"
    have m4 := Q3.ne n4
    have Q4 := Q3.new (o := .lst []) n4
    have S4 := (Same.refl G3).upd (o := .lst []) n4
    have f4 := upd_same (H := G3) (a := e4) (o := .lst [])
    generalize upd G3 e4 (.lst []) = G4 at Q4 S4 f4 ⊢
    refine r_new rfl fun e5 n5 => ?_
    walk_at "sts"
    have m5 := Q4.ne n5
    have Q5 := Q4.new (o := .tup []) n5
    have S5 := (Same.refl G4).upd (o := .tup []) n5
    have f5 := upd_same (H := G4) (a := e5) (o := .tup [])
    generalize upd G4 e5 (.tup []) = G5 at Q5 S5 f5 ⊢
    refine r_new rfl fun e6 n6 => ?_
    walk_at "sts"
    have m6 := Q5.ne n6
    have Q6 := Q5.new (o := .lst [.str tx, .int num, .bl true, .bl false, .non, .ref e1, .ref e2, .ref e3, .ref e4, .ref e5]) n6
    have S6 := (Same.refl G5).upd (o := .lst [.str tx, .int num, .bl true, .bl false, .non, .ref e1, .ref e2, .ref e3, .ref e4, .ref e5]) n6
    have f6 := upd_same (H := G5) (a := e6) (o := .lst [.str tx, .int num, .bl true, .bl false, .non, .ref e1, .ref e2, .ref e3, .ref e4, .ref e5])
    generalize upd G5 e6 (.lst [.str tx, .int num, .bl true, .bl false, .non, .ref e1, .ref e2, .ref e3, .ref e4, .ref e5]) = G6 at Q6 S6 f6 ⊢
    refine ⟨p, 10, rfl, Q6, by omega, by omega, fun c H8 c0 c1 P8 C8 => ?_⟩
    walk_at "sts"
    have T6 := Same.refl G6
    have T5 := S6.trans T6
    have T4 := S5.trans T5
    have T3 := S4.trans T4
    have T2 := S3.trans T3
    have T1 := S2.trans T2
    have T0 := S1.trans T1
    have g1 := Hx_at (C8.at_ (T1 _ _ f1) m1) m1
    have g2 := Hx_at (C8.at_ (T2 _ _ f2) m2) m2
    have g3 := Hx_at (C8.at_ (T3 _ _ f3) m3) m3
    have g4 := Hx_at (C8.at_ (T4 _ _ f4) m4) m4
    have g5 := Hx_at (C8.at_ (T5 _ _ f5) m5) m5
    have g6 := Hx_at (C8.at_ (T6 _ _ f6) m6) m6
    obtain ⟨t, ht, et⟩ := pickV (vs := [.str tx, .int num, .bl true, .bl false, .non, .ref e1, .ref e2, .ref e3, .ref e4, .ref e5]) c0 c1
    refine r_ixL (SqL.of (C8.at_ f6 m6)) et ?_
    have fin : ∀ d, RD (Hx p H8) d t → Sm d → Q t H8 := fun d r l => q t d _ r l P8 ((C07.trans (Chg.of_same T0)).trans C8)
    simp only [List.mem_cons, List.mem_nil_iff, or_false] at ht
    rcases ht with rfl | rfl | rfl | rfl | rfl | rfl | rfl | rfl | rfl | rfl
    · exact fin (.str tx) (RD_str.mpr rfl) lt.s
    · exact fin (.int num) (RD_int.mpr rfl) ln.s
    · exact fin (.bool true) (RD_bool.mpr rfl) ⟨rfl, by decide, rfl, by decide⟩
    · exact fin (.bool false) (RD_bool.mpr rfl) ⟨rfl, by decide, rfl, by decide⟩
    · exact fin .none (RD_none.mpr rfl) ⟨rfl, by decide, rfl, by decide⟩
    · exact fin (.list [.str tx, .int num]) (RD_list.mpr ⟨e1, _, rfl, g1, RDs_one (RD_str.mpr rfl) (RDs_one (RD_int.mpr rfl) (RDs_nil.mpr rfl))⟩) (sm_l2 lt ln)
    · exact fin (.tuple [.int num, .str tx]) (RD_tuple.mpr ⟨e2, _, rfl, g2, RDs_one (RD_int.mpr rfl) (RDs_one (RD_str.mpr rfl) (RDs_nil.mpr rfl))⟩) (sm_t2 ln lt)
    · exact fin (.dict [(.str tx, .int num)]) (RD_dict.mpr ⟨e3, _, rfl, g3, rfl⟩) (sm_d2 lt ln)
    · exact fin (.list []) (RD_list.mpr ⟨e4, [], rfl, g4, RDs_nil.mpr rfl⟩) ⟨rfl, by decide, rfl, by decide⟩
    · exact fin (.tuple []) (RD_tuple.mpr ⟨e5, [], rfl, g5, RDs_nil.mpr rfl⟩) ⟨rfl, by decide, rfl, by decide⟩
end

section
variable {P : Program} {w : World} {K : PySem.W.Frag} {mg : Str → Option Value} {base : Heap}
theorem nd_law_0 : (["_law_j", "_law_k"] : List Str).Nodup := by decide +kernel
theorem k_law__law_kinds : (defScope s_law).names.lookup ("_law_kinds" : Str) = some NameKind.globalImplicit := by decide +kernel
theorem k_law__law_base : (defScope s_law).names.lookup ("_law_base" : Str) = some NameKind.local := by decide +kernel
theorem k_law_isinstance : (defScope s_law).names.lookup ("isinstance" : Str) = some NameKind.globalImplicit := by decide +kernel
theorem k_law_ValueError : (defScope s_law).names.lookup ("ValueError" : Str) = some NameKind.globalImplicit := by decide +kernel
theorem k_law_PaneError : (defScope s_law).names.lookup ("PaneError" : Str) = some NameKind.globalImplicit := by decide +kernel
theorem k_law_range : (defScope s_law).names.lookup ("range" : Str) = some NameKind.globalImplicit := by decide +kernel
theorem k_law__law_k : (defScope s_law).names.lookup ("_law_k" : Str) = some NameKind.cell := by decide +kernel
theorem k_law__law_other : (defScope s_law).names.lookup ("_law_other" : Str) = some NameKind.local := by decide +kernel
theorem k_law__law_thing_here : (defScope s_law).names.lookup ("_law_thing_here" : Str) = some NameKind.local := by decide +kernel
theorem k_law__law_first : (defScope s_law).names.lookup ("_law_first" : Str) = some NameKind.local := by decide +kernel
theorem k_law__law_second : (defScope s_law).names.lookup ("_law_second" : Str) = some NameKind.local := by decide +kernel
theorem k_law__law_due : (defScope s_law).names.lookup ("_law_due" : Str) = some NameKind.local := by decide +kernel
theorem k_law__law_e : (defScope s_law).names.lookup ("_law_e" : Str) = some NameKind.local := by decide +kernel
theorem k_law__law_fields : (defScope s_law).names.lookup ("_law_fields" : Str) = some NameKind.globalImplicit := by decide +kernel
theorem k_law_repr : (defScope s_law).names.lookup ("repr" : Str) = some NameKind.globalImplicit := by decide +kernel
theorem k_law_int : (defScope s_law).names.lookup ("int" : Str) = some NameKind.globalImplicit := by decide +kernel
theorem k_law__law_made : (defScope s_law).names.lookup ("_law_made" : Str) = some NameKind.globalImplicit := by decide +kernel
theorem k_law__law_thing : (defScope s_law).names.lookup ("_law_thing" : Str) = some NameKind.globalImplicit := by decide +kernel
theorem k_law__law_purse : (defScope s_law).names.lookup ("_law_purse" : Str) = some NameKind.globalImplicit := by decide +kernel
theorem k_law__law_cell : (defScope s_law).names.lookup ("_law_cell" : Str) = some NameKind.globalImplicit := by decide +kernel
theorem k_law__law_script : (defScope s_law).names.lookup ("_law_script" : Str) = some NameKind.local := by decide +kernel
noncomputable def spLaw (K : PySem.W.Frag) : Sp := fun vs H Q _ => ∃ (a : Addr) (ns : List Int), vs = [.ref a] ∧ SqL K H a (ns.map V.int) ∧ ns.length ≤ 63 ∧ ∀ H', Q (.bl true) H'
theorem DRs_bools {H : Hp} : ∀ (bs : List Bool), DRs H (bs.map PyData.bool) (bs.map V.bl)
  | [] => DRs_nil.mpr rfl
  | b :: bs => DRs_cons.mpr ⟨_, _, rfl, DR_bool.mpr rfl, DRs_bools bs⟩
theorem shaped_bools (bs : List Bool) : PySem.SeqAt.shaped (.list (bs.map PyData.bool)) = true := lay_shaped (lay_list (n := 0) fun d hd => by
  obtain ⟨b, _, rfl⟩ := List.mem_map.mp hd
  exact ⟨by simp [PyData.canLay0], by simp [PyData.depth]⟩) (by omega)
theorem cut_due {k : Nat} (hk : k < 21) (t u : V) : cutV [t, u] none (some (1 + (if decide ((18 : Int) < (k : Int)) = true then (1 : Int) else 0))) = if k < 19 then [t] else [t, u] := by
  by_cases h : k < 19
  · rw [if_pos h, if_neg (by simp; omega)]; rfl
  · rw [if_neg h, if_pos (by simp; omega)]; rfl
theorem sc_law : FnScope ["_law_script", "_law_thing_here", "_law_other", "_law_k", "_law_first", "_law_second", "_law_e", "_law_due", "_law_base"] ["_law_script"] (defScope s_law) := ⟨rfl, rfl, rfl, by decide +kernel, rfl, by decide +kernel, by decide +kernel⟩
theorem ok_law (T : Txt K mg) {f0 : Addr} {fd0 : FuncData} (F0 : Fun K "law" "law" s_law f0 fd0) : FnOk P w K mg base CX0 4 f0 fd0 ["_law_script"] (spLaw K) := by
  have h_law_thing := h_law_thing (P := P) (w := w) (base := base) T
  have h_law_purse := h_law_purse (P := P) (w := w) (base := base) T
  have h_law_cell := h_law_cell (P := P) (w := w) (base := base) T
  have h_law_made := h_law_made (P := P) (w := w) (base := base) T
  have h_law_kinds := h_law_kinds (P := P) (w := w) (base := base) T
  have h_law_fields := h_law_fields (P := P) (w := w) (base := base) T
  refine okJ F0 sc_law ?_ fun f cdv A outer s H vs Q E hr h => ?_
  · rintro vs H Q E ⟨a, ns, rfl, _⟩; rfl
  obtain ⟨a, ns, rfl, hS, hlen, q⟩ := h
  have hu := hr.units0
  have hu64 := hr.units
  refine ⟨_, (jb_cons (js_set (i := 1) sc_law.nd rfl (Or.inl k_law__law_thing_here) (j_call h_law_thing (hr.mono (by decide)) (glF k_law__law_thing) (ja_cons (j_call h_law_purse (hr.mono (by decide)) (glF k_law__law_purse) (ja_cons (j_call h_law_cell (hr.mono (by decide)) (glF k_law__law_cell) (ja_cons (j_vL 0 k_law__law_script) (ja_cons j_int ja_nil)) (by decide +kernel)) ja_nil) (by decide +kernel)) ja_nil) (by decide +kernel)) rfl) (jb_cons (js_set (i := 2) sc_law.nd rfl (Or.inl k_law__law_other) (j_call h_law_thing (hr.mono (by decide)) (glF k_law__law_thing) (ja_cons (j_call h_law_purse (hr.mono (by decide)) (glF k_law__law_purse) (ja_cons (j_call h_law_cell (hr.mono (by decide)) (glF k_law__law_cell) (ja_cons (j_vL 0 k_law__law_script) (ja_cons j_int ja_nil)) (by decide +kernel)) ja_nil) (by decide +kernel)) ja_nil) (by decide +kernel)) rfl) (jb_cons (js_for PassesOwn.never rfl (ji_range1 (glF k_law_range) T.b_range (ja_cons j_int ja_nil)) (jg_name (i := 3) sc_law.nd rfl (Or.inr k_law__law_k) rfl) (jb_cons (js_set (i := 4) sc_law.nd rfl (Or.inl k_law__law_first) (j_call h_law_made (hr.mono (by decide)) (glF k_law__law_made) (ja_cons (j_vC 3 k_law__law_k) (ja_cons (j_vL 1 k_law__law_thing_here) (ja_cons (j_vL 2 k_law__law_other) ja_nil))) (by decide +kernel)) rfl) (jb_cons (js_set (i := 5) sc_law.nd rfl (Or.inl k_law__law_second) (j_call h_law_made (hr.mono (by decide)) (glF k_law__law_made) (ja_cons (j_vC 3 k_law__law_k) (ja_cons (j_vL 2 k_law__law_other) (ja_cons (j_vL 1 k_law__law_thing_here) ja_nil))) (by decide +kernel)) rfl) (jb_one (js_for PassesOwn.never rfl (ji_seq (K := K) rfl (j_lst (ja_cons (j_tup (ja_cons (j_vL 4 k_law__law_first) (ja_cons (j_lst (ja_cons (j_vL 1 k_law__law_thing_here) (ja_cons (j_vL 2 k_law__law_other) ja_nil))) ja_nil))) (ja_cons (j_tup (ja_cons (j_vL 5 k_law__law_second) (ja_cons (j_lst (ja_cons (j_vL 2 k_law__law_other) (ja_cons (j_vL 1 k_law__law_thing_here) ja_nil))) ja_nil))) (ja_cons (j_tup (ja_cons (j_vL 4 k_law__law_first) (ja_cons (j_lst (ja_cons (j_vL 1 k_law__law_thing_here) (ja_cons (j_vL 2 k_law__law_other) ja_nil))) ja_nil))) ja_nil))))) (jg_tup (K := K) rfl rfl (jgs_cons (jg_name (i := 6) sc_law.nd rfl (Or.inl k_law__law_e) rfl) (jgs_cons (jg_name (i := 7) sc_law.nd rfl (Or.inl k_law__law_due) rfl) jgs_nil))) (jb_cons (js_if (jw_pt (jw_or (jt_not (jt_val (j_callB (call_isiY (K := K) rfl) (glF k_law_isinstance) T.b_isinstance bt_isinstance (ja_cons (j_vL 6 k_law__law_e) (ja_cons (j_cls (glF k_law_PaneError) T.x_PaneError.at_ (by decide +kernel)) ja_nil)) (by decide +kernel) (by decide +kernel)))) (jw_or1 (jt_not (jt_val (j_callB (call_isiY (K := K) rfl) (glF k_law_isinstance) T.b_isinstance bt_isinstance (ja_cons (j_vL 6 k_law__law_e) (ja_cons (j_ty (glF k_law_ValueError) T.b_ValueError bt_ValueError (by decide +kernel) (by decide +kernel)) ja_nil)) (by decide +kernel) (by decide +kernel))))))) (jb_one (js_ret j_bl)) jb_nil) (jb_one (js_if (jw_pt (jw_or (jt_cmp (op_neX (K := K) rfl hu64) (j_call h_law_kinds (hr.mono (by decide)) (glF k_law__law_kinds) (ja_cons (j_vL 6 k_law__law_e) ja_nil) (by decide +kernel)) (j_comp (sub := [none, some 3]) (subOk_of (N := ["_law_script", "_law_thing_here", "_law_other", "_law_k", "_law_first", "_law_second", "_law_e", "_law_due", "_law_base"]) (sc := defScope s_law) (N' := ["_law_j", "_law_k"]) (by decide +kernel)) rfl rfl rfl (ji_range1 (glF k_law_range) T.b_range (ja_cons j_int ja_nil)) (fun C s₀ H₀ ex => (jg_B 0 (by decide +kernel) nd_law_0)) (fun C s₀ H₀ ex => jif_nil) (fun C s₀ H₀ ex => (j_cmp (op_eqX (K := K) rfl hu64) (j_vBF 1 (by decide +kernel)) (j_vBL 0 (by decide +kernel)) (by first | exact nomark _ | with_unfolding_all rfl)))) (by first | exact nomark _ | with_unfolding_all rfl)) (jw_or1 (jt_cmp (op_neX (K := K) rfl hu64) (j_call h_law_fields (hr.mono (by decide)) (glF k_law__law_fields) (ja_cons (j_vL 6 k_law__law_e) (ja_cons (j_vC 3 k_law__law_k) ja_nil)) (by decide +kernel)) (j_callB (call_reprR hr.gd hu64) (glF k_law_repr) T.b_repr bt_repr (ja_cons (j_slice (sl_seqK (K := K) rfl) (j_vL 7 k_law__law_due) jo_none (jo_some (j_op op_addA j_int (j_callTy call_int1 (glF k_law_int) T.b_int bt_int (ja_cons (j_cmp op_gt (j_vC 3 k_law__law_k) j_int (by first | exact nomark _ | with_unfolding_all rfl)) ja_nil) (by decide +kernel) (by decide +kernel))))) ja_nil) (by decide +kernel) (by decide +kernel)) (by first | exact nomark _ | with_unfolding_all rfl))))) (jb_one (js_ret j_bl)) jb_nil)))))))) (jb_cons (js_set (i := 8) sc_law.nd rfl (Or.inl k_law__law_base) (j_mk0 (K := K) rfl T.z_PaneError (glF k_law_PaneError) (ja_cons j_str ja_nil) (by decide +kernel)) rfl) (jb_one (js_ret (j_and (j_callB (call_isiY (K := K) rfl) (glF k_law_isinstance) T.b_isinstance bt_isinstance (ja_cons (j_vL 8 k_law__law_base) (ja_cons (j_ty (glF k_law_ValueError) T.b_ValueError bt_ValueError (by decide +kernel) (by decide +kernel)) ja_nil)) (by decide +kernel) (by decide +kernel)) (j_one (j_cmp (op_notInK (K := K) rfl) j_bl (j_call h_law_kinds (hr.mono (by decide)) (glF k_law__law_kinds) (ja_cons (j_vL 8 k_law__law_base) ja_nil) (by decide +kernel)) (by first | exact nomark _ | with_unfolding_all rfl)))))))))), ?_⟩
  walk_at "sts"
  refine ⟨a, ns, 0, rfl, hS, by omega, fun c0 => ?_⟩
  walk_at "sts"
  refine ⟨c0, rfl, fun p H1 np C1 P1 => ?_⟩
  walk_at "sts"
  refine ⟨p, rfl, P1, fun t dt H2 R2 D2 P2 C2 => ?_⟩
  walk_at "sts"
  have Sx : Same H H2 := (C1.trans C2).same np
  refine ⟨a, ns, 1, rfl, Sx.seq hS, by omega, fun c1 => ?_⟩
  walk_at "sts"
  refine ⟨c1, rfl, fun p2 H3 np2 C3 P3 => ?_⟩
  walk_at "sts"
  refine ⟨p2, rfl, P3, fun u du H4 R4 D4 P4 C4 => ?_⟩
  walk_at "sts"
  have S24 : Same H2 H4 := (C3.trans C4).same np2
  have Rt : RD H4 dt t := RD.same S24 _ _ (RD.same (Hx_same p H2) _ _ R2)
  have Ru : RD H4 du u := RD.same (Hx_same p2 H4) _ _ R4
  refine ⟨_, rfl, by omega, by omega, ?_⟩
  refine for_range (fun j σ H' => Same H4 H' ∧ ∃ x3 x4 x5 x6 x7 x8, σ = [some (.ref a), some t, some u, x3, x4, x5, x6, x7, x8])
    ⟨Same.refl _, none, none, none, none, none, none, rfl⟩ ?_ ?_
  · rintro k σ H5 hk0 ⟨S5, x3, x4, x5, x6, x7, x8, rfl⟩
    have hk : k < 21 := hk0
    rw [show (0 + (k : Int)) = (k : Int) by omega]
    walk_at "sts"
    refine ⟨k, t, u, rfl, hk, fun x1 H6 m1 S6 X1 => ?_⟩
    walk_at "sts"
    refine ⟨k, u, t, rfl, hk, fun x2 H7 m2 S7 X2 => ?_⟩
    walk_at "sts"
    refine r_new rfl fun l1 k1 => ?_
    walk_at "sts"
    have Sa := (Same.refl H7).upd (o := .lst [t, u]) k1
    have fa := upd_same (H := H7) (a := l1) (o := .lst [t, u])
    generalize upd H7 l1 (.lst [t, u]) = G1 at Sa fa ⊢
    refine r_new rfl fun q1 k2 => ?_
    walk_at "sts"
    have Sb := (Same.refl G1).upd (o := .tup [.ref x1, .ref l1]) k2
    have fb := upd_same (H := G1) (a := q1) (o := .tup [.ref x1, .ref l1])
    generalize upd G1 q1 (.tup [.ref x1, .ref l1]) = G2 at Sb fb ⊢
    refine r_new rfl fun l2 k3 => ?_
    walk_at "sts"
    have Sc := (Same.refl G2).upd (o := .lst [u, t]) k3
    have fc := upd_same (H := G2) (a := l2) (o := .lst [u, t])
    generalize upd G2 l2 (.lst [u, t]) = G3 at Sc fc ⊢
    refine r_new rfl fun q2 k4 => ?_
    walk_at "sts"
    have Sd := (Same.refl G3).upd (o := .tup [.ref x2, .ref l2]) k4
    have fd := upd_same (H := G3) (a := q2) (o := .tup [.ref x2, .ref l2])
    generalize upd G3 q2 (.tup [.ref x2, .ref l2]) = G4 at Sd fd ⊢
    refine r_new rfl fun l3 k5 => ?_
    walk_at "sts"
    have Se := (Same.refl G4).upd (o := .lst [t, u]) k5
    have fe := upd_same (H := G4) (a := l3) (o := .lst [t, u])
    generalize upd G4 l3 (.lst [t, u]) = G5 at Se fe ⊢
    refine r_new rfl fun q3 k6 => ?_
    walk_at "sts"
    have Sf := (Same.refl G5).upd (o := .tup [.ref x1, .ref l3]) k6
    have ff := upd_same (H := G5) (a := q3) (o := .tup [.ref x1, .ref l3])
    generalize upd G5 q3 (.tup [.ref x1, .ref l3]) = G6 at Sf ff ⊢
    refine r_new rfl fun B nB => ?_
    have Sg := (Same.refl G6).upd (o := .lst [.ref q1, .ref q2, .ref q3]) nB
    have fg := upd_same (H := G6) (a := B) (o := .lst [.ref q1, .ref q2, .ref q3])
    generalize upd G6 B (.lst [.ref q1, .ref q2, .ref q3]) = G7 at Sg fg ⊢
    have Tg := Same.refl G7
    have Tf := Sg.trans Tg
    have Te := Sf.trans Tf
    have Td := Se.trans Te
    have Tc := Sd.trans Td
    have Tb := Sc.trans Tc
    have Ta := Sb.trans Tb
    have T0 := Sa.trans Ta
    have S67 := S6.trans S7
    have SB : Same H4 G7 := (S5.trans S67).trans T0
    have cl := T.kits.cl k (by omega)
    have kp : PySem.W.kitOne K (.ref (clsN mg k)) (.ref (clsN mg 21)) = some true := by rw [T.kits.kit k 21 (by omega) (by omega)]; simp
    refine .inl ⟨B, rfl, ⟨_, SqL.of fg⟩, ?_⟩
    refine for_list (xs := [.ref q1, .ref q2, .ref q3]) (fun i σ H' => Same G7 H' ∧ ∃ x6 x7 x8, σ = [some (.ref a), some t, some u, some (.int k), some (.ref x1), some (.ref x2), x6, x7, x8])
      ⟨Same.refl _, _, _, _, rfl⟩ (fun i σ H' _ h => SqL.of (h.1 _ _ fg)) ?_ ?_
    · rintro i v σ H8 hi ⟨S8, x6, x7, x8, rfl⟩
      obtain ⟨qq, x, l, s, s', ds, ds', rfl, hq, hl, hX, r1, r2, d1, d2⟩ : ∃ (qq x l : Addr) (s s' : V) (ds ds' : PyData), v = .ref qq ∧ H8 qq = some (.tup [.ref x, .ref l]) ∧ H8 l = some (.lst [s, s']) ∧ IsX H8 x (clsN mg k) (flds k s s') ∧ RD H8 ds s ∧ RD H8 ds' s' ∧ Sm ds ∧ Sm ds' := by
        have hm := List.mem_of_getElem? hi
        have SX := SB.trans S8
        simp only [List.mem_cons, List.mem_nil_iff, or_false] at hm
        rcases hm with rfl | rfl | rfl
        · exact ⟨q1, x1, l1, t, u, dt, du, rfl, S8 _ _ (Tb _ _ fb), S8 _ _ (Ta _ _ fa), ((X1.same S7).same T0).same S8, RD.same SX _ _ Rt, RD.same SX _ _ Ru, D2, D4⟩
        · exact ⟨q2, x2, l2, u, t, du, dt, rfl, S8 _ _ (Td _ _ fd), S8 _ _ (Tc _ _ fc), (X2.same T0).same S8, RD.same SX _ _ Ru, RD.same SX _ _ Rt, D4, D2⟩
        · exact ⟨q3, x1, l3, t, u, dt, du, rfl, S8 _ _ (Tf _ _ ff), S8 _ _ (Te _ _ fe), ((X1.same S7).same T0).same S8, RD.same SX _ _ Rt, RD.same SX _ _ Ru, D2, D4⟩
      refine r_gtup (SqT.of hq) rfl ?_
      have ie : IsE H8 x (clsN mg k) := .inl ⟨_, hX⟩
      walk_at "sts"
      refine r_isiY ie cl rfl kp ?_
      walk_at "sts"
      refine r_isiY ie cl rfl (T.kits.val k (by omega)) ?_
      walk_at "sts"
      refine ⟨x, k, rfl, by omega, ie, fun r H9 nr S9 hr => ?_⟩
      walk_at "sts"
      refine ⟨_, rfl, by omega, by omega, ?_⟩
      refine comp_rng (n := 21) (fun i ys H' => H' = H9 ∧ ys = ((List.range i).map fun j => decide (k = j)).map V.bl) (by decide) ⟨rfl, rfl⟩ (by rintro i ys H' ⟨_, rfl⟩; simp) ?_ ?_
      · rintro i ys H' hi2 ⟨rfl, rfl⟩
        walk_at "sts"
        refine ⟨KeepSt.set rfl, ?_⟩
        walk_at "sts"
        refine ⟨rfl, ?_⟩
        rw [List.range_succ, List.map_append, List.map_append]
        have : decide (V.int (k : Int) = V.int (0 + (i : Int))) = decide (k = i) := by
          refine decide_eq_decide.mpr ⟨fun z => by injection z with z; omega, fun z => by subst z; congr 1; omega⟩
        rw [this]; rfl
      · rintro ys H' ⟨rfl, rfl⟩ D hD
        have SD := (Same.refl H').upd (o := .lst (((List.range 21).map fun j => decide (k = j)).map V.bl)) hD
        have fD := upd_same (H := H') (a := D) (o := .lst (((List.range 21).map fun j => decide (k = j)).map V.bl))
        have hr' := SD _ _ hr
        generalize upd H' D (.lst (((List.range 21).map fun j => decide (k = j)).map V.bl)) = HD at SD fD hr' ⊢
        walk_at "sts"
        refine r_neSame (d := .list (((List.range 21).map fun j => decide (k = j)).map PyData.bool)) (DR_list.mpr ⟨r, _, rfl, hr', DRs_bools _⟩) (DR_list.mpr ⟨D, _, rfl, fD, DRs_bools _⟩) (shaped_bools _) ?_
        walk_at "sts"
        have S8D := S9.trans SD
        refine ⟨x, k, s, s', ds, ds', rfl, hk, hX.same S8D, RD.same S8D _ _ r1, RD.same S8D _ _ r2, d1, d2, fun HE SE => ?_⟩
        walk_at "sts"
        have S8E := S8D.trans SE
        refine .inr ⟨_, rfl, ?_⟩
        walk_at "sts"
        refine r_slL (SqL.of (S8E _ _ hl)) fun m nm => ?_
        rw [cut_due hk]
        obtain ⟨o1, o2, o3⟩ := shD_ok (k := k) d1 d2
        have SM := S8E.upd (o := .lst (if k < 19 then [s] else [s, s'])) nm
        have fM := upd_same (H := HE) (a := m) (o := .lst (if k < 19 then [s] else [s, s']))
        generalize upd HE m (.lst (if k < 19 then [s] else [s, s'])) = HM at SM fM ⊢
        have rM : RD HM (shD k ds ds') (.ref m) := by
          refine RD_list.mpr ⟨m, _, rfl, fM, ?_⟩
          by_cases h : k < 19
          · rw [if_pos h, if_pos h]; exact RDs_one (RD.same SM _ _ r1) (RDs_nil.mpr rfl)
          · rw [if_neg h, if_neg h]; exact RDs_one (RD.same SM _ _ r1) (RDs_one (RD.same SM _ _ r2) (RDs_nil.mpr rfl))
        walk_at "sts"
        refine r_reprR rM o1 o2 o3 ?_
        walk_at "sts"
        rw [decide_eq_true rfl]
        walk_at "sts"
        exact ⟨S8.trans SM, _, _, _, rfl⟩
    · rintro σ H8 ⟨S8, x6, x7, x8, rfl⟩
      exact ⟨SB.trans S8, _, _, _, _, _, _, rfl⟩
  · rintro σ H5 ⟨S5, x3, x4, x5, x6, x7, x8, rfl⟩
    walk_at "sts"
    refine ⟨(show 1 ≤ sizeLine by decide), fun x nx => ?_⟩
    walk_at "sts"
    have ie : IsE (upd H5 x (excRaw x (clsA mg "PaneError"))) x (clsN mg 21) := .inr upd_same
    refine r_isiY ie (T.kits.cl 21 (by omega)) rfl (T.kits.val 21 (by omega)) ?_
    walk_at "sts"
    refine ⟨x, 21, rfl, by omega, ie, fun r H6 nr S6 hr => ?_⟩
    refine .inr ⟨r, _, rfl, .inl (SqL.of hr), rfl, by decide +kernel, ?_⟩
    have : inV (.bl true) (((List.range 21).map fun j => decide (21 = j)).map V.bl) = false := by decide +kernel
    rw [if_pos rfl, this]
    exact q _
end

end My
noncomputable def PySem.W.Fast.tw15329197184907115292 : Nat := 0
noncomputable def PySem.W.Fast.tw164331525461458777 : Nat := 0
noncomputable def PySem.W.Fast.tw17065675538556865233 : Nat := 0
noncomputable def PySem.W.Fast.tw16394157142175447648 : Nat := 0
noncomputable def PySem.W.Fast.tw12407855236729327701 : Nat := 0
noncomputable def PySem.W.Fast.tw10980957621015887226 : Nat := 0
noncomputable def PySem.W.Fast.tw5631308581305946109 : Nat := 0
noncomputable def PySem.W.Fast.tw12065978377778397982 : Nat := 0
noncomputable def PySem.W.Fast.tw3829226406914714923 : Nat := 0
noncomputable def PySem.W.Fast.tw16956907762599455669 : Nat := 0
noncomputable def PySem.W.Fast.tw13956414594769128395 : Nat := 0
noncomputable def PySem.W.Fast.tw11167594477059265373 : Nat := 0
noncomputable def PySem.W.Fast.tw16038217966450572963 : Nat := 0
noncomputable def PySem.W.Fast.tw260014056506519269 : Nat := 0
noncomputable def PySem.W.Fast.tw4363181428921627803 : Nat := 0
noncomputable def PySem.W.Fast.tw324842263965462701 : Nat := 0
noncomputable def PySem.W.Fast.tw17989412210115820772 : Nat := 0
noncomputable def PySem.W.Fast.tw6669655407347755616 : Nat := 0
noncomputable def PySem.W.Fast.tw11112526833740710612 : Nat := 0
noncomputable def PySem.W.Fast.tw6859036087245768927 : Nat := 0
noncomputable def PySem.W.Fast.tw8022069040382142440 : Nat := 0
noncomputable def PySem.W.Fast.tw13025871459936281768 : Nat := 0
noncomputable def PySem.W.Fast.tw17831960869024954520 : Nat := 0
noncomputable def PySem.W.Fast.tw9832287170880847972 : Nat := 0
noncomputable def PySem.W.Fast.tw10579413480831947336 : Nat := 0
noncomputable def PySem.W.Fast.tw17208044951797417410 : Nat := 0
noncomputable def PySem.W.Fast.tw17619797883176135142 : Nat := 0
noncomputable def PySem.W.Fast.tw17685000876796445763 : Nat := 0
noncomputable def PySem.W.Fast.tw14019810930495231613 : Nat := 0
noncomputable def PySem.W.Fast.tw5284418796933267072 : Nat := 0
noncomputable def PySem.W.Fast.tw13487282278569119189 : Nat := 0
noncomputable def PySem.W.Fast.tw2434811666111750507 : Nat := 0
noncomputable def PySem.W.Fast.tw17257180255245836513 : Nat := 0
noncomputable def PySem.W.Fast.tw4585793125083398447 : Nat := 0
noncomputable def PySem.W.Fast.tw13926177579610860926 : Nat := 0
noncomputable def PySem.W.Fast.tw12895393869840255068 : Nat := 0
noncomputable def PySem.W.Fast.tw1579317856648621342 : Nat := 0
noncomputable def PySem.W.Fast.tw12181376439160319550 : Nat := 0
noncomputable def PySem.W.Fast.tw6948759479624598028 : Nat := 0
noncomputable def PySem.W.Fast.tw17244202580738566592 : Nat := 0
noncomputable def PySem.W.Fast.tw11806708035935404132 : Nat := 0
noncomputable def PySem.W.Fast.tw8563988339658712392 : Nat := 0
noncomputable def PySem.W.Fast.tw10494896803962165477 : Nat := 0
noncomputable def PySem.W.Fast.tw8988450186717584963 : Nat := 0
noncomputable def PySem.W.Fast.tw9841030905065841452 : Nat := 0
noncomputable def PySem.W.Fast.tw2385397700954513426 : Nat := 0
noncomputable def PySem.W.Fast.tw8624819195328292085 : Nat := 0
noncomputable def PySem.W.Fast.tw12623956413318846658 : Nat := 0
noncomputable def PySem.W.Fast.tw418368909427477609 : Nat := 0
noncomputable def PySem.W.Fast.tw12633911096015869340 : Nat := 0
noncomputable def PySem.W.Fast.tw16943003796099238459 : Nat := 0
noncomputable def PySem.W.Fast.tw6955596912473962641 : Nat := 0
noncomputable def PySem.W.Fast.tw18106924266690548820 : Nat := 0
noncomputable def PySem.W.Fast.tw4151275988437327000 : Nat := 0
noncomputable def PySem.W.Fast.tw13120847443700826361 : Nat := 0
noncomputable def PySem.W.Fast.tw11205239032914390784 : Nat := 0
noncomputable def PySem.W.Fast.tw322661476306783643 : Nat := 0
noncomputable def PySem.W.Fast.tw8463921179976797776 : Nat := 0
noncomputable def PySem.W.Fast.tw948896384866353489 : Nat := 0
noncomputable def PySem.W.Fast.tw1544467232473848162 : Nat := 0
noncomputable def PySem.W.Fast.tw5245338865208570662 : Nat := 0
noncomputable def PySem.W.Fast.tw3941517091894585878 : Nat := 0
noncomputable def PySem.W.Fast.tw8309845546427269076 : Nat := 0
noncomputable def PySem.W.Fast.tw389391126445466333 : Nat := 0
noncomputable def PySem.W.Fast.tw296289149809391703 : Nat := 0
noncomputable def PySem.W.Fast.tw17613001311569016580 : Nat := 0
noncomputable def PySem.W.Fast.tw3089212921462716051 : Nat := 0
noncomputable def PySem.W.Fast.tw9604505947060910681 : Nat := 0
noncomputable def PySem.W.Fast.tw16268878545813819286 : Nat := 0
noncomputable def PySem.W.Fast.tw7291639540545004691 : Nat := 0
noncomputable def PySem.W.Fast.tw4613262429697315339 : Nat := 0
noncomputable def PySem.W.Fast.tw9471012655509270789 : Nat := 0
noncomputable def PySem.W.Fast.tw1137060243973910358 : Nat := 0
noncomputable def PySem.W.Fast.tw8994332229307983177 : Nat := 0
noncomputable def PySem.W.Fast.tw7705932460948158411 : Nat := 0
noncomputable def PySem.W.Fast.tw6234606397220114115 : Nat := 0
noncomputable def PySem.W.Fast.tw16967940170625100578 : Nat := 0
noncomputable def PySem.W.Fast.tw1688500466660671700 : Nat := 0
noncomputable def PySem.W.Fast.tw683645085508650845 : Nat := 0
noncomputable def PySem.W.Fast.tw7935874649456250939 : Nat := 0
noncomputable def PySem.W.Fast.tw11013120745229581911 : Nat := 0
noncomputable def PySem.W.Fast.tw13619993557943464348 : Nat := 0
noncomputable def PySem.W.Fast.tw4084877394349856500 : Nat := 0
noncomputable def PySem.W.Fast.tw16703006922428491762 : Nat := 0
noncomputable def PySem.W.Fast.tw5376104242091408648 : Nat := 0
noncomputable def PySem.W.Fast.tw7888125623157833772 : Nat := 0
noncomputable def PySem.W.Fast.tw3471630592561468960 : Nat := 0
noncomputable def PySem.W.Fast.tw5341860942391011406 : Nat := 0
noncomputable def PySem.W.Fast.tw7244187176831026899 : Nat := 0
noncomputable def PySem.W.Fast.tw15194218412927278229 : Nat := 0
noncomputable def PySem.W.Fast.tw6982590175044017496 : Nat := 0
noncomputable def PySem.W.Fast.tw17195147288681993500 : Nat := 0
noncomputable def PySem.W.Fast.tw16572142545391993378 : Nat := 0
noncomputable def PySem.W.Fast.tw14357483855177067977 : Nat := 0
noncomputable def PySem.W.Fast.tw387082358599114711 : Nat := 0
noncomputable def PySem.W.Fast.tw4546209587309831401 : Nat := 0
noncomputable def PySem.W.Fast.tw15624305884073887651 : Nat := 0
noncomputable def PySem.W.Fast.tw17815627145712426375 : Nat := 0
noncomputable def PySem.W.Fast.tw13217120158928868953 : Nat := 0
noncomputable def PySem.W.Fast.tw850022807453437226 : Nat := 0
noncomputable def PySem.W.Fast.tw1638727295580780627 : Nat := 0
noncomputable def PySem.W.Fast.tw14966649690069225584 : Nat := 0
noncomputable def PySem.W.Fast.tw5331790018068027691 : Nat := 0
noncomputable def PySem.W.Fast.tw3815850965378640187 : Nat := 0
noncomputable def PySem.W.Fast.tw5491055291368257747 : Nat := 0
noncomputable def PySem.W.Fast.tw1851741558412673847 : Nat := 0
noncomputable def PySem.W.Fast.tw14939455196882454217 : Nat := 0
noncomputable def PySem.W.Fast.tw7664095779478124426 : Nat := 0
noncomputable def PySem.W.Fast.tw17790325228557613297 : Nat := 0
noncomputable def PySem.W.Fast.tw6971475835952097079 : Nat := 0
noncomputable def PySem.W.Fast.tw4375179785432111531 : Nat := 0
noncomputable def PySem.W.Fast.tw8099722353362750342 : Nat := 0
noncomputable def PySem.W.Fast.tw11522132971397946677 : Nat := 0
noncomputable def PySem.W.Fast.tw14032116097957677794 : Nat := 0
noncomputable def PySem.W.Fast.tw16398259586823327371 : Nat := 0
noncomputable def PySem.W.Fast.tw6179749381444361270 : Nat := 0
noncomputable def PySem.W.Fast.tw11241547798996729641 : Nat := 0
noncomputable def PySem.W.Fast.tw4258356963485210667 : Nat := 0
noncomputable def PySem.W.Fast.tw13954088980137330230 : Nat := 0
noncomputable def PySem.W.Fast.tw16681494268670372963 : Nat := 0
noncomputable def PySem.W.Fast.tw6744788250206897331 : Nat := 0
noncomputable def PySem.W.Fast.tw16326962006230290748 : Nat := 0
noncomputable def PySem.W.Fast.tw4441907996479321201 : Nat := 0
noncomputable def PySem.W.Fast.tw9331496610751350361 : Nat := 0
noncomputable def PySem.W.Fast.tw650925075149015053 : Nat := 0
noncomputable def PySem.W.Fast.tw6869464549240445024 : Nat := 0
noncomputable def PySem.W.Fast.tw7259490397801423529 : Nat := 0
noncomputable def PySem.W.Fast.tw9957360180076689236 : Nat := 0
noncomputable def PySem.W.Fast.tw11008760029093147165 : Nat := 0
noncomputable def PySem.W.Fast.tw13737114988258503915 : Nat := 0
noncomputable def PySem.W.Fast.tw14059578588754882518 : Nat := 0
noncomputable def PySem.W.Fast.tw11548830114128005469 : Nat := 0
noncomputable def PySem.W.Fast.tw6095294028400713132 : Nat := 0
noncomputable def PySem.W.Fast.tw5614551807524667685 : Nat := 0
noncomputable def PySem.W.Fast.tw9991935710532822142 : Nat := 0
noncomputable def PySem.W.Fast.tw624546430152628861 : Nat := 0
noncomputable def PySem.W.Fast.tw15274221783926228359 : Nat := 0
noncomputable def PySem.W.Fast.tw8600153946806709307 : Nat := 0
noncomputable def PySem.W.Fast.tw9290207014061614231 : Nat := 0
noncomputable def PySem.W.Fast.tw16683945953788055864 : Nat := 0
noncomputable def PySem.W.Fast.tw13368033747462419619 : Nat := 0
noncomputable def PySem.W.Fast.tw6796876291371173708 : Nat := 0
noncomputable def PySem.W.Fast.tw9667831793613149875 : Nat := 0
noncomputable def PySem.W.Fast.tw13771674593283494747 : Nat := 0
noncomputable def PySem.W.Fast.tw17008209385295387209 : Nat := 0
noncomputable def PySem.W.Fast.tw3094876253172580602 : Nat := 0
noncomputable def PySem.W.Fast.tw7453901232946522482 : Nat := 0
noncomputable def PySem.W.Fast.tw3522853844994881590 : Nat := 0
noncomputable def PySem.W.Fast.tw9498416936105543452 : Nat := 0
noncomputable def PySem.W.Fast.tw9467694523921346105 : Nat := 0
noncomputable def PySem.W.Fast.tw7122172767267991476 : Nat := 0
noncomputable def PySem.W.Fast.tw451275668782926279 : Nat := 0
noncomputable def PySem.W.Fast.tw17580255498349593798 : Nat := 0
noncomputable def PySem.W.Fast.tw1881331389512189145 : Nat := 0
noncomputable def PySem.W.Fast.tw9066367465781023438 : Nat := 0
noncomputable def PySem.W.Fast.tw2273868637957970654 : Nat := 0
noncomputable def PySem.W.Fast.tw13077800156440942325 : Nat := 0
noncomputable def PySem.W.Fast.tw8306255203656129028 : Nat := 0
noncomputable def PySem.W.Fast.tw6371533220041865554 : Nat := 0
noncomputable def PySem.W.Fast.tw3139330218704277702 : Nat := 0
noncomputable def PySem.W.Fast.tw3545056418676091534 : Nat := 0
noncomputable def PySem.W.Fast.tw14094134707555156078 : Nat := 0
noncomputable def PySem.W.Fast.tw11184942868474540272 : Nat := 0
noncomputable def PySem.W.Fast.tw5244706623271509456 : Nat := 0
noncomputable def PySem.W.Fast.tw2131194290004534367 : Nat := 0
noncomputable def PySem.W.Fast.tw15423514121901060780 : Nat := 0
noncomputable def PySem.W.Fast.tw13718512299024474345 : Nat := 0
noncomputable def PySem.W.Fast.tw2616679321823050061 : Nat := 0
noncomputable def PySem.W.Fast.tw17878774185766096278 : Nat := 0
noncomputable def PySem.W.Fast.tw6278900266702843306 : Nat := 0
noncomputable def PySem.W.Fast.tw13193871333735834163 : Nat := 0
noncomputable def PySem.W.Fast.tw11084580040746265140 : Nat := 0
noncomputable def PySem.W.Fast.tw14088479558222243489 : Nat := 0
noncomputable def PySem.W.Fast.tw5466960918718369634 : Nat := 0
noncomputable def PySem.W.Fast.tw690930873955520889 : Nat := 0
noncomputable def PySem.W.Fast.tw10231790919705202395 : Nat := 0
noncomputable def PySem.W.Fast.tw6801720057378554210 : Nat := 0
noncomputable def PySem.W.Fast.tw1236402406201913532 : Nat := 0
noncomputable def PySem.W.Fast.tw973936877879971796 : Nat := 0
noncomputable def PySem.W.Fast.tw14773926770035450314 : Nat := 0
noncomputable def PySem.W.Fast.tw9187868152434211587 : Nat := 0
noncomputable def PySem.W.Fast.tw11421357385812896541 : Nat := 0
noncomputable def PySem.W.Fast.tw17089754417118215892 : Nat := 0
noncomputable def PySem.W.Fast.tw7539775500229686861 : Nat := 0
noncomputable def PySem.W.Fast.tw3634612349148998205 : Nat := 0
noncomputable def PySem.W.Fast.tw1096779012455025655 : Nat := 0
noncomputable def PySem.W.Fast.tw6082427627915874763 : Nat := 0
noncomputable def PySem.W.Fast.tw15111226413809949672 : Nat := 0
noncomputable def PySem.W.Fast.tw8986187849421278616 : Nat := 0
noncomputable def PySem.W.Fast.tw7058179538702531152 : Nat := 0
noncomputable def PySem.W.Fast.tw11470115366187211675 : Nat := 0
noncomputable def PySem.W.Fast.tw2302982196738518422 : Nat := 0
noncomputable def PySem.W.Fast.tw12955991273902673502 : Nat := 0
noncomputable def PySem.W.Fast.tw7184522399494087098 : Nat := 0
noncomputable def PySem.W.Fast.tw16900262873790305786 : Nat := 0
noncomputable def PySem.W.Fast.tw2192451072084886410 : Nat := 0
noncomputable def PySem.W.Fast.tw15065823778063952401 : Nat := 0
noncomputable def PySem.W.Fast.tw11774417970812537924 : Nat := 0
noncomputable def PySem.W.Fast.tw6811059281850490508 : Nat := 0
noncomputable def PySem.W.Fast.tw5260351555816622473 : Nat := 0
noncomputable def PySem.W.Fast.tw12271735875654463925 : Nat := 0
noncomputable def PySem.W.Fast.tw4293337586102477643 : Nat := 0
noncomputable def PySem.W.Fast.tw8081107512376068498 : Nat := 0
noncomputable def PySem.W.Fast.tw10091299991842053653 : Nat := 0
noncomputable def PySem.W.Fast.tw7316491677398456883 : Nat := 0
noncomputable def PySem.W.Fast.tw2945498172893273642 : Nat := 0
noncomputable def PySem.W.Fast.tw8475523639533812647 : Nat := 0
noncomputable def PySem.W.Fast.tw7743235296770383955 : Nat := 0
noncomputable def PySem.W.Fast.tw8021389819172400449 : Nat := 0
noncomputable def PySem.W.Fast.tw4270302699232421767 : Nat := 0
noncomputable def PySem.W.Fast.tw13080718521709278991 : Nat := 0
noncomputable def PySem.W.Fast.tw16579329878785862016 : Nat := 0
noncomputable def PySem.W.Fast.tw11722231967939882491 : Nat := 0
noncomputable def PySem.W.Fast.tw8740338792577169496 : Nat := 0
noncomputable def PySem.W.Fast.tw18121691547738955435 : Nat := 0
noncomputable def PySem.W.Fast.tw10032344949486412646 : Nat := 0
noncomputable def PySem.W.Fast.tw6038046114262283646 : Nat := 0
noncomputable def PySem.W.Fast.tw5802555436016616461 : Nat := 0
noncomputable def PySem.W.Fast.tw6907971728535749065 : Nat := 0
noncomputable def PySem.W.Fast.tw9853654349742163921 : Nat := 0
noncomputable def PySem.W.Fast.tw6769337497136739 : Nat := 0
noncomputable def PySem.W.Fast.tw1503154402745435443 : Nat := 0
noncomputable def PySem.W.Fast.tw3599115458694646798 : Nat := 0
noncomputable def PySem.W.Fast.tw9402014026414856801 : Nat := 0
noncomputable def PySem.W.Fast.tw1579763481315927949 : Nat := 0
noncomputable def PySem.W.Fast.tw11768964930061367612 : Nat := 0
noncomputable def PySem.W.Fast.tw10433927491232011780 : Nat := 0
noncomputable def PySem.W.Fast.tw181077097751170839 : Nat := 0
noncomputable def PySem.W.Fast.tw1172734032913559834 : Nat := 0
noncomputable def PySem.W.Fast.tw13089963946418394648 : Nat := 0
noncomputable def PySem.W.Fast.tw6579436107597850261 : Nat := 0
noncomputable def PySem.W.Fast.tw12461914136124020403 : Nat := 0
noncomputable def PySem.W.Fast.tw12506592450137888972 : Nat := 0
noncomputable def PySem.W.Fast.tw3085598649406485336 : Nat := 0
noncomputable def PySem.W.Fast.tw12544506886545062085 : Nat := 0
noncomputable def PySem.W.Fast.tw1885102373716600132 : Nat := 0
noncomputable def PySem.W.Fast.tw17631122476000924772 : Nat := 0
noncomputable def PySem.W.Fast.tw2134353323969965972 : Nat := 0
noncomputable def PySem.W.Fast.tw10783423352038458481 : Nat := 0
noncomputable def PySem.W.Fast.tw3351552397914599899 : Nat := 0
noncomputable def PySem.W.Fast.tw16041551148341441169 : Nat := 0
noncomputable def PySem.W.Fast.tw1239261368098245846 : Nat := 0
noncomputable def PySem.W.Fast.tw7641142616209438251 : Nat := 0
noncomputable def PySem.W.Fast.tw3440106178715039552 : Nat := 0
noncomputable def PySem.W.Fast.tw11285652227806462797 : Nat := 0
noncomputable def PySem.W.Fast.tw7575759480917840052 : Nat := 0
noncomputable def PySem.W.Fast.tw2662517749434302221 : Nat := 0
noncomputable def PySem.W.Fast.tw10480597738717699777 : Nat := 0
noncomputable def PySem.W.Fast.tw10524398943105506834 : Nat := 0
noncomputable def PySem.W.Fast.tw5798719760005001985 : Nat := 0
noncomputable def PySem.W.Fast.tw7803859127069753542 : Nat := 0
noncomputable def PySem.W.Fast.tw13499771760028870904 : Nat := 0
noncomputable def PySem.W.Fast.tw2031674824807585626 : Nat := 0
noncomputable def PySem.W.Fast.tw14558425411616131128 : Nat := 0
noncomputable def PySem.W.Fast.tw2592012322309397038 : Nat := 0
noncomputable def PySem.W.Fast.tw6058609207274047076 : Nat := 0
noncomputable def PySem.W.Fast.tw1080234157462827448 : Nat := 0
noncomputable def PySem.W.Fast.tw18353131291890554415 : Nat := 0
noncomputable def PySem.W.Fast.tw3437007162242455208 : Nat := 0
noncomputable def PySem.W.Fast.tw2464617356622740644 : Nat := 0
noncomputable def PySem.W.Fast.tw9016068857850218160 : Nat := 0
noncomputable def PySem.W.Fast.tw10326391468821942450 : Nat := 0
noncomputable def PySem.W.Fast.tw9133015674303181543 : Nat := 0
noncomputable def PySem.W.Fast.tw1349183108645960168 : Nat := 0
noncomputable def PySem.W.Fast.tw5585840433278743539 : Nat := 0
noncomputable def PySem.W.Fast.tw12980275258831931541 : Nat := 0
noncomputable def PySem.W.Fast.tw7440143996361180411 : Nat := 0
noncomputable def PySem.W.Fast.tw14881200715898828270 : Nat := 0
noncomputable def PySem.W.Fast.tw7338255261199670151 : Nat := 0
noncomputable def PySem.W.Fast.tw2927109390843875421 : Nat := 0
noncomputable def PySem.W.Fast.tw12206234125730321313 : Nat := 0
noncomputable def PySem.W.Fast.tw14498823131616116792 : Nat := 0
noncomputable def PySem.W.Fast.tw15889066634300058064 : Nat := 0
noncomputable def PySem.W.Fast.tw7225972024381642373 : Nat := 0
noncomputable def PySem.W.Fast.tw12585648616704227643 : Nat := 0
noncomputable def PySem.W.Fast.tw14341057938392091772 : Nat := 0
noncomputable def PySem.W.Fast.tw2350001643377576961 : Nat := 0
noncomputable def PySem.W.Fast.tw12123155304256663401 : Nat := 0
noncomputable def PySem.W.Fast.tw16618989889120410935 : Nat := 0
noncomputable def PySem.W.Fast.tw17977260766741594115 : Nat := 0
noncomputable def PySem.W.Fast.tw11492627203051208673 : Nat := 0
noncomputable def PySem.W.Fast.tw11972442607108078057 : Nat := 0
noncomputable def PySem.W.Fast.tw4577173282144632142 : Nat := 0
noncomputable def PySem.W.Fast.tw9890782559237330872 : Nat := 0
noncomputable def PySem.W.Fast.tw7488645654045184522 : Nat := 0
noncomputable def PySem.W.Fast.tw7719862203516344331 : Nat := 0
noncomputable def PySem.W.Fast.tw6477845485029272142 : Nat := 0
noncomputable def PySem.W.Fast.tw8046460839678413069 : Nat := 0
noncomputable def PySem.W.Fast.tw10042468582034247117 : Nat := 0
noncomputable def PySem.W.Fast.tw10292754281184165295 : Nat := 0
noncomputable def PySem.W.Fast.tw7999683072001144060 : Nat := 0
noncomputable def PySem.W.Fast.tw9794060282013179566 : Nat := 0
noncomputable def PySem.W.Fast.tw15799150278161847812 : Nat := 0
noncomputable def PySem.W.Fast.tw5265123407551999747 : Nat := 0
noncomputable def PySem.W.Fast.tw4985577024599345989 : Nat := 0
noncomputable def PySem.W.Fast.tw4181141182511139399 : Nat := 0
noncomputable def PySem.W.Fast.tw8360244393368752523 : Nat := 0
noncomputable def PySem.W.Fast.tw7018323306285328240 : Nat := 0
noncomputable def PySem.W.Fast.tw13804963180459507353 : Nat := 0
noncomputable def PySem.W.Fast.tw5829939366220120924 : Nat := 0
noncomputable def PySem.W.Fast.tw9955684310720343109 : Nat := 0
noncomputable def PySem.W.Fast.tw382853519141182308 : Nat := 0
noncomputable def PySem.W.Fast.tw3159438406505141464 : Nat := 0
noncomputable def PySem.W.Fast.tw4983551459237539861 : Nat := 0
noncomputable def PySem.W.Fast.tw9287377097384910630 : Nat := 0
noncomputable def PySem.W.Fast.tw10677849572646469668 : Nat := 0
noncomputable def PySem.W.Fast.tw8376048428325496794 : Nat := 0
noncomputable def PySem.W.Fast.tw13670185810410029651 : Nat := 0
noncomputable def PySem.W.Fast.tw357891664181001476 : Nat := 0
noncomputable def PySem.W.Fast.tw688550637699062135 : Nat := 0
noncomputable def PySem.W.Fast.tw10813193440116049030 : Nat := 0
noncomputable def PySem.W.Fast.tw6498841920686133527 : Nat := 0
noncomputable def PySem.W.Fast.tw15329209595983445405 : Nat := 0
noncomputable def PySem.W.Fast.tw952603020152892450 : Nat := 0
noncomputable def PySem.W.Fast.tw18354667110331286338 : Nat := 0
noncomputable def PySem.W.Fast.tw15997116661418282955 : Nat := 0
noncomputable def PySem.W.Fast.tw14262279288762544077 : Nat := 0
noncomputable def PySem.W.Fast.tw10484044311336973737 : Nat := 0
noncomputable def PySem.W.Fast.tw6852904931311209483 : Nat := 0
noncomputable def PySem.W.Fast.tw9575072010499550266 : Nat := 0
noncomputable def PySem.W.Fast.tw11333437573414909656 : Nat := 0
noncomputable def PySem.W.Fast.tw15549017355899390742 : Nat := 0
noncomputable def PySem.W.Fast.tw21017432945235115 : Nat := 0
noncomputable def PySem.W.Fast.tw2078325692049250093 : Nat := 0
noncomputable def PySem.W.Fast.tw11894293502785113637 : Nat := 0
noncomputable def PySem.W.Fast.tw10655370762399510426 : Nat := 0
noncomputable def PySem.W.Fast.tw3156418272281331827 : Nat := 0
noncomputable def PySem.W.Fast.tw13089315760169441574 : Nat := 0
noncomputable def PySem.W.Fast.tw6697664972430899391 : Nat := 0
noncomputable def PySem.W.Fast.tw8447574949823716702 : Nat := 0
noncomputable def PySem.W.Fast.tw10265404777750969864 : Nat := 0
noncomputable def PySem.W.Fast.tw11413306848594851293 : Nat := 0
noncomputable def PySem.W.Fast.tw17334323263846910766 : Nat := 0
noncomputable def PySem.W.Fast.tw3192096451259862211 : Nat := 0
noncomputable def PySem.W.Fast.tw17342980402397071495 : Nat := 0
noncomputable def PySem.W.Fast.tw14529671448385423986 : Nat := 0
noncomputable def PySem.W.Fast.tw14144070221176221407 : Nat := 0
noncomputable def PySem.W.Fast.tw10131425862128715930 : Nat := 0
noncomputable def PySem.W.Fast.tw4286926609392407693 : Nat := 0
noncomputable def PySem.W.Fast.tw15145511139826081573 : Nat := 0
noncomputable def PySem.W.Fast.tw10051686957115710050 : Nat := 0
noncomputable def PySem.W.Fast.tw8260357248450659309 : Nat := 0
noncomputable def PySem.W.Fast.tw10673944191687172387 : Nat := 0
noncomputable def PySem.W.Fast.tw8538252874644039858 : Nat := 0
noncomputable def PySem.W.Fast.tw16606490305665301810 : Nat := 0
noncomputable def PySem.W.Fast.tw11384160851009487639 : Nat := 0
noncomputable def PySem.W.Fast.tw10787037582997293301 : Nat := 0
noncomputable def PySem.W.Fast.tw2493738661564527817 : Nat := 0
noncomputable def PySem.W.Fast.tw7689841251894259339 : Nat := 0
noncomputable def PySem.W.Fast.tw1961800540021864783 : Nat := 0
noncomputable def PySem.W.Fast.tw14426013244054349909 : Nat := 0
noncomputable def PySem.W.Fast.tw10897268886406992528 : Nat := 0
noncomputable def PySem.W.Fast.tw15886801121927177617 : Nat := 0
noncomputable def PySem.W.Fast.tw6532715003127268639 : Nat := 0
noncomputable def PySem.W.Fast.tw2205006859750445382 : Nat := 0
noncomputable def PySem.W.Fast.tw388136948778687858 : Nat := 0
noncomputable def PySem.W.Fast.tw12321094882625446098 : Nat := 0
noncomputable def PySem.W.Fast.tw3571690133830091931 : Nat := 0
noncomputable def PySem.W.Fast.tw1139671732071392267 : Nat := 0
noncomputable def PySem.W.Fast.tw1006723372116992156 : Nat := 0
noncomputable def PySem.W.Fast.tw10603690991028664281 : Nat := 0
noncomputable def PySem.W.Fast.tw16911522043046156948 : Nat := 0
noncomputable def PySem.W.Fast.tw2104314135039982977 : Nat := 0
noncomputable def PySem.W.Fast.tw3565493849657469431 : Nat := 0
noncomputable def PySem.W.Fast.tw14561513921388640530 : Nat := 0
noncomputable def PySem.W.Fast.tw10412678177218470704 : Nat := 0
noncomputable def PySem.W.Fast.tw7751787030502332416 : Nat := 0
noncomputable def PySem.W.Fast.tw14343705672919556678 : Nat := 0
noncomputable def PySem.W.Fast.tw13585072188241053077 : Nat := 0
noncomputable def PySem.W.Fast.tw15182372507951566370 : Nat := 0
noncomputable def PySem.W.Fast.tw16848555991544198466 : Nat := 0
noncomputable def PySem.W.Fast.tw443605302162750796 : Nat := 0
noncomputable def PySem.W.Fast.tw16157582411637219674 : Nat := 0
noncomputable def PySem.W.Fast.tw724305416393213643 : Nat := 0
noncomputable def PySem.W.Fast.tw11578835408283894879 : Nat := 0
noncomputable def PySem.W.Fast.tw15383371961430115077 : Nat := 0
noncomputable def PySem.W.Fast.tw3583365234930733875 : Nat := 0
noncomputable def PySem.W.Fast.tw11738355307525166728 : Nat := 0
noncomputable def PySem.W.Fast.tw1458578821277480560 : Nat := 0
noncomputable def PySem.W.Fast.tw18165601053181201590 : Nat := 0
noncomputable def PySem.W.Fast.tw3436115913175462159 : Nat := 0
noncomputable def PySem.W.Fast.tw17568307080211132006 : Nat := 0
noncomputable def PySem.W.Fast.tw7935386225927164055 : Nat := 0
noncomputable def PySem.W.Fast.tw4117291829118954569 : Nat := 0
noncomputable def PySem.W.Fast.tw3709731404345605286 : Nat := 0
noncomputable def PySem.W.Fast.tw14481462340093874738 : Nat := 0
noncomputable def PySem.W.Fast.tw12819217756791959666 : Nat := 0
noncomputable def PySem.W.Fast.tw17204032419182994007 : Nat := 0
noncomputable def PySem.W.Fast.tw630520329588043618 : Nat := 0
noncomputable def PySem.W.Fast.tw9766763618718455826 : Nat := 0
noncomputable def PySem.W.Fast.tw18155240253088169714 : Nat := 0
noncomputable def PySem.W.Fast.tw2955966044503690479 : Nat := 0
noncomputable def PySem.W.Fast.tw2943177304593048947 : Nat := 0
noncomputable def PySem.W.Fast.tw12099529804216165753 : Nat := 0
noncomputable def PySem.W.Fast.tw14798657280350479594 : Nat := 0
noncomputable def PySem.W.Fast.tw13090390618736581677 : Nat := 0
noncomputable def PySem.W.Fast.tw12899474895999369174 : Nat := 0
noncomputable def PySem.W.Fast.tw17302802927575851031 : Nat := 0
noncomputable def PySem.W.Fast.tw7020277434875135608 : Nat := 0
noncomputable def PySem.W.Fast.tw10769254493779088191 : Nat := 0
noncomputable def PySem.W.Fast.tw5946578066650585517 : Nat := 0
noncomputable def PySem.W.Fast.tw12312417497543873474 : Nat := 0
noncomputable def PySem.W.Fast.tw8270379828560343630 : Nat := 0
noncomputable def PySem.W.Fast.tw10297980703307293786 : Nat := 0
noncomputable def PySem.W.Fast.tw5234249541082166314 : Nat := 0
noncomputable def PySem.W.Fast.tw10019994497304832022 : Nat := 0
noncomputable def PySem.W.Fast.tw15433126226455014664 : Nat := 0
noncomputable def PySem.W.Fast.tw14691144544843217814 : Nat := 0
noncomputable def PySem.W.Fast.tw9642269377297639542 : Nat := 0
noncomputable def PySem.W.Fast.tw8760090542737926103 : Nat := 0
noncomputable def PySem.W.Fast.tw4554598438945679274 : Nat := 0
noncomputable def PySem.W.Fast.tw533884719583522914 : Nat := 0
noncomputable def PySem.W.Fast.tw18176344609630865359 : Nat := 0
noncomputable def PySem.W.Fast.tw8866178714008012878 : Nat := 0
noncomputable def PySem.W.Fast.tw5581030918854719279 : Nat := 0
noncomputable def PySem.W.Fast.tw4261032462286344859 : Nat := 0
noncomputable def PySem.W.Fast.tw18431209626073787293 : Nat := 0
noncomputable def PySem.W.Fast.tw16858137707730290048 : Nat := 0
noncomputable def PySem.W.Fast.tw16262443360841882716 : Nat := 0
noncomputable def PySem.W.Fast.tw9807236659617902506 : Nat := 0
noncomputable def PySem.W.Fast.tw12494881641536824809 : Nat := 0
noncomputable def PySem.W.Fast.tw5115263819980644352 : Nat := 0
noncomputable def PySem.W.Fast.tw8919612728647955991 : Nat := 0
noncomputable def PySem.W.Fast.tw18141770714587391594 : Nat := 0
noncomputable def PySem.W.Fast.tw6386092815853526222 : Nat := 0
noncomputable def PySem.W.Fast.tw8545776438789640932 : Nat := 0
noncomputable def PySem.W.Fast.tw12287966072500287158 : Nat := 0
noncomputable def PySem.W.Fast.tw12095614142241016393 : Nat := 0
noncomputable def PySem.W.Fast.tw13470810052545330408 : Nat := 0
noncomputable def PySem.W.Fast.tw4762237528524283177 : Nat := 0
noncomputable def PySem.W.Fast.tw17346286724580373380 : Nat := 0
noncomputable def PySem.W.Fast.tw8016332205762068247 : Nat := 0
noncomputable def PySem.W.Fast.tw8144392063159112916 : Nat := 0
noncomputable def PySem.W.Fast.tw4832234394554526298 : Nat := 0
noncomputable def PySem.W.Fast.tw2777740463338299421 : Nat := 0
noncomputable def PySem.W.Fast.tw9310173088722142638 : Nat := 0
noncomputable def PySem.W.Fast.tw3897917605050122300 : Nat := 0
noncomputable def PySem.W.Fast.tw583346160516340540 : Nat := 0
noncomputable def PySem.W.Fast.tw9310819618412036267 : Nat := 0
noncomputable def PySem.W.Fast.tw15766672420167793274 : Nat := 0
noncomputable def PySem.W.Fast.tw10493583144699903800 : Nat := 0
noncomputable def PySem.W.Fast.tw9916231565148004977 : Nat := 0
noncomputable def PySem.W.Fast.tw14633677318359280458 : Nat := 0
noncomputable def PySem.W.Fast.tw7495368804641531074 : Nat := 0
noncomputable def PySem.W.Fast.tw6188728975819295330 : Nat := 0
noncomputable def PySem.W.Fast.tw12019648049573143567 : Nat := 0
noncomputable def PySem.W.Fast.tw5382787044140742500 : Nat := 0
noncomputable def PySem.W.Fast.tw13155987828229904419 : Nat := 0
noncomputable def PySem.W.Fast.tw8082463630023302422 : Nat := 0
noncomputable def PySem.W.Fast.tw8695095857375216605 : Nat := 0
noncomputable def PySem.W.Fast.tw3646879906065603830 : Nat := 0
noncomputable def PySem.W.Fast.tw1914661982266994674 : Nat := 0
noncomputable def PySem.W.Fast.tw3271656249848451749 : Nat := 0
noncomputable def PySem.W.Fast.tw16049271469214556009 : Nat := 0
noncomputable def PySem.W.Fast.tw9742921008990638273 : Nat := 0
noncomputable def PySem.W.Fast.tw7929164869808188567 : Nat := 0
noncomputable def PySem.W.Fast.tw16875898915523672786 : Nat := 0
noncomputable def PySem.W.Fast.tw10365731225671643305 : Nat := 0
noncomputable def PySem.W.Fast.tw5961454620394704014 : Nat := 0
noncomputable def PySem.W.Fast.tw2583016986523270804 : Nat := 0
noncomputable def PySem.W.Fast.tw10585883756621362298 : Nat := 0
noncomputable def PySem.W.Fast.tw18031847227839931988 : Nat := 0
noncomputable def PySem.W.Fast.tw7911119044759934045 : Nat := 0
noncomputable def PySem.W.Fast.tw1196497729784584617 : Nat := 0
noncomputable def PySem.W.Fast.tw15666854276290171338 : Nat := 0
noncomputable def PySem.W.Fast.tw5868534113277887740 : Nat := 0
noncomputable def PySem.W.Fast.tw6156086017954036496 : Nat := 0
noncomputable def PySem.W.Fast.tw8800398611932196227 : Nat := 0
noncomputable def PySem.W.Fast.tw17114398033920824996 : Nat := 0
noncomputable def PySem.W.Fast.tw9551653432518948928 : Nat := 0
noncomputable def PySem.W.Fast.tw13604729199571888523 : Nat := 0
noncomputable def PySem.W.Fast.tw14409498972657970617 : Nat := 0
noncomputable def PySem.W.Fast.tw5525668771145502640 : Nat := 0
noncomputable def PySem.W.Fast.tw10092669541987939905 : Nat := 0
noncomputable def PySem.W.Fast.tw9898954653866790363 : Nat := 0
noncomputable def PySem.W.Fast.tw1137813201044929461 : Nat := 0
noncomputable def PySem.W.Fast.tw16946676001126743775 : Nat := 0
noncomputable def PySem.W.Fast.tw8261854357297232008 : Nat := 0
noncomputable def PySem.W.Fast.tw11311305703431361990 : Nat := 0
noncomputable def PySem.W.Fast.tw1326395128226257821 : Nat := 0
noncomputable def PySem.W.Fast.tw14883938038172900975 : Nat := 0
noncomputable def PySem.W.Fast.tw9599554886041034487 : Nat := 0
noncomputable def PySem.W.Fast.tw10330637728455567127 : Nat := 0
noncomputable def PySem.W.Fast.tw14865201262572808182 : Nat := 0
noncomputable def PySem.W.Fast.tw5916092323150389272 : Nat := 0
noncomputable def PySem.W.Fast.tw13731086919775234194 : Nat := 0
noncomputable def PySem.W.Fast.tw16228249454402671149 : Nat := 0
noncomputable def PySem.W.Fast.tw8738283095567865340 : Nat := 0
noncomputable def PySem.W.Fast.tw5280349616537346910 : Nat := 0
noncomputable def PySem.W.Fast.tw16388283881015810345 : Nat := 0
noncomputable def PySem.W.Fast.tw11589309209840236779 : Nat := 0
noncomputable def PySem.W.Fast.tw14603292727585027343 : Nat := 0
noncomputable def PySem.W.Fast.tw1065558055613878274 : Nat := 0
noncomputable def PySem.W.Fast.tw16869152001921855716 : Nat := 0
noncomputable def PySem.W.Fast.tw563136347652203614 : Nat := 0
noncomputable def PySem.W.Fast.tw17482397788936584919 : Nat := 0
noncomputable def PySem.W.Fast.tw4776513563160498879 : Nat := 0
noncomputable def PySem.W.Fast.tw17534539868569969963 : Nat := 0
noncomputable def PySem.W.Fast.tw9726201023978241911 : Nat := 0
noncomputable def PySem.W.Fast.tw4698217110688356008 : Nat := 0
noncomputable def PySem.W.Fast.tw14252413932782003738 : Nat := 0
noncomputable def PySem.W.Fast.tw557257576342346046 : Nat := 0
noncomputable def PySem.W.Fast.tw13639279249086794598 : Nat := 0
noncomputable def PySem.W.Fast.tw6513605992107746308 : Nat := 0
noncomputable def PySem.W.Fast.tw16413552783812823502 : Nat := 0
noncomputable def PySem.W.Fast.tw9863441803580221878 : Nat := 0
noncomputable def PySem.W.Fast.tw1736268133383815585 : Nat := 0
noncomputable def PySem.W.Fast.tw17078847182963341106 : Nat := 0
noncomputable def PySem.W.Fast.tw6682963064566061997 : Nat := 0
noncomputable def PySem.W.Fast.tw11864033681046311502 : Nat := 0
noncomputable def PySem.W.Fast.tw517555099387568736 : Nat := 0
noncomputable def PySem.W.Fast.tw16977617964075273432 : Nat := 0
noncomputable def PySem.W.Fast.tw15345726822530414326 : Nat := 0
noncomputable def PySem.W.Fast.tw4268043940889362908 : Nat := 0
open PySem PySem.W PyProof.Rows
set_option maxRecDepth 100000 in
set_option maxHeartbeats 0 in
theorem PySem.Challenge.cw_panethread_k07_refusals_apart_holds : PySem.Challenge.rw_panethread_k07_refusals_apart.Holds := by
  w_on; o_law; k_head; (case hw => w_witness2)
  k_fill
  refine L2.walkJ (l := PySem.Challenge.rw_panethread_k07_refusals_apart) (st := My.s_law) (k := 4) (x := "_law_script") (sp := My.spLaw) rfl rfl rfl ⟨rfl, by decide, by decide, rfl⟩ (fun w h Y => PySem.W.kIn_of Y) (fun _ _ _ _ _ _ us hl => L2.usN1 (fun _ => rfl) us hl) ?F (fun K H a ns hl hS => ⟨a, ns, rfl, hS, hl, fun _ => rfl⟩)
  case F =>
    intro w mg h KX G
    have b_ValueError : mg "ValueError" = none := by
      refine' PySem.W.mg_none_of KX G ?a
      (case a => k_is)
    have b_int : mg "int" = none := by
      refine' PySem.W.mg_none_of KX G ?a
      (case a => k_is)
    have b_isinstance : mg "isinstance" = none := by
      refine' PySem.W.mg_none_of KX G ?a
      (case a => k_is)
    have b_len : mg "len" = none := by
      refine' PySem.W.mg_none_of KX G ?a
      (case a => k_is)
    have b_max : mg "max" = none := by
      refine' PySem.W.mg_none_of KX G ?a
      (case a => k_is)
    have b_range : mg "range" = none := by
      refine' PySem.W.mg_none_of KX G ?a
      (case a => k_is)
    have b_repr : mg "repr" = none := by
      refine' PySem.W.mg_none_of KX G ?a
      (case a => k_is)
    have d_law_cell : L2.Def (L2.KOf KX) mg "_law_cell" My.s_law_cell := by
      dsimp only [L2.KOf]
      refine' L2.def_mk KX G ?a ?l ?c ?k
      (case a => k_is); (case l => k_is); (case c => k_is); (case k => k_is)
    have d_law_purse : L2.Def (L2.KOf KX) mg "_law_purse" My.s_law_purse := by
      dsimp only [L2.KOf]
      refine' L2.def_mk KX G ?a ?l ?c ?k
      (case a => k_is); (case l => k_is); (case c => k_is); (case k => k_is)
    have d_law_take : L2.Def (L2.KOf KX) mg "_law_take" My.s_law_take := by
      dsimp only [L2.KOf]
      refine' L2.def_mk KX G ?a ?l ?c ?k
      (case a => k_is); (case l => k_is); (case c => k_is); (case k => k_is)
    have d_law_thing : L2.Def (L2.KOf KX) mg "_law_thing" My.s_law_thing := by
      dsimp only [L2.KOf]
      refine' L2.def_mk KX G ?a ?l ?c ?k
      (case a => k_is); (case l => k_is); (case c => k_is); (case k => k_is)
    have d_law_made : L2.Def (L2.KOf KX) mg "_law_made" My.s_law_made := by
      dsimp only [L2.KOf]
      refine' L2.def_mk KX G ?a ?l ?c ?k
      (case a => k_is); (case l => k_is); (case c => k_is); (case k => k_is)
    have d_law_kinds : L2.Def (L2.KOf KX) mg "_law_kinds" My.s_law_kinds := by
      dsimp only [L2.KOf]
      refine' L2.def_mk KX G ?a ?l ?c ?k
      (case a => k_is); (case l => k_is); (case c => k_is); (case k => k_is)
    have d_law_fields : L2.Def (L2.KOf KX) mg "_law_fields" My.s_law_fields := by
      dsimp only [L2.KOf]
      refine' L2.def_mk KX G ?a ?l ?c ?k
      (case a => k_is); (case l => k_is); (case c => k_is); (case k => k_is)
    have d_law : L2.Def (L2.KOf KX) mg "law" My.s_law := by
      dsimp only [L2.KOf]
      refine' L2.def_mk KX G ?a ?l ?c ?k
      (case a => k_is); (case l => k_is); (case c => k_is); (case k => k_is)
    have x_PaneError : L2.CTxt (L2.KOf KX) mg "PaneError" := by
      dsimp only [L2.KOf]
      refine' L2.ct_mk KX G ?a ?b
      (case a => k_is); (case b => kernel_rfl)
    have x_NoRow : L2.XTxt (L2.KOf KX) mg "NoRow" ["found"] "NoRow.__init__" My.i_NoRow := by
      dsimp only [L2.KOf]
      refine' L2.xt_mk KX G ?a ?b ?kp ?na ?i ?t ?l ?c ?k
      (case a => k_is); (case b => kernel_rfl); (case kp => k_is); (case na => kernel_rfl); (case i => k_is); (case t => k_is); (case l => k_is); (case c => k_is); (case k => k_is)
    have x_NoPlain : L2.XTxt (L2.KOf KX) mg "NoPlain" ["found"] "NoPlain.__init__" My.i_NoPlain := by
      dsimp only [L2.KOf]
      refine' L2.xt_mk KX G ?a ?b ?kp ?na ?i ?t ?l ?c ?k
      (case a => k_is); (case b => kernel_rfl); (case kp => k_is); (case na => kernel_rfl); (case i => k_is); (case t => k_is); (case l => k_is); (case c => k_is); (case k => k_is)
    have x_NoNames : L2.XTxt (L2.KOf KX) mg "NoNames" ["found"] "NoNames.__init__" My.i_NoNames := by
      dsimp only [L2.KOf]
      refine' L2.xt_mk KX G ?a ?b ?kp ?na ?i ?t ?l ?c ?k
      (case a => k_is); (case b => kernel_rfl); (case kp => k_is); (case na => kernel_rfl); (case i => k_is); (case t => k_is); (case l => k_is); (case c => k_is); (case k => k_is)
    have x_NoLetter : L2.XTxt (L2.KOf KX) mg "NoLetter" ["found"] "NoLetter.__init__" My.i_NoLetter := by
      dsimp only [L2.KOf]
      refine' L2.xt_mk KX G ?a ?b ?kp ?na ?i ?t ?l ?c ?k
      (case a => k_is); (case b => kernel_rfl); (case kp => k_is); (case na => kernel_rfl); (case i => k_is); (case t => k_is); (case l => k_is); (case c => k_is); (case k => k_is)
    have x_NoPlace : L2.XTxt (L2.KOf KX) mg "NoPlace" ["found"] "NoPlace.__init__" My.i_NoPlace := by
      dsimp only [L2.KOf]
      refine' L2.xt_mk KX G ?a ?b ?kp ?na ?i ?t ?l ?c ?k
      (case a => k_is); (case b => kernel_rfl); (case kp => k_is); (case na => kernel_rfl); (case i => k_is); (case t => k_is); (case l => k_is); (case c => k_is); (case k => k_is)
    have x_NoSpan : L2.XTxt (L2.KOf KX) mg "NoSpan" ["begin", "end"] "NoSpan.__init__" My.i_NoSpan := by
      dsimp only [L2.KOf]
      refine' L2.xt_mk KX G ?a ?b ?kp ?na ?i ?t ?l ?c ?k
      (case a => k_is); (case b => kernel_rfl); (case kp => k_is); (case na => kernel_rfl); (case i => k_is); (case t => k_is); (case l => k_is); (case c => k_is); (case k => k_is)
    have x_NoThread : L2.XTxt (L2.KOf KX) mg "NoThread" ["found"] "NoThread.__init__" My.i_NoThread := by
      dsimp only [L2.KOf]
      refine' L2.xt_mk KX G ?a ?b ?kp ?na ?i ?t ?l ?c ?k
      (case a => k_is); (case b => kernel_rfl); (case kp => k_is); (case na => kernel_rfl); (case i => k_is); (case t => k_is); (case l => k_is); (case c => k_is); (case k => k_is)
    have x_NoTurning : L2.XTxt (L2.KOf KX) mg "NoTurning" ["found"] "NoTurning.__init__" My.i_NoTurning := by
      dsimp only [L2.KOf]
      refine' L2.xt_mk KX G ?a ?b ?kp ?na ?i ?t ?l ?c ?k
      (case a => k_is); (case b => kernel_rfl); (case kp => k_is); (case na => kernel_rfl); (case i => k_is); (case t => k_is); (case l => k_is); (case c => k_is); (case k => k_is)
    have x_NoCounts : L2.XTxt (L2.KOf KX) mg "NoCounts" ["found"] "NoCounts.__init__" My.i_NoCounts := by
      dsimp only [L2.KOf]
      refine' L2.xt_mk KX G ?a ?b ?kp ?na ?i ?t ?l ?c ?k
      (case a => k_is); (case b => kernel_rfl); (case kp => k_is); (case na => kernel_rfl); (case i => k_is); (case t => k_is); (case l => k_is); (case c => k_is); (case k => k_is)
    have x_NoSteps : L2.XTxt (L2.KOf KX) mg "NoSteps" ["found"] "NoSteps.__init__" My.i_NoSteps := by
      dsimp only [L2.KOf]
      refine' L2.xt_mk KX G ?a ?b ?kp ?na ?i ?t ?l ?c ?k
      (case a => k_is); (case b => kernel_rfl); (case kp => k_is); (case na => kernel_rfl); (case i => k_is); (case t => k_is); (case l => k_is); (case c => k_is); (case k => k_is)
    have x_NoCells : L2.XTxt (L2.KOf KX) mg "NoCells" ["found"] "NoCells.__init__" My.i_NoCells := by
      dsimp only [L2.KOf]
      refine' L2.xt_mk KX G ?a ?b ?kp ?na ?i ?t ?l ?c ?k
      (case a => k_is); (case b => kernel_rfl); (case kp => k_is); (case na => kernel_rfl); (case i => k_is); (case t => k_is); (case l => k_is); (case c => k_is); (case k => k_is)
    have x_NoWindow : L2.XTxt (L2.KOf KX) mg "NoWindow" ["found"] "NoWindow.__init__" My.i_NoWindow := by
      dsimp only [L2.KOf]
      refine' L2.xt_mk KX G ?a ?b ?kp ?na ?i ?t ?l ?c ?k
      (case a => k_is); (case b => kernel_rfl); (case kp => k_is); (case na => kernel_rfl); (case i => k_is); (case t => k_is); (case l => k_is); (case c => k_is); (case k => k_is)
    have x_NoPiece : L2.XTxt (L2.KOf KX) mg "NoPiece" ["found"] "NoPiece.__init__" My.i_NoPiece := by
      dsimp only [L2.KOf]
      refine' L2.xt_mk KX G ?a ?b ?kp ?na ?i ?t ?l ?c ?k
      (case a => k_is); (case b => kernel_rfl); (case kp => k_is); (case na => kernel_rfl); (case i => k_is); (case t => k_is); (case l => k_is); (case c => k_is); (case k => k_is)
    have x_Unlike : L2.XTxt (L2.KOf KX) mg "Unlike" ["one", "other"] "Unlike.__init__" My.i_Unlike := by
      dsimp only [L2.KOf]
      refine' L2.xt_mk KX G ?a ?b ?kp ?na ?i ?t ?l ?c ?k
      (case a => k_is); (case b => kernel_rfl); (case kp => k_is); (case na => kernel_rfl); (case i => k_is); (case t => k_is); (case l => k_is); (case c => k_is); (case k => k_is)
    have x_TooLong : L2.XTxt (L2.KOf KX) mg "TooLong" ["found"] "TooLong.__init__" My.i_TooLong := by
      dsimp only [L2.KOf]
      refine' L2.xt_mk KX G ?a ?b ?kp ?na ?i ?t ?l ?c ?k
      (case a => k_is); (case b => kernel_rfl); (case kp => k_is); (case na => kernel_rfl); (case i => k_is); (case t => k_is); (case l => k_is); (case c => k_is); (case k => k_is)
    have x_NoChanges : L2.XTxt (L2.KOf KX) mg "NoChanges" ["found"] "NoChanges.__init__" My.i_NoChanges := by
      dsimp only [L2.KOf]
      refine' L2.xt_mk KX G ?a ?b ?kp ?na ?i ?t ?l ?c ?k
      (case a => k_is); (case b => kernel_rfl); (case kp => k_is); (case na => kernel_rfl); (case i => k_is); (case t => k_is); (case l => k_is); (case c => k_is); (case k => k_is)
    have x_NoStretches : L2.XTxt (L2.KOf KX) mg "NoStretches" ["found"] "NoStretches.__init__" My.i_NoStretches := by
      dsimp only [L2.KOf]
      refine' L2.xt_mk KX G ?a ?b ?kp ?na ?i ?t ?l ?c ?k
      (case a => k_is); (case b => kernel_rfl); (case kp => k_is); (case na => kernel_rfl); (case i => k_is); (case t => k_is); (case l => k_is); (case c => k_is); (case k => k_is)
    have x_NoPart : L2.XTxt (L2.KOf KX) mg "NoPart" ["found"] "NoPart.__init__" My.i_NoPart := by
      dsimp only [L2.KOf]
      refine' L2.xt_mk KX G ?a ?b ?kp ?na ?i ?t ?l ?c ?k
      (case a => k_is); (case b => kernel_rfl); (case kp => k_is); (case na => kernel_rfl); (case i => k_is); (case t => k_is); (case l => k_is); (case c => k_is); (case k => k_is)
    have x_NoNear : L2.XTxt (L2.KOf KX) mg "NoNear" ["found"] "NoNear.__init__" My.i_NoNear := by
      dsimp only [L2.KOf]
      refine' L2.xt_mk KX G ?a ?b ?kp ?na ?i ?t ?l ?c ?k
      (case a => k_is); (case b => kernel_rfl); (case kp => k_is); (case na => kernel_rfl); (case i => k_is); (case t => k_is); (case l => k_is); (case c => k_is); (case k => k_is)
    have x_NoTold : L2.XTxt (L2.KOf KX) mg "NoTold" ["found"] "NoTold.__init__" My.i_NoTold := by
      dsimp only [L2.KOf]
      refine' L2.xt_mk KX G ?a ?b ?kp ?na ?i ?t ?l ?c ?k
      (case a => k_is); (case b => kernel_rfl); (case kp => k_is); (case na => kernel_rfl); (case i => k_is); (case t => k_is); (case l => k_is); (case c => k_is); (case k => k_is)
    have x_NoWords : L2.XTxt (L2.KOf KX) mg "NoWords" ["found"] "NoWords.__init__" My.i_NoWords := by
      dsimp only [L2.KOf]
      refine' L2.xt_mk KX G ?a ?b ?kp ?na ?i ?t ?l ?c ?k
      (case a => k_is); (case b => kernel_rfl); (case kp => k_is); (case na => kernel_rfl); (case i => k_is); (case t => k_is); (case l => k_is); (case c => k_is); (case k => k_is)
    have kits : My.Kits (L2.KOf KX) mg := by
      dsimp only [L2.KOf]
      refine' My.kits_mk KX G ?a0 ?a1 ?a2 ?a3 ?a4 ?a5 ?a6 ?a7 ?a8 ?a9 ?a10 ?a11 ?a12 ?a13 ?a14 ?a15 ?a16 ?a17 ?a18 ?a19 ?a20 ?a21 ?o
      (case a0 => k_is); (case a1 => k_is); (case a2 => k_is); (case a3 => k_is); (case a4 => k_is); (case a5 => k_is); (case a6 => k_is); (case a7 => k_is); (case a8 => k_is); (case a9 => k_is); (case a10 => k_is); (case a11 => k_is); (case a12 => k_is); (case a13 => k_is); (case a14 => k_is); (case a15 => k_is); (case a16 => k_is); (case a17 => k_is); (case a18 => k_is); (case a19 => k_is); (case a20 => k_is); (case a21 => k_is); (case o => kernel_rfl)
    have z_PaneError : L2.X0 (L2.KOf KX) mg "PaneError" := by
      dsimp only [L2.KOf]
      refine' L2.x0_mk KX G ?a ?b ?i ?k
      (case a => k_is); (case b => kernel_rfl); (case i => k_is); (case k => k_is)
    exact ⟨d_law, fun base f fd F => My.ok_law ⟨b_ValueError, b_int, b_isinstance, b_len, b_max, b_range, b_repr, d_law_cell, d_law_purse, d_law_take, d_law_thing, d_law_made, d_law_kinds, d_law_fields, d_law, x_PaneError, x_NoRow, x_NoPlain, x_NoNames, x_NoLetter, x_NoPlace, x_NoSpan, x_NoThread, x_NoTurning, x_NoCounts, x_NoSteps, x_NoCells, x_NoWindow, x_NoPiece, x_Unlike, x_TooLong, x_NoChanges, x_NoStretches, x_NoPart, x_NoNear, x_NoTold, x_NoWords, kits, z_PaneError⟩ F⟩
