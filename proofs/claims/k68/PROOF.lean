import PyProof.Rows.All
import Wide.All
import OpenK.AllK
import Wide.FinOn
import Lean
import PyProof.EqAt
import PyProof.EqKinds
import PyProof.TupleCall
import PyProof.ReprRoads
import KE.KSortTup
import PySem.Challenge.RW_panethread_k68_news_of_lists
-- CHANGE: your row's module here, as the last of these rows
set_option compiler.extract_closed false
set_option Elab.async false
set_option linter.all false
set_option maxRecDepth 100000
namespace L2
@[elab_as_elim] theorem usN1 {p : List PySem.Value → Prop} (h : ∀ a0 : PySem.Value, p [a0]) (us : List PySem.Value) (hl : us.length = 1) : p us := by
  rcases us with _ | ⟨a0, us0⟩
  · cases hl
  rcases us0 with _ | ⟨b, us⟩
  · exact h a0
  · cases hl
@[elab_as_elim] theorem usN2 {p : List PySem.Value → Prop} (h : ∀ a0 a1 : PySem.Value, p [a0, a1]) (us : List PySem.Value) (hl : us.length = 2) : p us := by
  rcases us with _ | ⟨a0, us0⟩
  · cases hl
  rcases us0 with _ | ⟨a1, us1⟩
  · cases hl
  rcases us1 with _ | ⟨b, us⟩
  · exact h a0 a1
  · cases hl
@[elab_as_elim] theorem usN3 {p : List PySem.Value → Prop} (h : ∀ a0 a1 a2 : PySem.Value, p [a0, a1, a2]) (us : List PySem.Value) (hl : us.length = 3) : p us := by
  rcases us with _ | ⟨a0, us0⟩
  · cases hl
  rcases us0 with _ | ⟨a1, us1⟩
  · cases hl
  rcases us1 with _ | ⟨a2, us2⟩
  · cases hl
  rcases us2 with _ | ⟨b, us⟩
  · exact h a0 a1 a2
  · cases hl
theorem auto1 (h : True := by first | exact .inl rfl | exact .inr rfl | assumption) : True := h
theorem auto2 (h : True := by decide) : True := h
theorem auto3 (h : True := by intro _; rfl) : True := h
theorem auto4 (h : True := by rfl) : True := h
theorem auto5 (h : True := by with_unfolding_all rfl) : True := h
theorem auto6 (h : True := by decide +kernel) : True := h
open PySem PySem.Spec PyProof.Rows

noncomputable abbrev Key := Sum Int Str
noncomputable def keyIs : Key → Value → Bool
  | .inl k, v => Value.isInt k v
  | .inr x, v => Value.isStrOf x v
noncomputable def keyH (w : World) : Key → Int
  | .inl k => hashInt k
  | .inr x => hashStr w x
theorem keyIs_shape : ∀ {k : Key} {v : Value}, keyIs k v = true → (∃ i t, k = Sum.inl i ∧ v = Value.int i t) ∨ (∃ x t, k = Sum.inr x ∧ v = Value.str x t)
  | .inl i, v, h => by
    obtain ⟨t, e⟩ := Value.isInt_shape (k := i) (v := v) h
    exact .inl ⟨i, t, rfl, e⟩
  | .inr x, v, h => by
    obtain ⟨t, e⟩ := Value.isStrOf_shape (x := x) (v := v) h
    exact .inr ⟨x, t, rfl, e⟩
theorem keyIs_int (i : Int) (t : Tok) : keyIs (.inl i) (.int i t) = true := by simp [keyIs, Value.isInt]
theorem keyIs_str (x : Str) (t : Tok) : keyIs (.inr x) (.str x t) = true := by simp [keyIs, Value.isStrOf]
theorem key_ll (a b : Int) : decide ((Sum.inl a : Key) = Sum.inl b) = (a == b) := by
  by_cases e : a = b
  · subst e; simp
  · have h : ¬ (Sum.inl a : Key) = Sum.inl b := fun q => e (Sum.inl.inj q)
    rw [decide_eq_false h]
    exact (beq_eq_false_iff_ne.mpr e).symm
theorem key_rr (a b : Str) : decide ((Sum.inr a : Key) = Sum.inr b) = decide (a = b) := by
  by_cases e : a = b
  · subst e; simp
  · have h : ¬ (Sum.inr a : Key) = Sum.inr b := fun q => e (Sum.inr.inj q)
    rw [decide_eq_false h, decide_eq_false e]
theorem key_lr (a : Int) (b : Str) : decide ((Sum.inl a : Key) = Sum.inr b) = false := decide_eq_false (fun q => nomatch q)
theorem key_rl (a : Str) (b : Int) : decide ((Sum.inr a : Key) = Sum.inl b) = false := decide_eq_false (fun q => nomatch q)

noncomputable def mixKind (prog : Program) (w : World) : PySem.KeyKind prog w Key where
  is := keyIs
  hash := keyH w
  inj := fun v a b ha hb => by
    rcases keyIs_shape ha with ⟨i, t, rfl, rfl⟩ | ⟨x, t, rfl, rfl⟩
    · rcases keyIs_shape hb with ⟨j, u, rfl, e⟩ | ⟨y, u, rfl, e⟩
      · injection e with e1 _; rw [e1]
      · exact nomatch e
    · rcases keyIs_shape hb with ⟨j, u, rfl, e⟩ | ⟨y, u, rfl, e⟩
      · exact nomatch e
      · injection e with e1 _; rw [e1]
  byValue := fun k v h => by
    rcases keyIs_shape h with ⟨i, t, rfl, rfl⟩ | ⟨x, t, rfl, rfl⟩ <;> rfl
  pyHash := fun hv h => by
    rcases keyIs_shape hv with ⟨i, t, rfl, rfl⟩ | ⟨x, t, rfl, rfl⟩
    · exact wpAny_pyHash_int h
    · exact wpAny_pyHash_str h
  eqBool := fun hu hv h => by
    rcases keyIs_shape hu with ⟨i, t, rfl, rfl⟩ | ⟨x, t, rfl, rfl⟩
    · rcases keyIs_shape hv with ⟨j, u, rfl, rfl⟩ | ⟨y, u, rfl, rfl⟩
      · rw [key_ll] at h; exact wpAny_eqBool_int h
      · rw [key_lr] at h; exact SeqAt.EqAt.int_str i t y u _ _ _ _ h
    · rcases keyIs_shape hv with ⟨j, u, rfl, rfl⟩ | ⟨y, u, rfl, rfl⟩
      · rw [key_rl] at h; exact SeqAt.EqAt.str_int x t j u _ _ _ _ h
      · rw [key_rr] at h; exact wpAny_eqBool_str h
  «strs» := fun k x t v h => by
    rcases keyIs_shape h with ⟨i, u, rfl, e⟩ | ⟨y, u, rfl, e⟩
    · exact nomatch e
    · injection e with e1 _
      subst e1
      cases v <;> rfl

theorem mixKind_int (prog : Program) (w : World) (i : Int) (t : Tok) : (mixKind prog w).is (.inl i) (.int i t) = true := keyIs_int i t
theorem mixKind_str (prog : Program) (w : World) (x : Str) (t : Tok) : (mixKind prog w).is (.inr x) (.str x t) = true := keyIs_str x t
end L2

namespace L2
open PySem PySem.Spec PyProof.Rows

inductive V where
  | non | bl (b : Bool) | int (i : Int) | str (x : Str) | byt (b : Array UInt8) | flt (b : UInt64) | ref (a : Addr) | ty (n : String)
  deriving DecidableEq

noncomputable def RelV : V → Value → Prop
  | .non, u => u = Value.none
  | .bl b, u => u = Value.bool b
  | .int i, u => ∃ t, u = Value.int i t
  | .str x, u => ∃ t, u = Value.str x t
  | .byt b, u => ∃ t, u = Value.bytes b t
  | .flt b, u => ∃ t, u = Value.float b t
  | .ref a, u => u = Value.ref a
  | .ty n, u => u = Value.type n

noncomputable abbrev Vals : List V → List Value → Prop := Paired RelV
theorem Vals.length {xs : List V} {us : List Value} (r : Vals xs us) : xs.length = us.length := Paired.length r
theorem Vals.get : ∀ {xs : List V} {us : List Value} {i : Nat} {x : V}, Vals xs us → xs[i]? = some x → ∃ u, us[i]? = some u ∧ RelV x u
  | _, _, _, _, .nil, e => by simp at e
  | _, _, 0, _, .cons r _, e => by simp at e; subst e; exact ⟨_, rfl, r⟩
  | _, _, i + 1, x, .cons _ t, e => by
    obtain ⟨u, h1, h2⟩ := Vals.get (i := i) (x := x) t (by simpa using e)
    exact ⟨u, by simpa using h1, h2⟩
theorem Vals.set {x : V} {u : Value} (r : RelV x u) : ∀ {xs : List V} {us : List Value} (i : Nat), Vals xs us → Vals (xs.set i x) (us.set i u)
  | _, _, _, .nil => .nil
  | _, _, 0, .cons _ t => .cons r t
  | _, _, i + 1, .cons q t => .cons q (Vals.set r i t)
theorem Vals.append : ∀ {xs ys : List V} {us ws : List Value}, Vals xs us → Vals ys ws → Vals (xs ++ ys) (us ++ ws)
  | _, _, _, _, .nil, s => s
  | _, _, _, _, .cons r t, s => .cons r (Vals.append t s)
theorem Vals.take : ∀ {xs : List V} {us : List Value} (n : Nat), Vals xs us → Vals (xs.take n) (us.take n)
  | _, _, 0, _ => .nil
  | _, _, _ + 1, .nil => .nil
  | _, _, n + 1, .cons r t => .cons r (Vals.take n t)
theorem Vals.drop : ∀ {xs : List V} {us : List Value} (n : Nat), Vals xs us → Vals (xs.drop n) (us.drop n)
  | _, _, 0, r => r
  | _, _, _ + 1, .nil => .nil
  | _, _, n + 1, .cons _ t => Vals.drop n t
noncomputable def RelO : Option V → Option Value → Prop
  | some v, some u => RelV v u
  | none, none => True
  | _, _ => False
noncomputable def KV {κ : Type} : List (κ × V) → List (κ × Value) → Prop := Paired fun (p : κ × V) (q : κ × Value) => p.1 = q.1 ∧ RelV p.2 q.2

noncomputable def kV : Key → V
  | .inl i => .int i
  | .inr x => .str x

inductive HO where
  /-- a list -/
  | lst (xs : List V)
  /-- a tuple (never changes) -/
  | tup (xs : List V)
  /-- a dict whose keys are ints and texts; one whose keys are tuples of ints and texts (the empty one is both) -/
  | dK (kvs : List (Key × V)) | dT (kvs : List (List Key × V))
  /-- a set of ints: its members, its size -/
  | set (S : Int → Bool) (n : Nat)
  /-- an instance of the class at C, its dict at dx, its attributes -/
  | ins (C dx : Addr) (fs : List (Str × V))
  /-- the dict of the instance at x -/
  | own (x : Addr)
  /-- the dict of an exception -/
  | xd (fs : List (Str × V))
  /-- a bound method, f of x -/
  | met (f x : Addr)
  /-- a range object lo, lo + 1, .. below hi -/
  | rng (lo hi : Int)
  /-- a thing that is known to the object (the script; a dict while a loop walks it): read, never written while it is so -/
  | frz (o : Obj) (u : HO)
  /-- a code object's table -/
  | tbl (ps : Array Value)
  /-- any other thing, by what is true of its one object (a def of one's own: SetO a S n := HO.ext fun h => ..) -/
  | ext (φ : Heap → Prop)

noncomputable abbrev Hp := Addr → Option HO
noncomputable def upd (H : Hp) (a : Addr) (o : HO) : Hp := fun b => if b = a then some o else H b
theorem upd_same {H : Hp} {a : Addr} {o : HO} : upd H a o a = some o := by unfold upd; rw [if_pos rfl]
theorem upd_ne {H : Hp} {a b : Addr} {o : HO} (h : b ≠ a) : upd H a o b = H b := by unfold upd; rw [if_neg h]
theorem ne_of {H : Hp} {a b : Addr} {o u : HO} (h : H a = some o) (h' : H b = some u) (d : o ≠ u) : a ≠ b := by
  intro e; subst e; rw [h] at h'; exact d (Option.some.inj h')
theorem ne_of_none {H : Hp} {a b : Addr} {o : HO} (h : H a = some o) (h' : H b = none) : a ≠ b := by
  intro e; subst e; rw [h] at h'; cases h'

section
variable (P : Program) (w : World)
noncomputable def ObjOk (H : Hp) (h : Heap) (a : Addr) : HO → Prop
  | .lst xs => xs.length ≤ sizeLine ∧ ∃ (its : List Value) (n : Nat), Vals xs its ∧ h.get? a = some { cls := .type "list", data := .seq its.toArray n }
  | .tup xs => xs.length ≤ sizeLine ∧ ∃ its : List Value, Vals xs its ∧ IsTup h a its.toArray
  | .dK kvs => kvs.length ≤ sizeLine ∧ (a == sysModules) = false ∧ ∃ vs, KV kvs vs ∧ h.DictOf (mixKind P w) a vs
  | .dT kvs => kvs.length ≤ sizeLine ∧ (a == sysModules) = false ∧ ∃ xs : List (List Key × Addr × Value),
      Paired (fun (p : List Key × V) (q : List Key × Addr × Value) => p.1 = q.1 ∧ H q.2.1 = some (.tup (p.1.map kV)) ∧ RelV p.2 q.2.2) kvs xs ∧
      ∃ o es ep, h.get? a = some o ∧ o.ExactDict ∧ o.data = .dict es ep ∧ es.toList = xs.map (entryOfKey (tupleKind (mixKind P w))) ∧ (xs.map (·.1)).Nodup
  | .set S n => h.SetOf (intKind P w) a S n
  | .ins C dx fs => H dx = some (.own a) ∧ fs.length ≤ 1000 ∧ dx ≠ a ∧ h.get? a = some (PySem.W.instObj C dx) ∧
      ∃ mA, h.Ns1 dx mA ∧ (∀ f, RelO (fs.lookup f) (mA f)) ∧ PySem.Within mA (fs.map (·.1))
  | .own _ => ∃ o, h.get? a = some o
  | .xd fs => ∃ mA, h.Ns1 a mA ∧ ∀ f, RelO (fs.lookup f) (mA f)
  | .rng lo hi => ∃ t u v, h.get? a = some { cls := .type "range", data := .fields #[.int lo t, .int hi u, .int 1 v] }
  | .frz o u => h.get? a = some o ∧ ObjOk H h a u
  | .tbl ps => h.get? a = some { cls := .none, data := .fields ps }
  | .met f x => h.get? a = some (PySem.W.methodObj (.ref f) (.ref x))
  | .ext φ => φ h ∧ (∃ o, h.get? a = some o) ∧ ∀ h1 h2 : Heap, φ h1 → (∀ o, h1.get? a = some o → h2.get? a = some o) → φ h2
noncomputable def HOk (H : Hp) (h : Heap) : Prop := ∀ a o, H a = some o → ObjOk P w H h a o
end

section
variable {P : Program} {w : World} {H H' : Hp} {h h' : Heap} {a : Addr} {o : HO}
theorem ObjOk.lt (x : ObjOk P w H h a o) : a < h.objs.size := by
  cases o with
  | lst xs => obtain ⟨_, _, _, _, e⟩ := x; exact Heap.lt_size e
  | tup xs => obtain ⟨_, _, _, p⟩ := x; exact p.lt
  | dK kvs => obtain ⟨_, _, _, _, o, _, _, e, _⟩ := x; exact Heap.lt_size e
  | dT kvs => obtain ⟨_, _, _, _, o, _, _, e, _⟩ := x; exact Heap.lt_size e
  | set S n => obtain ⟨o, _, _, _, e, _⟩ := x; exact Heap.lt_size e
  | ins C dx fs => obtain ⟨_, _, _, e, _⟩ := x; exact Heap.lt_size e
  | own y => obtain ⟨_, e⟩ := x; exact Heap.lt_size e
  | xd fs => obtain ⟨_, ⟨_, _, _, e, _⟩, _⟩ := x; exact Heap.lt_size e
  | rng lo hi => obtain ⟨_, _, _, e⟩ := x; exact Heap.lt_size e
  | frz ob u => obtain ⟨e, _⟩ := x; exact Heap.lt_size e
  | tbl ps => exact Heap.lt_size (show h.get? a = some _ from x)
  | met f y => exact Heap.lt_size (show h.get? a = some _ from x)
  | ext φ => obtain ⟨_, ⟨_, e⟩, _⟩ := x; exact Heap.lt_size e
theorem Paired.mapP {α β : Type} {F G : α → β → Prop} : ∀ {l₁ : List α} {l₂ : List β}, Paired F l₁ l₂ → (∀ a b, F a b → G a b) → Paired G l₁ l₂
  | _, _, .nil, _ => .nil
  | _, _, .cons r t, f => .cons (f _ _ r) (Paired.mapP t f)
theorem ObjOk.stay (x : ObjOk P w H h a o) (k : ∀ b u, (b = a ∨ H b = some (.own a)) → h.get? b = some u → h'.get? b = some u)
    (ho : ∀ b, H b = some (.own a) → H' b = some (.own a)) (ht : ∀ b xs, H b = some (.tup xs) → H' b = some (.tup xs)) : ObjOk P w H' h' a o := by
  induction o with
  | lst xs => obtain ⟨z, its, n, r, e⟩ := x; exact ⟨z, its, n, r, k _ _ (.inl rfl) e⟩
  | tup xs => obtain ⟨z, its, r, ob, e, c⟩ := x; exact ⟨z, its, r, ob, k _ _ (.inl rfl) e, c⟩
  | dK kvs => obtain ⟨z, y, vs, r, ob, es, ep, e, c⟩ := x; exact ⟨z, y, vs, r, ob, es, ep, k _ _ (.inl rfl) e, c⟩
  | dT kvs =>
    obtain ⟨z, y, xs, r, ob, es, ep, e, c⟩ := x
    exact ⟨z, y, xs, Paired.mapP r fun p q z => ⟨z.1, ht _ _ z.2.1, z.2.2⟩, ob, es, ep, k _ _ (.inl rfl) e, c⟩
  | set S n => obtain ⟨ob, es, ep, t, e, c⟩ := x; exact ⟨ob, es, ep, t, k _ _ (.inl rfl) e, c⟩
  | ins C dx fs =>
    obtain ⟨d, z, ne, e, mA, ⟨od, es, ep, e2, c⟩, r⟩ := x
    exact ⟨ho _ d, z, ne, k _ _ (.inl rfl) e, mA, ⟨od, es, ep, k _ _ (.inr d) e2, c⟩, r⟩
  | own y => obtain ⟨ob, e⟩ := x; exact ⟨ob, k _ _ (.inl rfl) e⟩
  | xd fs => obtain ⟨mA, ⟨od, es, ep, e, c⟩, r⟩ := x; exact ⟨mA, ⟨od, es, ep, k _ _ (.inl rfl) e, c⟩, r⟩
  | rng lo hi => obtain ⟨t, u, v, e⟩ := x; exact ⟨t, u, v, k _ _ (.inl rfl) e⟩
  | frz ob u ih => obtain ⟨e, q⟩ := x; exact ⟨k _ _ (.inl rfl) e, ih q⟩
  | tbl ps =>
    have e : h.get? a = some { cls := .none, data := .fields ps } := x
    show h'.get? a = some { cls := .none, data := .fields ps }
    exact k a _ (.inl rfl) e
  | met f y =>
    have e : h.get? a = some (PySem.W.methodObj (.ref f) (.ref y)) := x
    show h'.get? a = some (PySem.W.methodObj (.ref f) (.ref y))
    exact k a _ (.inl rfl) e
  | ext φ => obtain ⟨p, ⟨o, e⟩, st⟩ := x; exact ⟨st _ _ p fun o q => k _ _ (.inl rfl) q, ⟨o, k _ _ (.inl rfl) e⟩, st⟩
theorem HOk.lt (x : HOk P w H h) (e : H a = some o) : a < h.objs.size := (x a o e).lt
theorem HOk.fresh (x : HOk P w H h) (e : h.objs.size ≤ a) : H a = none := by
  cases q : H a with
  | none => rfl
  | some u => exact absurd (Nat.lt_of_lt_of_le (x.lt q) e) (Nat.lt_irrefl _)
theorem HOk.kept (x : HOk P w H h) (k : ∀ b u, h.get? b = some u → h'.get? b = some u) : HOk P w H h' := fun a o e =>
  (x a o e).stay (fun b u _ q => k b u q) (fun _ q => q) fun _ _ q => q
theorem HOk.laid (x : HOk P w H h) (k : ∀ b u, h.get? b = some u → h'.get? b = some u) (hp : h.objs.size ≤ a) (new : ObjOk P w (upd H a o) h' a o) : HOk P w (upd H a o) h' := fun b u e => by
  have hn := x.fresh hp
  by_cases hb : b = a
  · subst hb; rw [upd_same] at e; cases e; exact new
  · rw [upd_ne hb] at e
    exact (x b u e).stay (fun c v _ q => k c v q) (fun c q => by rw [upd_ne (ne_of_none q hn)]; exact q) fun c xs q => by rw [upd_ne (ne_of_none q hn)]; exact q
end

noncomputable def Rd (H : Hp) (a : Addr) (u : HO) : Prop := H a = some u ∨ ∃ o, H a = some (.frz o u)
theorem Rd.ok {P : Program} {w : World} {H : Hp} {h : Heap} {a : Addr} {u : HO} (r : Rd H a u) (x : HOk P w H h) : ObjOk P w H h a u := by
  rcases r with r | ⟨o, r⟩
  · exact x a u r
  · obtain ⟨_, q⟩ := x a _ r
    exact q
noncomputable def Mut : Option HO → Prop
  | some (.lst _) => True
  | some (.dK _) => True
  | some (.dT _) => True
  | some (.set _ _) => True
  | some (.ins _ _ _) => True
  | some (.ext _) => True
  | _ => False
section
variable {P : Program} {w : World} {H : Hp} {h h' : Heap} {x e : Addr} {o' : HO}
theorem HOk.write (ok : HOk P w H h) (mu : Mut (H x)) (he : e = x ∨ H e = some (.own x)) (k : ∀ b u, b ≠ e → h.get? b = some u → h'.get? b = some u) (heo : ∃ u, h'.get? e = some u)
    (new : ObjOk P w (upd H x o') h' x o') : HOk P w (upd H x o') h' := fun b u q => by
  have nown : ∀ c y, H c = some (.own y) → c ≠ x := fun c y r z => by subst z; rw [r] at mu; exact mu
  have ntup : ∀ c xs, H c = some (.tup xs) → c ≠ x := fun c xs r z => by subst z; rw [r] at mu; exact mu
  by_cases hb : b = x
  · subst hb; rw [upd_same] at q; cases q; exact new
  · rw [upd_ne hb] at q
    by_cases hbe : b = e
    · have q' : H b = some (.own x) := by
        rcases he with z | z
        · exact absurd (hbe.trans z) hb
        · rw [hbe]; exact z
      rw [q] at q'; cases q'
      obtain ⟨v, hv⟩ := heo
      exact ⟨v, by rw [hbe]; exact hv⟩
    · refine (ok b u q).stay (fun c v hc r => k c v ?_ r) (fun c r => by rw [upd_ne (nown c b r)]; exact r) fun c xs r => by rw [upd_ne (ntup c xs r)]; exact r
      rcases hc with rfl | hc
      · exact hbe
      · rintro rfl
        rcases he with z | z
        · exact nown c b hc z
        · rw [hc] at z; cases z; exact hb rfl
end

structure Un (fs ex : List Addr) (H H' : Hp) (h h' : Heap) : Prop where
  keep : ∀ b o, h.get? b = some o → H b = none → b ∉ fs → b ∉ ex → h'.get? b = some o
  slot : ∀ b o, h.get? b = some o → H b = none → b ∈ fs → b ∉ ex → ∃ sl, h'.get? b = some { o with slots := sl }
  free : ∀ b o, h.get? b = some o → H b = none → b ∉ ex → H' b = none
  there : ∀ b o, h.get? b = some o → b ∉ ex → ∃ o', h'.get? b = some o'
  tups : ∀ b xs, H b = some (.tup xs) → H' b = some (.tup xs)
  frzs : ∀ b o u, H b = some (.frz o u) → H' b = some (.frz o u)
  tbls : ∀ b ps, H b = some (.tbl ps) → ∃ more, H' b = some (.tbl (ps ++ more))
section
variable {fs fs' ex ex' : List Addr} {H H1 H2 : Hp} {h h1 h2 h' : Heap} {a x e : Addr} {o : HO}
theorem Un.any (u : Un fs ex H H1 h h1) {b : Addr} {ob : Obj} (q : h.get? b = some ob) (n : H b = none) (hx : b ∉ ex) : ∃ sl, h1.get? b = some { ob with slots := sl } := by
  by_cases hb : b ∈ fs
  · exact u.slot b ob q n hb hx
  · exact ⟨ob.slots, u.keep b ob q n hb hx⟩
theorem Un.kept (k : ∀ b u, h.get? b = some u → h'.get? b = some u) : Un fs ex H H h h' :=
  ⟨fun b ob q _ _ _ => k b ob q, fun b ob q _ _ _ => ⟨ob.slots, k b ob q⟩, fun _ _ _ n _ => n, fun b ob q _ => ⟨ob, k b ob q⟩, fun _ _ q => q, fun _ _ _ q => q, fun _ ps q => ⟨#[], by rw [q]; simp⟩⟩
theorem Un.refl : Un fs ex H H h h := Un.kept fun _ _ q => q
theorem Un.laid (k : ∀ b u, h.get? b = some u → h'.get? b = some u) (hp : h.objs.size ≤ a) (hn : H a = none) : Un fs ex H (upd H a o) h h' where
  keep := fun b u q _ _ _ => k b u q
  slot := fun b u q _ _ _ => ⟨u.slots, k b u q⟩
  free := fun b u q n _ => by rw [upd_ne (Nat.ne_of_lt (Nat.lt_of_lt_of_le (Heap.lt_size q) hp))]; exact n
  there := fun b u q _ => ⟨u, k b u q⟩
  tups := fun b xs q => by rw [upd_ne (ne_of_none q hn)]; exact q
  frzs := fun b u xs q => by rw [upd_ne (ne_of_none q hn)]; exact q
  tbls := fun b ps q => ⟨#[], by rw [upd_ne (ne_of_none q hn), q]; simp⟩
theorem Un.write (mu : Mut (H x)) (he : e = x ∨ H e = some (.own x)) (k : ∀ b u, b ≠ e → h.get? b = some u → h'.get? b = some u) (heo : ∃ u, h'.get? e = some u) : Un fs ex H (upd H x o) h h' := by
  have hx : ∀ b, H b = none → b ≠ x := fun b n z => by subst z; rw [n] at mu; exact mu
  have hb : ∀ b, H b = none → b ≠ e := fun b n z => by
    subst z
    rcases he with r | r
    · exact hx b n r
    · rw [n] at r; cases r
  have hm : ∀ b u, H b = some u → ¬ Mut (some u) → b ≠ x := fun b u q nm z => by subst z; rw [q] at mu; exact nm mu
  refine ⟨fun b u q n _ _ => k b u (hb b n) q, fun b u q n _ _ => ⟨u.slots, k b u (hb b n) q⟩, fun b u q n _ => by rw [upd_ne (hx b n)]; exact n, fun b u q _ => ?_,
    fun b xs q => by rw [upd_ne (hm b _ q fun z => z)]; exact q, fun b u xs q => by rw [upd_ne (hm b _ q fun z => z)]; exact q, fun b ps q => ⟨#[], by rw [upd_ne (hm b _ q fun z => z), q]; simp⟩⟩
  by_cases hbe : b = e
  · subst hbe; exact heo
  · exact ⟨u, k b u hbe q⟩
end

noncomputable def trk (h : Heap) (H : Hp) : List Addr := (List.range h.objs.size).filter fun a => (H a).isSome
noncomputable def hidT (h : Heap) (H : Hp) : Heap := PySem.W.hideAll h (trk h H)
theorem hidT_size (h : Heap) (H : Hp) : (hidT h H).objs.size = h.objs.size := PySem.W.hideAll_size _ _
theorem hidT_get {h : Heap} {H : Hp} {b : Addr} {o : Obj} (e : h.get? b = some o) (n : H b = none) : (hidT h H).get? b = some o :=
  PySem.W.hideAll_get _ e fun hm => by
    have q : (H b).isSome = true := (List.mem_filter.mp hm).2
    rw [n] at q; simp at q
theorem of_hidT {h : Heap} {H : Hp} {b : Addr} {o : Obj} (e : (hidT h H).get? b = some o) : h.get? b = some o ∧ H b = none := by
  have e' : h.get? b = some o := PySem.W.of_hideAll (trk h H) e
  refine ⟨e', ?_⟩
  cases q : H b with
  | none => rfl
  | some x =>
    have hm : b ∈ trk h H := List.mem_filter.mpr ⟨List.mem_range.mpr (Heap.lt_size e'), by simp [q]⟩
    have z : (hidT h H).get? b = none := PySem.W.hideAll_none (trk h H) hm
    rw [z] at e; cases e

end L2

namespace L2
open PySem PySem.Spec PyProof.Rows

structure Mod (K : PySem.W.Frag) (mg : Str → Option Value) (base : Heap) : Prop where
  kin : K.In base
  glob : base.Ns mainGlobals mg
  blt : ∃ mb, base.Ns builtinsNs mb ∧ ∀ x : Str, x ≠ "__name__" → mb x = bootBuiltins x
  nolimit : base.NoLimit
  sysm : ∃ mm, base.Ns sysModules mm

structure Cx where
  prog : Program
  w : World
  K : PySem.W.Frag
  mg : Str → Option Value
  base : Heap
  A : Around
  N : List Str
  s₀ : Shared
  H₀ : Hp
  env : Env
  outer : List Env
  stack : List Env
  ex : List Addr
  fn : Str → Bool
  calm : Bool
  pn : List (Addr × Obj)
  xe : Value → Shared → Prop
noncomputable def frs (l : List Env) : List Addr := l.filterMap (·.frame)
noncomputable abbrev Cx.fs (X : Cx) : List Addr := frs X.outer

noncomputable def Vis (sc : Scope) (x : Str) : Prop := sc.names.lookup x = some .local ∨ sc.names.lookup x = some .cell ∨ sc.names.lookup x = some .free
noncomputable def Loc (sc : Scope) (x : Str) : Prop := sc.names.lookup x = some .local ∨ sc.names.lookup x = some .cell
noncomputable def Look (env : Env) (h : Heap) (m : Str → Option Value) (x : Str) (u : Value) : Prop :=
  (env.kindOf x = some .local ∧ m x = some u) ∨ ((env.kindOf x = some .cell ∨ env.kindOf x = some .free) ∧ ∃ c, env.cells.lookup x = some c ∧ h.IsCell c (some u))

structure Cx.Ok (X : Cx) : Prop where
  mod : Mod X.K X.mg X.base
  kind : X.env.scope.kind = .function
  glob : X.env.globals = mainGlobals
  blt : X.env.builtins = builtinsNs
  above : X.s₀.heap.objs.size ≤ X.env.locals
  inj : ∀ x y c, X.env.cells.lookup x = some c → X.env.cells.lookup y = some c → x = y
  has : ∀ x, (X.env.kindOf x = some .cell ∨ X.env.kindOf x = some .free) → ∃ c, X.env.cells.lookup x = some c
  cab : ∀ x c, X.fn x = true → X.env.cells.lookup x = some c → X.s₀.heap.objs.size ≤ c
  hd : X.calm = true → X.A.handled = none
  frames : X.A.frames = some X.stack
  stk : X.stack = X.outer ∨ (X.stack = X.env :: X.outer ∧ X.env.frame = some X.env.locals)
  exf : ∀ b ∈ X.ex, b ≠ X.env.locals ∧ ∀ x c, X.env.cells.lookup x = some c → c ≠ b
  bs : ∀ b o, X.base.get? b = some o → X.s₀.heap.get? b = some o ∧ X.H₀ b = none
  bsz : X.base.objs.size ≤ X.s₀.heap.objs.size
  noex : ∀ b o, X.base.get? b = some o → b ∉ X.ex
  exfs : ∀ b ∈ X.ex, b ∉ X.fs
  funs : X.s₀.heap.FunFrames X.base X.outer
  frf : ∀ b ∈ X.fs, X.H₀ b = none

structure Inv (X : Cx) (pins : List (Addr × Obj)) (σ : List (Option V)) (H : Hp) (s : Shared) : Prop where
  ok : X.Ok
  os : s.os = X.s₀.os
  bare : AllBare s.gens
  base : Un X.fs X.ex X.H₀ H X.s₀.heap s.heap
  loc : ∃ m, s.heap.Ns X.env.locals m ∧ ∀ (i : Nat) (x : Str) (v : V), X.N[i]? = some x → σ[i]? = some (some v) → Vis X.env.scope x → ∃ u, RelV v u ∧ Look X.env s.heap m x u
  cell : ∀ x c, X.env.cells.lookup x = some c → ∃ v, s.heap.IsCell c v
  free : H X.env.locals = none
  freeC : ∀ x c, X.env.cells.lookup x = some c → H c = none
  pin : ∀ p ∈ X.pn ++ pins, s.heap.get? p.1 = some p.2 ∧ H p.1 = none ∧ p.1 ≠ X.env.locals ∧ p.1 ∉ X.fs ∧ ∀ v, p.2.data ≠ .cell v
  hok : HOk X.prog X.w H s.heap
  len : σ.length = X.N.length

section
variable {X : Cx} {pins : List (Addr × Obj)} {σ : List (Option V)} {H H' : Hp} {s : Shared} {h' : Heap}

theorem Cx.Ok.nofr (ok : X.Ok) {b : Addr} {o : Obj} (e : X.base.get? b = some o) : b ∉ X.fs := fun hb => by
  have := (ok.funs.mem hb).1
  rw [e] at this; cases this
theorem Inv.bs (I : Inv X pins σ H s) : ∀ b o, X.base.get? b = some o → s.heap.get? b = some o ∧ H b = none := fun b o e =>
  ⟨I.base.keep b o (I.ok.bs b o e).1 (I.ok.bs b o e).2 (I.ok.nofr e) (I.ok.noex b o e), I.base.free b o (I.ok.bs b o e).1 (I.ok.bs b o e).2 (I.ok.noex b o e)⟩
theorem Inv.bk (I : Inv X pins σ H s) : ∀ b o, X.base.get? b = some o → s.heap.get? b = some o := fun b o e => (I.bs b o e).1
theorem Inv.mod (I : Inv X pins σ H s) : Mod X.K X.mg X.base := I.ok.mod
theorem Inv.kIn (I : Inv X pins σ H s) : X.K.In s.heap := I.ok.mod.kin.keeps I.bk
theorem Inv.lt (I : Inv X pins σ H s) : X.env.locals < s.heap.objs.size := let ⟨_, hn, _⟩ := I.loc; hn.lt
theorem Inv.sz (I : Inv X pins σ H s) : X.s₀.heap.objs.size ≤ s.heap.objs.size := Nat.le_trans I.ok.above (Nat.le_of_lt I.lt)
theorem Inv.nofs (I : Inv X pins σ H s) {a : Addr} (h : s.heap.objs.size ≤ a) : a ∉ X.fs := fun hb => by
  obtain ⟨_, o, ho, _⟩ := I.ok.funs.mem hb
  exact absurd (Nat.lt_of_lt_of_le (Heap.lt_size ho) (Nat.le_trans I.sz h)) (Nat.lt_irrefl _)
theorem Inv.cne (I : Inv X pins σ H s) : ∀ x c, X.env.cells.lookup x = some c → c ≠ X.env.locals := fun x c e z => by
  obtain ⟨v, o, ho, hd⟩ := I.cell x c e
  obtain ⟨m, ⟨o', es, ep, ho', hd', _⟩, _⟩ := I.loc
  rw [z, ho'] at ho; cases ho; rw [hd'] at hd; cases hd
theorem Inv.funs (I : Inv X pins σ H s) : s.heap.FunFrames X.base X.outer := by
  have all : ∀ (l : List Env), (∀ b ∈ frs l, b ∈ X.fs) → X.s₀.heap.FunFrames X.base l → s.heap.FunFrames X.base l := by
    intro l
    induction l with
    | nil => intro _ _; trivial
    | cons env r ih =>
      intro hs hl
      obtain ⟨hk, ⟨L, o, hf, hn, ho, hd⟩, hr⟩ := hl
      have hL : L ∈ X.fs := hs L (by unfold frs; rw [List.filterMap_cons, hf]; exact List.mem_cons_self)
      obtain ⟨sl, e⟩ := I.base.slot L o ho (I.ok.frf L hL) hL fun z => I.ok.exfs L z hL
      exact ⟨hk, ⟨L, _, hf, hn, e, hd⟩, ih (fun b hb => hs b (by unfold frs; rw [List.filterMap_cons, hf]; exact List.mem_cons_of_mem _ hb)) hr⟩
  exact all X.outer (fun _ hb => hb) I.ok.funs

theorem Inv.stack (I : Inv X pins σ H s) : s.heap.FunFrames X.base X.stack := by
  rcases I.ok.stk with e | ⟨e, hf⟩
  · rw [e]; exact I.funs
  · rw [e]
    obtain ⟨m, hn, _⟩ := I.loc
    refine .cons (by rw [I.ok.kind]; decide) hf hn ?_ I.funs
    exact Heap.get?_none_of_le (Nat.le_trans I.ok.bsz I.ok.above)
theorem Inv.stkSub (I : Inv X pins σ H s) : ∀ b ∈ frs X.stack, b ∈ X.env.locals :: X.fs := fun b hb => by
  rcases I.ok.stk with e | ⟨e, hf⟩
  · rw [e] at hb; exact List.mem_cons_of_mem _ hb
  · rw [e] at hb
    unfold frs at hb
    rw [List.filterMap_cons, hf] at hb
    exact hb
theorem Inv.stkFree (I : Inv X pins σ H s) : ∀ b ∈ frs X.stack, H b = none := fun b hb => by
  rcases List.mem_cons.mp (I.stkSub b hb) with e | hb
  · rw [e]; exact I.free
  · obtain ⟨_, o, ho, _⟩ := I.ok.funs.mem hb
    exact I.base.free b o ho (I.ok.frf b hb) fun z => I.ok.exfs b z hb

theorem Inv.step {g' : Array GenState} {t' : Nat} {d' : Drawn} {ch : List Addr} (I : Inv X pins σ H s)
    (hch : ∀ b ∈ ch, (b ∈ X.ex ∨ X.s₀.heap.objs.size ≤ b) ∧ b ≠ X.env.locals ∧ (∀ x c, X.env.cells.lookup x = some c → c ≠ b) ∧ ∀ p ∈ X.pn ++ pins, p.1 ≠ b)
    (keep : ∀ b o, b ≠ X.env.locals → b ∉ X.fs → b ∉ ch → s.heap.get? b = some o → H b = none → h'.get? b = some o)
    (slot : ∀ b o, b ≠ X.env.locals → b ∈ X.fs → b ∉ ch → s.heap.get? b = some o → H b = none → ∃ sl, h'.get? b = some { o with slots := sl }) (free : ∀ b o, b ∉ ch → s.heap.get? b = some o → H b = none → H' b = none)
    (there : ∀ b o, b ∉ ch → s.heap.get? b = some o → ∃ o', h'.get? b = some o')
    (tups : ∀ b xs, H b = some (.tup xs) → H' b = some (.tup xs)) (frzs : ∀ b o u, H b = some (.frz o u) → H' b = some (.frz o u)) (tbls : ∀ b ps, H b = some (.tbl ps) → ∃ more, H' b = some (.tbl (ps ++ more)))
    (ns : ∀ m, s.heap.Ns X.env.locals m → h'.Ns X.env.locals m) (hok : HOk X.prog X.w H' h') (hg : AllBare g') :
    Inv X pins σ H' { s with heap := h', gens := g', drawn := d', toks := t' } := by
  have neL : ∀ b o, X.s₀.heap.get? b = some o → b ≠ X.env.locals := fun b o e => Nat.ne_of_lt (Nat.lt_of_lt_of_le (Heap.lt_size e) I.ok.above)
  have neC : ∀ b o, X.s₀.heap.get? b = some o → b ∉ X.ex → b ∉ ch := fun b o e hx hb => by
    rcases (hch b hb).1 with z | z
    · exact hx z
    · exact absurd (Nat.lt_of_lt_of_le (Heap.lt_size e) z) (Nat.lt_irrefl _)
  have cellK : ∀ x c, X.env.cells.lookup x = some c → ∀ v, s.heap.IsCell c v → h'.IsCell c v := fun x c e v ⟨o, ho, hd⟩ => by
    have nch : c ∉ ch := fun z => (hch c z).2.2.1 x c e rfl
    by_cases hc : c ∈ X.fs
    · obtain ⟨sl, q⟩ := slot c o (I.cne x c e) hc nch ho (I.freeC x c e)
      exact ⟨_, q, hd⟩
    · exact ⟨o, keep c o (I.cne x c e) hc nch ho (I.freeC x c e), hd⟩
  refine ⟨I.ok, I.os, hg, ⟨fun b o e n hb hx => ?_, fun b o e n hb hx => ?_, fun b o e n hx => ?_, fun b o e hx => ?_, fun b xs e => tups b xs (I.base.tups b xs e), fun b o xs e => frzs b o xs (I.base.frzs b o xs e), fun b ps e => ?_⟩, ?_, fun x c e => ?_, ?_, fun x c e => ?_, fun p hp => ?_, hok, I.len⟩
  · exact keep b o (neL b o e) hb (neC b o e hx) (I.base.keep b o e n hb hx) (I.base.free b o e n hx)
  · obtain ⟨sl, e1⟩ := I.base.slot b o e n hb hx
    obtain ⟨sl', e2⟩ := slot b _ (neL b o e) hb (neC b o e hx) e1 (I.base.free b o e n hx)
    exact ⟨sl', e2⟩
  · obtain ⟨o', e1⟩ := I.base.there b o e hx
    exact free b o' (neC b o e hx) e1 (I.base.free b o e n hx)
  · obtain ⟨o', e1⟩ := I.base.there b o e hx
    exact there b o' (neC b o e hx) e1
  · obtain ⟨m1, e1⟩ := I.base.tbls b ps e
    obtain ⟨m2, e2⟩ := tbls b _ e1
    exact ⟨m1 ++ m2, by rw [e2, Array.append_assoc]⟩
  · obtain ⟨m, hn, hl⟩ := I.loc
    refine ⟨m, ns m hn, fun i x v e1 e2 e3 => ?_⟩
    obtain ⟨u, r, l⟩ := hl i x v e1 e2 e3
    refine ⟨u, r, ?_⟩
    rcases l with l | ⟨k, c, e, z⟩
    · exact .inl l
    · exact .inr ⟨k, c, e, cellK x c e _ z⟩
  · obtain ⟨v, z⟩ := I.cell x c e
    exact ⟨v, cellK x c e v z⟩
  · obtain ⟨m, ⟨o, _, _, ho, _⟩, _⟩ := I.loc
    exact free _ o (fun z => (hch _ z).2.1 rfl) ho I.free
  · obtain ⟨v, o, ho, hd⟩ := I.cell x c e
    exact free c o (fun z => (hch c z).2.2.1 x c e rfl) ho (I.freeC x c e)
  · obtain ⟨e, n, ne, nf, d⟩ := I.pin p hp
    have nch : p.1 ∉ ch := fun z => (hch p.1 z).2.2.2 p hp rfl
    exact ⟨keep p.1 p.2 ne nf nch e n, free p.1 p.2 nch e n, ne, nf, d⟩
theorem Inv.un {t' : Nat} (I : Inv X pins σ H s) (u : Un X.fs [] H H' s.heap h') (hok : HOk X.prog X.w H' h') : Inv X pins σ H' { s with heap := h', toks := t' } := by
  obtain ⟨m, ⟨o, es, ep, ho, r⟩, _⟩ := id I.loc
  obtain ⟨sl, hL⟩ := u.any ho I.free (by simp)
  exact I.step (g' := s.gens) (d' := s.drawn) (ch := []) (fun _ z => nomatch z) (fun b o _ hb _ e n => u.keep b o e n hb (by simp)) (fun b o _ hb _ e n => u.slot b o e n hb (by simp)) (fun b o _ e n => u.free b o e n (by simp)) (fun b o _ e => u.there b o e (by simp)) u.tups u.frzs u.tbls (fun m' hm => by
    obtain ⟨o', es', ep', ho', r'⟩ := hm
    rw [ho] at ho'; cases ho'
    exact ⟨_, es', ep', hL, r'⟩) hok I.bare
theorem Inv.call {g' : Array GenState} {t' : Nat} {d' : Drawn} {ch : List Addr} (I : Inv X pins σ H s) (u : Un (frs X.stack) ch H H' s.heap h') (hok : HOk X.prog X.w H' h') (hg : AllBare g')
    (hch : ∀ b ∈ ch, (b ∈ X.ex ∨ X.s₀.heap.objs.size ≤ b) ∧ b ≠ X.env.locals ∧ (∀ x c, X.env.cells.lookup x = some c → c ≠ b) ∧ ∀ p ∈ X.pn ++ pins, p.1 ≠ b) :
    Inv X pins σ H' { s with heap := h', gens := g', drawn := d', toks := t' } := by
  obtain ⟨m, ⟨o, es, ep, ho, r⟩, _⟩ := id I.loc
  obtain ⟨sl, hL⟩ := u.any ho I.free fun z => (hch _ z).2.1 rfl
  exact I.step (ch := ch) hch (fun b o hL hb hc e n => u.keep b o e n (fun z => (List.mem_cons.mp (I.stkSub b z)).elim hL hb) hc) (fun b o _ _ hc e n => u.any e n hc) (fun b o hc e n => u.free b o e n hc) (fun b o hc e => u.there b o e hc) u.tups u.frzs u.tbls (fun m' hm => by
    obtain ⟨o', es', ep', ho', r'⟩ := hm
    rw [ho] at ho'; cases ho'
    exact ⟨_, es', ep', hL, r'⟩) hok hg
theorem Inv.turned {t' : Nat} {it : Addr} (I : Inv X pins σ H s) (k : ∀ b o, b ≠ it → s.heap.get? b = some o → h'.get? b = some o) (hn : H it = none) (hL : it ≠ X.env.locals)
    (h1 : it ∈ X.ex ∨ X.s₀.heap.objs.size ≤ it) (h2 : ∀ x c, X.env.cells.lookup x = some c → c ≠ it) (h3 : ∀ p ∈ X.pn ++ pins, p.1 ≠ it) : Inv X pins σ H { s with heap := h', toks := t' } := by
  have nit : ∀ b u, H b = some u → b ≠ it := fun b u e z => by rw [z, hn] at e; cases e
  refine I.step (g' := s.gens) (d' := s.drawn) (ch := [it]) (fun b hb => ?_) (fun b o _ _ hc e _ => k b o (fun z => hc (by simp [z])) e) (fun b o _ _ hc e _ => ⟨o.slots, k b o (fun z => hc (by simp [z])) e⟩) (fun _ _ _ _ n => n)
    (fun b o hc e => ⟨o, k b o (fun z => hc (by simp [z])) e⟩) (fun _ _ e => e) (fun _ _ _ e => e) (fun b ps e => ⟨#[], by rw [e]; simp⟩) (fun m hm => ?_) (fun b u e => ?_) I.bare
  · have e : b = it := by simpa using hb
    subst e
    exact ⟨h1, hL, h2, h3⟩
  · obtain ⟨o, es, ep, ho, r⟩ := hm
    exact ⟨o, es, ep, k _ o (Ne.symm hL) ho, r⟩
  · refine (I.hok b u e).stay (fun c v hc q => k c v ?_ q) (fun _ q => q) fun _ _ q => q
    rcases hc with z | z
    · rw [z]; exact nit b u e
    · exact nit c _ z
theorem Inv.tok (I : Inv X pins σ H s) (t : Nat) : Inv X pins σ H { s with toks := t } := I.un (h' := s.heap) (t' := t) Un.refl I.hok
theorem Inv.kept {t' : Nat} (I : Inv X pins σ H s) (k : ∀ b u, s.heap.get? b = some u → h'.get? b = some u) : Inv X pins σ H { s with heap := h', toks := t' } := I.un (Un.kept k) (I.hok.kept k)
theorem Inv.laid {a : Addr} {o : HO} {t' : Nat} (I : Inv X pins σ H s) (k : ∀ b u, s.heap.get? b = some u → h'.get? b = some u) (hp : s.heap.objs.size ≤ a) (new : ObjOk X.prog X.w (upd H a o) h' a o) :
    Inv X pins σ (upd H a o) { s with heap := h', toks := t' } := I.un (Un.laid k hp (I.hok.fresh hp)) (I.hok.laid k hp new)
theorem Inv.write {x e : Addr} {o : HO} {t' : Nat} (I : Inv X pins σ H s) (mu : Mut (H x)) (he : e = x ∨ H e = some (.own x)) (k : ∀ b u, b ≠ e → s.heap.get? b = some u → h'.get? b = some u) (heo : ∃ u, h'.get? e = some u)
    (new : ObjOk X.prog X.w (upd H x o) h' x o) : Inv X pins σ (upd H x o) { s with heap := h', toks := t' } := I.un (Un.write mu he k heo) (I.hok.write mu he k heo new)
theorem Inv.weak {σ' : List (Option V)} (I : Inv X pins σ H s) (hl : σ'.length = σ.length) (w : ∀ (i : Nat) v, σ'[i]? = some (some v) → σ[i]? = some (some v)) : Inv X pins σ' H s :=
  ⟨I.ok, I.os, I.bare, I.base, let ⟨m, hn, hl'⟩ := I.loc; ⟨m, hn, fun i x v e1 e2 e3 => hl' i x v e1 (w i v e2) e3⟩, I.cell, I.free, I.freeC, I.pin, I.hok, hl.trans I.len⟩
theorem Inv.pins_of {pins' : List (Addr × Obj)} (I : Inv X pins σ H s) (h : ∀ p ∈ pins', s.heap.get? p.1 = some p.2 ∧ H p.1 = none ∧ p.1 ≠ X.env.locals ∧ p.1 ∉ X.fs ∧ ∀ v, p.2.data ≠ .cell v) : Inv X pins' σ H s :=
  ⟨I.ok, I.os, I.bare, I.base, I.loc, I.cell, I.free, I.freeC, fun p hp => (List.mem_append.mp hp).elim (fun z => I.pin p (List.mem_append_left _ z)) (h p), I.hok, I.len⟩

theorem nodup_ix {N : List Str} (hN : N.Nodup) {i j : Nat} {x : Str} (a : N[i]? = some x) (b : N[j]? = some x) : i = j := by
  obtain ⟨h1, e1⟩ := List.getElem?_eq_some_iff.mp a
  obtain ⟨h2, e2⟩ := List.getElem?_eq_some_iff.mp b
  exact (List.getElem_inj hN).mp (e1.trans e2.symm)

theorem store_ok2 {M : Model} {A : Around} {E : Value → Shared → Prop} {i : Nat} {x : Str} {v : V} {u : Value} {Q : Unit → Shared → Prop} (I : Inv X pins σ H s) (hN : X.N.Nodup) (hi : X.N[i]? = some x) (hx : Loc X.env.scope x) (r : RelV v u)
    (h : ∀ s', Inv X pins (σ.set i (some v)) H s' → (∃ a, Heap.SameBut a s.heap s'.heap ∧ (a = X.env.locals ∨ X.env.cells.lookup x = some a)) → Q () s') (hf : autoParam (X.fn x = true ∨ X.env.scope.names.lookup x = some .local) L2.auto1._auto_1) : wpAny M A (storeName X.env x u) Q E s := by
  obtain ⟨m, hn, hl⟩ := id I.loc
  have hcls : (X.env.scope.kind == .class || (X.env.scope.kind == .module && X.env.locals != X.env.globals)) = false := by rw [I.ok.kind]; rfl
  have hiσ : i < σ.length := by rw [I.len]; exact (List.getElem?_eq_some_iff.mp hi).1
  have cne := I.cne
  have tracked : ∀ {a : Addr} {h' : Heap}, (∃ o, s.heap.get? a = some o ∧ H a = none) → Heap.SameBut a s.heap h' → HOk X.prog X.w H h' := fun {a h'} ha hs b ob e => by
    obtain ⟨_, _, hfree⟩ := ha
    refine (I.hok b ob e).stay (fun c w' hc q => (hs.2 c ?_).trans q) (fun _ q => q) fun _ _ q => q
    rintro rfl
    rcases hc with rfl | hc
    · rw [hfree] at e; cases e
    · rw [hfree] at hc; cases hc
  rcases hx with hk | hk
  · refine wpAny_storeName_local hk hn (fun h' hn' hs => ?_) hcls
    obtain ⟨oL, _, _, hoL, _⟩ := id hn
    refine h _ ⟨I.ok, I.os, I.bare, ⟨fun b o e n hb hx => ?_, fun b o e n hb hx => ?_, I.base.free, fun b o e hx => ?_, I.base.tups, I.base.frzs, I.base.tbls⟩, ⟨_, hn', fun j y v' e1 e2 e3 => ?_⟩, fun y c e => ?_, I.free, I.freeC, fun p hp => ?_, tracked ⟨oL, hoL, I.free⟩ hs, by simpa using I.len⟩ ⟨_, hs, .inl rfl⟩
    · exact (hs.2 b (Nat.ne_of_lt (Nat.lt_of_lt_of_le (Heap.lt_size e) I.ok.above))).trans (I.base.keep b o e n hb hx)
    · obtain ⟨sl, e1⟩ := I.base.slot b o e n hb hx
      exact ⟨sl, (hs.2 b (Nat.ne_of_lt (Nat.lt_of_lt_of_le (Heap.lt_size e) I.ok.above))).trans e1⟩
    · obtain ⟨o', e1⟩ := I.base.there b o e hx
      exact ⟨o', (hs.2 b (Nat.ne_of_lt (Nat.lt_of_lt_of_le (Heap.lt_size e) I.ok.above))).trans e1⟩
    · by_cases hj : j = i
      · subst hj
        rw [hi] at e1; cases e1
        rw [List.getElem?_set_self hiσ] at e2
        cases e2
        exact ⟨u, r, .inl ⟨hk, by simp⟩⟩
      · rw [List.getElem?_set_ne (Ne.symm hj)] at e2
        obtain ⟨u', r', q⟩ := hl j y v' e1 e2 e3
        refine ⟨u', r', ?_⟩
        rcases q with ⟨k, e⟩ | ⟨k, c, e, z⟩
        · refine .inl ⟨k, ?_⟩
          have : y ≠ x := fun e => hj (nodup_ix hN e1 (e ▸ hi))
          simp [this, e]
        · exact .inr ⟨k, c, e, z.sameBut hs (cne y c e)⟩
    · obtain ⟨w', z⟩ := I.cell y c e
      exact ⟨w', z.sameBut hs (cne y c e)⟩
    · obtain ⟨e, n, ne, nf, d⟩ := I.pin p hp
      exact ⟨(hs.2 p.1 ne).trans e, n, ne, nf, d⟩
  · have hfn : X.fn x = true := by
      rcases hf with z | z
      · exact z
      · rw [z] at hk; cases hk
    obtain ⟨c, hc⟩ := I.ok.has x (.inl hk)
    obtain ⟨w', z⟩ := I.cell x c hc
    refine wpAny_storeName_cell I.ok.kind hk hc z (fun h' hc' hs => ?_)
    obtain ⟨oc, hoc, hocd⟩ := id z
    refine h { s with heap := h' } ⟨I.ok, I.os, I.bare, ⟨fun b o e n hb hx => ?_, fun b o e n hb hx => ?_, I.base.free, fun b o e hx => ?_, I.base.tups, I.base.frzs, I.base.tbls⟩, ⟨m, hn.sameBut hs (Ne.symm (cne x c hc)), fun j y v' e1 e2 e3 => ?_⟩, fun y c' e => ?_, I.free, I.freeC, fun p hp => ?_, tracked ⟨oc, hoc, I.freeC x c hc⟩ hs, by simpa using I.len⟩ ⟨c, hs, .inr hc⟩
    · exact (hs.2 b (Nat.ne_of_lt (Nat.lt_of_lt_of_le (Heap.lt_size e) (I.ok.cab x c hfn hc)))).trans (I.base.keep b o e n hb hx)
    · obtain ⟨sl, e1⟩ := I.base.slot b o e n hb hx
      exact ⟨sl, (hs.2 b (Nat.ne_of_lt (Nat.lt_of_lt_of_le (Heap.lt_size e) (I.ok.cab x c hfn hc)))).trans e1⟩
    · obtain ⟨o', e1⟩ := I.base.there b o e hx
      exact ⟨o', (hs.2 b (Nat.ne_of_lt (Nat.lt_of_lt_of_le (Heap.lt_size e) (I.ok.cab x c hfn hc)))).trans e1⟩
    · by_cases hj : j = i
      · subst hj
        rw [hi] at e1; cases e1
        rw [List.getElem?_set_self hiσ] at e2
        cases e2
        exact ⟨u, r, .inr ⟨.inl hk, c, hc, hc'⟩⟩
      · rw [List.getElem?_set_ne (Ne.symm hj)] at e2
        obtain ⟨u', r', q⟩ := hl j y v' e1 e2 e3
        refine ⟨u', r', ?_⟩
        rcases q with q | ⟨k, c', e, z'⟩
        · exact .inl q
        · refine .inr ⟨k, c', e, z'.sameBut hs ?_⟩
          rintro rfl
          exact hj (nodup_ix hN e1 (I.ok.inj _ _ _ e hc ▸ hi))
    · by_cases hcc : c' = c
      · subst hcc; exact ⟨_, hc'⟩
      · obtain ⟨w2, z2⟩ := I.cell y c' e
        exact ⟨w2, z2.sameBut hs hcc⟩
    · obtain ⟨e, n, ne, nf, d⟩ := I.pin p hp
      refine ⟨(hs.2 p.1 ?_).trans e, n, ne, nf, d⟩
      intro q
      rw [q, hoc] at e
      have q' : oc = p.2 := Option.some.inj e
      exact d w' (by rw [← q']; exact hocd)
theorem store_ok {M : Model} {A : Around} {E : Value → Shared → Prop} {i : Nat} {x : Str} {v : V} {u : Value} {Q : Unit → Shared → Prop} (I : Inv X pins σ H s) (hN : X.N.Nodup) (hi : X.N[i]? = some x) (hx : Loc X.env.scope x) (r : RelV v u)
    (h : ∀ s', Inv X pins (σ.set i (some v)) H s' → Q () s') (hf : autoParam (X.fn x = true ∨ X.env.scope.names.lookup x = some .local) L2.auto1._auto_1) : wpAny M A (storeName X.env x u) Q E s :=
  store_ok2 I hN hi hx r (fun s' I' _ => h s' I') hf
theorem Inv.call' {s' : Shared} {ch : List Addr} (I : Inv X pins σ H s) (ho : s'.os = s.os) (u : Un (frs X.stack) ch H H' s.heap s'.heap) (hok : HOk X.prog X.w H' s'.heap) (hg : AllBare s'.gens)
    (hch : ∀ b ∈ ch, (b ∈ X.ex ∨ X.s₀.heap.objs.size ≤ b) ∧ b ≠ X.env.locals ∧ (∀ x c, X.env.cells.lookup x = some c → c ≠ b) ∧ ∀ p ∈ X.pn ++ pins, p.1 ≠ b) : Inv X pins σ H' s' := by
  obtain ⟨h', g', d', t', o'⟩ := s'
  have e : o' = s.os := ho
  subst e
  exact I.call (g' := g') (t' := t') (d' := d') u hok hg hch
end

noncomputable abbrev XK := Value → Option Addr → Hp → Prop
noncomputable abbrev St := List (Option V)
noncomputable abbrev VK := V → Hp → Prop
noncomputable abbrev TE := St → Hp → VK → Prop
noncomputable abbrev TT := St → Hp → (Bool → Hp → Prop) → Prop
noncomputable abbrev TA := St → Hp → (List V → Hp → Prop) → Prop
structure Ends where
  nx : St → Hp → Prop
  rt : VK
  bk : St → Hp → Prop := fun _ _ => False
  ct : St → Hp → Prop := fun _ _ => False
noncomputable abbrev TS := Ends → St → Hp → Prop

noncomputable def EP (X : Cx) (pins : List (Addr × Obj)) (σ : St) (Q : VK) (u : Value) (s' : Shared) : Prop := ∃ v H', Inv X pins σ H' s' ∧ RelV v u ∧ Q v H'
noncomputable def TP (X : Cx) (pins : List (Addr × Obj)) (σ : St) (Q : Bool → Hp → Prop) (b : Bool) (s' : Shared) : Prop := ∃ H', Inv X pins σ H' s' ∧ Q b H'
noncomputable def AP (X : Cx) (pins : List (Addr × Obj)) (σ : St) (Q : List V → Hp → Prop) (us : List Value) (s' : Shared) : Prop := ∃ vs H', Inv X pins σ H' s' ∧ Vals vs us ∧ Q vs H'
noncomputable def SP (X : Cx) (pins : List (Addr × Obj)) (D : Ends) (f : Flow) (s' : Shared) : Prop :=
  match f with
  | .next => ∃ σ' H', Inv X pins σ' H' s' ∧ D.nx σ' H'
  | .brk => ∃ σ' H', Inv X pins σ' H' s' ∧ D.bk σ' H'
  | .cont => ∃ σ' H', Inv X pins σ' H' s' ∧ D.ct σ' H'
  | .ret u => ∃ v σ' H', Inv X pins σ' H' s' ∧ RelV v u ∧ D.rt v H'

noncomputable def PE (X : Cx) (e : Expr) (t : TE) : Prop :=
  ∀ (pins : List (Addr × Obj)) (s : Shared) (σ : St) (H : Hp) (Q : VK), Inv X pins σ H s → t σ H Q → wpAny (model X.prog X.w) X.A (eval e X.env) (EP X pins σ Q) X.xe s
noncomputable def PT (X : Cx) (e : Expr) (t : TT) : Prop :=
  ∀ (pins : List (Addr × Obj)) (s : Shared) (σ : St) (H : Hp) (Q : Bool → Hp → Prop), Inv X pins σ H s → t σ H Q → wpAny (model X.prog X.w) X.A (isTrue e X.env (eval e X.env)) (TP X pins σ Q) X.xe s
noncomputable def PW (X : Cx) (e : Expr) (t : TT) : Prop :=
  ∀ (whole : Sem Value) (pins : List (Addr × Obj)) (s : Shared) (σ : St) (H : Hp) (Q : Bool → Hp → Prop), Inv X pins σ H s → t σ H Q → wpAny (model X.prog X.w) X.A (isTrue e X.env whole) (TP X pins σ Q) X.xe s
theorem PW.pt {X : Cx} {e : Expr} {t : TT} (h : PW X e t) : PT X e t := h _
noncomputable def PA (X : Cx) (es : List Expr) (t : TA) : Prop :=
  ∀ (pos : Pos) (pins : List (Addr × Obj)) (s : Shared) (σ : St) (H : Hp) (Q : List V → Hp → Prop), Inv X pins σ H s → t σ H Q → wpAny (model X.prog X.w) X.A (spliced (backTo pos (starEach es X.env))) (AP X pins σ Q) X.xe s
noncomputable def PS (X : Cx) (st : Stmt) (t : TS) : Prop :=
  ∀ (pins : List (Addr × Obj)) (s : Shared) (σ : St) (H : Hp) (D : Ends), Inv X pins σ H s → t D σ H → wpAny (model X.prog X.w) X.A (exec st X.env) (SP X pins D) X.xe s
noncomputable def PSs (X : Cx) (st : List Stmt) (t : TS) : Prop :=
  ∀ (pins : List (Addr × Obj)) (s : Shared) (σ : St) (H : Hp) (D : Ends), Inv X pins σ H s → t D σ H → wpAny (model X.prog X.w) X.A (execs st X.env) (SP X pins D) X.xe s
theorem thn {α : Type} {t : Sem α} {Q Q' : α → Shared → Prop} {M : Model} {A : Around} {E : Value → Shared → Prop} {s : Shared} (h : wpAny M A t Q E s) (hQ : ∀ a s, Q a s → Q' a s) : wpAny M A t Q' E s := wpAny_mono h hQ fun _ _ x => x
end L2

namespace L2
open PySem PySem.Spec PyProof.Rows
section
variable {X : Cx}

noncomputable def tVar (i : Nat) : TE := fun σ H Q => ∃ v, σ[i]? = some (some v) ∧ Q v H
noncomputable def tC (v : V) : TE := fun _ H Q => Q v H
theorem pe_var {i : Nat} {x : Str} {pos : Pos} (hN : X.N[i]? = some x) (hv : Vis X.env.scope x) (hd : autoParam ((x == ("__debug__" : Str)) = false) L2.auto2._auto_1) (hcd : autoParam ((x == ("__classdict__" : Str)) = false) L2.auto2._auto_1) : PE X (.Name x pos) (tVar i) := by
  intro pins s σ H Q I h
  obtain ⟨v, e, h⟩ := h
  obtain ⟨m, hn, hl⟩ := I.loc
  obtain ⟨u, r, l⟩ := hl i x v hN e hv
  have fin : EP X pins σ Q u s := ⟨v, H, I, r, h⟩
  rcases l with ⟨hk, hm⟩ | ⟨hk, c, hc, hcell⟩
  · exact wpAny_Name (wpAny_loadName_local I.ok.kind hk hn hm fin) hd
  · rcases hk with hk | hk
    · exact wpAny_Name (wpAny_loadName_cell I.ok.kind hk hc hcell fin) hd
    · exact wpAny_Name (wpAny_loadName_free I.ok.kind hk hc hcell fin hcd) hd
theorem pe_int {i j pos} : PE X (.Constant (.int i) j pos) (tC (.int i)) := fun _ _ _ H _ I h => wpAny_Constant_int ⟨.int i, H, I.tok _, ⟨_, rfl⟩, h⟩
theorem pe_bl {b j pos} : PE X (.Constant (.bool b) j pos) (tC (.bl b)) := fun _ _ _ H _ I h => Constant_bool ⟨.bl b, H, I, rfl, h⟩
theorem pe_non {j pos} : PE X (.Constant .none j pos) (tC .non) := fun _ _ _ H _ I h => Constant_none ⟨.non, H, I, rfl, h⟩
noncomputable def Gl (X : Cx) (x : Str) : Prop := X.env.kindOf x = some .globalImplicit
theorem ld_glob {E : Value → Shared → Prop} {pins : List (Addr × Obj)} {s : Shared} {σ : St} {H : Hp} {x : Str} {u : Value} {pos : Pos} {Q : Value → Shared → Prop} (I : Inv X pins σ H s) (hg : Gl X x) (hm : X.mg x = some u) (h : Q u s)
    (hd : autoParam ((x == ("__debug__" : Str)) = false) L2.auto2._auto_1) : wpAny (model X.prog X.w) X.A (eval (.Name x pos) X.env) Q E s :=
  Calls.Name_function_global I.ok.kind hg (Calls.loadGlobal_global (by rw [I.ok.glob]; exact I.mod.glob.keeps I.bk) hm h) hd
theorem ld_blt {E : Value → Shared → Prop} {pins : List (Addr × Obj)} {s : Shared} {σ : St} {H : Hp} {x : Str} {u : Value} {pos : Pos} {Q : Value → Shared → Prop} (I : Inv X pins σ H s) (hg : Gl X x) (hm : X.mg x = none) (hv : bootBuiltins x = some u) (h : Q u s)
    (hn : autoParam (x ≠ "__name__") L2.auto2._auto_1) (hd : autoParam ((x == ("__debug__" : Str)) = false) L2.auto2._auto_1) : wpAny (model X.prog X.w) X.A (eval (.Name x pos) X.env) Q E s := by
  obtain ⟨mb, h1, h2⟩ := I.mod.blt
  exact Calls.Name_function_global I.ok.kind hg (Calls.loadGlobal_builtin (by rw [I.ok.glob]; exact I.mod.glob.keeps I.bk) hm (by rw [I.ok.blt]; exact h1.keeps I.bk) ((h2 x hn).trans hv) h) hd
theorem pe_glob {x : Str} {v : V} {u : Value} {pos : Pos} (hg : Gl X x) (hm : X.mg x = some u) (r : RelV v u) (hd : autoParam ((x == ("__debug__" : Str)) = false) L2.auto2._auto_1) : PE X (.Name x pos) (tC v) :=
  fun _ _ _ H _ I h => ld_glob I hg hm ⟨v, H, I, r, h⟩ hd
theorem pe_bltn {x : Str} {v : V} {u : Value} {pos : Pos} (hg : Gl X x) (hm : X.mg x = none) (hv : bootBuiltins x = some u) (r : RelV v u) (hn : autoParam (x ≠ "__name__") L2.auto2._auto_1) (hd : autoParam ((x == ("__debug__" : Str)) = false) L2.auto2._auto_1) : PE X (.Name x pos) (tC v) :=
  fun _ _ _ H _ I h => ld_blt I hg hm hv ⟨v, H, I, r, h⟩ hn hd

variable {a b : Expr} {ta tb : TE} {pos : Pos}
noncomputable def tB (t : TE) : TT := fun σ H Q => t σ H fun x H1 => ∃ c, x = .bl c ∧ Q c H1
theorem pt_val {e : Expr} {t : TE} (h : PE X e t) (he : autoParam (∀ whole, isTrue e X.env whole = (do let v ← whole; standAt e.pos; holding [v] (truthy v))) L2.auto3._auto_1) : PT X e (tB t) := by
  intro pins s σ H Q I hw
  refine isTrue_plain (thn (h pins s σ H _ I hw) fun v s1 qq0 => ?_) (he _)
  obtain ⟨x, H1, I1, r1, q1⟩ := qq0
  obtain ⟨d, rfl, q⟩ := q1
  cases r1
  exact wpAny_truthy_bool ⟨H1, I1, q⟩

variable {tA tB' : TT} {rest : List Expr}
noncomputable def tAnd (t u : TT) : TT := fun σ H Q => t σ H fun c H1 => if c = true then u σ H1 Q else Q false H1
noncomputable def tOr (t u : TT) : TT := fun σ H Q => t σ H fun c H1 => if c = true then Q true H1 else u σ H1 Q
noncomputable def tNot (t : TT) : TT := fun σ H Q => t σ H fun c H1 => Q (!c) H1
theorem pw_and1 (ha : PT X a tA) : PW X (.BoolOp .And [a] pos) tA := by
  intro wh pins s σ H Q I h
  refine isTrue_and (thn (ha pins s σ H Q I h) fun c s1 e => ?_)
  cases c with
  | true => exact isTrue_and_nil e
  | false => exact e
theorem pw_or1 (ha : PT X a tA) : PW X (.BoolOp .Or [a] pos) tA := by
  intro wh pins s σ H Q I h
  refine isTrue_or (thn (ha pins s σ H Q I h) fun c s1 e => ?_)
  cases c with
  | false => exact isTrue_or_nil e
  | true => exact e
theorem pw_and (ha : PT X a tA) (hb : PW X (.BoolOp .And (b :: rest) pos) tB') : PW X (.BoolOp .And (a :: b :: rest) pos) (tAnd tA tB') := by
  intro wh pins s σ H Q I h
  refine isTrue_and (thn (ha pins s σ H _ I h) fun c s1 qq0 => ?_)
  obtain ⟨H1, I1, q1⟩ := qq0
  cases c with
  | true => exact hb wh pins s1 σ H1 Q I1 q1
  | false => exact ⟨H1, I1, q1⟩
theorem pw_or (ha : PT X a tA) (hb : PW X (.BoolOp .Or (b :: rest) pos) tB') : PW X (.BoolOp .Or (a :: b :: rest) pos) (tOr tA tB') := by
  intro wh pins s σ H Q I h
  refine isTrue_or (thn (ha pins s σ H _ I h) fun c s1 qq0 => ?_)
  obtain ⟨H1, I1, q1⟩ := qq0
  cases c with
  | true => exact ⟨H1, I1, q1⟩
  | false => exact hb wh pins s1 σ H1 Q I1 q1
theorem pt_not (ha : PT X a tA) : PT X (.UnaryOp .Not a pos) (tNot tA) := by
  intro pins s σ H Q I h
  exact isTrue_not (ha pins s σ H (fun c H1 => Q (!c) H1) I h)
noncomputable def tAndV (ta tb : TE) : TE := fun σ H Q => ta σ H fun x H1 => ∃ c, x = .bl c ∧ if c = true then tb σ H1 Q else Q (.bl false) H1
noncomputable def tNotV (ta : TE) : TE := fun σ H Q => ta σ H fun x H1 => ∃ c, x = .bl c ∧ Q (.bl (!c)) H1
theorem pe_one {op} {t : TE} (h : PE X a t) : PE X (.BoolOp op [a] pos) t := fun pins s σ H Q I hw => BoolOp_one (h pins s σ H Q I hw)
theorem pe_and (ha : PE X a ta) (hb : PE X (.BoolOp .And (b :: rest) pos) tb) : PE X (.BoolOp .And (a :: b :: rest) pos) (tAndV ta tb) := by
  intro pins s σ H Q I h
  refine BoolOp_and (thn (ha pins s σ H _ I h) fun v s1 qq0 => ?_)
  obtain ⟨x, H1, I1, r1, q1⟩ := qq0
  obtain ⟨c, rfl, q1⟩ := q1
  cases r1
  refine wpAny_truthy_bool ?_
  cases c with
  | true => exact hb pins s1 σ H1 Q I1 q1
  | false => exact ⟨.bl false, H1, I1, rfl, q1⟩
theorem pe_not (ha : PE X a ta) : PE X (.UnaryOp .Not a pos) (tNotV ta) := by
  intro pins s σ H Q I h
  refine UnaryOp_ (thn (ha pins s σ H _ I h) fun v s1 qq0 => ?_)
  obtain ⟨x, H1, I1, r1, q1⟩ := qq0
  obtain ⟨c, rfl, q1⟩ := q1
  cases r1
  exact not_of (wpAny_truthy_bool ⟨.bl (!c), H1, I1, rfl, q1⟩)
end
end L2

namespace L2
open PySem PySem.Spec PyProof.Rows

noncomputable def SqL (K : PySem.W.Frag) (H : Hp) (a : Addr) (xs : List V) : Prop :=
  Rd H a (.lst xs) ∨
    ∃ (o : Obj) (its : Array Value) (n : Nat), K.lookup a = some o ∧ o.cls = .type "list" ∧ o.dict = none ∧ o.data = .seq its n ∧ its.size ≤ sizeLine ∧ Vals xs its.toList
noncomputable def SqT (K : PySem.W.Frag) (H : Hp) (a : Addr) (xs : List V) : Prop :=
  Rd H a (.tup xs) ∨
    ∃ (o : Obj) (its : Array Value) (n : Nat), K.lookup a = some o ∧ o.cls = .type "tuple" ∧ o.data = .seq its n ∧ its.size ≤ sizeLine ∧ Vals xs its.toList
noncomputable def absV : Value → Option V
  | .none => some .non
  | .bool b => some (.bl b)
  | .int i _ => some (.int i)
  | .str x _ => some (.str x)
  | .bytes b _ => some (.byt b)
  | .float b _ => some (.flt b)
  | .ref a => some (.ref a)
  | .type n => some (.ty n)
  | _ => none
theorem RelV.abs {x : V} {u : Value} (r : RelV x u) : absV u = some x := by
  cases x with
  | non => cases r; rfl
  | bl _ => cases r; rfl
  | int _ => obtain ⟨t, rfl⟩ := r; rfl
  | str _ => obtain ⟨t, rfl⟩ := r; rfl
  | byt _ => obtain ⟨t, rfl⟩ := r; rfl
  | flt _ => obtain ⟨t, rfl⟩ := r; rfl
  | ref _ => cases r; rfl
  | ty _ => cases r; rfl
theorem RelV.inj {x y : V} {u : Value} (r : RelV x u) (q : RelV y u) : x = y := Option.some.inj (r.abs.symm.trans q.abs)
theorem Vals.inj : ∀ {xs ys : List V} {us : List Value}, Vals xs us → Vals ys us → xs = ys
  | _, _, _, .nil, .nil => rfl
  | _, _, _, .cons r t, .cons r' t' => by rw [r.inj r', Vals.inj t t']
section
variable {X : Cx} {pins : List (Addr × Obj)} {σ : St} {H : Hp} {s : Shared} {a : Addr} {xs ys : List V}
theorem SqL.of {K : PySem.W.Frag} (h : H a = some (.lst xs)) : SqL K H a xs := .inl (.inl h)
theorem SqT.of {K : PySem.W.Frag} (h : H a = some (.tup xs)) : SqT K H a xs := .inl (.inl h)
theorem Inv.list (I : Inv X pins σ H s) (h : SqL X.K H a xs) : ∃ its : List Value, Vals xs its ∧ PlainL s.heap a its.toArray ∧ xs.length ≤ sizeLine := by
  rcases h with h | ⟨o, its, n, hk, hc, hd, hs, hz, r⟩
  · obtain ⟨z, its, n, r, e⟩ := h.ok I.hok
    exact ⟨its, r, ⟨_, n, e, rfl, rfl, rfl⟩, z⟩
  · refine ⟨its.toList, r, ⟨o, n, I.kIn a o hk, hc, hd, by simpa using hs⟩, ?_⟩
    have e := r.length
    simp only [Array.length_toList] at e
    omega
theorem Inv.tuple (I : Inv X pins σ H s) (h : SqT X.K H a xs) : ∃ its : List Value, Vals xs its ∧ IsTup s.heap a its.toArray ∧ xs.length ≤ sizeLine := by
  rcases h with h | ⟨o, its, n, hk, hc, hs, hz, r⟩
  · obtain ⟨z, its, r, p⟩ := h.ok I.hok
    exact ⟨its, r, p, z⟩
  · refine ⟨its.toList, r, ⟨o, I.kIn a o hk, hc, n, by simpa using hs⟩, ?_⟩
    have e := r.length
    simp only [Array.length_toList] at e
    omega
theorem Inv.list_inj (I : Inv X pins σ H s) (h : SqL X.K H a xs) (h' : SqL X.K H a ys) : xs = ys := by
  obtain ⟨its, r, ⟨o, n, e, _, _, d⟩, _⟩ := I.list h
  obtain ⟨its', r', ⟨o', n', e', _, _, d'⟩, _⟩ := I.list h'
  rw [e] at e'; cases e'
  rw [d] at d'
  injection d' with d1 _
  have : its = its' := by simpa using congrArg Array.toList d1
  subst this
  exact r.inj r'
theorem Inv.tuple_inj (I : Inv X pins σ H s) (h : SqT X.K H a xs) (h' : SqT X.K H a ys) : xs = ys := by
  obtain ⟨its, r, ⟨o, e, _, n, d⟩, _⟩ := I.tuple h
  obtain ⟨its', r', ⟨o', e', _, n', d'⟩, _⟩ := I.tuple h'
  rw [e] at e'; cases e'
  rw [d] at d'
  injection d' with d1 _
  have : its = its' := by simpa using congrArg Array.toList d1
  subst this
  exact r.inj r'
end

noncomputable abbrev Cx.wish (X : Cx) (E : Value → Shared → Prop) : Cx := { X with xe := E }
noncomputable abbrev Cx.nox (X : Cx) : Cx := X.wish fun _ _ => False
theorem Cx.Ok.wish {X : Cx} (ok : X.Ok) (E : Value → Shared → Prop) : (X.wish E).Ok :=
  ⟨ok.mod, ok.kind, ok.glob, ok.blt, ok.above, ok.inj, ok.has, ok.cab, ok.hd, ok.frames, ok.stk, ok.exf, ok.bs, ok.bsz, ok.noex, ok.exfs, ok.funs, ok.frf⟩
theorem Cx.Ok.unwish {X : Cx} {E : Value → Shared → Prop} (ok : (X.wish E).Ok) : X.Ok :=
  ⟨ok.mod, ok.kind, ok.glob, ok.blt, ok.above, ok.inj, ok.has, ok.cab, ok.hd, ok.frames, ok.stk, ok.exf, ok.bs, ok.bsz, ok.noex, ok.exfs, ok.funs, ok.frf⟩
section
variable {X : Cx} {pins : List (Addr × Obj)} {σ : St} {H : Hp} {s : Shared} {E : Value → Shared → Prop}
theorem Inv.wish (I : Inv X pins σ H s) (E : Value → Shared → Prop) : Inv (X.wish E) pins σ H s := ⟨I.ok.wish E, I.os, I.bare, I.base, I.loc, I.cell, I.free, I.freeC, I.pin, I.hok, I.len⟩
theorem Inv.unwish (I : Inv (X.wish E) pins σ H s) : Inv X pins σ H s := ⟨I.ok.unwish, I.os, I.bare, I.base, I.loc, I.cell, I.free, I.freeC, I.pin, I.hok, I.len⟩
theorem SP.unwish {D : Ends} {f : Flow} {s' : Shared} (h : SP (X.wish E) pins D f s') : SP X pins D f s' := by
  cases f with
  | next => obtain ⟨σ', H', I, q⟩ := h; exact ⟨σ', H', I.unwish, q⟩
  | brk => obtain ⟨σ', H', I, q⟩ := h; exact ⟨σ', H', I.unwish, q⟩
  | cont => obtain ⟨σ', H', I, q⟩ := h; exact ⟨σ', H', I.unwish, q⟩
  | ret u => obtain ⟨v, σ', H', I, r, q⟩ := h; exact ⟨v, σ', H', I.unwish, r, q⟩
theorem PSs.nox {st : List Stmt} {t : TS} (h : PSs X.nox st t) : PSs X st t := fun pins s σ H D I hw =>
  wpAny_mono (h pins s σ H D (I.wish _) hw) (fun _ _ q => q.unwish) fun _ _ z => False.elim z
end

section
variable {X : Cx} {st : Stmt} {rest : List Stmt} {t u : TS} {e : Expr} {te : TE} {pos : Pos}
noncomputable def tNext : TS := fun D σ H => D.nx σ H
noncomputable def tSeq (t u : TS) : TS := fun D σ H => t { D with nx := u D } σ H
theorem pss_nil : PSs X [] tNext := fun _ _ σ H _ I h => wpAny_execs_nil ⟨σ, H, I, h⟩
theorem pss_cons (h1 : PS X st t) (h2 : PSs X rest u) : PSs X (st :: rest) (tSeq t u) := by
  intro pins s σ H D I h
  refine wpAny_execs_cons (thn (h1 pins s σ H { D with nx := u D } I h) fun f s1 q => ?_)
  cases f with
  | next =>
    obtain ⟨σ', H', I', q⟩ := q
    exact h2 pins s1 σ' H' D I' q
  | ret v => exact q
  | brk => exact q
  | cont => exact q
theorem pss_one (h1 : PS X st t) : PSs X [st] t := by
  intro pins s σ H D I h
  refine wpAny_execs_cons (thn (h1 pins s σ H D I h) fun f s1 q => ?_)
  cases f with
  | next => exact wpAny_execs_nil q
  | ret v => exact q
  | brk => exact q
  | cont => exact q
noncomputable def tCont : TS := fun D σ H => D.ct σ H
theorem ps_continue : PS X (.Continue pos) tCont := fun _ _ σ H _ I h => wpAny_Continue ⟨σ, H, I, h⟩
theorem Inv.quiet {pins : List (Addr × Obj)} {σ : St} {H : Hp} {s : Shared} (I : Inv X pins σ H s) : interactive X.env = false := by simp [interactive, I.ok.kind]
noncomputable def tDrop (te : TE) : TS := fun D σ H => te σ H fun _ H1 => D.nx σ H1
theorem ps_expr (he : PE X e te) (hs : autoParam (swapsWith e none pos.line X.env = pure false) L2.auto4._auto_1) : PS X (.Expr e pos) (tDrop te) := by
  intro pins s σ H D I h
  exact wpAny_Expr_any (thn (he pins s σ H _ I h) fun v s1 ⟨x, H1, I1, r1, q1⟩ => ⟨σ, H1, I1, q1⟩) I.quiet hs
noncomputable def tRet (te : TE) : TS := fun D σ H => te σ H D.rt
theorem ps_ret (he : PE X e te) : PS X (.Return (some e) pos) (tRet te) := by
  intro pins s σ H D I h
  exact wpAny_Return_some (thn (he pins s σ H _ I h) fun v s1 ⟨x, H1, I1, r1, q1⟩ => ⟨x, σ, H1, I1, r1, q1⟩)
noncomputable def tIfS (c : TT) (t u : TS) : TS := fun D σ H => c σ H fun b H1 => if b = true then t D σ H1 else u D σ H1
theorem ps_if {c : Expr} {a b : List Stmt} {tc : TT} (hc : PT X c tc) (ha : PSs X a t) (hb : PSs X b u) : PS X (.If c a b pos) (tIfS tc t u) := by
  intro pins s σ H D I h
  refine wpAny_If (thn (hc pins s σ H _ I h) fun d s1 qq0 => ?_)
  obtain ⟨H1, I1, q1⟩ := qq0
  cases d with
  | true => exact ha pins s1 σ H1 D I1 q1
  | false => exact hb pins s1 σ H1 D I1 q1
noncomputable def tNever : TS := fun _ _ _ => False
theorem ps_never : PS X st tNever := fun _ _ _ _ _ _ h => h.elim
end

noncomputable abbrev TG := V → St → Hp → (St → Hp → Prop) → Prop
noncomputable abbrev TGs := List V → St → Hp → (St → Hp → Prop) → Prop
noncomputable def PG (X : Cx) (target : Expr) (t : TG) : Prop :=
  ∀ (pins : List (Addr × Obj)) (s : Shared) (σ : St) (H : Hp) (v : V) (u : Value) (Q : St → Hp → Prop), Inv X pins σ H s → RelV v u → t v σ H Q →
    wpAny (model X.prog X.w) X.A (assign target X.env u) (fun _ s' => ∃ σ' H', Inv X pins σ' H' s' ∧ Q σ' H') X.xe s
noncomputable def PGs (X : Cx) (ts : List Expr) (t : TGs) : Prop :=
  ∀ (pins : List (Addr × Obj)) (s : Shared) (σ : St) (H : Hp) (vs : List V) (us : List Value) (Q : St → Hp → Prop), Inv X pins σ H s → Vals vs us → t vs σ H Q →
    wpAny (model X.prog X.w) X.A (assignInOrder ((assignEach ts X.env).map (·.2)) us) (fun _ s' => ∃ σ' H', Inv X pins σ' H' s' ∧ Q σ' H') X.xe s
noncomputable abbrev TSet := V → V → V → Hp → (Hp → Prop) → Prop
noncomputable def PSet (X : Cx) (t : TSet) : Prop :=
  ∀ (pins : List (Addr × Obj)) (s : Shared) (σ : St) (H : Hp) (o i v : V) (ov iv u : Value) (Q : Hp → Prop), Inv X pins σ H s → RelV o ov → RelV i iv → RelV v u → t o i v H Q →
    wpAny (model X.prog X.w) X.A (setItem ov iv u) (fun _ s' => ∃ H', Inv X pins σ H' s' ∧ Q H') X.xe s
section
variable {X : Cx} {pos : Pos}
noncomputable def gName (i : Nat) : TG := fun v σ H Q => Q (σ.set i (some v)) H
theorem pg_name {i : Nat} {x : Str} (hN : X.N.Nodup) (hi : X.N[i]? = some x) (hx : Loc X.env.scope x) (hf : autoParam (X.fn x = true ∨ X.env.scope.names.lookup x = some .local) L2.auto1._auto_1) : PG X (.Name x pos) (gName i) := by
  intro pins s σ H v u Q I r h
  exact wpAny_assign_Name (store_ok I hN hi hx r (fun s' I' => ⟨_, H, I', h⟩) hf)
noncomputable def gNil : TGs := fun vs σ H Q => vs = [] ∧ Q σ H
noncomputable def gCons (t : TG) (u : TGs) : TGs := fun vs σ H Q => ∃ v r, vs = v :: r ∧ t v σ H fun σ' H' => u r σ' H' Q
theorem pgs_nil : PGs X [] gNil := by
  intro pins s σ H vs us Q I r h
  obtain ⟨e, h⟩ := h
  subst e
  cases r
  exact assignInOrder_nil ⟨σ, H, I, h⟩
theorem pgs_cons {e : Expr} {es : List Expr} {t : TG} {u : TGs} (h1 : PG X e t) (h2 : PGs X es u)
    (hs : autoParam ((assignEach (e :: es) X.env).map (·.2) = assign e X.env :: (assignEach es X.env).map (·.2)) L2.auto4._auto_1) : PGs X (e :: es) (gCons t u) := by
  intro pins s σ H vs us Q I r h
  obtain ⟨v, vr, e1, h⟩ := h
  subst e1
  cases r with
  | cons r rr =>
    rw [hs]
    refine assignInOrder_cons (thn (h1 pins s σ H _ _ _ I r h) fun _ s1 qq0 => ?_)
    obtain ⟨σ1, H1, I1, q1⟩ := qq0
    exact h2 pins s1 σ1 H1 _ _ Q I1 rr q1
noncomputable def gTup (K : PySem.W.Frag) (n : Nat) (t : TGs) : TG := fun v σ H Q => ∃ a xs, v = .ref a ∧ SqT K H a xs ∧ xs.length = n ∧ t xs σ H Q
theorem pg_tup {es : List Expr} {k : Nat} {t : TGs} {n : Nat} (hc : X.calm = true) (h : PGs X es t)
    (hn : autoParam ((assignEach es X.env).length = n) L2.auto4._auto_1) (hst : autoParam ((assignEach es X.env).findIdx? (·.1) = none) L2.auto4._auto_1) : PG X (.Tuple es k pos) (gTup X.K n t) := by
  intro pins s σ H v u Q I r hw
  obtain ⟨a, xs, e1, hq, hl, hw⟩ := hw
  subst e1
  cases r
  obtain ⟨its, rv, ht, hz⟩ := I.tuple hq
  refine assign_Tuple_tuple (I.ok.hd hc) ht (by simp [hn, ← hl, rv.length]) hst fun h' hx => ?_
  have I1 : Inv X pins σ H { s with heap := h' } := I.kept (t' := s.toks) fun b o e => hx b o (Nat.ne_of_lt (Heap.lt_size e)) e
  exact h pins _ σ H xs _ Q I1 (by simpa using rv) hw
noncomputable def gSub (to ti : TE) (t : TSet) : TG := fun v σ H Q => to σ H fun o H1 => ti σ H1 fun i H2 => t o i v H2 fun H3 => Q σ H3
theorem pg_sub {o i : Expr} {to ti : TE} {t : TSet} (ho : PE X o to) (hi : PE X i ti) (hs : PSet X t)
    (ha : ∀ v, assign (.Subscript o i pos) X.env v = (do
      let ov ← holding [v] (eval o X.env)
      let iv ← holding [v, ov] (eval i X.env)
      standAt pos
      holding [v, ov, iv] (setItem ov iv v)
      release [v, ov, iv] []) := by intro _; rfl) : PG X (.Subscript o i pos) (gSub to ti t) := by
  intro pins s σ H v u Q I r h
  rw [ha]
  refine wpAny_bind (wpAny_holding (thn (ho pins s σ H _ I h) fun ov s1 qq0 => ?_))
  obtain ⟨x, H1, I1, r1, q1⟩ := qq0
  refine wpAny_bind (wpAny_holding (thn (hi pins s1 σ H1 _ I1 q1) fun iv s2 qq0 => ?_))
  obtain ⟨y, H2, I2, r2, q2⟩ := qq0
  refine wpAny_bind (wpAny_standAt (wpAny_bind (wpAny_holding (thn (hs pins s2 σ H2 x y v ov iv u _ I2 r1 r2 r q2) fun _ s3 qq0 => ?_))))
  obtain ⟨H3, I3, q3⟩ := qq0
  exact wpAny_release ⟨σ, H3, I3, q3⟩
noncomputable def tAsg (te : TE) (g : TG) : TS := fun D σ H => te σ H fun x H1 => g x σ H1 D.nx
theorem ps_asg {tg e : Expr} {te : TE} {g : TG} (he : PE X e te) (hg : PG X tg g) (hs : autoParam (swapsWithSole [tg] e pos.line X.env = pure false) L2.auto4._auto_1) (hw : autoParam (swappedStores [tg] e X.env = pure none) L2.auto4._auto_1)
    (h1 : autoParam ((assignEach [tg] X.env).map (·.2) = [assign tg X.env]) L2.auto4._auto_1) : PS X (.Assign [tg] e pos) (tAsg te g) := by
  intro pins s σ H D I h
  refine wpAny_Assign_stores (thn (he pins s σ H _ I h) fun v s1 qq0 => ?_) hs hw
  obtain ⟨x, H1, I1, r1, q1⟩ := qq0
  rw [h1]
  exact thn (hg pins s1 σ H1 x v _ I1 r1 q1) fun _ s2 q => q
theorem ps_set {i : Nat} {x : Str} {e : Expr} {te : TE} {pos' : Pos} (hN : X.N.Nodup) (hi : X.N[i]? = some x) (hx : Loc X.env.scope x) (he : PE X e te) (hs : autoParam (swapsWith e (some (.Name x pos')) pos.line X.env = pure false) L2.auto4._auto_1) (hf : autoParam (X.fn x = true ∨ X.env.scope.names.lookup x = some .local) L2.auto1._auto_1) :
    PS X (.Assign [.Name x pos'] e pos) (tAsg te (gName i)) := by
  intro pins s σ H D I h
  refine wpAny_Assign_Name (thn (he pins s σ H _ I h) fun v s1 qq0 => ?_) hs
  obtain ⟨y, H1, I1, r1, q1⟩ := qq0
  exact store_ok I1 hN hi hx r1 (fun s2 I2 => ⟨_, H1, I2, q1⟩) hf
end

section
variable {X : Cx} {pos : Pos}
end

structure It where
  go : Nat → Hp → Prop
  yld : Nat → Hp → V → Hp → Prop
  stop : Nat → Hp → Prop
noncomputable def FpOk (X : Cx) (pins : List (Addr × Obj)) (H : Hp) (b : Addr) : Prop :=
  H b = none ∧ b ≠ X.env.locals ∧ b ∉ X.fs ∧ (b ∈ X.ex ∨ X.s₀.heap.objs.size ≤ b) ∧ (∀ x c, X.env.cells.lookup x = some c → c ≠ b) ∧ ∀ p ∈ X.pn ++ pins, p.1 ≠ b
theorem Inv.fpOk {X : Cx} {pins : List (Addr × Obj)} {σ : St} {H H' : Hp} {s : Shared} {b : Addr} (I : Inv X pins σ H s) (hb : s.heap.objs.size ≤ b) (hn : H' b = none) : FpOk X pins H' b := by
  refine ⟨hn, Nat.ne_of_gt (Nat.lt_of_lt_of_le I.lt hb), I.nofs hb, .inr (Nat.le_trans I.sz hb), fun x c e z => ?_, fun p hp z => ?_⟩
  · obtain ⟨v, q⟩ := I.cell x c e
    exact absurd (Nat.lt_of_lt_of_le q.lt (by rw [z]; exact hb)) (Nat.lt_irrefl _)
  · exact absurd (Nat.lt_of_lt_of_le (Heap.lt_size (I.pin p hp).1) (by rw [z]; exact hb)) (Nat.lt_irrefl _)
structure Turn (P : Program) (w : World) (K : PySem.W.Frag) (tg : Expr) (J : It) (fp : List Addr) (it : Addr) (tn : Nat → Heap → Prop) : Prop where
  mem : it ∈ fp
  obj : ∀ i h, tn i h → ∀ b ∈ fp, ∃ o, h.get? b = some o ∧ ∀ v, o.data ≠ .cell v
  keep : ∀ i h h', tn i h → (∀ b ∈ fp, ∀ o, h.get? b = some o → h'.get? b = some o) → tn i h'
  item : ∀ (X : Cx), X.prog = P → X.w = w → X.K = K → X.calm = true → ∀ (i : Nat) (pins : List (Addr × Obj)) (s : Shared) (σ : St) (H : Hp) (E : Value → Shared → Prop), Inv X pins σ H s → (∀ b ∈ fp, FpOk X pins H b) → tn i s.heap → J.go i H →
    wpAny (model P w) X.A (pyNext (.ref it)) (fun r s1 => ∃ u, r = some u ∧
      wpAny (model P w) X.A (letOwnedTupleGo tg (.ref it) u) (fun _ s2 => ∃ x H', Inv X pins σ H' s2 ∧ RelV x u ∧ J.yld i H x H' ∧ tn (i + 1) s2.heap ∧ ∀ b ∈ fp, H' b = none) E s1) E s
  done : ∀ (X : Cx), X.prog = P → X.w = w → X.K = K → X.calm = true → ∀ (i : Nat) (pins : List (Addr × Obj)) (s : Shared) (σ : St) (H : Hp) (E : Value → Shared → Prop), Inv X pins σ H s → (∀ b ∈ fp, FpOk X pins H b) → tn i s.heap → J.stop i H →
    wpAny (model P w) X.A (pyNext (.ref it)) (fun r s1 => r = none ∧ Inv X pins σ H s1) E s
  self : ∀ (A : Around) (i : Nat) (s : Shared) (Q : Value → Shared → Prop) (E : Value → Shared → Prop), tn i s.heap → Q (.ref it) s → wpAny (model P w) A (pyIter (.ref it)) Q E s
noncomputable abbrev TI := St → Hp → (It → Hp → Prop) → Prop
noncomputable def PIE (X : Cx) (pins : List (Addr × Obj)) (σ : St) (tg : Expr) (R : It → Hp → Prop) (itv : Value) (s2 : Shared) : Prop :=
  ∃ (it : Addr) (fp : List Addr) (tn : Nat → Heap → Prop) (J : It) (H' : Hp), itv = .ref it ∧ Inv X pins σ H' s2 ∧ Turn X.prog X.w X.K tg J fp it tn ∧ tn 0 s2.heap ∧ (∀ b ∈ fp, FpOk X pins H' b) ∧ R J H'
noncomputable def PI (X : Cx) (tg iter : Expr) (wi : TI) : Prop :=
  ∀ (pins : List (Addr × Obj)) (s : Shared) (σ : St) (H : Hp) (R : It → Hp → Prop), Inv X pins σ H s → wi σ H R →
    wpAny (model X.prog X.w) X.A (eval iter X.env) (fun v s1 => wpAny (model X.prog X.w) X.A (pyIter v) (PIE X pins σ tg R) X.xe s1) X.xe s

theorem go_of {M : Model} {A : Around} {E : Value → Shared → Prop} {s : Shared} {tg : Expr} {it : Addr} {u : Value} {o : Obj} {n : String} {vs : Array Value} {Q : Unit → Shared → Prop} (ho : s.heap.get? it = some o) (hc : o.cls = .type n) (hd : o.data = .fields vs)
    (hn : ["enumerate", "zip", "dict_itemiterator", "dict_reverseitemiterator", "odict_iterator", "itertools.zip_longest", "itertools.pairwise"].contains n = false) (hQ : Q () s) : wpAny M A (letOwnedTupleGo tg (.ref it) u) Q E s := by
  unfold letOwnedTupleGo
  cases tg <;> first
    | exact wpAny_pure hQ
    | (cases u <;> first
        | exact wpAny_pure hQ
        | (refine wpAny_bind (wpAny_load ho ?_)
           rw [hc, hd]
           show wpAny M A (if (["enumerate", "zip", "dict_itemiterator", "dict_reverseitemiterator", "odict_iterator", "itertools.zip_longest", "itertools.pairwise"].contains n && vs[0]? == some (rawInt _)) = true then _ else _) Q E s
           rw [if_neg (by intro h; rw [hn, Bool.false_and] at h; cases h)]
           exact wpAny_pure hQ))

noncomputable def Itl (K : PySem.W.Frag) (a : Addr) : It :=
  ⟨fun i H => ∃ xs x, SqL K H a xs ∧ xs[i]? = some x, fun i H x H' => H' = H ∧ ∀ xs, SqL K H a xs → xs[i]? = some x, fun i H => ∃ xs, SqL K H a xs ∧ xs.length ≤ i⟩
noncomputable def Itt (K : PySem.W.Frag) (a : Addr) : It :=
  ⟨fun i H => ∃ xs x, SqT K H a xs ∧ xs[i]? = some x, fun i H x H' => H' = H ∧ ∀ xs, SqT K H a xs → xs[i]? = some x, fun i H => ∃ xs, SqT K H a xs ∧ xs.length ≤ i⟩
noncomputable def Itr (lo : Int) (n : Nat) : It := ⟨fun i _ => i < n, fun i H x H' => H' = H ∧ x = .int (lo + i), fun i _ => n ≤ i⟩
theorem turn_list {P : Program} {w : World} {K : PySem.W.Frag} {tg : Expr} (a it : Addr) : Turn P w K tg (Itl K a) [it] it (fun i h => h.IsListIter it a i) where
  mem := by simp
  obj := fun i h st b hb => by
    have e : b = it := by simpa using hb
    subst e
    obtain ⟨o, e, c, d⟩ := st
    exact ⟨o, e, fun v z => by rw [d] at z; cases z⟩
  keep := fun i h h' st k => st.at fun o e => k it (by simp) o e
  item := by
    intro X hP hw hK hc i pins s σ H E I hf st hg
    subst hP hw hK
    obtain ⟨xs, x, hq, hx⟩ := hg
    obtain ⟨its, rv, p, hz⟩ := I.list hq
    obtain ⟨u, hu, ru⟩ := rv.get hx
    obtain ⟨f0, f1, f2, f3, f4, f5⟩ := hf it (by simp)
    refine wpAny_pyNext_list_item st p.isList (x := u) (by simpa using hu) fun h' st' sb => ?_
    have I1 : Inv X pins σ H { s with heap := h' } := I.turned (t' := s.toks) (fun b o hb e => (sb.2 b hb).trans e) f0 f1 f3 f4 f5
    obtain ⟨o, e, c, d⟩ := id st'
    exact ⟨u, rfl, go_of (s := { s with heap := h' }) e c d (by decide) ⟨x, H, I1, ru, ⟨rfl, fun ys hy => by rw [I.list_inj hy hq]; exact hx⟩, st', fun b hb => (hf b hb).1⟩⟩
  done := by
    intro X hP hw hK hc i pins s σ H E I hf st hg
    subst hP hw hK
    obtain ⟨xs, hq, hx⟩ := hg
    obtain ⟨its, rv, p, hz⟩ := I.list hq
    obtain ⟨f0, f1, f2, f3, f4, f5⟩ := hf it (by simp)
    have hl := rv.length
    exact wpAny_pyNext_list_end (I.ok.hd hc) st p.isList (by simp; omega) fun h' eb => ⟨rfl, I.turned (t' := s.toks) (fun b o hb e => eb b o hb e) f0 f1 f3 f4 f5⟩
  self := fun _ _ _ _ _ st h => wpAny_pyIter_listiter st h
theorem turn_tuple {P : Program} {w : World} {K : PySem.W.Frag} {tg : Expr} (a it : Addr) : Turn P w K tg (Itt K a) [it] it (fun i h => h.IsTupleIter it a i) where
  mem := by simp
  obj := fun i h st b hb => by
    have e : b = it := by simpa using hb
    subst e
    obtain ⟨o, e, c, d⟩ := st
    exact ⟨o, e, fun v z => by rw [d] at z; cases z⟩
  keep := fun i h h' st k => st.at fun o e => k it (by simp) o e
  item := by
    intro X hP hw hK hc i pins s σ H E I hf st hg
    subst hP hw hK
    obtain ⟨xs, x, hq, hx⟩ := hg
    obtain ⟨its, rv, p, hz⟩ := I.tuple hq
    obtain ⟨u, hu, ru⟩ := rv.get hx
    obtain ⟨f0, f1, f2, f3, f4, f5⟩ := hf it (by simp)
    refine wpAny_pyNext_tuple_item st (show s.heap.IsTuple a its.toArray from p) (x := u) (by simpa using hu) fun h' st' sb => ?_
    have I1 : Inv X pins σ H { s with heap := h' } := I.turned (t' := s.toks) (fun b o hb e => (sb.2 b hb).trans e) f0 f1 f3 f4 f5
    obtain ⟨o, e, c, d⟩ := id st'
    exact ⟨u, rfl, go_of (s := { s with heap := h' }) e c d (by decide) ⟨x, H, I1, ru, ⟨rfl, fun ys hy => by rw [I.tuple_inj hy hq]; exact hx⟩, st', fun b hb => (hf b hb).1⟩⟩
  done := by
    intro X hP hw hK hc i pins s σ H E I hf st hg
    subst hP hw hK
    obtain ⟨xs, hq, hx⟩ := hg
    obtain ⟨its, rv, p, hz⟩ := I.tuple hq
    obtain ⟨f0, f1, f2, f3, f4, f5⟩ := hf it (by simp)
    have hl := rv.length
    exact wpAny_pyNext_tuple_end (I.ok.hd hc) st (show s.heap.IsTuple a its.toArray from p) (by simp; omega) fun h' eb => ⟨rfl, I.turned (t' := s.toks) (fun b o hb e => eb b o hb e) f0 f1 f3 f4 f5⟩
  self := fun _ _ _ _ _ st h => wpAny_pyIter_tupleiter st h
theorem turn_range {P : Program} {w : World} {K : PySem.W.Frag} {tg : Expr} (it : Addr) (lo : Int) (n : Nat) : Turn P w K tg (Itr lo n) [it] it (fun i h => IsRangeIter h it (lo + (i : Nat) * 1) ((n : Int) - (i : Nat)) 1) where
  mem := by simp
  obj := fun i h st b hb => by
    have e : b = it := by simpa using hb
    subst e
    exact ⟨_, st, fun v z => by
      have z' : Data.fields _ = Data.cell v := z
      cases z'⟩
  keep := fun i h h' st k => k it (by simp) _ st
  item := by
    intro X hP hw hK hc i pins s σ H E I hf st hg
    subst hP hw hK
    obtain ⟨f0, f1, f2, f3, f4, f5⟩ := hf it (by simp)
    have W := Walks.range (prog := X.prog) (w := X.w) (I.ok.hd hc) it lo 1 n
    refine W.item i s _ _ hg st fun v h' tk hv st' kk => ?_
    obtain ⟨t, rfl⟩ := hv
    have I1 : Inv X pins σ H { s with heap := h', toks := tk } := I.turned (fun b o hb e => kk b o (by simpa using hb) e) f0 f1 f3 f4 f5
    refine ⟨_, rfl, go_of (s := { s with heap := h', toks := tk }) (n := "range_iterator") st' rfl rfl (by decide) ⟨.int (lo + i), H, I1, ⟨t, ?_⟩, ⟨rfl, rfl⟩, st', fun b hb => (hf b hb).1⟩⟩
    rw [Int.mul_one]
  done := by
    intro X hP hw hK hc i pins s σ H E I hf st hg
    subst hP hw hK
    obtain ⟨f0, f1, f2, f3, f4, f5⟩ := hf it (by simp)
    exact wpAny_pyNext_range_end (I.ok.hd hc) st (by have : n ≤ i := hg; omega) fun h' eb => ⟨rfl, I.turned (t' := s.toks) (fun b o hb e => eb b o hb e) f0 f1 f3 f4 f5⟩
  self := fun _ _ _ _ _ st h => wpAny_pyIter_rangeiter st h
end L2

namespace L2
open PySem PySem.Spec PyProof.Rows
section
variable {X : Cx} {tg : Expr}
theorem range_it {pins : List (Addr × Obj)} {σ : St} {H : Hp} {s : Shared} {R : It → Hp → Prop} {E : Value → Shared → Prop} {lo hi : Int} {t u v : Tok} {tk : Nat} (I : Inv X pins σ H s) (h1 : -(2 ^ 62) ≤ lo) (h2 : lo < 2 ^ 62) (h3 : -(2 ^ 62) ≤ hi) (h4 : hi < 2 ^ 62)
    (q : R (Itr lo (hi - lo).toNat) H) : wpAny (model X.prog X.w) X.A (pyIter (.ref s.heap.objs.size)) (PIE X pins σ tg R) E { s with heap := s.heap.push { cls := .type "range", data := .fields #[.int lo t, .int hi u, .int 1 v] }, toks := tk } := by
  refine wpAny_pyIter_range (IsRange.new ..) (small_one h1 h2 h3 h4) ?_
  have I1 : Inv X pins σ H { s with heap := s.heap.push { cls := .type "range", data := .fields #[.int lo t, .int hi u, .int 1 v] }, toks := tk } := I.kept fun b o e => Heap.get?_push_of_some _ e
  refine ⟨(s.heap.push { cls := .type "range", data := .fields #[.int lo t, .int hi u, .int 1 v] }).objs.size, [(s.heap.push { cls := .type "range", data := .fields #[.int lo t, .int hi u, .int 1 v] }).objs.size], _, _, H, rfl,
    I1.kept (t' := tk) fun b o e => Heap.get?_push_of_some _ e, turn_range _ lo (hi - lo).toNat, ?_, fun b hb => ?_, q⟩
  · have e1 : lo + ((0 : Nat) : Int) * 1 = lo := by simp
    have e2 : (((hi - lo).toNat : Nat) : Int) - ((0 : Nat) : Int) = Builtin.Range.rangeSize lo hi 1 := by rw [rangeSize_one]; split <;> omega
    show IsRangeIter _ _ (lo + ((0 : Nat) : Int) * 1) ((((hi - lo).toNat : Nat) : Int) - ((0 : Nat) : Int)) 1
    rw [e1, e2]
    exact Heap.get?_push_size _ rfl
  · have e : b = (s.heap.push { cls := .type "range", data := .fields #[.int lo t, .int hi u, .int 1 v] }).objs.size := by simpa using hb
    subst e
    exact I1.fpOk (Nat.le_refl _) (I1.hok.fresh (Nat.le_refl _))
noncomputable def iRng1 (ta : TA) : TI := fun σ H R => ta σ H fun vs H1 => ∃ j : Int, vs = [.int j] ∧ -(2 ^ 62) ≤ j ∧ j < 2 ^ 62 ∧ R (Itr 0 j.toNat) H1
theorem pi_range1 {a : Expr} {ta : TA} {p pos : Pos} (hg : Gl X "range") (hm : X.mg "range" = none) (ha : PA X [a] ta) (hs : autoParam (starEach [a] X.env = [(false, eval a X.env)]) L2.auto4._auto_1) : PI X tg (.Call (.Name "range" p) [a] [] pos) (iRng1 ta) := by
  intro pins s σ H R I h
  refine Call_ (ld_blt I hg hm boot_range (PyProof.Rows.callWith_type1 (thn (ha pos pins s σ H _ I h) fun us s1 ⟨vs, H1, I1, r1, q1⟩ => ?_) hs rfl))
  obtain ⟨j, e, q1, q2, q⟩ := q1
  subst e
  cases r1 with
  | cons r rr =>
    cases rr
    obtain ⟨t, rfl⟩ := r
    exact call_range_1 (range_it I1 (by omega) (by omega) q1 q2 (by simpa using q))
noncomputable def tFor (wi : TI) (g : TG) (tb : TS) : TS := fun D σ H => wi σ H fun J H1 => ∃ W : Nat → Nat → St → Hp → Prop, (∃ m, W 0 m σ H1) ∧ ∀ i m σ H, W i m σ H →
  (J.stop i H ∧ D.nx σ H) ∨ (J.go i H ∧ ∃ N : St → Hp → Prop, (∀ σ' H', N σ' H' → ∃ m', m' < m ∧ W (i + 1) m' σ' H') ∧ ∀ x H', J.yld i H x H' → g x σ H' fun σ2 H2 => tb { D with nx := N, ct := N, bk := D.nx } σ2 H2)
noncomputable def pinsAt (fp : List Addr) (h : Heap) : List (Addr × Obj) := fp.filterMap fun b => (h.get? b).map fun o => (b, o)
theorem mem_pinsAt {fp : List Addr} {h : Heap} {b : Addr} {o : Obj} (hb : b ∈ fp) (e : h.get? b = some o) : (b, o) ∈ pinsAt fp h := List.mem_filterMap.mpr ⟨b, hb, by rw [e]; rfl⟩
theorem of_pinsAt {fp : List Addr} {h : Heap} {p : Addr × Obj} (hp : p ∈ pinsAt fp h) : p.1 ∈ fp ∧ h.get? p.1 = some p.2 := by
  obtain ⟨b, hb, e⟩ := List.mem_filterMap.mp hp
  cases q : h.get? b with
  | none => rw [q] at e; cases e
  | some o =>
    rw [q] at e
    have e' : (b, o) = p := Option.some.inj e
    subst e'
    exact ⟨hb, q⟩
theorem Inv.pinned {pins : List (Addr × Obj)} {σ : St} {H : Hp} {s : Shared} {fp : List Addr} (I : Inv X pins σ H s) (hf : ∀ b ∈ fp, FpOk X pins H b) (ho : ∀ b ∈ fp, ∃ o, s.heap.get? b = some o ∧ ∀ v, o.data ≠ .cell v) : Inv X (pins ++ pinsAt fp s.heap) σ H s :=
  I.pins_of fun p hp => (List.mem_append.mp hp).elim (fun z => I.pin p (List.mem_append_right _ z)) fun z => by
    obtain ⟨hb, e⟩ := of_pinsAt z
    obtain ⟨f0, f1, f2, _⟩ := hf p.1 hb
    obtain ⟨o, e', d⟩ := ho p.1 hb
    rw [e] at e'; cases e'
    exact ⟨e, f0, f1, f2, d⟩
theorem Inv.unpinned {pins pl : List (Addr × Obj)} {σ : St} {H : Hp} {s : Shared} (I : Inv X (pins ++ pl) σ H s) : Inv X pins σ H s := I.pins_of fun p hp => I.pin p (List.mem_append_right _ (List.mem_append_left _ hp))
theorem ps_for {iter : Expr} {body : List Stmt} {wi : TI} {g : TG} {tb : TS} {pos : Pos} (hp : PassesOwn (model X.prog X.w) X.A X.env X.xe) (hc : X.calm = true) (hi : PI X tg iter wi) (hg : PG X tg g) (hb : PSs X body tb)
    (hs : autoParam (∀ x, foldedSetIterable iter X.env x = pure x) L2.auto3._auto_1) : PS X (.For tg iter body [] pos) (tFor wi g tb) := by
  intro pins s σ H D I h
  refine wpAny_For (thn (hi pins s σ H _ I h) fun v s1 h1 => thn h1 fun itv s2 h2 => ?_) hs
  obtain ⟨it, fp, tn, J, H2, e, I2, T, st2, f2, W, ⟨m0, w0⟩, turn⟩ := h2
  subst e
  -- what stays true of the iterator's objects through the loop
  have stat : ∀ {H' : Hp}, (∀ b ∈ fp, H' b = none) → ∀ b ∈ fp, FpOk X pins H' b := fun hn b hb => ⟨hn b hb, (f2 b hb).2⟩
  refine codeAny_forLoop_any (fun n s' => ∃ i σ' H', Inv X pins σ' H' s' ∧ tn i s'.heap ∧ (∀ b ∈ fp, H' b = none) ∧ W i n σ' H') ?_ m0 ⟨0, σ, H2, I2, st2, fun b hb => (f2 b hb).1, w0⟩
  rintro n s3 ⟨i, σ3, H3, I3, st3, fr3, w3⟩
  rcases turn i n σ3 H3 w3 with ⟨stop, qn⟩ | ⟨go, N, hN, step⟩
  · refine wpAny_passesOwn hp (thn (T.done X rfl rfl rfl hc i pins s3 σ3 H3 X.xe I3 (stat fr3) st3 stop) fun r s4 qq0 => ?_)
    obtain ⟨hr, I4⟩ := qq0
    subst hr
    exact wpAny_execs_nil ⟨σ3, H3, I4, qn⟩
  · refine wpAny_passesOwn hp (thn (T.item X rfl rfl rfl hc i pins s3 σ3 H3 X.xe I3 (stat fr3) st3 go) fun r s4 qq0 => ?_)
    obtain ⟨u, hr, h4⟩ := qq0
    subst hr
    refine wpAny_passesOwn hp (thn h4 fun _ s5 qq0 => ?_)
    obtain ⟨x, H5, I5, r5, y5, st5, fr5⟩ := qq0
    have I5' := I5.pinned (stat fr5) (T.obj _ _ st5)
    refine wpAny_passesOwn hp (thn (hg _ s5 σ3 H5 x u _ I5' r5 (step x H5 y5)) fun _ s6 qq0 => ?_)
    obtain ⟨σ6, H6, I6, q6⟩ := qq0
    refine wpAny_passesOwn hp (thn (hb _ s6 σ6 H6 _ I6 q6) fun f s7 q7 => ?_)
    have again : ∀ {σ7 : St} {H7 : Hp}, Inv X (pins ++ pinsAt fp s5.heap) σ7 H7 s7 → N σ7 H7 → ∃ m, m < n ∧ ∃ i σ' H', Inv X pins σ' H' s7 ∧ tn i s7.heap ∧ (∀ b ∈ fp, H' b = none) ∧ W i m σ' H' := fun {σ7 H7} I7 n7 => by
      obtain ⟨m', hm, w7⟩ := hN σ7 H7 n7
      refine ⟨m', hm, i + 1, σ7, H7, I7.unpinned, T.keep _ _ _ st5 fun b hb o e => (I7.pin (b, o) (List.mem_append_right _ (List.mem_append_right _ (mem_pinsAt hb e)))).1, fun b hb => ?_, w7⟩
      obtain ⟨o, e, d⟩ := T.obj _ _ st5 b hb
      exact (I7.pin (b, o) (List.mem_append_right _ (List.mem_append_right _ (mem_pinsAt hb e)))).2.1
    cases f with
    | next => obtain ⟨σ7, H7, I7, n7⟩ := q7; exact again I7 n7
    | cont => obtain ⟨σ7, H7, I7, n7⟩ := q7; exact again I7 n7
    | brk => obtain ⟨σ7, H7, I7, q7⟩ := q7; exact ⟨σ7, H7, I7.unpinned, q7⟩
    | ret v => obtain ⟨x7, σ7, H7, I7, r7, q7⟩ := q7; exact ⟨x7, σ7, H7, I7.unpinned, r7, q7⟩
end

theorem for_list {K : PySem.W.Frag} {a : Addr} {xs : List V} {g : TG} {tb : TS} {D : Ends} {σ : St} {H : Hp} (Pv : Nat → St → Hp → Prop) (h0 : Pv 0 σ H) (hl : ∀ i σ H, i ≤ xs.length → Pv i σ H → SqL K H a xs)
    (hs : ∀ i x σ H, xs[i]? = some x → Pv i σ H → g x σ H fun σ2 H2 => tb { D with nx := Pv (i + 1), ct := Pv (i + 1), bk := D.nx } σ2 H2) (hd : ∀ σ H, Pv xs.length σ H → D.nx σ H) :
    ∃ W : Nat → Nat → St → Hp → Prop, (∃ m, W 0 m σ H) ∧ ∀ i m σ H, W i m σ H →
      ((Itl K a).stop i H ∧ D.nx σ H) ∨ ((Itl K a).go i H ∧ ∃ N : St → Hp → Prop, (∀ σ' H', N σ' H' → ∃ m', m' < m ∧ W (i + 1) m' σ' H') ∧ ∀ x H', (Itl K a).yld i H x H' → g x σ H' fun σ2 H2 => tb { D with nx := N, ct := N, bk := D.nx } σ2 H2) := by
  refine ⟨fun i m σ H => m = xs.length - i ∧ i ≤ xs.length ∧ Pv i σ H, ⟨xs.length, by simp, Nat.zero_le _, h0⟩, ?_⟩
  rintro i m σ H ⟨rfl, hi, p⟩
  have q := hl i σ H hi p
  by_cases hlt : i < xs.length
  · refine .inr ⟨⟨xs, xs[i], q, by simp [hlt]⟩, Pv (i + 1), fun σ' H' p' => ⟨xs.length - (i + 1), by omega, rfl, hlt, p'⟩, fun x H' y => ?_⟩
    obtain ⟨e, y⟩ := y
    subst e
    exact hs i x σ _ (y xs q) p
  · have e : i = xs.length := by omega
    subst e
    exact .inl ⟨⟨xs, q, Nat.le_refl _⟩, hd σ H p⟩
theorem for_range {lo : Int} {n : Nat} {g : TG} {tb : TS} {D : Ends} {σ : St} {H : Hp} (Pv : Nat → St → Hp → Prop) (h0 : Pv 0 σ H)
    (hs : ∀ i σ H, i < n → Pv i σ H → g (.int (lo + i)) σ H fun σ2 H2 => tb { D with nx := Pv (i + 1), ct := Pv (i + 1), bk := D.nx } σ2 H2) (hd : ∀ σ H, Pv n σ H → D.nx σ H) :
    ∃ W : Nat → Nat → St → Hp → Prop, (∃ m, W 0 m σ H) ∧ ∀ i m σ H, W i m σ H →
      ((Itr lo n).stop i H ∧ D.nx σ H) ∨ ((Itr lo n).go i H ∧ ∃ N : St → Hp → Prop, (∀ σ' H', N σ' H' → ∃ m', m' < m ∧ W (i + 1) m' σ' H') ∧ ∀ x H', (Itr lo n).yld i H x H' → g x σ H' fun σ2 H2 => tb { D with nx := N, ct := N, bk := D.nx } σ2 H2) := by
  refine ⟨fun i m σ H => m = n - i ∧ i ≤ n ∧ Pv i σ H, ⟨n, by simp, Nat.zero_le _, h0⟩, ?_⟩
  rintro i m σ H ⟨rfl, hi, p⟩
  by_cases hlt : i < n
  · refine .inr ⟨hlt, Pv (i + 1), fun σ' H' p' => ⟨n - (i + 1), by omega, rfl, hlt, p'⟩, fun x H' y => ?_⟩
    obtain ⟨e, y⟩ := y
    subst e y
    exact hs i σ _ hlt p
  · have e : i = n := by omega
    subst e
    exact .inl ⟨Nat.le_refl _, hd σ H p⟩
end L2

namespace L2
open PySem PySem.Spec PyProof.Rows

noncomputable abbrev R2 := V → V → Hp → VK → Prop
noncomputable def OpR (X : Cx) (f : Value → Value → Sem Value) (r : R2) : Prop :=
  ∀ (pins : List (Addr × Obj)) (s : Shared) (σ : St) (H : Hp) (x y : V) (v u : Value) (Q : VK), Inv X pins σ H s → RelV x v → RelV y u → r x y H Q →
    wpAny (model X.prog X.w) X.A (f v u) (EP X pins σ Q) X.xe s
noncomputable def CallR (X : Cx) (f : Value) (r : List V → Hp → VK → Prop) : Prop :=
  ∀ (pins : List (Addr × Obj)) (s : Shared) (σ : St) (H : Hp) (xs : List V) (us : List Value) (Q : VK), Inv X pins σ H s → Vals xs us → r xs H Q →
    wpAny (model X.prog X.w) X.A (call f us) (EP X pins σ Q) X.xe s
noncomputable def tOp (r : R2) (ta tb : TE) : TE := fun σ H Q => ta σ H fun x H1 => tb σ H1 fun y H2 => r x y H2 Q
noncomputable def rI (C : Int → Int → Prop) (g : Int → Int → V) : R2 := fun x y H Q => ∃ i j, x = .int i ∧ y = .int j ∧ C i j ∧ Q (g i j) H
noncomputable def rI0 (g : Int → Int → V) : R2 := fun x y H Q => ∃ i j, x = .int i ∧ y = .int j ∧ Q (g i j) H
section
variable {X : Cx} {a b c : Expr} {ta tb tc : TE} {pos : Pos}

theorem binT (ha : PE X a ta) (hb : PE X b tb) {pins : List (Addr × Obj)} {s : Shared} {σ : St} {H : Hp} {R : V → V → Hp → Prop} (I : Inv X pins σ H s)
    (h : ta σ H fun x H1 => tb σ H1 fun y H2 => R x y H2) {Q : Value → Shared → Prop} {f : Value → Value → Sem Value}
    (hf : ∀ v u s2 x y H2, Inv X pins σ H2 s2 → RelV x v → RelV y u → R x y H2 → wpAny (model X.prog X.w) X.A (f v u) Q X.xe s2) :
    wpAny (model X.prog X.w) X.A (eval a X.env) (fun v s₁ => wpAny (model X.prog X.w) X.A (eval b X.env) (fun u s₂ => wpAny (model X.prog X.w) X.A (f v u) Q X.xe s₂) X.xe s₁) X.xe s := by
  refine thn (ha pins s σ H _ I h) fun v s1 qq0 => ?_
  obtain ⟨x, H1, I1, r1, q1⟩ := qq0
  refine thn (hb pins s1 σ H1 _ I1 q1) fun u s2 qq0 => ?_
  obtain ⟨y, H2, I2, r2, q2⟩ := qq0
  exact hf v u s2 x y H2 I2 r1 r2 q2

theorem pe_op {op : Operator} {r : R2} (ho : OpR X (binaryOp op) r) (ha : PE X a ta) (hb : PE X b tb) : PE X (.BinOp a op b pos) (tOp r ta tb) := by
  intro pins s σ H Q I h
  exact wpAny_BinOp (binT ha hb I h fun v u s2 x y H2 I2 rx ry q => ho pins s2 σ H2 x y v u Q I2 rx ry q)
theorem opI {f : Value → Value → Sem Value} {C : Int → Int → Prop} {g : Int → Int → Int}
    (rule : ∀ (i j : Int) (t u : Tok) (s : Shared) (Q : Value → Shared → Prop) (E : Value → Shared → Prop), C i j → Q (.int (g i j) s.toks) { s with toks := s.toks + 1 } → wpAny (model X.prog X.w) X.A (f (.int i t) (.int j u)) Q E s) :
    OpR X f (rI C fun i j => .int (g i j)) := by
  intro pins s σ H x y v u Q I rx ry h
  obtain ⟨i, j, rfl, rfl, hc, q⟩ := h
  obtain ⟨t, rfl⟩ := rx
  obtain ⟨t', rfl⟩ := ry
  exact rule i j t t' s _ _ hc ⟨.int (g i j), H, I.tok _, ⟨_, rfl⟩, q⟩
theorem opI0 {f : Value → Value → Sem Value} {g : Int → Int → Int}
    (rule : ∀ (i j : Int) (t u : Tok) (s : Shared) (Q : Value → Shared → Prop) (E : Value → Shared → Prop), Q (.int (g i j) s.toks) { s with toks := s.toks + 1 } → wpAny (model X.prog X.w) X.A (f (.int i t) (.int j u)) Q E s) :
    OpR X f (rI0 fun i j => .int (g i j)) := by
  intro pins s σ H x y v u Q I rx ry h
  obtain ⟨i, j, rfl, rfl, q⟩ := h
  obtain ⟨t, rfl⟩ := rx
  obtain ⟨t', rfl⟩ := ry
  exact rule i j t t' s _ _ ⟨.int (g i j), H, I.tok _, ⟨_, rfl⟩, q⟩
theorem opB0 {f : Value → Value → Sem Value} {g : Int → Int → Bool}
    (rule : ∀ (i j : Int) (t u : Tok) (s : Shared) (Q : Value → Shared → Prop) (E : Value → Shared → Prop), Q (.bool (g i j)) s → wpAny (model X.prog X.w) X.A (f (.int i t) (.int j u)) Q E s) :
    OpR X f (rI0 fun i j => .bl (g i j)) := by
  intro pins s σ H x y v u Q I rx ry h
  obtain ⟨i, j, rfl, rfl, q⟩ := h
  obtain ⟨t, rfl⟩ := rx
  obtain ⟨t', rfl⟩ := ry
  exact rule i j t t' s _ _ ⟨.bl (g i j), H, I, rfl, q⟩

noncomputable def CPow (i j : Int) : Prop := 0 ≤ j ∧ j ≤ 1000000 ∧ i.natAbs < 2 ^ 64
noncomputable def CMul (i j : Int) : Prop := (-(2 ^ 64) < i ∧ i < 2 ^ 64) ∨ (-(2 ^ 64) < j ∧ j < 2 ^ 64)
theorem CMul.ok {i j : Int} (h : CMul i j) : IntMulOk i j := by
  rcases h with ⟨h1, h2⟩ | ⟨h1, h2⟩
  · exact .of_left (intBits_le_64 h1 h2)
  · exact .of_right (intBits_le_64 h1 h2)
theorem op_add : OpR X (binaryOp .Add) (rI0 fun i j => .int (i + j)) := opI0 fun _ _ _ _ _ _ _ q => add_int q
theorem op_sub : OpR X (binaryOp .Sub) (rI0 fun i j => .int (i - j)) := opI0 fun _ _ _ _ _ _ _ q => sub_int q
theorem op_mul : OpR X (binaryOp .Mult) (rI CMul fun i j => .int (i * j)) := opI fun _ _ _ _ _ _ _ hc q => mul_int q hc.ok
theorem op_mod : OpR X (binaryOp .Mod) (rI (fun _ j => 0 < j) fun i j => .int (i % j)) := opI fun i j _ _ _ _ _ hc q => by
  have h1 : (0 : Int) < j := hc
  exact mod_int' (by omega) (by rw [Int.fmod_eq_emod_of_nonneg i (by omega)]; exact q)
theorem op_pow : OpR X (binaryOp .Pow) (rI CPow fun i j => .int (i ^ j.toNat)) := opI fun _ _ _ _ _ _ _ hc q => pow_int_small hc.1 hc.2.1 hc.2.2 q
end

noncomputable def scal : V → V → Bool
  | .non, .non => true | .non, .int _ => true | .int _, .non => true | .non, .bl _ => true | .bl _, .non => true | .non, .str _ => true | .str _, .non => true
  | .int _, .int _ => true | .bl _, .bl _ => true | .str _, .str _ => true | .byt _, .byt _ => true
  | .int _, .str _ => true | .str _, .int _ => true | .bl _, .str _ => true | .str _, .bl _ => true
  | _, _ => false
noncomputable def rEq : R2 := fun x y H Q => scal x y = true ∧ Q (.bl (decide (x = y))) H
noncomputable def rNe : R2 := fun x y H Q => scal x y = true ∧ Q (.bl (!decide (x = y))) H

theorem dec_int {i j : Int} : decide (V.int i = V.int j) = (i == j) := by
  rw [Bool.eq_iff_iff]
  simp
theorem dec_bl {i j : Bool} : decide (V.bl i = V.bl j) = (i == j) := by
  rw [Bool.eq_iff_iff]
  simp
theorem dec_str {i j : Str} : decide (V.str i = V.str j) = (i == j) := by
  rw [Bool.eq_iff_iff]
  simp
theorem dec_byt {i j : Array UInt8} : decide (V.byt i = V.byt j) = (i.toList == j.toList) := by
  rw [Bool.eq_iff_iff]
  cases i
  cases j
  simp

section
variable {X : Cx} {a b c : Expr} {ta tb tc : TE} {pos : Pos}
theorem fin_bl {pins : List (Addr × Obj)} {σ : St} {H : Hp} {s : Shared} {Q : VK} {k k' : Bool} (I : Inv X pins σ H s) (q : Q (.bl k) H) (e : k = k') : EP X pins σ Q (.bool k') s := by
  subst e
  exact ⟨.bl k, H, I, rfl, q⟩
theorem op_eq : OpR X (compareOp .Eq) rEq := by
  intro pins s σ H x y v u Q I rx ry h
  obtain ⟨hs, q⟩ := h
  cases x with
  | non =>
    cases rx
    cases y with
    | non => cases ry; exact PySem.EqNone.eq_none_none (fin_bl I q (by simp))
    | bl j => cases ry; exact PySem.EqNone.eq_none_bool (fin_bl I q (by simp))
    | int j => obtain ⟨t', rfl⟩ := ry; exact PySem.EqNone.eq_none_int (fin_bl I q (by simp))
    | str j => obtain ⟨t', rfl⟩ := ry; exact PySem.EqNone.eq_none_str (fin_bl I q (by simp))
    | _ => exact absurd (show false = true from hs) Bool.false_ne_true
  | bl i =>
    cases rx
    cases y with
    | non => cases ry; exact PySem.EqNone.eq_bool_none (fin_bl I q (by simp))
    | bl j => cases ry; exact eq_bool (fin_bl I q dec_bl)
    | str j => obtain ⟨t', rfl⟩ := ry; exact PySem.EqMixed.eq_bool_str (fin_bl I q (by simp))
    | _ => exact absurd (show false = true from hs) Bool.false_ne_true
  | int i =>
    obtain ⟨t, rfl⟩ := rx
    cases y with
    | non => cases ry; exact PySem.EqNone.eq_int_none (fin_bl I q (by simp))
    | int j => obtain ⟨t', rfl⟩ := ry; exact eq_int (fin_bl I q dec_int)
    | str j => obtain ⟨t', rfl⟩ := ry; exact PySem.EqMixed.eq_int_str (fin_bl I q (by simp))
    | _ => exact absurd (show false = true from hs) Bool.false_ne_true
  | str i =>
    obtain ⟨t, rfl⟩ := rx
    cases y with
    | non => cases ry; exact PySem.EqNone.eq_str_none (fin_bl I q (by simp))
    | bl j => cases ry; exact PySem.EqMixed.eq_str_bool (fin_bl I q (by simp))
    | int j => obtain ⟨t', rfl⟩ := ry; exact PySem.EqMixed.eq_str_int (fin_bl I q (by simp))
    | str j => obtain ⟨t', rfl⟩ := ry; exact eq_str (fin_bl I q dec_str)
    | _ => exact absurd (show false = true from hs) Bool.false_ne_true
  | byt i =>
    obtain ⟨t, rfl⟩ := rx
    cases y with
    | byt j => obtain ⟨t', rfl⟩ := ry; exact PySem.W.eq_bytes (fin_bl I q dec_byt)
    | _ => exact absurd (show false = true from hs) Bool.false_ne_true
  | _ => cases y <;> exact absurd (show false = true from hs) Bool.false_ne_true
theorem op_ne : OpR X (compareOp .NotEq) rNe := by
  intro pins s σ H x y v u Q I rx ry h
  obtain ⟨hs, q⟩ := h
  cases x with
  | non =>
    cases rx
    cases y with
    | non => cases ry; exact PySem.EqNone.ne_none_none (fin_bl I q (by simp))
    | bl j => cases ry; exact PySem.EqNone.ne_none_bool (fin_bl I q (by simp))
    | int j => obtain ⟨t', rfl⟩ := ry; exact PySem.EqNone.ne_none_int (fin_bl I q (by simp))
    | str j => obtain ⟨t', rfl⟩ := ry; exact PySem.EqNone.ne_none_str (fin_bl I q (by simp))
    | _ => exact absurd (show false = true from hs) Bool.false_ne_true
  | bl i =>
    cases rx
    cases y with
    | non => cases ry; exact PySem.EqNone.ne_bool_none (fin_bl I q (by simp))
    | bl j => cases ry; exact ne_bool (fin_bl I q (congrArg not dec_bl))
    | str j => obtain ⟨t', rfl⟩ := ry; exact PySem.EqMixed.ne_bool_str (fin_bl I q (by simp))
    | _ => exact absurd (show false = true from hs) Bool.false_ne_true
  | int i =>
    obtain ⟨t, rfl⟩ := rx
    cases y with
    | non => cases ry; exact PySem.EqNone.ne_int_none (fin_bl I q (by simp))
    | int j => obtain ⟨t', rfl⟩ := ry; exact ne_int (fin_bl I q (congrArg not dec_int))
    | str j => obtain ⟨t', rfl⟩ := ry; exact PySem.EqMixed.ne_int_str (fin_bl I q (by simp))
    | _ => exact absurd (show false = true from hs) Bool.false_ne_true
  | str i =>
    obtain ⟨t, rfl⟩ := rx
    cases y with
    | non => cases ry; exact PySem.EqNone.ne_str_none (fin_bl I q (by simp))
    | bl j => cases ry; exact PySem.EqMixed.ne_str_bool (fin_bl I q (by simp))
    | int j => obtain ⟨t', rfl⟩ := ry; exact PySem.EqMixed.ne_str_int (fin_bl I q (by simp))
    | str j => obtain ⟨t', rfl⟩ := ry; exact ne_str (fin_bl I q (congrArg not dec_str))
    | _ => exact absurd (show false = true from hs) Bool.false_ne_true
  | byt i =>
    obtain ⟨t, rfl⟩ := rx
    cases y with
    | byt j => obtain ⟨t', rfl⟩ := ry; exact PySem.W.ne_bytes (fin_bl I q (congrArg not dec_byt))
    | _ => exact absurd (show false = true from hs) Bool.false_ne_true
  | _ => cases y <;> exact absurd (show false = true from hs) Bool.false_ne_true

theorem op_lt : OpR X (compareOp .Lt) (rI0 fun i j => .bl (decide (i < j))) := opB0 fun _ _ _ _ _ _ _ q => lt_int q
theorem op_le : OpR X (compareOp .LtE) (rI0 fun i j => .bl (decide (i ≤ j))) := opB0 fun _ _ _ _ _ _ _ q => le_int q
theorem op_gt : OpR X (compareOp .Gt) (rI0 fun i j => .bl (decide (j < i))) := opB0 fun _ _ _ _ _ _ _ q => gt_int q
theorem op_ge : OpR X (compareOp .GtE) (rI0 fun i j => .bl (decide (j ≤ i))) := opB0 fun _ _ _ _ _ _ _ q => ge_int q
theorem op_in_str : OpR X (compareOp .In) (fun x y H Q => ∃ i j, x = .str i ∧ y = .str j ∧ Q (.bl (!(Builtin.Str.occurrences j i 0 j.length 1).isEmpty)) H) := by
  intro pins s σ H x y v u Q I rx ry h
  obtain ⟨i, j, rfl, rfl, q⟩ := h
  obtain ⟨t, rfl⟩ := rx
  obtain ⟨t', rfl⟩ := ry
  exact in_str (fin_bl I q rfl)

theorem op_isN : OpR X (compareOp .Is) (fun x y H Q => y = .non ∧ Q (.bl (decide (x = .non))) H) := by
  intro pins s σ H x y v u Q I rx ry h
  obtain ⟨rfl, q⟩ := h
  cases ry
  refine is_none_gen (fin_bl I q ?_)
  cases x <;> first
    | (cases rx; rfl)
    | (obtain ⟨t, rfl⟩ := rx; rfl)
theorem op_notN : OpR X (compareOp .IsNot) (fun x y H Q => y = .non ∧ Q (.bl (!decide (x = .non))) H) := by
  intro pins s σ H x y v u Q I rx ry h
  obtain ⟨rfl, q⟩ := h
  cases ry
  refine isnot_none_gen (fin_bl I q ?_)
  cases x <;> first
    | (cases rx; rfl)
    | (obtain ⟨t, rfl⟩ := rx; rfl)

theorem OpR.or {f : Value → Value → Sem Value} {r r' : R2} (h : OpR X f r) (h' : OpR X f r') : OpR X f (fun x y H Q => r x y H Q ∨ r' x y H Q) := by
  intro pins s σ H x y v u Q I rx ry q
  rcases q with q | q
  · exact h pins s σ H x y v u Q I rx ry q
  · exact h' pins s σ H x y v u Q I rx ry q

theorem nomark (b : Expr) {op : CmpOp} (h : autoParam (op ≠ .In) L2.auto2._auto_1) (h2 : autoParam (op ≠ .NotIn) L2.auto2._auto_1) : behindInMarks op b = false := by
  have e1 : (op == CmpOp.In) = false := by cases op <;> first | rfl | exact absurd rfl h
  have e2 : (op == CmpOp.NotIn) = false := by cases op <;> first | rfl | exact absurd rfl h2
  cases b <;> simp [behindInMarks, e1, e2]
theorem pe_cmpR {op : CmpOp} {r : R2} (ho : OpR X (compareOp op) r) (ha : PE X a ta) (hb : PE X b tb) (hm : behindInMarks op b = false) : PE X (.Compare a [op] [b] pos) (tOp r ta tb) := by
  intro pins s σ H Q I h
  exact wpAny_Compare1 (binT ha hb I h fun v u s2 x y H2 I2 rx ry q => ho pins s2 σ H2 x y v u Q I2 rx ry q) hm
noncomputable def tTest (t : TE) : TT := fun σ H Q => t σ H fun x H' => ∃ k, x = .bl k ∧ Q k H'
theorem pt_cmpR {op : CmpOp} {r : R2} (ho : OpR X (compareOp op) r) (ha : PE X a ta) (hb : PE X b tb) (hm : behindInMarks op b = false) : PT X (.Compare a [op] [b] pos) (tTest (tOp r ta tb)) := by
  intro pins s σ H Q I h
  refine wpAny_isTrue_Compare1 (thn (ha pins s σ H _ I h) fun v s1 ⟨x, H1, I1, r1, q1⟩ => thn (hb pins s1 σ H1 _ I1 q1) fun u s2 ⟨y, H2, I2, r2, q2⟩ =>
    thn (ho pins s2 σ H2 x y v u _ I2 r1 r2 q2) fun c s3 ⟨z, H3, I3, r3, k, e, q3⟩ => ?_) hm
  subst e
  cases r3
  exact wpAny_truthy_bool ⟨H3, I3, q3⟩
noncomputable def tChain (r r' : R2) (ta tb tc : TE) : TE := fun σ H Q => ta σ H fun x H1 => tb σ H1 fun y H2 => r x y H2 fun z H3 => ∃ k, z = .bl k ∧
  (if k = true then tc σ H3 fun w' H4 => r' y w' H4 Q else Q (.bl false) H3)
theorem pe_chain {op op' : CmpOp} {r r' : R2} (ho : OpR X (compareOp op) r) (ho' : OpR X (compareOp op') r') (ha : PE X a ta) (hb : PE X b tb) (hc : PE X c tc)
    (hm : autoParam (lastMarks [op, op'] [b, c] = false) L2.auto5._auto_1) : PE X (.Compare a [op, op'] [b, c] pos) (tChain r r' ta tb tc) := by
  intro pins s σ H Q I h
  refine Compare_chain (thn (ha pins s σ H _ I h) fun v s1 ⟨x, H1, I1, r1, q1⟩ => chain_link (thn (hb pins s1 σ H1 _ I1 q1) fun u s2 ⟨y, H2, I2, r2, q2⟩ =>
    thn (ho pins s2 σ H2 x y v u _ I2 r1 r2 q2) fun d s3 ⟨z, H3, I3, r3, k, e, q3⟩ => ?_)) hm
  subst e
  cases r3
  refine wpAny_truthy_bool ?_
  cases k with
  | false => exact ite_ff ⟨.bl false, H3, I3, rfl, q3⟩
  | true => exact ite_tt (chain_last (thn (hc pins s3 σ H3 _ I3 q3) fun w' s4 ⟨z', H4, I4, r4, q4⟩ => ho' pins s4 σ H4 y z' u w' Q I4 r2 r4 q4))
theorem line63 : (sizeLine : Nat) < 2 ^ 63 := by rw [sizeLine_eq]; decide
theorem op_add_str : OpR X (binaryOp .Add) (fun x y H Q => ∃ i j, x = .str i ∧ y = .str j ∧ i.length + j.length ≤ sizeLine ∧ Q (.str (i ++ j)) H) := by
  intro pins s σ H x y v u Q I rx ry h
  obtain ⟨i, j, rfl, rfl, hz, q⟩ := h
  obtain ⟨t, rfl⟩ := rx
  obtain ⟨t', rfl⟩ := ry
  exact add_str (fun t' tk => ⟨.str (i ++ j), H, I.tok _, ⟨_, rfl⟩, q⟩) hz
theorem vals1 {x : V} {us : List Value} (r : Vals [x] us) : ∃ u, us = [u] ∧ RelV x u := by
  cases r with
  | cons r1 r2 => cases r2; exact ⟨_, rfl, r1⟩
theorem vals2 {x y : V} {us : List Value} (r : Vals [x, y] us) : ∃ u w', us = [u, w'] ∧ RelV x u ∧ RelV y w' := by
  cases r with
  | cons r1 r2 =>
    cases r2 with
    | cons r3 r4 => cases r4; exact ⟨_, _, rfl, r1, r3⟩
noncomputable def LenV (K : PySem.W.Frag) (x : V) (H : Hp) (n : Nat) : Prop :=
  match x with
  | .str y => y.length ≤ sizeLine ∧ n = y.length
  | .byt y => y.size ≤ sizeLine ∧ n = y.size
  | .ref p => (∃ xs, SqL K H p xs ∧ n = xs.length) ∨ ∃ xs, SqT K H p xs ∧ n = xs.length
  | _ => False
theorem call_len : CallR X (.builtin "len") (fun xs H Q => ∃ x n, xs = [x] ∧ LenV X.K x H n ∧ Q (.int n) H) := by
  intro pins s σ H xs us Q I r h
  obtain ⟨x, n, rfl, e, q⟩ := h
  obtain ⟨u, rfl, rx⟩ := vals1 r
  have hl := line63
  have hs : sizeLine = 16777216 := sizeLine_eq
  cases x with
  | str y =>
    obtain ⟨t, rfl⟩ := rx
    obtain ⟨hy, e'⟩ : y.length ≤ sizeLine ∧ n = y.length := e
    subst e'
    exact len_str (by omega) ⟨.int _, H, I.tok _, ⟨_, rfl⟩, q⟩
  | byt y =>
    obtain ⟨t, rfl⟩ := rx
    obtain ⟨hy, e'⟩ : y.size ≤ sizeLine ∧ n = y.size := e
    subst e'
    exact PySem.W.len_bytes (by omega) ⟨.int _, H, I.tok _, ⟨_, rfl⟩, q⟩
  | ref p =>
    cases rx
    have e' : (∃ xs, SqL X.K H p xs ∧ n = xs.length) ∨ ∃ xs, SqT X.K H p xs ∧ n = xs.length := e
    rcases e' with ⟨xs, hx, e'⟩ | ⟨xs, hx, e'⟩
    · subst e'
      obtain ⟨its, r', pl, hz⟩ := I.list hx
      have hlen := r'.length
      exact Calls.call_len_list pl.isList (by simp only [List.size_toArray]; omega) ⟨.int xs.length, H, I.tok _, ⟨_, by simp only [List.size_toArray]; rw [hlen]⟩, q⟩
    · subst e'
      obtain ⟨its, r', pl, hz⟩ := I.tuple hx
      have hlen := r'.length
      exact len_tuple pl (by simp only [List.size_toArray]; omega) ⟨.int xs.length, H, I.tok _, ⟨_, by simp only [List.size_toArray]; rw [hlen]⟩, q⟩
  | _ => exact (show False from e).elim
end
end L2

namespace L2
open PySem PySem.Spec PyProof.Rows

structure ObjM (h : Heap) (x dx C : Addr) (mA : Str → Option Value) : Prop where
  obj : h.get? x = some (PySem.W.instObj C dx)
  ns : h.Ns1 dx mA
  ne : dx ≠ x

theorem lookIn_ns {h : Heap} {dx : Addr} {mA : Str → Option Value} (n : h.Ns1 dx mA) : ∃ od, h.get? dx = some od ∧ ∀ name, PySem.W.lookIn name od = some (mA name) := by
  obtain ⟨o, es, ep, ho, hd, hk, _, hm⟩ := n
  refine ⟨o, ho, fun name => ?_⟩
  have e := hm name
  unfold nsFind findBy at e
  rw [← Array.find?_toList] at e
  unfold PySem.W.lookIn
  rw [hd]
  dsimp only
  split
  · rename_i y q
    rw [q] at e
    exact congrArg some e
  · rename_i q
    rw [q] at e
    have a : es.toList.any (·.refKey) = false := by
      rw [List.any_eq_false]
      intro y hy
      obtain ⟨z, t, hkey⟩ := hk y (Array.mem_toList_iff.mp hy)
      simp [DictEntry.refKey, hkey]
    have a' : ¬ es.toList.any (·.refKey) = true := by rw [a]; exact Bool.false_ne_true
    rw [if_neg a']
    exact congrArg some e

theorem ObjM.look {h : Heap} {x dx C : Addr} {mA : Str → Option Value} (I : ObjM h x dx C mA) : ∃ od, PySem.W.InstAt h x (PySem.W.instObj C dx) C (some od) ∧ ∀ name, PySem.W.lookIn name od = some (mA name) :=
  let ⟨od, ho, hl⟩ := lookIn_ns I.ns
  ⟨od, ⟨I.obj, rfl, rfl, ho⟩, hl⟩

section
variable {prog : Program} {w : World} {A : Around} {E : Value → Shared → Prop} {s : Shared} {K : PySem.W.Frag} {x dx C f : Addr} {mA : Str → Option Value} {name : Str} {v : Value}

end

theorem RelO.some_of {v : V} {o : Option Value} (r : RelO (some v) o) : ∃ u, o = some u ∧ RelV v u := by
  cases o with
  | none => exact (show False from r).elim
  | some u => exact ⟨u, rfl, r⟩
section
variable {P : Program} {w : World} {H H' : Hp} {h h' : Heap} {a C dx : Addr} {fs fs' : List (Str × V)}
theorem ins_get (hok : HOk P w H h) (e : H a = some (.ins C dx fs)) : ∃ mA, ObjM h a dx C mA ∧ (∀ f, RelO (fs.lookup f) (mA f)) ∧ PySem.Within mA (fs.map (·.1)) ∧ fs.length ≤ 1000 ∧ H dx = some (.own a) := by
  obtain ⟨d, z, ne, ob, mA, n, r, q⟩ := (show ObjOk P w H h a (.ins C dx fs) from hok a _ e)
  exact ⟨mA, ⟨ob, n, ne⟩, r, q, z, d⟩
end

structure Cls (K : PySem.W.Frag) (C : Addr) : Prop where
  pg : PySem.W.plainGet K C Str.empty = true
  hd : PySem.W.hasDictIn K C = true
  po : PySem.W.plainOver K C = true
  sa : PySem.W.findIn K (.ref C) "__setattr__" = some (some (.builtin "object.__setattr__"))
theorem Cls.get {K : PySem.W.Frag} {C : Addr} (c : Cls K C) (f : Str) : PySem.W.plainGet K C f = true := c.pg
noncomputable def NoAttr (K : PySem.W.Frag) (C : Addr) (f : Str) : Prop := PySem.W.findIn K (.ref C) f = some none
structure Con (K : PySem.W.Frag) (C : Addr) (f : Str) (v : V) (u : Value) : Prop where
  at_ : PySem.W.findIn K (.ref C) f = some (some u)
  rel : RelV v u
  get : PySem.W.specialIn K u "__get__" = some none
  cp : PySem.W.copiedNames.contains f = false
structure Meth (K : PySem.W.Frag) (C : Addr) (m : Str) (f : Addr) : Prop where
  at_ : PySem.W.findIn K (.ref C) m = some (some (.ref f))
  fn : PySem.W.isFn K (.ref f) = true
  kp : PySem.W.keepIn K (.ref f) = true

section
variable {X : Cx} {pins : List (Addr × Obj)} {σ : St} {H : Hp} {s : Shared} {a C dx : Addr} {fs : List (Str × V)} {f : Str} {v : V} {A : Around} {E : Value → Shared → Prop}

end

section
variable {X : Cx} {o e value : Expr} {f : Str} {pos pos' tpos : Pos} {ta tv : TE}
end

section
variable {X : Cx} {pins : List (Addr × Obj)} {σ : St} {H : Hp} {s : Shared} {A : Around} {E : Value → Shared → Prop} {Q : Value → Shared → Prop} {c : Value} {b : Bool}
inductive TyOf (K : PySem.W.Frag) (H : Hp) : V → Value → Prop where
  | non : TyOf K H .non (.type "NoneType")
  | bl (x : Bool) : TyOf K H (.bl x) (.type "bool")
  | int (i : Int) : TyOf K H (.int i) (.type "int")
  | str (x : Str) : TyOf K H (.str x) (.type "str")
  | flt (x : UInt64) : TyOf K H (.flt x) (.type "float")
  | lst {a : Addr} {xs : List V} (e : H a = some (.lst xs)) : TyOf K H (.ref a) (.type "list")
  | frz {a : Addr} {o : Obj} {xs : List V} (e : H a = some (.frz o (.lst xs))) : TyOf K H (.ref a) (.type "list")
  | tup {a : Addr} {xs : List V} (e : H a = some (.tup xs)) : TyOf K H (.ref a) (.type "tuple")
  | dK {a : Addr} {kvs : List (Key × V)} (e : H a = some (.dK kvs)) : TyOf K H (.ref a) (.type "dict")
  | dT {a : Addr} {kvs : List (List Key × V)} (e : H a = some (.dT kvs)) : TyOf K H (.ref a) (.type "dict")
  | ins {a C dx : Addr} {fs : List (Str × V)} (e : H a = some (.ins C dx fs)) (cl : Cls K C) (ha : PySem.W.findIn K (.ref C) "__class__" = some (some (.builtin "object.__class__")))
      (hn : PySem.W.specialIn K (.builtin "object.__class__") "__get__" = some (some (.builtin "getset_descriptor.__get__"))) (htk : PySem.W.takesIn K (.builtin "object.__class__") = some true)
      (hm : PySem.W.mroIn K C (.type "object") = some true) : TyOf K H (.ref a) (.ref C)
theorem isinst_ok {x : V} {u t : Value} (I : Inv X pins σ H s) (rx : RelV x u) (ty : TyOf X.K H x t) (e : PySem.W.kitOne X.K t c = some b) (h : ∀ tk, Q (.bool b) { s with toks := tk }) :
    wpAny (model X.prog X.w) A (call (.builtin "isinstance") [u, c]) Q E s := by
  cases ty with
  | non => cases (show u = Value.none from rx); exact PySem.W.kia_one PySem.W.kitx_none I.kIn True.intro e (fun z => nomatch z) h
  | bl y => cases (show u = Value.bool y from rx); exact PySem.W.kia_one PySem.W.kitx_bool I.kIn True.intro e (fun z => nomatch z) h
  | int i => obtain ⟨t, q⟩ := (show ∃ t, u = Value.int i t from rx); cases q; exact PySem.W.kia_one PySem.W.kitx_int I.kIn True.intro e (fun z => nomatch z) h
  | str y => obtain ⟨t, q⟩ := (show ∃ t, u = Value.str y t from rx); cases q; exact PySem.W.kia_one PySem.W.kitx_str I.kIn True.intro e (fun z => nomatch z) h
  | flt y => obtain ⟨t, q⟩ := (show ∃ t, u = Value.float y t from rx); cases q; exact PySem.W.kia_one PySem.W.kitx_float I.kIn True.intro e (fun z => nomatch z) h
  | @lst a xs ea =>
    cases (show u = Value.ref a from rx)
    obtain ⟨_, _, n, _, h1⟩ := (show ObjOk X.prog X.w H s.heap a (.lst xs) from I.hok a _ ea)
    exact PySem.W.kia_one PySem.W.kitx_list I.kIn ⟨_, h1, rfl⟩ e (fun z => nomatch z) h
  | @frz a ob xs ea =>
    cases (show u = Value.ref a from rx)
    obtain ⟨_, _, _, n, _, h1⟩ := (show ObjOk X.prog X.w H s.heap a (.frz ob (.lst xs)) from I.hok a _ ea)
    exact PySem.W.kia_one PySem.W.kitx_list I.kIn ⟨_, h1, rfl⟩ e (fun z => nomatch z) h
  | @tup a xs ea =>
    cases (show u = Value.ref a from rx)
    obtain ⟨_, _, _, p⟩ := (show ObjOk X.prog X.w H s.heap a (.tup xs) from I.hok a _ ea)
    obtain ⟨o, h1, h2, _⟩ := p
    exact PySem.W.kia_one PySem.W.kitx_tuple I.kIn ⟨o, h1, h2⟩ e (fun z => nomatch z) h
  | @dK a kvs ea =>
    cases (show u = Value.ref a from rx)
    obtain ⟨_, _, vs, _, p⟩ := (show ObjOk X.prog X.w H s.heap a (.dK kvs) from I.hok a _ ea)
    obtain ⟨o, es, ep, h1, h2, _⟩ := p
    exact PySem.W.kia_one PySem.W.kitx_dict I.kIn ⟨o, h1, h2.1⟩ e (fun z => nomatch z) h
  | @dT a kvs ea =>
    cases (show u = Value.ref a from rx)
    obtain ⟨_, _, xs, _, o, es, ep, h1, h2, _⟩ := (show ObjOk X.prog X.w H s.heap a (.dT kvs) from I.hok a _ ea)
    exact PySem.W.kia_one PySem.W.kitx_dict I.kIn ⟨o, h1, h2.1⟩ e (fun z => nomatch z) h
  | @ins a C dx fs ea cl ha hn htk hm =>
    cases (show u = Value.ref a from rx)
    obtain ⟨mA, O, _⟩ := ins_get I.hok ea
    obtain ⟨od, J, _⟩ := O.look
    exact PySem.W.kia_one (PySem.W.kitx_own (cl.get _) cl.hd ha hn htk hm) I.kIn J e (fun z => nomatch z) h
end
end L2

namespace L2
open PySem PySem.Spec PyProof.Rows

structure Room (k : Nat) (A : Around) : Prop where
  hd : A.handled = none
  dp : A.depth + 3 * k + 5 < recursionLimit
  un : A.units + 16 * k + 200 < cLine
  gd : A.guards = some []
theorem Room.mono {j k : Nat} {A : Around} (r : Room k A) (h : j ≤ k) : Room j A := ⟨r.hd, by have := r.dp; omega, by have := r.un; omega, r.gd⟩
theorem Room.deeper {k : Nat} {A : Around} (r : Room (k + 1) A) (env : Env) : Room k (A.deeper env) :=
  ⟨r.hd, by have := r.dp; show A.depth + 1 + 3 * k + 5 < _; omega, by have := r.un; show A.units + 3 + 16 * k + 200 < _; omega, r.gd⟩
theorem Room.depth {k : Nat} {A : Around} (r : Room k A) : A.depth < recursionLimit := by have := r.dp; omega
theorem Room.units {k : Nat} {A : Around} (r : Room k A) : A.units + 64 < cLine := by have := r.un; omega
theorem Room.units0 {k : Nat} {A : Around} (r : Room k A) : A.units < cLine := by have := r.un; omega

noncomputable def tNil : TA := fun _ H Q => Q [] H
noncomputable def tCons (ta : TE) (tr : TA) : TA := fun σ H Q => ta σ H fun x H1 => tr σ H1 fun xs H2 => Q (x :: xs) H2
section
variable {X : Cx} {e : Expr} {es : List Expr} {te : TE} {t : TA} {pos : Pos}
theorem pa_nil : PA X [] tNil := fun _ _ _ _ H Q I h => Calls.spliced_nil ⟨[], H, I, .nil, h⟩
theorem pa_cons (ha : PE X e te) (hr : PA X es t) (hs : autoParam (starEach (e :: es) X.env = (false, eval e X.env) :: starEach es X.env) L2.auto4._auto_1) : PA X (e :: es) (tCons te t) := by
  intro pos pins s σ H Q I h
  rw [hs]
  show wpAny _ _ (spliced ((false, eval e X.env) :: backTo pos (starEach es X.env))) _ _ s
  refine Calls.spliced_cons (thn (ha pins s σ H _ I h) fun u s1 qq0 => ?_)
  obtain ⟨x, H1, I1, r1, q1⟩ := qq0
  exact thn (hr pos pins s1 σ H1 _ I1 q1) fun us s2 ⟨xs, H2, I2, r2, q2⟩ => ⟨x :: xs, H2, I2, .cons r1 r2, q2⟩

noncomputable def tTup (t : TA) : TE := fun σ H Q => t σ H fun xs H1 => xs.length ≤ sizeLine ∧ ∀ p, H1 p = none → Q (.ref p) (upd H1 p (.tup xs))
noncomputable def tLst (t : TA) : TE := fun σ H Q => t σ H fun xs H1 => xs.length ≤ sizeLine ∧ ∀ p, H1 p = none → Q (.ref p) (upd H1 p (.lst xs))
theorem pe_tup {x1} (h : PA X es t) : PE X (.Tuple es x1 pos) (tTup t) := by
  intro pins s σ H Q I hq
  refine wpAny_Tuple_spliced (thn (h pos pins s σ H _ I hq) fun us s1 ⟨xs, H1, I1, r, z, q⟩ => ⟨by rw [← r.length]; exact z, ?_⟩)
  have hf : H1 s1.heap.objs.size = none := I1.hok.fresh (Nat.le_refl _)
  refine ⟨.ref s1.heap.objs.size, upd H1 s1.heap.objs.size (.tup xs), I1.laid (t' := s1.toks) (fun b u e => Heap.get?_push_of_some _ e) (Nat.le_refl _) ?_, rfl, q _ hf⟩
  exact ⟨z, us, r, ⟨_, Heap.get?_push_size _ rfl, rfl, _, rfl⟩⟩
theorem pe_lst (h : PA X es t) : PE X (.List es pos) (tLst t) := by
  intro pins s σ H Q I hq
  refine wpAny_List_spliced (thn (h pos pins s σ H _ I hq) fun us s1 ⟨xs, H1, I1, r, z, q⟩ => ⟨by rw [← r.length]; exact z, ?_⟩)
  have hf : H1 s1.heap.objs.size = none := I1.hok.fresh (Nat.le_refl _)
  refine ⟨.ref s1.heap.objs.size, upd H1 s1.heap.objs.size (.lst xs), I1.laid (t' := s1.toks) (fun b u e => Heap.get?_push_of_some _ e) (Nat.le_refl _) ?_, rfl, q _ hf⟩
  exact ⟨z, us, 0, r, Heap.get?_push_size _ rfl⟩
end

noncomputable abbrev Sp := List V → Hp → VK → XK → Prop
noncomputable abbrev CXT := List Env → Hp → Shared → XK → Value → Shared → Prop

structure Env0 (P : Program) (w : World) (K : PySem.W.Frag) (mg : Str → Option Value) (base : Heap) (A : Around) (outer : List Env) (s : Shared) (H : Hp) : Prop where
  frames : A.frames = some outer
  mod : Mod K mg base
  bs : ∀ b o, base.get? b = some o → s.heap.get? b = some o ∧ H b = none
  bsz : base.objs.size ≤ s.heap.objs.size
  funs : s.heap.FunFrames base outer
  frf : ∀ b ∈ frs outer, H b = none
  hok : HOk P w H s.heap
  bare : AllBare s.gens
noncomputable def CE (outer : List Env) (P : Program) (w : World) (H : Hp) (s : Shared) (Q : VK) (u : Value) (s' : Shared) : Prop :=
  ∃ v H', s'.os = s.os ∧ AllBare s'.gens ∧ Un (frs outer) [] H H' s.heap s'.heap ∧ HOk P w H' s'.heap ∧ RelV v u ∧ Q v H'
noncomputable def CR (CX : CXT) (outer : List Env) (P : Program) (w : World) (H : Hp) (s : Shared) (Q : VK) (E : XK) (r : Result) (s' : Shared) : Prop :=
  match r with
  | .ok (.ret u) => CE outer P w H s Q u s'
  | .ok _ => False
  | .error e => CX outer H s E e s'
structure FnOk (P : Program) (w : World) (K : PySem.W.Frag) (mg : Str → Option Value) (base : Heap) (CX : CXT) (k : Nat) (f : Addr) (fd : FuncData) (ps : List Str) (sp : Sp) : Prop where
  len : ∀ vs H Q E, sp vs H Q E → vs.length = ps.length
  run : ∀ (A : Around) (outer : List Env) (s : Shared) (H : Hp) (args : Args) (us : List Value) (vs : List V) (Q : VK) (E : XK), Room k A → Env0 P w K mg base A outer s H → BindsTo s fd args (ps.zip us) → Vals vs us → sp vs H Q E →
    codeAny (model P w) A (.call (.ref f) args) (CR CX outer P w H s Q E) s
section
variable {X : Cx} {pins : List (Addr × Obj)} {σ : St} {H : Hp} {s s' : Shared}
theorem Inv.env0 (I : Inv X pins σ H s) : Env0 X.prog X.w X.K X.mg X.base X.A X.stack s H :=
  ⟨I.ok.frames, I.ok.mod, I.bs, Nat.le_trans I.ok.bsz I.sz, I.stack, I.stkFree, I.hok, I.bare⟩
theorem Inv.after {Q : VK} {u : Value} (I : Inv X pins σ H s) (h : CE X.stack X.prog X.w H s Q u s') : EP X pins σ Q u s' := by
  obtain ⟨v, H', os, bare, un, hok, r, q⟩ := h
  obtain ⟨hh, g, d, t, os'⟩ := s'
  obtain rfl : os' = s.os := os
  exact ⟨v, H', I.call (h' := hh) (g' := g) (d' := d) (t' := t) (ch := []) un hok bare (fun b z => absurd z (by simp)), r, q⟩
end

noncomputable def tCall (sp : Sp) (dvs : List V) (E : XK) (t : TA) : TE := fun σ H Q => t σ H fun vs H1 => sp (vs ++ dvs) H1 Q E
noncomputable def Binds (K : PySem.W.Frag) (fd : FuncData) (ps : List Str) (ds : List Value) : Prop :=
  ∀ (s : Shared) (us : List Value), K.In s.heap → (us ++ ds).length = ps.length → BindsTo s fd ⟨us, []⟩ (ps.zip (us ++ ds))
theorem Binds.all {K : PySem.W.Frag} {fd : FuncData} {ps : List Str} (h : ∀ us : List Value, us.length = ps.length → bindArgs fd ⟨us, []⟩ = pure (ps.zip us)) : Binds K fd ps [] := fun s us _ hl => by
  rw [List.append_nil] at hl ⊢
  exact .of_eq (h us hl)

noncomputable def Passes (CX : CXT) (X : Cx) (E : XK) : Prop := ∀ (pins : List (Addr × Obj)) (σ : St) (H : Hp) (s : Shared) (e : Value) (s' : Shared), Inv X pins σ H s → CX X.stack H s E e s' → X.xe e s'

section
variable {X : Cx} {CX : CXT} {k : Nat} {f C : Addr} {fd : FuncData} {ps : List Str} {sp : Sp} {dvs : List V} {ds : List Value} {E : XK} {x m : Str} {p pos apos : Pos} {e o : Expr} {es : List Expr} {ta : TE} {t : TA}

theorem run_fn {pins : List (Addr × Obj)} {σ : St} {H : Hp} {s : Shared} {Q : VK} {us : List Value} {vs : List V} (F : FnOk X.prog X.w X.K X.mg X.base CX k f fd ps sp) (hr : Room k X.A) (hb : Binds X.K fd ps ds) (hd : Vals dvs ds) (hx : Passes CX X E)
    (I : Inv X pins σ H s) (r : Vals vs us) (h : sp (vs ++ dvs) H Q E) : wpAny (model X.prog X.w) X.A (call (.ref f) us) (EP X pins σ Q) X.xe s := by
  have r2 : Vals (vs ++ dvs) (us ++ ds) := r.append hd
  have hl : (us ++ ds).length = ps.length := by rw [← r2.length]; exact F.len _ _ _ _ h
  refine wpAny_call (codeAny_mono (F.run X.A X.stack s H ⟨us, []⟩ (us ++ ds) (vs ++ dvs) Q E hr I.env0 (hb s us I.kIn hl) r2 h) fun r s' hq => ?_)
  cases r with
  | error e => exact hx pins σ H s e s' I hq
  | ok fl =>
    cases fl with
    | ret u => exact I.after hq
    | next => exact False.elim hq
    | brk => exact False.elim hq
    | cont => exact False.elim hq

theorem pe_call (F : FnOk X.prog X.w X.K X.mg X.base CX k f fd ps sp) (hr : Room k X.A) (hg : Gl X x) (hm : X.mg x = some (.ref f)) (hk : PySem.W.keepIn X.K (.ref f) = true) (hb : Binds X.K fd ps ds) (hd : Vals dvs ds) (hx : Passes CX X E)
    (ha : PA X (e :: es) t) (hdb : autoParam ((x == ("__debug__" : Str)) = false) L2.auto2._auto_1) (he : autoParam (starEach (e :: es) X.env = (false, eval e X.env) :: starEach es X.env) L2.auto4._auto_1) (hpl : autoParam ((backTo pos (starEach es X.env)).any (·.1) = false) L2.auto4._auto_1) :
    PE X (.Call (.Name x p) (e :: es) [] pos) (tCall sp dvs E t) := by
  intro pins s σ H Q I h
  refine wpAny_Call_Name_kw (ld_glob I hg hm ?_ hdb)
  refine PySem.W.callWith_K (h₀ := X.base) I.ok.mod.kin hk (thn (ha pos pins s σ H _ I h) fun us s1 ⟨vs, H1, I1, r, q⟩ => ⟨I1.kIn, ?_⟩) he hpl
  exact run_fn F hr hb hd hx I1 r q
structure Mk (K : PySem.W.Frag) (C f : Addr) : Prop where
  makes : PySem.W.makesIn K C = true
  init : PySem.W.findIn K (.ref C) "__init__" = some (some (.ref f))
  fn : PySem.W.isFn K (.ref f) = true
  kp : PySem.W.keepIn K (.ref C) = true

end

section
variable {X : Cx} {CX : CXT} {k : Nat} {f C : Addr} {fd : FuncData} {ps ks : List Str} {sp : Sp} {E : XK} {x m : Str} {p pos apos kpos : Pos} {e o : Expr} {es : List Expr} {kws : List Keyword} {te ta : TE} {t tk : TA} {nm : Option Str}
structure KBinds (K : PySem.W.Frag) (fd : FuncData) (ps ks : List Str) (g : List Value → List Value → List Value) (gV : List V → List V → List V) : Prop where
  to : ∀ (s : Shared) (us ws : List Value), K.In s.heap → (g us ws).length = ps.length → BindsTo s fd ⟨us, ks.zip ws⟩ (ps.zip (g us ws))
  rel : ∀ {vs : List V} {us : List Value} {zs : List V} {ws : List Value}, Vals vs us → Vals zs ws → Vals (gV vs zs) (g us ws)
variable {g : List Value → List Value → List Value} {gV : List V → List V → List V}
end

structure FnScope (N P : List Str) (sc : Scope) : Prop where
  kind : sc.kind = .function
  co : sc.isCoroutine = false
  gen : sc.isGenerator = false
  nd : N.Nodup
  pre : N.take P.length = P
  par : ∀ x ∈ P, sc.names.lookup x = some .local ∨ sc.names.lookup x = some .cell
  nofree : ∀ y ∈ sc.names, y.2 ≠ .free

theorem bindL_out {kindOf : Str → Option NameKind} {x : Str} : ∀ {binds : List (Str × Value)} {m : Str → Option Value}, (∀ v, (x, v) ∉ binds) → bindL kindOf binds m x = m x
  | [], _, _ => rfl
  | (n, v) :: r, m, h => by
    unfold bindL
    rw [bindL_out fun w hw => h w (List.mem_cons_of_mem _ hw)]
    split
    · have : x ≠ n := by rintro rfl; exact h v List.mem_cons_self
      simp [this]
    · rfl
theorem bindC_out {kindOf : Str → Option NameKind} {x : Str} : ∀ {binds : List (Str × Value)} {m : Str → Option Value}, (∀ v, (x, v) ∉ binds) → bindC kindOf binds m x = m x
  | [], _, _ => rfl
  | (n, v) :: r, m, h => by
    unfold bindC
    rw [bindC_out fun w hw => h w (List.mem_cons_of_mem _ hw)]
    split
    · rfl
    · have : x ≠ n := by rintro rfl; exact h v List.mem_cons_self
      simp [this]
theorem bindL_get {kindOf : Str → Option NameKind} {x : Str} {v : Value} : ∀ {P : List Str} {vs : List Value} {i : Nat} {m : Str → Option Value}, P.Nodup → P[i]? = some x → vs[i]? = some v → kindOf x = some .local →
    bindL kindOf (P.zip vs) m x = some v
  | [], _, _, _, _, h, _, _ => by simp at h
  | _ :: _, [], _, _, _, _, h, _ => by simp at h
  | p :: P, w :: vs, 0, m, nd, h1, h2, hk => by
    simp at h1 h2; subst h1; subst h2
    show bindL kindOf ((p, w) :: P.zip vs) m p = _
    unfold bindL
    rw [bindL_out fun v hv => (List.nodup_cons.mp nd).1 (List.of_mem_zip hv).1, if_pos hk]
    simp
  | p :: P, w :: vs, i + 1, m, nd, h1, h2, hk => by
    show bindL kindOf ((p, w) :: P.zip vs) m x = _
    unfold bindL
    exact bindL_get (i := i) (List.nodup_cons.mp nd).2 (by simpa using h1) (by simpa using h2) hk
theorem bindC_get {kindOf : Str → Option NameKind} {x : Str} {v : Value} : ∀ {P : List Str} {vs : List Value} {i : Nat} {m : Str → Option Value}, P.Nodup → P[i]? = some x → vs[i]? = some v → kindOf x ≠ some .local →
    bindC kindOf (P.zip vs) m x = some v
  | [], _, _, _, _, h, _, _ => by simp at h
  | _ :: _, [], _, _, _, _, h, _ => by simp at h
  | p :: P, w :: vs, 0, m, nd, h1, h2, hk => by
    simp at h1 h2; subst h1; subst h2
    show bindC kindOf ((p, w) :: P.zip vs) m p = _
    unfold bindC
    rw [bindC_out fun v hv => (List.nodup_cons.mp nd).1 (List.of_mem_zip hv).1, if_neg hk]
    simp
  | p :: P, w :: vs, i + 1, m, nd, h1, h2, hk => by
    show bindC kindOf ((p, w) :: P.zip vs) m x = _
    unfold bindC
    exact bindC_get (i := i) (List.nodup_cons.mp nd).2 (by simpa using h1) (by simpa using h2) hk

noncomputable def start (N : List Str) (vs : List V) : St := vs.map some ++ List.replicate (N.length - vs.length) none

noncomputable def cxOf (CX : CXT) (P : Program) (w : World) (K : PySem.W.Frag) (mg : Str → Option Value) (base : Heap) (N : List Str) (qual : Str) (scope : Scope) (f : Addr) (cd : Value) (A : Around) (outer : List Env) (s : Shared) (H : Hp) (E : XK) : Cx where
  prog := P
  w := w
  K := K
  mg := mg
  base := base
  A := A.deeper (envOfC qual scope s.heap.objs.size f cd)
  N := N
  s₀ := s
  H₀ := H
  env := envOfC qual scope s.heap.objs.size f cd
  outer := outer
  stack := envOfC qual scope s.heap.objs.size f cd :: outer
  ex := []
  calm := true
  fn := fun _ => true
  pn := []
  xe := fun e s' => wpAny (model P w) (A.deeper (envOfC qual scope s.heap.objs.size f cd)) (leaving (envOfC qual scope s.heap.objs.size f cd) e) (fun _ s'' => CX outer H s E e s'') (fun e' s'' => CX outer H s E e' s'') s'

theorem cell_has {sc : Scope} {n : Nat} {x : Str} (h : sc.names.lookup x = some .cell) : ∃ c, (cellsFrom n sc.names []).lookup x = some c := by
  have q := PySem.W.cellsFrom_some sc.names n [] (.inl h)
  exact Option.isSome_iff_exists.mp q

theorem inv_start {CX : CXT} {P : Program} {w : World} {K : PySem.W.Frag} {mg : Str → Option Value} {base : Heap} {N ps : List Str} {qual : Str} {scope : Scope} {f : Addr} {cd : Value} {A : Around} {outer : List Env} {s s1 : Shared} {H : Hp} {E : XK} {us : List Value} {vs : List V}
    (S : FnScope N ps scope) (hd : A.handled = none) (e0 : Env0 P w K mg base A outer s H) (hl : vs.length = ps.length) (r : Vals vs us)
    (x : InCallC s s.heap.objs.size (bindL (envOfC qual scope s.heap.objs.size f cd).kindOf (ps.zip us) fun _ => none) (cellsFrom (s.heap.objs.size + 1) scope.names []) (bindC (envOfC qual scope s.heap.objs.size f cd).kindOf (ps.zip us) fun _ => none) s1) :
    Inv (cxOf CX P w K mg base N qual scope f cd A outer s H E) [] (start N vs) H s1 := by
  have hpl : ps.length ≤ N.length := by have := congrArg List.length S.pre; rw [List.length_take] at this; omega
  obtain ⟨h1, tk, rfl, hk⟩ := x.done
  have noA : ∀ b : Addr, b ∉ (cxOf CX P w K mg base N qual scope f cd A outer s H E).ex := fun b z => absurd (show b ∈ ([] : List Addr) from z) (by simp)
  refine ⟨⟨e0.mod, S.kind, rfl, rfl, Nat.le_refl _, fun y z c h1 h2 => ?_, fun y hy => ?_, fun y c _ h => ?_, fun _ => hd, Around.frames_deeper e0.frames, .inr ⟨rfl, rfl⟩, fun b z => absurd z (noA b), e0.bs, e0.bsz, fun b _ _ => noA b, fun b z => absurd z (noA b), e0.funs, e0.frf⟩,
    rfl, e0.bare, Un.kept hk, ⟨_, x.toInCall.ns, fun i y v h1 h2 h3 => ?_⟩, fun y c h => ⟨_, x.cell y c h⟩, e0.hok.fresh (Nat.le_refl _), fun y c h => ?_, fun p hp => absurd (show p ∈ ([] : List (Addr × Obj)) from hp) (by simp), e0.hok.kept hk, ?_⟩
  · exact name_of_addr x.apart (PySem.mem_of_lookup h1) (PySem.mem_of_lookup h2)
  · have hy : scope.names.lookup y = some .cell ∨ scope.names.lookup y = some .free := hy
    rcases hy with hy | hy
    · exact cell_has hy
    · exact absurd rfl (S.nofree _ (PySem.mem_of_lookup hy))
  · exact Nat.le_of_lt (x.above y c (PySem.mem_of_lookup h))
  · have hi : i < vs.length := by
      unfold start at h2
      by_cases hi : i < vs.length
      · exact hi
      · rw [List.getElem?_append_right (by simpa using hi)] at h2
        rw [List.getElem?_replicate] at h2
        split at h2 <;> cases h2
    have ha : vs[i]? = some v := by
      unfold start at h2
      rw [List.getElem?_append_left (by simpa using hi), List.getElem?_map] at h2
      cases e : vs[i]? with
      | none => rw [e] at h2; cases h2
      | some a => rw [e] at h2; cases h2; rfl
    obtain ⟨u, hu, rv⟩ := r.get ha
    have hp : ps[i]? = some y := by
      rw [← S.pre, List.getElem?_take_of_lt (by omega)]; exact h1
    have ndP : ps.Nodup := by rw [← S.pre]; exact S.nd.sublist (List.take_sublist _ _)
    refine ⟨u, rv, ?_⟩
    rcases S.par y (List.mem_of_getElem? hp) with k | k
    · exact .inl ⟨k, bindL_get ndP hp hu k⟩
    · obtain ⟨c, e⟩ := cell_has (n := s.heap.objs.size + 1) k
      refine .inr ⟨.inl k, c, e, ?_⟩
      have q := x.cell y c e
      rw [bindC_get ndP hp hu (by show scope.names.lookup y ≠ _; rw [k]; decide)] at q
      exact q
  · exact e0.hok.fresh (Nat.le_of_lt (x.above y c (PySem.mem_of_lookup h)))
  · unfold start
    show _ = N.length
    rw [List.length_append, List.length_map, List.length_replicate]
    omega

theorem fn_of {CX : CXT} {P : Program} {w : World} {K : PySem.W.Frag} {mg : Str → Option Value} {base : Heap} {k : Nat} {f : Addr} {name qual : Str} {params : Arguments} {body : List Stmt} {scope : Scope} {dV kV doc pm cdv ct oc : Value} {an od : Option Addr}
    {osl : Array (Option Value)} {N ps : List Str} {sp : Sp} (lk : K.lookup f = some ⟨oc, od, .func (PySem.W.fnOf name qual params body scope dV kV doc pm an cdv ct), osl⟩) (hcd : PySem.W.codeIn K cdv qual = true) (S : FnScope N ps scope)
    (len : ∀ vs H Q E, sp vs H Q E → vs.length = ps.length)
    (hbody : ∀ (A : Around) (outer : List Env) (s : Shared) (H : Hp) (vs : List V) (Q : VK) (E : XK), Room k (A.deeper (envOfC qual scope s.heap.objs.size f cdv)) → sp vs H Q E →
      ∃ t, PSs (cxOf CX P w K mg base N qual scope f cdv A outer s H E) body t ∧ t { nx := fun _ H' => Q .non H', rt := Q } (start N vs) H) :
    FnOk P w K mg base CX (k + 1) f (PySem.W.fnOf name qual params body scope dV kV doc pm an cdv ct) ps sp := by
  refine ⟨len, fun A outer s H args us vs Q E hr e0 hb r hsp => ?_⟩
  have hl := len _ _ _ _ hsp
  have KX : K.In s.heap := e0.mod.kin.keeps fun b o e => (e0.bs b o e).1
  have lim : s.heap.NoLimit := e0.mod.nolimit.keeps fun b o e => (e0.bs b o e).1
  have hkind : ∀ y ∈ ps.zip us, scope.names.lookup y.1 = some .local ∨ (scope.names.lookup y.1 = some .cell ∧ ((cellsFrom (s.heap.objs.size + 1) scope.names []).lookup y.1).isSome = true) := fun ⟨n, v⟩ hy => by
    rcases S.par n (List.of_mem_zip hy).1 with q | q
    · exact .inl q
    · exact .inr ⟨q, PySem.W.cellsFrom_some _ _ _ (.inl q)⟩
  refine codeAny_call_function hr.depth (KX _ _ lk) rfl S.co S.gen rfl (PySem.W.codeRec_of KX hcd) (hb _ _ _ _ ?_)
  refine wpAny_newFunctionEnv_cells S.kind hkind fun env he s1 x => ?_
  subst he
  refine ⟨lim.keeps x.toInCall.keep, codeAny_func ?_⟩
  obtain ⟨t, ht, hq⟩ := hbody A outer s H vs Q E (hr.deeper _) hsp
  have I : Inv (cxOf CX P w K mg base N qual scope f cdv A outer s H E) [] (start N vs) H s1 := inv_start S hr.hd e0 hl r x
  refine wpAny_mono (ht [] s1 (start N vs) H _ I hq) (fun fl s' hs => ?_) fun e s' hs => hs
  have fin : ∀ {σ' : St} {H' : Hp} {v : V} {u : Value}, Inv (cxOf CX P w K mg base N qual scope f cdv A outer s H E) [] σ' H' s' → RelV v u → Q v H' → CE outer P w H s Q u s' :=
    fun {σ' H' v u} J rv q => ⟨v, H', J.os, J.bare, J.base, J.hok, rv, q⟩
  cases fl with
  | ret u =>
    obtain ⟨v, σ', H', J, rv, q⟩ := hs
    exact fin J rv q
  | next =>
    obtain ⟨σ', H', J, q⟩ := hs
    exact fin (v := V.non) (u := Value.none) J rfl q
  | brk =>
    obtain ⟨_, _, _, q⟩ := hs
    exact False.elim q
  | cont =>
    obtain ⟨_, _, _, q⟩ := hs
    exact False.elim q
end L2

namespace L2
open PySem PySem.Spec PyProof.Rows
section
variable {X : Cx} {x : Str} {p pos : Pos} {e : Expr} {es : List Expr} {t : TA} {id T : String} {r : List V → Hp → VK → Prop}

noncomputable def tCB (r : List V → Hp → VK → Prop) (t : TA) : TE := fun σ H Q => t σ H fun vs H1 => r vs H1 Q
theorem pe_callB (hc : CallR X (.builtin id) r) (hg : Gl X x) (hm : X.mg x = none) (hv : bootBuiltins x = some (.builtin id)) (ha : PA X (e :: es) t) (hn : autoParam (x ≠ "__name__") L2.auto2._auto_1) (hdb : autoParam ((x == ("__debug__" : Str)) = false) L2.auto2._auto_1)
    (he : autoParam (starEach (e :: es) X.env = (false, eval e X.env) :: starEach es X.env) L2.auto4._auto_1) (hpl : autoParam ((backTo pos (starEach es X.env)).any (·.1) = false) L2.auto4._auto_1) : PE X (.Call (.Name x p) (e :: es) [] pos) (tCB r t) := by
  intro pins s σ H Q I h
  refine wpAny_Call_Name_kw (ld_blt I hg hm hv ?_ hn hdb)
  exact PyProof.Rows.callWith_builtin1 (thn (ha pos pins s σ H _ I h) fun us s1 ⟨vs, H1, I1, r1, q1⟩ => hc pins s1 σ H1 vs us Q I1 r1 q1) he hpl
theorem pe_callTy (hc : CallR X (.type T) r) (hg : Gl X x) (hm : X.mg x = none) (hv : bootBuiltins x = some (.type T)) (ha : PA X (e :: es) t) (hn : autoParam (x ≠ "__name__") L2.auto2._auto_1) (hdb : autoParam ((x == ("__debug__" : Str)) = false) L2.auto2._auto_1)
    (he : autoParam (starEach (e :: es) X.env = (false, eval e X.env) :: starEach es X.env) L2.auto4._auto_1) (hpl : autoParam ((backTo pos (starEach es X.env)).any (·.1) = false) L2.auto4._auto_1) : PE X (.Call (.Name x p) (e :: es) [] pos) (tCB r t) := by
  intro pins s σ H Q I h
  refine wpAny_Call_Name_kw (ld_blt I hg hm hv ?_ hn hdb)
  exact PyProof.Rows.callWith_type1 (thn (ha pos pins s σ H _ I h) fun us s1 ⟨vs, H1, I1, r1, q1⟩ => hc pins s1 σ H1 vs us Q I1 r1 q1) he hpl
end
end L2

namespace HT
open PySem PyProof.Rows

noncomputable def lexLt : List Int → List Int → Bool
  | [], [] => false
  | [], _ :: _ => true
  | _ :: _, [] => false
  | x :: xs, y :: ys => if x = y then lexLt xs ys else decide (x < y)
theorem lexLt_cons (x y : Int) (xs ys : List Int) : lexLt (x :: xs) (y :: ys) = if x = y then lexLt xs ys else decide (x < y) := rfl
theorem lexLt_nil_nil : lexLt [] [] = false := rfl
theorem lexLt_nil_cons (y : Int) (ys : List Int) : lexLt [] (y :: ys) = true := rfl
theorem lexLt_cons_nil (x : Int) (xs : List Int) : lexLt (x :: xs) [] = false := rfl

theorem eqAt_int (A : Around) (s : Shared) (a : Int) (t : Tok) (c : Int) (u : Tok) : ∃ e, SeqAt.EqAt A s (.int a t) (.int c u) e ∧ (e = true ↔ a = c) :=
  ⟨(a == c), SeqAt.EqAt.int_int a t c u, by simp⟩
theorem rcLt_int (A : Around) (s : Shared) (a : Int) (t : Tok) (c : Int) (u : Tok) (prog : Program) (w : World) (E : Value → Shared → Prop) (Q : Value → Shared → Prop) (h : Q (.bool (decide (a < c))) s) :
    wpAny (model prog w) A (richCompare .Lt (.int a t) (.int c u)) Q E s :=
  (PyProof.Rows.lt_int h : wpAny (model prog w) A (compareOp .Lt (.int a t) (.int c u)) Q E s)

section
open PySem.SeqAt
open PySem.AutoSeq1 (wpAny_loadPart')
open PySem.MeetsSeq PySem.MeetsSeq2 PySem.MeetsSeq3

theorem tuple_lt_ints (l b : Addr) (items items2 : Array Value) (n n2 : Nat) (dd dd2 : Option Addr) (sl sl2 : Array (Option Value)) (ns ms : List Int) (hi : IntsAre items.toList ns) (hj : IntsAre items2.toList ms) :
    Meets (Builtin.«tuple.__lt__» ⟨[.ref l, .ref b], []⟩)
      (fun _ R s => s.heap.get? l = some { cls := .type "tuple", dict := dd, data := .seq items n, slots := sl } ∧ s.heap.get? b = some { cls := .type "tuple", dict := dd2, data := .seq items2 n2, slots := sl2 } ∧
        R (.ok (.ret (.bool (lexLt ns ms)))) s) :=
  .of_wp fun prog w A R s h => by
    obtain ⟨hp, g, d, tk, os⟩ := s; obtain ⟨hl, hb, h⟩ := h
    have f2 := AutoSeq1.sub_tuple_tuple
    have z1 : items.size = ns.length := by rw [← hi.length]; simp
    have z2 : items2.size = ms.length := by rw [← hj.length]; simp
    wp_walk using wpAny_loadPart' hl, wpAny_loadPart' hb, wpAny_forIn_list _ (fun rest b s' => b.1 = none ∧ s' = ⟨hp, g, d, tk, os⟩ ∧ ∃ (vs ws : List Value) (ns' ms' : List Int), rest = vs.zip ws ∧
      IntsAre vs ns' ∧ IntsAre ws ms' ∧ ns'.length + items2.size = ms'.length + items.size ∧ R (.ok (.ret (.bool (lexLt ns' ms')))) ⟨hp, g, d, tk, os⟩) _
    case turn =>
      rintro ⟨y, x⟩ rest b s' ⟨hb', rfl, vs, ws, ns', ms', hz, hvi, hwi, hlen, hR⟩
      cases hvi with
      | nil => rw [List.zip_nil_left] at hz; cases hz
      | cons a t hvi' =>
        cases hwi with
        | nil => rw [List.zip_nil_right] at hz; cases hz
        | cons c u hwi' =>
          rw [List.zip_cons_cons] at hz
          injection hz with hyx hrest
          injection hyx with hy hx
          subst hy hx
          rw [lexLt_cons] at hR
          simp only [List.length_cons] at hlen
          obtain ⟨e, he, hiff⟩ := eqAt_int A.in1 ⟨hp, g, d, tk, os⟩ a t c u
          refine wpAny_bind (he prog w _ _ ?_)
          cases e with
          | true =>
            rw [if_pos (hiff.mp rfl)] at hR
            wp_walk
            exact ⟨rfl, rfl, _, _, _, _, hrest, hvi', hwi', by omega, hR⟩
          | false =>
            rw [if_neg (fun q => absurd (hiff.mpr q) Bool.false_ne_true)] at hR
            have hri := rcLt_int A.in1 ⟨hp, g, d, tk, os⟩ a t c u prog w
            wp_walk using hri
            exact ⟨_, rfl, by simpa using hR⟩
    case fin =>
      rintro ⟨b1, b2⟩ s' ⟨hb', rfl, vs, ws, ns', ms', hz, hvi, hwi, hlen, hR⟩
      simp only at hb'
      subst hb'
      have hv : lexLt ns' ms' = decide (items.size < items2.size) := by
        cases hvi with
        | nil =>
          cases hwi with
          | nil =>
            simp only [List.length_nil] at hlen
            rw [lexLt_nil_nil]
            exact (decide_eq_false (by omega)).symm
          | cons c u hw =>
            simp only [List.length_nil, List.length_cons] at hlen
            rw [lexLt_nil_cons]
            exact (decide_eq_true (by omega)).symm
        | cons a t hv =>
          cases hwi with
          | nil =>
            simp only [List.length_nil, List.length_cons] at hlen
            rw [lexLt_cons_nil]
            exact (decide_eq_false (by omega)).symm
          | cons c u hw =>
            rw [List.zip_cons_cons] at hz
            cases hz
      rw [hv] at hR
      wp_walk
      exact ⟨_, rfl, by simpa [Builtin.Tuple.tupleCompareSizes] using hR⟩
    case h =>
      exact ⟨rfl, rfl, items.toList, items2.toList, ns, ms, rfl, hi, hj, by omega, h⟩
end

section
variable {prog : Program} {w : World} {A : Around} {E : Value → Shared → Prop} {s : Shared}

theorem lt_tupInts {l b : Addr} {items items2 : Array Value} {ns ms : List Int} {Q : Value → Shared → Prop} (hl : IsTup s.heap l items) (hb : IsTup s.heap b items2) (hi : IntsAre items.toList ns) (hj : IntsAre items2.toList ms)
    (hu : A.units < cLine) (h : Q (.bool (lexLt ns ms)) s) : wpAny (model prog w) A (compareOp .Lt (.ref l) (.ref b)) Q E s := by
  obtain ⟨⟨cls, dd, data, sl⟩, ho, hc, n, hd⟩ := id hl
  obtain ⟨⟨cls2, dd2, data2, sl2⟩, ho2, hc2, n2, hd2⟩ := id hb
  simp only at hc hd hc2 hd2
  subst hc hd hc2 hd2
  exact richCompare_meets_room (op := .Lt) ⟨_, ho, rfl⟩ ⟨_, ho2, rfl⟩ PySem.F.slot_tuple_lt PySem.F.entry_tuple_lt (PySem.F.args_tuple_lt_2 _ _) (tuple_lt_ints l b items items2 n n2 dd dd2 sl sl2 ns ms hi hj)
    ⟨ho, ho2, show Value.bool (lexLt ns ms) ≠ Value.notImplemented ∧ Q (.bool (lexLt ns ms)) s from ⟨(fun x => nomatch x), h⟩⟩ hu

noncomputable def sIx (n d : Nat) : Option Int → Nat
  | none => d
  | some v => if v < 0 then (v + (n : Int)).toNat else min v.toNat n
theorem sIx_nat (n d k : Nat) : sIx n d (some (k : Int)) = min k n := by
  show (if (k : Int) < 0 then ((k : Int) + (n : Int)).toNat else min (k : Int).toNat n) = min k n
  rw [if_neg (by omega), Int.toNat_natCast]
theorem sIx_le (n d : Nat) (hd : d ≤ n) (o : Option Int) : sIx n d o ≤ n := by
  cases o with
  | none => exact hd
  | some v =>
    show (if v < 0 then (v + (n : Int)).toNat else min v.toNat n) ≤ n
    by_cases hv : v < 0
    · rw [if_pos hv]; omega
    · rw [if_neg hv]; exact Nat.min_le_right _ _
theorem clip_eq (v : Int) (n d : Nat) : (if v < 0 then max (v + (n : Int)) 0 else min v (n : Int)) = ((sIx n d (some v) : Nat) : Int) := by
  show (if v < 0 then max (v + (n : Int)) 0 else min v (n : Int)) = (((if v < 0 then (v + (n : Int)).toNat else min v.toNat n) : Nat) : Int)
  by_cases hv : v < 0
  · simp only [if_pos hv]; omega
  · simp only [if_neg hv]; omega
theorem adjust_gen (lo hi : Option Int) (n : Nat) : Builtin.Slice.sliceAdjust lo hi 1 (n : Int) = (((sIx n 0 lo : Nat) : Int), ((sIx n n hi : Nat) : Int)) := by
  have h1 : ¬ ((1 : Int) < 0) := by omega
  unfold Builtin.Slice.sliceAdjust
  simp only [h1, if_false]
  refine Prod.ext ?_ ?_
  · cases lo with
    | none => rfl
    | some v => exact clip_eq v n 0
  · cases hi with
    | none => rfl
    | some v => exact clip_eq v n n
theorem places_gen (i j : Nat) : Builtin.Slice.slicePlaces (i : Int) (j : Int) 1 = j - i := by
  unfold Builtin.Slice.slicePlaces
  have h1 : (1 : Int) > 0 := by omega
  simp only [h1, if_true, Int.ediv_one]
  split <;> omega
theorem slicePart_ {v : Value} {o : Option Int} {Q : Option Int → Shared → Prop} (p : IsPart v o) (h : Q o s) : wpAny (model prog w) A (Builtin.Slice.slicePartIndex v) Q E s := by
  cases p with
  | none => exact slicePart_none h
  | int i t => exact slicePart_int h
theorem sliceApplied_gen {sl : Addr} {vl vu : Value} {lo hi : Option Int} {n : Nat} {Q : Int × Int × Nat → Shared → Prop} (hs : s.heap.IsSliceOf sl vl vu .none) (pl : IsPart vl lo) (pu : IsPart vu hi)
    (h : Q (((sIx n 0 lo : Nat) : Int), 1, sIx n n hi - sIx n 0 lo) s) : wpAny (model prog w) A (Builtin.Slice.sliceApplied (.ref sl) (pure (n : Int))) Q E s := by
  obtain ⟨os, hos, hcs, hds⟩ := id hs
  unfold Builtin.Slice.sliceApplied Builtin.Slice.sliceFields
  refine wpAny_bind (wpAny_bind (wpAny_field hos hds (x := vl) rfl (wpAny_bind (wpAny_field hos hds (x := vu) rfl (wpAny_bind (wpAny_field hos hds (x := .none) rfl (wpAny_pure ?_)))))))
  refine wpAny_bind (slicePart_none ?_)
  show wpAny _ _ (if ((1 : Int) == 0) = true then _ else _) _ _ s
  rw [if_neg (by decide)]
  refine wpAny_bind (slicePart_ pl (wpAny_bind (slicePart_ pu (wpAny_bind (wpAny_pure ?_)))))
  show wpAny _ _ (match Builtin.Slice.sliceAdjust lo hi 1 (n : Int) with | (lo, hi) => pure (lo, (1 : Int), Builtin.Slice.slicePlaces lo hi 1)) _ _ s
  rw [adjust_gen lo hi n]
  show wpAny _ _ (pure (((sIx n 0 lo : Nat) : Int), (1 : Int), Builtin.Slice.slicePlaces ((sIx n 0 lo : Nat) : Int) ((sIx n n hi : Nat) : Int) 1)) _ _ s
  rw [places_gen]
  exact wpAny_pure h
theorem pick_gen (xs : Array Value) (i k : Nat) : ((List.range k).filterMap fun (m : Nat) => xs[((i : Int) + (m : Int) * 1).toNat]?).toArray = ((xs.toList.drop i).take k).toArray := by
  have e : (fun (m : Nat) => xs[((i : Int) + (m : Int) * 1).toNat]?) = fun m => xs[i + m]? := by
    funext m
    have : ((i : Int) + (m : Int) * 1).toNat = i + m := by omega
    rw [this]
  rw [e]
  have := pick_run xs i k
  rw [List.filterMap_map] at this
  have e2 : ((fun x => xs[x]?) ∘ fun x => i + x) = fun m => xs[i + m]? := rfl
  rw [e2] at this
  rw [this]

theorem getItem_tuple_cut {t sl : Addr} {items : Array Value} {vl vu : Value} {lo hi : Option Int} {Q : Value → Shared → Prop} (ht : IsTup s.heap t items) (hs : s.heap.IsSliceOf sl vl vu .none) (pl : IsPart vl lo) (pu : IsPart vu hi)
    (hw : ¬ (sIx items.size 0 lo = 0 ∧ sIx items.size items.size hi = items.size))
    (h : Q (.ref s.heap.objs.size) { s with heap := s.heap.push { cls := .type "tuple", data := .seq ((items.toList.drop (sIx items.size 0 lo)).take (sIx items.size items.size hi - sIx items.size 0 lo)).toArray } })
    (hsz : items.size ≤ sizeLine) : wpAny (model prog w) A (getItem (.ref t) (.ref sl)) Q E s := by
  have htake : sizeOk (.seq ((items.toList.drop (sIx items.size 0 lo)).take (sIx items.size items.size hi - sIx items.size 0 lo)).toArray) := by
    show ((items.toList.drop (sIx items.size 0 lo)).take (sIx items.size items.size hi - sIx items.size 0 lo)).toArray.size ≤ sizeLine
    rw [List.size_toArray, List.length_take, List.length_drop, Array.length_toList]
    omega
  have hj : sIx items.size items.size hi ≤ items.size := sIx_le _ _ (Nat.le_refl _) hi
  obtain ⟨os, hos, hcs, hds⟩ := id hs
  have hTs : s.TypeIs (.ref sl) "slice" := ⟨os, hos, hcs⟩
  unfold getItem
  try with_reducible refine wpAny_holding ?_
  first | refine wpAny_bind (wpAny_pure ?_) | skip
  refine wpAny_bind (wpAny_sequenceKey ht.typeIs (by decide) ?_)
  refine wpAny_bind (wpAny_callSpecial?_slot (name := Str.ofString "__getitem__") ht.typeIs PyProof.Rows.slot_tuple_getitem
    (wpAny_call_entry PyProof.Rows.slot_tuple_getitem ht.typeIs entry_tuple_getitem ?_ (args_tuple_getitem _ _)))
  show wpAny _ _ (Builtin.Tuple.tupleItemsOf (.ref t) >>= _) _ _ s
  refine wpAny_bind (tupleItemsOf_ ht ?_)
  refine wpAny_bind (wpAny_typeOf hTs ?_)
  rw [if_pos (by decide)]
  refine wpAny_bind (sliceApplied_gen hs pl pu ?_)
  have hno : ¬ ((((sIx items.size 0 lo : Nat) : Int) == 0 && (1 : Int) == 1 && (sIx items.size items.size hi - sIx items.size 0 lo) == items.size) = true) := by
    intro q
    rw [Bool.and_eq_true, Bool.and_eq_true] at q
    have q1 : ((sIx items.size 0 lo : Nat) : Int) = 0 := eq_of_beq q.1.1
    have q2 : sIx items.size items.size hi - sIx items.size 0 lo = items.size := eq_of_beq q.2
    exact hw ⟨by omega, by omega⟩
  show wpAny _ _ (if (((sIx items.size 0 lo : Nat) : Int) == 0 && (1 : Int) == 1 && (sIx items.size items.size hi - sIx items.size 0 lo) == items.size) = true then _ else _) _ _ s
  rw [if_neg hno, pick_gen]
  first
    | exact wpAny_bind (m := Builtin.Tuple.tupleExact _) (wpAny_newObj_type (wpAny_pure ⟨_, rfl, wpAny_pure h⟩) htake)
    | exact wpAny_bind (m := Builtin.Tuple.tupleExact _) (wpAny_newObj_type (wpAny_bind (wpAny_pure (wpAny_pure ⟨_, rfl, wpAny_pure h⟩))) htake)
    | exact wpAny_bind (wpAny_bind (m := Builtin.Tuple.tupleExact _) (wpAny_newObj_type (wpAny_pure (wpAny_pure ⟨_, rfl, wpAny_pure h⟩)) htake))
    | exact wpAny_bind (wpAny_bind (m := Builtin.Tuple.tupleExact _) (wpAny_newObj_type (wpAny_pure ⟨_, rfl, wpAny_pure h⟩) htake))
end
end HT

namespace L2
open PySem PySem.Spec PyProof.Rows

noncomputable abbrev TO := St → Hp → (Option Int → Hp → Prop) → Prop
noncomputable def PO (X : Cx) (e : Option Expr) (t : TO) : Prop :=
  ∀ (pins : List (Addr × Obj)) (s : Shared) (σ : St) (H : Hp) (Q : Option Int → Hp → Prop), Inv X pins σ H s → t σ H Q →
    wpAny (model X.prog X.w) X.A (evalPart e X.env) (fun u s' => ∃ o H', Inv X pins σ H' s' ∧ IsPart u o ∧ Q o H') X.xe s
noncomputable def tNoPart : TO := fun _ H Q => Q none H
noncomputable def tPart (t : TE) : TO := fun σ H Q => t σ H fun x H1 => ∃ i, x = .int i ∧ Q (some i) H1

theorem intsAre_of {ns : List Int} : ∀ {us : List Value}, Vals (ns.map V.int) us → IntsAre us ns := by
  induction ns with
  | nil => intro us r; rw [List.map_nil] at r; cases r; exact .nil
  | cons n ns ih =>
    intro us r
    rw [List.map_cons] at r
    cases r with
    | cons r1 r2 =>
      obtain ⟨t, e⟩ := r1
      subst e
      exact .cons n t (ih r2)

section
variable {X : Cx} {e : Expr} {te : TE} {lo hi : Option Expr} {tl th : TO} {pos p2 : Pos}

theorem po_none : PO X none tNoPart := by
  intro pins s σ H Q I h
  rw [evalPart_none]
  exact wpAny_pure ⟨none, H, I, .none, h⟩
theorem po_some (h : PE X e te) : PO X (some e) (tPart te) := by
  intro pins s σ H Q I hw
  rw [evalPart_some]
  refine thn (h pins s σ H _ I hw) fun u s1 qq0 => ?_
  obtain ⟨x, H1, I1, r1, q1⟩ := qq0
  obtain ⟨i, rfl, q⟩ := q1
  obtain ⟨t, rfl⟩ := r1
  exact ⟨some i, H1, I1, .int i t, q⟩

noncomputable def SlR (X : Cx) (r : V → Option Int → Option Int → Hp → VK → Prop) : Prop :=
  ∀ (pins : List (Addr × Obj)) (s : Shared) (σ : St) (H : Hp) (x : V) (v vl vu : Value) (lo hi : Option Int) (sl : Addr) (Q : VK), Inv X pins σ H s → RelV x v → s.heap.IsSliceOf sl vl vu .none → IsPart vl lo → IsPart vu hi → r x lo hi H Q →
    ∃ T id, typeLookup (.type T) "__getitem__" = pure (some (.builtin id)) ∧ s.TypeIs v T ∧ wpAny (model X.prog X.w) X.A (getItem v (.ref sl)) (EP X pins σ Q) X.xe s
theorem SlR.or {r r' : V → Option Int → Option Int → Hp → VK → Prop} (h : SlR X r) (h' : SlR X r') : SlR X (fun x lo hi H Q => r x lo hi H Q ∨ r' x lo hi H Q) := by
  intro pins s σ H x v vl vu lo hi sl Q I rx hs pl pu q
  rcases q with q | q
  · exact h pins s σ H x v vl vu lo hi sl Q I rx hs pl pu q
  · exact h' pins s σ H x v vl vu lo hi sl Q I rx hs pl pu q
noncomputable def tSl (r : V → Option Int → Option Int → Hp → VK → Prop) (te : TE) (tl th : TO) : TE := fun σ H Q => te σ H fun x H1 => tl σ H1 fun l H2 => th σ H2 fun u H3 => r x l u H3 Q
theorem pe_slice {r : V → Option Int → Option Int → Hp → VK → Prop} (hr : SlR X r) (he : PE X e te) (hl : PO X lo tl) (hu : PO X hi th) : PE X (.Subscript e (.Slice lo hi none p2) pos) (tSl r te tl th) := by
  intro pins s σ H Q I h
  refine Subscript_ (thn (he pins s σ H _ I h) fun v s1 qq0 => ?_)
  obtain ⟨x, H1, I1, r1, q1⟩ := qq0
  refine wpAny_Slice (thn (hl pins s1 σ H1 _ I1 q1) fun vl s2 ⟨l, H2, I2, pl, q2⟩ => thn (hu pins s2 σ H2 _ I2 q2) fun vu s3 qq0 => ?_)
  obtain ⟨u, H3, I3, pu, q3⟩ := qq0
  rw [evalPart_none]
  refine wpAny_pure ?_
  have I4 : Inv X pins σ H3 { s3 with heap := s3.heap.push { cls := .type "slice", data := .fields #[vl, vu, .none] } } := I3.kept (t' := s3.toks) fun b ob q => Heap.get?_push_of_some _ q
  obtain ⟨T, id, hT, ht, hg⟩ := hr pins { s3 with heap := s3.heap.push { cls := .type "slice", data := .fields #[vl, vu, .none] } } σ H3 x v vl vu l u s3.heap.objs.size Q I4 r1 (Heap.IsSliceOf.new ..) pl pu q3
  show wpAny (model X.prog X.w) X.A (subscriptTail e (.Slice lo hi none p2) v (.ref s3.heap.objs.size)) (EP X pins σ Q) X.xe { s3 with heap := s3.heap.push { cls := .type "slice", data := .fields #[vl, vu, .none] } }
  exact tail_any (ops := [.ref s3.heap.objs.size, v]) ht hT hg (by with_unfolding_all rfl)

noncomputable def cutV (xs : List V) (lo hi : Option Int) : List V := (xs.drop (HT.sIx xs.length 0 lo)).take (HT.sIx xs.length xs.length hi - HT.sIx xs.length 0 lo)
theorem cutV_length (xs : List V) (lo hi : Option Int) : (cutV xs lo hi).length ≤ xs.length := by
  unfold cutV
  rw [List.length_take, List.length_drop]
  omega
noncomputable def rSlT (K : PySem.W.Frag) : V → Option Int → Option Int → Hp → VK → Prop := fun x lo hi H Q => ∃ a xs, x = .ref a ∧ SqT K H a xs ∧
  ¬ (HT.sIx xs.length 0 lo = 0 ∧ HT.sIx xs.length xs.length hi = xs.length) ∧ ∀ p, H p = none → Q (.ref p) (upd H p (.tup (cutV xs lo hi)))
theorem sl_tup : SlR X (rSlT X.K) := by
  intro pins s σ H x v vl vu lo hi sl Q I rx hs pl pu h
  obtain ⟨a, xs, rfl, hx, hw, q⟩ := h
  cases rx
  obtain ⟨its, r, ht, hz⟩ := I.tuple hx
  have hlen : its.toArray.size = xs.length := by rw [List.size_toArray]; exact r.length.symm
  refine ⟨"tuple", _, PyProof.Rows.slot_tuple_getitem.lookup, ht.typeIs, ?_⟩
  refine HT.getItem_tuple_cut ht hs pl pu (by rw [hlen]; exact hw) ?_ (by rw [hlen]; exact hz)
  rw [hlen]
  refine ⟨.ref s.heap.objs.size, _, I.laid (t' := s.toks) (o := .tup (cutV xs lo hi)) (fun b ob q => Heap.get?_push_of_some _ q) (Nat.le_refl _) ?_, rfl, q _ (I.hok.fresh (Nat.le_refl _))⟩
  exact ⟨Nat.le_trans (cutV_length xs lo hi) hz, _, (r.drop (HT.sIx xs.length 0 lo)).take (HT.sIx xs.length xs.length hi - HT.sIx xs.length 0 lo), IsTup.new _ _⟩

noncomputable def rLtT (K : PySem.W.Frag) : R2 := fun x y H Q => ∃ a b ns ms, x = .ref a ∧ y = .ref b ∧ SqT K H a (ns.map V.int) ∧ SqT K H b (ms.map V.int) ∧ Q (.bl (HT.lexLt ns ms)) H
theorem op_ltT (hu : X.A.units < cLine) : OpR X (compareOp .Lt) (rLtT X.K) := by
  intro pins s σ H x y v u Q I rx ry h
  obtain ⟨a, b, ns, ms, rfl, rfl, ha, hb, q⟩ := h
  cases rx
  cases ry
  obtain ⟨its, r1, p1, _⟩ := I.tuple ha
  obtain ⟨its2, r2, p2, _⟩ := I.tuple hb
  have i1 : IntsAre its.toArray.toList ns := intsAre_of r1
  have i2 : IntsAre its2.toArray.toList ms := intsAre_of r2
  exact HT.lt_tupInts p1 p2 i1 i2 hu ⟨.bl (HT.lexLt ns ms), H, I, rfl, q⟩
end
end L2

namespace L2
open PySem PySem.Spec PyProof.Rows

noncomputable def ixN (n : Nat) (i : Int) : Option Nat := if 0 ≤ i then (if i < n then some i.toNat else none) else if -(n : Int) ≤ i then some (i + n).toNat else none
noncomputable def atI {α : Type} (xs : List α) (i : Int) : Option α := (ixN xs.length i).bind fun j => xs[j]?
theorem ixN_seq {n : Nat} {i : Int} {j : Nat} (h : ixN n i = some j) : seqIndex? i n = some j ∧ j < n ∧ -(n : Int) ≤ i ∧ i < n := by
  unfold ixN at h
  by_cases h0 : 0 ≤ i
  · rw [if_pos h0] at h
    by_cases h1 : i < n
    · rw [if_pos h1] at h
      have e : i.toNat = j := Option.some.inj h
      exact ⟨by rw [seqIndex_of h0 h1, e], by omega, by omega, h1⟩
    · rw [if_neg h1] at h; cases h
  · rw [if_neg h0] at h
    by_cases h1 : -(n : Int) ≤ i
    · rw [if_pos h1] at h
      have e : (i + n).toNat = j := Option.some.inj h
      exact ⟨by rw [seqIndex_neg (by omega) h1, e], by omega, h1, by omega⟩
    · rw [if_neg h1] at h; cases h
theorem atI_get {α : Type} {xs : List α} {i : Int} {v : α} (h : atI xs i = some v) : ∃ j, seqIndex? i xs.length = some j ∧ xs[j]? = some v ∧ j < xs.length ∧ -(xs.length : Int) ≤ i ∧ i < xs.length := by
  unfold atI at h
  cases e : ixN xs.length i with
  | none => rw [e] at h; cases h
  | some j =>
    rw [e] at h
    obtain ⟨h1, h2, h3, h4⟩ := ixN_seq e
    exact ⟨j, h1, h, h2, h3, h4⟩
theorem atI_nat {α : Type} {xs : List α} {j : Nat} {v : α} (h : xs[j]? = some v) : atI xs (j : Int) = some v := by
  have hj : j < xs.length := (List.getElem?_eq_some_iff.mp h).1
  have e : ixN xs.length (j : Int) = some j := by
    unfold ixN
    rw [if_pos (by omega), if_pos (by omega)]; simp
  unfold atI; rw [e]; exact h
noncomputable def PlainIx (b : Expr) : Prop := ∀ o i, subscripted b false o i = operate [o, i] (getItem o i)
noncomputable def IxR (X : Cx) (r : R2) : Prop :=
  ∀ (value slice : Expr) (pins : List (Addr × Obj)) (s : Shared) (σ : St) (H : Hp) (x y : V) (v u : Value) (Q : VK), Inv X pins σ H s → RelV x v → RelV y u → r x y H Q →
    subscripted slice false v u = operate [v, u] (getItem v u) → wpAny (model X.prog X.w) X.A (subscriptTail value slice v u) (EP X pins σ Q) X.xe s
noncomputable def MtR (X : Cx) (id : String) (r : V → List V → Hp → VK → Prop) : Prop :=
  ∀ (pins : List (Addr × Obj)) (s : Shared) (σ : St) (H : Hp) (x : V) (xs : List V) (v : Value) (us : List Value) (Q : VK), Inv X pins σ H s → RelV x v → Vals xs us → r x xs H Q →
    wpAny (model X.prog X.w) X.A (call (.builtin id) (v :: us)) (EP X pins σ Q) X.xe s
section
variable {X : Cx} {a b : Expr} {ta tb : TE} {pos : Pos}
theorem IxR.or {r r' : R2} (h : IxR X r) (h' : IxR X r') : IxR X (fun x y H Q => r x y H Q ∨ r' x y H Q) := by
  intro value slice pins s σ H x y v u Q I rx ry q hs
  rcases q with q | q
  · exact h value slice pins s σ H x y v u Q I rx ry q hs
  · exact h' value slice pins s σ H x y v u Q I rx ry q hs
theorem pe_ix {r : R2} (hr : IxR X r) (ha : PE X a ta) (hb : PE X b tb) (hs : PlainIx b) : PE X (.Subscript a b pos) (tOp r ta tb) := by
  intro pins s σ H Q I h
  exact Subscript_ (binT ha hb I h fun v u s2 x y H2 I2 rx ry q => hr a b pins s2 σ H2 x y v u Q I2 rx ry q (hs _ _))

noncomputable def rIxL (K : PySem.W.Frag) : R2 := fun x y H Q => ∃ p xs i v, x = .ref p ∧ y = .int i ∧ SqL K H p xs ∧ atI xs i = some v ∧ Q v H
noncomputable def rIxT (K : PySem.W.Frag) : R2 := fun x y H Q => ∃ p xs i v, x = .ref p ∧ y = .int i ∧ SqT K H p xs ∧ atI xs i = some v ∧ Q v H
noncomputable def rIxS : R2 := fun x y H Q => ∃ z i c, x = .str z ∧ y = .int i ∧ z.length ≤ sizeLine ∧ atI z.cps.toList i = some c ∧ Q (.str ⟨#[c]⟩) H
theorem ix_list : IxR X (rIxL X.K) := by
  intro value slice pins s σ H x y v u Q I rx ry h hs
  obtain ⟨p, xs, i, z, rfl, rfl, hq, he, q⟩ := h
  cases rx
  obtain ⟨t, rfl⟩ := ry
  obtain ⟨its, r, pl, hz⟩ := I.list hq
  obtain ⟨j, h1, h2, h3, h4, h5⟩ := atI_get he
  obtain ⟨w, ew, rw'⟩ := r.get h2
  have hl := r.length
  have hn := line63
  have fin : EP X pins σ Q w s := ⟨z, H, I, rw', q⟩
  by_cases h0 : 0 ≤ i
  · have hj : i.toNat = j := by
      rw [seqIndex_of h0 h5] at h1
      exact Option.some.inj h1
    exact item_listR pl.isList h0 (by omega) (by rw [hj]; simpa using ew) fin hs
  · have hj : (i + (its.toArray.size : Int)).toNat = j := by
      rw [seqIndex_neg (by omega) h4] at h1
      rw [List.size_toArray, ← hl]
      exact Option.some.inj h1
    exact subscriptTail_builtinR (x := w) pl.isList.typeIs slot_list_getitem.lookup
      (wpAny_getItem_list_neg (Q := fun r s' => r = w ∧ EP X pins σ Q r s') pl.isList (by omega) (by rw [List.size_toArray] <;> omega) (by omega) (by rw [hj]; simpa using ew) ⟨rfl, fin⟩) hs
theorem ix_tup : IxR X (rIxT X.K) := by
  intro value slice pins s σ H x y v u Q I rx ry h hs
  obtain ⟨p, xs, i, z, rfl, rfl, hq, he, q⟩ := h
  cases rx
  obtain ⟨t, rfl⟩ := ry
  obtain ⟨its, r, pl, hz⟩ := I.tuple hq
  obtain ⟨j, h1, h2, h3, h4, h5⟩ := atI_get he
  obtain ⟨w, ew, rw'⟩ := r.get h2
  have hl := r.length
  have hn := line63
  have fin : EP X pins σ Q w s := ⟨z, H, I, rw', q⟩
  exact subscriptTail_builtinR (x := w) pl.typeIs slot_tuple_getitem.lookup
    (getItem_tuple (j := j) (Q := fun r s' => r = w ∧ EP X pins σ Q r s') pl (by omega) (by omega) (by rw [List.size_toArray, ← hl]; exact h1) (by simpa using ew) ⟨rfl, fin⟩) hs
theorem ix_str : IxR X rIxS := by
  intro value slice pins s σ H x y v u Q I rx ry h hs
  obtain ⟨z, i, c, rfl, rfl, hz, he, q⟩ := h
  obtain ⟨t, rfl⟩ := rx
  obtain ⟨t', rfl⟩ := ry
  obtain ⟨j, h1, h2, h3, h4, h5⟩ := atI_get he
  have hl : z.cps.toList.length = z.length := by simp [Str.length]
  rw [hl] at h1 h4 h5
  have hn := line63
  exact tail_any (typeIs_str s z t) slot_str_getitem.lookup (getItem_str (c := c) (by
    have e1 : decide (i < -(2 ^ 63 : Int)) = false := decide_eq_false (by omega)
    have e2 : decide (i ≥ 2 ^ 63) = false := decide_eq_false (by omega)
    rw [e1, e2, Bool.or_false]) (by rw [h1]; simpa using h2) ⟨.str ⟨#[c]⟩, H, I.tok _, ⟨_, rfl⟩, q⟩) hs
noncomputable def rIx (K : PySem.W.Frag) : R2 := fun x y H Q => rIxL K x y H Q ∨ rIxT K x y H Q ∨ rIxS x y H Q
theorem ix_seq : IxR X (rIx X.K) := ix_list.or (ix_tup.or ix_str)

theorem mapSeq_set (its : List Value) (n j : Nat) (u : Value) : Obj.mapSeq (·.setIfInBounds j u) { cls := .type "list", data := .seq its.toArray n } = { cls := .type "list", data := .seq (its.set j u).toArray n } := by
  simp [Obj.mapSeq]
theorem Inv.lst {pins : List (Addr × Obj)} {σ : St} {H : Hp} {s : Shared} {p : Addr} {xs : List V} (I : Inv X pins σ H s) (h : H p = some (.lst xs)) :
    ∃ (its : List Value) (n : Nat), Vals xs its ∧ s.heap.get? p = some { cls := .type "list", data := .seq its.toArray n } ∧ xs.length ≤ sizeLine := by
  obtain ⟨z, its, n, r, e⟩ := I.hok p _ h
  exact ⟨its, n, r, e, z⟩
theorem Inv.lstUpd {pins : List (Addr × Obj)} {σ : St} {H : Hp} {s : Shared} {p : Addr} {xs ys : List V} {its its' : List Value} {n n' : Nat} {f : Obj → Obj} (I : Inv X pins σ H s) (h : H p = some (.lst xs))
    (ho : s.heap.get? p = some { cls := .type "list", data := .seq its.toArray n }) (hf : f { cls := .type "list", data := .seq its.toArray n } = { cls := .type "list", data := .seq its'.toArray n' }) (r : Vals ys its') (hz : ys.length ≤ sizeLine) (t : Nat) :
    Inv X pins σ (upd H p (.lst ys)) { s with heap := s.heap.update p f, toks := t } := by
  have e : (s.heap.update p f).get? p = some { cls := .type "list", data := .seq its'.toArray n' } := by
    rw [Heap.get?_update_self f ho (by rw [hf] <;> rfl), hf]
  refine I.write (x := p) (e := p) (by rw [h]; trivial) (.inl rfl) (fun b u hb q => (Heap.get?_update_other _ _ (Ne.symm hb)).trans q) ⟨_, e⟩ ?_
  exact ⟨hz, its', n', r, e⟩
noncomputable def rSetL : V → V → V → Hp → (Hp → Prop) → Prop := fun o i v H Q => ∃ p xs k j, o = .ref p ∧ i = .int k ∧ H p = some (.lst xs) ∧ ixN xs.length k = some j ∧ Q (upd H p (.lst (xs.set j v)))
theorem set_list : PSet X rSetL := by
  intro pins s σ H o i v ov iv u Q I ro ri rv h
  obtain ⟨p, xs, k, j, rfl, rfl, hp, hj, q⟩ := h
  cases ro
  obtain ⟨t, rfl⟩ := ri
  obtain ⟨its, n, r, ho, hz⟩ := I.lst hp
  obtain ⟨h1, h2, h3, h4⟩ := ixN_seq hj
  have hl := r.length
  have hn := line63
  have I' : Inv X pins σ (upd H p (.lst (xs.set j v))) { s with heap := s.heap.update p (Obj.mapSeq (·.setIfInBounds j u)) } :=
    I.lstUpd hp ho (mapSeq_set its n j u) (r.set rv j) (by rw [List.length_set]; exact hz) s.toks
  by_cases h0 : 0 ≤ k
  · have hk : k.toNat = j := by
      rw [seqIndex_of h0 h4] at h1
      exact Option.some.inj h1
    exact PySem.W.ki_setAt ho h0 (by omega) (by rw [List.size_toArray, ← hl]; exact h4) (by rw [hk]; exact ⟨_, I', q⟩)
  · have hk : (k + (its.toArray.size : Int)).toNat = j := by
      rw [seqIndex_neg (by omega) h3] at h1
      rw [List.size_toArray, ← hl]
      exact Option.some.inj h1
    exact PySem.W.ki_setBack ho (by omega) (by rw [List.size_toArray, ← hl]; exact h3) (by omega) (by rw [hk]; exact ⟨_, I', q⟩)

theorem slice_bounds (lo hi : Option Int) (n : Nat) : (sliceBounds lo hi none n).1 = ((HT.sIx n 0 lo : Nat) : Int) ∧ (sliceBounds lo hi none n).2.1 = ((HT.sIx n n hi : Nat) : Int) ∧ (sliceBounds lo hi none n).2.2 = 1 := by
  refine ⟨?_, ?_, rfl⟩
  · cases lo with
    | none => simp [sliceBounds, HT.sIx]
    | some i =>
      simp only [sliceBounds, HT.sIx, Option.getD_none, show (1 : Int) > 0 by decide, if_true]
      by_cases h : i < 0
      · simp only [h, if_true] <;> omega
      · simp only [h, if_false] <;> omega
  · cases hi with
    | none => simp [sliceBounds, HT.sIx]
    | some i =>
      simp only [sliceBounds, HT.sIx, Option.getD_none, show (1 : Int) > 0 by decide, if_true]
      by_cases h : i < 0
      · simp only [h, if_true] <;> omega
      · simp only [h, if_false] <;> omega
theorem slicePick_cut (its : List Value) (lo hi : Option Int) : slicePick its.toArray lo hi none = ((its.drop (HT.sIx its.length 0 lo)).take (HT.sIx its.length its.length hi - HT.sIx its.length 0 lo)).toArray := by
  obtain ⟨h1, h2, h3⟩ := slice_bounds lo hi its.toArray.size
  unfold slicePick
  rw [h1, h2, h3]
  simp only [sliceRange_one, pick_run, List.size_toArray] <;> rfl
noncomputable def rSlL (K : PySem.W.Frag) : V → Option Int → Option Int → Hp → VK → Prop := fun x lo hi H Q => ∃ a xs, x = .ref a ∧ SqL K H a xs ∧ ∀ p, H p = none → Q (.ref p) (upd H p (.lst (cutV xs lo hi)))
theorem sl_list : SlR X (rSlL X.K) := by
  intro pins s σ H x v vl vu lo hi sl Q I rx hs pl pu h
  obtain ⟨a, xs, rfl, hx, q⟩ := h
  cases rx
  obtain ⟨its, r, ht, hz⟩ := I.list hx
  have hlen := r.length
  refine ⟨"list", _, slot_list_getitem.lookup, ht.isList.typeIs, ?_⟩
  refine wpAny_getItem_list_slice ht.isList hs pl pu .none (by simp) ?_ (by rw [List.size_toArray] <;> omega)
  rw [slicePick_cut, ← hlen]
  refine ⟨.ref s.heap.objs.size, _, I.laid (t' := s.toks) (o := .lst (cutV xs lo hi)) (fun b ob q => Heap.get?_push_of_some _ q) (Nat.le_refl _) ?_, rfl, q _ (I.hok.fresh (Nat.le_refl _))⟩
  exact ⟨Nat.le_trans (cutV_length xs lo hi) hz, _, 0, (r.drop (HT.sIx xs.length 0 lo)).take (HT.sIx xs.length xs.length hi - HT.sIx xs.length 0 lo), Heap.get?_push_size _ rfl⟩

noncomputable def flatV : V → Bool
  | .non => true
  | .bl _ => true
  | .int _ => true
  | .str _ => true
  | _ => false
noncomputable def eqV : V → V → Bool
  | .non, .non => true
  | .bl a, .bl b => a == b
  | .bl a, .int b => (if a then 1 else 0) == b
  | .int a, .bl b => a == (if b then 1 else 0)
  | .int a, .int b => a == b
  | .str a, .str b => a == b
  | _, _ => false
theorem eqAt_V {A : Around} {s : Shared} {y x : V} {u v : Value} (ry : RelV y u) (rx : RelV x v) (fy : flatV y = true) (fx : flatV x = true) : SeqAt.EqAt A s u v (eqV y x) := by
  cases y with
  | non =>
    cases ry
    cases x with
    | non => cases rx; exact SeqAt.EqAt.same _
    | bl b => cases rx; exact SeqAt.EqAt.none_bool b
    | int b => obtain ⟨t, rfl⟩ := rx; exact SeqAt.EqAt.none_int b t
    | str b => obtain ⟨t, rfl⟩ := rx; exact SeqAt.EqAt.none_str b t
    | _ => exact absurd (show false = true from fx) Bool.false_ne_true
  | bl a =>
    cases ry
    cases x with
    | non => cases rx; exact SeqAt.EqAt.bool_none a
    | bl b => cases rx; exact SeqAt.EqAt.bool_bool a b
    | int b => obtain ⟨t, rfl⟩ := rx; exact SeqAt.EqAt.bool_int a b t
    | str b => obtain ⟨t, rfl⟩ := rx; exact SeqAt.EqAt.bool_str a b t
    | _ => exact absurd (show false = true from fx) Bool.false_ne_true
  | int a =>
    obtain ⟨t', rfl⟩ := ry
    cases x with
    | non => cases rx; exact SeqAt.EqAt.int_none a t'
    | bl b => cases rx; exact SeqAt.EqAt.int_bool a t' b
    | int b => obtain ⟨t, rfl⟩ := rx; exact SeqAt.EqAt.int_int a t' b t
    | str b => obtain ⟨t, rfl⟩ := rx; exact SeqAt.EqAt.int_str a t' b t
    | _ => exact absurd (show false = true from fx) Bool.false_ne_true
  | str a =>
    obtain ⟨t', rfl⟩ := ry
    cases x with
    | non => cases rx; exact SeqAt.EqAt.str_none a t'
    | bl b => cases rx; exact SeqAt.EqAt.str_bool a t' b
    | int b => obtain ⟨t, rfl⟩ := rx; exact SeqAt.EqAt.str_int a t' b t
    | str b => obtain ⟨t, rfl⟩ := rx; exact SeqAt.EqAt.str_str a t' b t
    | _ => exact absurd (show false = true from fx) Bool.false_ne_true
  | _ => exact absurd (show false = true from fy) Bool.false_ne_true
noncomputable def eqU (x : V) (u : Value) : Bool := match u with
  | .none => eqV .non x
  | .bool b => eqV (.bl b) x
  | .int i _ => eqV (.int i) x
  | .str z _ => eqV (.str z) x
  | _ => false
theorem eqU_of {x y : V} {u : Value} (r : RelV y u) (f : flatV y = true) : eqU x u = eqV y x := by
  cases y with
  | non => cases r; rfl
  | bl b => cases r; rfl
  | int i => obtain ⟨t, rfl⟩ := r; rfl
  | str z => obtain ⟨t, rfl⟩ := r; rfl
  | _ => exact absurd (show false = true from f) Bool.false_ne_true
theorem any_eqU {x : V} : ∀ {xs : List V} {us : List Value}, Vals xs us → xs.all flatV = true → us.any (eqU x) = xs.any fun y => eqV y x
  | _, _, .nil, _ => rfl
  | y :: xs, u :: us, .cons r t, f => by
    rw [List.all_cons, Bool.and_eq_true] at f
    rw [List.any_cons, List.any_cons, eqU_of r f.1, any_eqU t f.2]
theorem mem_eqAt {A : Around} {s : Shared} {x : V} {v : Value} (rx : RelV x v) (fx : flatV x = true) : ∀ {xs : List V} {us : List Value}, Vals xs us → xs.all flatV = true → ∀ u ∈ us, SeqAt.EqAt A s u v (eqU x u)
  | _, _, .nil, _ => fun u hu => by cases hu
  | y :: xs, u :: us, .cons r t, f => fun u' hu => by
    rw [List.all_cons, Bool.and_eq_true] at f
    rcases List.mem_cons.mp hu with rfl | hu
    · rw [eqU_of r f.1]; exact eqAt_V r rx f.1 fx
    · exact mem_eqAt rx fx t f.2 u' hu
noncomputable def inV (x : V) (xs : List V) : Bool := xs.any fun y => eqV y x
noncomputable def rIn (K : PySem.W.Frag) (neg : Bool) : R2 := fun x y H Q => ∃ p xs, y = .ref p ∧ (SqL K H p xs ∨ SqT K H p xs) ∧ flatV x = true ∧ xs.all flatV = true ∧ Q (.bl (if neg then !inV x xs else inV x xs)) H
theorem op_in_seq : OpR X (compareOp .In) (rIn X.K false) := by
  intro pins s σ H x y v u Q I rx ry h
  obtain ⟨p, xs, rfl, hq, fx, fs, q⟩ := h
  cases ry
  rcases hq with hq | hq
  · obtain ⟨its, r, pl, hz⟩ := I.list hq
    refine SeqAt.in_listAt (eqU x) pl.isList (fun w hw => mem_eqAt rx fx r fs w (by simpa using hw)) ⟨.bl _, H, I, rfl, ?_⟩
    rw [show its.toArray.any (eqU x) = its.any (eqU x) by simp, any_eqU r fs]
    exact q
  · obtain ⟨its, r, pl, hz⟩ := I.tuple hq
    refine SeqAt.in_tupleAt (eqU x) pl (fun w hw => mem_eqAt rx fx r fs w (by simpa using hw)) ⟨.bl _, H, I, rfl, ?_⟩
    rw [show its.toArray.any (eqU x) = its.any (eqU x) by simp, any_eqU r fs]
    exact q
theorem op_notIn_seq : OpR X (compareOp .NotIn) (rIn X.K true) := by
  intro pins s σ H x y v u Q I rx ry h
  obtain ⟨p, xs, rfl, hq, fx, fs, q⟩ := h
  cases ry
  rcases hq with hq | hq
  · obtain ⟨its, r, pl, hz⟩ := I.list hq
    refine SeqAt.notIn_listAt (eqU x) pl.isList (fun w hw => mem_eqAt rx fx r fs w (by simpa using hw)) ⟨.bl _, H, I, rfl, ?_⟩
    rw [show its.toArray.any (eqU x) = its.any (eqU x) by simp, any_eqU r fs]
    exact q
  · obtain ⟨its, r, pl, hz⟩ := I.tuple hq
    refine SeqAt.notIn_tupleAt (eqU x) pl (fun w hw => mem_eqAt rx fx r fs w (by simpa using hw)) ⟨.bl _, H, I, rfl, ?_⟩
    rw [show its.toArray.any (eqU x) = its.any (eqU x) by simp, any_eqU r fs]
    exact q
theorem op_notIn_str : OpR X (compareOp .NotIn) (fun x y H Q => ∃ i j, x = .str i ∧ y = .str j ∧ Q (.bl (!(!(Builtin.Str.occurrences j i 0 j.length 1).isEmpty))) H) := by
  intro pins s σ H x y v u Q I rx ry h
  obtain ⟨i, j, rfl, rfl, q⟩ := h
  obtain ⟨t, rfl⟩ := rx
  obtain ⟨t', rfl⟩ := ry
  exact notIn_str ⟨.bl _, H, I, rfl, q⟩

theorem CallR.or {f : Value} {r r' : List V → Hp → VK → Prop} (h : CallR X f r) (h' : CallR X f r') : CallR X f (fun xs H Q => r xs H Q ∨ r' xs H Q) := by
  intro pins s σ H xs us Q I rs q
  rcases q with q | q
  · exact h pins s σ H xs us Q I rs q
  · exact h' pins s σ H xs us Q I rs q
theorem call_list_of : CallR X (.type "list") (fun xs H Q => ∃ p ys, xs = [.ref p] ∧ (SqL X.K H p ys ∨ SqT X.K H p ys) ∧ ∀ l, H l = none → Q (.ref l) (upd H l (.lst ys))) := by
  intro pins s σ H xs us Q I r h
  obtain ⟨p, ys, rfl, hq, q⟩ := h
  obtain ⟨u, rfl, rx⟩ := vals1 r
  cases rx
  have fin : ∀ (its : List Value), Vals ys its → ys.length ≤ sizeLine → ∀ (h' : Heap) (c' : Nat), (∀ b o', s.heap.get? b = some o' → h'.get? b = some o') →
      h'.get? s.heap.objs.size = some { cls := .type "list", dict := none, data := .seq its.toArray c', slots := #[] } → EP X pins σ Q (.ref s.heap.objs.size) { s with heap := h' } := fun its r' hz h' c' kp e =>
    ⟨.ref s.heap.objs.size, _, I.laid (t' := s.toks) kp (Nat.le_refl _) (show ObjOk X.prog X.w _ h' _ (.lst ys) from ⟨hz, its, c', r', e⟩), rfl, q _ (I.hok.fresh (Nat.le_refl _))⟩
  rcases hq with hq | hq
  · obtain ⟨its, r', pl, hz⟩ := I.list hq
    have hlen := r'.length
    obtain ⟨o, ho, hc, n, hd⟩ := pl.isList
    exact call_list_seq p (.inl rfl) ho hc hd (fun h' c' kp e => fin its r' hz h' c' kp e) (by simp only [List.size_toArray] <;> omega)
  · obtain ⟨its, r', pl, hz⟩ := I.tuple hq
    have hlen := r'.length
    obtain ⟨o, ho, hc, n, hd⟩ := pl
    exact call_list_seq p (.inr rfl) ho hc hd (fun h' c' kp e => fin its r' hz h' c' kp e) (by simp only [List.size_toArray] <;> omega)
noncomputable def tyV (K : PySem.W.Frag) (T : String) (x : V) (H : Hp) : Prop := match x with
  | .str _ => T = "str"
  | .int _ => T = "int"
  | .ref p => (T = "list" ∧ ∃ xs, SqL K H p xs) ∨ (T = "tuple" ∧ ∃ o, K.lookup p = some o ∧ o.cls = .type "tuple" ∧ o.dict = none) ∨
      (T = "dict" ∧ ((∃ kvs, H p = some (.dK kvs)) ∨ ∃ kvs, H p = some (.dT kvs))) ∨ (T = "set" ∧ ∃ S n, H p = some (.set S n))
  | _ => False
theorem tyV_is {pins : List (Addr × Obj)} {σ : St} {H : Hp} {s : Shared} {T : String} {x : V} {v : Value} (I : Inv X pins σ H s) (r : RelV x v) (ty : tyV X.K T x H) :
    s.TypeIs v T ∧ ∀ a, v = .ref a → ∃ ob, s.heap.get? a = some ob ∧ ob.dict = none := by
  cases x with
  | str z =>
    obtain ⟨t, rfl⟩ := r
    cases (show T = "str" from ty)
    exact ⟨typeIs_str s z t, fun _ e => nomatch e⟩
  | int i =>
    obtain ⟨t, rfl⟩ := r
    cases (show T = "int" from ty)
    exact ⟨typeIs_int s i t, fun _ e => nomatch e⟩
  | ref p =>
    cases r
    rcases ty with ⟨rfl, xs, hq⟩ | ⟨rfl, o, hk, hc, hd⟩ | ⟨rfl, hk⟩ | ⟨rfl, S, n, hk⟩
    · obtain ⟨its, _, pl, _⟩ := I.list hq
      refine ⟨pl.isList.typeIs, fun a e => ?_⟩
      cases e
      obtain ⟨o, n, e, c, hd, _⟩ := pl
      exact ⟨o, e, hd⟩
    · refine ⟨⟨o, I.kIn p o hk, hc⟩, fun a e => ?_⟩
      cases e
      exact ⟨o, I.kIn _ o hk, hd⟩
    · have z : ∃ o, s.heap.get? p = some o ∧ o.ExactDict := by
        rcases hk with ⟨kvs, hk⟩ | ⟨kvs, hk⟩
        · obtain ⟨_, _, _, _, o, _, _, e, ex, _⟩ := I.hok p _ hk
          exact ⟨o, e, ex⟩
        · obtain ⟨_, _, _, _, o, _, _, e, ex, _⟩ := I.hok p _ hk
          exact ⟨o, e, ex⟩
      obtain ⟨o, e, ex⟩ := z
      refine ⟨⟨o, e, ex.1⟩, fun a e2 => ?_⟩
      cases e2
      exact ⟨o, e, ex.2.1⟩
    · obtain ⟨o, _, _, _, e, ex, _⟩ := I.hok p _ hk
      refine ⟨⟨o, e, ex.1⟩, fun a e2 => ?_⟩
      cases e2
      exact ⟨o, e, ex.2.1⟩
  | _ => exact False.elim ty
noncomputable def tBM0 (K : PySem.W.Frag) (T : String) (r : V → List V → Hp → VK → Prop) (to : TE) : TE := fun σ H Q => to σ H fun x H1 => tyV K T x H1 ∧ r x [] H1 Q
noncomputable def tBM (K : PySem.W.Frag) (T : String) (r : V → List V → Hp → VK → Prop) (to : TE) (t : TA) : TE := fun σ H Q => to σ H fun x H1 => tyV K T x H1 ∧ t σ H1 fun xs H2 => r x xs H2 Q
variable {o e : Expr} {es : List Expr} {to : TE} {t : TA} {name : Str} {apos cpos : Pos} {T id : String} {r : V → List V → Hp → VK → Prop}
theorem pe_bm0 (pa : PlainAttrs T) (slot : Slot T name id) (hty : typeOf (.builtin id) = pure (.type "method_descriptor")) (hm : MtR X id r) (ho : PE X o to)
    (hbase : autoParam (attributeBase o name X.env (eval o X.env) = eval o X.env) L2.auto4._auto_1) (hline : autoParam ((apos.endLine == cpos.line) = true) L2.auto4._auto_1) : PE X (.Call (.Attribute o name apos) [] [] cpos) (tBM0 X.K T r to) := by
  intro pins s σ H Q I h
  refine wpAny_Call_method0_late hbase hline (thn (ho pins s σ H _ I h) fun v s1 qq0 => ?_)
  obtain ⟨x, H1, I1, r1, ty, q1⟩ := qq0
  obtain ⟨h1, h2⟩ := tyV_is I1 r1 ty
  exact ⟨T, id, pa, slot, hty, h1, h2, Calls.callWith_builtin rfl (PySem.evalArgs_none (hm pins s1 σ H1 x [] v [] Q I1 r1 .nil q1))⟩
theorem pe_bm (pa : PlainAttrs T) (slot : Slot T name id) (hty : typeOf (.builtin id) = pure (.type "method_descriptor")) (hm : MtR X id r) (ho : PE X o to) (ha : PA X (e :: es) t)
    (hbase : autoParam (attributeBase o name X.env (eval o X.env) = eval o X.env) L2.auto4._auto_1)
    (hfew : ((backTo cpos (starEach (e :: es) X.env)).all (fun x => !x.1) && (backToKw cpos (keywordEach [] X.env)).all (fun x => x.1.isSome)
      && decide ((e :: es).length + ([] : List Keyword).length + (if ([] : List Keyword).isEmpty then 0 else 1) < 30)) = true := by rfl)
    (hline : autoParam ((apos.endLine == cpos.line) = true) L2.auto4._auto_1) (hs : autoParam (starEach (e :: es) X.env = (false, eval e X.env) :: starEach es X.env) L2.auto4._auto_1) (hplain : autoParam ((backTo cpos (starEach es X.env)).any (·.1) = false) L2.auto4._auto_1) :
    PE X (.Call (.Attribute o name apos) (e :: es) [] cpos) (tBM X.K T r to t) := by
  intro pins s σ H Q I h
  refine wpAny_Call_method_late hbase hfew hline rfl (thn (ho pins s σ H _ I h) fun v s1 qq0 => ?_)
  obtain ⟨x, H1, I1, r1, ty, q1⟩ := qq0
  obtain ⟨h1, h2⟩ := tyV_is I1 r1 ty
  refine ⟨T, id, pa, slot, hty, h1, h2, ?_⟩
  have hA := ha cpos pins s1 σ H1 _ I1 q1
  rw [hs] at hA ⊢
  refine Calls.callWith_builtin (by show (false || (backTo cpos (starEach es X.env)).any (·.1)) = false; rw [hplain] <;> rfl) (Calls.evalArgs_plain ?_)
  exact thn hA fun us s2 ⟨vs, H2, I2, r2, q2⟩ => hm pins s2 σ H2 x vs v us Q I2 r1 r2 q2
end
end L2

namespace L2
open PySem PySem.Spec PyProof.Rows

noncomputable def MtM (X : Cx) (id : String) (r : V → List V → Hp → VK → Prop) : Prop :=
  ∀ (pins : List (Addr × Obj)) (s : Shared) (σ : St) (H : Hp) (x : V) (xs : List V) (v : Value) (us : List Value) (Q : VK), Inv X pins σ H s → RelV x v → Vals xs us → r x xs H Q →
    wpAny (model X.prog X.w) X.A (call (.builtin id) (v :: us)) (EP X pins σ Q) X.xe s

theorem Vals.one : ∀ {x : V} {us : List Value}, Vals [x] us → ∃ u, us = [u] ∧ RelV x u
  | _, _, .cons r .nil => ⟨_, rfl, r⟩
theorem Vals.zero : ∀ {us : List Value}, Vals [] us → us = []
  | _, .nil => rfl
theorem Vals.rep {xs : List V} {us : List Value} (h : Vals xs us) : ∀ k : Nat, Vals (List.replicate k xs).flatten (List.replicate k us).flatten
  | 0 => .nil
  | k + 1 => by
    rw [List.replicate_succ, List.replicate_succ, List.flatten_cons, List.flatten_cons]
    exact Vals.append h (Vals.rep h k)
theorem foldl_rep (its : List Value) : ∀ (k : Nat) (acc : List Value),
    List.foldl (fun x1 x2 => x1 ++ x2) acc.toArray (List.replicate k its.toArray) = (acc ++ (List.replicate k its).flatten).toArray
  | 0, acc => by simp
  | k + 1, acc => by
    have e : acc.toArray ++ its.toArray = (acc ++ its).toArray := by simp
    have e2 : (acc ++ its) ++ (List.replicate k its).flatten = acc ++ (List.replicate (k + 1) its).flatten := by
      rw [List.replicate_succ, List.flatten_cons, List.append_assoc]
    rw [← e2, ← foldl_rep its k (acc ++ its), ← e, List.replicate_succ, List.foldl_cons]

section
variable {X : Cx} {pins : List (Addr × Obj)} {σ : St} {H : Hp} {s : Shared} {l b : Addr} {xs ys zs : List V}

theorem Inv.lset {its its' : List Value} {n : Nat} {f : Array Value → Array Value} {t' : Nat} (I : Inv X pins σ H s) (hH : H l = some (.lst xs))
    (e : s.heap.get? l = some { cls := .type "list", data := .seq its.toArray n }) (hf : f its.toArray = its'.toArray) (hv : Vals ys its') (hz : ys.length ≤ sizeLine) :
    Inv X pins σ (upd H l (.lst ys)) { s with heap := s.heap.update l (Obj.mapSeq f), toks := t' } := by
  have q := PySem.IsL.update e f
  rw [hf] at q
  refine I.write (x := l) (e := l) (by rw [hH]; exact trivial) (.inl rfl) (fun b' u hb hu => (Heap.get?_update_other s.heap (Obj.mapSeq f) (Ne.symm hb)).trans hu) ⟨_, q⟩ ?_
  exact ⟨hz, its', _, hv, q⟩
theorem Inv.lnew {its : List Value} {t' : Nat} (I : Inv X pins σ H s) (hv : Vals ys its) (hz : ys.length ≤ sizeLine) :
    Inv X pins σ (upd H s.heap.objs.size (.lst ys)) { s with heap := s.heap.push { cls := .type "list", data := .seq its.toArray }, toks := t' } :=
  I.laid (fun _ _ q => Heap.get?_push_of_some _ q) (Nat.le_refl _) ⟨hz, its, 0, hv, Heap.get?_push_size _ rfl⟩
theorem Inv.fresh (I : Inv X pins σ H s) : H s.heap.objs.size = none := I.hok.fresh (Nat.le_refl _)
theorem Inv.lstM (I : Inv X pins σ H s) (hH : H l = some (.lst xs)) : xs.length ≤ sizeLine ∧ ∃ (its : List Value) (n : Nat), Vals xs its ∧ xs.length = its.length ∧ s.heap.get? l = some { cls := .type "list", data := .seq its.toArray n } := by
  obtain ⟨z, its, n, r, e⟩ := I.hok l _ hH
  exact ⟨z, its, n, r, r.length, e⟩

theorem notLongL {n : Nat} (h : n ≤ sizeLine) : Builtin.List.listTooLong n = false := by
  unfold Builtin.List.listTooLong
  exact decide_eq_false (by omega)
end

section
variable {X : Cx}

noncomputable def rAppend : V → List V → Hp → VK → Prop := fun x vs H Q => ∃ l xs y, x = .ref l ∧ vs = [y] ∧ H l = some (.lst xs) ∧ xs.length < sizeLine ∧ Q .non (upd H l (.lst (xs ++ [y])))
theorem mt_append : MtM X "list.append" rAppend := by
  intro pins s σ H x vs v us Q I rx rv h
  obtain ⟨l, xs, y, rfl, rfl, hH, hz, q⟩ := h
  cases rx
  obtain ⟨u, rfl, ru⟩ := rv.one
  obtain ⟨z, its, n, r, hl, e⟩ := I.lstM hH
  refine call_meets F.slot_list_append ⟨_, e, rfl⟩ F.entry_list_append (F.args_list_append_2 _ _) (PySem.list_append l its.toArray n u (by rw [List.size_toArray]; omega)) ⟨e, ?_⟩
  refine ⟨.non, _, I.lset (its' := its ++ [u]) hH e (by simp) (r.append (.cons ru .nil)) ?_, rfl, q⟩
  rw [List.length_append, List.length_singleton]
  omega

noncomputable def rClear : V → List V → Hp → VK → Prop := fun x vs H Q => ∃ l xs, x = .ref l ∧ vs = [] ∧ H l = some (.lst xs) ∧ Q .non (upd H l (.lst []))
theorem mt_clear : MtM X "list.clear" rClear := by
  intro pins s σ H x vs v us Q I rx rv h
  obtain ⟨l, xs, rfl, rfl, hH, q⟩ := h
  cases rx
  have hus := rv.zero
  subst hus
  obtain ⟨z, its, n, r, hl, e⟩ := I.lstM hH
  refine call_meets F.slot_list_clear ⟨_, e, rfl⟩ F.entry_list_clear (F.args_list_clear_1 _) (AutoSeq1.list_clear_list_0 l its.toArray n (by rw [List.size_toArray]; omega)) ⟨e, ?_⟩
  exact ⟨.non, _, I.lset (its' := []) (ys := []) hH e rfl .nil (Nat.zero_le _), rfl, q⟩

noncomputable def rCat : R2 := fun x y H Q => ∃ l b xs zs, x = .ref l ∧ y = .ref b ∧ H l = some (.lst xs) ∧ H b = some (.lst zs) ∧ xs.length + zs.length ≤ sizeLine ∧ ∀ p, H p = none → Q (.ref p) (upd H p (.lst (xs ++ zs)))
theorem op_cat : OpR X (binaryOp .Add) rCat := by
  intro pins s σ H x y v u Q I rx ry h
  obtain ⟨l, b, xs, zs, rfl, rfl, hH, hB, hz, q⟩ := h
  cases rx
  cases ry
  obtain ⟨z, its, n, r, hl, e⟩ := I.lstM hH
  obtain ⟨z2, its2, n2, r2, hl2, e2⟩ := I.lstM hB
  refine PySem.P.add_list e e2 ?_ (by rw [List.size_toArray, List.size_toArray]; omega)
  have ea : its.toArray ++ its2.toArray = (its ++ its2).toArray := by simp
  rw [ea]
  exact ⟨.ref _, _, I.lnew (t' := s.toks) (r.append r2) (by rw [List.length_append]; omega), rfl, q _ I.fresh⟩
noncomputable def rRep : R2 := fun x y H Q => ∃ l k xs, x = .ref l ∧ y = .int k ∧ H l = some (.lst xs) ∧ -(2 ^ 63) ≤ k ∧ k < 2 ^ 63 ∧ xs.length * k.toNat ≤ sizeLine ∧
  ∀ p, H p = none → Q (.ref p) (upd H p (.lst (List.replicate k.toNat xs).flatten))
theorem len_rep {α : Type} (xs : List α) (k : Nat) : (List.replicate k xs).flatten.length = k * xs.length := by
  induction k with
  | zero => simp
  | succ k ih => rw [List.replicate_succ, List.flatten_cons, List.length_append, ih, Nat.succ_mul, Nat.add_comm]
theorem op_rep : OpR X (binaryOp .Mult) rRep := by
  intro pins s σ H x y v u Q I rx ry h
  obtain ⟨l, k, xs, rfl, rfl, hH, h1, h2, hz, q⟩ := h
  cases rx
  obtain ⟨t, rfl⟩ := ry
  obtain ⟨z, its, n, r, hl, e⟩ := I.lstM hH
  have hlen : its.toArray.size * k.toNat ≤ sizeLine := by rw [List.size_toArray, ← hl]; exact hz
  have hcap : ¬ its.toArray.size * k.toNat > (2 ^ 63 - 1) / 8 := by
    have : (sizeLine : Nat) ≤ (2 ^ 63 - 1) / 8 := by decide
    omega
  have hfit : ¬ (!Builtin.List.listFitsIndex k) = true := by
    rw [fitsIndex_both h1 h2]
    exact Bool.false_ne_true
  have hlong : ¬ Builtin.List.listTooLong (its.toArray.size * k.toNat) = true := by
    rw [notLongL hlen]
    exact Bool.false_ne_true
  have hnew : List.foldl (fun x1 x2 => x1 ++ x2) #[] (List.replicate (if its.toArray.isEmpty = true then 0 else k.toNat) its.toArray) = (List.replicate k.toNat its).flatten.toArray := by
    have f0 : ∀ m : Nat, List.foldl (fun x1 x2 => x1 ++ x2) #[] (List.replicate m its.toArray) = (List.replicate m its).flatten.toArray := fun m => by
      have := foldl_rep its m []
      rw [List.nil_append] at this
      exact this
    rw [f0]
    cases its with
    | nil => simp
    | cons a r' => rw [if_neg (by simp)]
  refine wpAny_binaryOp_repeat_ref (T := "list") (U := "int") (by decide) ⟨_, e, rfl⟩ (fun s' => typeIs_int s' k t) noFill_list_mul F.fills_int_mul F.slot_int_rmul repeat_list F.slot_int_index.lookup
    (call_meets F.slot_int_rmul (typeIs_int s k t) F.entry_int_rmul (F.args_int_rmul_2 _ _) (int___rmul___int_list k t l its.toArray n)
      ⟨e, rfl, ⟨_, e, rfl⟩, call_meets F.slot_list_mul ⟨_, e, rfl⟩ F.entry_list_mul (F.args_list_mul_2 _ _) (AutoListH.list___mul___list_int_3 l its.toArray n k t hfit hcap hlong) ⟨e, ?_⟩⟩)
  rw [hnew]
  exact ⟨.ref _, _, I.lnew (t' := s.toks) (r.rep k.toNat) (by rw [len_rep, Nat.mul_comm]; exact hz), rfl, q _ I.fresh⟩

end

section
variable {prog : Program} {w : World} {A : Around} {E : Value → Shared → Prop} {s : Shared}
end

section
variable {X : Cx}
end
end L2

namespace Att
open PySem PySem.W PySem.Calls PyProof.Rows

theorem ints_of_wellAll {P : Params} {h : Heap} : ∀ (ns : List Int) (vs : List Value), WellAll P h vs (ns.map WData.int) → IntsAre vs ns := by
  intro ns
  induction ns with
  | nil =>
    intro vs w
    rw [List.map_nil] at w
    cases w
    exact .nil
  | cons n ns ih =>
    intro vs w
    rw [List.map_cons] at w
    cases w with
    | cons a b =>
      cases a
      exact .cons _ _ (ih _ b)

theorem script_of {l : OpenLaw} {n : Nat} (hn : l.most = some n) {P : Params} {h : Heap} {args : List WData} {vals : List Value}
    (hpre : l.row.toRowW.claim.pre args = true) (hwl : WellAll P h vals args) :
    ∃ a vs ns, vals = [Value.ref a] ∧ args = [WData.list (ns.map WData.int)] ∧ h.get? a = some { cls := .type "list", data := .seq vs.toArray } ∧ IntsAre vs ns ∧ ns.length ≤ n := by
  have hsh : WShape.hasAll [] args [.list .int] = true := (pre_splitW hpre).1
  have hc : l.pre.holds [] { args := args } = true := (pre_splitW hpre).2
  obtain ⟨d, r, rfl, h1, h2⟩ := hasAllW_cons hsh
  obtain rfl := hasAllW_nil h2
  obtain ⟨xs, rfl, h3⟩ := hasW_list h1
  obtain ⟨ns, rfl⟩ := items_int h3
  have hlen : ns.length ≤ n := by
    unfold OpenLaw.pre at hc
    have h4 : (WTm.not (.lt (.lit (.int (n : Int))) (.len (.arg 0)))).holds [] { args := [.list (ns.map .int)] } = true := by
      have h4 := (holds_andW hc).1
      rw [hn] at h4
      exact h4
    have h5 := condW_of h4 (w_not (w_lt w_lit (w_len_list (w_arg rfl))))
    rw [List.length_map] at h5
    refine Nat.le_of_not_lt fun q => ?_
    have q' : (n : Int) < ((ns.length : Nat) : Int) := by omega
    first
      | (rw [decide_eq_true q'] at h5; exact absurd h5 (by decide))
      | (simp at h5; omega)
  cases hwl with
  | cons w1 w2 =>
    cases w2
    cases w1 with
    | list ho hall => exact ⟨_, _, ns, rfl, rfl, ho, ints_of_wellAll ns _ hall, hlen⟩

theorem post_true (l : OpenLaw) (args : List WData) : l.row.toRowW.claim.post args (.bool true) args = true :=
  postW_of (r := l.row.toRowW) (X := (true == true))
    (show WShape.has [] (.bool true) .bool = true by first | rfl | decide | simp [WShape.has, WShape.arms, WShape.armsAll])
    (show (WTm.eq .res (.lit (.bool true))).value [] { args := args, res := some (.bool true), after := args } = some (.bool (true == true)) from w_eq_bool (w_res rfl) w_lit) rfl

theorem attach_call {l : OpenLaw} {n : Nat} {q : Program} {loose : List Str} {XP : (Str → Option Value) → Heap → Prop} {YP : World → Heap → Prop} {d : DefRec}
    (hn : l.most = some n) (hdf : d.params.defaults = [])
    (call : ∀ (w : World) (s₀ s₁ : Shared) (mg mb : Str → Option Value) (fa : Addr) (o : Obj) (pm cd doc : Value) (a : Addr) (vs : List Value) (ns : List Int),
      Ground q loose [] XP w s₀ mg mb s₁.heap → YP w s₁.heap →
      s₁.heap.get? fa = some o → o.data = .func (docDef d.name d.params d.body d.scope pm cd doc) → s₁.heap.CodeRec cd d.name → mg d.name = some (.ref fa) →
      s₁.heap.get? a = some { cls := .type "list", data := .seq vs.toArray } → IntsAre vs ns → ns.length ≤ n → s₁.gens = #[] →
      codeAny (model l.prog w) callerA (.call (.ref fa) ⟨[.ref a], []⟩) (fun r s' => r = .ok (.ret (.bool true)) ∧ OldK s₁.heap s'.heap ∧ s'.os = s₁.os ∧ AllBare s'.gens) s₁) :
    WalkO q loose XP YP l.row.toRowW d [] (fun f vs => PySem.call f vs) := by
  intro w s₀ s₁ mg mb G Y fa o pm cd doc dV kV ho hd hcd hD hmg hg args vals as hpre hlay hrd hwl hlo
  obtain rfl : dV = .none := Dflts.none hD hdf
  obtain rfl : kV = .none := Dflts.noKw hD
  obtain ⟨a, vs, ns, rfl, rfl, hobj, hints, hlen⟩ := script_of hn hpre hwl
  refine enter_call (codeAny_mono (call w s₀ s₁ mg mb fa o pm cd doc a vs ns G Y ho (fd_plain hd) hcd hmg hobj hints hlen hg) fun r s' hq => ?_)
  obtain ⟨rfl, h2, h3, h4⟩ := hq
  exact ⟨.inl ⟨.bool true, .bool true, [], rfl, fun _ => rfl, .bool true, post_true l _, fun _ => ⟨List.Pairwise.nil, fun _ hm => (nomatch hm)⟩⟩, h2, h3, h4⟩

section
variable {prog : Program} {w : World} {A : Around} {E : Value → Shared → Prop} {s : Shared} {K : Frag}

end
end Att

namespace L2
open PySem PySem.Spec PyProof.Rows

theorem vals_ints : ∀ {vs : List Value} {ns : List Int}, IntsAre vs ns → Vals (ns.map V.int) vs
  | _, _, .nil => .nil
  | _, _, .cons n t h => .cons ⟨t, rfl⟩ (vals_ints h)

noncomputable def Only (H : Hp) : Prop := ∀ b, H b = none ∨ ∃ o xs, H b = some (.frz o (.lst xs))

theorem law_call {P : Program} {w : World} {K : PySem.W.Frag} {mg mb : Str → Option Value} {CX : CXT} {k : Nat} {fa a : Addr} {fd : FuncData} {x : Str} {sp : Sp} {s₁ : Shared} {vs : List Value} {ns : List Int}
    (KX : K.In s₁.heap) (hns : s₁.heap.Ns mainGlobals mg) (hb : s₁.heap.Ns builtinsNs mb) (hbb : ∀ x : Str, x ≠ "__name__" → mb x = bootBuiltins x) (hlim : s₁.heap.NoLimit) (hsm : ∃ mm, s₁.heap.Ns sysModules mm) (hg : s₁.gens = #[])
    (ha : s₁.heap.get? a = some { cls := .type "list", data := .seq vs.toArray }) (hi : IntsAre vs ns) (hl : ns.length ≤ sizeLine) (hr : Room k callerA)
    (F : ∀ base : Heap, K.In base → base.Ns mainGlobals mg → FnOk P w K mg base CX k fa fd [x] sp) (hbind : ∀ (s : Shared) (u : Value), BindsTo s fd ⟨[u], []⟩ [(x, u)])
    (hsp : ∀ H : Hp, Only H → SqL K H a (ns.map V.int) → sp [.ref a] H (fun v _ => v = .bl true) fun _ _ _ => False)
    (hCX : ∀ H e s', CX [] H s₁ (fun _ _ _ => False) e s' → False) :
    codeAny (model P w) callerA (.call (.ref fa) ⟨[.ref a], []⟩) (fun r s' => r = .ok (.ret (.bool true)) ∧ OldK s₁.heap s'.heap ∧ s'.os = s₁.os ∧ AllBare s'.gens) s₁ := by
  have rv := vals_ints hi
  have lenV := hi.length
  -- from an abstract heap in which nothing but the script may be tracked
  have core : ∀ H : Hp, Only H → SqL K H a (ns.map V.int) → HOk P w H s₁.heap → (∀ b, H b ≠ none → b = a) → (H a ≠ none → K.lookup a = none) →
      codeAny (model P w) callerA (.call (.ref fa) ⟨[.ref a], []⟩) (fun r s' => r = .ok (.ret (.bool true)) ∧ OldK s₁.heap s'.heap ∧ s'.os = s₁.os ∧ AllBare s'.gens) s₁ := by
    intro H hO hS hok hA hK
    have base_of : ∀ {b : Addr} {o : Obj}, s₁.heap.get? b = some o → H b = none → (hidT s₁.heap H).get? b = some o := fun e n => hidT_get e n
    have noA : ∀ {b : Addr} {o : Obj} {es : Array DictEntry} {ep : Nat}, s₁.heap.get? b = some o → o.data = .dict es ep → H b = none := fun {b o es ep} e d => by
      cases q : H b with
      | none => rfl
      | some u =>
        have e' : b = a := hA b (by rw [q]; simp)
        subst e'
        rw [ha] at e; cases e
        have d' : Data.seq vs.toArray _ = Data.dict es ep := d
        cases d'
    have nsK : ∀ {b : Addr} {m : Str → Option Value}, s₁.heap.Ns b m → (hidT s₁.heap H).Ns b m := fun {b m} ⟨o, es, ep, e, d, r⟩ => ⟨o, es, ep, base_of e (noA e d), d, r⟩
    have hKb : K.In (hidT s₁.heap H) := fun b o e => base_of (KX b o e) (by
      cases q : H b with
      | none => rfl
      | some u =>
        have e' : b = a := hA b (by rw [q]; simp)
        subst e'
        rw [hK (by rw [q]; simp)] at e; cases e)
    have hM : Mod K mg (hidT s₁.heap H) := ⟨hKb, nsK hns, ⟨mb, nsK hb, hbb⟩, (let ⟨mc, h1, h2⟩ := hlim; ⟨mc, nsK h1, h2⟩), let ⟨mm, h1⟩ := hsm; ⟨mm, nsK h1⟩⟩
    have e0 : Env0 P w K mg (hidT s₁.heap H) callerA [] s₁ H := ⟨rfl, hM, fun b o e => of_hidT e, Nat.le_of_eq (hidT_size _ _), trivial, fun b hb => absurd (show b ∈ ([] : List Addr) from hb) (by simp), hok, .of_eq hg⟩
    refine codeAny_mono ((F _ hKb (nsK hns)).run callerA [] s₁ H ⟨[.ref a], []⟩ [.ref a] [.ref a] _ _ hr e0 (hbind s₁ (.ref a)) (.cons rfl .nil) (hsp H hO hS)) fun r s' h => ?_
    cases r with
    | error e => exact (hCX H e s' h).elim
    | ok fl =>
      cases fl with
      | next => exact False.elim h
      | brk => exact False.elim h
      | cont => exact False.elim h
      | ret u =>
        obtain ⟨v, H', os, bare, un, hok', r', q⟩ := h
        have q' : v = .bl true := q
        subst q'
        obtain rfl : u = Value.bool true := r'
        refine ⟨rfl, OldK.of_keep fun b o e => ?_, os, bare⟩
        cases q : H b with
        | none => exact un.keep b o e q (by intro z; exact absurd (show b ∈ ([] : List Addr) from z) (by simp)) (by simp)
        | some u =>
          rcases hO b with z | ⟨ob, xs, z⟩
          · rw [q] at z; cases z
          · have z2 := un.frzs b ob _ z
            obtain ⟨e1, _⟩ := hok b _ z
            obtain ⟨e2, _⟩ := hok' b _ z2
            rw [e] at e1; cases e1
            exact e2
  cases hk : K.lookup a with
  | some o =>
    -- the script is one of the module's own objects
    have e := KX a o hk
    rw [ha] at e
    cases e
    refine core (fun _ => none) (fun _ => .inl rfl) (.inr ⟨_, vs.toArray, _, hk, rfl, rfl, rfl, by rw [List.size_toArray, lenV]; exact hl, by simpa using rv⟩) (fun b u z => by have z' : (none : Option HO) = some u := z; cases z') (fun b z => absurd rfl z) fun z => absurd rfl z
  | none =>
    refine core (fun b => if b = a then some (.frz { cls := .type "list", data := .seq vs.toArray } (.lst (ns.map V.int))) else none) (fun b => ?_) (.inl (.inr ⟨{ cls := .type "list", data := .seq vs.toArray }, if_pos rfl⟩)) (fun b u z => ?_) (fun b z => ?_) fun _ => hk
    · by_cases hb : b = a
      · exact .inr ⟨_, _, if_pos hb⟩
      · exact .inl (if_neg hb)
    · by_cases hb : b = a
      · have z' := (if_pos hb).symm.trans z
        cases z'
        subst hb
        exact ⟨ha, by rw [List.length_map]; exact hl, vs, _, rv, ha⟩
      · have z' := (if_neg hb).symm.trans z
        cases z'
    · by_cases hb : b = a
      · exact hb
      · exact absurd (if_neg hb) z
end L2

namespace L2
open PySem PySem.Spec PyProof.Rows

noncomputable abbrev KOf {K : PySem.W.Frag} {h : Heap} (_ : K.In h) : PySem.W.Frag := K

theorem walk_of {l : PySem.W.OpenLaw} {n k : Nat} {q : Program} {loose : List Str} {XP : (Str → Option Value) → Heap → Prop} {YP : World → Heap → Prop} {d : DefRec} {K : Params → PySem.W.Frag} {CX : World → CXT} {sp : World → Sp} {x : Str}
    (hn : l.most = some n) (hn2 : n ≤ sizeLine) (hdf : d.params.defaults = []) (hr : Room k callerA)
    (hY : ∀ (w : World) (h : Heap), YP w h → (K w.params).In h)
    (F : ∀ (w : World) (mg : Str → Option Value) (fa : Addr) (h : Heap), (K w.params).In h → h.Ns mainGlobals mg → mg d.name = some (.ref fa) →
      ∃ fd : FuncData, (∀ (s : Shared) (u : Value), BindsTo s fd ⟨[u], []⟩ [(x, u)]) ∧
        ∀ base : Heap, (K w.params).In base → base.Ns mainGlobals mg → FnOk l.prog w (K w.params) mg base (CX w) k fa fd [x] (sp w))
    (hsp : ∀ (w : World) (H : Hp) (a : Addr) (ns : List Int), ns.length ≤ n → Only H → SqL (K w.params) H a (ns.map V.int) → sp w [.ref a] H (fun v _ => v = .bl true) fun _ _ _ => False)
    (hCX : ∀ (w : World) (H : Hp) (s : Shared) (e : Value) (s' : Shared), CX w [] H s (fun _ _ _ => False) e s' → False) (him : importsNone q = true) :
    PySem.W.WalkO q loose XP YP l.row.toRowW d [] (fun f vs => PySem.call f vs) := by
  refine Att.attach_call hn hdf fun w s₀ s₁ mg mb fa o pm cd doc a vs ns G Y ho hd hcd hmg hobj hints hlen hg => ?_
  have KX := hY w _ Y
  obtain ⟨fd, hb, hF⟩ := F w mg fa _ KX G.T.g hmg
  exact law_call KX G.T.g G.T.b G.T.builtins G.T.nolimit (let ⟨mm, h1, _⟩ := (G.T.seer him).mods; ⟨mm, h1⟩) hg hobj hints (Nat.le_trans hlen hn2) hr hF hb (fun H hO hS => hsp w H a ns hlen hO hS) fun H e s' => hCX w H s₁ e s'
end L2


namespace L2
open PySem PySem.Spec PyProof.Rows

noncomputable def defArgs (s : Stmt) : Arguments := match s with
  | .FunctionDef _ a _ _ _ _ _ _ _ _ => a
  | _ => { posonlyargs := [], args := [], vararg := none, kwonlyargs := [], kw_defaults := [], kwarg := none, defaults := [] }
noncomputable def defBody (s : Stmt) : List Stmt := match s with
  | .FunctionDef _ _ b _ _ _ _ _ _ _ => b
  | _ => []
noncomputable def defScope (s : Stmt) : Scope := match s with
  | .FunctionDef _ _ _ _ _ _ sc _ _ _ => sc
  | _ => { kind := .function, names := [], isGenerator := false, isCoroutine := false }

noncomputable abbrev CX0 : CXT := fun _ _ _ _ _ _ => False
noncomputable abbrev E0 : XK := fun _ _ _ => False
theorem pass0 {X : Cx} : Passes CX0 X E0 := fun _ _ _ _ _ _ _ h => h.elim

structure Fun (K : PySem.W.Frag) (x qual : Str) (st : Stmt) (f : Addr) (fd : FuncData) : Prop where
  ex : ∃ (oc : Value) (od : Option Addr) (kV doc pm : Value) (an : Option Addr) (cdv ct : Value) (osl : Array (Option Value)),
    fd = PySem.W.fnOf x qual (defArgs st) (defBody st) (defScope st) .none kV doc pm an cdv ct ∧ K.lookup f = some ⟨oc, od, .func fd, osl⟩ ∧ PySem.W.codeIn K cdv qual = true
  kp : PySem.W.keepIn K (.ref f) = true
section
variable {P : Program} {w : World} {K : PySem.W.Frag} {mg : Str → Option Value} {base : Heap}
theorem Fun.ok {x qual : Str} {st : Stmt} {f : Addr} {fd : FuncData} {N ps : List Str} {k : Nat} {sp : Sp} (F : Fun K x qual st f fd) (S : FnScope N ps (defScope st)) (len : ∀ vs H Q E, sp vs H Q E → vs.length = ps.length)
    (hbody : ∀ (cdv : Value) (A : Around) (outer : List Env) (s : Shared) (H : Hp) (vs : List V) (Q : VK) (E : XK), Room k (A.deeper (envOfC qual (defScope st) s.heap.objs.size f cdv)) → sp vs H Q E →
      ∃ t, PSs (cxOf CX0 P w K mg base N qual (defScope st) f cdv A outer s H E).nox (defBody st) t ∧ t { nx := fun _ H' => Q .non H', rt := Q } (start N vs) H) : FnOk P w K mg base CX0 (k + 1) f fd ps sp := by
  obtain ⟨oc, od, kV, doc, pm, an, cdv, ct, osl, rfl, lk, hcd⟩ := F.ex
  refine fn_of lk hcd S len fun A outer s H vs Q E hr hsp => ?_
  obtain ⟨t, h, q⟩ := hbody cdv A outer s H vs Q E hr hsp
  exact ⟨t, h.nox, q⟩
theorem Fun.binds {x qual : Str} {st : Stmt} {f : Addr} {fd : FuncData} {ps : List Str} (F : Fun K x qual st f fd)
    (h : ∀ (kV doc pm : Value) (an : Option Addr) (cdv ct : Value) (us : List Value), us.length = ps.length → bindArgs (PySem.W.fnOf x qual (defArgs st) (defBody st) (defScope st) .none kV doc pm an cdv ct) ⟨us, []⟩ = pure (ps.zip us)) : Binds K fd ps [] := by
  obtain ⟨oc, od, kV, doc, pm, an, cdv, ct, osl, rfl, lk, hcd⟩ := F.ex
  exact .all (h kV doc pm an cdv ct)
theorem fun_mk {x qual : Str} {st : Stmt} {f : Addr} {oc : Value} {od an : Option Addr} {osl : Array (Option Value)} {kV doc pm cdv ct : Value} (l : K.lookup f = some ⟨oc, od, .func (PySem.W.fnOf x qual (defArgs st) (defBody st) (defScope st) .none kV doc pm an cdv ct), osl⟩)
    (c : PySem.W.codeIn K cdv qual = true) (k : PySem.W.keepIn K (.ref f) = true) : Fun K x qual st f (PySem.W.fnOf x qual (defArgs st) (defBody st) (defScope st) .none kV doc pm an cdv ct) := ⟨⟨oc, od, kV, doc, pm, an, cdv, ct, osl, rfl, l, c⟩, k⟩
end
section
variable {X : Cx}
end

theorem iteF {A B : Prop} (h : B) : if false = true then A else B := by
  rw [if_neg Bool.false_ne_true]
  exact h
theorem iteT {A B : Prop} (h : A) : if true = true then A else B := by
  rw [if_pos rfl]
  exact h
noncomputable def Same (H H' : Hp) : Prop := ∀ b o, H b = some o → H' b = some o
theorem Same.refl (H : Hp) : Same H H := fun _ _ h => h
theorem Same.trans {H H1 H2 : Hp} (a : Same H H1) (b : Same H1 H2) : Same H H2 := fun c o h => b c o (a c o h)
theorem Same.seq {K : PySem.W.Frag} {H H' : Hp} {a : Addr} {xs : List V} (e : Same H H') (h : SqL K H a xs) : SqL K H' a xs := by
  rcases h with (h | ⟨o, h⟩) | h
  · exact .inl (.inl (e _ _ h))
  · exact .inl (.inr ⟨o, e _ _ h⟩)
  · exact .inr h

end L2

set_option maxHeartbeats 4000000
namespace L2
open PySem PySem.Spec PyProof.Rows

noncomputable def clOf (env : Env) : List (Str × NameKind) → List (Str × Addr) → List (Str × Addr)
  | [], acc => acc
  | (n, k) :: r, acc => clOf env r (if k == .free then (match env.cells.lookup n with | some c => (n, c) :: acc | none => acc) else acc)
theorem clOf_mem {env : Env} : ∀ {names : List (Str × NameKind)} {acc : List (Str × Addr)}, (∀ x c, (x, c) ∈ acc → env.cells.lookup x = some c) → ∀ x c, (x, c) ∈ clOf env names acc → env.cells.lookup x = some c
  | [], _, h, x, c, m => h x c m
  | (n, k) :: r, acc, h, x, c, m => by
    refine clOf_mem (names := r) ?_ x c m
    intro y d hm
    cases hk : (k == NameKind.free) with
    | false => rw [hk] at hm; exact h y d hm
    | true =>
      rw [hk] at hm
      simp only [if_true] at hm
      cases e : env.cells.lookup n with
      | none => rw [e] at hm; exact h y d hm
      | some c' =>
        rw [e] at hm
        rcases List.mem_cons.mp hm with z | z
        · cases z; exact e
        · exact h y d z
theorem clOf_sub {env : Env} : ∀ {names : List (Str × NameKind)} {acc : List (Str × Addr)} {p : Str × Addr}, p ∈ acc → p ∈ clOf env names acc
  | [], _, _, h => h
  | (n, k) :: r, acc, p, h => by
    refine clOf_sub (names := r) ?_
    split
    · split
      · exact List.mem_cons_of_mem _ h
      · exact h
    · exact h
theorem clOf_has {env : Env} {x : Str} {c : Addr} (e : env.cells.lookup x = some c) : ∀ {names : List (Str × NameKind)} {acc : List (Str × Addr)}, (x, NameKind.free) ∈ names → (x, c) ∈ clOf env names acc
  | [], _, h => by simp at h
  | (n, k) :: r, acc, h => by
    rcases List.mem_cons.mp h with z | z
    · cases z
      refine clOf_sub (names := r) ?_
      rw [e]
      simp
    · exact clOf_has e (names := r) z
theorem lookup_of_all {l : List (Str × Addr)} {x : Str} {c : Addr} (hm : (x, c) ∈ l) (ha : ∀ d, (x, d) ∈ l → d = c) : l.lookup x = some c := by
  induction l with
  | nil => simp at hm
  | cons p r ih =>
    obtain ⟨n, d⟩ := p
    by_cases e : x = n
    · subst e
      have : d = c := ha d (by simp)
      subst this
      simp [List.lookup_cons]
    · have hb : (x == n) = false := by simpa using e
      rw [List.lookup_cons, hb]
      refine ih ?_ fun d' h' => ha d' (List.mem_cons_of_mem _ h')
      rcases List.mem_cons.mp hm with z | z
      · cases z; exact absurd rfl e
      · exact z
theorem clOf_lookup {env : Env} {names : List (Str × NameKind)} {x : Str} {c : Addr} (e : env.cells.lookup x = some c) (h : (x, NameKind.free) ∈ names) : (clOf env names []).lookup x = some c :=
  lookup_of_all (clOf_has e h) fun d hd => by
    have q := clOf_mem (names := names) (acc := []) (env := env) (by simp) x d hd
    rw [e] at q
    exact (Option.some.inj q).symm
theorem clOf_some {env : Env} {names : List (Str × NameKind)} {x : Str} {c : Addr} (e : (clOf env names []).lookup x = some c) : env.cells.lookup x = some c :=
  clOf_mem (names := names) (acc := []) (env := env) (by simp) x c (PySem.mem_of_lookup e)

theorem closure_eq {env : Env} : ∀ (names : List (Str × NameKind)) (acc : List (Str × Addr)), (∀ x ∈ names, x.2 = NameKind.free → ∃ c, env.cells.lookup x.1 = some c) →
    (forIn (m := Sem) names acc fun x r => match x with
      | (name, kind) => if (kind == NameKind.free) = true then do let c ← cellOf env name; pure (ForInStep.yield ((name, c) :: r)) else pure (ForInStep.yield r)) = pure (clOf env names acc)
  | [], acc, _ => rfl
  | (n, k) :: r, acc, h => by
    rw [List.forIn_cons]
    cases hk : (k == NameKind.free) with
    | false =>
      simp only [hk, Bool.false_eq_true, if_false, pure_bind, clOf]
      exact closure_eq r acc fun x hx => h x (List.mem_cons_of_mem _ hx)
    | true =>
      obtain ⟨c, e⟩ := h (n, k) List.mem_cons_self (by simpa using hk)
      simp only [hk, if_true, pure_bind, clOf, cellOf, e]
      exact closure_eq r ((n, c) :: acc) fun x hx => h x (List.mem_cons_of_mem _ hx)
theorem closureFor_cl {scope : Scope} {env : Env} (h : ∀ x ∈ scope.names, x.2 = NameKind.free → ∃ c, env.cells.lookup x.1 = some c) : closureFor scope env = pure (clOf env scope.names []) := by
  unfold closureFor
  have := closure_eq (env := env) scope.names [] h
  simp only [this, pure_bind]

theorem comp_loop {prog : Program} {w : World} {A : Around} {R : Result → Shared → Prop} {s : Shared} {elt target iter : Expr} {ifs : List Expr} {scope : Scope} {pos : Pos} {it acc : Value} {env : Env} (I : Nat → Shared → Prop)
    (turn : ∀ n s, I n s → wpAny (model prog w) A (pyNext it) (fun r s₁ => match r with
      | none => R (.ok .next) s₁
      | some v => wpAny (model prog w) A (letOwnedTupleGo target it v) (fun _ s₁' => wpAny (model prog w) A (assign target env v) (fun _ s₂ =>
          wpAny (model prog w) A (forIn ifs true fun c r => if r = true then do let ok ← isTrue c env (eval c env); pure (ForInStep.yield ok) else pure (ForInStep.yield r)) (fun ok s₃ =>
            if ok = true then wpAny (model prog w) A (eval elt env) (fun x s₄ =>
              wpAny (model prog w) A (call (.builtin "list.append") [acc, x]) (fun _ s₅ => ∃ m, m < n ∧ I m s₅) (fun _ _ => False) s₄) (fun _ _ => False) s₃
            else ∃ m, m < n ∧ I m s₃) (fun _ _ => False) s₂) (fun _ _ => False) s₁') (fun _ _ => False) s₁) (fun _ _ => False) s)
    (n : Nat) (h : I n s) :
    codeAny (model prog w) A (.compLoop (.ListComp elt [⟨target, iter, ifs, 0⟩] scope pos) 0 it acc env) R s := by
  refine codeAny_loop rfl I (fun n s hI => ?_) n h
  show wpAny _ A ((compTurn (.ListComp elt [⟨target, iter, ifs, 0⟩] scope pos) 0 it acc env).onRaise (fun x => do noteFrame x env; theTreesLotGoes x)) _ _ s
  refine wpAny_noted ?_
  rw [compTurn_list]
  refine wpAny_bind (wpAny_standAt (wpAny_bind (wpAny_mono (turn n s hI) (fun r s₁ h₁ => ?_) fun _ _ h' => h'.elim)))
  cases r with
  | none => exact wpAny_pure h₁
  | some v =>
    refine wpAny_bind (wpAny_mono h₁ (fun _ s₁' h₁' => ?_) fun _ _ h' => h'.elim)
    refine wpAny_bind (wpAny_mono h₁' (fun _ s₂ h₂ => wpAny_bind (wpAny_mono h₂ (fun ok s₃ h₃ => ?_) fun _ _ h' => h'.elim)) fun _ _ h' => h'.elim)
    cases ok with
    | false => exact wpAny_pure ⟨rfl, h₃⟩
    | true =>
      exact wpAny_bind (wpAny_bind (wpAny_mono h₃ (fun x s₄ h₄ => wpAny_bind (wpAny_mono h₄ (fun _ s₅ h₅ => wpAny_pure (wpAny_pure ⟨rfl, h₅⟩)) fun _ _ h' => h'.elim)) fun _ _ h' => h'.elim))
end L2

namespace L2
open PySem PySem.Spec PyProof.Rows

theorem cellsFrom_app : ∀ (names : List (Str × NameKind)) (n : Nat) (acc : List (Str × Addr)), cellsFrom n names acc = cellsFrom n names [] ++ acc
  | [], _, _ => rfl
  | (x, k) :: r, n, acc => by
    unfold cellsFrom
    split
    · rw [cellsFrom_app r (n + 1) ((x, n) :: acc), cellsFrom_app r (n + 1) [(x, n)], List.append_assoc]; rfl
    · exact cellsFrom_app r n acc
theorem look_app {α : Type} : ∀ {A B : List (Str × α)} {x : Str}, (A ++ B).lookup x = (match A.lookup x with | some c => some c | none => B.lookup x)
  | [], _, _ => rfl
  | (y, c) :: A, B, x => by
    rw [List.cons_append, List.lookup_cons, List.lookup_cons]
    cases x == y with
    | true => rfl
    | false => exact look_app (A := A)
theorem own_cell : ∀ {names : List (Str × NameKind)} {n : Nat} {acc : List (Str × Addr)} {x : Str} {c : Addr}, (x, c) ∈ cellsFrom n names acc → (x, c) ∈ acc ∨ (x, NameKind.cell) ∈ names
  | [], _, _, _, _, h => .inl h
  | (y, k) :: r, n, acc, x, c, h => by
    unfold cellsFrom at h
    split at h
    · rename_i hk
      rcases own_cell h with z | z
      · rcases List.mem_cons.mp z with z | z
        · cases z
          have : k = .cell := by simpa using hk
          rw [this]; exact .inr List.mem_cons_self
        · exact .inl z
      · exact .inr (List.mem_cons_of_mem _ z)
    · exact (own_cell h).imp id (List.mem_cons_of_mem _)
theorem look_mem {α : Type} : ∀ {l : List (Str × α)} {x : Str} {c : α}, (x, c) ∈ l → ∃ d, l.lookup x = some d
  | (y, d) :: r, x, c, h => by
    by_cases e : x = y
    · subst e; exact ⟨d, by simp [List.lookup_cons]⟩
    · have hb : (x == y) = false := by simpa using e
      rw [List.lookup_cons, hb]
      rcases List.mem_cons.mp h with z | z
      · cases z; exact absurd rfl e
      · exact look_mem z
theorem has_cell : ∀ {names : List (Str × NameKind)} {n : Nat} {acc : List (Str × Addr)} {x : Str}, (x, NameKind.cell) ∈ names ∨ (∃ c, (x, c) ∈ acc) → ∃ c, (x, c) ∈ cellsFrom n names acc
  | [], _, _, _, h => h.elim (fun h => by simp at h) id
  | (y, k) :: r, n, acc, x, h => by
    unfold cellsFrom
    split
    · refine has_cell ?_
      rcases h with h | ⟨c, h⟩
      · rcases List.mem_cons.mp h with z | z
        · cases z; exact .inr ⟨n, List.mem_cons_self⟩
        · exact .inl z
      · exact .inr ⟨c, List.mem_cons_of_mem _ h⟩
    · rename_i hk
      refine has_cell ?_
      rcases h with h | h
      · rcases List.mem_cons.mp h with z | z
        · cases z; exact absurd (by decide) hk
        · exact .inl z
      · exact .inr h
noncomputable def clC (X : Cx) (scope : Scope) (C : Addr) : List (Str × Addr) := cellsFrom (C + 1) scope.names (clOf X.env scope.names [])
section
variable {M : Model} {A : Around} {E : Value → Shared → Prop} {s : Shared}
theorem wpAny_newFunctionEnv_cl {scope : Scope} {globals : Addr} {cl : List (Str × Addr)} {qual : Str} {env : Env} {Q : Env → Shared → Prop}
    (hQ : ∀ h' : Heap, h'.Ns s.heap.objs.size (fun _ => none) → (∀ b o, s.heap.get? b = some o → h'.get? b = some o) → CellsOk h' (s.heap.objs.size + 1) (cellsFrom (s.heap.objs.size + 1) scope.names []) →
      Q (newEnv scope s.heap.objs.size globals (cellsFrom (s.heap.objs.size + 1) scope.names cl) qual none .none (some env) builtinsNs) { s with heap := h', toks := s.toks + ([] : List (Str × Value)).length }) :
    wpAny M A (newFunctionEnv scope globals cl [] qual none .none (some env)) Q E s := by
  simp only [newFunctionEnv, Option.isSome_some, if_true]
  refine wpAny_bind (wpAny_alloc ?_)
  refine wpAny_bind (wpAny_layCells _ (fun name kind cells => by cases hkc : kind == NameKind.cell <;> simp [hkc]) _ _ _ _ ?_)
  have ok := cellsFrom_ok scope.names (s.heap.push { cls := .type "dict", data := .dict #[] }) (s.heap.objs.size + 1) [] ⟨fun _ _ hm => (nomatch hm), List.Pairwise.nil⟩ (by rw [Heap.size_push]; exact Nat.le_refl _)
  rw [Heap.size_push] at ok
  rw [show ({ s with heap := s.heap.push { cls := .type "dict", data := .dict #[] } } : Shared).heap.objs.size = s.heap.objs.size + 1 from Heap.size_push ..]
  exact wpAny_bind (wpAny_pure (wpAny_pure (hQ _ ((Heap.Ns.new s.heap (.type "dict")).keeps (pushCells_keeps _ _)) (fun b o e => pushCells_keeps _ _ b o (Heap.get?_push_of_some _ e)) ok)))
end
noncomputable def cxC (X : Cx) (N' : List Str) (scope : Scope) (C : Addr) (s₀ : Shared) (H₀ : Hp) (ex : List Addr) : Cx :=
  { X with N := N', s₀ := s₀, H₀ := H₀, env := compEnvC scope (clC X scope C) C X.env, outer := X.stack, ex := ex, fn := fun x => decide (scope.names.lookup x = some .cell), pn := [], xe := fun _ _ => False }
noncomputable def subSt (sub : List (Option Nat)) (σ : St) : St := sub.map fun o => o.bind fun j => (σ[j]?).join
structure SubOk (N : List Str) (sc : Scope) (N' : List Str) (scope : Scope) (sub : List (Option Nat)) : Prop where
  kind : scope.kind = .function
  cel : ∀ x ∈ scope.names, x.2 = .cell → scope.names.lookup x.1 = some .cell
  loc : ∀ x ∈ scope.names, x.2 = .local → scope.names.lookup x.1 = some .local
  free : ∀ x ∈ scope.names, x.2 = .free → sc.names.lookup x.1 = some .cell ∨ sc.names.lookup x.1 = some .free
  len : sub.length = N'.length
  at_ : ∀ (i j : Nat) (x : Str), sub[i]? = some (some j) → N'[i]? = some x → N[j]? = some x ∧ (x, NameKind.free) ∈ scope.names ∧ scope.names.lookup x = some .free
noncomputable def subOkB (N : List Str) (sc : Scope) (N' : List Str) (scope : Scope) (sub : List (Option Nat)) : Bool :=
  decide (scope.kind = .function) && scope.names.all (fun x => decide (x.2 = .cell → scope.names.lookup x.1 = some .cell)) && scope.names.all (fun x => decide (x.2 = .local → scope.names.lookup x.1 = some .local)) &&
  scope.names.all (fun x => decide (x.2 = .free → sc.names.lookup x.1 = some .cell ∨ sc.names.lookup x.1 = some .free)) && decide (sub.length = N'.length) &&
  (List.range sub.length).all fun i => match sub[i]?, N'[i]? with
    | some (some j), some x => decide (N[j]? = some x ∧ (x, NameKind.free) ∈ scope.names ∧ scope.names.lookup x = some .free)
    | _, _ => true
theorem subOk_of {N : List Str} {sc : Scope} {N' : List Str} {scope : Scope} {sub : List (Option Nat)} (h : subOkB N sc N' scope sub = true) : SubOk N sc N' scope sub := by
  simp only [subOkB, Bool.and_eq_true, decide_eq_true_eq, List.all_eq_true] at h
  obtain ⟨⟨⟨⟨⟨h1, h2⟩, h3⟩, h4⟩, h5⟩, h6⟩ := h
  refine ⟨h1, h2, h3, h4, h5, fun i j x e1 e2 => ?_⟩
  have hi : i < sub.length := (List.getElem?_eq_some_iff.mp e1).1
  have q := h6 i (List.mem_range.mpr hi)
  rw [e1, e2] at q
  simpa using q

noncomputable def tTrue : TT := fun _ H Q => Q true H
noncomputable def PIfs (X : Cx) (ifs : List Expr) (t : TT) : Prop :=
  ∀ (pins : List (Addr × Obj)) (s : Shared) (σ : St) (H : Hp) (Q : Bool → Hp → Prop), Inv X pins σ H s → t σ H Q →
    wpAny (model X.prog X.w) X.A (forIn ifs true fun c r => if r = true then do let ok ← isTrue c X.env (eval c X.env); pure (ForInStep.yield ok) else pure (ForInStep.yield r)) (TP X pins σ Q) X.xe s
theorem pifs_nil {X : Cx} : PIfs X [] tTrue := fun _ _ _ H _ I h => wpAny_tests_nil ⟨H, I, h⟩
theorem pifs_one {X : Cx} {c : Expr} {t : TT} (hc : PT X c t) : PIfs X [c] t := fun pins s σ H Q I h => wpAny_tests_one (hc pins s σ H Q I h)

noncomputable def KeepSt (σ σ' : St) : Prop := σ'.length = σ.length ∧ ∀ (i : Nat) (v : V), σ[i]? = some (some v) → σ'[i]? = some (some v)
theorem KeepSt.set {σ : St} {i : Nat} {v : V} (h : σ[i]? = some none) : KeepSt σ (σ.set i (some v)) := by
  refine ⟨by simp, fun j u e => ?_⟩
  by_cases hj : i = j
  · subst hj; rw [h] at e; cases e
  · rw [List.getElem?_set_ne hj]; exact e
theorem KeepSt.trans {σ1 σ2 σ3 : St} (a : KeepSt σ1 σ2) (b : KeepSt σ2 σ3) : KeepSt σ1 σ3 := ⟨b.1.trans a.1, fun i v e => b.2 i v (a.2 i v e)⟩
noncomputable def tComp (sub : List (Option Nat)) (wi : TI) (g : TG) (tt : TT) (te : TE) : TE := fun σ H Q => wi σ H fun J H1 => ∃ W : Nat → Nat → List V → Hp → Prop, (∃ m, W 0 m [] H1) ∧ ∀ i m ys H, W i m ys H →
  (J.stop i H ∧ ys.length ≤ sizeLine ∧ ∀ D, H D = none → Q (.ref D) (upd H D (.lst ys))) ∨
  (J.go i H ∧ ys.length < sizeLine ∧ ∃ N : List V → Hp → Prop, (∀ ys' H', N ys' H' → ∃ m', m' < m ∧ W (i + 1) m' ys' H') ∧
    ∀ x H', J.yld i H x H' → g x (subSt sub σ) H' fun σ2 H2 => KeepSt (subSt sub σ) σ2 ∧ tt σ2 H2 fun b H3 => if b = true then te σ2 H3 fun y H4 => N (ys ++ [y]) H4 else N ys H3)

theorem relabel_free {scope : Scope} {env : Env} {x : Str} (hx : scope.names.lookup x = some .free) : (relabel scope env).names.lookup x = some .cell ∨ (relabel scope env).names.lookup x = some .free := by
  have : ∀ names : List (Str × NameKind), names.lookup x = some .free →
    (names.map fun (n, k) => if (k == NameKind.free && env.scope.kind == .function && env.kindOf n == some .cell) then (n, NameKind.cell) else (n, k)).lookup x = some .cell ∨
    (names.map fun (n, k) => if (k == NameKind.free && env.scope.kind == .function && env.kindOf n == some .cell) then (n, NameKind.cell) else (n, k)).lookup x = some .free := by
    intro names
    induction names with
    | nil => intro h; simp at h
    | cons p r ih =>
      obtain ⟨n, k⟩ := p
      intro h
      by_cases e : x = n
      · subst e
        have hk : k = .free := by simpa [List.lookup_cons] using h
        subst hk
        by_cases hc : ((NameKind.free == NameKind.free && env.scope.kind == .function && env.kindOf x == some .cell) = true)
        · left; simp only [List.map_cons]; rw [if_pos hc]; simp [List.lookup_cons]
        · right; simp only [List.map_cons]; rw [if_neg hc]; simp [List.lookup_cons]
      · have hb : (x == n) = false := by simpa using e
        rw [List.lookup_cons, hb] at h
        have q := ih h
        simp only [List.map_cons]
        split <;> (rw [List.lookup_cons, hb]; exact q)
  exact this scope.names hx
theorem relabel_back {scope : Scope} {env : Env} {x : Str} (h : (relabel scope env).names.lookup x = some .cell ∨ (relabel scope env).names.lookup x = some .free) : (x, NameKind.cell) ∈ scope.names ∨ (x, NameKind.free) ∈ scope.names := by
  have key : ∀ k, (k = NameKind.cell ∨ k = NameKind.free) → (relabel scope env).names.lookup x = some k → (x, NameKind.cell) ∈ scope.names ∨ (x, NameKind.free) ∈ scope.names := by
    intro k hk hl
    have hm := PySem.mem_of_lookup hl
    unfold relabel at hm
    obtain ⟨⟨n, k'⟩, hm1, hm2⟩ := List.mem_map.mp hm
    dsimp only at hm2
    by_cases hc : (k' == NameKind.free && env.scope.kind == .function && env.kindOf n == some .cell) = true
    · rw [if_pos hc] at hm2
      cases hm2
      simp only [Bool.and_eq_true, beq_iff_eq] at hc
      rw [← hc.1.1]; exact .inr hm1
    · rw [if_neg hc] at hm2
      cases hm2
      rcases hk with hk | hk
      · subst hk; exact .inl hm1
      · subst hk; exact .inr hm1
  rcases h with h | h
  · exact key _ (.inl rfl) h
  · exact key _ (.inr rfl) h
section
variable {X : Cx} {tg iter elt : Expr} {ifs : List Expr} {scope : Scope} {pos : Pos} {N' : List Str} {sub : List (Option Nat)} {wi : TI} {g : TG} {tt : TT} {te : TE}

theorem inv_block {pins : List (Addr × Obj)} {σ : St} {H : Hp} {s : Shared} {fp : List Addr} {D : Addr} {h' : Heap} {tk : Nat} {N : List Str} {sc : Scope} (S : SubOk N sc N' scope sub) (hN : X.N = N) (hsc : X.env.scope = sc) (I : Inv X pins σ H s) (hf : ∀ b ∈ fp, FpOk X pins H b) (hfo : ∀ b ∈ fp, b < s.heap.objs.size)
    (hD : D < s.heap.objs.size) (fD : FpOk X pins H D) (hns : h'.Ns s.heap.objs.size fun _ => none) (hk : ∀ b o, s.heap.get? b = some o → h'.get? b = some o) (hc : CellsOk h' (s.heap.objs.size + 1) (cellsFrom (s.heap.objs.size + 1) scope.names [])) :
    Inv (cxC X N' scope s.heap.objs.size s H (D :: fp)) [] (subSt sub σ) H { s with heap := h', toks := tk } := by
  have hex : ∀ b ∈ D :: fp, FpOk X pins H b ∧ b < s.heap.objs.size := fun b hb => by
    rcases List.mem_cons.mp hb with rfl | z
    · exact ⟨fD, hD⟩
    · exact ⟨hf b z, hfo b z⟩
  have spl : ∀ {x c}, (clC X scope s.heap.objs.size).lookup x = some c → (h'.IsCell c none ∧ s.heap.objs.size + 1 ≤ c ∧ (x, c) ∈ cellsFrom (s.heap.objs.size + 1) scope.names []) ∨ (X.env.cells.lookup x = some c ∧ ∃ o, s.heap.get? c = some o) := fun {x c} h => by
    unfold clC at h
    rw [cellsFrom_app, look_app] at h
    cases e : (cellsFrom (s.heap.objs.size + 1) scope.names []).lookup x with
    | some d =>
      rw [e] at h
      cases h
      have m := PySem.mem_of_lookup e
      exact .inl ⟨(hc.empty _ _ m).1, (hc.empty _ _ m).2, m⟩
    | none =>
      rw [e] at h
      have z := clOf_some h
      obtain ⟨v, o, ho, _⟩ := I.cell x c z
      exact .inr ⟨z, o, ho⟩
  have fre : ∀ {x c}, (x, NameKind.free) ∈ scope.names → scope.names.lookup x = some .free → X.env.cells.lookup x = some c → (clC X scope s.heap.objs.size).lookup x = some c := fun {x c} h1 h2 h3 => by
    unfold clC
    rw [cellsFrom_app, look_app]
    cases e : (cellsFrom (s.heap.objs.size + 1) scope.names []).lookup x with
    | some d =>
      rcases own_cell (PySem.mem_of_lookup e) with z | z
      · cases z
      · have := S.cel _ z rfl
        rw [h2] at this; cases this
    | none => exact clOf_lookup h3 h1
  refine ⟨⟨I.ok.mod, S.kind, I.ok.glob, I.ok.blt, Nat.le_refl _, fun x y c h1 h2 => ?_, fun x hx => ?_, fun x c hx h => ?_, I.ok.hd, I.ok.frames, .inl rfl, fun b hb => ?_, I.bs, Nat.le_trans I.ok.bsz I.sz, fun b o e hb => ?_, fun b hb => ?_, I.stack, I.stkFree⟩,
    rfl, I.bare, Un.kept hk, ⟨_, hns, fun i x v h1 h2 h3 => ?_⟩, fun x c h => ?_, I.hok.fresh (Nat.le_refl _), fun x c h => ?_, fun p hp => (nomatch hp), I.hok.kept hk, ?_⟩
  · rcases spl h1 with ⟨_, l1, m1⟩ | ⟨z1, o1, q1⟩ <;> rcases spl h2 with ⟨_, l2, m2⟩ | ⟨z2, o2, q2⟩
    · exact PySem.name_of_addr hc.apart m1 m2
    · exact absurd (Nat.lt_of_lt_of_le (Heap.lt_size q2) (Nat.le_of_succ_le l1)) (Nat.lt_irrefl _)
    · exact absurd (Nat.lt_of_lt_of_le (Heap.lt_size q1) (Nat.le_of_succ_le l2)) (Nat.lt_irrefl _)
    · exact I.ok.inj x y c z1 z2
  · rcases relabel_back hx with z | z
    · obtain ⟨c, m⟩ := has_cell (n := s.heap.objs.size + 1) (acc := clOf X.env scope.names []) (.inl z)
      exact look_mem m
    · obtain ⟨c, e⟩ := I.ok.has x (by have := S.free _ z rfl; rw [← hsc] at this; exact this)
      show ∃ c, (clC X scope s.heap.objs.size).lookup x = some c
      unfold clC
      rw [cellsFrom_app]
      exact look_mem (c := c) (List.mem_append_right _ (clOf_has e z))
  · have hx' : scope.names.lookup x = some .cell := by simpa [cxC] using hx
    rcases spl h with ⟨_, l, _⟩ | ⟨z, o, q⟩
    · exact Nat.le_of_succ_le l
    · exfalso
      have m : (x, NameKind.cell) ∈ scope.names := PySem.mem_of_lookup hx'
      obtain ⟨d, md⟩ := has_cell (n := s.heap.objs.size + 1) (acc := []) (.inl m)
      obtain ⟨d', e'⟩ := look_mem md
      have h : (clC X scope s.heap.objs.size).lookup x = some c := h
      unfold clC at h
      rw [cellsFrom_app, look_app, e'] at h
      cases h
      exact absurd (Nat.lt_of_lt_of_le (Heap.lt_size q) (Nat.le_of_succ_le (hc.empty _ _ (PySem.mem_of_lookup e')).2)) (Nat.lt_irrefl _)
  · obtain ⟨⟨f0, f1, f2, f3, f4, f5⟩, hlt⟩ := hex b hb
    refine ⟨Nat.ne_of_lt hlt, fun x c h => ?_⟩
    rcases spl h with ⟨_, l, _⟩ | ⟨z, _⟩
    · exact fun z => absurd (Nat.lt_of_lt_of_le hlt (Nat.le_of_succ_le (z ▸ l))) (Nat.lt_irrefl _)
    · exact f4 x c z
  · obtain ⟨⟨f0, f1, f2, f3, f4, f5⟩, hlt⟩ := hex b hb
    rcases f3 with z | z
    · exact I.ok.noex b o e z
    · exact absurd (Nat.lt_of_lt_of_le (Heap.lt_size (I.ok.bs b o e).1) z) (Nat.lt_irrefl _)
  · obtain ⟨⟨f0, f1, f2, f3, f4, f5⟩, hlt⟩ := hex b hb
    intro z
    rcases List.mem_cons.mp (I.stkSub b z) with z | z
    · exact f1 z
    · exact f2 z
  · have hs : ∃ j, sub[i]? = some (some j) ∧ σ[j]? = some (some v) := by
      unfold subSt at h2
      rw [List.getElem?_map] at h2
      cases e : sub[i]? with
      | none => rw [e] at h2; cases h2
      | some o =>
        rw [e] at h2
        cases o with
        | none => cases h2
        | some j =>
          refine ⟨j, rfl, ?_⟩
          have h3 : (σ[j]?).join = some v := Option.some.inj h2
          cases e2 : σ[j]? with
          | none => rw [e2] at h3; cases h3
          | some z => rw [e2] at h3; cases z with
            | none => cases h3
            | some z => cases h3; rfl
    obtain ⟨j, e1, e2⟩ := hs
    obtain ⟨g1, g2, g3⟩ := S.at_ i j x e1 h1
    rw [← hN] at g1
    obtain ⟨m, hn, hl⟩ := I.loc
    have hkf : X.env.kindOf x = some .cell ∨ X.env.kindOf x = some .free := by have := S.free _ g2 rfl; rw [← hsc] at this; exact this
    have hvis : Vis X.env.scope x := by
      rcases hkf with z | z
      · exact .inr (.inl z)
      · exact .inr (.inr z)
    obtain ⟨u, r, l⟩ := hl j x v g1 e2 hvis
    refine ⟨u, r, .inr ⟨relabel_free g3, ?_⟩⟩
    rcases l with ⟨k, _⟩ | ⟨_, c, e, o, ho, hd⟩
    · have k' : X.env.kindOf x = some .local := k
      rcases hkf with z | z <;> (rw [k'] at z; cases z)
    · exact ⟨c, fre g2 g3 e, o, hk _ _ ho, hd⟩
  · rcases spl h with ⟨z, _⟩ | ⟨z, _⟩
    · exact ⟨_, z⟩
    · obtain ⟨v, o, ho, hd⟩ := I.cell x c z
      exact ⟨v, o, hk _ _ ho, hd⟩
  · rcases spl h with ⟨_, l, _⟩ | ⟨z, _⟩
    · exact I.hok.fresh (Nat.le_of_succ_le l)
    · exact I.freeC x c z
  · show (subSt sub σ).length = N'.length
    unfold subSt
    rw [List.length_map]
    exact S.len

theorem pe_comp {N : List Str} {sc : Scope} (S : SubOk N sc N' scope sub) (hc : X.calm = true) (hN : X.N = N) (hsc : X.env.scope = sc) (hi : PI X tg iter wi)
    (hg : ∀ (C : Addr) (s₀ : Shared) (H₀ : Hp) (ex : List Addr), PG (cxC X N' scope C s₀ H₀ ex) tg g)
    (ht : ∀ (C : Addr) (s₀ : Shared) (H₀ : Hp) (ex : List Addr), PIfs (cxC X N' scope C s₀ H₀ ex) ifs tt)
    (he : ∀ (C : Addr) (s₀ : Shared) (H₀ : Hp) (ex : List Addr), PE (cxC X N' scope C s₀ H₀ ex) elt te)
    (hs : autoParam (∀ x, foldedSetIterable iter X.env x = pure x) L2.auto3._auto_1) :
    PE X (.ListComp elt [⟨tg, iter, ifs, 0⟩] scope pos) (tComp sub wi g tt te) := by
  intro pins s σ H Q I h
  rw [eval_ListComp]
  have hcl : ∀ x ∈ scope.names, x.2 = NameKind.free → ∃ c, X.env.cells.lookup x.1 = some c := fun x hx hk => I.ok.has x.1 (by have := S.free x hx hk; rw [← hsc] at this; exact this)
  refine wpAny_comprehension_free (use := none) rfl hs (closureFor_cl hcl) S.kind S.loc ?_
  refine thn (hi pins s σ H _ I h) fun v s1 h1 => thn h1 fun itv s2 h2 => ?_
  obtain ⟨it, fp, tn, J, H2, e, I2, T, st2, f2, W, ⟨m0, w0⟩, turn⟩ := h2
  subst e
  refine wpAny_newObj_type (wpAny_newFunctionEnv_cl fun h₁ hns₁ hk31 hcl₁ => ?_)
  dsimp only at hns₁ hk31 hcl₁ ⊢
  generalize hs3 : ({ s2 with heap := s2.heap.push { cls := .type "list", dict := none, data := .seq ([] : List Value).toArray } } : Shared) = s3
  have e3 : s2.heap.push { cls := .type "list", dict := none, data := .seq ([] : List Value).toArray } = s3.heap := by rw [← hs3]
  rw [e3] at hns₁ hk31 hcl₁ ⊢
  have hD3 : s3.heap.get? s2.heap.objs.size = some { cls := .type "list", dict := none, data := .seq ([] : List Value).toArray } := by rw [← e3]; exact Heap.get?_push_size _ rfl
  have I3 : Inv X pins σ H2 s3 := by
    rw [← hs3]
    exact I2.kept (t' := s2.toks) fun b o e => Heap.get?_push_of_some _ e
  have k23 : ∀ b o, s2.heap.get? b = some o → s3.heap.get? b = some o := fun b o e => by rw [← e3]; exact Heap.get?_push_of_some _ e
  have hsz : s3.heap.objs.size = s2.heap.objs.size + 1 := by rw [← e3, Heap.size_push]
  have hDn : H2 s2.heap.objs.size = none := I2.hok.fresh (Nat.le_refl _)
  have fD : FpOk X pins H2 s2.heap.objs.size := I2.fpOk (Nat.le_refl _) hDn
  have hfo : ∀ b ∈ fp, b < s2.heap.objs.size := fun b hb => let ⟨o, e, _⟩ := T.obj _ _ st2 b hb; Heap.lt_size e
  have hDfp : s2.heap.objs.size ∉ fp := fun z => absurd (hfo _ z) (Nat.lt_irrefl _)
  have I4 := inv_block (tk := s3.toks + ([] : List (Str × Value)).length) S hN hsc I3 f2 (fun b hb => by rw [hsz]; exact Nat.lt_succ_of_lt (hfo b hb)) (D := s2.heap.objs.size) (by rw [hsz]; exact Nat.lt_succ_self _) fD hns₁ hk31 hcl₁
  -- facts of the block
  have stat : ∀ {H' : Hp} {ob : Obj}, (∀ b ∈ fp, H' b = none) → ∀ b ∈ fp, FpOk (cxC X N' scope s3.heap.objs.size s3 H2 (s2.heap.objs.size :: fp)) [(s2.heap.objs.size, ob)] H' b := fun {H' ob} hn b hb => by
    obtain ⟨q1, q2⟩ := I4.ok.exf b (List.mem_cons_of_mem _ hb)
    refine ⟨hn b hb, q1, I4.ok.exfs b (List.mem_cons_of_mem _ hb), .inl (List.mem_cons_of_mem _ hb), q2, fun p hp z => ?_⟩
    have hp' : p = (s2.heap.objs.size, ob) := by simpa [cxC] using hp
    subst hp'
    have z' : s2.heap.objs.size = b := z
    exact hDfp (by rw [z']; exact hb)
  generalize hXC : cxC X N' scope s3.heap.objs.size s3 H2 (s2.heap.objs.size :: fp) = XC at I4 stat
  have eP : XC.prog = X.prog := by rw [← hXC]; rfl
  have eW : XC.w = X.w := by rw [← hXC]; rfl
  have eK : XC.K = X.K := by rw [← hXC]; rfl
  have eA : XC.A = X.A := by rw [← hXC]; rfl
  have eE : XC.env = compEnvC scope (clC X scope s3.heap.objs.size) s3.heap.objs.size X.env := by rw [← hXC]; rfl
  have eC : XC.calm = true := by rw [← hXC]; exact hc
  have eX : XC.xe = fun _ _ => False := by rw [← hXC]; rfl
  have eH : XC.H₀ = H2 := by rw [← hXC]; rfl
  have eS : XC.s₀ = s3 := by rw [← hXC]; rfl
  have eF : XC.fs = frs X.stack := by rw [← hXC]; rfl
  have eEx : XC.ex = s2.heap.objs.size :: fp := by rw [← hXC]; rfl
  have ePn : XC.pn = [] := by rw [← hXC]; rfl
  have hgC : PG XC tg g := by rw [← hXC]; exact hg _ _ _ _
  have htC : PIfs XC ifs tt := by rw [← hXC]; exact ht _ _ _ _
  have heC : PE XC elt te := by rw [← hXC]; exact he _ _ _ _
  have pinD : ∀ {σ' : St} {H' : Hp} {s' : Shared} {ob : Obj}, Inv XC [] σ' H' s' → H' s2.heap.objs.size = none → s'.heap.get? s2.heap.objs.size = some ob → (∀ v, ob.data ≠ .cell v) → Inv XC [(s2.heap.objs.size, ob)] σ' H' s' := fun {σ' H' s' ob} J hn hg hd =>
    J.pins_of fun p hp => by
      have hp' : p = (s2.heap.objs.size, ob) := by simpa using hp
      subst hp'
      refine ⟨hg, hn, (J.ok.exf _ (by rw [eEx]; exact List.mem_cons_self)).1, J.ok.exfs _ (by rw [eEx]; exact List.mem_cons_self), hd⟩
  have loop : codeAny (model X.prog X.w) X.A (.compLoop (.ListComp elt [⟨tg, iter, ifs, 0⟩] scope pos) 0 (.ref it) (.ref s2.heap.objs.size) (compEnvC scope (clC X scope s3.heap.objs.size) s3.heap.objs.size X.env))
      (compPost (model X.prog X.w) X.A X.xe none (EP X pins σ Q) (.ref s2.heap.objs.size) s3.heap.objs.size) { s3 with heap := h₁, toks := s3.toks + ([] : List (Str × Value)).length } := by
    refine comp_loop (fun n s' => ∃ (i : Nat) (ys : List V) (its : List Value) (nn : Nat) (H' : Hp), Inv XC [] (subSt sub σ) H' s' ∧ tn i s'.heap ∧ (∀ b ∈ fp, H' b = none) ∧ H' s2.heap.objs.size = none ∧
      s'.heap.get? s2.heap.objs.size = some { cls := .type "list", data := .seq its.toArray nn } ∧ Vals ys its ∧ W i n ys H') ?_ m0
      ⟨0, [], [], _, H2, I4, T.keep _ _ _ st2 fun b _ o e => hk31 b o (k23 b o e), fun b hb => (f2 b hb).1, hDn, hk31 _ _ hD3, .nil, w0⟩
    rintro n s4 ⟨i, ys, its, nn, H4, J4, st4, fr4, dn4, dg4, rv4, w4⟩
    have P4 := pinD J4 dn4 dg4 (fun v z => by cases z)
    rcases turn i n ys H4 w4 with ⟨stop, hyl, qn⟩ | ⟨go, hyl, N, hN, step⟩
    · have hdone := T.done XC eP eW eK eC i _ s4 _ H4 (fun _ _ => False) P4 (stat fr4) st4 stop
      rw [eA] at hdone
      refine wpAny_mono hdone (fun r s5 ⟨hr, I5⟩ => ?_) fun _ _ z => z
      subst hr
      -- the end
      obtain ⟨m, hn, _⟩ := id I5.loc
      have hCe : XC.env.locals = s3.heap.objs.size := by rw [eE]; rfl
      rw [hCe] at hn
      refine ⟨m, hn, fun h6 hs6 => ?_⟩
      have hDg := (I5.pin (s2.heap.objs.size, _) (by rw [ePn]; exact List.mem_cons_self)).1
      have hDne : s2.heap.objs.size ≠ s3.heap.objs.size := by rw [hsz]; exact Nat.ne_of_lt (Nat.lt_succ_self _)
      have hHC : H4 s3.heap.objs.size = none := by have := I5.free; rw [hCe] at this; exact this
      have k56 : ∀ b o, b ≠ s3.heap.objs.size → s5.heap.get? b = some o → h6.get? b = some o := fun b o hb e => hs6.extBut b o hb e
      have un := I5.base
      rw [eF, eEx, eH, eS] at un
      have nC : ∀ b o, s3.heap.get? b = some o → b ≠ s3.heap.objs.size := fun b o e => Nat.ne_of_lt (Heap.lt_size e)
      have hok6 : HOk X.prog X.w (upd H4 s2.heap.objs.size (.lst ys)) h6 := by
        have h5 := I5.hok
        rw [eP, eW] at h5
        have trk : ∀ b u, H4 b = some u → b ≠ s3.heap.objs.size := fun b u e z => by rw [z, hHC] at e; cases e
        intro b u e
        by_cases hb : b = s2.heap.objs.size
        · subst hb
          rw [upd_same] at e; cases e
          exact ⟨hyl, its, nn, rv4, k56 _ _ hDne hDg⟩
        · rw [upd_ne hb] at e
          have nD : ∀ c u, H4 c = some u → c ≠ s2.heap.objs.size := fun c u e z => by rw [z, dn4] at e; cases e
          refine (h5 b u e).stay (fun c v hc' q => k56 c v ?_ q) (fun c q => by rw [upd_ne (nD c _ q)]; exact q) fun c xs q => by rw [upd_ne (nD c _ q)]; exact q
          rcases hc' with z | z
          · rw [z]; exact trk b u e
          · exact trk c _ z
      have nD2 : ∀ c u, H4 c = some u → c ≠ s2.heap.objs.size := fun c u e z => by rw [z, dn4] at e; cases e
      have un6 : Un (frs X.stack) (s2.heap.objs.size :: fp) H2 (upd H4 s2.heap.objs.size (.lst ys)) s3.heap h6 :=
        ⟨fun b o e nn' hb hx => k56 b o (nC b o e) (un.keep b o e nn' hb hx), fun b o e nn' hb hx => let ⟨sl, q⟩ := un.slot b o e nn' hb hx; ⟨sl, k56 b _ (nC b o e) q⟩,
          fun b o e nn' hx => by rw [upd_ne (fun z => hx (by rw [z]; exact List.mem_cons_self))]; exact un.free b o e nn' hx,
          fun b o e hx => let ⟨o', q⟩ := un.there b o e hx; ⟨o', k56 b o' (nC b o e) q⟩,
          fun b xs e => by have q := un.tups b xs e; rw [upd_ne (nD2 b _ q)]; exact q,
          fun b o u e => by have q := un.frzs b o u e; rw [upd_ne (nD2 b _ q)]; exact q,
          fun b ps e => let ⟨more, q⟩ := un.tbls b ps e; ⟨more, by rw [upd_ne (nD2 b _ q)]; exact q⟩⟩
      have I6 : Inv X pins σ (upd H4 s2.heap.objs.size (.lst ys)) { s5 with heap := h6 } := by
        refine I3.call' (s' := { s5 with heap := h6 }) (ch := s2.heap.objs.size :: fp) ?_ un6 hok6 I5.bare fun b hb => ?_
        · show s5.os = s3.os
          have := I5.os
          rw [eS] at this
          exact this
        · have q : FpOk X pins H2 b := by
            rcases List.mem_cons.mp hb with rfl | z
            · exact fD
            · exact f2 b z
          obtain ⟨f0, f1, f2', f3, f4, f5⟩ := q
          exact ⟨f3, f1, f4, f5⟩
      exact ⟨.ref s2.heap.objs.size, _, I6, rfl, qn _ dn4⟩
    · have hitem := T.item XC eP eW eK eC i _ s4 _ H4 (fun _ _ => False) P4 (stat fr4) st4 go
      rw [eA] at hitem
      refine wpAny_mono hitem (fun r s5 ⟨u, hr, h5⟩ => ?_) fun _ _ z => z
      subst hr
      dsimp only
      refine wpAny_mono h5 (fun _ s6 ⟨x, H6, I6, r6, y6, st6, fr6⟩ => ?_) fun _ _ z => z
      have P6 := I6.pinned (stat fr6) (T.obj _ _ st6)
      rw [← eE, ← eP, ← eW, ← eA]
      refine wpAny_mono (hgC _ s6 _ H6 x u _ P6 r6 (step x H6 y6)) (fun _ s7 ⟨σ7, H7, I7, kp7, q7⟩ => ?_) fun _ _ z => by rw [eX] at z; exact z
      refine wpAny_mono (htC _ s7 σ7 H7 _ I7 q7) (fun ok s8 ⟨H8, I8, q8⟩ => ?_) fun _ _ z => by rw [eX] at z; exact z
      -- back to the turn's start
      have fin : ∀ {H9 : Hp} {s9 : Shared}, Inv XC ([(s2.heap.objs.size, ({ cls := .type "list", data := .seq its.toArray nn } : Obj))] ++ pinsAt fp s6.heap) σ7 H9 s9 → Inv XC [] (subSt sub σ) H9 s9 ∧ tn (i + 1) s9.heap ∧ (∀ b ∈ fp, H9 b = none) ∧ H9 s2.heap.objs.size = none ∧
          s9.heap.get? s2.heap.objs.size = some { cls := .type "list", data := .seq its.toArray nn } := fun {H9 s9} J => by
        have pD := J.pin (s2.heap.objs.size, ({ cls := .type "list", data := .seq its.toArray nn } : Obj)) (by rw [ePn]; simp)
        have pF : ∀ b ∈ fp, ∀ o, s6.heap.get? b = some o → s9.heap.get? b = some o ∧ H9 b = none := fun b hb o e => by
          have q := J.pin (b, o) (by rw [ePn]; exact List.mem_append_right _ (List.mem_append_right _ (mem_pinsAt hb e)))
          exact ⟨q.1, q.2.1⟩
        refine ⟨?_, T.keep _ _ _ st6 fun b hb o e => (pF b hb o e).1, fun b hb => ?_, pD.2.1, pD.1⟩
        · have J0 : Inv XC [] σ7 H9 s9 := J.pins_of fun p hp => nomatch hp
          exact J0.weak kp7.1.symm fun j v e => kp7.2 j v e
        · obtain ⟨o, e, _⟩ := T.obj _ _ st6 b hb
          exact (pF b hb o e).2
      cases ok with
      | false =>
        rw [if_neg (by simp)]
        rw [if_neg (by simp)] at q8
        obtain ⟨m', hm, w8⟩ := hN _ _ q8
        obtain ⟨a1, a2, a3, a4, a5⟩ := fin I8
        exact ⟨m', hm, i + 1, ys, its, nn, H8, a1, a2, a3, a4, a5, rv4, w8⟩
      | true =>
        rw [if_pos rfl]
        rw [if_pos rfl] at q8
        refine wpAny_mono (heC _ s8 σ7 H8 _ I8 q8) (fun xv s9 ⟨y, H9, I9, r9, n9⟩ => ?_) fun _ _ z => by rw [eX] at z; exact z
        obtain ⟨m', hm, w9⟩ := hN _ _ n9
        obtain ⟨a1, a2, a3, a4, a5⟩ := fin I9
        refine wpAny_list_append_plain (items := its.toArray) ⟨nn, a5⟩ (fun h' ⟨n', hp'⟩ sb => ?_) (by simp; rw [← rv4.length]; omega)
        obtain ⟨q1, q2⟩ := I4.ok.exf s2.heap.objs.size (by rw [eEx]; exact List.mem_cons_self)
        have a1' : Inv XC [] (subSt sub σ) H9 { s9 with heap := h' } := a1.turned (t' := s9.toks) (fun b o hb e => (sb.2 b hb).trans e) a4 q1 (.inl (by rw [eEx]; exact List.mem_cons_self)) q2 (fun p hp => by rw [ePn] at hp; exact nomatch hp)
        refine ⟨m', hm, i + 1, ys ++ [y], its ++ [xv], n', H9, a1', T.keep _ _ _ a2 fun b hb o e => (sb.2 b (fun z => hDfp (by rw [← z]; exact hb))).trans e, a3, a4, ?_, rv4.append (.cons r9 .nil), w9⟩
        rw [hp']
        simp
  subst hs3
  exact codeAny_compStart_list loop (T.self _ 0 _ _ _ (T.keep _ _ _ st2 fun b _ o e => hk31 b o (k23 b o e)) loop)
end

noncomputable abbrev CompR (sub : List (Option Nat)) (g : TG) (tt : TT) (te : TE) (σ : St) (Q : VK) (J : It) (H1 : Hp) : Prop := ∃ W : Nat → Nat → List V → Hp → Prop, (∃ m, W 0 m [] H1) ∧ ∀ i m ys H, W i m ys H →
  (J.stop i H ∧ ys.length ≤ sizeLine ∧ ∀ D, H D = none → Q (.ref D) (upd H D (.lst ys))) ∨
  (J.go i H ∧ ys.length < sizeLine ∧ ∃ N : List V → Hp → Prop, (∀ ys' H', N ys' H' → ∃ m', m' < m ∧ W (i + 1) m' ys' H') ∧
    ∀ x H', J.yld i H x H' → g x (subSt sub σ) H' fun σ2 H2 => KeepSt (subSt sub σ) σ2 ∧ tt σ2 H2 fun b H3 => if b = true then te σ2 H3 fun y H4 => N (ys ++ [y]) H4 else N ys H3)
theorem comp_by {sub : List (Option Nat)} {g : TG} {tt : TT} {te : TE} {σ : St} {Q : VK} {J : It} {H : Hp} {n : Nat} (Pv : Nat → List V → Hp → Prop) (hn : n ≤ sizeLine) (h0 : Pv 0 [] H) (hl : ∀ i ys H, Pv i ys H → ys.length ≤ i)
    (hgo : ∀ i ys H, i < n → Pv i ys H → J.go i H) (hstop : ∀ ys H, Pv n ys H → J.stop n H)
    (hs : ∀ i ys H x H', i < n → Pv i ys H → J.yld i H x H' → g x (subSt sub σ) H' fun σ2 H2 => KeepSt (subSt sub σ) σ2 ∧ tt σ2 H2 fun b H3 => if b = true then te σ2 H3 fun y H4 => Pv (i + 1) (ys ++ [y]) H4 else Pv (i + 1) ys H3)
    (hd : ∀ ys H, Pv n ys H → ∀ D, H D = none → Q (.ref D) (upd H D (.lst ys))) : CompR sub g tt te σ Q J H := by
  refine ⟨fun i m ys H => m = n - i ∧ i ≤ n ∧ Pv i ys H, ⟨n, by simp, Nat.zero_le _, h0⟩, ?_⟩
  rintro i m ys H ⟨rfl, hi, p⟩
  have hl' := hl i ys H p
  by_cases hlt : i < n
  · exact .inr ⟨hgo i ys H hlt p, by omega, fun ys' H' => Pv (i + 1) ys' H', fun ys' H' p' => ⟨n - (i + 1), by omega, rfl, hlt, p'⟩, fun x H' y => hs i ys H x H' hlt p y⟩
  · have e : i = n := by omega
    subst e
    exact .inl ⟨hstop ys H p, by omega, hd ys H p⟩
end L2

namespace L2
open PySem PySem.Spec PyProof.Rows

section
variable {κ : Type} [DecidableEq κ]
noncomputable def valV (kvs : List (κ × V)) (k : κ) : Option V := (kvs.find? fun kv => decide (kv.1 = k)).map (·.2)
noncomputable def putK (kvs : List (κ × V)) (k : κ) (v : V) : List (κ × V) :=
  if (kvs.any fun kv => decide (kv.1 = k)) = true then kvs.map (fun kv => if kv.1 = k then (kv.1, v) else kv) else kvs ++ [(k, v)]
theorem valV_pos {p : κ × V} {r : List (κ × V)} {k : κ} (e : p.1 = k) : valV (p :: r) k = some p.2 := by simp [valV, List.find?_cons, e]
theorem valV_neg {p : κ × V} {r : List (κ × V)} {k : κ} (e : ¬ p.1 = k) : valV (p :: r) k = valV r k := by simp [valV, List.find?_cons, e]
theorem valV_any (k : κ) : ∀ kvs : List (κ × V), (kvs.any fun kv => decide (kv.1 = k)) = (valV kvs k).isSome
  | [] => rfl
  | p :: r => by
    rw [List.any_cons]
    by_cases e : p.1 = k
    · simp only [valV_pos e, decide_eq_true e, Bool.true_or, Option.isSome_some]
    · rw [valV_neg e, decide_eq_false e, Bool.false_or]; exact valV_any k r
theorem length_putK (kvs : List (κ × V)) (k : κ) (v : V) : (putK kvs k v).length ≤ kvs.length + 1 := by
  unfold putK
  split
  · rw [List.length_map]; omega
  · rw [List.length_append, List.length_cons, List.length_nil]; omega
theorem putK_new {kvs : List (κ × V)} {k : κ} (v : V) (h : valV kvs k = none) : putK kvs k v = kvs ++ [(k, v)] := by
  unfold putK
  rw [valV_any, h]
  exact if_neg (by decide)

theorem RelO.isSome_eq {o : Option V} {u : Option Value} (r : RelO o u) : o.isSome = u.isSome := by
  cases o with
  | none => cases u with
    | none => rfl
    | some _ => exact (show False from r).elim
  | some _ => cases u with
    | none => exact (show False from r).elim
    | some _ => rfl
theorem RelO.getD {o : Option V} {u : Option Value} {d : V} {d' : Value} (r : RelO o u) (rd : RelV d d') : RelV (o.getD d) (u.getD d') := by
  cases o with
  | none => cases u with
    | none => exact rd
    | some _ => exact (show False from r).elim
  | some _ => cases u with
    | none => exact (show False from r).elim
    | some _ => exact r

theorem KV.val {kvs : List (κ × V)} {vs : List (κ × Value)} (r : KV kvs vs) (k : κ) : RelO (valV kvs k) (valueAt vs k) := by
  unfold KV at r
  induction r with
  | nil => exact True.intro
  | @cons p q ps qs h t ih =>
    obtain ⟨h1, h2⟩ := h
    by_cases e : p.1 = k
    · have e' : q.1 = k := h1.symm.trans e
      have b : valueAt (q :: qs) k = some q.2 := by simp [valueAt, List.find?_cons, e']
      rw [valV_pos e, b]; exact h2
    · have e' : ¬ q.1 = k := fun z => e (h1.trans z)
      have b : valueAt (q :: qs) k = valueAt qs k := by simp [valueAt, List.find?_cons, e']
      rw [valV_neg e, b]; exact ih
theorem KV.any {kvs : List (κ × V)} {vs : List (κ × Value)} (r : KV kvs vs) (k : κ) : (kvs.any fun kv => decide (kv.1 = k)) = vs.any fun kv => decide (kv.1 = k) := by
  unfold KV at r
  induction r with
  | nil => rfl
  | cons h t ih => rw [List.any_cons, List.any_cons, ih, h.1]
theorem KV.repl {kvs : List (κ × V)} {vs : List (κ × Value)} (r : KV kvs vs) (k : κ) {y : V} {u : Value} (ry : RelV y u) :
    KV (kvs.map fun kv => if kv.1 = k then (kv.1, y) else kv) (vs.map fun kv => if kv.1 = k then (kv.1, u) else kv) := by
  unfold KV at r ⊢
  induction r with
  | nil => exact .nil
  | @cons p q ps qs h t ih =>
    rw [List.map_cons, List.map_cons]
    refine .cons ?_ ih
    obtain ⟨h1, h2⟩ := h
    by_cases e : p.1 = k
    · rw [if_pos e, if_pos (h1.symm.trans e)]; exact ⟨h1, ry⟩
    · rw [if_neg e, if_neg (fun z => e (h1.trans z))]; exact ⟨h1, h2⟩
theorem KV.put {kvs : List (κ × V)} {vs : List (κ × Value)} (r : KV kvs vs) (k : κ) {y : V} {u : Value} (ry : RelV y u) : KV (putK kvs k y) (stored vs k u) := by
  unfold putK stored
  rw [r.any k]
  by_cases e : (vs.any fun kv => decide (kv.1 = k)) = true
  · rw [if_pos e, if_pos e]; exact r.repl k ry
  · rw [if_neg e, if_neg e]; exact Paired.snoc r ⟨rfl, ry⟩
theorem KV.length {kvs : List (κ × V)} {vs : List (κ × Value)} (r : KV kvs vs) : kvs.length = vs.length := Paired.length r
end


theorem kV_is {P : Program} {w : World} {k : Key} {u : Value} (r : RelV (kV k) u) : (mixKind P w).is k u = true := by
  cases k with
  | inl i => obtain ⟨t, e⟩ := (show ∃ t, u = Value.int i t from r); subst e; exact mixKind_int P w i t
  | inr x => obtain ⟨t, e⟩ := (show ∃ t, u = Value.str x t from r); subst e; exact mixKind_str P w x t
theorem items_are {P : Program} {w : World} : ∀ {ks : List Key} {us : List Value}, Vals (ks.map kV) us → ItemsAre (mixKind P w) ks us
  | [], _, r => by rw [List.map_nil] at r; cases r; exact .nil
  | k :: ks, _, r => by
    rw [List.map_cons] at r
    cases r with
    | cons h t => exact .cons (kV_is h) (items_are t)

noncomputable abbrev KT (H : Hp) : List (List Key × V) → List (List Key × Addr × Value) → Prop := Paired fun p q => p.1 = q.1 ∧ H q.2.1 = some (.tup (p.1.map kV)) ∧ RelV p.2 q.2.2
theorem KT.val {H : Hp} {kvs : List (List Key × V)} {xs : List (List Key × Addr × Value)} (r : KT H kvs xs) (k : List Key) : RelO (valV kvs k) ((atKey xs k).map (·.2)) := by
  induction r with
  | nil => exact True.intro
  | @cons p q ps qs h t ih =>
    obtain ⟨h1, _, h2⟩ := h
    by_cases e : p.1 = k
    · have e' : q.1 = k := h1.symm.trans e
      have b : atKey (q :: qs) k = some q.2 := by simp [atKey, List.find?_cons, e']
      rw [valV_pos e, b]; exact h2
    · have e' : ¬ q.1 = k := fun z => e (h1.trans z)
      have b : atKey (q :: qs) k = atKey qs k := by simp [atKey, List.find?_cons, e']
      rw [valV_neg e, b]; exact ih
theorem KT.repl {H : Hp} {kvs : List (List Key × V)} {xs : List (List Key × Addr × Value)} (r : KT H kvs xs) (k : List Key) {y : V} {u : Value} (ry : RelV y u) :
    KT H (kvs.map fun kv => if kv.1 = k then (kv.1, y) else kv) (xs.map (putAt k u)) := by
  induction r with
  | nil => exact .nil
  | @cons p q ps qs h t ih =>
    rw [List.map_cons, List.map_cons]
    refine .cons ?_ ih
    obtain ⟨h1, h2, h3⟩ := h
    unfold putAt
    by_cases e : p.1 = k
    · rw [if_pos e, if_pos (h1.symm.trans e)]; exact ⟨h1, h2, ry⟩
    · rw [if_neg e, if_neg (fun z => e (h1.trans z))]; exact ⟨h1, h2, h3⟩
theorem KT.put {H : Hp} {kvs : List (List Key × V)} {xs : List (List Key × Addr × Value)} (r : KT H kvs xs) (k : List Key) {b : Addr} {y : V} {u : Value} (hb : H b = some (.tup (k.map kV))) (ry : RelV y u) :
    KT H (putK kvs k y) (storedH xs k b u) := by
  have e : (kvs.any fun kv => decide (kv.1 = k)) = (atKey xs k).isSome := by
    rw [valV_any, (r.val k).isSome_eq, Option.isSome_map]
  unfold putK storedH
  rw [e]
  by_cases q : (atKey xs k).isSome = true
  · rw [if_pos q, if_pos q]; exact r.repl k ry
  · rw [if_neg q, if_neg q]; exact Paired.snoc r ⟨rfl, hb, ry⟩
theorem KT.keeps {H H' : Hp} {kvs : List (List Key × V)} {xs : List (List Key × Addr × Value)} (r : KT H kvs xs) (ht : ∀ b ys, H b = some (.tup ys) → H' b = some (.tup ys)) : KT H' kvs xs :=
  Paired.mapP r fun _ _ z => ⟨z.1, ht _ _ z.2.1, z.2.2⟩

section
variable {P : Program} {w : World} {H : Hp} {h : Heap} {a : Addr}
theorem rd_of {u : HO} (ok : HOk P w H h) (e : Rd H a u) : ObjOk P w H h a u := e.ok ok
theorem dk_rd {kvs : List (Key × V)} (ok : HOk P w H h) (e : Rd H a (.dK kvs)) : kvs.length ≤ sizeLine ∧ (a == sysModules) = false ∧ ∃ vs, KV kvs vs ∧ h.DictOf (mixKind P w) a vs :=
  show ObjOk P w H h a (.dK kvs) from rd_of ok e
theorem dk_of {kvs : List (Key × V)} (ok : HOk P w H h) (e : H a = some (.dK kvs)) : kvs.length ≤ sizeLine ∧ (a == sysModules) = false ∧ ∃ vs, KV kvs vs ∧ h.DictOf (mixKind P w) a vs := dk_rd ok (.inl e)
theorem key_of {ks : List Key} (ok : HOk P w H h) (e : H a = some (.tup (ks.map kV))) : (tupleKind (mixKind P w)).is h ks a := by
  obtain ⟨_, its, r, o, h1, h2, n, h3⟩ := (show ObjOk P w H h a (.tup (ks.map kV)) from ok a _ e)
  exact ⟨o, its.toArray, n, h1, h2, h3, by simpa using items_are r⟩
theorem dt_rd {kvs : List (List Key × V)} (ok : HOk P w H h) (e : Rd H a (.dT kvs)) : kvs.length ≤ sizeLine ∧ (a == sysModules) = false ∧
    ∃ xs, KT H kvs xs ∧ h.DictOfH (tupleKind (mixKind P w)) a xs := by
  obtain ⟨z, y, xs, r, o, es, ep, h1, h2, h3, h4, h5⟩ := (show ObjOk P w H h a (.dT kvs) from rd_of ok e)
  refine ⟨z, y, xs, r, o, es, ep, h1, h2, h3, h4, fun x hx => ?_, h5⟩
  have all : ∀ {l : List (List Key × V)} {m : List (List Key × Addr × Value)}, KT H l m → ∀ x ∈ m, (tupleKind (mixKind P w)).is h x.1 x.2.1 := by
    intro l m q
    induction q with
    | nil => intro x hx; exact nomatch hx
    | @cons p q ps qs hq t ih =>
      intro x hx
      rcases List.mem_cons.mp hx with e | hx
      · subst e
        exact key_of ok (by rw [← hq.1]; exact hq.2.1)
      · exact ih x hx
  exact all r x hx
theorem dt_of {kvs : List (List Key × V)} (ok : HOk P w H h) (e : H a = some (.dT kvs)) : kvs.length ≤ sizeLine ∧ (a == sysModules) = false ∧
    ∃ xs, KT H kvs xs ∧ h.DictOfH (tupleKind (mixKind P w)) a xs := dt_rd ok (.inl e)
end

noncomputable def DGet (H : Hp) (a : Addr) (y : V) (r : Option V) : Prop :=
  (∃ kvs k, Rd H a (.dK kvs) ∧ y = kV k ∧ r = valV kvs k) ∨ ∃ kvs k b, Rd H a (.dT kvs) ∧ y = .ref b ∧ H b = some (.tup (k.map kV)) ∧ r = valV kvs k
noncomputable def DPut (H : Hp) (a : Addr) (y v : V) (H' : Hp) : Prop :=
  (∃ kvs k, H a = some (.dK kvs) ∧ y = kV k ∧ kvs.length < sizeLine ∧ H' = upd H a (.dK (putK kvs k v))) ∨
  ∃ kvs k b, H a = some (.dT kvs) ∧ y = .ref b ∧ H b = some (.tup (k.map kV)) ∧ kvs.length < sizeLine ∧ H' = upd H a (.dT (putK kvs k v))
theorem DGet.t {H : Hp} {a b : Addr} {kvs : List (List Key × V)} {k : List Key} (e : H a = some (.dT kvs)) (eb : H b = some (.tup (k.map kV))) : DGet H a (.ref b) (valV kvs k) := .inr ⟨kvs, k, b, .inl e, rfl, eb, rfl⟩
theorem DPut.t {H : Hp} {a b : Addr} {kvs : List (List Key × V)} {k : List Key} {v : V} (e : H a = some (.dT kvs)) (eb : H b = some (.tup (k.map kV))) (hl : kvs.length < sizeLine) :
    DPut H a (.ref b) v (upd H a (.dT (putK kvs k v))) := .inr ⟨kvs, k, b, e, rfl, eb, hl, rfl⟩


section
variable {X : Cx} {pins : List (Addr × Obj)} {σ : St} {H : Hp} {s : Shared} {a : Addr} {y v : V} {u r : Value} {o : Option V} {A : Around} {E : Value → Shared → Prop}

theorem Inv.big (I : Inv X pins σ H s) : sysModules < s.heap.objs.size := by
  have h : mainGlobals < s.heap.objs.size := (I.mod.glob.keeps I.bk).lt
  exact Nat.lt_trans (by decide) h

theorem d_getItem {Q : Value → Shared → Prop} (hu : A.units + 1 < cLine) (I : Inv X pins σ H s) (g : DGet H a y (some v)) (ry : RelV y u) (h : ∀ w' s', Inv X pins σ H s' → RelV v w' → Q w' s') :
    wpAny (model X.prog X.w) A (getItem (.ref a) u) Q E s := by
  rcases g with ⟨kvs, k, e, ey, l⟩ | ⟨kvs, k, b, e, ey, eb, l⟩
  · subst ey
    obtain ⟨z, hd, vs, rel, dd⟩ := dk_rd I.hok e
    obtain ⟨w', hw, rw'⟩ := RelO.some_of (v := v) (o := valueAt vs k) (by rw [l]; exact rel.val k)
    exact wpAny_getItem_of (kV_is ry) dd.mapOf hw (h w' _ (I.tok _) rw')
  · subst ey
    cases (show u = Value.ref b from ry)
    obtain ⟨z, hd, xs, rel, dd⟩ := dt_rd I.hok e
    obtain ⟨w', hw, rw'⟩ := RelO.some_of (v := v) (o := (atKey xs k).map (·.2)) (by rw [l]; exact rel.val k)
    obtain ⟨p, hp, hp2⟩ := Option.map_eq_some_iff.mp hw
    refine wpAny_getItem_heap (tupleKind_room_in1 hu) (key_of I.hok eb) dd hp ?_
    rw [hp2]
    exact h w' _ (I.tok _) rw'
theorem d_in {Q : Value → Shared → Prop} (hu : A.units + 1 < cLine) (I : Inv X pins σ H s) (g : DGet H a y o) (ry : RelV y u) (h : ∀ s', Inv X pins σ H s' → Q (.bool o.isSome) s') :
    wpAny (model X.prog X.w) A (compareOp .In u (.ref a)) Q E s := by
  rcases g with ⟨kvs, k, e, ey, l⟩ | ⟨kvs, k, b, e, ey, eb, l⟩
  · subst ey
    obtain ⟨z, hd, vs, rel, dd⟩ := dk_rd I.hok e
    refine wpAny_in_of (kV_is ry) hd dd.mapOf ?_
    rw [← (rel.val k).isSome_eq, ← l]
    exact h _ (I.tok _)
  · subst ey
    cases (show u = Value.ref b from ry)
    obtain ⟨z, hd, xs, rel, dd⟩ := dt_rd I.hok e
    refine wpAny_in_heap (tupleKind_room_in1 hu) (key_of I.hok eb) hd dd ?_
    have q := (rel.val k).isSome_eq
    rw [Option.isSome_map] at q
    rw [← q, ← l]
    exact h _ (I.tok _)
theorem d_notIn {Q : Value → Shared → Prop} (hu : A.units + 1 < cLine) (I : Inv X pins σ H s) (g : DGet H a y o) (ry : RelV y u) (h : ∀ s', Inv X pins σ H s' → Q (.bool (!o.isSome)) s') :
    wpAny (model X.prog X.w) A (compareOp .NotIn u (.ref a)) Q E s := by
  rcases g with ⟨kvs, k, e, ey, l⟩ | ⟨kvs, k, b, e, ey, eb, l⟩
  · subst ey
    obtain ⟨z, hd, vs, rel, dd⟩ := dk_rd I.hok e
    refine wpAny_notIn_of (kV_is ry) hd dd.mapOf ?_
    rw [← (rel.val k).isSome_eq, ← l]
    exact h _ (I.tok _)
  · subst ey
    cases (show u = Value.ref b from ry)
    obtain ⟨z, hd, xs, rel, dd⟩ := dt_rd I.hok e
    refine wpAny_notIn_heap (tupleKind_room_in1 hu) (key_of I.hok eb) hd dd ?_
    have q := (rel.val k).isSome_eq
    rw [Option.isSome_map] at q
    rw [← q, ← l]
    exact h _ (I.tok _)
theorem d_write {h' : Heap} {t' : Nat} {ob : HO} (I : Inv X pins σ H s) (mu : Mut (H a)) (hs : Heap.SameBut a s.heap h') (he : ∃ q, h'.get? a = some q) (new : ObjOk X.prog X.w (upd H a ob) h' a ob) :
    Inv X pins σ (upd H a ob) { s with heap := h', toks := t' } :=
  I.write (x := a) (e := a) mu (.inl rfl) (fun b q hb z => (hs.2 b hb).trans z) he new
theorem dk_new {P : Program} {w : World} {H' : Hp} {h' : Heap} {kvs : List (Key × V)} {vs : List (Key × Value)} (z : kvs.length ≤ sizeLine) (hd : (a == sysModules) = false) (rel : KV kvs vs) (dd : h'.DictOf (mixKind P w) a vs) :
    ObjOk P w H' h' a (.dK kvs) := ⟨z, hd, vs, rel, dd⟩
theorem d_setItem {H' : Hp} {Q : Unit → Shared → Prop} (hu : A.units + 1 < cLine) (I : Inv X pins σ H s) (g : DPut H a y v H') (ry : RelV y u) (rv : RelV v r) (h : ∀ s', Inv X pins σ H' s' → Q () s') :
    wpAny (model X.prog X.w) A (setItem (.ref a) u r) Q E s := by
  rcases g with ⟨kvs, k, e, ey, l, eH⟩ | ⟨kvs, k, b, e, ey, eb, l, eH⟩
  · subst ey eH
    obtain ⟨z, hd, vs, rel, dd⟩ := dk_of I.hok e
    have hz : vs.length ≤ sizeLine := by rw [← rel.length]; exact z
    have hl : (putK kvs k v).length ≤ sizeLine := by have := length_putK kvs k v; omega
    refine wpAny_setItem_pairs (hsz := hz) (kV_is ry) dd fun h' dd' hs => h _ ?_
    have he : ∃ q, h'.get? a = some q := let ⟨q, _, _, hq, _⟩ := dd'; ⟨q, hq⟩
    exact d_write I (by rw [e]; exact True.intro) hs he (dk_new hl hd (rel.put k rv) dd')
  · subst ey eH
    cases (show u = Value.ref b from ry)
    obtain ⟨z, hd, xs, rel, dd⟩ := dt_of I.hok e
    have hz : xs.length ≤ sizeLine := by rw [← Paired.length rel]; exact z
    have hl : (putK kvs k v).length ≤ sizeLine := by have := length_putK kvs k v; omega
    refine wpAny_setItem_heap (hsz := hz) (tupleKind_room_in1 hu) (key_of I.hok eb) dd fun h' dd' hs => h _ ?_
    obtain ⟨q, es, ep, hq, h2, h3, h4, _, h5⟩ := dd'
    refine d_write I (by rw [e]; exact True.intro) hs ⟨q, hq⟩ ⟨hl, hd, _, (rel.put k eb rv).keeps fun c ys ec => ?_, q, es, ep, hq, h2, h3, h4, h5⟩
    rw [upd_ne (ne_of ec e (fun z => nomatch z))]
    exact ec
end

section
variable {X : Cx} {pins : List (Addr × Obj)} {σ : St} {H : Hp} {s : Shared} {a : Addr} {kvs : List (Key × V)} {k : Key} {u : Value} {A : Around} {E : Value → Shared → Prop}
end


noncomputable def NoSl (i : Expr) : Prop := ∀ ov iv, subscripted i false ov iv = operate [ov, iv] (getItem ov iv)
theorem subD_of {prog : Program} {w : World} {A : Around} {E : Value → Shared → Prop} {s : Shared} {env : Env} {value slice : Expr} {pos : Pos} {T id : String} {Q : Value → Shared → Prop}
    (hl : typeLookup (.type T) "__getitem__" = pure (some (.builtin id))) (hs : NoSl slice)
    (h : wpAny (model prog w) A (eval value env) (fun o s₁ => wpAny (model prog w) A (eval slice env) (fun i s₂ => s₂.TypeIs o T ∧ wpAny (model prog w) A (getItem o i) Q E s₂) E s₁) E s) :
    wpAny (model prog w) A (eval (.Subscript value slice pos) env) Q E s := by
  refine Subscript_ (wpAny_mono h (fun o s₁ h₁ => wpAny_mono h₁ (fun i s₂ h₂ => ?_) fun _ _ x => x) fun _ _ x => x)
  obtain ⟨hT, h₂⟩ := h₂
  unfold subscriptTail
  refine wpAny_bind ?_
  rw [getitemInPython_of_ne hT.not_modules]
  refine wpAny_bind (wpAny_specialOf hT hl ?_)
  have fin : wpAny (model prog w) A (subscripted slice false o i) (fun r s₃ => wpAny (model prog w) A (letTemporaryGo value o r >>= fun _ => pure r) Q E s₃) E s₂ := by
    rw [hs o i]
    exact wpAny_operating (wpAny_mono h₂ (fun r s₃ h₃ => wpAny_bind (wpAny_letTemporaryGo (wpAny_pure h₃))) fun _ _ x => x)
  first
    | exact wpAny_pure (wpAny_bind fin)
    | exact wpAny_bind (wpAny_pure (wpAny_bind fin))
    | exact wpAny_bind fin

theorem dict_typeIs {X : Cx} {pins : List (Addr × Obj)} {σ : St} {H : Hp} {s : Shared} {a : Addr} {y : V} {o : Option V} (I : Inv X pins σ H s) (g : DGet H a y o) : s.TypeIs (.ref a) "dict" := by
  rcases g with ⟨kvs, k, e, _, _⟩ | ⟨kvs, k, b, e, _, _, _⟩
  · obtain ⟨_, _, vs, _, dd⟩ := dk_rd I.hok e
    exact dd.typeIs
  · obtain ⟨_, _, xs, _, dd⟩ := dt_rd I.hok e
    exact dd.typeIs
noncomputable def tDGet (td ty : TE) : TE := fun σ H Q => td σ H fun x H1 => ty σ H1 fun y H2 => ∃ a v, x = .ref a ∧ DGet H2 a y (some v) ∧ Q v H2
section
variable {X : Cx} {o i e value : Expr} {pos pos' tpos : Pos} {td ty tv : TE}
theorem pe_dget (hu : X.A.units + 1 < cLine) (ho : PE X o td) (hi : PE X i ty) (hs : NoSl i) : PE X (.Subscript o i pos) (tDGet td ty) := by
  intro pins s σ H Q I h
  refine subD_of PySem.F.slot_dict_getitem.lookup hs (thn (ho pins s σ H _ I h) fun u s1 ⟨x, H1, I1, rx, q1⟩ => thn (hi pins s1 σ H1 _ I1 q1) fun iv s2 qq0 => ?_)
  obtain ⟨y, H2, I2, ry, a, v, ex, g, q2⟩ := qq0
  subst ex
  obtain rfl : u = Value.ref a := rx
  exact ⟨dict_typeIs I2 g, d_getItem hu I2 g ry fun w' s3 I3 rw' => ⟨v, H2, I3, rw', q2⟩⟩
end


theorem dt_empty {P : Program} {w : World} {H : Hp} (h : Heap) (hb : sysModules < h.objs.size) : ObjOk P w H (h.push { cls := .type "dict", data := .dict #[] }) h.objs.size (.dT []) :=
  ⟨Nat.zero_le _, beq_eq_false_iff_ne.mpr (Ne.symm (Nat.ne_of_lt hb)), [], .nil, _, #[], 0, Heap.get?_push_size _ rfl, ⟨rfl, rfl, rfl⟩, rfl, rfl, List.nodup_nil⟩
noncomputable def tDNewT : TE := fun _ H Q => ∀ p, H p = none → Q (.ref p) (upd H p (.dT []))
section
variable {X : Cx} {pos : Pos}
theorem pe_dnewT : PE X (.Dict [] [] pos) tDNewT := fun pins s σ H Q I h =>
  wpAny_Dict_empty ⟨.ref s.heap.objs.size, _, I.laid (a := s.heap.objs.size) (o := .dT []) (t' := s.toks) (fun _ _ q => Heap.get?_push_of_some _ q) (Nat.le_refl _) (dt_empty s.heap I.big), rfl, h _ (I.hok.fresh (Nat.le_refl _))⟩
end

noncomputable def tPairs : List (TE × TE) → St → Hp → (List (V × V) → Hp → Prop) → Prop
  | [], _, H, Q => Q [] H
  | (tk, tv) :: r, σ, H, Q => tk σ H fun x H1 => tv σ H1 fun y H2 => tPairs r σ H2 fun ps H3 => Q ((x, y) :: ps) H3
noncomputable abbrev VV : List (V × V) → List (Value × Value) → Prop := Paired fun p q => RelV p.1 q.1 ∧ RelV p.2 q.2
noncomputable def PPs (X : Cx) (pos : Pos) (keys : List (Option Expr)) (values : List Expr) (trs : List (TE × TE)) : Prop :=
  ∀ (pins : List (Addr × Obj)) (s : Shared) (σ : St) (H : Hp) (Q : List (V × V) → Hp → Prop), Inv X pins σ H s → tPairs trs σ H Q →
    wpAny (model X.prog X.w) X.A (evalPairs (pairTrees keys values X.env pos)) (fun vs s' => ∃ ps H', Inv X pins σ H' s' ∧ VV ps vs ∧ Q ps H') X.xe s
structure M1 (X : Cx) (o : Expr) (m : Str) (apos : Pos) (e : Expr) (cpos : Pos) : Prop where
  base : attributeBase o m X.env (eval o X.env) = eval o X.env
  few : ((backTo cpos (starEach [e] X.env)).all (fun x => !x.1) && (backToKw cpos (keywordEach [] X.env)).all (fun x => x.1.isSome)
    && decide (([e] : List Expr).length + ([] : List Keyword).length + (if ([] : List Keyword).isEmpty then 0 else 1) < 30)) = true
  line : (apos.endLine == cpos.line) = true
  trees : backTo cpos (starEach [e] X.env) = [(false, eval e X.env)]
structure M2 (X : Cx) (o : Expr) (m : Str) (apos : Pos) (e f : Expr) (cpos : Pos) : Prop where
  base : attributeBase o m X.env (eval o X.env) = eval o X.env
  few : ((backTo cpos (starEach [e, f] X.env)).all (fun x => !x.1) && (backToKw cpos (keywordEach [] X.env)).all (fun x => x.1.isSome)
    && decide (([e, f] : List Expr).length + ([] : List Keyword).length + (if ([] : List Keyword).isEmpty then 0 else 1) < 30)) = true
  line : (apos.endLine == cpos.line) = true
  trees : backTo cpos (starEach [e, f] X.env) = [(false, eval e X.env), (false, eval f X.env)]

noncomputable def IsD (H : Hp) (a : Addr) : Prop := (∃ kvs, Rd H a (.dK kvs)) ∨ ∃ kvs, Rd H a (.dT kvs)
theorem isD_at {X : Cx} {pins : List (Addr × Obj)} {σ : St} {H : Hp} {s : Shared} {a : Addr} (I : Inv X pins σ H s) (d : IsD H a) :
    s.TypeIs (.ref a) "dict" ∧ (∀ b, Value.ref a = .ref b → ∃ ob, s.heap.get? b = some ob ∧ ob.dict = none) ∧ (a == sysModules) = false := by
  rcases d with ⟨kvs, e⟩ | ⟨kvs, e⟩
  · obtain ⟨_, hd, vs, _, dd⟩ := dk_rd I.hok e
    refine ⟨dd.typeIs, fun b q => ?_, hd⟩
    cases q
    obtain ⟨ob, _, _, h1, h2, _⟩ := dd
    exact ⟨ob, h1, h2.2.1⟩
  · obtain ⟨_, hd, xs, _, dd⟩ := dt_rd I.hok e
    refine ⟨dd.typeIs, fun b q => ?_, hd⟩
    cases q
    obtain ⟨ob, _, _, h1, h2, _⟩ := dd
    exact ⟨ob, h1, h2.2.1⟩

section
variable {X : Cx} {pins : List (Addr × Obj)} {σ : St} {H : Hp} {s : Shared} {a : Addr} {y d : V} {u r : Value} {o : Option V} {A : Around} {E : Value → Shared → Prop}
theorem d_get1 {Q : Value → Shared → Prop} (hu : A.units + 1 < cLine) (I : Inv X pins σ H s) (g : DGet H a y o) (ry : RelV y u) (h : ∀ w' s', Inv X pins σ H s' → RelV (o.getD .non) w' → Q w' s') :
    wpAny (model X.prog X.w) A (call (.builtin "dict.get") [.ref a, u]) Q E s := by
  rcases g with ⟨kvs, k, e, ey, l⟩ | ⟨kvs, k, b, e, ey, eb, l⟩
  · subst ey
    obtain ⟨z, hd, vs, rel, dd⟩ := dk_rd I.hok e
    refine call_meetsIn PySem.F.slot_dict_get dd.typeIs PySem.F.entry_dict_get (PySem.F.args_dict_get_2 _ _) (meets_dict_get (mixKind X.prog X.w) a (kV_is ry) hd) ⟨_, dd.mapOf, h _ _ (I.tok _) ?_⟩
    rw [l]
    exact (rel.val k).getD rfl
  · subst ey
    cases (show u = Value.ref b from ry)
    obtain ⟨z, hd, xs, rel, dd⟩ := dt_rd I.hok e
    refine call_meetsIn PySem.F.slot_dict_get dd.typeIs PySem.F.entry_dict_get (PySem.F.args_dict_get_2 _ _) (meetsH_dict_get (tupleKind (mixKind X.prog X.w)) a b hd) ⟨tupleKind_room_in1 hu, k, xs, key_of I.hok eb, dd, h _ _ (I.tok _) ?_⟩
    rw [l]
    exact (rel.val k).getD rfl
end

noncomputable def tDGet1 (td ty : TE) : TE := fun σ H Q => td σ H fun x H1 => ∃ a, x = .ref a ∧ IsD H1 a ∧ ty σ H1 fun y H2 => ∃ o, DGet H2 a y o ∧ Q (o.getD .non) H2
section
variable {X : Cx} {o e f : Expr} {apos cpos : Pos} {td ty tx : TE}
theorem pe_dget1 (hu : X.A.units + 1 < cLine) (ho : PE X o td) (he : PE X e ty) (m : M1 X o "get" apos e cpos) : PE X (.Call (.Attribute o "get" apos) [e] [] cpos) (tDGet1 td ty) := by
  intro pins s σ H Q I h
  refine wpAny_Call_method m.base m.few m.line PySem.F.plainAttrs_dict PySem.F.slot_dict_get PySem.F.type_dict_get (thn (ho pins s σ H _ I h) fun u s1 qq0 => ?_)
  obtain ⟨x, H1, I1, rx, a, ex, d, q1⟩ := qq0
  subst ex
  obtain rfl : u = Value.ref a := rx
  obtain ⟨t1, t2, _⟩ := isD_at I1 d
  refine ⟨t1, t2, ?_⟩
  rw [m.trees]
  refine Calls.callWith_builtin rfl (Calls.evalArgs_plain (Calls.spliced_cons (thn (he pins s1 σ H1 _ I1 q1) fun iv s2 ⟨y, H2, I2, ry, ov, g, q2⟩ => Calls.spliced_nil ?_)))
  exact d_get1 hu I2 g ry fun w' s3 I3 rw' => ⟨_, H2, I3, rw', q2⟩
end

section
variable {X : Cx} {pins : List (Addr × Obj)} {σ : St} {H : Hp} {s : Shared} {a : Addr} {kvs : List (Key × V)} {A : Around} {E : Value → Shared → Prop}
end


section
variable {X : Cx} {pins : List (Addr × Obj)} {σ : St} {H : Hp} {s : Shared} {a : Addr} {y : V} {u : Value} {A : Around} {E : Value → Shared → Prop}
end
end L2

namespace L2
open PySem PySem.Spec PyProof.Rows
section
variable {X : Cx}
end
section
variable {κ : Type} [DecidableEq κ]
theorem valV_in {kvs : List (κ × V)} {k : κ} {v : V} (h : valV kvs k = some v) : k ∈ kvs.map (·.1) := by
  have q : (kvs.any fun kv => decide (kv.1 = k)) = true := by
    rw [valV_any, h]
    all_goals rfl
  obtain ⟨p, hp, e⟩ := List.any_eq_true.mp q
  exact List.mem_map.mpr ⟨p, hp, of_decide_eq_true e⟩
theorem nd_snoc : ∀ {l : List κ} {k : κ}, l.Nodup → ¬ k ∈ l → (l ++ [k]).Nodup
  | [], k, _, _ => by simp
  | a :: r, k, h, hk => by
    obtain ⟨h1, h2⟩ := List.nodup_cons.mp h
    show (a :: (r ++ [k])).Nodup
    refine List.nodup_cons.mpr ⟨fun m => ?_, nd_snoc h2 fun m => hk (List.mem_cons.mpr (Or.inr m))⟩
    rcases List.mem_append.mp m with q | q
    · exact h1 q
    · exact hk (List.mem_cons.mpr (Or.inl (List.mem_singleton.mp q).symm))
end
end L2

namespace L2
open PySem PySem.Spec PyProof.Rows

noncomputable def Its (x : Str) : It := ⟨fun i _ => i < x.cps.size, fun i H v H' => H' = H ∧ ∃ c, x.cps[i]? = some c ∧ v = .str ⟨#[c]⟩, fun i _ => i = x.cps.size⟩
theorem turn_str {P : Program} {w : World} {K : PySem.W.Frag} {tg : Expr} (it : Addr) (x : Str) (t : Tok) (ty : String)
    (hty : ["enumerate", "zip", "dict_itemiterator", "dict_reverseitemiterator", "odict_iterator", "itertools.zip_longest", "itertools.pairwise"].contains ty = false)
    (W : ∀ A : Around, A.handled = none → Walks P w A it [it] [it] x.cps.size (SignAt x) fun i h => h.IsStrIter it ty x t i)
    (hself : ∀ (A : Around) (i : Nat) (s : Shared) (Q : Value → Shared → Prop) (E : Value → Shared → Prop), s.heap.IsStrIter it ty x t i → Q (.ref it) s → wpAny (model P w) A (pyIter (.ref it)) Q E s) : Turn P w K tg (Its x) [it] it (fun i h => h.IsStrIter it ty x t i) where
  mem := by simp
  obj := fun i h st b hb => by
    have e : b = it := by simpa using hb
    subst e
    obtain ⟨o, e, c, d⟩ := st
    exact ⟨o, e, fun v z => by rw [d] at z; cases z⟩
  keep := fun i h h' st k => by
    obtain ⟨o, e, r⟩ := st
    exact ⟨o, k it (by simp) o e, r⟩
  item := by
    intro X hP hw hK hc i pins s σ H E I hf st hg
    subst hP hw hK
    obtain ⟨f0, f1, f2, f3, f4, f5⟩ := hf it (by simp)
    refine (W X.A (I.ok.hd hc)).item i s _ _ hg st fun v h' tk hv st' kk => ?_
    obtain ⟨c, u, e1, rfl⟩ := hv
    have I1 : Inv X pins σ H { s with heap := h', toks := tk } := I.turned (fun b o hb e => kk b o (by simpa using hb) e) f0 f1 f3 f4 f5
    obtain ⟨o, e, cl, d⟩ := id st'
    exact ⟨_, rfl, go_of (s := { s with heap := h', toks := tk }) e cl d hty ⟨.str ⟨#[c]⟩, H, I1, ⟨u, rfl⟩, ⟨rfl, c, e1, rfl⟩, st', fun b hb => (hf b hb).1⟩⟩
  done := by
    intro X hP hw hK hc i pins s σ H E I hf st hg
    subst hP hw hK
    obtain ⟨f0, f1, f2, f3, f4, f5⟩ := hf it (by simp)
    have hg : i = x.cps.size := hg
    subst hg
    exact (W X.A (I.ok.hd hc)).done s _ _ st fun h' tk kk => ⟨rfl, I.turned (fun b o hb e => kk b o (by simpa using hb) e) f0 f1 f3 f4 f5⟩
  self := hself
section
variable {X : Cx}
theorem all_range {bs : List Bool} : (List.range bs.length).all (fun i => bs.getD i false) = bs.all id := by
  rw [Bool.eq_iff_iff]
  simp only [List.all_eq_true, List.mem_range]
  constructor
  · intro h b hb
    obtain ⟨i, hi, e⟩ := List.mem_iff_getElem.mp hb
    have := h i hi
    rw [List.getD_eq_getElem?_getD, List.getElem?_eq_getElem hi] at this
    simp only [Option.getD_some] at this
    rw [← e]; exact this
  · intro h i hi
    rw [List.getD_eq_getElem?_getD, List.getElem?_eq_getElem hi]
    exact h _ (List.getElem_mem hi)
theorem vals_bl_get : ∀ {bs : List Bool} {us : List Value} {i : Nat} {v : Value}, Vals (bs.map V.bl) us → us[i]? = some v → v = .bool (bs.getD i false)
  | [], _, i, v, .nil, e => by simp at e
  | b :: bs, _, 0, v, .cons r t, e => by simp at e; subst e; exact r
  | b :: bs, _, i + 1, v, .cons r t, e => by
    simp at e
    have := vals_bl_get (bs := bs) t e
    simpa using this
noncomputable def rAll : List V → Hp → VK → Prop := fun xs H Q => ∃ (p : Addr) (bs : List Bool), xs = [.ref p] ∧ H p = some (.lst (bs.map V.bl)) ∧ Q (.bl (bs.all id)) H
theorem call_all (hc : X.calm = true) : CallR X (.builtin "all") rAll := by
  intro pins s σ H xs us Q I r h
  obtain ⟨p, bs, rfl, hp, q⟩ := h
  obtain ⟨u, rfl, ru⟩ := vals1 r
  cases ru
  obtain ⟨hz, its, n, rv, e⟩ := I.hok p _ hp
  refine call_all_walk (wpAny_pyIter_list (items := its.toArray) ⟨_, e, rfl, n, rfl⟩ ?_)
  refine ⟨s.heap.objs.size, _, _, _, _, _, fun i => bs.getD i false, rfl, Walks.list (A := X.A.in1) (I.ok.hd hc) s.heap.objs.size p (Nat.ne_of_lt (Heap.lt_size e)) its.toArray, ⟨⟨_, Heap.get?_push_size _ rfl, rfl, rfl⟩, ⟨_, Heap.get?_push_of_some _ e, rfl, n, rfl⟩⟩, ?_, fun h' tk hk => ?_⟩
  · intro i v s' Q' E' hv hq
    have := vals_bl_get rv (by simpa using hv)
    subst this
    exact wpAny_truthy_bool hq
  · have hl : its.toArray.size = bs.length := by have := rv.length; simpa using this.symm
    rw [hl, all_range]
    refine ⟨.bl _, H, ?_, rfl, q⟩
    exact I.kept fun b o e => hk b o (by simp; exact Nat.ne_of_lt (Heap.lt_size e)) (Heap.get?_push_of_some _ e)
noncomputable def rSlS : V → Option Int → Option Int → Hp → VK → Prop := fun v lo hi H Q => ∃ x, v = .str x ∧ x.length ≤ sizeLine ∧ Q (.str (Txt.slice x lo hi)) H
theorem sl_str : SlR X rSlS := by
  intro pins s σ H x v vl vu lo hi sl Q I rx hs pl pu h
  obtain ⟨z, rfl, hz, q⟩ := h
  obtain ⟨t, rfl⟩ := rx
  refine ⟨"str", _, F.slot_str_getitem.lookup, typeIs_str _ _ _, ?_⟩
  have fin : ∀ (t' k : Nat), EP X pins σ Q (.str (Txt.slice z lo hi) t') { s with toks := k } := fun t' k => ⟨.str _, H, I.tok _, ⟨_, rfl⟩, q⟩
  have sz := Nat.le_trans (Txt.slice_le z lo hi) hz
  obtain ⟨o, ho, hc, hd⟩ := hs
  cases pl with
  | none =>
    cases pu with
    | none => exact wpAny_getItem_str_slice (l := none) (u := none) (st := none) ⟨o, ho, hc, hd⟩ rfl (post_val_or_str ⟨sz, fin⟩)
    | int j tj => exact wpAny_getItem_str_slice (l := none) (u := some (j, tj)) (st := none) ⟨o, ho, hc, hd⟩ rfl (post_val_or_str ⟨sz, fin⟩)
  | int i ti =>
    cases pu with
    | none => exact wpAny_getItem_str_slice (l := some (i, ti)) (u := none) (st := none) ⟨o, ho, hc, hd⟩ rfl (post_val_or_str ⟨sz, fin⟩)
    | int j tj => exact wpAny_getItem_str_slice (l := some (i, ti)) (u := some (j, tj)) (st := none) ⟨o, ho, hc, hd⟩ rfl (post_val_or_str ⟨sz, fin⟩)
noncomputable def rMulS : R2 := fun x y H Q => ∃ i n, x = .str i ∧ y = .int n ∧ MulOk i n ∧ Q (.str (Txt.mul i n)) H
theorem op_mul_str : OpR X (binaryOp .Mult) rMulS := by
  intro pins s σ H x y v u Q I rx ry h
  obtain ⟨i, n, rfl, rfl, hk, q⟩ := h
  obtain ⟨t, rfl⟩ := rx
  obtain ⟨t', rfl⟩ := ry
  exact SB.mul hk fun t' k => ⟨.str _, H, I.tok _, ⟨_, rfl⟩, q⟩
noncomputable def sgn (x : Str) : List V := x.cps.toList.map fun c => V.str ⟨#[c]⟩
theorem items_sgn {x : Str} {acc : Array Value} (h : ItemsOf (SignAt x) acc x.cps.size) : Vals (sgn x) acc.toList := by
  obtain ⟨h1, h2⟩ := h
  have key : ∀ (l : List Nat) (a : List Value), l.length = a.length → (∀ (j : Nat) (v : Value), a[j]? = some v → ∃ (c : Nat) (u : Tok), l[j]? = some c ∧ v = Value.str ⟨#[c]⟩ u) → Vals (l.map fun c => V.str ⟨#[c]⟩) a := by
    intro l
    induction l with
    | nil => intro a hl _; cases a with
      | nil => exact .nil
      | cons _ _ => simp at hl
    | cons c l ih =>
      intro a hl hh
      cases a with
      | nil => simp at hl
      | cons v a =>
        obtain ⟨c', u, e1, e2⟩ := hh 0 v (by simp)
        simp at e1; subst e1
        refine .cons ⟨u, e2⟩ (ih a (by simpa using hl) fun j v' e => ?_)
        obtain ⟨c', u, e1, e2⟩ := hh (j + 1) v' (by simpa using e)
        exact ⟨c', u, by simpa using e1, e2⟩
  refine key x.cps.toList acc.toList (by simp [h1]) fun j v e => ?_
  obtain ⟨c, u, e1, e2⟩ := h2 j v (by simpa using e)
  exact ⟨c, u, by simpa using e1, e2⟩
theorem call_list_S (hc : X.calm = true) : CallR X (.type "list") (fun xs H Q => ∃ x, xs = [.str x] ∧ x.cps.size ≤ sizeLine ∧ ∀ p, H p = none → Q (.ref p) (upd H p (.lst (sgn x)))) := by
  intro pins s σ H xs us Q I r h
  obtain ⟨x, rfl, hz, q⟩ := h
  obtain ⟨u, rfl, t, rfl⟩ := vals1 r
  refine call_list_str (I.ok.hd hc) x t (hn := hz) fun h' tk acc' c' hk hS hacc => ?_
  refine ⟨.ref s.heap.objs.size, _, I.laid (o := .lst (sgn x)) hk (Nat.le_refl _) ⟨by simp [sgn]; exact hz, acc'.toList, c', items_sgn hacc, by simpa using hS⟩, rfl, q _ I.fresh⟩
noncomputable def rIsi (K : PySem.W.Frag) : List V → Hp → VK → Prop := fun xs H Q => ∃ x T t b, xs = [x, .ty T] ∧ TyOf K H x t ∧ PySem.W.kitOne K t (.type T) = some b ∧ Q (.bl b) H
theorem call_isi : CallR X (.builtin "isinstance") (rIsi X.K) := by
  intro pins s σ H xs us Q I r h
  obtain ⟨x, T, t, b, rfl, ty, e, q⟩ := h
  obtain ⟨u, v, rfl, ru, rv⟩ := vals2 r
  cases rv
  exact isinst_ok I ru ty e fun tk => ⟨.bl b, H, I.tok _, rfl, q⟩

noncomputable def eqVs : List V → List V → Bool
  | [], [] => true
  | x :: xs, y :: ys => eqV x y && eqVs xs ys
  | _, _ => false
theorem eqVs_range : ∀ (xs ys : List V), xs.length = ys.length → (List.range xs.length).all (fun j => eqV (xs.getD j .non) (ys.getD j .non)) = eqVs xs ys
  | [], [], _ => rfl
  | x :: xs, y :: ys, h => by
    have ih := eqVs_range xs ys (by simpa using h)
    rw [List.length_cons, List.range_succ_eq_map, List.all_cons, List.all_map]
    simp only [eqVs]
    rw [← ih]
    rfl
  | [], y :: ys, h => by simp at h
  | x :: xs, [], h => by simp at h
theorem eqVs_len : ∀ {xs ys : List V}, xs.length ≠ ys.length → eqVs xs ys = false
  | [], [], h => absurd rfl h
  | [], y :: ys, _ => rfl
  | x :: xs, [], _ => rfl
  | x :: xs, y :: ys, h => by simp [eqVs, eqVs_len (xs := xs) (ys := ys) (by simpa using h)]
noncomputable def rEqL (K : PySem.W.Frag) (neg : Bool) : R2 := fun x y H Q => ∃ a b xs ys, x = .ref a ∧ y = .ref b ∧ SqL K H a xs ∧ SqL K H b ys ∧ xs.all flatV = true ∧ ys.all flatV = true ∧ Q (.bl (if neg then !eqVs xs ys else eqVs xs ys)) H
theorem op_eq_lst (hu : X.A.units < cLine) : OpR X (compareOp .Eq) (rEqL X.K false) := by
  intro pins s σ H x y v u Q I rx ry h
  obtain ⟨a, b, xs, ys, rfl, rfl, ha, hb, fx, fy, q⟩ := h
  cases rx
  cases ry
  obtain ⟨its, r1, p1, z1⟩ := I.list ha
  obtain ⟨jts, r2, p2, z2⟩ := I.list hb
  have l1 : its.toArray.size = xs.length := by simpa using r1.length.symm
  have l2 : jts.toArray.size = ys.length := by simpa using r2.length.symm
  by_cases hl : xs.length = ys.length
  · refine SeqAt.eq_listAt (e := fun j => eqV (xs.getD j .non) (ys.getD j .non)) p1.isList p2.isList (by rw [l1, l2]; exact hl) hu (fun j h1 h2 => ?_) ?_
    · have h1' : j < xs.length := by omega
      have h2' : j < ys.length := by omega
      obtain ⟨u1, e1, q1⟩ := r1.get (List.getElem?_eq_getElem h1')
      obtain ⟨u2, e2, q2⟩ := r2.get (List.getElem?_eq_getElem h2')
      have e1' : its.toArray[j] = u1 := by
        have := List.getElem?_eq_some_iff.mp e1
        obtain ⟨_, z⟩ := this
        simpa using z
      have e2' : jts.toArray[j] = u2 := by
        have := List.getElem?_eq_some_iff.mp e2
        obtain ⟨_, z⟩ := this
        simpa using z
      rw [e1', e2']
      have g1 : xs.getD j .non = xs[j] := by rw [List.getD_eq_getElem?_getD, List.getElem?_eq_getElem h1']; rfl
      have g2 : ys.getD j .non = ys[j] := by rw [List.getD_eq_getElem?_getD, List.getElem?_eq_getElem h2']; rfl
      show SeqAt.EqAt X.A.in1 s u1 u2 (eqV (xs.getD j .non) (ys.getD j .non))
      rw [g1, g2]
      exact eqAt_V q1 q2 (List.all_eq_true.mp fx _ (List.getElem_mem h1')) (List.all_eq_true.mp fy _ (List.getElem_mem h2'))
    · rw [l1, eqVs_range xs ys hl]
      exact ⟨.bl _, H, I, rfl, q⟩
  · refine SeqAt.eq_list_lengthsAt p1.isList p2.isList (by rw [l1, l2]; simpa using hl) hu ?_
    rw [if_neg (by simp), eqVs_len hl] at q
    exact ⟨.bl false, H, I, rfl, q⟩
end
end L2

namespace L2
open PySem PySem.Spec PyProof.Rows

noncomputable def Def (K : PySem.W.Frag) (mg : Str → Option Value) (x : Str) (st : Stmt) : Prop := ∃ f fd, Fun K x x st f fd ∧ mg x = some (.ref f)
theorem def_mk {K : PySem.W.Frag} {mg : Str → Option Value} {h : Heap} (X : K.In h) (G : h.Ns mainGlobals mg) {x : Str} {st : Stmt} {f : Addr} {oc : Value} {od an : Option Addr} {osl : Array (Option Value)} {kV doc pm cdv ct : Value}
    (a : PySem.W.nsIn K mainGlobals x = some (some (.ref f)))
    (l : K.lookup f = some ⟨oc, od, .func (PySem.W.fnOf x x (defArgs st) (defBody st) (defScope st) .none kV doc pm an cdv ct), osl⟩)
    (c : PySem.W.codeIn K cdv x = true) (k : PySem.W.keepIn K (.ref f) = true) : Def K mg x st := ⟨f, _, fun_mk l c k, PySem.W.mg_of X G a⟩
noncomputable def Has (P : Program) (w : World) (K : PySem.W.Frag) (mg : Str → Option Value) (base : Heap) (k : Nat) (x : Str) (ps : List Str) (sp : Sp) : Prop :=
  ∃ f fd, mg x = some (.ref f) ∧ PySem.W.keepIn K (.ref f) = true ∧ Binds K fd ps [] ∧ FnOk P w K mg base CX0 k f fd ps sp
section
variable {P : Program} {w : World} {K : PySem.W.Frag} {mg : Str → Option Value} {base : Heap}
theorem has_of {x : Str} {st : Stmt} {N ps : List Str} {k : Nat} {sp : Sp} (D : Def K mg x st) (S : FnScope N ps (defScope st))
    (hb : ∀ (kV doc pm : Value) (an : Option Addr) (cdv ct : Value) (us : List Value), us.length = ps.length → bindArgs (PySem.W.fnOf x x (defArgs st) (defBody st) (defScope st) .none kV doc pm an cdv ct) ⟨us, []⟩ = pure (ps.zip us))
    (len : ∀ vs H Q E, sp vs H Q E → vs.length = ps.length)
    (hbody : ∀ (f : Addr) (cdv : Value) (A : Around) (outer : List Env) (s : Shared) (H : Hp) (vs : List V) (Q : VK) (E : XK), Room k (A.deeper (envOfC x (defScope st) s.heap.objs.size f cdv)) → sp vs H Q E →
      ∃ t, PSs (cxOf CX0 P w K mg base N x (defScope st) f cdv A outer s H E).nox (defBody st) t ∧ t { nx := fun _ H' => Q .non H', rt := Q } (start N vs) H) : Has P w K mg base (k + 1) x ps sp := by
  obtain ⟨f, fd, F, hm⟩ := D
  exact ⟨f, fd, hm, F.kp, F.binds hb, F.ok S len fun cdv A outer s H vs Q E hr h => hbody f cdv A outer s H vs Q E hr h⟩
end
section
variable {X : Cx}
theorem pe_callH {k : Nat} {x : Str} {ps : List Str} {sp : Sp} {p pos : Pos} {e : Expr} {es : List Expr} {t : TA} (F : Has X.prog X.w X.K X.mg X.base k x ps sp) (hr : Room k X.A) (hg : Gl X x)
    (ha : PA X (e :: es) t) (hdb : autoParam ((x == ("__debug__" : Str)) = false) L2.auto2._auto_1) (he : autoParam (starEach (e :: es) X.env = (false, eval e X.env) :: starEach es X.env) L2.auto4._auto_1) (hpl : autoParam ((backTo pos (starEach es X.env)).any (·.1) = false) L2.auto4._auto_1) :
    PE X (.Call (.Name x p) (e :: es) [] pos) (tCall sp [] E0 t) := by
  obtain ⟨f, fd, a, b, c, d⟩ := F
  exact pe_call d hr hg a b c .nil pass0 ha hdb he hpl
noncomputable def rAddA : R2 := fun x y H Q => (∃ i j, x = .int i ∧ y = .int j ∧ Q (.int (i + j)) H) ∨ (∃ i j, x = .str i ∧ y = .str j ∧ i.length + j.length ≤ sizeLine ∧ Q (.str (i ++ j)) H) ∨ rCat x y H Q
theorem op_addA : OpR X (binaryOp .Add) rAddA := op_add.or (op_add_str.or op_cat)
noncomputable def rMulA : R2 := fun x y H Q => (∃ i j, x = .int i ∧ y = .int j ∧ CMul i j ∧ Q (.int (i * j)) H) ∨ rMulS x y H Q ∨ rRep x y H Q
theorem op_mulA : OpR X (binaryOp .Mult) rMulA := op_mul.or (op_mul_str.or op_rep)
theorem glob_int {x : Str} {z : Int} {pos : Pos} (hg : Gl X x) (hm : ∃ t, X.mg x = some (.int z t)) (hd : autoParam ((x == ("__debug__" : Str)) = false) L2.auto2._auto_1) : PE X (.Name x pos) (tC (.int z)) :=
  let ⟨t, e⟩ := hm; pe_glob hg e ⟨t, rfl⟩ hd
theorem pe_ty {x : Str} {T : String} {pos : Pos} (hg : Gl X x) (hm : X.mg x = none) (hv : bootBuiltins x = some (.type T)) (hn : autoParam (x ≠ "__name__") L2.auto2._auto_1) (hd : autoParam ((x == ("__debug__" : Str)) = false) L2.auto2._auto_1) : PE X (.Name x pos) (tC (.ty T)) :=
  pe_bltn hg hm hv rfl hn hd
noncomputable def rInA (K : PySem.W.Frag) : R2 := fun x y H Q => (∃ i j, x = .str i ∧ y = .str j ∧ Q (.bl (!(Builtin.Str.occurrences j i 0 j.length 1).isEmpty)) H) ∨ rIn K false x y H Q
theorem op_inA : OpR X (compareOp .In) (rInA X.K) := op_in_str.or op_in_seq
noncomputable def rNotInA (K : PySem.W.Frag) : R2 := fun x y H Q => (∃ i j, x = .str i ∧ y = .str j ∧ Q (.bl (!(!(Builtin.Str.occurrences j i 0 j.length 1).isEmpty))) H) ∨ rIn K true x y H Q
theorem op_notInA : OpR X (compareOp .NotIn) (rNotInA X.K) := op_notIn_str.or op_notIn_seq
noncomputable def rEqA (K : PySem.W.Frag) : R2 := fun x y H Q => rEq x y H Q ∨ rEqL K false x y H Q
theorem op_eqA (hu : X.A.units < cLine) : OpR X (compareOp .Eq) (rEqA X.K) := op_eq.or (op_eq_lst hu)
noncomputable def rSl (K : PySem.W.Frag) : V → Option Int → Option Int → Hp → VK → Prop := fun x lo hi H Q => rSlL K x lo hi H Q ∨ rSlT K x lo hi H Q ∨ rSlS x lo hi H Q
theorem sl_seq : SlR X (rSl X.K) := sl_list.or (sl_tup.or sl_str)
noncomputable def iSeq (K : PySem.W.Frag) (tl : TE) : TI := fun σ H R => tl σ H fun x H1 => (∃ a, x = .ref a ∧ (∃ xs, SqL K H1 a xs) ∧ R (Itl K a) H1) ∨ (∃ a, x = .ref a ∧ (∃ xs, SqT K H1 a xs) ∧ R (Itt K a) H1) ∨ (∃ z, x = .str z ∧ R (Its z) H1)
theorem pi_seq {tg l : Expr} {tl : TE} (hl : PE X l tl) : PI X tg l (iSeq X.K tl) := by
  intro pins s σ H R I h
  refine thn (hl pins s σ H _ I h) fun v s1 qq0 => ?_
  obtain ⟨x, H1, I1, r1, q1⟩ := qq0
  rcases q1 with ⟨a, rfl, ⟨xs, hq⟩, q⟩ | ⟨a, rfl, ⟨xs, hq⟩, q⟩ | ⟨z, rfl, q⟩
  · cases r1
    obtain ⟨its, rv, p, hz⟩ := I1.list hq
    refine wpAny_pyIter_list p.isList ?_
    refine ⟨s1.heap.objs.size, [s1.heap.objs.size], _, _, H1, rfl, I1.kept (t' := s1.toks) fun b o e => Heap.get?_push_of_some _ e, turn_list a _, ⟨_, Heap.get?_push_size _ rfl, rfl, rfl⟩, fun b hb => ?_, q⟩
    have e : b = s1.heap.objs.size := by simpa using hb
    subst e
    exact I1.fpOk (Nat.le_refl _) (I1.hok.fresh (Nat.le_refl _))
  · cases r1
    obtain ⟨its, rv, p, hz⟩ := I1.tuple hq
    refine wpAny_pyIter_tuple (show s1.heap.IsTuple a its.toArray from p) ?_
    refine ⟨s1.heap.objs.size, [s1.heap.objs.size], _, _, H1, rfl, I1.kept (t' := s1.toks) fun b o e => Heap.get?_push_of_some _ e, turn_tuple a _, ⟨_, Heap.get?_push_size _ rfl, rfl, rfl⟩, fun b hb => ?_, q⟩
    have e : b = s1.heap.objs.size := by simpa using hb
    subst e
    exact I1.fpOk (Nat.le_refl _) (I1.hok.fresh (Nat.le_refl _))
  · obtain ⟨t, rfl⟩ := r1
    have fin : ∀ (ty : String) (T : Turn X.prog X.w X.K tg (Its z) [s1.heap.objs.size] s1.heap.objs.size (fun i h => h.IsStrIter s1.heap.objs.size ty z t i)) (o : Obj), (s1.heap.push o).IsStrIter s1.heap.objs.size ty z t 0 → PIE X pins σ tg R (.ref s1.heap.objs.size) { s1 with heap := s1.heap.push o } :=
      fun ty T o st => ⟨s1.heap.objs.size, [s1.heap.objs.size], _, _, H1, rfl, I1.kept (t' := s1.toks) fun b o e => Heap.get?_push_of_some _ e, T, st, fun b hb => by
        have e : b = s1.heap.objs.size := by simpa using hb
        subst e
        exact I1.fpOk (Nat.le_refl _) (I1.hok.fresh (Nat.le_refl _)), q⟩
    cases ha : z.cps.all (· < 128)
    · exact wpAny_pyIter_wide ha (fin "str_iterator" (turn_str _ z t _ (by decide) (fun A' hA => Walks.strWide hA _ z t) fun A i s Q E st h => wpAny_pyIter_striter_wide st h) _ ⟨_, Heap.get?_push_size _ rfl, rfl, rfl⟩)
    · exact wpAny_pyIter_ascii ha (fin "str_ascii_iterator" (turn_str _ z t _ (by decide) (fun A' hA => Walks.strAscii hA _ z t) fun A i s Q E st h => wpAny_pyIter_striter_ascii st h) _ ⟨_, Heap.get?_push_size _ rfl, rfl, rfl⟩)
end
section
variable {X : Cx} {K : PySem.W.Frag}
theorem ix_seqK (hK : X.K = K) : IxR X (rIx K) := hK ▸ ix_seq
theorem op_inK (hK : X.K = K) : OpR X (compareOp .In) (rInA K) := hK ▸ op_inA
theorem op_notInK (hK : X.K = K) : OpR X (compareOp .NotIn) (rNotInA K) := hK ▸ op_notInA
theorem op_eqK (hK : X.K = K) (hu : X.A.units < cLine) : OpR X (compareOp .Eq) (rEqA K) := hK ▸ op_eqA hu
theorem pi_seqK {tg l : Expr} {tl : TE} (hK : X.K = K) (hl : PE X l tl) : PI X tg l (iSeq K tl) := hK ▸ pi_seq hl
noncomputable def rLen (K : PySem.W.Frag) : List V → Hp → VK → Prop := fun xs H Q => ∃ x n, xs = [x] ∧ LenV K x H n ∧ Q (.int n) H
theorem call_lenK (hK : X.K = K) : CallR X (.builtin "len") (rLen K) := hK ▸ call_len
theorem call_isiK (hK : X.K = K) : CallR X (.builtin "isinstance") (rIsi K) := hK ▸ call_isi
noncomputable def rListA (K : PySem.W.Frag) : List V → Hp → VK → Prop := fun xs H Q => (∃ p ys, xs = [.ref p] ∧ (SqL K H p ys ∨ SqT K H p ys) ∧ ∀ l, H l = none → Q (.ref l) (upd H l (.lst ys))) ∨ (∃ x, xs = [.str x] ∧ x.cps.size ≤ sizeLine ∧ ∀ p, H p = none → Q (.ref p) (upd H p (.lst (sgn x))))
theorem call_listK (hK : X.K = K) (hc : X.calm = true) : CallR X (.type "list") (rListA K) := hK ▸ call_list_of.or (call_list_S hc)
variable {o e : Expr} {es : List Expr} {to : TE} {t : TA} {name : Str} {apos cpos : Pos} {T id : String} {r : V → List V → Hp → VK → Prop}
theorem pe_bm0K (hK : X.K = K) (pa : PlainAttrs T) (slot : Slot T name id) (hty : typeOf (.builtin id) = pure (.type "method_descriptor")) (hm : MtR X id r) (ho : PE X o to)
    (hbase : autoParam (attributeBase o name X.env (eval o X.env) = eval o X.env) L2.auto4._auto_1) (hline : autoParam ((apos.endLine == cpos.line) = true) L2.auto4._auto_1) : PE X (.Call (.Attribute o name apos) [] [] cpos) (tBM0 K T r to) := by
  subst hK; exact pe_bm0 pa slot hty hm ho hbase hline
theorem pe_bmK (hK : X.K = K) (pa : PlainAttrs T) (slot : Slot T name id) (hty : typeOf (.builtin id) = pure (.type "method_descriptor")) (hm : MtR X id r) (ho : PE X o to) (ha : PA X (e :: es) t)
    (hbase : autoParam (attributeBase o name X.env (eval o X.env) = eval o X.env) L2.auto4._auto_1)
    (hfew : ((backTo cpos (starEach (e :: es) X.env)).all (fun x => !x.1) && (backToKw cpos (keywordEach [] X.env)).all (fun x => x.1.isSome)
      && decide ((e :: es).length + ([] : List Keyword).length + (if ([] : List Keyword).isEmpty then 0 else 1) < 30)) = true := by rfl)
    (hline : autoParam ((apos.endLine == cpos.line) = true) L2.auto4._auto_1) (hs : autoParam (starEach (e :: es) X.env = (false, eval e X.env) :: starEach es X.env) L2.auto4._auto_1) (hplain : autoParam ((backTo cpos (starEach es X.env)).any (·.1) = false) L2.auto4._auto_1) :
    PE X (.Call (.Attribute o name apos) (e :: es) [] cpos) (tBM K T r to t) := by
  subst hK; exact pe_bm pa slot hty hm ho ha hbase hfew hline hs hplain
theorem pg_tupK {ts : List Expr} {k : Nat} {gs : TGs} {n : Nat} {pos : Pos} (hK : X.K = K) (hc : X.calm = true) (h : PGs X ts gs)
    (hn : autoParam ((assignEach ts X.env).length = n) L2.auto4._auto_1) (hst : autoParam ((assignEach ts X.env).findIdx? (·.1) = none) L2.auto4._auto_1) : PG X (.Tuple ts k pos) (gTup K n gs) := by
  subst hK; exact pg_tup hc h hn hst
end
section
variable {X : Cx} {sc scope : Scope} {N' : List Str} {C : Addr} {s₀ : Shared} {H₀ : Hp} {ex : List Addr} {x : Str} {pos : Pos}
theorem pvL (i : Nat) (h : sc.names.lookup x = some .local) (hN : autoParam (X.N[i]? = some x) L2.auto4._auto_1) (hsc : autoParam (X.env.scope = sc) L2.auto4._auto_1) (hd : autoParam ((x == ("__debug__" : Str)) = false) L2.auto6._auto_1) (hcd : autoParam ((x == ("__classdict__" : Str)) = false) L2.auto6._auto_1) :
    PE X (.Name x pos) (tVar i) := pe_var hN (.inl (by rw [hsc]; exact h)) hd hcd
theorem pvC (i : Nat) (h : sc.names.lookup x = some .cell) (hN : autoParam (X.N[i]? = some x) L2.auto4._auto_1) (hsc : autoParam (X.env.scope = sc) L2.auto4._auto_1) (hd : autoParam ((x == ("__debug__" : Str)) = false) L2.auto6._auto_1) (hcd : autoParam ((x == ("__classdict__" : Str)) = false) L2.auto6._auto_1) :
    PE X (.Name x pos) (tVar i) := pe_var hN (.inr (.inl (by rw [hsc]; exact h))) hd hcd
theorem pvBL (i : Nat) (h : scope.names.lookup x = some .local) (hN : autoParam (N'[i]? = some x) L2.auto4._auto_1) (hd : autoParam ((x == ("__debug__" : Str)) = false) L2.auto6._auto_1) (hcd : autoParam ((x == ("__classdict__" : Str)) = false) L2.auto6._auto_1) :
    PE (cxC X N' scope C s₀ H₀ ex) (.Name x pos) (tVar i) := pe_var hN (.inl (lookup_relabel_local h)) hd hcd
theorem pvBF (i : Nat) (h : scope.names.lookup x = some .free) (hN : autoParam (N'[i]? = some x) L2.auto4._auto_1) (hd : autoParam ((x == ("__debug__" : Str)) = false) L2.auto6._auto_1) (hcd : autoParam ((x == ("__classdict__" : Str)) = false) L2.auto6._auto_1) :
    PE (cxC X N' scope C s₀ H₀ ex) (.Name x pos) (tVar i) := pe_var hN (by
      rcases relabel_free (env := X.env) h with z | z
      · exact .inr (.inl z)
      · exact .inr (.inr z)) hd hcd
theorem glF (h : sc.names.lookup x = some .globalImplicit) (hsc : autoParam (X.env.scope = sc) L2.auto4._auto_1) : Gl X x := by
  show X.env.scope.names.lookup x = _
  rw [hsc]; exact h
theorem lookup_relabel_glob {env : Env} : ∀ {names : List (Str × NameKind)} {x : Str}, names.lookup x = some .globalImplicit →
    (names.map fun (n, k) => if (k == NameKind.free && env.scope.kind == .function && env.kindOf n == some .cell) then (n, NameKind.cell) else (n, k)).lookup x = some .globalImplicit
  | [], _, h => by simp at h
  | (n, k) :: r, x, h => by
    have ih := @lookup_relabel_glob env r x
    show List.lookup x ((if (k == NameKind.free && env.scope.kind == .function && env.kindOf n == some .cell) = true then (n, NameKind.cell) else (n, k)) :: _) = _
    cases hx : x == n with
    | true =>
      simp only [List.lookup_cons, hx] at h
      cases h
      simp [List.lookup_cons, hx]
    | false =>
      simp only [List.lookup_cons, hx] at h
      by_cases hc : (k == NameKind.free && env.scope.kind == .function && env.kindOf n == some .cell) = true
      · rw [if_pos hc]; simp only [List.lookup_cons, hx]; exact ih h
      · rw [if_neg hc]; simp only [List.lookup_cons, hx]; exact ih h
theorem glB (h : scope.names.lookup x = some .globalImplicit) : Gl (cxC X N' scope C s₀ H₀ ex) x := lookup_relabel_glob h
theorem pgB (i : Nat) (h : scope.names.lookup x = some .local) (hN : N'.Nodup) (hi : autoParam (N'[i]? = some x) L2.auto4._auto_1) : PG (cxC X N' scope C s₀ H₀ ex) (.Name x pos) (gName i) :=
  pg_name hN hi (.inl (lookup_relabel_local h)) (.inr (lookup_relabel_local h))
end
noncomputable def notComp : Expr → Bool
  | .ListComp .. => false | .SetComp .. => false | .DictComp .. => false | _ => true
theorem sw_no {value : Expr} {target : Option Expr} {line : Nat} {env : Env} (h : notComp value = true) : swapsWith value target line env = pure false := by
  cases value <;> first | rfl | cases h
noncomputable def notSlice : Expr → Bool
  | .Slice .. => false | _ => true
theorem pix {b : Expr} (h : notSlice b = true) : PlainIx b := by
  intro o i
  cases b <;> first | rfl | cases h
noncomputable def notSet : Expr → Bool
  | .Set .. => false | _ => true
theorem fs_no {e : Expr} {env : Env} (h : notSet e = true) : ∀ x, foldedSetIterable e env x = pure x := by
  intro x
  cases e <;> first | rfl | cases h
noncomputable def notStar : Expr → Bool
  | .Starred .. => false | _ => true
theorem se_cons {e : Expr} {es : List Expr} {env : Env} (h : notStar e = true) : starEach (e :: es) env = (false, eval e env) :: starEach es env := by
  cases e <;> first | rfl | cases h
theorem se_any {env : Env} {pos : Pos} : ∀ {es : List Expr}, es.all notStar = true → (backTo pos (starEach es env)).any (·.1) = false
  | [], _ => rfl
  | e :: es, h => by
    simp only [List.all_cons, Bool.and_eq_true] at h
    rw [se_cons h.1]
    show (false || (backTo pos (starEach es env)).any (·.1)) = false
    rw [se_any h.2]; rfl
theorem se_all {env : Env} {pos : Pos} : ∀ {es : List Expr}, es.all notStar = true → (backTo pos (starEach es env)).all (fun x => !x.1) = true
  | [], _ => rfl
  | e :: es, h => by
    simp only [List.all_cons, Bool.and_eq_true] at h
    rw [se_cons h.1]
    show (true && (backTo pos (starEach es env)).all (fun x => !x.1)) = true
    rw [se_all h.2]; rfl
section
variable {X : Cx} {K : PySem.W.Frag} {e : Expr} {es : List Expr} {te : TE} {t : TA} {pos p : Pos}
theorem paC (ha : PE X e te) (hr : PA X es t) (h : autoParam (notStar e = true) L2.auto4._auto_1) : PA X (e :: es) (tCons te t) := pa_cons ha hr (se_cons h)
theorem callH {k : Nat} {x : Str} {ps : List Str} {sp : Sp} (F : Has X.prog X.w X.K X.mg X.base k x ps sp) (hr : Room k X.A) (hg : Gl X x) (ha : PA X (e :: es) t) (hdb : (x == ("__debug__" : Str)) = false) (h : autoParam ((e :: es).all notStar = true) L2.auto4._auto_1) :
    PE X (.Call (.Name x p) (e :: es) [] pos) (tCall sp [] E0 t) := by
  simp only [List.all_cons, Bool.and_eq_true] at h
  exact pe_callH F hr hg ha hdb (se_cons h.1) (se_any h.2)
theorem callB {x : Str} {id : String} {r : List V → Hp → VK → Prop} (hc : CallR X (.builtin id) r) (hg : Gl X x) (hm : X.mg x = none) (hv : bootBuiltins x = some (.builtin id)) (ha : PA X (e :: es) t) (hn : x ≠ "__name__") (hdb : (x == ("__debug__" : Str)) = false) (h : autoParam ((e :: es).all notStar = true) L2.auto4._auto_1) :
    PE X (.Call (.Name x p) (e :: es) [] pos) (tCB r t) := by
  simp only [List.all_cons, Bool.and_eq_true] at h
  exact pe_callB hc hg hm hv ha hn hdb (se_cons h.1) (se_any h.2)
theorem callTy {x : Str} {T : String} {r : List V → Hp → VK → Prop} (hc : CallR X (.type T) r) (hg : Gl X x) (hm : X.mg x = none) (hv : bootBuiltins x = some (.type T)) (ha : PA X (e :: es) t) (hn : x ≠ "__name__") (hdb : (x == ("__debug__" : Str)) = false) (h : autoParam ((e :: es).all notStar = true) L2.auto4._auto_1) :
    PE X (.Call (.Name x p) (e :: es) [] pos) (tCB r t) := by
  simp only [List.all_cons, Bool.and_eq_true] at h
  exact pe_callTy hc hg hm hv ha hn hdb (se_cons h.1) (se_any h.2)
noncomputable def notCall : Expr → Bool
  | .Call .. => false | _ => true
theorem ab_no {o : Expr} {f : Str} {env : Env} {w : Sem Value} (h : notCall o = true) : attributeBase o f env w = w := by
  cases o <;> first | rfl | cases h
theorem methK {o : Expr} {to : TE} {name : Str} {apos cpos : Pos} {T id : String} {r : V → List V → Hp → VK → Prop} (hK : X.K = K) (pa : PlainAttrs T) (slot : Slot T name id) (hty : typeOf (.builtin id) = pure (.type "method_descriptor")) (hm : MtR X id r) (ho : PE X o to) (ha : PA X (e :: es) t)
    (hbase : autoParam (notCall o = true) L2.auto4._auto_1) (hl : autoParam (es.length < 20) L2.auto2._auto_1) (hline : autoParam ((apos.endLine == cpos.line) = true) L2.auto4._auto_1) (h : autoParam ((e :: es).all notStar = true) L2.auto4._auto_1) :
    PE X (.Call (.Attribute o name apos) (e :: es) [] cpos) (tBM K T r to t) := by
  have hA := se_all (env := X.env) (pos := cpos) h
  simp only [List.all_cons, Bool.and_eq_true] at h
  refine pe_bmK hK pa slot hty hm ho ha (ab_no hbase) ?_ hline (se_cons h.1) (se_any h.2)
  rw [hA]
  have : (e :: es).length + ([] : List Keyword).length + (if ([] : List Keyword).isEmpty then 0 else 1) < 30 := by simp; omega
  rw [decide_eq_true this]; rfl
theorem meth0K {o : Expr} {to : TE} {name : Str} {apos cpos : Pos} {T id : String} {r : V → List V → Hp → VK → Prop} (hK : X.K = K) (pa : PlainAttrs T) (slot : Slot T name id) (hty : typeOf (.builtin id) = pure (.type "method_descriptor")) (hm : MtR X id r) (ho : PE X o to)
    (hbase : autoParam (notCall o = true) L2.auto4._auto_1) (hline : autoParam ((apos.endLine == cpos.line) = true) L2.auto4._auto_1) : PE X (.Call (.Attribute o name apos) [] [] cpos) (tBM0 K T r to) :=
  pe_bm0K hK pa slot hty hm ho (ab_no hbase) hline
theorem psSet {i : Nat} {x : Str} {pos' : Pos} (hN : X.N.Nodup) (hi : X.N[i]? = some x) (hx : Loc X.env.scope x) (he : PE X e te) (hf : X.fn x = true) (h : autoParam (notComp e = true) L2.auto4._auto_1) : PS X (.Assign [.Name x pos'] e pos) (tAsg te (gName i)) :=
  ps_set hN hi hx he (sw_no h) (.inl hf)
theorem psExpr (he : PE X e te) (h : autoParam (notComp e = true) L2.auto4._auto_1) : PS X (.Expr e pos) (tDrop te) := ps_expr he (sw_no h)
theorem ixE {a b : Expr} {ta tb : TE} (hK : X.K = K) (ha : PE X a ta) (hb : PE X b tb) (h : autoParam (notSlice b = true) L2.auto4._auto_1) : PE X (.Subscript a b pos) (tOp (rIx K) ta tb) := pe_ix (ix_seqK hK) ha hb (pix h)
theorem psFor {tg iter : Expr} {body : List Stmt} {wi : TI} {g : TG} {tb : TS} (hp : PassesOwn (model X.prog X.w) X.A X.env X.xe) (hc : X.calm = true) (hi : PI X tg iter wi) (hg : PG X tg g) (hb : PSs X body tb) (h : autoParam (notSet iter = true) L2.auto4._auto_1) : PS X (.For tg iter body [] pos) (tFor wi g tb) :=
  ps_for hp hc hi hg hb (fs_no h)
end
section
variable {X : Cx} {tg iter elt : Expr} {ifs : List Expr} {scope : Scope} {pos : Pos} {N' : List Str} {sub : List (Option Nat)} {wi : TI} {g : TG} {tt : TT} {te : TE} {N : List Str} {sc : Scope}
theorem compE (S : SubOk N sc N' scope sub) (hc : X.calm = true) (hN : X.N = N) (hsc : X.env.scope = sc) (hi : PI X tg iter wi)
    (hg : ∀ (C : Addr) (s₀ : Shared) (H₀ : Hp) (ex : List Addr), PG (cxC X N' scope C s₀ H₀ ex) tg g)
    (ht : ∀ (C : Addr) (s₀ : Shared) (H₀ : Hp) (ex : List Addr), PIfs (cxC X N' scope C s₀ H₀ ex) ifs tt)
    (he : ∀ (C : Addr) (s₀ : Shared) (H₀ : Hp) (ex : List Addr), PE (cxC X N' scope C s₀ H₀ ex) elt te) (h : autoParam (notSet iter = true) L2.auto4._auto_1) :
    PE X (.ListComp elt [⟨tg, iter, ifs, 0⟩] scope pos) (tComp sub wi g tt te) := pe_comp S hc hN hsc hi hg ht he (fs_no h)
end
theorem bt_len : bootBuiltins "len" = some (.builtin "len") := by decide +kernel
theorem bt_isinstance : bootBuiltins "isinstance" = some (.builtin "isinstance") := by decide +kernel
theorem bt_all : bootBuiltins "all" = some (.builtin "all") := by decide +kernel
theorem bt_sorted : bootBuiltins "sorted" = some (.builtin "sorted") := by decide +kernel
theorem bt_list : bootBuiltins "list" = some (.type "list") := by decide +kernel
theorem bt_tuple : bootBuiltins "tuple" = some (.type "tuple") := by decide +kernel
theorem bt_int : bootBuiltins "int" = some (.type "int") := by decide +kernel
theorem bt_enumerate : bootBuiltins "enumerate" = some (.type "enumerate") := by decide +kernel
theorem bt_bool : bootBuiltins "bool" = some (.type "bool") := by decide +kernel
theorem iteD {c A B : Prop} [Decidable c] (h1 : c → A) (h2 : ¬ c → B) : if decide c = true then A else B := by
  by_cases h : c
  · rw [if_pos (decide_eq_true h)]; exact h1 h
  · rw [if_neg (by rw [decide_eq_false h]; exact Bool.false_ne_true)]; exact h2 h
end L2

namespace L2
open PySem PySem.Spec PyProof.Rows
section
variable {σ : St} {H : Hp} {D : Ends} {ta tb te tc : TE} {tt tu : TT} {Q : VK} {t u : TS} {g : TG}
theorem r_seq (h : t { D with nx := u D } σ H) : tSeq t u D σ H := h
theorem r_next (h : D.nx σ H) : tNext D σ H := h
theorem r_asg (h : te σ H fun x H1 => g x σ H1 D.nx) : tAsg te g D σ H := h
theorem r_name {i : Nat} {v : V} {R : St → Hp → Prop} (h : R (σ.set i (some v)) H) : gName i v σ H R := h
theorem r_sub {to ti : TE} {ts : TSet} {v : V} {R : St → Hp → Prop} (h : to σ H fun o H1 => ti σ H1 fun i H2 => ts o i v H2 fun H3 => R σ H3) : gSub to ti ts v σ H R := h
theorem r_ret (h : te σ H D.rt) : tRet te D σ H := h
theorem r_drop (h : te σ H fun _ H1 => D.nx σ H1) : tDrop te D σ H := h
theorem r_if (h : tt σ H fun b H1 => if b = true then t D σ H1 else u D σ H1) : tIfS tt t u D σ H := h
theorem r_test {R : Bool → Hp → Prop} (h : te σ H fun x H1 => ∃ k, x = .bl k ∧ R k H1) : tTest te σ H R := h
theorem r_tb {R : Bool → Hp → Prop} (h : te σ H fun x H1 => ∃ k, x = .bl k ∧ R k H1) : tB te σ H R := h
theorem r_not {R : Bool → Hp → Prop} (h : tt σ H fun c H1 => R (!c) H1) : tNot tt σ H R := h
theorem r_and {R : Bool → Hp → Prop} (h : tt σ H fun c H1 => if c = true then tu σ H1 R else R false H1) : tAnd tt tu σ H R := h
theorem r_or {R : Bool → Hp → Prop} (h : tt σ H fun c H1 => if c = true then R true H1 else tu σ H1 R) : tOr tt tu σ H R := h
theorem r_andV (h : ta σ H fun x H1 => ∃ c, x = .bl c ∧ if c = true then tb σ H1 Q else Q (.bl false) H1) : tAndV ta tb σ H Q := h
theorem r_notV (h : ta σ H fun x H1 => ∃ c, x = .bl c ∧ Q (.bl (!c)) H1) : tNotV ta σ H Q := h
theorem r_var {i : Nat} {v : V} (e : σ[i]? = some (some v)) (h : Q v H) : tVar i σ H Q := ⟨v, e, h⟩
theorem r_C {v : V} (h : Q v H) : tC v σ H Q := h
theorem r_op {r : R2} (h : ta σ H fun x H1 => tb σ H1 fun y H2 => r x y H2 Q) : tOp r ta tb σ H Q := h
theorem r_cb {r : List V → Hp → VK → Prop} {a : TA} (h : a σ H fun vs H1 => r vs H1 Q) : tCB r a σ H Q := h
theorem r_cons {a : TA} {R : List V → Hp → Prop} (h : te σ H fun x H1 => a σ H1 fun xs H2 => R (x :: xs) H2) : tCons te a σ H R := h
theorem r_nil {R : List V → Hp → Prop} (h : R [] H) : tNil σ H R := h
theorem r_call {sp : Sp} {E : XK} {a : TA} (h : a σ H fun vs H1 => sp vs H1 Q E) : tCall sp [] E a σ H Q := by
  unfold tCall
  simpa only [List.append_nil] using h
theorem r_bm {K : PySem.W.Frag} {T : String} {r : V → List V → Hp → VK → Prop} {a : TA} (h : te σ H fun x H1 => tyV K T x H1 ∧ a σ H1 fun xs H2 => r x xs H2 Q) : tBM K T r te a σ H Q := h
theorem r_bm0 {K : PySem.W.Frag} {T : String} {r : V → List V → Hp → VK → Prop} (h : te σ H fun x H1 => tyV K T x H1 ∧ r x [] H1 Q) : tBM0 K T r te σ H Q := h
theorem r_sl {r : V → Option Int → Option Int → Hp → VK → Prop} {tl th : TO} (h : te σ H fun x H1 => tl σ H1 fun l H2 => th σ H2 fun u H3 => r x l u H3 Q) : tSl r te tl th σ H Q := h
theorem r_nop {R : Option Int → Hp → Prop} (h : R none H) : tNoPart σ H R := h
theorem r_part {R : Option Int → Hp → Prop} (h : te σ H fun x H1 => ∃ i, x = .int i ∧ R (some i) H1) : tPart te σ H R := h
theorem r_true {R : Bool → Hp → Prop} (h : R true H) : tTrue σ H R := h
theorem r_rng1 {a : TA} {R : It → Hp → Prop} (h : a σ H fun vs H1 => ∃ j : Int, vs = [.int j] ∧ -(2 ^ 62) ≤ j ∧ j < 2 ^ 62 ∧ R (Itr 0 j.toNat) H1) : iRng1 a σ H R := h
theorem r_iseq {K : PySem.W.Frag} {R : It → Hp → Prop} (h : te σ H fun x H1 => (∃ a, x = .ref a ∧ (∃ xs, SqL K H1 a xs) ∧ R (Itl K a) H1) ∨ (∃ a, x = .ref a ∧ (∃ xs, SqT K H1 a xs) ∧ R (Itt K a) H1) ∨ (∃ z, x = .str z ∧ R (Its z) H1)) : iSeq K te σ H R := h
theorem r_comp {sub : List (Option Nat)} {wi : TI} (h : wi σ H fun J H1 => CompR sub g tt te σ Q J H1) : tComp sub wi g tt te σ H Q := h
theorem r_for {wi : TI} {tbd : TS} (h : wi σ H fun J H1 => ∃ W : Nat → Nat → St → Hp → Prop, (∃ m, W 0 m σ H1) ∧ ∀ i m σ H, W i m σ H →
  (J.stop i H ∧ D.nx σ H) ∨ (J.go i H ∧ ∃ N : St → Hp → Prop, (∀ σ' H', N σ' H' → ∃ m', m' < m ∧ W (i + 1) m' σ' H') ∧ ∀ x H', J.yld i H x H' → g x σ H' fun σ2 H2 => tbd { D with nx := N, ct := N, bk := D.nx } σ2 H2)) : tFor wi g tbd D σ H := h
variable {i j : Int} {x y : Str} {f : Int → Int → V} {C : Int → Int → Prop} {K : PySem.W.Frag}
theorem r_i0 (h : Q (f i j) H) : rI0 f (.int i) (.int j) H Q := ⟨_, _, rfl, rfl, h⟩
theorem r_i (c : C i j) (h : Q (f i j) H) : rI C f (.int i) (.int j) H Q := ⟨_, _, rfl, rfl, c, h⟩
theorem r_addI (h : Q (.int (i + j)) H) : rAddA (.int i) (.int j) H Q := .inl ⟨_, _, rfl, rfl, h⟩
theorem r_addL {a b : Addr} {xs ys : List V} (ha : H a = some (.lst xs)) (hb : H b = some (.lst ys)) (c : xs.length + ys.length ≤ sizeLine) (h : ∀ p, H p = none → Q (.ref p) (upd H p (.lst (xs ++ ys)))) : rAddA (.ref a) (.ref b) H Q :=
  .inr (.inr ⟨a, b, xs, ys, rfl, rfl, ha, hb, c, h⟩)
theorem r_mulI (c : CMul i j) (h : Q (.int (i * j)) H) : rMulA (.int i) (.int j) H Q := .inl ⟨_, _, rfl, rfl, c, h⟩
theorem r_ixL {p : Addr} {xs : List V} {v : V} (s : SqL K H p xs) (e : atI xs i = some v) (h : Q v H) : rIx K (.ref p) (.int i) H Q := .inl ⟨p, xs, i, v, rfl, rfl, s, e, h⟩
theorem r_ixT {p : Addr} {xs : List V} {v : V} (s : SqT K H p xs) (e : atI xs i = some v) (h : Q v H) : rIx K (.ref p) (.int i) H Q := .inr (.inl ⟨p, xs, i, v, rfl, rfl, s, e, h⟩)
theorem r_bl {b : Bool} {R : Bool → Prop} (h : R b) : ∃ k, V.bl b = .bl k ∧ R k := ⟨b, rfl, h⟩
theorem r_intE {n : Int} {R : Int → Prop} (h : R n) : ∃ k, V.int n = .int k ∧ R k := ⟨n, rfl, h⟩
end
theorem Same.upd {H H' : Hp} {p : Addr} {o : HO} (s : Same H H') (hn : H' p = none) : Same H (upd H' p o) := fun b u e => by
  have q := s b u e
  rw [upd_ne (fun z => by rw [z, hn] at q; cases q)]
  exact q
end L2

namespace L2
open PySem PySem.Spec PyProof.Rows
section
variable {H : Hp} {Q : VK} {K : PySem.W.Frag}
theorem r_lenL {p : Addr} {xs : List V} (s : SqL K H p xs) (h : Q (.int xs.length) H) : rLen K [V.ref p] H Q := ⟨_, _, rfl, .inl ⟨_, s, rfl⟩, h⟩
theorem r_lenT {p : Addr} {xs : List V} (s : SqT K H p xs) (h : Q (.int xs.length) H) : rLen K [V.ref p] H Q := ⟨_, _, rfl, .inr ⟨_, s, rfl⟩, h⟩
theorem r_isi {x : V} {T : String} {t : Value} {b : Bool} (ty : TyOf K H x t) (e : PySem.W.kitOne K t (.type T) = some b) (h : Q (.bl b) H) : rIsi K [x, .ty T] H Q := ⟨x, T, t, b, rfl, ty, e, h⟩
theorem r_slL {p : Addr} {xs : List V} {lo hi : Option Int} (s : SqL K H p xs) (h : ∀ q, H q = none → Q (.ref q) (upd H q (.lst (cutV xs lo hi)))) : rSl K (.ref p) lo hi H Q := .inl ⟨p, xs, rfl, s, h⟩
end
section
variable {σ : St} {H : Hp} {Q : VK}
theorem r_listL {K : PySem.W.Frag} {a : Addr} {xs : List V} (s : SqL K H a xs) (h : ∀ p, H p = none → Q (.ref p) (upd H p (.lst xs))) : rListA K [.ref a] H Q := .inl ⟨a, xs, rfl, .inl s, h⟩
end
theorem comp_rng {sub : List (Option Nat)} {g : TG} {tt : TT} {te : TE} {σ : St} {Q : VK} {H : Hp} {lo : Int} {n : Nat} (Pv : Nat → List V → Hp → Prop) (hn : n ≤ sizeLine) (h0 : Pv 0 [] H) (hl : ∀ i ys H, Pv i ys H → ys.length ≤ i)
    (hs : ∀ i ys H, i < n → Pv i ys H → g (.int (lo + i)) (subSt sub σ) H fun σ2 H2 => KeepSt (subSt sub σ) σ2 ∧ tt σ2 H2 fun b H3 => if b = true then te σ2 H3 fun y H4 => Pv (i + 1) (ys ++ [y]) H4 else Pv (i + 1) ys H3)
    (hd : ∀ ys H, Pv n ys H → ∀ D, H D = none → Q (.ref D) (upd H D (.lst ys))) : CompR sub g tt te σ Q (Itr lo n) H :=
  comp_by (n := n) Pv hn h0 hl (fun i ys H hi _ => hi) (fun ys H _ => Nat.le_refl _) (fun i ys H x H' hi p y => by
    obtain ⟨e1, e2⟩ := y
    subst e1 e2
    exact hs i ys _ hi p) hd
theorem comp_list {sub : List (Option Nat)} {g : TG} {tt : TT} {te : TE} {σ : St} {Q : VK} {H : Hp} {K : PySem.W.Frag} {a : Addr} {xs : List V} (Pv : Nat → List V → Hp → Prop) (hn : xs.length ≤ sizeLine) (h0 : Pv 0 [] H) (hl : ∀ i ys H, Pv i ys H → ys.length ≤ i)
    (hq : ∀ i ys H, Pv i ys H → SqL K H a xs)
    (hs : ∀ i ys H x, xs[i]? = some x → Pv i ys H → g x (subSt sub σ) H fun σ2 H2 => KeepSt (subSt sub σ) σ2 ∧ tt σ2 H2 fun b H3 => if b = true then te σ2 H3 fun y H4 => Pv (i + 1) (ys ++ [y]) H4 else Pv (i + 1) ys H3)
    (hd : ∀ ys H, Pv xs.length ys H → ∀ D, H D = none → Q (.ref D) (upd H D (.lst ys))) : CompR sub g tt te σ Q (Itl K a) H :=
  comp_by (n := xs.length) Pv hn h0 hl (fun i ys H hi p => ⟨xs, xs[i], hq i ys H p, List.getElem?_eq_getElem hi⟩) (fun ys H p => ⟨xs, hq _ ys H p, Nat.le_refl _⟩) (fun i ys H x H' hi p y => by
    obtain ⟨e1, e2⟩ := y
    subst e1
    exact hs i ys _ x (e2 xs (hq i ys _ p)) p) hd
end L2

namespace L2
open PySem PySem.Spec PyProof.Rows
structure JE (X : Cx) (e : Expr) (t : TE) : Prop where
  run : PE X e t
structure JT (X : Cx) (e : Expr) (t : TT) : Prop where
  run : PT X e t
structure JW (X : Cx) (e : Expr) (t : TT) : Prop where
  run : PW X e t
structure JA (X : Cx) (es : List Expr) (t : TA) : Prop where
  run : PA X es t
structure JS (X : Cx) (s : Stmt) (t : TS) : Prop where
  run : PS X s t
structure JB (X : Cx) (s : List Stmt) (t : TS) : Prop where
  run : PSs X s t
structure JI (X : Cx) (tg iter : Expr) (t : TI) : Prop where
  run : PI X tg iter t
structure JG (X : Cx) (tg : Expr) (t : TG) : Prop where
  run : PG X tg t
structure JGs (X : Cx) (tg : List Expr) (t : TGs) : Prop where
  run : PGs X tg t
structure JO (X : Cx) (e : Option Expr) (t : TO) : Prop where
  run : PO X e t
structure JPs (X : Cx) (pos : Pos) (keys : List (Option Expr)) (values : List Expr) (t : List (TE × TE)) : Prop where
  run : PPs X pos keys values t
structure JIfs (X : Cx) (ifs : List Expr) (t : TT) : Prop where
  run : PIfs X ifs t
section
variable {X : Cx} {K : PySem.W.Frag} {sc scope : Scope} {N' : List Str} {C : Addr} {s₀ : Shared} {H₀ : Hp} {ex : List Addr} {x : Str} {pos p p2 pos' apos cpos tpos : Pos} {a b c e o : Expr} {es : List Expr} {ta tb tc te to ti : TE} {t : TA} {tA tB' tt : TT} {rest : List Expr}
theorem j_vL (i : Nat) (h : sc.names.lookup x = some .local) (hN : autoParam (X.N[i]? = some x) L2.auto4._auto_1) (hsc : autoParam (X.env.scope = sc) L2.auto4._auto_1) (hd : autoParam ((x == ("__debug__" : Str)) = false) L2.auto6._auto_1) (hcd : autoParam ((x == ("__classdict__" : Str)) = false) L2.auto6._auto_1) : JE X (.Name x pos) (tVar i) := ⟨pvL i h hN hsc hd hcd⟩
theorem j_vC (i : Nat) (h : sc.names.lookup x = some .cell) (hN : autoParam (X.N[i]? = some x) L2.auto4._auto_1) (hsc : autoParam (X.env.scope = sc) L2.auto4._auto_1) (hd : autoParam ((x == ("__debug__" : Str)) = false) L2.auto6._auto_1) (hcd : autoParam ((x == ("__classdict__" : Str)) = false) L2.auto6._auto_1) : JE X (.Name x pos) (tVar i) := ⟨pvC i h hN hsc hd hcd⟩
theorem j_vBL (i : Nat) (h : scope.names.lookup x = some .local) (hN : autoParam (N'[i]? = some x) L2.auto4._auto_1) (hd : autoParam ((x == ("__debug__" : Str)) = false) L2.auto6._auto_1) (hcd : autoParam ((x == ("__classdict__" : Str)) = false) L2.auto6._auto_1) : JE (cxC X N' scope C s₀ H₀ ex) (.Name x pos) (tVar i) := ⟨pvBL i h hN hd hcd⟩
theorem j_vBF (i : Nat) (h : scope.names.lookup x = some .free) (hN : autoParam (N'[i]? = some x) L2.auto4._auto_1) (hd : autoParam ((x == ("__debug__" : Str)) = false) L2.auto6._auto_1) (hcd : autoParam ((x == ("__classdict__" : Str)) = false) L2.auto6._auto_1) : JE (cxC X N' scope C s₀ H₀ ex) (.Name x pos) (tVar i) := ⟨pvBF i h hN hd hcd⟩
theorem j_int {i j} : JE X (.Constant (.int i) j pos) (tC (.int i)) := ⟨pe_int⟩
theorem j_bl {i j} : JE X (.Constant (.bool i) j pos) (tC (.bl i)) := ⟨pe_bl⟩
theorem j_non {j} : JE X (.Constant .none j pos) (tC .non) := ⟨pe_non⟩
theorem j_gint {z : Int} (hg : Gl X x) (hm : ∃ t, X.mg x = some (.int z t)) (hd : (x == ("__debug__" : Str)) = false) : JE X (.Name x pos) (tC (.int z)) := ⟨glob_int hg hm hd⟩
theorem j_ty {T : String} (hg : Gl X x) (hm : X.mg x = none) (hv : bootBuiltins x = some (.type T)) (hn : x ≠ "__name__") (hd : (x == ("__debug__" : Str)) = false) : JE X (.Name x pos) (tC (.ty T)) := ⟨pe_ty hg hm hv hn hd⟩
theorem j_op {op : Operator} {r : R2} (ho : OpR X (binaryOp op) r) (ha : JE X a ta) (hb : JE X b tb) : JE X (.BinOp a op b pos) (tOp r ta tb) := ⟨pe_op ho ha.run hb.run⟩
theorem j_cmp {op : CmpOp} {r : R2} (ho : OpR X (compareOp op) r) (ha : JE X a ta) (hb : JE X b tb) (hm : behindInMarks op b = false) : JE X (.Compare a [op] [b] pos) (tOp r ta tb) := ⟨pe_cmpR ho ha.run hb.run hm⟩
theorem jt_cmp {op : CmpOp} {r : R2} (ho : OpR X (compareOp op) r) (ha : JE X a ta) (hb : JE X b tb) (hm : behindInMarks op b = false) : JT X (.Compare a [op] [b] pos) (tTest (tOp r ta tb)) := ⟨pt_cmpR ho ha.run hb.run hm⟩
theorem jw_and1 (ha : JT X a tA) : JW X (.BoolOp .And [a] pos) tA := ⟨pw_and1 ha.run⟩
theorem jw_or1 (ha : JT X a tA) : JW X (.BoolOp .Or [a] pos) tA := ⟨pw_or1 ha.run⟩
theorem jw_and (ha : JT X a tA) (hb : JW X (.BoolOp .And (b :: rest) pos) tB') : JW X (.BoolOp .And (a :: b :: rest) pos) (tAnd tA tB') := ⟨pw_and ha.run hb.run⟩
theorem jw_or (ha : JT X a tA) (hb : JW X (.BoolOp .Or (b :: rest) pos) tB') : JW X (.BoolOp .Or (a :: b :: rest) pos) (tOr tA tB') := ⟨pw_or ha.run hb.run⟩
theorem jw_pt (h : JW X e tt) : JT X e tt := ⟨h.run.pt⟩
theorem jt_not (ha : JT X a tA) : JT X (.UnaryOp .Not a pos) (tNot tA) := ⟨pt_not ha.run⟩
noncomputable def plainT : Expr → Bool
  | .BoolOp .. => false | .UnaryOp .. => false | .Compare .. => false | .IfExp .. => false | _ => true
theorem jt_val (h : JE X e te) (hp : autoParam (plainT e = true) L2.auto4._auto_1) : JT X e (tB te) := ⟨pt_val h.run (by
  intro whole
  cases e <;> first | rfl | cases hp)⟩
theorem j_one {op} (h : JE X a te) : JE X (.BoolOp op [a] pos) te := ⟨pe_one h.run⟩
theorem j_and (ha : JE X a ta) (hb : JE X (.BoolOp .And (b :: rest) pos) tb) : JE X (.BoolOp .And (a :: b :: rest) pos) (tAndV ta tb) := ⟨pe_and ha.run hb.run⟩
theorem j_not (ha : JE X a ta) : JE X (.UnaryOp .Not a pos) (tNotV ta) := ⟨pe_not ha.run⟩
theorem j_tup {x1} (h : JA X es t) : JE X (.Tuple es x1 pos) (tTup t) := ⟨pe_tup h.run⟩
theorem j_lst (h : JA X es t) : JE X (.List es pos) (tLst t) := ⟨pe_lst h.run⟩
theorem ja_nil : JA X [] tNil := ⟨pa_nil⟩
theorem ja_cons (ha : JE X e te) (hr : JA X es t) (h : autoParam (notStar e = true) L2.auto4._auto_1) : JA X (e :: es) (tCons te t) := ⟨paC ha.run hr.run h⟩
theorem jo_none : JO X none tNoPart := ⟨po_none⟩
theorem jo_some (h : JE X e te) : JO X (some e) (tPart te) := ⟨po_some h.run⟩
theorem j_slice {r : V → Option Int → Option Int → Hp → VK → Prop} {lo hi : Option Expr} {tl th : TO} (hr : SlR X r) (he : JE X e te) (hl : JO X lo tl) (hu : JO X hi th) : JE X (.Subscript e (.Slice lo hi none p2) pos) (tSl r te tl th) := ⟨pe_slice hr he.run hl.run hu.run⟩
theorem j_ix (hK : X.K = K) (ha : JE X a ta) (hb : JE X b tb) (h : autoParam (notSlice b = true) L2.auto4._auto_1) : JE X (.Subscript a b pos) (tOp (rIx K) ta tb) := ⟨ixE hK ha.run hb.run h⟩
theorem j_call {k : Nat} {ps : List Str} {sp : Sp} (F : Has X.prog X.w X.K X.mg X.base k x ps sp) (hr : Room k X.A) (hg : Gl X x) (ha : JA X (e :: es) t) (hdb : (x == ("__debug__" : Str)) = false) (h : autoParam ((e :: es).all notStar = true) L2.auto4._auto_1) :
    JE X (.Call (.Name x p) (e :: es) [] pos) (tCall sp [] E0 t) := ⟨callH F hr hg ha.run hdb h⟩
theorem j_callB {id : String} {r : List V → Hp → VK → Prop} (hc : CallR X (.builtin id) r) (hg : Gl X x) (hm : X.mg x = none) (hv : bootBuiltins x = some (.builtin id)) (ha : JA X (e :: es) t) (hn : x ≠ "__name__") (hdb : (x == ("__debug__" : Str)) = false) (h : autoParam ((e :: es).all notStar = true) L2.auto4._auto_1) :
    JE X (.Call (.Name x p) (e :: es) [] pos) (tCB r t) := ⟨callB hc hg hm hv ha.run hn hdb h⟩
theorem j_callTy {T : String} {r : List V → Hp → VK → Prop} (hc : CallR X (.type T) r) (hg : Gl X x) (hm : X.mg x = none) (hv : bootBuiltins x = some (.type T)) (ha : JA X (e :: es) t) (hn : x ≠ "__name__") (hdb : (x == ("__debug__" : Str)) = false) (h : autoParam ((e :: es).all notStar = true) L2.auto4._auto_1) :
    JE X (.Call (.Name x p) (e :: es) [] pos) (tCB r t) := ⟨callTy hc hg hm hv ha.run hn hdb h⟩
theorem j_meth {name : Str} {T id : String} {r : V → List V → Hp → VK → Prop} (hK : X.K = K) (pa : PlainAttrs T) (slot : Slot T name id) (hty : typeOf (.builtin id) = pure (.type "method_descriptor")) (hm : MtR X id r) (ho : JE X o to) (ha : JA X (e :: es) t)
    (hbase : autoParam (notCall o = true) L2.auto4._auto_1) (hl : autoParam (es.length < 20) L2.auto2._auto_1) (hline : autoParam ((apos.endLine == cpos.line) = true) L2.auto4._auto_1) (h : autoParam ((e :: es).all notStar = true) L2.auto4._auto_1) : JE X (.Call (.Attribute o name apos) (e :: es) [] cpos) (tBM K T r to t) := ⟨methK hK pa slot hty hm ho.run ha.run hbase hl hline h⟩
theorem j_meth0 {name : Str} {T id : String} {r : V → List V → Hp → VK → Prop} (hK : X.K = K) (pa : PlainAttrs T) (slot : Slot T name id) (hty : typeOf (.builtin id) = pure (.type "method_descriptor")) (hm : MtR X id r) (ho : JE X o to)
    (hbase : autoParam (notCall o = true) L2.auto4._auto_1) (hline : autoParam ((apos.endLine == cpos.line) = true) L2.auto4._auto_1) : JE X (.Call (.Attribute o name apos) [] [] cpos) (tBM0 K T r to) := ⟨meth0K hK pa slot hty hm ho.run hbase hline⟩
theorem jif_nil : JIfs X [] tTrue := ⟨pifs_nil⟩
theorem jif_one (hc : JT X c tt) : JIfs X [c] tt := ⟨pifs_one hc.run⟩
variable {tg iter elt : Expr} {ifs : List Expr} {sub : List (Option Nat)} {wi : TI} {g : TG} {N : List Str}
theorem ji_range1 {ta : TA} (hg : Gl X "range") (hm : X.mg "range" = none) (ha : JA X [a] ta) (h : autoParam (notStar a = true) L2.auto4._auto_1) : JI X tg (.Call (.Name "range" p) [a] [] pos) (iRng1 ta) := ⟨pi_range1 hg hm ha.run (se_cons h)⟩
theorem ji_seq (hK : X.K = K) (hl : JE X e te) : JI X tg e (iSeq K te) := ⟨pi_seqK hK hl.run⟩
theorem jg_name {i : Nat} (hN : X.N.Nodup) (hi : X.N[i]? = some x) (hx : Loc X.env.scope x) (hf : X.fn x = true) : JG X (.Name x pos) (gName i) := ⟨pg_name hN hi hx (.inl hf)⟩
theorem jg_B (i : Nat) (h : scope.names.lookup x = some .local) (hN : N'.Nodup) (hi : autoParam (N'[i]? = some x) L2.auto4._auto_1) : JG (cxC X N' scope C s₀ H₀ ex) (.Name x pos) (gName i) := ⟨pgB i h hN hi⟩
theorem jgs_nil : JGs X [] gNil := ⟨pgs_nil⟩
theorem jgs_cons {gs : TGs} (h1 : JG X e g) (h2 : JGs X es gs) (hs : autoParam ((assignEach (e :: es) X.env).map (·.2) = assign e X.env :: (assignEach es X.env).map (·.2)) L2.auto4._auto_1) : JGs X (e :: es) (gCons g gs) := ⟨pgs_cons h1.run h2.run hs⟩
theorem jg_tup {ts : List Expr} {k : Nat} {gs : TGs} {n : Nat} (hK : X.K = K) (hc : X.calm = true) (h : JGs X ts gs) (hn : autoParam ((assignEach ts X.env).length = n) L2.auto4._auto_1) (hst : autoParam ((assignEach ts X.env).findIdx? (·.1) = none) L2.auto4._auto_1) : JG X (.Tuple ts k pos) (gTup K n gs) := ⟨pg_tupK hK hc h.run hn hst⟩
theorem jg_sub {ts : TSet} (ho : JE X a ta) (hi : JE X b tb) (hs : PSet X ts) (h : autoParam (notSlice b = true) L2.auto4._auto_1) : JG X (.Subscript a b pos) (gSub ta tb ts) := ⟨pg_sub ho.run hi.run hs (by
  intro v
  cases b <;> first | rfl | cases h)⟩
theorem j_comp (S : SubOk N sc N' scope sub) (hc : X.calm = true) (hN : X.N = N) (hsc : X.env.scope = sc) (hi : JI X tg iter wi)
    (hg : ∀ (C : Addr) (s₀ : Shared) (H₀ : Hp) (ex : List Addr), JG (cxC X N' scope C s₀ H₀ ex) tg g)
    (ht : ∀ (C : Addr) (s₀ : Shared) (H₀ : Hp) (ex : List Addr), JIfs (cxC X N' scope C s₀ H₀ ex) ifs tt)
    (he : ∀ (C : Addr) (s₀ : Shared) (H₀ : Hp) (ex : List Addr), JE (cxC X N' scope C s₀ H₀ ex) elt te) (h : autoParam (notSet iter = true) L2.auto4._auto_1) :
    JE X (.ListComp elt [⟨tg, iter, ifs, 0⟩] scope pos) (tComp sub wi g tt te) := ⟨compE S hc hN hsc hi.run (fun C s₀ H₀ ex => (hg C s₀ H₀ ex).run) (fun C s₀ H₀ ex => (ht C s₀ H₀ ex).run) (fun C s₀ H₀ ex => (he C s₀ H₀ ex).run) h⟩
variable {st : Stmt} {sts : List Stmt} {u v : TS}
theorem js_set {i : Nat} (hN : X.N.Nodup) (hi : X.N[i]? = some x) (hx : Loc X.env.scope x) (he : JE X e te) (hf : X.fn x = true) (h : autoParam (notComp e = true) L2.auto4._auto_1) : JS X (.Assign [.Name x pos'] e pos) (tAsg te (gName i)) := ⟨psSet hN hi hx he.run hf h⟩
theorem js_asgS {ts : TSet} (he : JE X e te) (hg : JG X (.Subscript a b pos') g) (h : autoParam (notComp e = true) L2.auto4._auto_1) : JS X (.Assign [.Subscript a b pos'] e pos) (tAsg te g) := ⟨ps_asg he.run hg.run (by show swapsWith e (some (.Subscript a b pos')) pos.line X.env = pure false; exact sw_no h) (by cases e <;> rfl) rfl⟩
theorem js_ret (he : JE X e te) : JS X (.Return (some e) pos) (tRet te) := ⟨ps_ret he.run⟩
theorem js_expr (he : JE X e te) (h : autoParam (notComp e = true) L2.auto4._auto_1) : JS X (.Expr e pos) (tDrop te) := ⟨psExpr he.run h⟩
theorem js_if {sa sb : List Stmt} (hc : JT X c tt) (ha : JB X sa u) (hb : JB X sb v) : JS X (.If c sa sb pos) (tIfS tt u v) := ⟨ps_if hc.run ha.run hb.run⟩
theorem js_for {body : List Stmt} (hp : PassesOwn (model X.prog X.w) X.A X.env X.xe) (hc : X.calm = true) (hi : JI X tg iter wi) (hg : JG X tg g) (hb : JB X body u) (h : autoParam (notSet iter = true) L2.auto4._auto_1) : JS X (.For tg iter body [] pos) (tFor wi g u) := ⟨psFor hp hc hi.run hg.run hb.run h⟩
theorem js_continue : JS X (.Continue pos) tCont := ⟨ps_continue⟩
theorem js_never : JS X st tNever := ⟨ps_never⟩
theorem jb_nil : JB X [] tNext := ⟨pss_nil⟩
theorem jb_one (h : JS X st u) : JB X [st] u := ⟨pss_one h.run⟩
theorem jb_cons (h : JS X st u) (h2 : JB X sts v) : JB X (st :: sts) (tSeq u v) := ⟨pss_cons h.run h2.run⟩
end
section
variable {P : Program} {w : World} {K : PySem.W.Frag} {mg : Str → Option Value} {base : Heap}
theorem hasJ {x : Str} {st : Stmt} {N ps : List Str} {k : Nat} {sp : Sp} (D : Def K mg x st) (S : FnScope N ps (defScope st))
    (hb : ∀ (kV doc pm : Value) (an : Option Addr) (cdv ct : Value) (us : List Value), us.length = ps.length → bindArgs (PySem.W.fnOf x x (defArgs st) (defBody st) (defScope st) .none kV doc pm an cdv ct) ⟨us, []⟩ = pure (ps.zip us))
    (len : ∀ vs H Q E, sp vs H Q E → vs.length = ps.length)
    (hbody : ∀ (f : Addr) (cdv : Value) (A : Around) (outer : List Env) (s : Shared) (H : Hp) (vs : List V) (Q : VK) (E : XK), Room k (A.deeper (envOfC x (defScope st) s.heap.objs.size f cdv)) → sp vs H Q E →
      ∃ t, JB (cxOf CX0 P w K mg base N x (defScope st) f cdv A outer s H E).nox (defBody st) t ∧ t { nx := fun _ H' => Q .non H', rt := Q } (start N vs) H) : Has P w K mg base (k + 1) x ps sp :=
  has_of D S hb len fun f cdv A outer s H vs Q E hr h => let ⟨t, j, q⟩ := hbody f cdv A outer s H vs Q E hr h; ⟨t, j.run, q⟩
theorem okJ {x : Str} {st : Stmt} {N ps : List Str} {k : Nat} {sp : Sp} {f : Addr} {fd : FuncData} (F : Fun K x x st f fd) (S : FnScope N ps (defScope st)) (len : ∀ vs H Q E, sp vs H Q E → vs.length = ps.length)
    (hbody : ∀ (f : Addr) (cdv : Value) (A : Around) (outer : List Env) (s : Shared) (H : Hp) (vs : List V) (Q : VK) (E : XK), Room k (A.deeper (envOfC x (defScope st) s.heap.objs.size f cdv)) → sp vs H Q E →
      ∃ t, JB (cxOf CX0 P w K mg base N x (defScope st) f cdv A outer s H E).nox (defBody st) t ∧ t { nx := fun _ H' => Q .non H', rt := Q } (start N vs) H) : FnOk P w K mg base CX0 (k + 1) f fd ps sp :=
  F.ok S len fun cdv A outer s H vs Q E hr h => let ⟨t, j, q⟩ := hbody f cdv A outer s H vs Q E hr h; ⟨t, j.run, q⟩
end
theorem const_mk {K : PySem.W.Frag} {mg : Str → Option Value} {h : Heap} (X : K.In h) (G : h.Ns mainGlobals mg) {x : Str} {v : Value} {f : Tok → Value} (a : PySem.W.nsIn K mainGlobals x = some (some v)) (e : ∃ t, v = f t) : ∃ t, mg x = some (f t) := by
  obtain ⟨t, rfl⟩ := e
  exact ⟨t, PySem.W.mg_of X G a⟩
theorem walkJ {l : PySem.W.OpenLaw} {q : Program} {loose : List Str} {XP : (Str → Option Value) → Heap → Prop} {YP : World → Heap → Prop} {d : DefRec} {K : Params → PySem.W.Frag} {st : Stmt} {k : Nat} {sp : PySem.W.Frag → Sp} {x : Str}
    (hn : l.most = some 63) (hdf : d.params.defaults = []) (hdn : d.name = "law") (hk : Room k callerA) (hY : ∀ (w : World) (h : Heap), YP w h → (K w.params).In h)
    (hb : ∀ (kV doc pm : Value) (an : Option Addr) (cdv ct : Value) (us : List Value), us.length = [x].length → bindArgs (PySem.W.fnOf "law" "law" (defArgs st) (defBody st) (defScope st) .none kV doc pm an cdv ct) ⟨us, []⟩ = pure ([x].zip us))
    (F : ∀ (w : World) (mg : Str → Option Value) (h : Heap), (K w.params).In h → h.Ns mainGlobals mg → Def (K w.params) mg "law" st ∧ ∀ (base : Heap) (f : Addr) (fd : FuncData), Fun (K w.params) "law" "law" st f fd → FnOk l.prog w (K w.params) mg base CX0 k f fd [x] (sp (K w.params)))
    (hsp : ∀ (K : PySem.W.Frag) (H : Hp) (a : Addr) (ns : List Int), ns.length ≤ 63 → SqL K H a (ns.map V.int) → sp K [.ref a] H (fun v _ => v = .bl true) fun _ _ _ => False) (him : autoParam (importsNone q = true) L2.auto6._auto_1) :
    PySem.W.WalkO q loose XP YP l.row.toRowW d [] (fun f vs => PySem.call f vs) :=
  L2.walk_of (n := 63) (k := k) (x := x) (CX := fun _ => CX0) (sp := fun w => sp (K w.params)) hn (by decide) hdf hk hY (fun w mg fa h X G e => by
    obtain ⟨⟨f, fd, Fn, hm⟩, ok⟩ := F w mg h X G
    rw [hdn, hm] at e
    have ef : f = fa := by injection (Option.some.inj e)
    subst ef
    refine ⟨fd, fun s u => ?_, fun base _ _ => ok base f fd Fn⟩
    obtain ⟨oc, od, kV, doc, pm, an, cdv, ct, osl, rfl, lk, hcd⟩ := Fn.ex
    exact .of_eq (hb kV doc pm an cdv ct [u] rfl)) (fun w H a ns hl _ hS => hsp _ H a ns hl hS) (fun _ _ _ _ _ z => z) him
end L2

namespace L2
open PySem PySem.Spec PyProof.Rows
noncomputable def Itp (xs : Nat → List V) (n : Nat) : It := ⟨fun i _ => i < n, fun i H v H' => ∃ T, H T = none ∧ v = .ref T ∧ H' = upd H T (.tup (xs i)), fun i _ => i = n⟩
theorem turn_T {P : Program} {w : World} {K : PySem.W.Frag} {elts : List Expr} {k : Nat} {pos : Pos} {it : Addr} {fp wr : List Addr} {n : Nat} {xs : Nat → List V} {Pt : Nat → Array Value → Prop} {St : Nat → Heap → Prop} {Mid : Nat → Addr → Heap → Prop}
    (W : ∀ A : Around, A.handled = none → WalksT P w A it fp wr n Pt St Mid) (hxs : ∀ i, (xs i).length ≤ sizeLine) (hPt : ∀ i vals, Pt i vals → Vals (xs i) vals.toList) (hmem : it ∈ fp)
    (hobj : ∀ i h, St i h → ∀ b ∈ fp, ∃ o, h.get? b = some o ∧ ∀ v, o.data ≠ .cell v)
    (hself : ∀ (A : Around) (i : Nat) (s : Shared) (Q : Value → Shared → Prop) (E : Value → Shared → Prop), St i s.heap → Q (.ref it) s → wpAny (model P w) A (pyIter (.ref it)) Q E s) :
    Turn P w K (.Tuple elts k pos) (Itp xs n) fp it St where
  mem := hmem
  obj := hobj
  keep := fun i h h' st kk => (W {} rfl).frame i h h' st kk
  item := by
    intro X hP hw hK hc i pins s σ H E I hf st hg
    subst hP hw hK
    have W' := W X.A (I.ok.hd hc)
    refine W'.item i s _ _ hg st fun T vals h' tk hPv hT isT mid kk => ?_
    refine ⟨.ref T, rfl, W'.go elts k pos i T _ _ _ mid fun h'' st'' kk2 => ?_⟩
    have hTn : H T = none := I.hok.fresh hT
    have hTw : T ∉ wr := W'.apart i T h' mid
    have kall : ∀ b o, b ∉ wr → s.heap.get? b = some o → h''.get? b = some o := fun b o hb e => kk2 b o hb (kk b o hb e)
    have nT : ∀ b o, s.heap.get? b = some o → b ≠ T := fun b o e => Nat.ne_of_lt (Nat.lt_of_lt_of_le (Heap.lt_size e) hT)
    have nTH : ∀ b u, H b = some u → b ≠ T := fun b u e z => by rw [z, hTn] at e; cases e
    have nW : ∀ b u, H b = some u → b ∉ wr := fun b u e hb => by rw [(hf b (W'.sub b hb)).1] at e; cases e
    have isT' : h''.IsTuple T vals := by
      obtain ⟨o, ho, r⟩ := isT
      exact ⟨o, kk2 T o hTw ho, r⟩
    have hlT : ∃ o, h''.get? T = some o := let ⟨o, ho, _⟩ := isT'; ⟨o, ho⟩
    have I' : Inv X pins σ (upd H T (.tup (xs i))) { s with heap := h'', toks := tk } := by
      refine I.step (g' := s.gens) (d' := s.drawn) (ch := wr) (fun b hb => ?_) (fun b o _ _ hc e _ => kall b o hc e) (fun b o _ _ hc e _ => ⟨o.slots, kall b o hc e⟩) (fun b o _ e hn => by rw [upd_ne (nT b o e)]; exact hn)
        (fun b o hc e => ⟨o, kall b o hc e⟩) (fun b ys e => by rw [upd_ne (nTH b _ e)]; exact e) (fun b o u e => by rw [upd_ne (nTH b _ e)]; exact e) (fun b ps e => ⟨#[], by rw [upd_ne (nTH b _ e), e]; simp⟩) (fun m hm => ?_) (fun b u e => ?_) I.bare
      · obtain ⟨f0, f1, f2, f3, f4, f5⟩ := hf b (W'.sub b hb)
        exact ⟨f3, f1, f4, f5⟩
      · obtain ⟨o, es, ep, ho, r⟩ := hm
        exact ⟨o, es, ep, kall _ o (fun hb => (hf _ (W'.sub _ hb)).2.1 rfl) ho, r⟩
      · by_cases hb : b = T
        · subst hb
          rw [upd_same] at e; cases e
          obtain ⟨o, ho, hcl, nn, hd⟩ := isT'
          exact ⟨hxs i, vals.toList, hPt i vals hPv, o, ho, hcl, nn, by simpa using hd⟩
        · rw [upd_ne hb] at e
          refine (I.hok b u e).stay (fun c v hc' q => kall c v ?_ q) (fun c q => by rw [upd_ne (nTH c _ q)]; exact q) fun c ys q => by rw [upd_ne (nTH c _ q)]; exact q
          rcases hc' with z | z
          · rw [z]; exact nW b u e
          · exact nW c _ z
    refine ⟨.ref T, upd H T (.tup (xs i)), I', rfl, ⟨T, hTn, rfl, rfl⟩, st'', fun b hb => ?_⟩
    obtain ⟨o, e, _⟩ := hobj i _ st b hb
    rw [upd_ne (nT b o e)]
    exact (hf b hb).1
  done := by
    intro X hP hw hK hc i pins s σ H E I hf st hg
    subst hP hw hK
    have W' := W X.A (I.ok.hd hc)
    have hg : i = n := hg
    subst hg
    refine W'.done s _ _ st fun h' tk kk => ⟨rfl, ?_⟩
    have nW : ∀ b u, H b = some u → b ∉ wr := fun b u e hb => by rw [(hf b (W'.sub b hb)).1] at e; cases e
    refine I.step (g' := s.gens) (d' := s.drawn) (ch := wr) (fun b hb => ?_) (fun b o _ _ hc e _ => kk b o hc e) (fun b o _ _ hc e _ => ⟨o.slots, kk b o hc e⟩) (fun b o _ e hn => hn)
        (fun b o hc e => ⟨o, kk b o hc e⟩) (fun b ys e => e) (fun b o u e => e) (fun b ps e => ⟨#[], by rw [e]; simp⟩) (fun m hm => ?_) (fun b u e => ?_) I.bare
    · obtain ⟨f0, f1, f2, f3, f4, f5⟩ := hf b (W'.sub b hb)
      exact ⟨f3, f1, f4, f5⟩
    · obtain ⟨o, es, ep, ho, r⟩ := hm
      exact ⟨o, es, ep, kk _ o (fun hb => (hf _ (W'.sub _ hb)).2.1 rfl) ho, r⟩
    · refine (I.hok b u e).stay (fun c v hc' q => kk c v ?_ q) (fun c q => q) fun c ys q => q
      rcases hc' with z | z
      · rw [z]; exact nW b u e
      · exact nW c _ z
  self := hself
noncomputable def enumS (x : Str) (i : Nat) : List V := [.int i, .str ⟨#[x.cps.getD i 0]⟩]
end L2

namespace L2
open PySem PySem.Spec PyProof.Rows
section
variable {prog : Program} {w : World} {A : Around} {E : Value → Shared → Prop} {s : Shared}
theorem draw_listU {it l : Addr} {items : Array Value} (hne : l ≠ it) : ∀ (n i : Nat) (s : Shared) (Q : List Value → Shared → Prop), s.heap.IsListIter it l i → s.heap.IsList l items → i + n ≤ items.size →
    (∀ h', h'.IsListIter it l (i + n) → Heap.SameBut it s.heap h' → Q ((items.toList.drop i).take n) { s with heap := h' }) → wpAny (model prog w) A (draw (.ref it) n) Q E s
  | 0, i, s, Q, hit, _, _, hQ => by
    show wpAny _ _ (pure []) Q E s
    exact wpAny_pure (by simpa using hQ s.heap hit (Heap.SameBut.refl ..))
  | n + 1, i, s, Q, hit, ht, hle, hQ => by
    have hlt : i < items.size := by omega
    show wpAny _ _ (pyNext (.ref it) >>= _) Q E s
    refine wpAny_bind (wpAny_pyNext_list_item hit ht (x := items[i]) (by simp [hlt]) fun h₁ hit₁ hs₁ => ?_)
    refine wpAny_bind (wpAny_holding (draw_listU hne n (i + 1) _ _ hit₁ (ht.extBut hs₁.extBut hne) (by omega) fun h₂ hit₂ hs₂ => wpAny_pure ?_))
    have hd : items.toList.drop i = items[i] :: items.toList.drop (i + 1) := by simp [List.drop_eq_getElem_cons, hlt]
    have := hQ h₂ (by rw [show i + (n + 1) = i + 1 + n by omega]; exact hit₂) (hs₁.trans hs₂)
    rw [hd, List.take_succ_cons] at this
    exact this
theorem unpackItems_listU {l : Addr} {items : Array Value} {Q : List Value → Shared → Prop} (hh : A.handled = none) (ht : s.heap.IsList l items)
    (hQ : ∀ h', Heap.ExtBut s.heap.objs.size s.heap h' → Q items.toList { s with heap := h' }) : wpAny (model prog w) A (unpackItems (.ref l) items.size none) Q E s := by
  have hlt : l ≠ s.heap.objs.size := by obtain ⟨o, ho, _⟩ := ht; exact Nat.ne_of_lt (Heap.lt_size ho)
  unfold unpackItems
  refine wpAny_bind ?_
  · unfold notIterableAtAll
    refine wpAny_bind (wpAny_specialOf ht.typeIs slot_list_iter.lookup ?_)
    refine wpAny_pure ?_
    simp only [Bool.false_eq_true, if_false]
    refine wpAny_bind (wpAny_holding (wpAny_pyIter_list ht ?_))
    refine wpAny_bind (wpAny_holding (draw_listU hlt items.size 0 _ _ ⟨_, Heap.get?_push_size _ rfl, rfl, rfl⟩ (let ⟨o, ho, r⟩ := ht; ⟨o, Heap.get?_push_of_some _ ho, r⟩) (by omega) fun h₁ hit₁ hs₁ => ?_))
    have hall : List.take items.size (List.drop 0 items.toList) = items.toList := by
      rw [List.drop_zero]; exact List.take_of_length_le (by simp)
    rw [hall]
    rw [if_neg (by simp)]
    have ht₁ : h₁.IsList l items := by
      have : (s.heap.push { cls := .type "list_iterator", data := .fields #[.ref l, .int 0 0] }).IsList l items := let ⟨o, ho, r⟩ := ht; ⟨o, Heap.get?_push_of_some _ ho, r⟩
      exact this.extBut hs₁.extBut hlt
    refine wpAny_bind (wpAny_holding (wpAny_pyNext_list_end hh hit₁ ht₁ (by simp) fun h₂ he₂ => ?_))
    simp only [Option.isSome_none, Bool.false_eq_true, if_false]
    refine wpAny_pure (hQ h₂ fun b o hb e => he₂ b o hb (hs₁.extBut b o hb (Heap.get?_push_of_some _ e)))
theorem assign_Tuple_listU {env : Env} {elts : List Expr} {x1} {pos : Pos} {l : Addr} {items : Array Value} {Q : Unit → Shared → Prop} (hh : A.handled = none) (ht : s.heap.IsList l items)
    (hn : (assignEach elts env).length = items.size) (hstar : (assignEach elts env).findIdx? (·.1) = none)
    (h : ∀ h', Heap.ExtBut s.heap.objs.size s.heap h' → wpAny (model prog w) A (assignInOrder ((assignEach elts env).map (·.2)) items.toList) Q E { s with heap := h' }) :
    wpAny (model prog w) A (assign (.Tuple elts x1 pos) env (.ref l)) Q E s := by
  rw [assign_Tuple]
  refine wpAny_bind (wpAny_standAt ?_)
  unfold unpack
  rw [hn, hstar]
  exact wpAny_bind (wpAny_holding (unpackItems_listU hh ht h))
end
noncomputable def gSeqT (K : PySem.W.Frag) (n : Nat) (t : TGs) : TG := fun v σ H Q => ∃ a xs, v = .ref a ∧ (SqT K H a xs ∨ SqL K H a xs) ∧ xs.length = n ∧ t xs σ H Q
theorem jg_seqT {X : Cx} {K : PySem.W.Frag} {ts : List Expr} {k : Nat} {gs : TGs} {n : Nat} {pos : Pos} (hK : X.K = K) (hc : X.calm = true) (h : JGs X ts gs) (hn : autoParam ((assignEach ts X.env).length = n) L2.auto4._auto_1) (hst : autoParam ((assignEach ts X.env).findIdx? (·.1) = none) L2.auto4._auto_1) : JG X (.Tuple ts k pos) (gSeqT K n gs) := ⟨by
  subst hK
  intro pins s σ H v u Q I r hw
  obtain ⟨a, xs, e1, hq, hl, hw⟩ := hw
  subst e1
  cases r
  rcases hq with hq | hq
  · exact (pg_tup hc h.run hn hst) pins s σ H (.ref a) (.ref a) Q I (show RelV (.ref a) (Value.ref a) from rfl) ⟨a, xs, rfl, hq, hl, hw⟩
  · obtain ⟨its, rv, ht, hz⟩ := I.list hq
    refine assign_Tuple_listU (I.ok.hd hc) ht.isList (by simp [hn, ← hl, rv.length]) hst fun h' hx => ?_
    have I1 : Inv X pins σ H { s with heap := h' } := I.kept (t' := s.toks) fun b o e => hx b o (Nat.ne_of_lt (Heap.lt_size e)) e
    exact h.run pins _ σ H xs _ Q I1 (by simpa using rv) hw⟩
theorem js_asgT {X : Cx} {ts : List Expr} {k : Nat} {e : Expr} {te : TE} {g : TG} {pos pos' : Pos} (he : JE X e te) (hg : JG X (.Tuple ts k pos') g) (h : autoParam (notComp e = true) L2.auto4._auto_1) (h2 : autoParam ((match e with | .Tuple .. => false | _ => true) = true) L2.auto4._auto_1) : JS X (.Assign [.Tuple ts k pos'] e pos) (tAsg te g) :=
  ⟨ps_asg he.run hg.run (by show swapsWith e (some (.Tuple ts k pos')) pos.line X.env = pure false; exact sw_no h) (by cases e <;> first | rfl | cases h2) rfl⟩
noncomputable def rNeA (K : PySem.W.Frag) : R2 := fun x y H Q => rNe x y H Q ∨ ∃ (a b : Addr) (ns ms : List Int), x = .ref a ∧ y = .ref b ∧ SqL K H a (ns.map V.int) ∧ SqL K H b (ms.map V.int) ∧ Q (.bl (!decide (ns = ms))) H
theorem op_neK {X : Cx} {K : PySem.W.Frag} (hK : X.K = K) (hu : X.A.units + 64 < cLine) : OpR X (compareOp .NotEq) (rNeA K) := by
  subst hK
  intro pins s σ H x y v u Q I rx ry h
  rcases h with h | ⟨a, b, ns, ms, rfl, rfl, ha, hb, q⟩
  · exact op_ne pins s σ H x y v u Q I rx ry h
  · cases rx
    cases ry
    obtain ⟨its, r1, p1, z1⟩ := I.list ha
    obtain ⟨jts, r2, p2, z2⟩ := I.list hb
    exact PySem.W.ne_intsK p1.isList (intsAre_of r1) p2.isList (intsAre_of r2) hu ⟨.bl _, H, I, rfl, q⟩
section
variable {H : Hp} {Q : VK} {K : PySem.W.Frag} {σ : St}
theorem r_gtup {n : Nat} {gs : TGs} {p : Addr} {xs : List V} {R : St → Hp → Prop} (s : SqT K H p xs) (hl : xs.length = n) (h : gs xs σ H R) : gTup K n gs (.ref p) σ H R := ⟨p, xs, rfl, s, hl, h⟩
theorem r_gseqL {n : Nat} {gs : TGs} {p : Addr} {xs : List V} {R : St → Hp → Prop} (s : SqL K H p xs) (hl : xs.length = n) (h : gs xs σ H R) : gSeqT K n gs (.ref p) σ H R := ⟨p, xs, rfl, .inr s, hl, h⟩
theorem r_gcons {t : TG} {u : TGs} {v : V} {vs : List V} {R : St → Hp → Prop} (h : t v σ H fun σ' H' => u vs σ' H' R) : gCons t u (v :: vs) σ H R := ⟨v, vs, rfl, h⟩
theorem r_gnil {R : St → Hp → Prop} (h : R σ H) : gNil [] σ H R := ⟨rfl, h⟩
theorem r_append {p : Addr} {xs : List V} {y : V} (hp : H p = some (.lst xs)) (c : xs.length < sizeLine) (h : Q .non (upd H p (.lst (xs ++ [y])))) : rAppend (.ref p) [y] H Q := ⟨p, xs, y, rfl, rfl, hp, c, h⟩
theorem r_mulL {a : Addr} {xs : List V} {k : Int} (ha : H a = some (.lst xs)) (h0 : -(2 ^ 63) ≤ k) (h1 : k < 2 ^ 63) (hz : xs.length * k.toNat ≤ sizeLine) (h : ∀ p, H p = none → Q (.ref p) (upd H p (.lst (List.replicate k.toNat xs).flatten))) : rMulA (.ref a) (.int k) H Q :=
  .inr (.inr ⟨a, k, xs, rfl, rfl, ha, h0, h1, hz, h⟩)
end
end L2

namespace L2
open PySem PySem.Spec PyProof.Rows
section
variable {X : Cx} {tg iter elt : Expr} {ifs : List Expr} {scope : Scope} {pos : Pos} {N' : List Str} {sub : List (Option Nat)} {wi : TI} {g : TG} {tt : TT} {te : TE}
theorem comp_use {N : List Str} {sc : Scope} {use : Option (Value → Sem Unit)} {R : Value → Shared → Prop} {p0 : Pos} (S : SubOk N sc N' scope sub) (hc : X.calm = true) (hN : X.N = N) (hsc : X.env.scope = sc) (hi : PI X tg iter wi)
    (hg : ∀ (C : Addr) (s₀ : Shared) (H₀ : Hp) (ex : List Addr), PG (cxC X N' scope C s₀ H₀ ex) tg g)
    (ht : ∀ (C : Addr) (s₀ : Shared) (H₀ : Hp) (ex : List Addr), PIfs (cxC X N' scope C s₀ H₀ ex) ifs tt)
    (he : ∀ (C : Addr) (s₀ : Shared) (H₀ : Hp) (ex : List Addr), PE (cxC X N' scope C s₀ H₀ ex) elt te)
    (hs : ∀ x, foldedSetIterable iter X.env x = pure x) (pins : List (Addr × Obj)) (s : Shared) (σ : St) (H : Hp) (Q : VK) (I : Inv X pins σ H s) (h : tComp sub wi g tt te σ H Q)
    (hend : ∀ (D C : Addr) (s5 : Shared) (H5 : Hp) (m : Str → Option Value), Inv X pins σ H5 s5 → FpOk X pins H5 C → s5.heap.Ns C m → Q (.ref D) H5 → compPost (model X.prog X.w) X.A X.xe use R (.ref D) C (.ok .next) s5) :
    wpAny (model X.prog X.w) X.A (comprehension (.ListComp elt [⟨tg, iter, ifs, 0⟩] scope pos) scope X.env p0 (newList []) false (eval iter X.env) use) R X.xe s := by
  have hcl : ∀ x ∈ scope.names, x.2 = NameKind.free → ∃ c, X.env.cells.lookup x.1 = some c := fun x hx hk => I.ok.has x.1 (by have := S.free x hx hk; rw [← hsc] at this; exact this)
  refine wpAny_comprehension_free (use := use) rfl hs (closureFor_cl hcl) S.kind S.loc ?_
  refine thn (hi pins s σ H _ I h) fun v s1 h1 => thn h1 fun itv s2 h2 => ?_
  obtain ⟨it, fp, tn, J, H2, e, I2, T, st2, f2, W, ⟨m0, w0⟩, turn⟩ := h2
  subst e
  refine wpAny_newObj_type (wpAny_newFunctionEnv_cl fun h₁ hns₁ hk31 hcl₁ => ?_)
  dsimp only at hns₁ hk31 hcl₁ ⊢
  generalize hs3 : ({ s2 with heap := s2.heap.push { cls := .type "list", dict := none, data := .seq ([] : List Value).toArray } } : Shared) = s3
  have e3 : s2.heap.push { cls := .type "list", dict := none, data := .seq ([] : List Value).toArray } = s3.heap := by rw [← hs3]
  rw [e3] at hns₁ hk31 hcl₁ ⊢
  have hD3 : s3.heap.get? s2.heap.objs.size = some { cls := .type "list", dict := none, data := .seq ([] : List Value).toArray } := by rw [← e3]; exact Heap.get?_push_size _ rfl
  have I3 : Inv X pins σ H2 s3 := by
    rw [← hs3]
    exact I2.kept (t' := s2.toks) fun b o e => Heap.get?_push_of_some _ e
  have k23 : ∀ b o, s2.heap.get? b = some o → s3.heap.get? b = some o := fun b o e => by rw [← e3]; exact Heap.get?_push_of_some _ e
  have hsz : s3.heap.objs.size = s2.heap.objs.size + 1 := by rw [← e3, Heap.size_push]
  have hDn : H2 s2.heap.objs.size = none := I2.hok.fresh (Nat.le_refl _)
  have fD : FpOk X pins H2 s2.heap.objs.size := I2.fpOk (Nat.le_refl _) hDn
  have hfo : ∀ b ∈ fp, b < s2.heap.objs.size := fun b hb => let ⟨o, e, _⟩ := T.obj _ _ st2 b hb; Heap.lt_size e
  have hDfp : s2.heap.objs.size ∉ fp := fun z => absurd (hfo _ z) (Nat.lt_irrefl _)
  have I4 := inv_block (tk := s3.toks + ([] : List (Str × Value)).length) S hN hsc I3 f2 (fun b hb => by rw [hsz]; exact Nat.lt_succ_of_lt (hfo b hb)) (D := s2.heap.objs.size) (by rw [hsz]; exact Nat.lt_succ_self _) fD hns₁ hk31 hcl₁
  -- facts of the block
  have stat : ∀ {H' : Hp} {ob : Obj}, (∀ b ∈ fp, H' b = none) → ∀ b ∈ fp, FpOk (cxC X N' scope s3.heap.objs.size s3 H2 (s2.heap.objs.size :: fp)) [(s2.heap.objs.size, ob)] H' b := fun {H' ob} hn b hb => by
    obtain ⟨q1, q2⟩ := I4.ok.exf b (List.mem_cons_of_mem _ hb)
    refine ⟨hn b hb, q1, I4.ok.exfs b (List.mem_cons_of_mem _ hb), .inl (List.mem_cons_of_mem _ hb), q2, fun p hp z => ?_⟩
    have hp' : p = (s2.heap.objs.size, ob) := by simpa [cxC] using hp
    subst hp'
    have z' : s2.heap.objs.size = b := z
    exact hDfp (by rw [z']; exact hb)
  generalize hXC : cxC X N' scope s3.heap.objs.size s3 H2 (s2.heap.objs.size :: fp) = XC at I4 stat
  have eP : XC.prog = X.prog := by rw [← hXC]; rfl
  have eW : XC.w = X.w := by rw [← hXC]; rfl
  have eK : XC.K = X.K := by rw [← hXC]; rfl
  have eA : XC.A = X.A := by rw [← hXC]; rfl
  have eE : XC.env = compEnvC scope (clC X scope s3.heap.objs.size) s3.heap.objs.size X.env := by rw [← hXC]; rfl
  have eC : XC.calm = true := by rw [← hXC]; exact hc
  have eX : XC.xe = fun _ _ => False := by rw [← hXC]; rfl
  have eH : XC.H₀ = H2 := by rw [← hXC]; rfl
  have eS : XC.s₀ = s3 := by rw [← hXC]; rfl
  have eF : XC.fs = frs X.stack := by rw [← hXC]; rfl
  have eEx : XC.ex = s2.heap.objs.size :: fp := by rw [← hXC]; rfl
  have ePn : XC.pn = [] := by rw [← hXC]; rfl
  have hgC : PG XC tg g := by rw [← hXC]; exact hg _ _ _ _
  have htC : PIfs XC ifs tt := by rw [← hXC]; exact ht _ _ _ _
  have heC : PE XC elt te := by rw [← hXC]; exact he _ _ _ _
  have pinD : ∀ {σ' : St} {H' : Hp} {s' : Shared} {ob : Obj}, Inv XC [] σ' H' s' → H' s2.heap.objs.size = none → s'.heap.get? s2.heap.objs.size = some ob → (∀ v, ob.data ≠ .cell v) → Inv XC [(s2.heap.objs.size, ob)] σ' H' s' := fun {σ' H' s' ob} J hn hg hd =>
    J.pins_of fun p hp => by
      have hp' : p = (s2.heap.objs.size, ob) := by simpa using hp
      subst hp'
      refine ⟨hg, hn, (J.ok.exf _ (by rw [eEx]; exact List.mem_cons_self)).1, J.ok.exfs _ (by rw [eEx]; exact List.mem_cons_self), hd⟩
  have loop : codeAny (model X.prog X.w) X.A (.compLoop (.ListComp elt [⟨tg, iter, ifs, 0⟩] scope pos) 0 (.ref it) (.ref s2.heap.objs.size) (compEnvC scope (clC X scope s3.heap.objs.size) s3.heap.objs.size X.env))
      (compPost (model X.prog X.w) X.A X.xe use R (.ref s2.heap.objs.size) s3.heap.objs.size) { s3 with heap := h₁, toks := s3.toks + ([] : List (Str × Value)).length } := by
    refine comp_loop (fun n s' => ∃ (i : Nat) (ys : List V) (its : List Value) (nn : Nat) (H' : Hp), Inv XC [] (subSt sub σ) H' s' ∧ tn i s'.heap ∧ (∀ b ∈ fp, H' b = none) ∧ H' s2.heap.objs.size = none ∧
      s'.heap.get? s2.heap.objs.size = some { cls := .type "list", data := .seq its.toArray nn } ∧ Vals ys its ∧ W i n ys H') ?_ m0
      ⟨0, [], [], _, H2, I4, T.keep _ _ _ st2 fun b _ o e => hk31 b o (k23 b o e), fun b hb => (f2 b hb).1, hDn, hk31 _ _ hD3, .nil, w0⟩
    rintro n s4 ⟨i, ys, its, nn, H4, J4, st4, fr4, dn4, dg4, rv4, w4⟩
    have P4 := pinD J4 dn4 dg4 (fun v z => by cases z)
    rcases turn i n ys H4 w4 with ⟨stop, hyl, qn⟩ | ⟨go, hyl, N, hN, step⟩
    · have hdone := T.done XC eP eW eK eC i _ s4 _ H4 (fun _ _ => False) P4 (stat fr4) st4 stop
      rw [eA] at hdone
      refine wpAny_mono hdone (fun r s5 ⟨hr, I5⟩ => ?_) fun _ _ z => z
      subst hr
      -- the end
      obtain ⟨m, hn, _⟩ := id I5.loc
      have hCe : XC.env.locals = s3.heap.objs.size := by rw [eE]; rfl
      rw [hCe] at hn
      have hDg := (I5.pin (s2.heap.objs.size, _) (by rw [ePn]; exact List.mem_cons_self)).1
      have hDne : s2.heap.objs.size ≠ s3.heap.objs.size := by rw [hsz]; exact Nat.ne_of_lt (Nat.lt_succ_self _)
      have hHC : H4 s3.heap.objs.size = none := by have := I5.free; rw [hCe] at this; exact this
      have k56 : ∀ b o, b ≠ s3.heap.objs.size → s5.heap.get? b = some o → s5.heap.get? b = some o := fun b o hb e => e
      have un := I5.base
      rw [eF, eEx, eH, eS] at un
      have nC : ∀ b o, s3.heap.get? b = some o → b ≠ s3.heap.objs.size := fun b o e => Nat.ne_of_lt (Heap.lt_size e)
      have hok6 : HOk X.prog X.w (upd H4 s2.heap.objs.size (.lst ys)) s5.heap := by
        have h5 := I5.hok
        rw [eP, eW] at h5
        have trk : ∀ b u, H4 b = some u → b ≠ s3.heap.objs.size := fun b u e z => by rw [z, hHC] at e; cases e
        intro b u e
        by_cases hb : b = s2.heap.objs.size
        · subst hb
          rw [upd_same] at e; cases e
          exact ⟨hyl, its, nn, rv4, k56 _ _ hDne hDg⟩
        · rw [upd_ne hb] at e
          have nD : ∀ c u, H4 c = some u → c ≠ s2.heap.objs.size := fun c u e z => by rw [z, dn4] at e; cases e
          refine (h5 b u e).stay (fun c v hc' q => k56 c v ?_ q) (fun c q => by rw [upd_ne (nD c _ q)]; exact q) fun c xs q => by rw [upd_ne (nD c _ q)]; exact q
          rcases hc' with z | z
          · rw [z]; exact trk b u e
          · exact trk c _ z
      have nD2 : ∀ c u, H4 c = some u → c ≠ s2.heap.objs.size := fun c u e z => by rw [z, dn4] at e; cases e
      have un6 : Un (frs X.stack) (s2.heap.objs.size :: fp) H2 (upd H4 s2.heap.objs.size (.lst ys)) s3.heap s5.heap :=
        ⟨fun b o e nn' hb hx => k56 b o (nC b o e) (un.keep b o e nn' hb hx), fun b o e nn' hb hx => let ⟨sl, q⟩ := un.slot b o e nn' hb hx; ⟨sl, k56 b _ (nC b o e) q⟩,
          fun b o e nn' hx => by rw [upd_ne (fun z => hx (by rw [z]; exact List.mem_cons_self))]; exact un.free b o e nn' hx,
          fun b o e hx => let ⟨o', q⟩ := un.there b o e hx; ⟨o', k56 b o' (nC b o e) q⟩,
          fun b xs e => by have q := un.tups b xs e; rw [upd_ne (nD2 b _ q)]; exact q,
          fun b o u e => by have q := un.frzs b o u e; rw [upd_ne (nD2 b _ q)]; exact q,
          fun b ps e => let ⟨more, q⟩ := un.tbls b ps e; ⟨more, by rw [upd_ne (nD2 b _ q)]; exact q⟩⟩
      have I6 : Inv X pins σ (upd H4 s2.heap.objs.size (.lst ys)) s5 := by
        refine I3.call' (s' := s5) (ch := s2.heap.objs.size :: fp) ?_ un6 hok6 I5.bare fun b hb => ?_
        · show s5.os = s3.os
          have := I5.os
          rw [eS] at this
          exact this
        · have q : FpOk X pins H2 b := by
            rcases List.mem_cons.mp hb with rfl | z
            · exact fD
            · exact f2 b z
          obtain ⟨f0, f1, f2', f3, f4, f5⟩ := q
          exact ⟨f3, f1, f4, f5⟩
      have dC : upd H4 s2.heap.objs.size (.lst ys) s3.heap.objs.size = none := by rw [upd_ne (Ne.symm hDne)]; exact hHC
      exact hend _ _ s5 _ m I6 (I3.fpOk (Nat.le_refl _) dC) hn (qn _ dn4)
    · have hitem := T.item XC eP eW eK eC i _ s4 _ H4 (fun _ _ => False) P4 (stat fr4) st4 go
      rw [eA] at hitem
      refine wpAny_mono hitem (fun r s5 ⟨u, hr, h5⟩ => ?_) fun _ _ z => z
      subst hr
      dsimp only
      refine wpAny_mono h5 (fun _ s6 ⟨x, H6, I6, r6, y6, st6, fr6⟩ => ?_) fun _ _ z => z
      have P6 := I6.pinned (stat fr6) (T.obj _ _ st6)
      rw [← eE, ← eP, ← eW, ← eA]
      refine wpAny_mono (hgC _ s6 _ H6 x u _ P6 r6 (step x H6 y6)) (fun _ s7 ⟨σ7, H7, I7, kp7, q7⟩ => ?_) fun _ _ z => by rw [eX] at z; exact z
      refine wpAny_mono (htC _ s7 σ7 H7 _ I7 q7) (fun ok s8 ⟨H8, I8, q8⟩ => ?_) fun _ _ z => by rw [eX] at z; exact z
      -- back to the turn's start
      have fin : ∀ {H9 : Hp} {s9 : Shared}, Inv XC ([(s2.heap.objs.size, ({ cls := .type "list", data := .seq its.toArray nn } : Obj))] ++ pinsAt fp s6.heap) σ7 H9 s9 → Inv XC [] (subSt sub σ) H9 s9 ∧ tn (i + 1) s9.heap ∧ (∀ b ∈ fp, H9 b = none) ∧ H9 s2.heap.objs.size = none ∧
          s9.heap.get? s2.heap.objs.size = some { cls := .type "list", data := .seq its.toArray nn } := fun {H9 s9} J => by
        have pD := J.pin (s2.heap.objs.size, ({ cls := .type "list", data := .seq its.toArray nn } : Obj)) (by rw [ePn]; simp)
        have pF : ∀ b ∈ fp, ∀ o, s6.heap.get? b = some o → s9.heap.get? b = some o ∧ H9 b = none := fun b hb o e => by
          have q := J.pin (b, o) (by rw [ePn]; exact List.mem_append_right _ (List.mem_append_right _ (mem_pinsAt hb e)))
          exact ⟨q.1, q.2.1⟩
        refine ⟨?_, T.keep _ _ _ st6 fun b hb o e => (pF b hb o e).1, fun b hb => ?_, pD.2.1, pD.1⟩
        · have J0 : Inv XC [] σ7 H9 s9 := J.pins_of fun p hp => nomatch hp
          exact J0.weak kp7.1.symm fun j v e => kp7.2 j v e
        · obtain ⟨o, e, _⟩ := T.obj _ _ st6 b hb
          exact (pF b hb o e).2
      cases ok with
      | false =>
        rw [if_neg (by simp)]
        rw [if_neg (by simp)] at q8
        obtain ⟨m', hm, w8⟩ := hN _ _ q8
        obtain ⟨a1, a2, a3, a4, a5⟩ := fin I8
        exact ⟨m', hm, i + 1, ys, its, nn, H8, a1, a2, a3, a4, a5, rv4, w8⟩
      | true =>
        rw [if_pos rfl]
        rw [if_pos rfl] at q8
        refine wpAny_mono (heC _ s8 σ7 H8 _ I8 q8) (fun xv s9 ⟨y, H9, I9, r9, n9⟩ => ?_) fun _ _ z => by rw [eX] at z; exact z
        obtain ⟨m', hm, w9⟩ := hN _ _ n9
        obtain ⟨a1, a2, a3, a4, a5⟩ := fin I9
        refine wpAny_list_append_plain (items := its.toArray) ⟨nn, a5⟩ (fun h' ⟨n', hp'⟩ sb => ?_) (by simp; rw [← rv4.length]; omega)
        obtain ⟨q1, q2⟩ := I4.ok.exf s2.heap.objs.size (by rw [eEx]; exact List.mem_cons_self)
        have a1' : Inv XC [] (subSt sub σ) H9 { s9 with heap := h' } := a1.turned (t' := s9.toks) (fun b o hb e => (sb.2 b hb).trans e) a4 q1 (.inl (by rw [eEx]; exact List.mem_cons_self)) q2 (fun p hp => by rw [ePn] at hp; exact nomatch hp)
        refine ⟨m', hm, i + 1, ys ++ [y], its ++ [xv], n', H9, a1', T.keep _ _ _ a2 fun b hb o e => (sb.2 b (fun z => hDfp (by rw [← z]; exact hb))).trans e, a3, a4, ?_, rv4.append (.cons r9 .nil), w9⟩
        rw [hp']
        simp
  subst hs3
  exact codeAny_compStart_list loop (T.self _ 0 _ _ _ (T.keep _ _ _ st2 fun b _ o e => hk31 b o (k23 b o e)) loop)
theorem ps_setComp {N : List Str} {sc : Scope} {i : Nat} {x : Str} {pos' spos : Pos} (hNd : X.N.Nodup) (hxi : X.N[i]? = some x) (hx : Loc X.env.scope x) (hf : X.fn x = true) (S : SubOk N sc N' scope sub) (hc : X.calm = true) (hN : X.N = N) (hsc : X.env.scope = sc) (hi : PI X tg iter wi)
    (hg : ∀ (C : Addr) (s₀ : Shared) (H₀ : Hp) (ex : List Addr), PG (cxC X N' scope C s₀ H₀ ex) tg g)
    (ht : ∀ (C : Addr) (s₀ : Shared) (H₀ : Hp) (ex : List Addr), PIfs (cxC X N' scope C s₀ H₀ ex) ifs tt)
    (he : ∀ (C : Addr) (s₀ : Shared) (H₀ : Hp) (ex : List Addr), PE (cxC X N' scope C s₀ H₀ ex) elt te)
    (hs : ∀ x, foldedSetIterable iter X.env x = pure x) : PS X (.Assign [.Name x pos'] (.ListComp elt [⟨tg, iter, ifs, 0⟩] scope pos) spos) (tAsg (tComp sub wi g tt te) (gName i)) := by
  intro pins s σ H D I h
  have hsw : ∃ b, swapsWith (.ListComp elt [⟨tg, iter, ifs, 0⟩] scope pos) (some (.Name x pos')) spos.line X.env = pure b := ⟨_, rfl⟩
  obtain ⟨b, hsw⟩ := hsw
  cases b with
  | false => exact ps_set hNd hxi hx (pe_comp S hc hN hsc hi hg ht he hs) hsw (.inl hf) pins s σ H D I h
  | true =>
    rw [exec_Assign_Name_used _ _ _ _ hsw]
    refine wpAny_bind (wpAny_standAt (wpAny_bind ?_))
    show wpAny _ X.A (do let _ ← comprehension (.ListComp elt [⟨tg, iter, ifs, 0⟩] scope pos) scope X.env _ (newList []) false (eval iter X.env) (some (assign (.Name x pos') X.env))) _ _ s
    refine wpAny_bind (wpAny_mono (comp_use (use := some (assign (.Name x pos') X.env)) (R := fun _ s' => SP X pins D .next s') S hc hN hsc hi hg ht he hs pins s σ H _ I h ?_) (fun _ s' hq => wpAny_pure (wpAny_pure hq)) fun _ _ e => e)
    intro Da C s5 H5 m I5 fC hn q
    show wpAny _ X.A (assign (.Name x pos') X.env (.ref Da)) _ _ _
    refine wpAny_assign_Name (store_ok2 I5 hNd hxi hx (v := .ref Da) rfl (fun s6 I6 qq0 => ?_) (.inl hf))
    obtain ⟨a, sb, ha⟩ := qq0
    obtain ⟨f0, f1, f2, f3, f4, f5⟩ := fC
    have hCa : C ≠ a := fun z => by
      rcases ha with e | e
      · exact f1 (z.trans e)
      · exact f4 x a e z.symm
    exact ⟨m, hn.sameBut sb hCa, fun h' hs' => ⟨_, H5, I6.turned (t' := s6.toks) (fun b o hb e => hs'.extBut b o hb e) f0 f1 f3 f4 f5, q⟩⟩
end
section
variable {X : Cx} {tg iter elt : Expr} {ifs : List Expr} {scope : Scope} {pos : Pos} {N' : List Str} {sub : List (Option Nat)} {wi : TI} {g : TG} {tt : TT} {te : TE} {N : List Str} {sc : Scope}
theorem js_setC {i : Nat} {x : Str} {pos' spos : Pos} (hNd : X.N.Nodup) (hxi : X.N[i]? = some x) (hx : Loc X.env.scope x) (S : SubOk N sc N' scope sub) (hc : X.calm = true) (hN : X.N = N) (hsc : X.env.scope = sc) (hi : JI X tg iter wi)
    (hg : ∀ (C : Addr) (s₀ : Shared) (H₀ : Hp) (ex : List Addr), JG (cxC X N' scope C s₀ H₀ ex) tg g)
    (ht : ∀ (C : Addr) (s₀ : Shared) (H₀ : Hp) (ex : List Addr), JIfs (cxC X N' scope C s₀ H₀ ex) ifs tt)
    (he : ∀ (C : Addr) (s₀ : Shared) (H₀ : Hp) (ex : List Addr), JE (cxC X N' scope C s₀ H₀ ex) elt te) (hf : X.fn x = true) (h : autoParam (notSet iter = true) L2.auto4._auto_1) :
    JS X (.Assign [.Name x pos'] (.ListComp elt [⟨tg, iter, ifs, 0⟩] scope pos) spos) (tAsg (tComp sub wi g tt te) (gName i)) :=
  ⟨ps_setComp hNd hxi hx hf S hc hN hsc hi.run (fun C s₀ H₀ ex => (hg C s₀ H₀ ex).run) (fun C s₀ H₀ ex => (ht C s₀ H₀ ex).run) (fun C s₀ H₀ ex => (he C s₀ H₀ ex).run) (fs_no h)⟩
end
end L2

namespace L2
open PySem PySem.Spec PyProof.Rows
section
variable {X : Cx} {pins : List (Addr × Obj)} {σ : St} {H : Hp} {s : Shared}
theorem Inv.newtup {wr : List Addr} {T : Addr} {vals : Array Value} {xs : List V} {h'' : Heap} {tk : Nat} (I : Inv X pins σ H s) (hf : ∀ b ∈ wr, FpOk X pins H b) (hT : s.heap.objs.size ≤ T)
    (kall : ∀ b o, b ∉ wr → s.heap.get? b = some o → h''.get? b = some o) (isT' : h''.IsTuple T vals) (hv : Vals xs vals.toList) (hx : xs.length ≤ sizeLine) : Inv X pins σ (upd H T (.tup xs)) { s with heap := h'', toks := tk } := by
  have hTn : H T = none := I.hok.fresh hT
  have nT : ∀ b o, s.heap.get? b = some o → b ≠ T := fun b o e => Nat.ne_of_lt (Nat.lt_of_lt_of_le (Heap.lt_size e) hT)
  have nTH : ∀ b u, H b = some u → b ≠ T := fun b u e z => by rw [z, hTn] at e; cases e
  have nW : ∀ b u, H b = some u → b ∉ wr := fun b u e hb => by rw [(hf b hb).1] at e; cases e
  refine I.step (g' := s.gens) (d' := s.drawn) (ch := wr) (fun b hb => ?_) (fun b o _ _ hc e _ => kall b o hc e) (fun b o _ _ hc e _ => ⟨o.slots, kall b o hc e⟩) (fun b o _ e hn => by rw [upd_ne (nT b o e)]; exact hn)
    (fun b o hc e => ⟨o, kall b o hc e⟩) (fun b ys e => by rw [upd_ne (nTH b _ e)]; exact e) (fun b o u e => by rw [upd_ne (nTH b _ e)]; exact e) (fun b ps e => ⟨#[], by rw [upd_ne (nTH b _ e), e]; simp⟩) (fun m hm => ?_) (fun b u e => ?_) I.bare
  · obtain ⟨f0, f1, f2, f3, f4, f5⟩ := hf b hb
    exact ⟨f3, f1, f4, f5⟩
  · obtain ⟨o, es, ep, ho, r⟩ := hm
    exact ⟨o, es, ep, kall _ o (fun hb => (hf _ hb).2.1 rfl) ho, r⟩
  · by_cases hb : b = T
    · subst hb
      rw [upd_same] at e; cases e
      obtain ⟨o, ho, hcl, nn, hd⟩ := isT'
      exact ⟨hx, vals.toList, hv, o, ho, hcl, nn, by simpa using hd⟩
    · rw [upd_ne hb] at e
      refine (I.hok b u e).stay (fun c v hc' q => kall c v ?_ q) (fun c q => by rw [upd_ne (nTH c _ q)]; exact q) fun c ys q => by rw [upd_ne (nTH c _ q)]; exact q
      rcases hc' with z | z
      · rw [z]; exact nW b u e
      · exact nW c _ z
theorem Inv.only {wr : List Addr} {h' : Heap} {tk : Nat} (I : Inv X pins σ H s) (hf : ∀ b ∈ wr, FpOk X pins H b) (kk : ∀ b o, b ∉ wr → s.heap.get? b = some o → h'.get? b = some o) : Inv X pins σ H { s with heap := h', toks := tk } := by
  have nW : ∀ b u, H b = some u → b ∉ wr := fun b u e hb => by rw [(hf b hb).1] at e; cases e
  refine I.step (g' := s.gens) (d' := s.drawn) (ch := wr) (fun b hb => ?_) (fun b o _ _ hc e _ => kk b o hc e) (fun b o _ _ hc e _ => ⟨o.slots, kk b o hc e⟩) (fun b o _ e hn => hn)
      (fun b o hc e => ⟨o, kk b o hc e⟩) (fun b ys e => e) (fun b o u e => e) (fun b ps e => ⟨#[], by rw [e]; simp⟩) (fun m hm => ?_) (fun b u e => ?_) I.bare
  · obtain ⟨f0, f1, f2, f3, f4, f5⟩ := hf b hb
    exact ⟨f3, f1, f4, f5⟩
  · obtain ⟨o, es, ep, ho, r⟩ := hm
    exact ⟨o, es, ep, kk _ o (fun hb => (hf _ hb).2.1 rfl) ho, r⟩
  · refine (I.hok b u e).stay (fun c v hc' q => kk c v ?_ q) (fun c q => q) fun c ys q => q
    rcases hc' with z | z
    · rw [z]; exact nW b u e
    · exact nW c _ z
end
noncomputable def Ite (K : PySem.W.Frag) (a : Addr) : It :=
  ⟨fun i H => ∃ xs x, SqL K H a xs ∧ xs[i]? = some x,
   fun i H v H' => ∃ T x, H T = none ∧ v = .ref T ∧ (∀ xs, SqL K H a xs → xs[i]? = some x) ∧ H' = upd H T (.tup [.int i, x]),
   fun i H => ∃ xs, SqL K H a xs ∧ xs.length ≤ i⟩
theorem turn_enumL {P : Program} {w : World} {K : PySem.W.Frag} {elts : List Expr} {k : Nat} {pos : Pos} {e it a : Addr} (hne : e ≠ it) :
    Turn P w K (.Tuple elts k pos) (Ite K a) [e, it] e (fun i h => (∃ old, IsEnum h e it i old) ∧ h.IsListIter it a i) where
  mem := by simp
  obj := fun i h st c hc => by
    obtain ⟨⟨old, he⟩, ⟨o1, e1, c1, d1⟩⟩ := st
    simp only [List.mem_cons, List.mem_nil_iff, or_false] at hc
    rcases hc with rfl | rfl
    · exact ⟨_, he, fun v z => by cases z⟩
    · exact ⟨_, e1, fun v z => by rw [d1] at z; cases z⟩
  keep := fun i h h' st kk => by
    obtain ⟨⟨old, he⟩, h1⟩ := st
    exact ⟨⟨old, kk e (by simp) _ he⟩, h1.at fun o q => kk it (by simp) o q⟩
  item := by
    intro X hP hw hK hc i pins s σ H E I hf st hg
    subst hP hw hK
    obtain ⟨⟨old, he⟩, h1⟩ := st
    obtain ⟨xs, x, hq, hx⟩ := hg
    obtain ⟨its, rv, p, _⟩ := I.list hq
    obtain ⟨u, hu, ru⟩ := rv.get hx
    refine wpAny_pyNext_enum_item he h1 p.isList (x := u) (by simpa using hu) hne fun h' a1 a2 a3 a4 hk => ?_
    refine ⟨_, rfl, wpAny_letOwnedTupleGo_enum a1 fun h'' a1' sb => ?_⟩
    have lt : ∀ {c o}, s.heap.get? c = some o → s.heap.objs.size ≠ c := fun e => Nat.ne_of_gt (Heap.lt_size e)
    have lti : s.heap.objs.size ≠ it := by obtain ⟨o, q, _⟩ := h1; exact lt q
    have isT : h''.IsTuple s.heap.objs.size #[.int i s.toks, u] := ⟨_, sb.extBut _ _ (lt he) a3, rfl, _, rfl⟩
    have kall : ∀ b o, b ∉ [e, it] → s.heap.get? b = some o → h''.get? b = some o := fun b o hb q => by
      simp only [List.mem_cons, List.mem_nil_iff, or_false, not_or] at hb
      exact sb.extBut _ _ hb.1 (hk b o hb.1 hb.2 q)
    have hTn : H s.heap.objs.size = none := I.hok.fresh (Nat.le_refl _)
    refine ⟨.ref s.heap.objs.size, _, I.newtup (tk := s.toks + 1) hf (Nat.le_refl _) kall isT (xs := [.int i, x]) (.cons ⟨_, rfl⟩ (.cons ru .nil)) (by simp; decide), rfl, ⟨_, x, hTn, rfl, fun zs hs => by rw [I.list_inj hs hq]; exact hx, rfl⟩, ?_, fun b hb => ?_⟩
    · exact ⟨⟨_, a1'⟩, a2.extBut sb.extBut (Ne.symm hne)⟩
    · have : s.heap.objs.size ≠ b := by
        simp only [List.mem_cons, List.mem_nil_iff, or_false] at hb
        rcases hb with rfl | rfl
        · exact lt he
        · exact lti
      rw [upd_ne (Ne.symm this)]
      exact (hf b hb).1
  done := by
    intro X hP hw hK hc i pins s σ H E I hf st hg
    subst hP hw hK
    obtain ⟨⟨old, he⟩, h1⟩ := st
    obtain ⟨xs, hq, hx⟩ := hg
    obtain ⟨its, rv, p, _⟩ := I.list hq
    have l1 := rv.length
    refine wpAny_pyNext_enum_end (I.ok.hd hc) he h1 p.isList (by simp; omega) fun h' hk => ⟨rfl, I.only (tk := s.toks) hf fun b o hb q => ?_⟩
    simp only [List.mem_cons, List.mem_nil_iff, or_false, not_or] at hb
    exact hk b o hb.2 q
  self := fun _ _ _ _ _ st h => let ⟨⟨_, he⟩, _⟩ := st; wpAny_pyIter_enum he h
theorem enumS_run {X : Cx} {elts : List Expr} {k : Nat} {tp : Pos} {pins : List (Addr × Obj)} {σ : St} {H1 : Hp} {s1 : Shared} {x : Str} {t : Tok} {R : It → Hp → Prop} (hc : X.calm = true) (I1 : Inv X pins σ H1 s1) (q : R (Itp (enumS x) x.cps.size) H1) :
    wpAny (model X.prog X.w) X.A (call (.type "enumerate") [.str x t]) (fun v s1 => wpAny (model X.prog X.w) X.A (pyIter v) (PIE X pins σ (.Tuple elts k tp) R) X.xe s1) X.xe s1 := by
  refine call_enumerate_str fun h' he hit hsz hk => ?_
  have J1 : Inv X pins σ H1 { s1 with heap := h' } := I1.kept (t' := s1.toks) hk
  have ne1 : s1.heap.objs.size + 1 ≠ s1.heap.objs.size := Nat.succ_ne_self _
  have nm : s1.heap.objs.size + 1 ∉ [s1.heap.objs.size] := fun z => ne1 (List.mem_singleton.mp z)
  have hPt : ∀ (i : Nat) (vals : Array Value), (∃ t y, SignAt x i y ∧ vals = #[.int i t, y]) → Vals (enumS x i) vals.toList := by
    rintro i vals ⟨t, y, ⟨c, u, e1, rfl⟩, rfl⟩
    refine .cons ⟨t, rfl⟩ (.cons ⟨u, ?_⟩ .nil)
    rw [show x.cps.getD i 0 = c by simp [Array.getD_eq_getD_getElem?, e1]]
  have fin : ∀ (ty : String) (Dr : ∀ A : Around, A.handled = none → Draws X.prog X.w A s1.heap.objs.size [s1.heap.objs.size] x.cps.size (SignAt x) fun i h => h.IsStrIter s1.heap.objs.size ty x t i), h'.IsStrIter s1.heap.objs.size ty x t 0 →
      wpAny (model X.prog X.w) X.A (pyIter (.ref (s1.heap.objs.size + 1))) (PIE X pins σ (.Tuple elts k tp) R) X.xe { s1 with heap := h' } := by
    intro ty Dr hit'
    have W : ∀ A : Around, A.handled = none → WalksT X.prog X.w A (s1.heap.objs.size + 1) [s1.heap.objs.size + 1, s1.heap.objs.size] [s1.heap.objs.size + 1, s1.heap.objs.size] x.cps.size
        (fun i vals => ∃ t y, SignAt x i y ∧ vals = #[.int i t, y]) (fun i h => (∃ old, IsEnum h (s1.heap.objs.size + 1) s1.heap.objs.size i old) ∧ h.IsStrIter s1.heap.objs.size ty x t i)
        (fun i T h => (∃ y, IsEnumOut h (s1.heap.objs.size + 1) s1.heap.objs.size ((i : Int) + 1) y T) ∧ h.IsStrIter s1.heap.objs.size ty x t (i + 1) ∧ T ≠ s1.heap.objs.size + 1 ∧ T ≠ s1.heap.objs.size) :=
      fun A hA => WalksT.enumerateD (Dr A.in1 hA) (s1.heap.objs.size + 1) ne1 nm (by simp)
    have hself : ∀ (A : Around) (i : Nat) (s : Shared) (Q : Value → Shared → Prop) (E : Value → Shared → Prop), ((∃ old, IsEnum s.heap (s1.heap.objs.size + 1) s1.heap.objs.size i old) ∧ s.heap.IsStrIter s1.heap.objs.size ty x t i) → Q (.ref (s1.heap.objs.size + 1)) s → wpAny (model X.prog X.w) A (pyIter (.ref (s1.heap.objs.size + 1))) Q E s := by
      rintro A i s Q E ⟨⟨old, he⟩, _⟩ hQ
      exact wpAny_pyIter_enum he hQ
    refine hself _ 0 _ _ _ ⟨⟨_, he⟩, hit'⟩ ?_
    refine ⟨s1.heap.objs.size + 1, [s1.heap.objs.size + 1, s1.heap.objs.size], _, _, H1, rfl, J1, turn_T W (fun i => by simp [enumS]; decide) hPt (by simp) ?_ hself, ⟨⟨_, he⟩, hit'⟩, fun b hb => ?_, q⟩
    · rintro i h ⟨⟨old, he⟩, o, ho, hcl, hd⟩ b hb
      rcases List.mem_cons.mp hb with rfl | hb
      · exact ⟨_, he, fun v z => by cases z⟩
      · rw [List.mem_singleton.mp hb]
        exact ⟨o, ho, fun v z => by rw [hd] at z; cases z⟩
    · have hb' : s1.heap.objs.size ≤ b := by
        rcases List.mem_cons.mp hb with rfl | hb
        · exact Nat.le_succ _
        · rw [List.mem_singleton.mp hb]; exact Nat.le_refl _
      exact I1.fpOk hb' (I1.hok.fresh hb')
  cases hx : x.cps.all (· < 128)
  · exact fin "str_iterator" (fun A hA => Draws.strWide hA _ x t) (by simpa [strIterType, hx] using hit)
  · exact fin "str_ascii_iterator" (fun A hA => Draws.strAscii hA _ x t) (by simpa [strIterType, hx] using hit)
noncomputable def iEnum (K : PySem.W.Frag) (ta : TA) : TI := fun σ H R => ta σ H fun vs H1 => (∃ x : Str, vs = [.str x] ∧ R (Itp (enumS x) x.cps.size) H1) ∨ ∃ a xs, vs = [.ref a] ∧ SqL K H1 a xs ∧ R (Ite K a) H1
theorem ji_enum {X : Cx} {K : PySem.W.Frag} {a : Expr} {ta : TA} {elts : List Expr} {k : Nat} {tp p pos : Pos} (hK : X.K = K) (hc : X.calm = true) (hg : Gl X "enumerate") (hm : X.mg "enumerate" = none) (ha : JA X [a] ta) (h : autoParam (notStar a = true) L2.auto4._auto_1) :
    JI X (.Tuple elts k tp) (.Call (.Name "enumerate" p) [a] [] pos) (iEnum K ta) := ⟨by
  subst hK
  intro pins s σ H R I hq
  -- the text's rule wants the reading's own form: split behind the argument
  refine Call_ (ld_blt I hg hm bt_enumerate (PyProof.Rows.callWith_type1 (thn (ha.run pos pins s σ H _ I hq) fun us s1 qq0 => ?_) (se_cons h) rfl))
  obtain ⟨vs, H1, I1, r1, q1⟩ := qq0
  rcases q1 with ⟨x, e, q⟩ | ⟨l, xs, e, hl, q⟩
  · subst e
    obtain ⟨u, rfl, t, rfl⟩ := vals1 r1
    exact enumS_run hc I1 q
  · subst e
    obtain ⟨u, rfl, ru⟩ := vals1 r1
    cases ru
    obtain ⟨its, rv, p1, _⟩ := I1.list hl
    refine call_enumerate_list p1.isList fun h' z1 z2 z3 hk => ?_
    have J1 : Inv X pins σ H1 { s1 with heap := h' } := I1.kept (t' := s1.toks) hk
    refine wpAny_pyIter_enum z1 ?_
    refine ⟨s1.heap.objs.size + 1, _, _, _, H1, rfl, J1, turn_enumL (Nat.succ_ne_self _), ⟨⟨_, z1⟩, z2⟩, fun b hb => ?_, q⟩
    have hb' : s1.heap.objs.size ≤ b := by
      simp only [List.mem_cons, List.mem_nil_iff, or_false] at hb
      have key : ∀ n c : Nat, (c = n + 1 ∨ c = n) → n ≤ c := fun n c h => by omega
      exact key _ _ hb
    exact I1.fpOk hb' (I1.hok.fresh hb')⟩
end L2

namespace L2
open PySem PySem.Spec PyProof.Rows PySem.SeqAt
mutual
noncomputable def DR (H : Hp) : PyData → V → Prop
  | .none, v => v = .non
  | .bool b, v => v = .bl b
  | .int n, v => v = .int n
  | .str x, v => v = .str x
  | .list ds, v => ∃ a vs, v = .ref a ∧ H a = some (.lst vs) ∧ DRs H ds vs
  | .tuple ds, v => ∃ a vs, v = .ref a ∧ H a = some (.tup vs) ∧ DRs H ds vs
  | .dict _, _ => False
noncomputable def DRs (H : Hp) : List PyData → List V → Prop
  | [], vs => vs = []
  | d :: ds, vs => ∃ v r, vs = v :: r ∧ DR H d v ∧ DRs H ds r
end
theorem DR_int {H : Hp} {n : Int} {v : V} : DR H (.int n) v ↔ v = .int n := by rw [DR]
theorem DR_list {H : Hp} {ds : List PyData} {v : V} : DR H (.list ds) v ↔ ∃ a vs, v = .ref a ∧ H a = some (.lst vs) ∧ DRs H ds vs := by rw [DR]
theorem DR_tuple {H : Hp} {ds : List PyData} {v : V} : DR H (.tuple ds) v ↔ ∃ a vs, v = .ref a ∧ H a = some (.tup vs) ∧ DRs H ds vs := by rw [DR]
theorem DRs_nil {H : Hp} {vs : List V} : DRs H [] vs ↔ vs = [] := by rw [DRs]
theorem DRs_cons {H : Hp} {d : PyData} {ds : List PyData} {vs : List V} : DRs H (d :: ds) vs ↔ ∃ v r, vs = v :: r ∧ DR H d v ∧ DRs H ds r := by rw [DRs]
theorem DRs_ints {H : Hp} : ∀ (ns : List Int), DRs H (ns.map PyData.int) (ns.map V.int)
  | [] => DRs_nil.mpr rfl
  | n :: ns => DRs_cons.mpr ⟨_, _, rfl, DR_int.mpr rfl, DRs_ints ns⟩
mutual
theorem DR.reads {P : Program} {w : World} {H : Hp} {h : Heap} (ok : HOk P w H h) : ∀ (d : PyData) (v : V) (u : Value), DR H d v → RelV v u → ∃ as, Reads h u d as
  | .none, _, u, q, r => by rw [DR] at q; subst q; cases r; exact ⟨_, .none⟩
  | .bool b, _, u, q, r => by rw [DR] at q; subst q; cases r; exact ⟨_, .bool _⟩
  | .int n, _, u, q, r => by rw [DR] at q; subst q; obtain ⟨t, rfl⟩ := r; exact ⟨_, .int _ _⟩
  | .str n, _, u, q, r => by rw [DR] at q; subst q; obtain ⟨t, rfl⟩ := r; exact ⟨_, .str _ _⟩
  | .list ds, v, u, q, r => by
    rw [DR] at q
    obtain ⟨a, vs, rfl, e, t⟩ := q
    cases r
    obtain ⟨_, its, n, rv, g⟩ := ok a _ e
    obtain ⟨as, ra⟩ := DRs.reads ok ds vs its t rv
    exact ⟨_, .list g rfl rfl (by simpa using ra)⟩
  | .tuple ds, v, u, q, r => by
    rw [DR] at q
    obtain ⟨a, vs, rfl, e, t⟩ := q
    cases r
    obtain ⟨_, its, rv, g⟩ := ok a _ e
    obtain ⟨as, ra⟩ := DRs.reads ok ds vs its t rv
    obtain ⟨o, ho, hc, n, hd⟩ := g
    exact ⟨_, .tuple ho hc hd (by simpa using ra)⟩
  | .dict _, _, _, q, _ => by rw [DR] at q; exact q.elim
theorem DRs.reads {P : Program} {w : World} {H : Hp} {h : Heap} (ok : HOk P w H h) : ∀ (ds : List PyData) (vs : List V) (us : List Value), DRs H ds vs → Vals vs us → ∃ as, ReadsAll h us ds as
  | [], _, us, q, r => by rw [DRs] at q; subst q; cases r; exact ⟨_, .nil⟩
  | d :: ds, _, us, q, r => by
    rw [DRs] at q
    obtain ⟨v, r', rfl, q1, q2⟩ := q
    cases r with
    | cons a b =>
      obtain ⟨as, h1⟩ := DR.reads ok d v _ q1 a
      obtain ⟨bs, h2⟩ := DRs.reads ok ds r' _ q2 b
      exact ⟨_, .cons h1 h2⟩
end
noncomputable def rEqD : R2 := fun x y H Q => ∃ d e, DR H d x ∧ DR H e y ∧ shaped d = true ∧ shaped e = true ∧ Q (.bl (PyData.eqv d e)) H
noncomputable def rNeD : R2 := fun x y H Q => ∃ d e, DR H d x ∧ DR H e y ∧ shaped d = true ∧ shaped e = true ∧ Q (.bl (!PyData.eqv d e)) H
section
variable {X : Cx}
theorem op_eqD (hu : X.A.units + 64 < cLine) : OpR X (compareOp .Eq) rEqD := by
  intro pins s σ H x y v u Q I rx ry h
  obtain ⟨d, e, h1, h2, h3, h4, q⟩ := h
  obtain ⟨as, r1⟩ := DR.reads I.hok d x v h1 rx
  obtain ⟨bs, r2⟩ := DR.reads I.hok e y u h2 ry
  exact eq_dataH r1 r2 h3 h4 hu ⟨.bl _, H, I, rfl, q⟩
theorem op_neD (hu : X.A.units + 64 < cLine) : OpR X (compareOp .NotEq) rNeD := by
  intro pins s σ H x y v u Q I rx ry h
  obtain ⟨d, e, h1, h2, h3, h4, q⟩ := h
  obtain ⟨as, r1⟩ := DR.reads I.hok d x v h1 rx
  obtain ⟨bs, r2⟩ := DR.reads I.hok e y u h2 ry
  exact ne_dataH r1 r2 h3 h4 hu ⟨.bl _, H, I, rfl, q⟩
noncomputable def rEqB (K : PySem.W.Frag) : R2 := fun x y H Q => rEqA K x y H Q ∨ rEqD x y H Q
noncomputable def rNeB (K : PySem.W.Frag) : R2 := fun x y H Q => rNeA K x y H Q ∨ rNeD x y H Q
theorem op_eqX {K : PySem.W.Frag} (hK : X.K = K) (hu : X.A.units + 64 < cLine) : OpR X (compareOp .Eq) (rEqB K) := (op_eqK hK (Nat.lt_of_le_of_lt (Nat.le_add_right _ _) hu)).or (op_eqD hu)
theorem op_neX {K : PySem.W.Frag} (hK : X.K = K) (hu : X.A.units + 64 < cLine) : OpR X (compareOp .NotEq) (rNeB K) := (op_neK hK hu).or (op_neD hu)
end
section
variable {H : Hp} {Q : VK} {K : PySem.W.Frag} {σ : St}
theorem r_eqBI {i j : Int} (h : Q (.bl (decide (V.int i = V.int j))) H) : rEqB K (.int i) (.int j) H Q := .inl (.inl ⟨rfl, h⟩)
theorem r_neBI {i j : Int} (h : Q (.bl (!decide (V.int i = V.int j))) H) : rNeB K (.int i) (.int j) H Q := .inl (.inl ⟨rfl, h⟩)
theorem r_eqSame {x y : V} {d : PyData} (h1 : DR H d x) (h2 : DR H d y) (hs : shaped d = true) (h : Q (.bl true) H) : rEqB K x y H Q :=
  .inr ⟨d, d, h1, h2, hs, hs, by rw [PySem.SeqAt.eqv_refl d (canLay_of_shaped hs)]; exact h⟩
theorem r_neSame {x y : V} {d : PyData} (h1 : DR H d x) (h2 : DR H d y) (hs : shaped d = true) (h : Q (.bl false) H) : rNeB K x y H Q :=
  .inr ⟨d, d, h1, h2, hs, hs, by rw [PySem.SeqAt.eqv_refl d (canLay_of_shaped hs)]; exact h⟩
theorem r_enumA {a : TA} {R : It → Hp → Prop} (h : a σ H fun vs H1 => (∃ x : Str, vs = [.str x] ∧ R (Itp (enumS x) x.cps.size) H1) ∨ ∃ a xs, vs = [.ref a] ∧ SqL K H1 a xs ∧ R (Ite K a) H1) : iEnum K a σ H R := h
theorem for_enumL {a : Addr} {xs : List V} {g : TG} {tb : TS} {D : Ends} (Pv : Nat → St → Hp → Prop) (h0 : Pv 0 σ H) (hq : ∀ i σ H, i ≤ xs.length → Pv i σ H → SqL K H a xs)
    (hs : ∀ i σ H T x, xs[i]? = some x → Pv i σ H → H T = none → g (.ref T) σ (upd H T (.tup [.int i, x])) fun σ2 H2 => tb { D with nx := Pv (i + 1), ct := Pv (i + 1), bk := D.nx } σ2 H2) (hd : ∀ σ H, Pv xs.length σ H → D.nx σ H) :
    ∃ W : Nat → Nat → St → Hp → Prop, (∃ m, W 0 m σ H) ∧ ∀ i m σ H, W i m σ H →
      ((Ite K a).stop i H ∧ D.nx σ H) ∨ ((Ite K a).go i H ∧ ∃ N : St → Hp → Prop, (∀ σ' H', N σ' H' → ∃ m', m' < m ∧ W (i + 1) m' σ' H') ∧ ∀ x H', (Ite K a).yld i H x H' → g x σ H' fun σ2 H2 => tb { D with nx := N, ct := N, bk := D.nx } σ2 H2) := by
  refine ⟨fun i m σ H => m = xs.length - i ∧ i ≤ xs.length ∧ Pv i σ H, ⟨xs.length, by simp, Nat.zero_le _, h0⟩, ?_⟩
  rintro i m σ H ⟨rfl, hi, p⟩
  have q1 := hq i σ H hi p
  by_cases hlt : i < xs.length
  · refine .inr ⟨⟨xs, xs[i], q1, List.getElem?_eq_getElem hlt⟩, Pv (i + 1), fun σ' H' p' => ⟨xs.length - (i + 1), by omega, rfl, hlt, p'⟩, fun x H' y => ?_⟩
    obtain ⟨T, u, hT, e1, e2, e4⟩ := y
    subst e1 e4
    exact hs i σ H T u (e2 xs q1) p hT
  · have e : i = xs.length := by omega
    subst e
    exact .inl ⟨⟨xs, q1, Nat.le_refl _⟩, hd σ H p⟩
end
end L2

namespace L2
open PySem PySem.Spec PyProof.Rows
section
variable {prog : Program} {w : World} {A : Around} {E : Value → Shared → Prop} {s : Shared}
end
end L2

namespace L2
open PySem PySem.Spec PyProof.Rows
section
variable {X : Cx} {K : PySem.W.Frag} {a b c e : Expr} {ta tb tc te : TE} {pos p p2 p3 : Pos}
theorem j_chain {op op' : CmpOp} {r r' : R2} (ho : OpR X (compareOp op) r) (ho' : OpR X (compareOp op') r') (ha : JE X a ta) (hb : JE X b tb) (hc : JE X c tc) (hm : autoParam (lastMarks [op, op'] [b, c] = false) L2.auto5._auto_1) :
    JE X (.Compare a [op, op'] [b, c] pos) (tChain r r' ta tb tc) := ⟨pe_chain ho ho' ha.run hb.run hc.run hm⟩
end
end L2

namespace L2
open PySem PySem.Spec PyProof.Rows
noncomputable def TbOk (h : Heap) (T : Addr) : Prop := ∃ oT ts, h.get? T = some oT ∧ oT.data = .fields ts ∧ 3 < ts.size
noncomputable def XObj (C : Addr) (dd : Option Addr) (vs : Array Value) : Obj := { cls := .ref C, dict := dd, data := .fields vs }
section
variable {M : Model} {A : Around} {E : Value → Shared → Prop}
structure NoteK (fs : List Addr) (x C : Addr) (dd : Option Addr) (hd : Option Addr) (h h' : Heap) (T : Addr) : Prop where
  obj : ∃ vs, h'.get? x = some (XObj C dd vs) ∧ vs[1]? = some (.ref T) ∧ vs[2]? = some .none
  tb : TbOk h' T
  ne : T ≠ x
  new : h.objs.size ≤ T ∨ hd = some T
  keep : ∀ b o, b ≠ x → some b ≠ hd → b ∉ fs → h.get? b = some o → h'.get? b = some o
  slot : ∀ b o, b ≠ x → some b ≠ hd → h.get? b = some o → ∃ sl, h'.get? b = some { o with slots := sl }
  tail : ∀ b o, hd = some b → h.get? b = some o → ∃ o', h'.get? b = some o'
end
end L2

namespace L2
open PySem PySem.Spec PyProof.Rows
noncomputable def VEm : List Value := [.type "ValueError", .type "Exception", .type "BaseException", .type "object"]
noncomputable def xIn (K : PySem.W.Frag) (D : Addr) : Bool := match K.lookup D with
  | some ⟨.type "type", _, .cls cd, sl⟩ => (match cd.mro, sl.toList with
    | .ref E :: bm, [_, _, _, _, some (.builtin n), _] => E == D && n == "ValueError.__new__" && cd.hasDel == false && cd.hasDict && PySem.W.tailIn K VEm bm
    | _, _ => false)
  | _ => false
section
variable {prog : Program} {w : World} {A : Around} {K : PySem.W.Frag} {D f : Addr} {E : Value → Shared → Prop}
end
end L2

namespace L2
open PySem PySem.Spec PyProof.Rows
noncomputable def excO (x C dx : Addr) : HO := .ext fun h => ∃ vs, h.get? x = some (XObj C (some dx) vs) ∧ vs[2]? = some .none
noncomputable def excRaw (x C : Addr) : HO := .ext fun h => ∃ t, h.get? x = some (XObj C none #[.ref t, .none, .none, .none, .bool false, .none])
structure Head (X : Cx) (pins : List (Addr × Obj)) (H : Hp) (x C dx T : Addr) (h : Heap) : Prop where
  obj : ∃ vs, h.get? x = some (XObj C (some dx) vs) ∧ vs[1]? = some (.ref T) ∧ vs[2]? = some .none
  tb : TbOk h T
  fp : FpOk X pins H T
  tr : H x = some (excO x C dx)
section
variable {X : Cx} {pins : List (Addr × Obj)} {σ : St} {H : Hp} {s : Shared} {x C dx : Addr} {h' : Heap} {T : Addr} {hd : Option Addr}
end
end L2

namespace L2
open PySem PySem.Spec PyProof.Rows
noncomputable def excD (d : Addr) (fs : List (Str × V)) : HO := .ext fun h => ∃ mA, h.Ns1 d mA ∧ ∀ f, RelO (fs.lookup f) (mA f)
noncomputable def excNew (x C d : Addr) : HO := .ext fun h => ∃ t, h.get? x = some (XObj C (some d) #[.ref t, .none, .none, .none, .bool false, .none])
noncomputable def refsThen : List Value → Bool
  | [.type a, .type b, .type c, .type d] => a == "ValueError" && b == "Exception" && c == "BaseException" && d == "object"
  | .ref _ :: r => refsThen r
  | _ => false
noncomputable def xcIn (K : PySem.W.Frag) (C : Addr) : Bool := xIn K C && (PySem.W.clsIn K C).any (fun cd => refsThen cd.mro && cd.hasDict) && PySem.W.findIn K (.ref C) "__setattr__" == some (some (.builtin "object.__setattr__")) &&
  PySem.W.findIn K (.ref C) "__getattribute__" == some (some (.builtin "BaseException.__getattribute__")) && PySem.W.findIn K (.ref C) "__getattr__" == some none
structure XCls (K : PySem.W.Frag) (C : Addr) : Prop where
  xi : xIn K C = true
  ov : ∃ cd, PySem.W.clsIn K C = some cd ∧ refsThen cd.mro = true ∧ cd.hasDict = true
  sa : PySem.W.findIn K (.ref C) "__setattr__" = some (some (.builtin "object.__setattr__"))
  ga : PySem.W.findIn K (.ref C) "__getattribute__" = some (some (.builtin "BaseException.__getattribute__"))
  gh : PySem.W.findIn K (.ref C) "__getattr__" = some none
theorem xcIn_of {K : PySem.W.Frag} {C : Addr} (h : xcIn K C = true) : XCls K C := by
  unfold xcIn at h
  simp only [Bool.and_eq_true, beq_iff_eq] at h
  obtain ⟨⟨⟨⟨h1, h2⟩, h3⟩, h4⟩, h5⟩ := h
  obtain ⟨cd, a, b⟩ := PySem.W.any_some h2
  simp only [Bool.and_eq_true] at b
  exact ⟨h1, ⟨cd, a, b.1, b.2⟩, h3, h4, h5⟩
section
variable {prog : Program} {w : World} {A : Around} {s : Shared} {K : PySem.W.Frag} {x C : Addr} {R : Result → Shared → Prop}
end
section
variable {X : Cx} {pins : List (Addr × Obj)} {σ : St} {H : Hp} {s : Shared} {x C d : Addr} {fs : List (Str × V)} {f : Str} {v y : V} {u : Value} {A : Around} {E : Value → Shared → Prop}
end
end L2

namespace L2
open PySem PySem.Spec PyProof.Rows
section
variable {X : Cx} {pins : List (Addr × Obj)} {σ : St} {H : Hp} {s : Shared} {x C d : Addr} {fs : List (Str × V)} {f : Str} {v y : V} {u : Value} {A : Around} {E : Value → Shared → Prop}
end
end L2

namespace L2
open PySem PySem.Spec PyProof.Rows
noncomputable def xclIn (K : PySem.W.Frag) (C : Addr) : Bool := xcIn K C && PySem.W.findIn K (.ref C) "__class__" == some (some (.builtin "object.__class__")) && PySem.W.specialIn K (.builtin "object.__class__") "__get__" == some (some (.builtin "getset_descriptor.__get__")) && PySem.W.takesIn K (.builtin "object.__class__") == some true
structure XCl (K : PySem.W.Frag) (C : Addr) : Prop where
  cls : XCls K C
  ca : PySem.W.findIn K (.ref C) "__class__" = some (some (.builtin "object.__class__"))
  cg : PySem.W.specialIn K (.builtin "object.__class__") "__get__" = some (some (.builtin "getset_descriptor.__get__"))
  ct : PySem.W.takesIn K (.builtin "object.__class__") = some true
theorem xclIn_of {K : PySem.W.Frag} {C : Addr} (h : xclIn K C = true) : XCl K C := by
  unfold xclIn at h
  simp only [Bool.and_eq_true, beq_iff_eq] at h
  exact ⟨xcIn_of h.1.1.1, h.1.1.2, h.1.2, h.2⟩
section
variable {prog : Program} {w : World} {A : Around} {E : Value → Shared → Prop} {s : Shared} {K : PySem.W.Frag} {x C : Addr} {ox od : Obj}
end
section
variable {X : Cx} {pins : List (Addr × Obj)} {σ : St} {H : Hp} {s : Shared} {A : Around} {E : Value → Shared → Prop} {Q : Value → Shared → Prop} {c : Value} {b : Bool}
end
end L2

namespace L2
open PySem PySem.Spec PyProof.Rows
section
variable {X : Cx} {k : Nat} {f C : Addr} {fd : FuncData} {ps : List Str} {sp : Sp} {R : St → XK} {x : Str} {p pos : Pos} {e : Expr} {es : List Expr} {t : TA} {pins : List (Addr × Obj)} {σ : St} {H : Hp} {s : Shared} {Q : VK} {us : List Value} {vs : List V}
noncomputable def spInit (C : Addr) (fl : List Str) : Sp := fun vs H Q E => ∃ x ws, vs = .ref x :: ws ∧ ws.length = fl.length ∧ H x = some (excRaw x C) ∧ ∀ d, H d = none → d ≠ x → Q .non (upd (upd H x (excNew x C d)) d (excD d (fl.zip ws)))
structure XMk (P : Program) (w : World) (K : PySem.W.Frag) (mg : Str → Option Value) (base : Heap) (k : Nat) (x : Str) (C : Addr) (fl : List Str) : Prop where
  at_ : mg x = some (.ref C)
  cl : XCl K C
  kp : PySem.W.keepIn K (.ref C) = true
  na : ∀ f ∈ fl, NoAttr K C f
  run : ∃ f fd ps, PySem.W.findIn K (.ref C) "__init__" = some (some (.ref f)) ∧ PySem.W.typeIn K (.ref f) = some (.type "function") ∧ Binds K fd ps [] ∧ FnOk P w K mg base CX0 k f fd ps (spInit C fl)
end
end L2

namespace L2
open PySem PySem.Spec PyProof.Rows
section
variable {X : Cx} {k : Nat} {C : Addr} {R : St → XK} {x : Str} {p cpos pos : Pos} {e : Expr} {es : List Expr} {t : TA} {fl : List Str}
end
section
variable {X : Cx} {pins : List (Addr × Obj)} {σ σ' : St} {H : Hp} {s : Shared} {h' : Heap}
end
end L2

namespace L2
open PySem PySem.Spec PyProof.Rows
section
variable {X : Cx} {pins pins' : List (Addr × Obj)} {σ : St} {H : Hp} {s : Shared} {x C d T : Addr} {R : St → XK} {D : Ends}
noncomputable abbrev TH := Ends → St → Addr → Addr → Hp → Prop
noncomputable def PH (X : Cx) (hs : List ExceptHandler) (th : TH) : Prop := ∀ (pins : List (Addr × Obj)) (s : Shared) (σ : St) (H : Hp) (D : Ends) (x C d T : Addr), Inv X pins σ H s → Head X pins H x C d T s.heap → th D σ x C H →
  wpAny (model X.prog X.w) X.A (handleBy (.ref x) X.env hs) (SP X pins D) X.xe s
variable {nm n : Str} {P : Addr} {i : Nat} {p pos : Pos} {b0 : Stmt} {suite : List Stmt} {ts : TS} {th : TH} {hs : List ExceptHandler}
end
end L2

namespace L2
open PySem PySem.Spec PyProof.Rows
noncomputable def clsA (mg : Str → Option Value) (x : Str) : Addr := match mg x with
  | some (.ref a) => a
  | _ => 0
theorem clsA_of {mg : Str → Option Value} {x : Str} {C : Addr} (h : mg x = some (.ref C)) : clsA mg x = C := by unfold clsA; rw [h]
structure CTxt (K : PySem.W.Frag) (mg : Str → Option Value) (x : Str) : Prop where
  at_ : mg x = some (.ref (clsA mg x))
  cl : XCl K (clsA mg x)
theorem ct_mk {K : PySem.W.Frag} {mg : Str → Option Value} {h : Heap} (X : K.In h) (G : h.Ns mainGlobals mg) {x : Str} {C : Addr} (a : PySem.W.nsIn K mainGlobals x = some (some (.ref C))) (b : xclIn K C = true) : CTxt K mg x := by
  have m := PySem.W.mg_of X G a
  have e := clsA_of m
  exact ⟨by rw [e]; exact m, by rw [e]; exact xclIn_of b⟩
structure XTxt (K : PySem.W.Frag) (mg : Str → Option Value) (x : Str) (fl : List Str) (qual : Str) (st : Stmt) : Prop where
  c : CTxt K mg x
  kp : PySem.W.keepIn K (.ref (clsA mg x)) = true
  na : ∀ f ∈ fl, NoAttr K (clsA mg x) f
  ini : ∃ f fd, PySem.W.findIn K (.ref (clsA mg x)) "__init__" = some (some (.ref f)) ∧ PySem.W.typeIn K (.ref f) = some (.type "function") ∧ Fun K "__init__" qual st f fd
noncomputable def noneOf (K : PySem.W.Frag) (C : Addr) (fl : List Str) : Bool := fl.all fun n => PySem.W.findIn K (.ref C) n == some none
theorem xt_mk {K : PySem.W.Frag} {mg : Str → Option Value} {h : Heap} (X : K.In h) (G : h.Ns mainGlobals mg) {x qual : Str} {C f : Addr} {fl : List Str} {st : Stmt} {oc : Value} {od an : Option Addr} {osl : Array (Option Value)} {kV doc pm cdv ct : Value}
    (a : PySem.W.nsIn K mainGlobals x = some (some (.ref C))) (b : xclIn K C = true) (kp : PySem.W.keepIn K (.ref C) = true) (na : noneOf K C fl = true)
    (i : PySem.W.findIn K (.ref C) "__init__" = some (some (.ref f))) (t : PySem.W.typeIn K (.ref f) = some (.type "function"))
    (l : K.lookup f = some ⟨oc, od, .func (PySem.W.fnOf "__init__" qual (defArgs st) (defBody st) (defScope st) .none kV doc pm an cdv ct), osl⟩) (c : PySem.W.codeIn K cdv qual = true) (k : PySem.W.keepIn K (.ref f) = true) : XTxt K mg x fl qual st := by
  have m := PySem.W.mg_of X G a
  have e := clsA_of m
  refine ⟨ct_mk X G a b, by rw [e]; exact kp, fun n hn => ?_, f, _, by rw [e]; exact i, t, fun_mk l c k⟩
  rw [e]
  have := List.all_eq_true.mp na n hn
  exact beq_iff_eq.mp this
structure Sub (K : PySem.W.Frag) (mg : Str → Option Value) (x y : Str) (b : Bool) : Prop where
  mro : PySem.W.mroIn K (clsA mg x) (.ref (clsA mg y)) = some b
  one : PySem.W.kitOne K (.ref (clsA mg x)) (.ref (clsA mg y)) = some b
structure JH (X : Cx) (hs : List ExceptHandler) (th : TH) : Prop where
  run : PH X hs th
section
variable {X : Cx} {K : PySem.W.Frag} {k : Nat} {x n fn : Str} {ps : List Str} {sp : Sp} {R : St → XK} {p pos cpos pos' : Pos} {e o value : Expr} {es : List Expr} {t : TA} {ta tv : TE} {st : Stmt} {u ts : TS} {th : TH} {hs : List ExceptHandler} {i : Nat}
end
section
variable {P : Program} {w : World} {K : PySem.W.Frag} {mg : Str → Option Value} {base : Heap}
end
end L2

namespace L2
open PySem PySem.Spec PyProof.Rows
noncomputable def initOf : Stmt → Stmt
  | .ClassDef _ _ _ (s :: _) _ _ _ _ _ _ _ => s
  | s => s
section
variable {σ : St} {H : Hp} {D : Ends} {Q : VK} {sp : Sp} {R : St → XK} {a : TA} {K : PySem.W.Frag} {C P : Addr} {fl : List Str} {th : TH} {ts : TS} {i : Nat} {ta : TE} {f : Str}
end
end L2

namespace L2
open PySem PySem.Spec PyProof.Rows
section
variable {X : Cx} {tg : Expr}
end
section
variable {σ : St} {H : Hp} {Q : VK}
end
section
variable {X : Cx} {e : Expr} {te : TE} {lo hi : Option Expr} {st : Expr} {tl th ts : TO} {pos p2 : Pos}
end
section
variable {σ : St} {H : Hp} {Q : VK} {te : TE}
end
noncomputable def rEqI (K : PySem.W.Frag) (neg : Bool) : R2 := fun x y H Q => ∃ a b xs, x = .ref a ∧ y = .ref b ∧ SqL K H a xs ∧ SqL K H b xs ∧ (∀ v ∈ xs, flatV v = true ∨ ∃ r, v = .ref r) ∧ Q (.bl (!neg)) H
theorem eqV_refl {v : V} (f : flatV v = true) : eqV v v = true := by
  cases v <;> first | (cases f; done) | rfl | (simp [eqV])
section
variable {X : Cx}
theorem op_eqI (hu : X.A.units < cLine) : OpR X (compareOp .Eq) (rEqI X.K false) := by
  intro pins s σ H x y v u Q I rx ry h
  obtain ⟨a, b, xs, rfl, rfl, ha, hb, fx, q⟩ := h
  cases rx
  cases ry
  obtain ⟨its, r1, p1, z1⟩ := I.list ha
  obtain ⟨jts, r2, p2, z2⟩ := I.list hb
  have l1 : its.toArray.size = xs.length := by simpa using r1.length.symm
  have l2 : jts.toArray.size = xs.length := by simpa using r2.length.symm
  refine SeqAt.eq_listAt (e := fun _ => true) p1.isList p2.isList (by rw [l1, l2]) hu (fun j h1 h2 => ?_) ?_
  · have hj : j < xs.length := by omega
    obtain ⟨u1, e1, q1⟩ := r1.get (List.getElem?_eq_getElem hj)
    obtain ⟨u2, e2, q2⟩ := r2.get (List.getElem?_eq_getElem hj)
    have f1 : its.toArray[j] = u1 := by
      obtain ⟨_, z⟩ := List.getElem?_eq_some_iff.mp e1
      simpa using z
    have f2 : jts.toArray[j] = u2 := by
      obtain ⟨_, z⟩ := List.getElem?_eq_some_iff.mp e2
      simpa using z
    rw [f1, f2]
    rcases fx _ (List.getElem_mem hj) with f | ⟨r, f⟩
    · rw [← eqV_refl f]
      exact eqAt_V q1 q2 f f
    · rw [f] at q1 q2
      cases (show u1 = Value.ref r from q1)
      cases (show u2 = Value.ref r from q2)
      exact SeqAt.EqAt.same _
  · have e : (List.range its.toArray.size).all (fun _ => true) = true := by simp
    rw [e]
    exact ⟨.bl true, H, I, rfl, q⟩
noncomputable def rEqC (K : PySem.W.Frag) : R2 := fun x y H Q => rEqB K x y H Q ∨ rEqI K false x y H Q
theorem op_eqC {K : PySem.W.Frag} (hK : X.K = K) (hu : X.A.units + 64 < cLine) : OpR X (compareOp .Eq) (rEqC K) := by
  subst hK
  exact (op_eqX rfl hu).or (op_eqI (Nat.lt_of_le_of_lt (Nat.le_add_right _ _) hu))
end
section
variable {H : Hp} {Q : VK} {K : PySem.W.Frag}
theorem r_eqCI {i j : Int} (h : Q (.bl (decide (V.int i = V.int j))) H) : rEqC K (.int i) (.int j) H Q := .inl (r_eqBI h)
end
end L2

namespace L2
open PySem PySem.Spec PyProof.Rows
open AutoSeq1 (wpAny_loadPart')
theorem dd_sub : isSubtype (.type "dict") (.type "dict") = pure true := by rw [isSubtype_type]; kernel_rfl
theorem dict_self {prog : Program} {w : World} {A : Around} {E : Value → Shared → Prop} {s : Shared} {Q : Value → Shared → Prop} {a : Addr} {o : Obj} {e : DictEntry} {ep : Nat} {k : Key} (ho : s.heap.get? a = some o) (hc : o.cls = .type "dict") (hd : o.data = .dict #[e] ep)
    (hkey : (mixKind prog w).is k e.key = true) (hh : e.hash = (mixKind prog w).hash k) (hsm : (a == sysModules) = false) (hu : A.units < cLine) (h : Q (.bool true) s) : wpAny (model prog w) A (compareOp .Eq (.ref a) (.ref a)) Q E s := by
  show wpAny _ _ (richCompare .Eq (.ref a) (.ref a)) _ _ _
  refine wpAny_richCompare_same_room ⟨o, ho, hc⟩ ⟨o, ho, hc⟩ F.slot_dict_eq (wpAny_call (codeAny_call_builtin F.slot_dict_eq.plain F.entry_dict_eq (F.slot_dict_eq.check _ _ _ _ _ _ _ _ ⟨o, ho, hc⟩ (F.args_dict_eq_2 _ _) ?_))) hu
  have ko : KeysOf (mixKind prog w) #[e] := fun x hx => by
    simp at hx
    subst hx
    exact ⟨k, hkey, hh⟩
  have f2 := dd_sub
  obtain ⟨hp, g, d, tk, os⟩ := s
  have hT : (⟨hp, g, d, tk, os⟩ : Shared).TypeIs (.ref a) "dict" := ⟨_, ho, hc⟩
  unfold Builtin.«dict.__eq__»
  wp_walk using wpAny_loadPart' ho
  have en : ∀ (Q : Array DictEntry → Shared → Prop) (E : Value → Shared → Prop), Q #[e] ⟨hp, g, d, tk, os⟩ → wpAny (model prog w) A.in1 (dictEntries a) Q E ⟨hp, g, d, tk, os⟩ := fun Q E q => by
    unfold dictEntries
    refine wpAny_bind (wpAny_loadPart ho ?_)
    simp only [hd]
    exact wpAny_pure q
  have eo : ∀ (Q : Nat → Shared → Prop) (E : Value → Shared → Prop), Q ep ⟨hp, g, d, tk, os⟩ → wpAny (model prog w) A.in1 (dictEpoch a) Q E ⟨hp, g, d, tk, os⟩ := fun Q E q => by
    unfold dictEpoch
    refine wpAny_bind (wpAny_loadPart ho ?_)
    simp only [hd]
    exact wpAny_pure q
  simp only [hd]
  refine wpAny_pure ?_
  refine wpAny_bind (en _ _ ?_)
  rw [if_neg (by simp)]
  refine wpAny_bind (eo _ _ ?_)
  refine wpAny_bind ?_
  rw [Std.Legacy.Range.forIn_eq_forIn_range']
  simp only [Std.Legacy.Range.size, Nat.sub_zero, Nat.add_sub_cancel, Nat.div_one]
  show wpAny _ _ (forIn [0] _ _) _ _ _
  rw [List.forIn_cons]
  refine wpAny_bind (wpAny_bind (en _ _ ?_))
  show wpAny _ _ (holding [e.key, e.val] _ >>= _) _ _ _
  refine wpAny_bind (wpAny_holding ?_)
  refine wpAny_bind (show wpAny (model prog w) A.in1 (dictFind a e.key e.hash) _ _ _ from ?_)
  rw [hh]
  refine wpAny_dictFind_of hkey ho hd ko ?_
  have fi : (#[e] : Array DictEntry).findIdx? (fun e => (mixKind prog w).is k e.key) = some 0 := by simp [hkey]
  rw [fi]
  refine wpAny_bind (en _ _ ?_)
  show wpAny _ _ (holding [e.val] (eqBool e.val e.val)) _ _ _
  refine wpAny_holding (SeqAt.EqAt.same e.val prog w _ _ ?_)
  rw [if_neg (by simp)]
  refine wpAny_bind (eo _ _ ?_)
  rw [if_neg (by simp)]
  refine wpAny_pure ?_
  show wpAny _ _ (forIn [] _ _) _ _ _
  rw [List.forIn_nil]
  refine wpAny_pure (wpAny_pure ?_)
  exact wpAny_pure ⟨(fun z => nomatch z), h⟩
noncomputable def rIsA : R2 := fun x y H Q => (y = .non ∧ Q (.bl (decide (x = .non))) H) ∨ ∃ a b, x = .bl a ∧ y = .bl b ∧ Q (.bl (a == b)) H
noncomputable def rIsNotA : R2 := fun x y H Q => (y = .non ∧ Q (.bl (!decide (x = .non))) H) ∨ ∃ a b, x = .bl a ∧ y = .bl b ∧ Q (.bl (!(a == b))) H
section
variable {X : Cx}
theorem op_isA : OpR X (compareOp .Is) rIsA := op_isN.or (by
  intro pins s σ H x y v u Q I rx ry h
  obtain ⟨a, b, rfl, rfl, q⟩ := h
  cases rx
  cases ry
  exact is_bool ⟨.bl _, H, I, rfl, q⟩)
theorem op_isNotA : OpR X (compareOp .IsNot) rIsNotA := op_notN.or (by
  intro pins s σ H x y v u Q I rx ry h
  obtain ⟨a, b, rfl, rfl, q⟩ := h
  cases rx
  cases ry
  exact isnot_bool ⟨.bl _, H, I, rfl, q⟩)
noncomputable def rEqTI (K : PySem.W.Frag) : R2 := fun x y H Q => ∃ a b xs, x = .ref a ∧ y = .ref b ∧ SqT K H a xs ∧ SqT K H b xs ∧ (∀ v ∈ xs, flatV v = true ∨ ∃ r, v = .ref r) ∧ Q (.bl true) H
theorem op_eqTI (hu : X.A.units < cLine) : OpR X (compareOp .Eq) (rEqTI X.K) := by
  intro pins s σ H x y v u Q I rx ry h
  obtain ⟨a, b, xs, rfl, rfl, ha, hb, fx, q⟩ := h
  cases rx
  cases ry
  obtain ⟨its, r1, p1, z1⟩ := I.tuple ha
  obtain ⟨jts, r2, p2, z2⟩ := I.tuple hb
  have l1 : its.toArray.size = xs.length := by simpa using r1.length.symm
  have l2 : jts.toArray.size = xs.length := by simpa using r2.length.symm
  refine SeqAt.eq_tupleAt (e := fun _ => true) p1 p2 hu (fun j h1 h2 => ?_) ?_
  · have hj : j < xs.length := by omega
    obtain ⟨u1, e1, q1⟩ := r1.get (List.getElem?_eq_getElem hj)
    obtain ⟨u2, e2, q2⟩ := r2.get (List.getElem?_eq_getElem hj)
    have f1 : its.toArray[j] = u1 := by
      obtain ⟨_, z⟩ := List.getElem?_eq_some_iff.mp e1
      simpa using z
    have f2 : jts.toArray[j] = u2 := by
      obtain ⟨_, z⟩ := List.getElem?_eq_some_iff.mp e2
      simpa using z
    rw [f1, f2]
    rcases fx _ (List.getElem_mem hj) with f | ⟨r, f⟩
    · rw [← eqV_refl f]
      exact eqAt_V q1 q2 f f
    · rw [f] at q1 q2
      cases (show u1 = Value.ref r from q1)
      cases (show u2 = Value.ref r from q2)
      exact SeqAt.EqAt.same _
  · have e : ((List.range (min its.toArray.size jts.toArray.size)).all (fun _ => true) && its.toArray.size == jts.toArray.size) = true := by rw [l1, l2]; simp
    rw [e]
    exact ⟨.bl true, H, I, rfl, q⟩
noncomputable def rEqDI : R2 := fun x y H Q => ∃ a k v, x = .ref a ∧ y = .ref a ∧ H a = some (.dK [(k, v)]) ∧ Q (.bl true) H
theorem op_eqDI (hu : X.A.units < cLine) : OpR X (compareOp .Eq) rEqDI := by
  intro pins s σ H x y v u Q I rx ry h
  obtain ⟨a, k, z, rfl, rfl, ha, q⟩ := h
  cases rx
  cases ry
  obtain ⟨_, hsm, vs, kv, o, es, ep, h1, h2, h3, h4, h5, h6⟩ := (show ObjOk X.prog X.w H s.heap a (.dK [(k, z)]) from I.hok a _ ha)
  cases kv with
  | cons a1 a2 =>
    cases a2
    obtain ⟨l⟩ := es
    dsimp only at h5
    cases h5 with
    | @cons en _ _ _ p1 p2 p3 =>
      cases p3
      obtain ⟨k', b1, b2⟩ := h4 en (by simp)
      exact dict_self (e := en) h1 h2.1 h3 b1 b2 hsm hu ⟨.bl true, H, I, rfl, q⟩
noncomputable def rEqE (K : PySem.W.Frag) : R2 := fun x y H Q => rEqC K x y H Q ∨ rEqTI K x y H Q ∨ rEqDI x y H Q
theorem op_eqE {K : PySem.W.Frag} (hK : X.K = K) (hu : X.A.units + 64 < cLine) : OpR X (compareOp .Eq) (rEqE K) := by
  subst hK
  exact (op_eqC rfl hu).or ((op_eqTI (Nat.lt_of_le_of_lt (Nat.le_add_right _ _) hu)).or (op_eqDI (Nat.lt_of_le_of_lt (Nat.le_add_right _ _) hu)))
end
theorem comp_tup {sub : List (Option Nat)} {g : TG} {tt : TT} {te : TE} {σ : St} {Q : VK} {H : Hp} {K : PySem.W.Frag} {a : Addr} {xs : List V} (Pv : Nat → List V → Hp → Prop) (hn : xs.length ≤ sizeLine) (h0 : Pv 0 [] H) (hl : ∀ i ys H, Pv i ys H → ys.length ≤ i)
    (hq : ∀ i ys H, Pv i ys H → SqT K H a xs)
    (hs : ∀ i ys H x, xs[i]? = some x → Pv i ys H → g x (subSt sub σ) H fun σ2 H2 => KeepSt (subSt sub σ) σ2 ∧ tt σ2 H2 fun b H3 => if b = true then te σ2 H3 fun y H4 => Pv (i + 1) (ys ++ [y]) H4 else Pv (i + 1) ys H3)
    (hd : ∀ ys H, Pv xs.length ys H → ∀ D, H D = none → Q (.ref D) (upd H D (.lst ys))) : CompR sub g tt te σ Q (Itt K a) H :=
  comp_by (n := xs.length) Pv hn h0 hl (fun i ys H hi p => ⟨xs, xs[i], hq i ys H p, List.getElem?_eq_getElem hi⟩) (fun ys H p => ⟨xs, hq _ ys H p, Nat.le_refl _⟩) (fun i ys H x H' hi p y => by
    obtain ⟨rfl, e2⟩ := y
    exact hs i ys _ x (e2 xs (hq i ys _ p)) p) hd
section
variable {H : Hp} {Q : VK} {K : PySem.W.Frag}
theorem r_chain {σ : St} {r r' : R2} {ta tb tc : TE} (h : ta σ H fun x H1 => tb σ H1 fun y H2 => r x y H2 fun z H3 => ∃ k, z = .bl k ∧ if k = true then tc σ H3 fun w H4 => r' y w H4 Q else Q (.bl false) H3) : tChain r r' ta tb tc σ H Q := h
theorem r_isA {x : V} (h : Q (.bl (decide (x = .non))) H) : rIsA x .non H Q := .inl ⟨rfl, h⟩
theorem r_isNotB {a b : Bool} (h : Q (.bl (!(a == b))) H) : rIsNotA (.bl a) (.bl b) H Q := .inr ⟨a, b, rfl, rfl, h⟩
theorem r_eqEI {i j : Int} (h : Q (.bl (decide (V.int i = V.int j))) H) : rEqE K (.int i) (.int j) H Q := .inl (r_eqCI h)
end
end L2

namespace L2
open PySem PySem.Spec PyProof.Rows PySem.SeqAt
theorem layAll {n : Nat} : ∀ {ds : List PyData}, (∀ d ∈ ds, d.canLay0 = true ∧ d.depth ≤ n) → PyData.canLayAll0 ds = true ∧ PyData.depthAll ds ≤ n
  | [], _ => ⟨rfl, by simp [PyData.depthAll]⟩
  | d :: ds, h => by
    obtain ⟨a, b⟩ := layAll fun e he => h e (List.mem_cons_of_mem _ he)
    obtain ⟨c, e⟩ := h d (by simp)
    rw [PyData.canLayAll0, PyData.depthAll, a, c]
    exact ⟨rfl, by omega⟩
theorem lay_list {n : Nat} {ds : List PyData} (h : ∀ d ∈ ds, d.canLay0 = true ∧ d.depth ≤ n) : (PyData.list ds).canLay0 = true ∧ (PyData.list ds).depth ≤ n + 1 := by
  obtain ⟨a, b⟩ := layAll h
  rw [PyData.canLay0, PyData.depth]
  exact ⟨a, by omega⟩
theorem lay_tuple {n : Nat} {ds : List PyData} (h : ∀ d ∈ ds, d.canLay0 = true ∧ d.depth ≤ n) : (PyData.tuple ds).canLay0 = true ∧ (PyData.tuple ds).depth ≤ n + 1 := by
  obtain ⟨a, b⟩ := layAll h
  rw [PyData.canLay0, PyData.depth]
  exact ⟨a, by omega⟩
theorem lay_int (s : Int) : (PyData.int s).canLay0 = true ∧ (PyData.int s).depth ≤ 0 := by simp [PyData.canLay0, PyData.depth]
theorem lay_shaped {d : PyData} {n : Nat} (h : d.canLay0 = true ∧ d.depth ≤ n) (hn : n ≤ 64) : shaped d = true := by
  unfold shaped
  rw [h.1, decide_eq_true (by omega)]; rfl
theorem iteNT {A B : Prop} (h : A) : if (!false) = true then A else B := (if_pos (show (!false) = true from rfl)).mpr h
theorem iteNF {A B : Prop} (h : B) : if (!true) = true then A else B := by rw [if_neg (by simp)]; exact h
theorem r_cut {t u : TS} {D : Ends} {σ : St} {H : Hp} (M : St → Hp → Prop) (h1 : ∀ σ H, M σ H → u D σ H) (h2 : ∀ N, (∀ σ H, M σ H → N σ H) → t { D with nx := N } σ H) : tSeq t u D σ H := h2 _ h1
end L2

namespace L2
open PySem PySem.Spec PyProof.Rows PySem.SeqAt
open AutoSeq1 (wpAny_loadPart')
section
variable {X : Cx}
end
section
variable {X : Cx}
end
section
variable {H : Hp} {Q : VK} {K : PySem.W.Frag} {σ : St} {D : Ends}
end
end L2

namespace L2
open PySem PySem.Spec PyProof.Rows
section
variable {X : Cx}
theorem ints_vals : ∀ {us : List Value} {ns : List Int}, IntsAre us ns → Vals (ns.map V.int) us := by
  intro us
  induction us with
  | nil => intro ns h; cases h; exact .nil
  | cons u us ih =>
    intro ns h
    cases h with
    | cons a b => exact .cons ⟨_, rfl⟩ (ih (by assumption))
end
section
variable {σ : St} {H : Hp} {Q : VK} {D : Ends}
end
end L2

namespace L2
open PySem PySem.Spec PyProof.Rows
noncomputable def rInD (K : PySem.W.Frag) : R2 := fun x y H Q => rInA K x y H Q ∨ ∃ a o, y = .ref a ∧ DGet H a x o ∧ Q (.bl o.isSome) H
noncomputable def rNotInD (K : PySem.W.Frag) : R2 := fun x y H Q => rNotInA K x y H Q ∨ ∃ a o, y = .ref a ∧ DGet H a x o ∧ Q (.bl (!o.isSome)) H
noncomputable def rSetA : TSet := fun o i v H R => rSetL o i v H R ∨ ∃ a H4, o = .ref a ∧ DPut H a i v H4 ∧ R H4
section
variable {X : Cx}
end
section
variable {X : Cx}
theorem op_inD {K : PySem.W.Frag} (hK : X.K = K) (hu : X.A.units + 64 < cLine) : OpR X (compareOp .In) (rInD K) := (op_inK hK).or (by
  intro pins s σ H x y v u Q I rx ry h
  obtain ⟨a, o, rfl, g, q⟩ := h
  obtain rfl : u = Value.ref a := ry
  exact d_in (by omega) I g rx fun s3 I3 => ⟨.bl o.isSome, H, I3, rfl, q⟩)
theorem op_notInD {K : PySem.W.Frag} (hK : X.K = K) (hu : X.A.units + 64 < cLine) : OpR X (compareOp .NotIn) (rNotInD K) := (op_notInK hK).or (by
  intro pins s σ H x y v u Q I rx ry h
  obtain ⟨a, o, rfl, g, q⟩ := h
  obtain rfl : u = Value.ref a := ry
  exact d_notIn (by omega) I g rx fun s3 I3 => ⟨.bl (!o.isSome), H, I3, rfl, q⟩)
theorem set_any (hu : X.A.units + 64 < cLine) : PSet X rSetA := by
  intro pins s σ H o i v ov iv u Q I ro ri rv h
  rcases h with h | ⟨a, H4, rfl, g, q⟩
  · exact set_list pins s σ H o i v ov iv u Q I ro ri rv h
  · obtain rfl : ov = Value.ref a := ro
    exact d_setItem (by omega) I g ri rv fun s4 I4 => ⟨H4, I4, q⟩
end
section
variable {σ : St} {H : Hp} {Q : VK} {K : PySem.W.Frag}
end
end L2

namespace L2
open PySem PySem.Spec PyProof.Rows
noncomputable def CDivW (i j : Int) : Prop := 0 < j ∧ j < 1606938044258990275541962092341162602522202993782792835301376
section
variable {X : Cx}
theorem op_fdivW : OpR X (binaryOp .FloorDiv) (rI CDivW fun i j => .int (i / j)) := opI fun i j _ _ _ _ _ hc q => by
  have h1 : (0 : Int) < j := hc.1
  have h2 := hc.2
  refine floordiv_int (by omega) (by rw [Int.fdiv_eq_ediv_of_nonneg i (by omega)]; exact q) (.inl (PyProof.noPylong_of_log2 ?_))
  have h3 : j.natAbs.log2 < 200 := (Nat.log2_lt (by omega)).mpr (by omega)
  omega
end
end L2

namespace L2
open PySem PySem.Spec PyProof.Rows
open PySem.Sem (wp)
open PySem.AutoSeq1 (wpAny_loadPart')
section
variable {prog : Program} {w : World} {A : Around} {E : Value → Shared → Prop} {s : Shared}
end
end L2

namespace L2
open PySem PySem.Spec PyProof.Rows
section
variable {K : PySem.W.Frag} {σ : St} {H : Hp}
end
section
variable {X : Cx} {e : Expr} {te : TE} {lo hi : Option Expr} {st : Expr} {tl th ts : TO} {pos p2 : Pos}
end
end L2

namespace L2
open PySem PySem.Spec PyProof.Rows
end L2

namespace L2
open PySem PySem.Spec PyProof.Rows
open PySem.Sem (wp)
open PySem.AutoSeq1 (wpAny_loadPart')
section
variable {prog : Program} {w : World} {A : Around} {E : Value → Shared → Prop} {s : Shared}
end
end L2

namespace L2
open PySem PySem.Spec PyProof.Rows
section
variable {prog : Program} {w : World} {A : Around} {E : Value → Shared → Prop} {s : Shared}
end
end L2

namespace L2
open PySem PySem.Spec PyProof.Rows
section
variable {K : PySem.W.Frag} {σ : St} {H : Hp}
end
end L2

namespace L2
open PySem PySem.Spec PyProof.Rows
structure Sml (d : PyData) : Prop where
  sh : d.showable = true
  dp : d.depth ≤ 58
  lv : d.leavesShort 60 = true
  bk : d.bulk ≤ 10000
end L2

namespace L2
open PySem PySem.Spec PyProof.Rows
open PySem.Sem (wp)
theorem meets_len_raw {prog : Program} {w : World} {d : Addr} (hd : (d == sysModules) = false) :
    MeetsIn prog w (Builtin.«dict.__len__» ⟨[.ref d], []⟩) (fun _ R s => ∃ o es ep, s.heap.get? d = some o ∧ o.data = .dict es ep ∧ R (.ok (.ret (.int es.size s.toks))) { s with toks := s.toks + 1 }) :=
  .of_wp fun A R s ⟨o, es, ep, ho, hdat, h⟩ => by
    show wpAny _ _ (dictSize d >>= _) _ _ s
    unfold dictSize
    refine wpAny_bind (wpAny_bind (wpAny_dictEntries ho hdat (wpAny_pure ?_)))
    show wpAny _ _ (Builtin.Dict.pendingCount d >>= _) _ _ s
    refine wpAny_bind (wpAny_pendingCount_other hd ?_)
    refine wpAny_ret_mkInt ?_
    rw [Nat.add_zero]; exact h
theorem call_len_raw {prog : Program} {w : World} {A : Around} {E : Value → Shared → Prop} {s : Shared} {d : Addr} {o : Obj} {es : Array DictEntry} {ep : Nat} {Q : Value → Shared → Prop} (hd : (d == sysModules) = false)
    (ho : s.heap.get? d = some o) (hc : o.cls = .type "dict") (hdat : o.data = .dict es ep) (hfit : (es.size : Int) < 2 ^ 63)
    (h : Q (.int es.size (s.toks + 1)) { s with toks := s.toks + 1 + 1 }) : wpAny (model prog w) A (call (.builtin "len") [.ref d]) Q E s := by
  have ht : s.TypeIs (.ref d) "dict" := ⟨o, ho, hc⟩
  refine Calls.call_function_entry kind_len plain_len entry_len (args_len1 _) ?_
  unfold Builtin.«len»
  refine wpAny_bind (m := oneArg "len" _) (wpAny_pure ?_)
  refine wpAny_bind (m := callSpecial? (.ref d) (Str.ofString "__len__")) (wpAny_callSpecial?_slot (name := Str.ofString "__len__") ht F.slot_dict_len
    (call_meetsIn F.slot_dict_len ht F.entry_dict_len (F.args_dict_len_1 _) (meets_len_raw hd) ⟨o, es, ep, ho, hdat, ?_⟩))
  show wpAny _ _ _ _ _ { s with toks := s.toks + 1 }
  refine wpAny_bind (wpAny_holding (wpAny_pure ?_))
  refine wpAny_bind (wpAny_letGo ?_)
  show wpAny _ _ (if ((es.size : Nat) : Int) < 0 then _ else _) _ _ _
  rw [if_neg (by omega)]
  show wpAny _ _ (if ((es.size : Nat) : Int) ≥ 2 ^ 63 then _ else _) _ _ _
  rw [if_neg (by omega)]
  exact wpAny_bind (wpAny_mkInt (wpAny_pure ⟨_, rfl, h⟩))
noncomputable def rLenT : List V → Hp → VK → Prop := fun xs H Q => ∃ a kvs, xs = [.ref a] ∧ H a = some (.dT kvs) ∧ Q (.int kvs.length) H
theorem call_lenT {X : Cx} : CallR X (.builtin "len") rLenT := by
  intro pins s σ H xs us Q I r h
  obtain ⟨a, kvs, rfl, ha, q⟩ := h
  obtain ⟨u, rfl, ru⟩ := vals1 r
  cases ru
  obtain ⟨z, hS, xs, rel, o, es, ep, ho, xd, hd, he, _⟩ := I.hok a _ ha
  have e1 : es.size = kvs.length := by
    have a1 := congrArg List.length he
    simp at a1
    rw [a1]; exact (Paired.length rel).symm
  refine call_len_raw hS ho xd.1 hd (by rw [e1]; rw [sizeLine_eq] at z; omega) ?_
  rw [e1]
  exact ⟨.int kvs.length, H, I.tok _, ⟨_, rfl⟩, q⟩
section
variable {X : Cx} {pos : Pos} {σ : St} {H : Hp} {Q : VK} {K : PySem.W.Frag}
theorem j_dnewT : JE X (.Dict [] [] pos) tDNewT := ⟨pe_dnewT⟩
theorem r_dnewT (h : ∀ p, H p = none → Q (.ref p) (upd H p (.dT []))) : tDNewT σ H Q := h
theorem r_lenDT {a : Addr} {kvs : List (List Key × V)} (ha : H a = some (.dT kvs)) (h : Q (.int kvs.length) H) : rLenT [.ref a] H Q := ⟨a, kvs, rfl, ha, h⟩
theorem r_setT {a b : Addr} {kvs : List (List Key × V)} {k : List Key} {v : V} {R : Hp → Prop} (ha : H a = some (.dT kvs)) (hb : H b = some (.tup (k.map kV))) (hl : kvs.length < sizeLine) (h : R (upd H a (.dT (putK kvs k v)))) : rSetA (.ref a) (.ref b) v H R :=
  .inr ⟨a, _, rfl, DPut.t ha hb hl, h⟩
end
end L2

namespace L2
open PySem PySem.Spec PyProof.Rows
end L2

namespace L2
open PySem PySem.Spec PyProof.Rows
structure RoomU (k : Nat) (A : Around) : Prop where
  dp : A.depth + 3 * k + 5 < recursionLimit
  un : A.units + 16 * k + 200 < cLine
  gd : A.guards = some []
structure FnU (P : Program) (w : World) (K : PySem.W.Frag) (mg : Str → Option Value) (base : Heap) (k : Nat) (f : Addr) (fd : FuncData) (ps : List Str) (sp : Sp) : Prop where
  len : ∀ vs H Q E, sp vs H Q E → vs.length = ps.length
  run : ∀ (A : Around) (outer : List Env) (s : Shared) (H : Hp) (args : Args) (us : List Value) (vs : List V) (Q : VK) (E : XK), RoomU k A → Env0 P w K mg base A outer s H → BindsTo s fd args (ps.zip us) → Vals vs us → sp vs H Q E →
    codeAny (model P w) A (.call (.ref f) args) (CR CX0 outer P w H s Q E) s
end L2

namespace L2
open PySem PySem.Spec PyProof.Rows
section
variable {prog : Program} {w : World} {A : Around} {E : Value → Shared → Prop} {s : Shared} {K : PySem.W.Frag} {x C : Addr} {ox : Obj} {od : Option Obj}
end
section
variable {prog : Program} {w : World} {A : Around} {K : PySem.W.Frag} {D : Addr} {E : Value → Shared → Prop}
end
structure X0 (K : PySem.W.Frag) (mg : Str → Option Value) (x : Str) : Prop where
  c : CTxt K mg x
  ini : PySem.W.findIn K (.ref (clsA mg x)) "__init__" = some (some (.builtin "ValueError.__init__"))
  kp : PySem.W.keepIn K (.ref (clsA mg x)) = true
section
variable {X : Cx} {x : Str} {p pos : Pos} {e : Expr} {es : List Expr} {t : TA}
end
end L2

namespace L2
open PySem PySem.Spec PyProof.Rows
open PySem.Sem (wp)
structure ZApart (z TI TO i1 i2 : Addr) (fp1 fp2 : List Addr) : Prop where
  TIz : TI ≠ z
  TOz : TO ≠ z
  i1z : i1 ≠ z
  i2z : i2 ≠ z
  TITO : TI ≠ TO
  TIi1 : TI ≠ i1
  TIi2 : TI ≠ i2
  TOi1 : TO ≠ i1
  TOi2 : TO ≠ i2
  i12 : i1 ≠ i2
  f1 : ∀ b ∈ fp1, b ≠ z ∧ b ≠ TO ∧ b ≠ i2
  f2 : ∀ b ∈ fp2, b ≠ z ∧ b ≠ TO ∧ b ≠ i1
section
variable {prog : Program} {w : World} {A : Around} {E : Value → Shared → Prop} {s : Shared} {z TI TO i1 i2 : Addr} {fp1 fp2 : List Addr} {n1 n2 k1 k2 : Nat} {P1 P2 : Nat → Value → Prop} {St1 St2 : Nat → Heap → Prop} {a b : Value}
end
end L2

namespace L2
open PySem PySem.Spec PyProof.Rows
open PySem.Sem (wp)
section
variable {σ : St} {H : Hp} {K : PySem.W.Frag}
end
end L2

namespace L2
open PySem PySem.Spec PyProof.Rows
open PySem.Sem (wp)
open AutoSeq1 (wpAny_loadPart')
section
variable {X : Cx}
end
section
variable {H : Hp} {Q : VK} {K : PySem.W.Frag}
end
end L2

namespace L2
open PySem PySem.W PySem.Spec PyProof.Rows
section
variable {g : Nat → Int} {N : Nat}
end
end L2

namespace L2
open PySem PySem.W PySem.Spec PyProof.Rows
section
variable {prog : Program} {w : World} {A : Around} {E : Value → Shared → Prop} {s : Shared}
noncomputable def But (a : Addr) (h h' : Heap) : Prop := ∀ b o, b ≠ a → h.get? b = some o → h'.get? b = some o
theorem but_three {h : Heap} {a : Addr} {f : Obj → Obj} {x y : Obj} : But a h (((h.update a f).push x).push y) := fun b o nb e => by
  have e1 : (h.update a f).get? b = some o := by rw [Heap.get?_update_ne _ _ _ _ nb]; exact e
  exact Heap.get?_push_of_some _ (Heap.get?_push_of_some _ e1)
theorem zip_snd (vs : List Value) : (vs.toArray.zip vs.toArray).map (·.2) = vs.toArray := by
  apply Array.toList_inj.mp
  simp only [Array.toList_map, Array.toList_zip]
  exact List.map_snd_zip (Nat.le_refl _)
end
end L2

namespace L2
open PySem PySem.W PySem.Spec PyProof.Rows
theorem lx_irr : ∀ a : List Int, HT.lexLt a a = false
  | [] => rfl
  | x :: xs => by rw [HT.lexLt_cons, if_pos rfl]; exact lx_irr xs
theorem lx_trans : ∀ {a b c : List Int}, HT.lexLt a b = true → HT.lexLt b c = true → HT.lexLt a c = true
  | [], [], _, h, _ => by cases h
  | [], _ :: _, [], _, h => by cases h
  | [], _ :: _, _ :: _, _, _ => rfl
  | _ :: _, [], _, h, _ => by cases h
  | _ :: _, _ :: _, [], _, h => by cases h
  | x :: xs, y :: ys, z :: zs, h1, h2 => by
    rw [HT.lexLt_cons] at h1 h2 ⊢
    by_cases e1 : x = y
    · rw [if_pos e1] at h1
      by_cases e2 : y = z
      · rw [if_pos e2] at h2
        rw [if_pos (by omega)]; exact lx_trans h1 h2
      · rw [if_neg e2] at h2
        rw [if_neg (by omega), e1]; exact h2
    · rw [if_neg e1] at h1
      have h1' := of_decide_eq_true h1
      by_cases e2 : y = z
      · rw [if_neg (by omega)]; exact decide_eq_true (by omega)
      · rw [if_neg e2] at h2
        have h2' := of_decide_eq_true h2
        rw [if_neg (by omega)]; exact decide_eq_true (by omega)
theorem lx_total : ∀ {a b : List Int}, HT.lexLt a b = false → HT.lexLt b a = false → a = b
  | [], [], _, _ => rfl
  | [], _ :: _, h, _ => by cases h
  | _ :: _, [], _, h => by cases h
  | x :: xs, y :: ys, h1, h2 => by
    rw [HT.lexLt_cons] at h1 h2
    by_cases e : x = y
    · rw [if_pos e] at h1
      rw [if_pos e.symm] at h2
      rw [e, lx_total h1 h2]
    · rw [if_neg e] at h1
      rw [if_neg (fun z => e z.symm)] at h2
      have h1' := of_decide_eq_false h1
      have h2' := of_decide_eq_false h2
      omega
section
variable {prog : Program} {w : World} {A : Around} {E : Value → Shared → Prop} {s : Shared}
theorem kl_int {b fin : Bool} {Q : Bool → Shared → Prop} : ∀ (n : Nat) {vs us : List Value} {ns ms : List Int}, IntsAre vs ns → IntsAre us ms → fin = decide (ns.length < ms.length) → Q (HT.lexLt ns ms) s → KatLex prog w A b fin Q (vs.zip us) n s := by
  intro n vs us ns ms h1
  induction h1 generalizing n us ms with
  | nil =>
    intro h2 hf q
    cases h2 with
    | nil => rw [hf]; exact q
    | cons y t h2 => rw [hf]; exact q
  | cons x t h1 ih =>
    intro h2 hf q
    cases h2 with
    | nil => rw [hf]; exact q
    | cons y u h2 =>
      rw [List.zip_cons_cons]
      refine kat_cons (wpAny_eqBool_int ?_)
      rw [HT.lexLt_cons] at q
      by_cases e : x = y
      · rw [if_pos e] at q
        rw [show (x == y) = true by rw [e]; exact beq_self_eq_true y]
        refine kat_yes (ih (n + 1) h2 ?_ q)
        rw [hf]
        simp
      · rw [if_neg e] at q
        rw [show (x == y) = false by simpa using e]
        refine kat_no ?_
        cases hb : (b && n == 0) with
        | true => exact oneLt_int q
        | false => exact kat_one _ _ (lt_int q)
theorem tl_lt {Q : Bool → Shared → Prop} {x y : Addr} {vs us : List Value} {ns ms : List Int} (hx : IsTup s.heap x vs.toArray) (hy : IsTup s.heap y us.toArray) (h1 : IntsAre vs ns) (h2 : IntsAre us ms) (q : Q (HT.lexLt ns ms) s) :
    wpAny (model prog w) A (keyLt' (tuples' true) (.ref x) (.ref y)) Q E s := by
  obtain ⟨ox, gx, _, n1, dx⟩ := hx
  obtain ⟨oy, gy, _, n2, dy⟩ := hy
  refine kat_lt gx dx gy dy (kl_int 0 h1 h2 ?_ q)
  have l1 := h1.length
  have l2 := h2.length
  simp [l1, l2]
theorem kind_tups {vs : List Value} {ts : List (List Int)} {Q : SortKind → Shared → Prop} (h2 : 2 ≤ vs.length) (h : ∀ i, i < vs.length → ∃ a its, vs[i]? = some (.ref a) ∧ IsTup s.heap a its.toArray ∧ IntsAre its (ts.getD i []) ∧ ts.getD i [] ≠ []) (q : Q (tuples' true) s) :
    wpAny (model prog w) A (keyKind' vs.toArray) Q E s := by
  have key : ∀ (l : List Value), (∀ v ∈ l, ∃ a its ns, v = .ref a ∧ IsTup s.heap a its.toArray ∧ IntsAre its ns ∧ ns ≠ []) → ∃ fs : List Value, fs.length = l.length ∧ KatTups s.heap l fs ∧ ∀ v ∈ fs, ∃ n t, v = Value.int n t := by
    intro l
    induction l with
    | nil => exact fun _ => ⟨[], rfl, KatTups.nil, fun v hv => by cases hv⟩
    | cons v l ih =>
      intro hl
      obtain ⟨fs, lf, kf, inf⟩ := ih fun u hu => hl u (List.mem_cons_of_mem _ hu)
      obtain ⟨a, its, ns, rfl, ⟨o, go, co, n, dn⟩, hI, hne⟩ := hl v List.mem_cons_self
      cases hI with
      | nil => exact absurd rfl hne
      | cons x t hI =>
        refine ⟨.int x t :: fs, by simp [lf], KatTups.cons go co dn (by simp) kf, fun v hv => ?_⟩
        rcases List.mem_cons.mp hv with rfl | hv
        · exact ⟨x, t, rfl⟩
        · exact inf v hv
  obtain ⟨fs, lf, kf, inf⟩ := key vs fun v hv => by
    obtain ⟨i, hi, rfl⟩ := List.mem_iff_getElem.mp hv
    obtain ⟨a, its, e, it, ia, ne⟩ := h i hi
    rw [List.getElem?_eq_getElem hi] at e
    exact ⟨a, its, _, Option.some.inj e, it, ia, ne⟩
  refine kat_kind (T := .type "int") kf (by omega) (fun v hv => ?_) rfl q
  obtain ⟨n, t, rfl⟩ := inf v hv
  exact Looks.of_pure rfl
end
section
variable {X : Cx}
end
section
variable {H : Hp} {Q : VK}
end
end L2

namespace L2
open PySem PySem.Spec PyProof.Rows
open PySem.Sem (wp)
section
variable {prog : Program} {w : World} {A : Around} {E : Value → Shared → Prop} {s : Shared} {z TI TO i1 i2 : Addr} {fp1 fp2 : List Addr} {n1 n2 k1 k2 : Nat} {P1 P2 : Nat → Value → Prop} {St1 St2 : Nat → Heap → Prop} {a b f0 f1 : Value}
end
end L2

namespace L2
open PySem PySem.Spec PyProof.Rows
open PySem.Sem (wp)
open PySem.AutoSeq1 (wpAny_loadPart')
section
variable {prog : Program} {w : World} {A : Around} {E : Value → Shared → Prop} {s : Shared} {z TI TO i1 i2 e : Addr} {fp1 fp2 : List Addr} {n1 n2 k1 k2 : Nat} {P1 P2 : Nat → Value → Prop} {St1 St2 : Nat → Heap → Prop} {a b f0 f1 : Value}
end
structure EApart (e z TI TO i1 i2 a b : Addr) : Prop where
  Z : ZApart z TI TO i1 i2 [i1, a] [i2, b]
  ez : e ≠ z
  eTI : e ≠ TI
  eTO : e ≠ TO
  ei1 : e ≠ i1
  ei2 : e ≠ i2
  a1 : a ≠ i1
  b2 : b ≠ i2
end L2

namespace L2
open PySem PySem.Spec PyProof.Rows
open PySem.Sem (wp)
open PySem.AutoSeq1 (wpAny_loadPart')
section
variable {σ : St} {H : Hp} {K : PySem.W.Frag}
end
end L2

namespace L2
open PySem PySem.Spec PyProof.Rows
open PySem.Sem (wp)
section
variable {prog : Program} {w : World} {A : Around} {E : Value → Shared → Prop} {s : Shared}
end
structure TurnU (P : Program) (w : World) (K : PySem.W.Frag) (tg : Expr) (J : It) (fp : List Addr) (it : Addr) (tn : Nat → Heap → Prop) (xh : Addr) : Prop where
  mem : it ∈ fp
  obj : ∀ i h, tn i h → ∀ b ∈ fp, ∃ o, h.get? b = some o ∧ ∀ v, o.data ≠ .cell v
  keep : ∀ i h h', tn i h → (∀ b ∈ fp, ∀ o, h.get? b = some o → h'.get? b = some o) → tn i h'
  item : ∀ (X : Cx), X.prog = P → X.w = w → X.K = K → X.A.handled = some (.ref xh) → ∀ (i : Nat) (pins : List (Addr × Obj)) (s : Shared) (σ : St) (H : Hp) (E : Value → Shared → Prop), Inv X pins σ H s → (∀ b ∈ fp, FpOk X pins H b) → tn i s.heap → J.go i H →
    wpAny (model P w) X.A (pyNext (.ref it)) (fun r s1 => ∃ u, r = some u ∧
      wpAny (model P w) X.A (letOwnedTupleGo tg (.ref it) u) (fun _ s2 => ∃ x H', Inv X pins σ H' s2 ∧ RelV x u ∧ J.yld i H x H' ∧ tn (i + 1) s2.heap ∧ ∀ b ∈ fp, H' b = none) E s1) E s
  done : ∀ (X : Cx), X.prog = P → X.w = w → X.K = K → X.A.handled = some (.ref xh) → ∀ (i : Nat) (pins : List (Addr × Obj)) (s : Shared) (σ : St) (H : Hp) (E : Value → Shared → Prop), Inv X pins σ H s → (∀ b ∈ fp, FpOk X pins H b) → tn i s.heap → J.stop i H →
    wpAny (model P w) X.A (pyNext (.ref it)) (fun r s1 => r = none ∧ Inv X pins σ H s1) E s
  self : ∀ (A : Around) (i : Nat) (s : Shared) (Q : Value → Shared → Prop) (E : Value → Shared → Prop), tn i s.heap → Q (.ref it) s → wpAny (model P w) A (pyIter (.ref it)) Q E s
section
variable {X : Cx} {tg iter elt : Expr} {ifs : List Expr} {scope : Scope} {pos : Pos} {N' : List Str} {sub : List (Option Nat)} {wi : TI} {g : TG} {tt : TT} {te : TE}
end
structure FnV (P : Program) (w : World) (K : PySem.W.Frag) (mg : Str → Option Value) (base : Heap) (k : Nat) (f : Addr) (fd : FuncData) (ps : List Str) (sp : Addr → Sp) : Prop where
  len : ∀ xh vs H Q E, sp xh vs H Q E → vs.length = ps.length
  run : ∀ (A : Around) (outer : List Env) (s : Shared) (H : Hp) (args : Args) (us : List Value) (vs : List V) (Q : VK) (E : XK) (xh : Addr), A.handled = some (.ref xh) → RoomU k A → Env0 P w K mg base A outer s H → BindsTo s fd args (ps.zip us) → Vals vs us → sp xh vs H Q E →
    codeAny (model P w) A (.call (.ref f) args) (CR CX0 outer P w H s Q E) s
end L2

namespace L2
open PySem PySem.Spec PyProof.Rows
section
variable {X : Cx} {nm n : Str} {P : Addr} {i : Nat} {p pos : Pos} {b0 : Stmt} {suite : List Stmt} {ts : Addr → TS} {th : TH} {hs : List ExceptHandler}
variable {K : PySem.W.Frag} {x : Str}
end
end L2

namespace L2
open PySem PySem.Spec PyProof.Rows
section
variable {K : PySem.W.Frag} {σ : St} {H : Hp}
end
section
variable {X : Cx}
end
section
variable {K : PySem.W.Frag} {H : Hp} {Q : VK}
end
end L2

namespace L2
open PySem PySem.Spec PyProof.Rows
structure OTxt (K : PySem.W.Frag) (mg : Str → Option Value) (x : Str) : Prop where
  at_ : mg x = some (.ref (clsA mg x))
  cl : Cls K (clsA mg x)
  makes : PySem.W.makesIn K (clsA mg x) = true
  kp : PySem.W.keepIn K (.ref (clsA mg x)) = true
structure MTxt (K : PySem.W.Frag) (mg : Str → Option Value) (x m qual : Str) (st : Stmt) : Prop where
  ex : ∃ f fd, Meth K (clsA mg x) m f ∧ Fun K m qual st f fd
section
variable {P : Program} {w : World} {K : PySem.W.Frag} {mg : Str → Option Value} {base : Heap}
end
section
variable {X : Cx} {K : PySem.W.Frag} {k : Nat} {f C : Addr} {ps : List Str} {sp : Sp} {R : St → XK} {x m fn : Str} {p pos apos pos' : Pos} {e o value : Expr} {es : List Expr} {ta tv : TE} {t : TA} {pins : List (Addr × Obj)} {σ : St} {H : Hp} {s : Shared} {Q : VK} {us : List Value} {vs : List V}
end
section
variable {σ : St} {H : Hp} {D : Ends} {Q : VK} {sp : Sp} {R : St → XK} {a : TA} {K : PySem.W.Frag} {C : Addr} {ta tv : TE} {f m : Str}
end
end L2

namespace L2
open PySem PySem.Spec PyProof.Rows
section
variable {X : Cx} {mg : Str → Option Value} {o : Expr} {ta : TE} {t : TA} {x m : Str} {ps : List Str} {sp : Sp} {k : Nat} {R : St → XK} {e : Expr} {es : List Expr} {pos apos : Pos}
end
end L2

namespace L2
open PySem PySem.Spec PyProof.Rows
section
variable {σ : St} {H : Hp} {Q : VK}
noncomputable def NewO (o : HO) (n : Nat) (H : Hp) (Q : VK) : Prop := n ≤ sizeLine ∧ ∀ p, H p = none → Q (.ref p) (upd H p o)
theorem r_lstG {a : TA} (h : a σ H fun xs H1 => NewO (.lst xs) xs.length H1 Q) : tLst a σ H Q := h
theorem r_tupG {a : TA} (h : a σ H fun xs H1 => NewO (.tup xs) xs.length H1 Q) : tTup a σ H Q := h
theorem r_newO {o : HO} {n : Nat} (c : Nat.ble n 64 = true) (h : ∀ p H', H p = none → Same H H' → H' p = some o → Q (.ref p) H') : NewO o n H Q :=
  ⟨Nat.le_trans (Nat.le_of_ble_eq_true c) (by decide), fun p np => h p _ np ((Same.refl H).upd np) upd_same⟩
end
end L2

namespace L2
open PySem PySem.Spec PyProof.Rows
section
variable {X : Cx}
end
end L2

namespace L2
open PySem PySem.Spec PyProof.Rows
section
variable {sub : List (Option Nat)} {g : TG} {tt : TT} {te : TE} {σ : St} {Q : VK} {H : Hp} {K : PySem.W.Frag} {a : Addr} {xs : List V} {lo : Int} {n : Nat} {z : Str}
theorem comp_rngG (Pv : Nat → List V → Hp → Prop) (hn : n ≤ sizeLine) (h0 : Pv 0 [] H) (hl : ∀ i ys H, Pv i ys H → ys.length ≤ i)
    (hs : ∀ i ys H, i < n → Pv i ys H → g (.int (lo + i)) (subSt sub σ) H fun σ2 H2 => KeepSt (subSt sub σ) σ2 ∧ tt σ2 H2 fun b H3 => if b = true then te σ2 H3 fun y H4 => Pv (i + 1) (ys ++ [y]) H4 else Pv (i + 1) ys H3)
    (hd : ∀ ys H D H', Pv n ys H → H D = none → Same H H' → H' D = some (.lst ys) → Q (.ref D) H') : CompR sub g tt te σ Q (Itr lo n) H :=
  comp_rng Pv hn h0 hl hs fun ys H p D nD => hd ys H D _ p nD ((Same.refl H).upd nD) upd_same
theorem comp_listG (Pv : Nat → List V → Hp → Prop) (hn : xs.length ≤ sizeLine) (h0 : Pv 0 [] H) (hl : ∀ i ys H, Pv i ys H → ys.length ≤ i) (hq : ∀ i ys H, Pv i ys H → SqL K H a xs)
    (hs : ∀ i ys H x, xs[i]? = some x → Pv i ys H → g x (subSt sub σ) H fun σ2 H2 => KeepSt (subSt sub σ) σ2 ∧ tt σ2 H2 fun b H3 => if b = true then te σ2 H3 fun y H4 => Pv (i + 1) (ys ++ [y]) H4 else Pv (i + 1) ys H3)
    (hd : ∀ ys H D H', Pv xs.length ys H → H D = none → Same H H' → H' D = some (.lst ys) → Q (.ref D) H') : CompR sub g tt te σ Q (Itl K a) H :=
  comp_list Pv hn h0 hl hq hs fun ys H p D nD => hd ys H D _ p nD ((Same.refl H).upd nD) upd_same
theorem comp_tupG (Pv : Nat → List V → Hp → Prop) (hn : xs.length ≤ sizeLine) (h0 : Pv 0 [] H) (hl : ∀ i ys H, Pv i ys H → ys.length ≤ i) (hq : ∀ i ys H, Pv i ys H → SqT K H a xs)
    (hs : ∀ i ys H x, xs[i]? = some x → Pv i ys H → g x (subSt sub σ) H fun σ2 H2 => KeepSt (subSt sub σ) σ2 ∧ tt σ2 H2 fun b H3 => if b = true then te σ2 H3 fun y H4 => Pv (i + 1) (ys ++ [y]) H4 else Pv (i + 1) ys H3)
    (hd : ∀ ys H D H', Pv xs.length ys H → H D = none → Same H H' → H' D = some (.lst ys) → Q (.ref D) H') : CompR sub g tt te σ Q (Itt K a) H :=
  comp_tup Pv hn h0 hl hq hs fun ys H p D nD => hd ys H D _ p nD ((Same.refl H).upd nD) upd_same
theorem mapNext {f : Nat → V} {i : Nat} {y : V} (h : y = f i) : (List.range i).map f ++ [y] = (List.range (i + 1)).map f := by rw [h, List.range_succ, List.map_append]; rfl
end
end L2

namespace L2
open PySem PySem.Spec PyProof.Rows
noncomputable def Kr (rk : Keyed → Int) (xs : Array Keyed) (i : Nat) : Int := match xs[i]? with
  | some p => rk p
  | none => 0
noncomputable def Seg (rk : Keyed → Int) (xs : Array Keyed) (lo hi : Nat) : Prop := ∀ i j, lo ≤ i → i ≤ j → j < hi → Kr rk xs i ≤ Kr rk xs j
noncomputable def SegD (rk : Keyed → Int) (xs : Array Keyed) (lo hi : Nat) : Prop := ∀ i j, lo ≤ i → i ≤ j → j < hi → Kr rk xs j ≤ Kr rk xs i
structure SB (a₀ : Array Keyed) (kd : SortKind) (st : SortSt) : Prop where
  perm : (arrOf st).Perm a₀
  kind : kindOf st = kd
  failed : failedOf st = none
noncomputable def LtOk (M : Model) (A : Around) (E : Value → Shared → Prop) (s : Shared) (kd : SortKind) (rk : Keyed → Int) (a₀ : Array Keyed) : Prop :=
  ∀ (p q : Keyed) (st : SortSt) (Q : Option Bool → SortSt → Prop), p ∈ a₀.toList → q ∈ a₀.toList → kindOf st = kd → Q (some (decide (rk p < rk q))) st → wpS M A E s (lt' p q) Q st
section
variable {M : Model} {A : Around} {E : Value → Shared → Prop} {s : Shared} {kd : SortKind} {rk : Keyed → Int} {a₀ : Array Keyed}
theorem Kr_congr {xs ys : Array Keyed} {i j : Nat} (h : xs[i]? = ys[j]?) : Kr rk xs i = Kr rk ys j := by unfold Kr; rw [h]
theorem Kr_at {xs : Array Keyed} {i : Nat} {p : Keyed} (h : xs[i]? = some p) : Kr rk xs i = rk p := by unfold Kr; rw [h]
theorem SB.size {st : SortSt} (h : SB a₀ kd st) : (arrOf st).size = a₀.size := h.perm.size_eq
theorem SB.mem {st : SortSt} (h : SB a₀ kd st) {p : Keyed} (hp : p ∈ (arrOf st).toList) : p ∈ a₀.toList := (Array.perm_iff_toList_perm.mp h.perm).mem_iff.mp hp
theorem SB.at {st : SortSt} (h : SB a₀ kd st) {i : Nat} (hi : i < a₀.size) : ∃ p, (arrOf st)[i]? = some p ∧ p ∈ a₀.toList := by
  have hi' : i < (arrOf st).size := by rw [h.size]; exact hi
  exact ⟨(arrOf st)[i], getElem?_pos _ i hi', h.mem (by simp)⟩
theorem wpS_elem {σ : Type} {xs : Array Keyed} {i : Nat} {p : Keyed} {Q : Keyed → SortSt → Prop} {st : SortSt} (h : xs[i]? = some p) (q : Q p st) : wpS M A E s (elem' xs i) Q st := by
  rw [elem'_eq, h]; exact wpS_pure q
theorem wpS_ltR {st : SortSt} {i j : Nat} {Q : Option Bool → SortSt → Prop} (L : LtOk M A E s kd rk a₀) (hB : SB a₀ kd st) (hi : i < a₀.size) (hj : j < a₀.size)
    (h : Q (some (decide (Kr rk (arrOf st) i < Kr rk (arrOf st) j))) st) : wpS M A E s (ltAt' i j) Q st := by
  obtain ⟨p, e1, m1⟩ := hB.at hi
  obtain ⟨q, e2, m2⟩ := hB.at hj
  rw [ltAt'_eq]
  refine wpS_bind (wpS_get ?_)
  refine wpS_bind (wpS_elem (σ := Unit) e1 (wpS_bind (wpS_elem (σ := Unit) e2 ?_)))
  rw [Kr_at e1, Kr_at e2] at h
  exact L p q st Q m1 m2 hB.kind h
theorem Kr_mirror {xs : Array Keyed} {i j : Nat} (hj : j ≤ xs.size) (k : Nat) : Kr rk (mirror xs i j ((j - i) / 2)) k = if i ≤ k ∧ k < j then Kr rk xs (i + j - 1 - k) else Kr rk xs k := by
  have e := getElem?_mirror_all (i := i) hj k
  by_cases h1 : i ≤ k ∧ k < j
  · rw [if_pos h1] at e ⊢; exact Kr_congr e
  · rw [if_neg h1] at e ⊢; exact Kr_congr e
theorem Kr_mirror_equal {xs : Array Keyed} {i j : Nat} (hj : j ≤ xs.size) (heq : ∀ k, i ≤ k → k < j → Kr rk xs k = Kr rk xs (j - 1)) (k : Nat) : Kr rk (mirror xs i j ((j - i) / 2)) k = Kr rk xs k := by
  rw [Kr_mirror hj]
  split
  · rw [heq _ (by omega) (by omega), heq k (by omega) (by omega)]
  · rfl
theorem Kr_bubble {xs : Array Keyed} {src d : Nat} (hs : src < xs.size) (hd : d ≤ src) (k : Nat) :
    Kr rk (bubble xs src d) k = if k = src - d then Kr rk xs src else if src - d < k ∧ k ≤ src then Kr rk xs (k - 1) else Kr rk xs k := by
  have e := getElem?_bubble hs d hd k
  by_cases h1 : k = src - d
  · rw [if_pos h1] at e ⊢; exact Kr_congr e
  · rw [if_neg h1] at e ⊢
    by_cases h2 : src - d < k ∧ k ≤ src
    · rw [if_pos h2] at e ⊢; exact Kr_congr e
    · rw [if_neg h2] at e ⊢; exact Kr_congr e
structure Nx (a₀ : Array Keyed) (kd : SortKind) (rk : Keyed → Int) (lo : Nat) (st st' : SortSt) : Prop where
  sb : SB a₀ kd st'
  fr : ∀ k, k < lo → Kr rk (arrOf st') k = Kr rk (arrOf st) k
  pe : pendingOf st' = pendingOf st
theorem Nx.refl {lo : Nat} {st : SortSt} (h : SB a₀ kd st) : Nx a₀ kd rk lo st st := ⟨h, fun _ _ => rfl, rfl⟩
theorem Nx.trans {lo : Nat} {st st' st'' : SortSt} (h : Nx a₀ kd rk lo st st') (h' : Nx a₀ kd rk lo st' st'') : Nx a₀ kd rk lo st st'' := ⟨h'.sb, fun k hk => (h'.fr k hk).trans (h.fr k hk), h'.pe.trans h.pe⟩
theorem Nx.mir {lo i j : Nat} {st st' : SortSt} (h : Nx a₀ kd rk lo st st') (hi : lo ≤ i) (hj : j ≤ a₀.size) : Nx a₀ kd rk lo st (setArr st' (mirror (arrOf st') i j ((j - i) / 2))) :=
  ⟨⟨(mirror_perm _ _ _ _).trans h.sb.perm, h.sb.kind, h.sb.failed⟩, fun k hk => by
    show Kr rk (mirror (arrOf st') i j ((j - i) / 2)) k = _
    rw [Kr_mirror (by rw [h.sb.size]; exact hj), if_neg (by omega)]; exact h.fr k hk, h.pe⟩
theorem Nx.bub {lo src d : Nat} {st st' : SortSt} (h : Nx a₀ kd rk lo st st') (hs : src < a₀.size) (hd : d ≤ src) (hi : lo ≤ src - d) : Nx a₀ kd rk lo st (setArr st' (bubble (arrOf st') src d)) :=
  ⟨⟨(bubble_perm _ _ _).trans h.sb.perm, h.sb.kind, h.sb.failed⟩, fun k hk => by
    show Kr rk (bubble (arrOf st') src d) k = _
    rw [Kr_bubble (by rw [h.sb.size]; exact hs) hd, if_neg (by omega), if_neg (by omega)]; exact h.fr k hk, h.pe⟩
theorem wpS_rev {st : SortSt} {i j : Nat} {Q : Unit → SortSt → Prop} (h : Q () (setArr st (mirror (arrOf st) i j ((j - i) / 2)))) : wpS M A E s (reverseSlice' i j) Q st := by
  rw [reverseSlice'_eq]; exact wpS_modify h
noncomputable def ascL (lo a nrem : Nat) : StateT SortSt Sem AscSt :=
  forIn [a:nrem] ((none, a) : AscSt) fun _ __s => do
    let __x ← ltAt' (lo + __s.snd) (lo + __s.snd - 1)
    match __x with
    | some smaller => if smaller = true then pure (ForInStep.done (none, __s.snd)) else pure (ForInStep.yield (none, __s.snd + 1))
    | _ => pure (ForInStep.done (some none, __s.snd))
noncomputable def tail3L (lo n nrem : Nat) : StateT SortSt Sem (Option Nat) := do
  reverseSlice' lo (lo + n)
  let __s ← ascL lo n nrem
  match __s.fst with
  | some r => pure r
  | none => pure (some __s.snd)
noncomputable def descL (lo n nrem : Nat) : StateT SortSt Sem DescSt :=
  forIn [n:nrem] ((none, n, 0) : DescSt) fun _ __s => do
    let __x ← ltAt' (lo + __s.snd.fst) (lo + __s.snd.fst - 1)
    match __x with
    | some smaller =>
      if smaller = true then
        if __s.snd.snd > 0 then do
          reverseSlice' (lo + __s.snd.fst - (__s.snd.snd + 1)) (lo + __s.snd.fst)
          pure (ForInStep.yield (none, __s.snd.fst + 1, 0))
        else pure (ForInStep.yield (none, __s.snd.fst + 1, 0))
      else do
        let __x ← ltAt' (lo + __s.snd.fst - 1) (lo + __s.snd.fst)
        match __x with
        | some larger =>
          if larger = true then pure (ForInStep.done (none, __s.snd.fst, __s.snd.snd))
          else pure (ForInStep.yield (none, __s.snd.fst + 1, __s.snd.snd + 1))
        | _ => pure (ForInStep.done (some none, __s.snd.fst, __s.snd.snd))
    | _ => pure (ForInStep.done (some none, __s.snd.fst, __s.snd.snd))
noncomputable def descPL (lo n nrem : Nat) : StateT SortSt Sem (Option Nat) := do
  liftM (rule "list.sort.descending-run")
  let __s ← descL lo (n + 1) nrem
  match __s.fst with
  | some r => pure r
  | none =>
    if __s.snd.snd > 0 then do
      reverseSlice' (lo + __s.snd.fst - (__s.snd.snd + 1)) (lo + __s.snd.fst)
      tail3L lo __s.snd.fst nrem
    else tail3L lo __s.snd.fst nrem
theorem countL_eq (lo nrem : Nat) : countRun' lo nrem = (do
    let __s ← ascL lo 1 nrem
    match __s.fst with
    | some r => pure r
    | none =>
      if (__s.snd == nrem) = true then pure (some __s.snd)
      else if __s.snd > 1 then do
        let __x ← ltAt' lo (lo + __s.snd - 1)
        match __x with
        | some rose => if rose = true then pure (some __s.snd) else do
            reverseSlice' lo (lo + __s.snd)
            descPL lo __s.snd nrem
        | _ => pure none
      else descPL lo __s.snd nrem) := by
  rw [countRun'_eq]
  unfold descPL tail3L descL ascL
  dsimp only
  congr 1
  funext __s
  obtain ⟨r, n⟩ := __s
  cases r with
  | some r => rfl
  | none =>
    dsimp only
    split
    · rfl
    · split
      · congr 1
        funext x
        cases x with
        | none => rfl
        | some rose =>
          dsimp only
          split
          · rfl
          · congr 1
            funext _r
            congr 1
            funext _u
            congr 1
            congr 1
            funext s2
            obtain ⟨r2, n2, q2⟩ := s2
            cases r2 with
            | some r2 => rfl
            | none =>
              dsimp only
              split
              · congr 1
                funext _v
                (congr 1; funext _w; congr 1; (funext s3; obtain ⟨r3, n3⟩ := s3; cases r3 <;> rfl))
              · (congr 1; funext _w; congr 1; (funext s3; obtain ⟨r3, n3⟩ := s3; cases r3 <;> rfl))
      · congr 1
        funext _u
        congr 1
        congr 1
        funext s2
        obtain ⟨r2, n2, q2⟩ := s2
        cases r2 with
        | some r2 => rfl
        | none =>
          dsimp only
          split
          · congr 1
            funext _v
            (congr 1; funext _w; congr 1; (funext s3; obtain ⟨r3, n3⟩ := s3; cases r3 <;> rfl))
          · (congr 1; funext _w; congr 1; (funext s3; obtain ⟨r3, n3⟩ := s3; cases r3 <;> rfl))
theorem wpS_ascL {st : SortSt} {lo a nrem : Nat} {Q : AscSt → SortSt → Prop} (L : LtOk M A E s kd rk a₀) (hn : lo + nrem ≤ a₀.size) (ha : 1 ≤ a) (han : a ≤ nrem) (hB : SB a₀ kd st) (hs : Seg rk (arrOf st) lo (lo + a))
    (h : ∀ n, a ≤ n → n ≤ nrem → Seg rk (arrOf st) lo (lo + n) → (n = nrem ∨ Kr rk (arrOf st) (lo + n) < Kr rk (arrOf st) (lo + n - 1)) → Q (none, n) st) :
    wpS M A E s (ascL lo a nrem) Q st := by
  unfold ascL
  refine wpS_forRange (I := fun x c st' => st' = st ∧ c = (none, x) ∧ Seg rk (arrOf st) lo (lo + x)) ?step ?fin ⟨rfl, rfl, hs⟩
  case fin =>
    rintro c st' ⟨rfl, rfl, hs'⟩
    rw [show max a nrem = nrem by omega] at hs' ⊢
    exact h nrem han (Nat.le_refl _) hs' (.inl rfl)
  case step =>
    rintro x c st' hax hxn ⟨rfl, rfl, hs'⟩
    dsimp only
    refine wpS_bind (wpS_ltR L hB (by omega) (by omega) ?_)
    by_cases hless : Kr rk (arrOf st') (lo + x) < Kr rk (arrOf st') (lo + x - 1)
    · simp only [hless, decide_true, if_true]
      exact wpS_pure (h x hax (by omega) hs' (.inr hless))
    · simp only [hless, decide_false, Bool.false_eq_true, if_false]
      refine wpS_pure ⟨rfl, rfl, fun i j hl hij hj => ?_⟩
      by_cases hjx : j < lo + x
      · exact hs' i j hl hij hjx
      · have hj' : j = lo + x := by omega
        subst hj'
        by_cases hi' : i = lo + x
        · subst hi'; exact Int.le_refl _
        · exact Int.le_trans (hs' i (lo + x - 1) hl (by omega) (by omega)) (Int.not_lt.mp hless)
theorem wpS_tail3L {st : SortSt} {lo n nrem : Nat} {Q : Option Nat → SortSt → Prop} (L : LtOk M A E s kd rk a₀) (hn : lo + nrem ≤ a₀.size) (h1 : 1 ≤ n) (hnn : n ≤ nrem) (hB : SB a₀ kd st)
    (hs : SegD rk (arrOf st) lo (lo + n)) (h : ∀ m st', Nx a₀ kd rk lo st st' → 1 ≤ m → m ≤ nrem → Seg rk (arrOf st') lo (lo + m) → Q (some m) st') :
    wpS M A E s (tail3L lo n nrem) Q st := by
  unfold tail3L
  have hsz : lo + n ≤ (arrOf st).size := by rw [hB.size]; omega
  refine wpS_bind (wpS_rev ?_)
  have hN : Nx a₀ kd rk lo st (setArr st (mirror (arrOf st) lo (lo + n) ((lo + n - lo) / 2))) := (Nx.refl hB).mir (Nat.le_refl _) (by omega)
  refine wpS_bind (wpS_ascL L hn h1 hnn hN.sb ?_ fun m hm1 hm2 hsm _ => wpS_pure (h m _ hN (by omega) hm2 hsm))
  intro i j hl hij hj
  show Kr rk (mirror (arrOf st) lo (lo + n) ((lo + n - lo) / 2)) i ≤ Kr rk (mirror (arrOf st) lo (lo + n) ((lo + n - lo) / 2)) j
  rw [Kr_mirror hsz, Kr_mirror hsz, if_pos (by omega), if_pos (by omega)]
  exact hs _ _ (by omega) (by omega) (by omega)
theorem wpS_descL {st : SortSt} {lo n nrem : Nat} {Q : DescSt → SortSt → Prop} (L : LtOk M A E s kd rk a₀) (hn : lo + nrem ≤ a₀.size) (h1 : 1 ≤ n) (hnn : n ≤ nrem) (hB : SB a₀ kd st)
    (hs : SegD rk (arrOf st) lo (lo + n))
    (h : ∀ m neq st', Nx a₀ kd rk lo st st' → n ≤ m → m ≤ nrem → SegD rk (arrOf st') lo (lo + m) → neq + 1 ≤ m → (∀ i, lo + m - (neq + 1) ≤ i → i < lo + m → Kr rk (arrOf st') i = Kr rk (arrOf st') (lo + m - 1)) → Q (none, m, neq) st') :
    wpS M A E s (descL lo n nrem) Q st := by
  unfold descL
  refine wpS_forRange (I := fun x c st' => ∃ neq, c = (none, x, neq) ∧ Nx a₀ kd rk lo st st' ∧ SegD rk (arrOf st') lo (lo + x) ∧ neq + 1 ≤ x ∧
      (∀ i, lo + x - (neq + 1) ≤ i → i < lo + x → Kr rk (arrOf st') i = Kr rk (arrOf st') (lo + x - 1))) ?step ?fin ⟨0, rfl, Nx.refl hB, hs, by omega, fun i h1 h2 => by congr 1; omega⟩
  case fin =>
    rintro c st' ⟨neq, rfl, hB', hs', hq, he⟩
    rw [show max n nrem = nrem by omega] at hs' hq he ⊢
    exact h nrem neq st' hB' hnn (Nat.le_refl _) hs' hq he
  case step =>
    rintro x c st' hax hxn ⟨neq, rfl, hB', hs', hq, he⟩
    dsimp only
    have hsz : lo + x ≤ (arrOf st').size := by rw [hB'.sb.size]; omega
    refine wpS_bind (wpS_ltR L hB'.sb (by omega) (by omega) ?_)
    by_cases hless : Kr rk (arrOf st') (lo + x) < Kr rk (arrOf st') (lo + x - 1)
    · simp only [hless, decide_true, if_true]
      have step1 : ∀ xs : Array Keyed, (∀ k, Kr rk xs k = Kr rk (arrOf st') k) → SegD rk xs lo (lo + (x + 1)) := by
        intro xs hk i j hl hij hj
        rw [hk, hk]
        by_cases hjx : j < lo + x
        · exact hs' i j hl hij hjx
        · have hj' : j = lo + x := by omega
          subst hj'
          by_cases hi' : i = lo + x
          · subst hi'; exact Int.le_refl _
          · exact Int.le_trans (Int.le_of_lt hless) (hs' i (lo + x - 1) hl (by omega) (by omega))
      by_cases hneq : neq > 0
      · rw [if_pos hneq]
        refine wpS_bind (wpS_rev (wpS_pure ⟨0, rfl, hB'.mir (by omega) (by omega), step1 _ (Kr_mirror_equal hsz he), by omega, fun i h1 h2 => by congr 1; omega⟩))
      · rw [if_neg hneq]
        exact wpS_pure ⟨0, rfl, hB', step1 _ (fun _ => rfl), by omega, fun i h1 h2 => by congr 1; omega⟩
    · simp only [hless, decide_false, Bool.false_eq_true, if_false]
      refine wpS_bind (wpS_ltR L hB'.sb (by omega) (by omega) ?_)
      by_cases hlarger : Kr rk (arrOf st') (lo + x - 1) < Kr rk (arrOf st') (lo + x)
      · simp only [hlarger, decide_true, if_true]
        exact wpS_pure (h x neq st' hB' hax (by omega) hs' hq he)
      · simp only [hlarger, decide_false, Bool.false_eq_true, if_false]
        have heqx : Kr rk (arrOf st') (lo + x) = Kr rk (arrOf st') (lo + x - 1) := by omega
        refine wpS_pure ⟨neq + 1, rfl, hB', fun i j hl hij hj => ?_, by omega, fun i h1 h2 => ?_⟩
        · by_cases hjx : j < lo + x
          · exact hs' i j hl hij hjx
          · have hj' : j = lo + x := by omega
            subst hj'
            by_cases hi' : i = lo + x
            · subst hi'; exact Int.le_refl _
            · rw [heqx]; exact hs' i (lo + x - 1) hl (by omega) (by omega)
        · rw [show lo + (x + 1) - 1 = lo + x by omega]
          by_cases hix : i = lo + x
          · subst hix; rfl
          · rw [heqx]; exact he i (by omega) (by omega)
theorem wpS_descPL {st : SortSt} {lo n nrem : Nat} {Q : Option Nat → SortSt → Prop} (L : LtOk M A E s kd rk a₀) (hn : lo + nrem ≤ a₀.size) (hnn : n + 1 ≤ nrem) (hB : SB a₀ kd st)
    (hs : SegD rk (arrOf st) lo (lo + (n + 1))) (h : ∀ m st', Nx a₀ kd rk lo st st' → 1 ≤ m → m ≤ nrem → Seg rk (arrOf st') lo (lo + m) → Q (some m) st') :
    wpS M A E s (descPL lo n nrem) Q st := by
  unfold descPL
  refine wpS_bind (wpS_lift (wpAny_rule ⟨rfl, ?_⟩))
  refine wpS_bind (wpS_descL L hn (by omega) hnn hB hs fun m neq st' hB' hm1 hm2 hs' hq he => ?_)
  dsimp only
  have hsz : lo + m ≤ (arrOf st').size := by rw [hB'.sb.size]; omega
  by_cases hneq : neq > 0
  · rw [if_pos hneq]
    have N2 := hB'.mir (i := lo + m - (neq + 1)) (j := lo + m) (by omega) (by omega)
    refine wpS_bind (wpS_rev (wpS_tail3L L hn (by omega) hm2 N2.sb ?_ fun m' st2 N a b c => h m' st2 (N2.trans N) a b c))
    intro i j hl hij hj
    show Kr rk (mirror (arrOf st') _ _ _) j ≤ Kr rk (mirror (arrOf st') _ _ _) i
    rw [Kr_mirror_equal hsz he, Kr_mirror_equal hsz he]
    exact hs' i j hl hij hj
  · rw [if_neg hneq]
    exact wpS_tail3L L hn (by omega) hm2 hB'.sb hs' fun m' st2 N a b c => h m' st2 (hB'.trans N) a b c
theorem wpS_countL {st : SortSt} {lo nrem : Nat} {Q : Option Nat → SortSt → Prop} (L : LtOk M A E s kd rk a₀) (hn : lo + nrem ≤ a₀.size) (h1 : 1 ≤ nrem) (hB : SB a₀ kd st)
    (h : ∀ m st', Nx a₀ kd rk lo st st' → 1 ≤ m → m ≤ nrem → Seg rk (arrOf st') lo (lo + m) → Q (some m) st') :
    wpS M A E s (countRun' lo nrem) Q st := by
  rw [countL_eq]
  have one : ∀ xs : Array Keyed, Seg rk xs lo (lo + 1) := fun xs i j hl hij hj => by
    have : i = j := by omega
    subst this; exact Int.le_refl _
  refine wpS_bind (wpS_ascL L hn (Nat.le_refl 1) h1 hB (one _) fun n hn1 hn2 hsn hor => ?_)
  dsimp only
  by_cases hnn : n = nrem
  · rw [if_pos (by simpa using hnn)]
    exact wpS_pure (h n st (Nx.refl hB) hn1 hn2 hsn)
  · rw [if_neg (by simpa using hnn)]
    have hlt : Kr rk (arrOf st) (lo + n) < Kr rk (arrOf st) (lo + n - 1) := hor.resolve_left hnn
    by_cases hgt : n > 1
    · rw [if_pos hgt]
      refine wpS_bind (wpS_ltR L hB (by omega) (by omega) ?_)
      by_cases hrose : Kr rk (arrOf st) lo < Kr rk (arrOf st) (lo + n - 1)
      · simp only [hrose, decide_true, if_true]
        exact wpS_pure (h n st (Nx.refl hB) hn1 hn2 hsn)
      · simp only [hrose, decide_false, Bool.false_eq_true, if_false]
        have hsz : lo + n ≤ (arrOf st).size := by rw [hB.size]; omega
        have hall : ∀ k, lo ≤ k → k < lo + n → Kr rk (arrOf st) k = Kr rk (arrOf st) (lo + n - 1) := by
          intro k h0 hk
          have a1 := hsn lo k (by omega) h0 hk
          have a2 := hsn k (lo + n - 1) h0 (by omega) (by omega)
          omega
        have N2 := (Nx.refl (rk := rk) (lo := lo) hB).mir (i := lo) (j := lo + n) (by omega) (by omega)
        refine wpS_bind (wpS_rev (wpS_descPL L hn (by omega) N2.sb ?_ fun m' st2 N a b c => h m' st2 (N2.trans N) a b c))
        intro i j hl hij hj
        show Kr rk (mirror (arrOf st) _ _ _) j ≤ Kr rk (mirror (arrOf st) _ _ _) i
        rw [Kr_mirror_equal hsz hall, Kr_mirror_equal hsz hall]
        by_cases hjn : j < lo + n
        · rw [hall i hl (by omega), hall j (by omega) hjn]; exact Int.le_refl _
        · have hj' : j = lo + n := by omega
          subst hj'
          by_cases hi' : i = lo + n
          · subst hi'; exact Int.le_refl _
          · rw [hall i hl (by omega)]; exact Int.le_of_lt hlt
    · rw [if_neg hgt]
      have hn1' : n = 1 := by omega
      subst hn1'
      refine wpS_descPL L hn (by omega) hB ?_ h
      intro i j hl hij hj
      by_cases hi' : i = j
      · subst hi'; exact Int.le_refl _
      · have hi0 : i = lo := by omega
        have hj1 : j = lo + 1 := by omega
        subst hi0; subst hj1
        exact Int.le_of_lt hlt
theorem wpS_binL {st : SortSt} {lo n ok : Nat} {Q : Bool → SortSt → Prop} (L : LtOk M A E s kd rk a₀) (hn : lo + n ≤ a₀.size) (hok : ok ≤ n) (hB : SB a₀ kd st) (hs : Seg rk (arrOf st) lo (lo + ok))
    (h : ∀ st', Nx a₀ kd rk lo st st' → Seg rk (arrOf st') lo (lo + n) → Q true st') : wpS M A E s (binarySort' lo n ok) Q st := by
  rw [binarySort'_eq]
  refine wpS_bind (wpS_mono (wpS_forRange (I := fun k c st' => c = (none, ()) ∧ Nx a₀ kd rk lo st st' ∧ Seg rk (arrOf st') lo (lo + min k n))
    (Q := fun c st' => c = (none, ()) ∧ Nx a₀ kd rk lo st st' ∧ Seg rk (arrOf st') lo (lo + n)) ?step ?fin ?init) ?post)
  case post =>
    rintro c st' ⟨rfl, hB', hs'⟩
    exact wpS_pure (h st' hB' hs')
  case init =>
    refine ⟨rfl, Nx.refl hB, fun i j hl hij hj => ?_⟩
    by_cases h1 : ok = 0
    · have : i = j := by omega
      subst this; exact Int.le_refl _
    · exact hs i j hl hij (by omega)
  case fin =>
    rintro c st' ⟨hc, hB', hs'⟩
    refine ⟨hc, hB', ?_⟩
    rwa [show min (max (max ok 1) n) n = n by omega] at hs'
  case step =>
    rintro k c st' hak hkn ⟨rfl, hB', hs'⟩
    rw [show min k n = k by omega] at hs'
    have hk : lo + k < a₀.size := by omega
    refine wpS_bind (wpS_mono (wpS_forRange (I := fun x c st'' => st'' = st' ∧ ∃ l r, c = (none, l, r) ∧ l ≤ r ∧ r ≤ k ∧ r - l ≤ k - x ∧
        (∀ i, i < l → Kr rk (arrOf st') (lo + i) ≤ Kr rk (arrOf st') (lo + k)) ∧ (∀ i, r ≤ i → i < k → Kr rk (arrOf st') (lo + k) < Kr rk (arrOf st') (lo + i)))
      (Q := fun c st'' => st'' = st' ∧ ∃ l r, c = (none, l, r) ∧ l ≤ k ∧
        (∀ i, i < l → Kr rk (arrOf st') (lo + i) ≤ Kr rk (arrOf st') (lo + k)) ∧ (∀ i, l ≤ i → i < k → Kr rk (arrOf st') (lo + k) < Kr rk (arrOf st') (lo + i))) ?istep ?ifin ?iinit) ?ipost)
    case iinit => exact ⟨rfl, 0, k, rfl, by omega, by omega, by omega, fun i hi => by omega, fun i h1 h2 => by omega⟩
    case ifin =>
      rintro c st'' ⟨rfl, l, r, rfl, hlr, hrk, hm, hlo, hhi⟩
      have : l = r := by omega
      subst this
      exact ⟨rfl, l, l, rfl, hrk, hlo, hhi⟩
    case istep =>
      rintro x c st'' _ hxk ⟨rfl, l, r, rfl, hlr, hrk, hm, hlo, hhi⟩
      dsimp only
      by_cases hge : l ≥ r
      · rw [if_pos hge]
        have : l = r := by omega
        subst this
        exact wpS_pure ⟨rfl, l, l, rfl, hrk, hlo, hhi⟩
      · rw [if_neg hge]
        refine wpS_bind (wpS_ltR L hB'.sb hk (by omega) ?_)
        by_cases hless : Kr rk (arrOf st'') (lo + k) < Kr rk (arrOf st'') (lo + (l + r) / 2)
        · simp only [hless, decide_true, if_true]
          refine wpS_pure ⟨rfl, l, (l + r) / 2, rfl, by omega, by omega, by omega, hlo, fun i h1 h2 => ?_⟩
          exact Int.lt_of_lt_of_le hless (hs' _ _ (by omega) (by omega) (by omega))
        · simp only [hless, decide_false, Bool.false_eq_true, if_false]
          refine wpS_pure ⟨rfl, (l + r) / 2 + 1, r, rfl, by omega, by omega, by omega, fun i h1 => ?_, hhi⟩
          exact Int.le_trans (hs' (lo + i) (lo + (l + r) / 2) (by omega) (by omega) (by omega)) (Int.not_lt.mp hless)
    case ipost =>
      rintro c st'' ⟨rfl, l, r, rfl, hlk, hlo, hhi⟩
      show wpS _ _ _ _ (do moveDown' (lo + k) (lo + l); pure (ForInStep.yield (none, ()))) _ _
      rw [moveDown'_eq]
      refine wpS_bind (wpS_modify (wpS_pure ⟨rfl, hB'.bub hk (by omega) (by omega), ?_⟩))
      rw [show min (k + 1) n = k + 1 by omega]
      have hks : lo + k < (arrOf st'').size := by rw [hB'.sb.size]; exact hk
      intro i j hl hij hj
      obtain ⟨i, rfl⟩ : ∃ i', i = lo + i' := ⟨i - lo, by omega⟩
      obtain ⟨j, rfl⟩ : ∃ j', j = lo + j' := ⟨j - lo, by omega⟩
      show Kr rk (bubble (arrOf st'') (lo + k) (lo + k - (lo + l))) (lo + i) ≤ Kr rk (bubble (arrOf st'') (lo + k) (lo + k - (lo + l))) (lo + j)
      rw [Kr_bubble hks (by omega), Kr_bubble hks (by omega), show lo + k - (lo + k - (lo + l)) = lo + l by omega]
      repeat' split
      all_goals first
        | (exfalso; omega)
        | exact Int.le_refl _
        | exact hlo _ (by omega)
        | exact Int.le_of_lt (by rw [show lo + j - 1 = lo + (j - 1) by omega]; exact hhi _ (by omega) (by omega))
        | exact hs' _ _ (by omega) (by omega) (by omega)
end
end L2

namespace L2
open PySem PySem.Spec PyProof.Rows
noncomputable def gallop' : Bool → Keyed → Array Keyed → Nat → Nat → Nat → StateT SortSt Sem (Option Nat) := sortPriv% PySem.Builtin.gallop
noncomputable def bey (left : Bool) (key : Keyed) (arr : Array Keyed) (base i : Nat) : StateT SortSt Sem (Option Bool) := do
    let x ← elem' arr (base + i)
    if left then lt' x key else return (← lt' key x).map (!·)
section
variable {M : Model} {A : Around} {E : Value → Shared → Prop} {s : Shared} {kd : SortKind} {rk : Keyed → Int} {a₀ : Array Keyed}
noncomputable def gbin (left : Bool) (key : Keyed) (arr : Array Keyed) (base n lo hi : Nat) : StateT SortSt Sem (Option Nat) := do
  let __s ← forIn [:n] ((none, lo, hi) : Option (Option Nat) × Nat × Nat) fun x __s =>
      if __s.snd.fst ≥ __s.snd.snd then pure (ForInStep.done (none, __s.snd.fst, __s.snd.snd))
      else do
        let __x ← bey left key arr base (__s.snd.fst + (__s.snd.snd - __s.snd.fst) / 2)
        match __x with
          | some more =>
            if more = true then
              pure (ForInStep.yield (none, __s.snd.fst + (__s.snd.snd - __s.snd.fst) / 2 + 1, __s.snd.snd))
            else pure (ForInStep.yield (none, __s.snd.fst, __s.snd.fst + (__s.snd.snd - __s.snd.fst) / 2))
          | x => pure (ForInStep.done (some none, __s.snd.fst, __s.snd.snd))
  match __s.fst with
    | some r => pure r
    | none => pure (some __s.snd.snd)
theorem wpS_gbin {left : Bool} {key : Keyed} {arr : Array Keyed} {base n lo hi : Nat} {st : SortSt} {Q : Option Nat → SortSt → Prop} (P : Nat → Bool)
    (hP : ∀ i (R : Option Bool → SortSt → Prop), i < n → R (some (P i)) st → wpS M A E s (bey left key arr base i) R st) (hm : ∀ i j, i ≤ j → j < n → P j = true → P i = true)
    (h1 : lo ≤ hi) (h2 : hi ≤ n) (hlo : ∀ i, i < lo → P i = true) (hhi : ∀ i, hi ≤ i → i < n → P i = false)
    (h : ∀ k, k ≤ n → (∀ i, i < k → P i = true) → (∀ i, k ≤ i → i < n → P i = false) → Q (some k) st) : wpS M A E s (gbin left key arr base n lo hi) Q st := by
  unfold gbin
  refine wpS_bind (wpS_mono (wpS_forRange (I := fun x c st' => st' = st ∧ ∃ l r, c = (none, l, r) ∧ l ≤ r ∧ r ≤ n ∧ r - l ≤ n - x ∧ (∀ i, i < l → P i = true) ∧ (∀ i, r ≤ i → i < n → P i = false))
      (Q := fun c st' => st' = st ∧ ∃ l, c = (none, l, l) ∧ l ≤ n ∧ (∀ i, i < l → P i = true) ∧ (∀ i, l ≤ i → i < n → P i = false)) ?step ?fin ⟨rfl, lo, hi, rfl, h1, h2, by omega, hlo, hhi⟩) ?post)
  case fin =>
    rintro c st' ⟨rfl, l, r, rfl, a, b, d, e, f⟩
    obtain rfl : l = r := by omega
    exact ⟨rfl, l, rfl, b, e, f⟩
  case post =>
    rintro c st' ⟨rfl, l, rfl, b, e, f⟩
    exact wpS_pure (h l b e f)
  case step =>
    rintro x c st' _ hx ⟨rfl, l, r, rfl, a, b, d, e, f⟩
    dsimp only
    by_cases hge : l ≥ r
    · rw [if_pos hge]
      obtain rfl : l = r := by omega
      exact wpS_pure ⟨rfl, l, rfl, b, e, f⟩
    · rw [if_neg hge]
      refine wpS_bind (hP _ _ (by omega) ?_)
      dsimp only
      by_cases hb : P (l + (r - l) / 2) = true
      · rw [if_pos hb]
        exact wpS_pure ⟨rfl, _, _, rfl, by omega, b, by omega, fun i hi => hm i _ (by omega) (by omega) hb, f⟩
      · rw [if_neg hb]
        refine wpS_pure ⟨rfl, _, _, rfl, by omega, by omega, by omega, e, fun i h3 h4 => ?_⟩
        cases hq : P i with
        | false => rfl
        | true => exact absurd (hm _ _ h3 h4 hq) hb
theorem wpS_gallop {left : Bool} {key : Keyed} {arr : Array Keyed} {base n hint : Nat} {st : SortSt} {Q : Option Nat → SortSt → Prop} (P : Nat → Bool) (hh : hint < n)
    (hP : ∀ i (R : Option Bool → SortSt → Prop), i < n → R (some (P i)) st → wpS M A E s (bey left key arr base i) R st) (hm : ∀ i j, i ≤ j → j < n → P j = true → P i = true)
    (h : ∀ k, k ≤ n → (∀ i, i < k → P i = true) → (∀ i, k ≤ i → i < n → P i = false) → Q (some k) st) : wpS M A E s (gallop' left key arr base n hint) Q st := by
  refine wpS_bind (m := bey left key arr base hint) (hP hint _ hh ?_)
  dsimp only
  by_cases hr : P hint = true
  · rw [if_pos hr]
    refine wpS_bind (wpS_mono (wpS_forRange (I := fun x c st' => st' = st ∧ ∃ la of, c = (none, la, of) ∧ la < of ∧ hint + la < n ∧ P (hint + la) = true ∧ x + 1 ≤ of)
        (Q := fun c st' => st' = st ∧ ∃ la of, c = (none, la, of) ∧ la < of ∧ hint + la < n ∧ P (hint + la) = true ∧ (n - hint ≤ of ∨ (hint + of < n ∧ P (hint + of) = false))) ?step ?fin ⟨rfl, 0, 1, rfl, by omega, by omega, hr, by omega⟩) ?post)
    case fin =>
      rintro c st' ⟨rfl, la, of, rfl, a, b, d, e⟩
      exact ⟨rfl, la, of, rfl, a, b, d, .inl (by omega)⟩
    case step =>
      rintro x c st' _ hx ⟨rfl, la, of, rfl, a, b, d, e⟩
      dsimp only
      by_cases hge : of ≥ n - hint
      · rw [if_pos hge]
        exact wpS_pure ⟨rfl, la, of, rfl, a, b, d, .inl hge⟩
      · rw [if_neg hge]
        refine wpS_bind (hP _ _ (by omega) ?_)
        dsimp only
        cases hq : P (hint + of) with
        | false =>
          rw [if_pos (by decide)]
          exact wpS_pure ⟨rfl, la, of, rfl, a, b, d, .inr ⟨by omega, hq⟩⟩
        | true =>
          rw [if_neg (by decide)]
          exact wpS_pure ⟨rfl, of, 2 * of + 1, rfl, by omega, by omega, hq, by omega⟩
    case post =>
      rintro c st' ⟨rfl, la, of, rfl, a, b, d, e⟩
      dsimp only
      refine Eq.mpr (congrArg (fun m => wpS M A E s m Q st') (?eq : _ = gbin left key arr base n (hint + la + 1) (hint + min of (n - hint)))) ?_
      case eq =>
        unfold gbin
        congr 1
        funext c
        obtain ⟨r, l, h⟩ := c
        cases r <;> rfl
      refine wpS_gbin P hP hm (by omega) (by omega) (fun i hi => hm i _ (by omega) b d) (fun i h3 h4 => ?_) h
      rcases e with e | ⟨e1, e2⟩
      · omega
      · cases hq : P i with
        | false => rfl
        | true =>
          have := hm (hint + of) i (by omega) h4 hq
          rw [this] at e2; cases e2
  · rw [if_neg hr]
    have hr' : P hint = false := by simpa using hr
    refine wpS_bind (wpS_mono (wpS_forRange (I := fun x c st' => st' = st ∧ ∃ la of, c = (none, la, of) ∧ la < of ∧ la ≤ hint ∧ P (hint - la) = false ∧ x + 1 ≤ of)
        (Q := fun c st' => st' = st ∧ ∃ la of, c = (none, la, of) ∧ la < of ∧ la ≤ hint ∧ P (hint - la) = false ∧ (hint + 1 ≤ of ∨ (of ≤ hint ∧ P (hint - of) = true))) ?step2 ?fin2 ⟨rfl, 0, 1, rfl, by omega, by omega, hr', by omega⟩) ?post2)
    case fin2 =>
      rintro c st' ⟨rfl, la, of, rfl, a, b, d, e⟩
      exact ⟨rfl, la, of, rfl, a, b, d, .inl (by omega)⟩
    case step2 =>
      rintro x c st' _ hx ⟨rfl, la, of, rfl, a, b, d, e⟩
      dsimp only
      by_cases hge : of ≥ hint + 1
      · rw [if_pos hge]
        exact wpS_pure ⟨rfl, la, of, rfl, a, b, d, .inl hge⟩
      · rw [if_neg hge]
        refine wpS_bind (hP _ _ (by omega) ?_)
        dsimp only
        by_cases hq : P (hint - of) = true
        · rw [if_pos hq]
          exact wpS_pure ⟨rfl, la, of, rfl, a, b, d, .inr ⟨by omega, hq⟩⟩
        · rw [if_neg hq]
          exact wpS_pure ⟨rfl, of, 2 * of + 1, rfl, by omega, by omega, by simpa using hq, by omega⟩
    case post2 =>
      rintro c st' ⟨rfl, la, of, rfl, a, b, d, e⟩
      dsimp only
      refine Eq.mpr (congrArg (fun m => wpS M A E s m Q st') (?eq : _ = gbin left key arr base n (hint + 1 - min of (hint + 1)) (hint - la))) ?_
      case eq =>
        unfold gbin
        congr 1
        funext c
        obtain ⟨r, l, h⟩ := c
        cases r <;> rfl
      refine wpS_gbin P hP hm (by omega) (by omega) (fun i hi => ?_) (fun i h3 h4 => ?_) h
      · rcases e with e | ⟨e1, e2⟩
        · omega
        · exact hm i _ (by omega) (by omega) e2
      · cases hq : P i with
        | false => rfl
        | true =>
          have := hm (hint - la) i (by omega) h4 hq
          rw [this] at d; cases d
theorem wpS_bey {left : Bool} {key : Keyed} {arr : Array Keyed} {base i : Nat} {st : SortSt} {R : Option Bool → SortSt → Prop} (L : LtOk M A E s kd rk a₀) (hk : key ∈ a₀.toList) (ha : ∀ p ∈ arr.toList, p ∈ a₀.toList) (hi : base + i < arr.size) (kind : kindOf st = kd)
    (h : R (some (if left = true then decide (Kr rk arr (base + i) < rk key) else decide (Kr rk arr (base + i) ≤ rk key))) st) : wpS M A E s (bey left key arr base i) R st := by
  unfold bey
  have e : arr[base + i]? = some arr[base + i] := getElem?_pos arr (base + i) hi
  have hm : arr[base + i] ∈ a₀.toList := ha _ (by simp)
  rw [Kr_at e] at h
  refine wpS_bind (wpS_elem (σ := Unit) e ?_)
  cases left with
  | true =>
    simp only [if_true] at h ⊢
    exact L _ _ st R hm hk kind h
  | false =>
    simp only [Bool.false_eq_true, if_false] at h ⊢
    refine wpS_bind (L _ _ st _ hk hm kind (wpS_pure ?_))
    have : (some (decide (rk key < rk arr[base + i]))).map (fun x => !x) = some (decide (rk arr[base + i] ≤ rk key)) := by
      show some (!decide (rk key < rk arr[base + i])) = _
      congr 1
      rw [← decide_not]
      exact decide_eq_decide.mpr (by omega)
    rw [this]; exact h
end
end L2

namespace L2
open PySem PySem.Spec PyProof.Rows
noncomputable def setG' : Nat → StateT SortSt Sem Unit := sortPriv% PySem.Builtin.setMinGallop
theorem setG'_eq (g : Nat) : setG' g = modify fun s => SortSt.mk' (kindOf s) (arrOf s) (pendingOf s) g (failedOf s) := rfl
noncomputable def mergeLo' : Array Keyed → Array Keyed → StateT SortSt Sem (Array Keyed) := sortPriv% PySem.Builtin.mergeLo
noncomputable def mergeHi' : Array Keyed → Array Keyed → StateT SortSt Sem (Array Keyed) := sortPriv% PySem.Builtin.mergeHi
section
variable {M : Model} {A : Around} {E : Value → Shared → Prop} {s : Shared} {kd : SortKind} {rk : Keyed → Int} {a₀ : Array Keyed}
noncomputable abbrev PwL (rk : Keyed → Int) (l : List Keyed) : Prop := l.Pairwise fun p q => rk p ≤ rk q
structure Sm (st st' : SortSt) : Prop where
  arr : arrOf st' = arrOf st
  kind : kindOf st' = kindOf st
  failed : failedOf st' = failedOf st
  pend : pendingOf st' = pendingOf st
theorem Sm.refl (st : SortSt) : Sm st st := ⟨rfl, rfl, rfl, rfl⟩
theorem Sm.trans {a b c : SortSt} (h : Sm a b) (h' : Sm b c) : Sm a c := ⟨h'.arr.trans h.arr, h'.kind.trans h.kind, h'.failed.trans h.failed, h'.pend.trans h.pend⟩
theorem wpS_setG {st st0 : SortSt} {g : Nat} {Q : Unit → SortSt → Prop} (h0 : Sm st0 st) (h : ∀ st', Sm st0 st' → Q () st') : wpS M A E s (setG' g) Q st := by
  rw [setG'_eq]
  exact wpS_modify (h _ (h0.trans ⟨rfl, rfl, rfl, rfl⟩))
structure MI (rk : Keyed → Int) (a b out : Array Keyed) (ia ib : Nat) : Prop where
  ha : ia ≤ a.size
  hb : ib ≤ b.size
  so : PwL rk out.toList
  le : ∀ p ∈ out.toList, ∀ q ∈ a.toList.drop ia ++ b.toList.drop ib, rk p ≤ rk q
  pm : (out.toList ++ (a.toList.drop ia ++ b.toList.drop ib)).Perm (a.toList ++ b.toList)
noncomputable def Res (rk : Keyed → Int) (a b r : Array Keyed) : Prop := PwL rk r.toList ∧ r.toList.Perm (a.toList ++ b.toList)
theorem drop_split {α : Type} (l : List α) (i k : Nat) : l.drop i = (l.drop i).take k ++ l.drop (i + k) := by
  have e : l.drop (i + k) = (l.drop i).drop k := by rw [List.drop_drop]
  rw [e, List.take_append_drop]
theorem ext_toList (a : Array Keyed) (i k : Nat) : (a.extract i (i + k)).toList = (a.toList.drop i).take k := by
  rw [Array.toList_extract, List.extract_eq_drop_take]
  congr 1
  omega
theorem MI.takeA {a b out : Array Keyed} {ia ib : Nat} (h : MI rk a b out ia ib) (Sa : PwL rk a.toList) (k : Nat) (hk : ia + k ≤ a.size) (hc : ∀ p ∈ (a.toList.drop ia).take k, ∀ q ∈ b.toList.drop ib, rk p ≤ rk q) : MI rk a b (out ++ a.extract ia (ia + k)) (ia + k) ib := by
  have e := drop_split a.toList ia k
  have Sd : PwL rk (a.toList.drop ia) := Sa.sublist (List.drop_sublist _ _)
  rw [e] at Sd
  obtain ⟨s1, s2, s3⟩ := List.pairwise_append.mp Sd
  have tl : (out ++ a.extract ia (ia + k)).toList = out.toList ++ (a.toList.drop ia).take k := by rw [Array.toList_append, ext_toList]
  refine ⟨hk, h.hb, ?_, ?_, ?_⟩
  · rw [tl]
    exact List.pairwise_append.mpr ⟨h.so, s1, fun p hp q hq => h.le p hp q (List.mem_append_left _ (List.mem_of_mem_take hq))⟩
  · rw [tl]
    intro p hp q hq
    rcases List.mem_append.mp hp with hp | hp
    · refine h.le p hp q ?_
      rcases List.mem_append.mp hq with hq | hq
      · exact List.mem_append_left _ (by rw [e]; exact List.mem_append_right _ hq)
      · exact List.mem_append_right _ hq
    · rcases List.mem_append.mp hq with hq | hq
      · exact s3 p hp q hq
      · exact hc p hp q hq
  · rw [tl]
    refine List.Perm.trans (List.Perm.of_eq ?_) h.pm
    conv => rhs; rw [e]
    simp only [List.append_assoc]
theorem MI.takeB {a b out : Array Keyed} {ia ib : Nat} (h : MI rk a b out ia ib) (Sb : PwL rk b.toList) (k : Nat) (hk : ib + k ≤ b.size) (hc : ∀ p ∈ (b.toList.drop ib).take k, ∀ q ∈ a.toList.drop ia, rk p ≤ rk q) : MI rk a b (out ++ b.extract ib (ib + k)) ia (ib + k) := by
  have e := drop_split b.toList ib k
  have Sd : PwL rk (b.toList.drop ib) := Sb.sublist (List.drop_sublist _ _)
  rw [e] at Sd
  obtain ⟨s1, s2, s3⟩ := List.pairwise_append.mp Sd
  have tl : (out ++ b.extract ib (ib + k)).toList = out.toList ++ (b.toList.drop ib).take k := by rw [Array.toList_append, ext_toList]
  refine ⟨h.ha, hk, ?_, ?_, ?_⟩
  · rw [tl]
    exact List.pairwise_append.mpr ⟨h.so, s1, fun p hp q hq => h.le p hp q (List.mem_append_right _ (List.mem_of_mem_take hq))⟩
  · rw [tl]
    intro p hp q hq
    rcases List.mem_append.mp hp with hp | hp
    · refine h.le p hp q ?_
      rcases List.mem_append.mp hq with hq | hq
      · exact List.mem_append_left _ hq
      · exact List.mem_append_right _ (by rw [e]; exact List.mem_append_right _ hq)
    · rcases List.mem_append.mp hq with hq | hq
      · exact hc p hp q hq
      · exact s3 p hp q hq
  · rw [tl]
    refine List.Perm.trans ?_ h.pm
    conv => rhs; rw [e]
    rw [List.append_assoc]
    refine List.Perm.append_left _ ?_
    rw [← List.append_assoc, ← List.append_assoc]
    exact List.Perm.append_right _ List.perm_append_comm
theorem push_ext {out a : Array Keyed} {i : Nat} {p : Keyed} (h : a[i]? = some p) : out.push p = out ++ a.extract i (i + 1) := by
  apply Array.ext'
  rw [Array.toList_append, ext_toList, Array.toList_push]
  congr 1
  obtain ⟨hi, e⟩ := Array.getElem?_eq_some_iff.mp h
  rw [List.drop_eq_getElem_cons (by simpa using hi)]
  simp [e]
theorem take1 {a : Array Keyed} {i : Nat} {p q : Keyed} (h : a[i]? = some p) (hq : q ∈ (a.toList.drop i).take 1) : q = p := by
  obtain ⟨hi, e⟩ := Array.getElem?_eq_some_iff.mp h
  rw [List.drop_eq_getElem_cons (by simpa using hi)] at hq
  simpa [e] using hq
theorem drop_le {a : Array Keyed} {i : Nat} {p q : Keyed} (Sa : PwL rk a.toList) (h : a[i]? = some p) (hq : q ∈ a.toList.drop i) : rk p ≤ rk q := by
  obtain ⟨hi, e⟩ := Array.getElem?_eq_some_iff.mp h
  have Sd : PwL rk (a.toList.drop i) := Sa.sublist (List.drop_sublist _ _)
  rw [List.drop_eq_getElem_cons (by simpa using hi)] at Sd hq
  rcases List.mem_cons.mp hq with rfl | hq
  · simp [e]
  · have := (List.pairwise_cons.mp Sd).1 q hq
    simpa [e] using this
theorem drop_at {a : Array Keyed} {i : Nat} {q : Keyed} (hq : q ∈ a.toList.drop i) : ∃ j, i ≤ j ∧ j < a.size ∧ a[j]? = some q := by
  obtain ⟨k, hk, e⟩ := List.mem_iff_getElem.mp hq
  have hk' : i + k < a.size := by simp at hk; omega
  refine ⟨i + k, by omega, hk', ?_⟩
  rw [getElem?_pos a (i + k) hk', ← e]
  simp
theorem take_at {a : Array Keyed} {i k : Nat} {q : Keyed} (hq : q ∈ (a.toList.drop i).take k) : ∃ j, j < k ∧ a[i + j]? = some q := by
  obtain ⟨j, hj, e⟩ := List.mem_iff_getElem.mp hq
  have hj' : j < k ∧ i + j < a.size := by simp at hj; omega
  refine ⟨j, hj'.1, ?_⟩
  rw [getElem?_pos a (i + j) hj'.2, ← e]
  simp
theorem MI.pushA {a b out : Array Keyed} {ia ib : Nat} {p : Keyed} (h : MI rk a b out ia ib) (Sa : PwL rk a.toList) (e : a[ia]? = some p) (hc : ∀ q ∈ b.toList.drop ib, rk p ≤ rk q) : MI rk a b (out.push p) (ia + 1) ib := by
  rw [push_ext e]
  exact h.takeA Sa 1 (by have := (Array.getElem?_eq_some_iff.mp e).1; omega) fun q hq r hr => by rw [take1 e hq]; exact hc r hr
theorem MI.pushB {a b out : Array Keyed} {ia ib : Nat} {p : Keyed} (h : MI rk a b out ia ib) (Sb : PwL rk b.toList) (e : b[ib]? = some p) (hc : ∀ q ∈ a.toList.drop ia, rk p ≤ rk q) : MI rk a b (out.push p) ia (ib + 1) := by
  rw [push_ext e]
  exact h.takeB Sb 1 (by have := (Array.getElem?_eq_some_iff.mp e).1; omega) fun q hq r hr => by rw [take1 e hq]; exact hc r hr
theorem ext_all (a : Array Keyed) (i : Nat) : (a.extract i a.size).toList = a.toList.drop i := by
  rw [Array.toList_extract, List.extract_eq_drop_take, List.take_of_length_le (by simp)]
theorem MI.doneB {a b out : Array Keyed} {ia ib : Nat} (h : MI rk a b out ia ib) (Sa : PwL rk a.toList) (e : ib = b.size) : Res rk a b (out ++ a.extract ia a.size ++ b.extract ib b.size) := by
  have hd : b.toList.drop ib = [] := List.drop_eq_nil_of_le (by simp [e])
  unfold Res
  rw [Array.toList_append, Array.toList_append, ext_all, ext_all, hd, List.append_nil]
  have hp := h.pm
  rw [hd, List.append_nil] at hp
  exact ⟨List.pairwise_append.mpr ⟨h.so, Sa.sublist (List.drop_sublist _ _), fun p hp q hq => h.le p hp q (List.mem_append_left _ hq)⟩, hp⟩
theorem MI.doneA {a b out : Array Keyed} {ia ib : Nat} (h : MI rk a b out ia ib) (Sb : PwL rk b.toList) (e : ia = a.size) : Res rk a b (out ++ a.extract ia a.size ++ b.extract ib b.size) := by
  have hd : a.toList.drop ia = [] := List.drop_eq_nil_of_le (by simp [e])
  unfold Res
  rw [Array.toList_append, Array.toList_append, ext_all, ext_all, hd, List.append_nil]
  have hp := h.pm
  rw [hd, List.nil_append] at hp
  exact ⟨List.pairwise_append.mpr ⟨h.so, Sb.sublist (List.drop_sublist _ _), fun p hp q hq => h.le p hp q (List.mem_append_right _ hq)⟩, hp⟩
theorem MI.lastA {a b out : Array Keyed} {ia ib : Nat} (h : MI rk a b out ia ib) (Sb : PwL rk b.toList) (e : ia + 1 = a.size) (hl : ∀ p, a[a.size - 1]? = some p → ∀ q ∈ b.toList, rk q ≤ rk p) : Res rk a b (out ++ b.extract ib b.size ++ a.extract ia a.size) := by
  unfold Res
  rw [Array.toList_append, Array.toList_append, ext_all, ext_all]
  have hi : ia < a.size := by omega
  have ea : a.toList.drop ia = [a[ia]] := by
    rw [List.drop_eq_getElem_cons (by simpa using hi), List.drop_eq_nil_of_le (by simp; omega)]
    simp
  refine ⟨?_, ?_⟩
  · refine List.pairwise_append.mpr ⟨List.pairwise_append.mpr ⟨h.so, Sb.sublist (List.drop_sublist _ _), fun p hp q hq => h.le p hp q (List.mem_append_right _ hq)⟩, by rw [ea]; exact List.pairwise_singleton _ _, fun p hp q hq => ?_⟩
    rcases List.mem_append.mp hp with hp | hp
    · exact h.le p hp q (List.mem_append_left _ hq)
    · rw [ea] at hq
      rw [List.mem_singleton.mp hq]
      refine hl _ ?_ p (List.mem_of_mem_drop hp)
      rw [show a.size - 1 = ia by omega]; exact getElem?_pos a ia hi
  · refine List.Perm.trans ?_ h.pm
    rw [List.append_assoc]
    exact List.Perm.append_left _ List.perm_append_comm
end
end L2

set_option maxHeartbeats 8000000
namespace L2
open PySem PySem.Spec PyProof.Rows
section
variable {M : Model} {A : Around} {E : Value → Shared → Prop} {s : Shared} {kd : SortKind} {rk : Keyed → Int} {a₀ : Array Keyed}
theorem wpS_ite {σ α : Type} {c : Prop} [Decidable c] {x y : StateT σ Sem α} {Q : α → σ → Prop} {st : σ} (h1 : c → wpS M A E s x Q st) (h2 : ¬ c → wpS M A E s y Q st) : wpS M A E s (if c then x else y) Q st := by
  split
  · exact h1 ‹_›
  · exact h2 ‹_›
noncomputable def Go (rk : Keyed → Int) (a b : Array Keyed) (n : Nat) (r : Option (Array Keyed)) (out : Array Keyed) (ia ib : Nat) : Prop := (∃ x, r = some x ∧ Res rk a b x) ∨ (r = none ∧ MI rk a b out ia ib ∧ ib < b.size ∧ ia + 1 < a.size ∧ n ≤ ia + ib)
theorem wpS_mergeLo {a b : Array Keyed} {st : SortSt} {Q : Array Keyed → SortSt → Prop} (L : LtOk M A E s kd rk a₀) (ha : ∀ p ∈ a.toList, p ∈ a₀.toList) (hb : ∀ p ∈ b.toList, p ∈ a₀.toList) (Sa : PwL rk a.toList) (Sb : PwL rk b.toList)
    (n1 : 1 ≤ a.size) (n2 : 1 ≤ b.size) (hf : ∀ p, b[0]? = some p → ∀ q ∈ a.toList, rk p ≤ rk q) (hl : ∀ p, a[a.size - 1]? = some p → ∀ q ∈ b.toList, rk q ≤ rk p) (kind : kindOf st = kd)
    (h : ∀ r st', Sm st st' → Res rk a b r → Q r st') : wpS M A E s (mergeLo' a b) Q st := by
  have atA : ∀ {i : Nat}, i < a.size → ∃ p, a[i]? = some p ∧ p ∈ a₀.toList := fun {i} hi => ⟨a[i], getElem?_pos a i hi, ha _ (by simp)⟩
  have atB : ∀ {i : Nat}, i < b.size → ∃ p, b[i]? = some p ∧ p ∈ a₀.toList := fun {i} hi => ⟨b[i], getElem?_pos b i hi, hb _ (by simp)⟩
  have KA : ∀ {i : Nat} {p : Keyed}, a[i]? = some p → Kr rk a i = rk p := fun e => Kr_at e
  have SKa : ∀ i j, i ≤ j → j < a.size → Kr rk a i ≤ Kr rk a j := fun i j hij hj => by
    obtain ⟨p, ep, _⟩ := atA (show i < a.size by omega)
    obtain ⟨q, eq, _⟩ := atA hj
    rw [Kr_at ep, Kr_at eq]
    refine drop_le Sa ep ?_
    obtain ⟨hq, e⟩ := Array.getElem?_eq_some_iff.mp eq
    rw [← e]
    exact List.mem_iff_getElem.mpr ⟨j - i, by simp; omega, by simp [show i + (j - i) = j by omega]⟩
  have SKb : ∀ i j, i ≤ j → j < b.size → Kr rk b i ≤ Kr rk b j := fun i j hij hj => by
    obtain ⟨p, ep, _⟩ := atB (show i < b.size by omega)
    obtain ⟨q, eq, _⟩ := atB hj
    rw [Kr_at ep, Kr_at eq]
    refine drop_le Sb ep ?_
    obtain ⟨hq, e⟩ := Array.getElem?_eq_some_iff.mp eq
    rw [← e]
    exact List.mem_iff_getElem.mpr ⟨j - i, by simp; omega, by simp [show i + (j - i) = j by omega]⟩
  refine wpS_bind (wpS_lift (wpAny_rule ⟨rfl, ?_⟩))
  dsimp only
  obtain ⟨p0, e0, m0⟩ := atB (i := 0) (by omega)
  refine wpS_bind (wpS_elem (σ := Unit) e0 ?_)
  have I0 : MI rk a b #[p0] 0 1 := by
    have eb : b.toList = p0 :: b.toList.drop 1 := by
      obtain ⟨hi, e⟩ := Array.getElem?_eq_some_iff.mp e0
      have := List.drop_eq_getElem_cons (l := b.toList) (i := 0) (by simpa using hi)
      rw [List.drop_zero] at this
      conv => lhs; rw [this]
      simp [e]
    refine ⟨by omega, by omega, List.pairwise_singleton _ _, fun p hp q hq => ?_, ?_⟩
    · obtain rfl : p = p0 := by simpa using hp
      rcases List.mem_append.mp hq with hq | hq
      · exact hf p e0 q (List.mem_of_mem_drop hq)
      · exact drop_le Sb e0 (by rw [List.drop_zero]; exact List.mem_of_mem_drop hq)
    · show ([p0] ++ (a.toList.drop 0 ++ b.toList.drop 1)).Perm _
      rw [List.drop_zero]
      conv => rhs; rw [eb]
      exact (List.perm_middle (a := p0) (l₁ := a.toList) (l₂ := b.toList.drop 1)).symm
  by_cases h1 : 1 = b.size
  · rw [if_pos (by simpa using h1)]
    exact wpS_pure (h _ _ (Sm.refl _) (I0.doneB Sa h1))
  rw [if_neg (by simpa using h1)]
  by_cases h2 : 0 + 1 = a.size
  · rw [if_pos (by simpa using h2)]
    exact wpS_pure (h _ _ (Sm.refl _) (I0.lastA Sb h2 hl))
  rw [if_neg (by simpa using h2)]
  refine wpS_bind (wpS_get ?_)
  refine wpS_bind (wpS_mono (wpS_forRange (I := fun x c st' => Sm st st' ∧ ∃ out ia ib mg, c = (none, out, ia, ib, mg) ∧ MI rk a b out ia ib ∧ ib < b.size ∧ ia + 1 < a.size ∧ x + 1 ≤ ia + ib)
      (Q := fun c st' => Sm st st' ∧ ∃ r, c.1 = some r ∧ Res rk a b r) ?step ?fin ⟨Sm.refl _, _, _, _, _, rfl, I0, by omega, by omega, by omega⟩) ?post)
  case fin =>
    rintro c st' ⟨_, out, ia, ib, mg, rfl, I, x1, x2, x3⟩
    exact absurd x3 (by omega)
  case post =>
    rintro ⟨r0, c⟩ st' ⟨S, r, rfl, hr⟩
    exact wpS_pure (h r st' S hr)
  case step =>
    rintro x c st1 _ hx ⟨S1, out, ia, ib, mg, rfl, I, x1, x2, x3⟩
    dsimp only
    have kd1 : kindOf st1 = kd := S1.kind.trans kind
    refine wpS_bind (wpS_mono (wpS_forRange (I := fun y c st' => st' = st1 ∧ ∃ out' ia' ib' ac bc, c = (none, out', ia', ib', ac, bc) ∧ MI rk a b out' ia' ib' ∧ ib' < b.size ∧ ia' + 1 < a.size ∧ x + 1 + y ≤ ia' + ib')
      (Q := fun c st' => st' = st1 ∧ Go rk a b (x + 2) c.1 c.2.1 c.2.2.1 c.2.2.2.1) ?istep ?ifin ⟨rfl, _, _, _, _, _, rfl, I, x1, x2, by omega⟩) ?ipost)
    case ifin =>
      rintro c st' ⟨rfl, out', ia', ib', ac, bc, rfl, I', y1, y2, y3⟩
      exact ⟨rfl, .inr ⟨rfl, I', y1, y2, by show x + 2 ≤ ia' + ib'; omega⟩⟩
    case istep =>
      rintro y c st' _ hy ⟨rfl, out', ia', ib', ac, bc, rfl, I', y1, y2, y3⟩
      dsimp only
      obtain ⟨pb, eb, mb⟩ := atB y1
      obtain ⟨pa, ea, ma⟩ := atA (show ia' < a.size by omega)
      refine wpS_bind (wpS_elem (σ := Unit) eb (wpS_bind (wpS_elem (σ := Unit) ea (wpS_bind (L _ _ _ _ mb ma kd1 ?_)))))
      dsimp only
      by_cases hw : rk pb < rk pa
      · rw [if_pos (decide_eq_true hw)]
        refine wpS_bind (wpS_elem (σ := Unit) eb ?_)
        have I2 := I'.pushB Sb eb fun q hq => Int.le_trans (Int.le_of_lt hw) (drop_le Sa ea hq)
        by_cases h3 : ib' + 1 = b.size
        · rw [if_pos (by simpa using h3)]
          exact wpS_pure ⟨rfl, .inl ⟨_, rfl, I2.doneB Sa h3⟩⟩
        · rw [if_neg (by simpa using h3)]
          split
          · exact wpS_pure ⟨rfl, .inr ⟨rfl, I2, by show ib' + 1 < _; omega, y2, by show x + 2 ≤ ia' + (ib' + 1); omega⟩⟩
          · exact wpS_pure ⟨rfl, _, _, _, _, _, rfl, I2, by omega, y2, by omega⟩
      · rw [if_neg (by rw [decide_eq_false hw]; decide)]
        refine wpS_bind (wpS_elem (σ := Unit) ea ?_)
        have I2 := I'.pushA Sa ea fun q hq => Int.le_trans (by omega) (drop_le Sb eb hq)
        by_cases h3 : ia' + 1 + 1 = a.size
        · rw [if_pos (by simpa using h3)]
          exact wpS_pure ⟨rfl, .inl ⟨_, rfl, I2.lastA Sb h3 hl⟩⟩
        · rw [if_neg (by simpa using h3)]
          split
          · exact wpS_pure ⟨rfl, .inr ⟨rfl, I2, y1, by show ia' + 1 + 1 < _; omega, by show x + 2 ≤ ia' + 1 + ib'; omega⟩⟩
          · exact wpS_pure ⟨rfl, _, _, _, _, _, rfl, I2, y1, by omega, by omega⟩
    case ipost =>
      rintro ⟨r0, out1, ia1, ib1, ac1, bc1⟩ st' ⟨rfl, G⟩
      dsimp only at G ⊢
      rcases G with ⟨r, rfl, hr⟩ | ⟨rfl, I1, y1, y2, y3⟩
      · exact wpS_pure ⟨S1, r, rfl, hr⟩
      dsimp only
      refine wpS_bind (wpS_lift (wpAny_rule ⟨rfl, ?_⟩))
      refine wpS_bind (wpS_mono (wpS_forRange (I := fun y c st' => Sm st st' ∧ ∃ out' ia' ib' mg ac bc, c = (none, out', ia', ib', mg, ac, bc) ∧ MI rk a b out' ia' ib' ∧ ib' < b.size ∧ ia' + 1 < a.size ∧ x + 2 ≤ ia' + ib')
        (Q := fun c st' => Sm st st' ∧ Go rk a b (x + 2) c.1 c.2.1 c.2.2.1 c.2.2.2.1) ?gstep ?gfin ⟨S1, _, _, _, _, _, _, rfl, I1, y1, y2, y3⟩) ?gpost)
      case gfin =>
        rintro c st' ⟨S2, out', ia', ib', mg', ac, bc, rfl, I', y1, y2, y3⟩
        exact ⟨S2, .inr ⟨rfl, I', y1, y2, y3⟩⟩
      case gpost =>
        rintro ⟨r0, out1, ia1, ib1, mg1, ac1, bc1⟩ st' ⟨S2, G⟩
        dsimp only at G ⊢
        rcases G with ⟨r, rfl, hr⟩ | ⟨rfl, I1, y1, y2, y3⟩
        · exact wpS_pure ⟨S2, r, rfl, hr⟩
        dsimp only
        refine wpS_bind (wpS_setG S2 fun st2 S3 => ?_)
        exact wpS_pure ⟨S3, _, _, _, _, rfl, I1, y1, y2, y3⟩
      case gstep =>
        rintro y c st' _ hy ⟨S2, out', ia', ib', mg', ac, bc, rfl, I', y1, y2, y3⟩
        dsimp only
        obtain ⟨pb, eb, mb⟩ := atB y1
        refine wpS_ite (fun _ => ?_) (fun _ => ?_)
        all_goals
          refine wpS_bind (wpS_setG S2 fun st3 S3 => ?_)
          have kd3 : kindOf st3 = kd := S3.kind.trans kind
          refine wpS_bind (wpS_elem (σ := Unit) eb ?_)
          refine wpS_bind (wpS_gallop (fun i => decide (Kr rk a (ia' + i) ≤ rk pb)) (by omega) (fun i R hi r => wpS_bey L mb ha (by omega) kd3 (by simpa using r)) (fun i j hij hj hq => decide_eq_true (Int.le_trans (SKa _ _ (by omega) (by omega)) (of_decide_eq_true hq))) fun k hk hk1 hk2 => ?_)
          dsimp only
          have I2 := I'.takeA Sa k (by omega) fun p hp q hq => by
            obtain ⟨j, hj, e⟩ := take_at hp
            have := of_decide_eq_true (hk1 j hj)
            rw [Kr_at e] at this
            exact Int.le_trans this (drop_le Sb eb hq)
          have hgt : ∀ q ∈ a.toList.drop (ia' + k), rk pb ≤ rk q := fun q hq => by
            obtain ⟨j, h3, h4, e⟩ := drop_at hq
            have := of_decide_eq_false (hk2 (j - ia') (by omega) (by omega))
            rw [show ia' + (j - ia') = j by omega, Kr_at e] at this
            omega
          refine wpS_ite (fun hk0 => ?_) (fun hk0 => ?_)
          · refine wpS_ite (fun h3 => ?_) (fun h3 => wpS_ite (fun h4 => ?_) (fun h4 => ?_))
            · exact wpS_pure ⟨S3, .inl ⟨_, rfl, I2.lastA Sb (by simpa using h3) hl⟩⟩
            · exact wpS_pure ⟨S3, .inl ⟨_, rfl, I2.doneA Sb (by simpa using h4)⟩⟩
            have hi1 : ia' + k + 1 < a.size := by
              have z1 : ¬ ia' + k + 1 = a.size := by simpa using h3
              have z2 : ¬ ia' + k = a.size := by simpa using h4
              omega
            have J := I2
            have hg2 := hgt
            refine wpS_bind (wpS_elem (σ := Unit) eb ?_)
            have J2 := J.pushB Sb eb hg2
            refine wpS_ite (fun h5 => ?_) (fun h5 => ?_)
            · exact wpS_pure ⟨S3, .inl ⟨_, rfl, J2.doneB Sa (by simpa using h5)⟩⟩
            have h5' : ib' + 1 < b.size := by
              have : ¬ ib' + 1 = b.size := by simpa using h5
              omega
            obtain ⟨pa, ea, ma⟩ := atA (Nat.lt_of_succ_lt hi1)
            refine wpS_bind (wpS_elem (σ := Unit) ea ?_)
            refine wpS_bind (wpS_gallop (fun i => decide (Kr rk b (ib' + 1 + i) < rk pa)) (by omega) (fun i R hi r => wpS_bey L ma hb (by omega) kd3 (by simpa using r)) (fun i j hij hj hq => decide_eq_true (Int.lt_of_le_of_lt (SKb _ _ (by omega) (by omega)) (of_decide_eq_true hq))) fun k1 hk1 hk11 hk12 => ?_)
            dsimp only
            have J3 := J2.takeB Sb k1 (by omega) fun p hp q hq => by
              obtain ⟨j, hj, e⟩ := take_at hp
              have := of_decide_eq_true (hk11 j hj)
              rw [Kr_at e] at this
              exact Int.le_trans (Int.le_of_lt this) (drop_le Sa ea hq)
            have hle : ∀ q ∈ b.toList.drop (ib' + 1 + k1), rk pa ≤ rk q := fun q hq => by
              obtain ⟨j, h3, h4, e⟩ := drop_at hq
              have := of_decide_eq_false (hk12 (j - (ib' + 1)) (by omega) (by omega))
              rw [show ib' + 1 + (j - (ib' + 1)) = j by omega, Kr_at e] at this
              omega
            refine wpS_ite (fun hk10 => ?_) (fun hk10 => ?_)
            · refine wpS_ite (fun h6 => ?_) (fun h6 => ?_)
              · exact wpS_pure ⟨S3, .inl ⟨_, rfl, J3.doneB Sa (by simpa using h6)⟩⟩
              have h6' : ib' + 1 + k1 < b.size := by
                have : ¬ ib' + 1 + k1 = b.size := by simpa using h6
                omega
              refine wpS_bind (wpS_elem (σ := Unit) ea ?_)
              have J5 := J3.pushA Sa ea hle
              refine wpS_ite (fun h7 => ?_) (fun h7 => ?_)
              · exact wpS_pure ⟨S3, .inl ⟨_, rfl, J5.lastA Sb (by simpa using h7) hl⟩⟩
              have h7' := by simpa using h7
              refine wpS_ite (fun _ => ?_) (fun _ => ?_)
              · exact wpS_pure ⟨S3, .inr ⟨rfl, J5, h6', by dsimp only; omega, by dsimp only; omega⟩⟩
              · exact wpS_pure ⟨S3, _, _, _, _, _, _, rfl, J5, h6', by omega, by omega⟩
            · obtain rfl : k1 = 0 := by omega
              refine wpS_bind (wpS_elem (σ := Unit) ea ?_)
              have J5 := J2.pushA Sa ea hle
              refine wpS_ite (fun h7 => ?_) (fun h7 => ?_)
              · exact wpS_pure ⟨S3, .inl ⟨_, rfl, J5.lastA Sb (by simpa using h7) hl⟩⟩
              have h7' := by simpa using h7
              refine wpS_ite (fun _ => ?_) (fun _ => ?_)
              · exact wpS_pure ⟨S3, .inr ⟨rfl, J5, h5', by dsimp only; omega, by dsimp only; omega⟩⟩
              · exact wpS_pure ⟨S3, _, _, _, _, _, _, rfl, J5, h5', by omega, by omega⟩
          · obtain rfl : k = 0 := by omega
            have hi1 : ia' + 1 < a.size := y2
            have J := I'
            have hg2 : ∀ q ∈ a.toList.drop ia', rk pb ≤ rk q := hgt
            refine wpS_bind (wpS_elem (σ := Unit) eb ?_)
            have J2 := J.pushB Sb eb hg2
            refine wpS_ite (fun h5 => ?_) (fun h5 => ?_)
            · exact wpS_pure ⟨S3, .inl ⟨_, rfl, J2.doneB Sa (by simpa using h5)⟩⟩
            have h5' : ib' + 1 < b.size := by
              have : ¬ ib' + 1 = b.size := by simpa using h5
              omega
            obtain ⟨pa, ea, ma⟩ := atA (Nat.lt_of_succ_lt hi1)
            refine wpS_bind (wpS_elem (σ := Unit) ea ?_)
            refine wpS_bind (wpS_gallop (fun i => decide (Kr rk b (ib' + 1 + i) < rk pa)) (by omega) (fun i R hi r => wpS_bey L ma hb (by omega) kd3 (by simpa using r)) (fun i j hij hj hq => decide_eq_true (Int.lt_of_le_of_lt (SKb _ _ (by omega) (by omega)) (of_decide_eq_true hq))) fun k1 hk1 hk11 hk12 => ?_)
            dsimp only
            have J3 := J2.takeB Sb k1 (by omega) fun p hp q hq => by
              obtain ⟨j, hj, e⟩ := take_at hp
              have := of_decide_eq_true (hk11 j hj)
              rw [Kr_at e] at this
              exact Int.le_trans (Int.le_of_lt this) (drop_le Sa ea hq)
            have hle : ∀ q ∈ b.toList.drop (ib' + 1 + k1), rk pa ≤ rk q := fun q hq => by
              obtain ⟨j, h3, h4, e⟩ := drop_at hq
              have := of_decide_eq_false (hk12 (j - (ib' + 1)) (by omega) (by omega))
              rw [show ib' + 1 + (j - (ib' + 1)) = j by omega, Kr_at e] at this
              omega
            refine wpS_ite (fun hk10 => ?_) (fun hk10 => ?_)
            · refine wpS_ite (fun h6 => ?_) (fun h6 => ?_)
              · exact wpS_pure ⟨S3, .inl ⟨_, rfl, J3.doneB Sa (by simpa using h6)⟩⟩
              have h6' : ib' + 1 + k1 < b.size := by
                have : ¬ ib' + 1 + k1 = b.size := by simpa using h6
                omega
              refine wpS_bind (wpS_elem (σ := Unit) ea ?_)
              have J5 := J3.pushA Sa ea hle
              refine wpS_ite (fun h7 => ?_) (fun h7 => ?_)
              · exact wpS_pure ⟨S3, .inl ⟨_, rfl, J5.lastA Sb (by simpa using h7) hl⟩⟩
              have h7' := by simpa using h7
              refine wpS_ite (fun _ => ?_) (fun _ => ?_)
              · exact wpS_pure ⟨S3, .inr ⟨rfl, J5, h6', by dsimp only; omega, by dsimp only; omega⟩⟩
              · exact wpS_pure ⟨S3, _, _, _, _, _, _, rfl, J5, h6', by omega, by omega⟩
            · obtain rfl : k1 = 0 := by omega
              refine wpS_bind (wpS_elem (σ := Unit) ea ?_)
              have J5 := J2.pushA Sa ea hle
              refine wpS_ite (fun h7 => ?_) (fun h7 => ?_)
              · exact wpS_pure ⟨S3, .inl ⟨_, rfl, J5.lastA Sb (by simpa using h7) hl⟩⟩
              have h7' := by simpa using h7
              refine wpS_ite (fun _ => ?_) (fun _ => ?_)
              · exact wpS_pure ⟨S3, .inr ⟨rfl, J5, h5', by dsimp only; omega, by dsimp only; omega⟩⟩
              · exact wpS_pure ⟨S3, _, _, _, _, _, _, rfl, J5, h5', by omega, by omega⟩
end
end L2

namespace L2
open PySem PySem.Spec PyProof.Rows
section
variable {M : Model} {A : Around} {E : Value → Shared → Prop} {s : Shared} {kd : SortKind} {rk : Keyed → Int} {a₀ : Array Keyed}
structure MH (rk : Keyed → Int) (a b out : Array Keyed) (na nb : Nat) : Prop where
  ha : na ≤ a.size
  hb : nb ≤ b.size
  so : PwL rk out.toList.reverse
  le : ∀ p ∈ a.toList.take na ++ b.toList.take nb, ∀ q ∈ out.toList, rk p ≤ rk q
  pm : ((a.toList.take na ++ b.toList.take nb) ++ out.toList.reverse).Perm (a.toList ++ b.toList)
theorem take_split {α : Type} (l : List α) {i n : Nat} (h : i ≤ n) : l.take n = l.take i ++ (l.drop i).take (n - i) := by
  rw [List.take_drop, show i + (n - i) = n by omega]
  conv => lhs; rw [← List.take_append_drop i (l.take n)]
  rw [List.take_take, Nat.min_eq_left h]
theorem ext_mid (a : Array Keyed) {i n : Nat} (h : i ≤ n) : (a.extract i n).toList = (a.toList.drop i).take (n - i) := by
  rw [Array.toList_extract, List.extract_eq_drop_take]
theorem MH.takeA {a b out : Array Keyed} {na nb : Nat} (h : MH rk a b out na nb) (Sa : PwL rk a.toList) (i : Nat) (hi : i ≤ na) (hc : ∀ q ∈ (a.toList.drop i).take (na - i), ∀ p ∈ b.toList.take nb, rk p ≤ rk q) : MH rk a b (out ++ (a.extract i na).reverse) i nb := by
  have e := take_split a.toList hi
  have Sd : PwL rk (a.toList.take na) := Sa.sublist (List.take_sublist _ _)
  rw [e] at Sd
  obtain ⟨s1, s2, s3⟩ := List.pairwise_append.mp Sd
  have tl : (out ++ (a.extract i na).reverse).toList = out.toList ++ ((a.toList.drop i).take (na - i)).reverse := by rw [Array.toList_append, Array.toList_reverse, ext_mid a hi]
  have rl : (out ++ (a.extract i na).reverse).toList.reverse = (a.toList.drop i).take (na - i) ++ out.toList.reverse := by rw [tl, List.reverse_append, List.reverse_reverse]
  refine ⟨by have := h.ha; omega, h.hb, ?_, ?_, ?_⟩
  · rw [rl]
    exact List.pairwise_append.mpr ⟨s2, h.so, fun p hp q hq => h.le p (List.mem_append_left _ (by rw [e]; exact List.mem_append_right _ hp)) q (List.mem_reverse.mp hq)⟩
  · rw [tl]
    intro p hp q hq
    rcases List.mem_append.mp hq with hq | hq
    · refine h.le p ?_ q hq
      rcases List.mem_append.mp hp with hp | hp
      · exact List.mem_append_left _ (by rw [e]; exact List.mem_append_left _ hp)
      · exact List.mem_append_right _ hp
    · have hq := List.mem_reverse.mp hq
      rcases List.mem_append.mp hp with hp | hp
      · exact s3 p hp q hq
      · exact hc q hq p hp
  · rw [rl]
    refine List.Perm.trans ?_ h.pm
    conv => rhs; rw [e]
    rw [← List.append_assoc]
    refine List.Perm.append_right _ ?_
    rw [List.append_assoc, List.append_assoc]
    exact List.Perm.append_left _ List.perm_append_comm
theorem MH.takeB {a b out : Array Keyed} {na nb : Nat} (h : MH rk a b out na nb) (Sb : PwL rk b.toList) (i : Nat) (hi : i ≤ nb) (hc : ∀ q ∈ (b.toList.drop i).take (nb - i), ∀ p ∈ a.toList.take na, rk p ≤ rk q) : MH rk a b (out ++ (b.extract i nb).reverse) na i := by
  have e := take_split b.toList hi
  have Sd : PwL rk (b.toList.take nb) := Sb.sublist (List.take_sublist _ _)
  rw [e] at Sd
  obtain ⟨s1, s2, s3⟩ := List.pairwise_append.mp Sd
  have tl : (out ++ (b.extract i nb).reverse).toList = out.toList ++ ((b.toList.drop i).take (nb - i)).reverse := by rw [Array.toList_append, Array.toList_reverse, ext_mid b hi]
  have rl : (out ++ (b.extract i nb).reverse).toList.reverse = (b.toList.drop i).take (nb - i) ++ out.toList.reverse := by rw [tl, List.reverse_append, List.reverse_reverse]
  refine ⟨h.ha, by have := h.hb; omega, ?_, ?_, ?_⟩
  · rw [rl]
    exact List.pairwise_append.mpr ⟨s2, h.so, fun p hp q hq => h.le p (List.mem_append_right _ (by rw [e]; exact List.mem_append_right _ hp)) q (List.mem_reverse.mp hq)⟩
  · rw [tl]
    intro p hp q hq
    rcases List.mem_append.mp hq with hq | hq
    · refine h.le p ?_ q hq
      rcases List.mem_append.mp hp with hp | hp
      · exact List.mem_append_left _ hp
      · exact List.mem_append_right _ (by rw [e]; exact List.mem_append_left _ hp)
    · have hq := List.mem_reverse.mp hq
      rcases List.mem_append.mp hp with hp | hp
      · exact hc q hq p hp
      · exact s3 p hp q hq
  · rw [rl]
    refine List.Perm.trans (List.Perm.of_eq ?_) h.pm
    conv => rhs; rw [e]
    simp only [List.append_assoc]
theorem push_rev {out a : Array Keyed} {n : Nat} {p : Keyed} (hn : 1 ≤ n) (h : a[n - 1]? = some p) : out.push p = out ++ (a.extract (n - 1) n).reverse := by
  rw [push_ext h, show n - 1 + 1 = n by omega]
  congr 1
  apply Array.ext'
  rw [Array.toList_reverse, ext_mid a (by omega), show n - (n - 1) = 1 by omega]
  obtain ⟨hi, e⟩ := Array.getElem?_eq_some_iff.mp h
  rw [List.drop_eq_getElem_cons (by simpa using hi)]
  simp
theorem take_le {a : Array Keyed} {n : Nat} {p q : Keyed} (Sa : PwL rk a.toList) (hn : 1 ≤ n) (h : a[n - 1]? = some p) (hq : q ∈ a.toList.take n) : rk q ≤ rk p := by
  obtain ⟨hi, e⟩ := Array.getElem?_eq_some_iff.mp h
  obtain ⟨k, hk, ek⟩ := List.mem_iff_getElem.mp hq
  have hk' : k < n ∧ k < a.size := by simp at hk; omega
  have hqk : a[k]? = some q := by rw [getElem?_pos a k hk'.2, ← ek]; simp
  refine drop_le Sa hqk ?_
  rw [← e]
  exact List.mem_iff_getElem.mpr ⟨n - 1 - k, by simp; omega, by simp [show k + (n - 1 - k) = n - 1 by omega]⟩
theorem MH.pushA {a b out : Array Keyed} {na nb : Nat} {p : Keyed} (h : MH rk a b out na nb) (Sa : PwL rk a.toList) (hn : 1 ≤ na) (e : a[na - 1]? = some p) (hc : ∀ q ∈ b.toList.take nb, rk q ≤ rk p) : MH rk a b (out.push p) (na - 1) nb := by
  rw [push_rev hn e]
  refine h.takeA Sa (na - 1) (by omega) fun q hq r hr => ?_
  rw [show na - (na - 1) = 1 by omega] at hq
  rw [take1 e hq]; exact hc r hr
theorem MH.pushB {a b out : Array Keyed} {na nb : Nat} {p : Keyed} (h : MH rk a b out na nb) (Sb : PwL rk b.toList) (hn : 1 ≤ nb) (e : b[nb - 1]? = some p) (hc : ∀ q ∈ a.toList.take na, rk q ≤ rk p) : MH rk a b (out.push p) na (nb - 1) := by
  rw [push_rev hn e]
  refine h.takeB Sb (nb - 1) (by omega) fun q hq r hr => ?_
  rw [show nb - (nb - 1) = 1 by omega] at hq
  rw [take1 e hq]; exact hc r hr
theorem ext0 (a : Array Keyed) (n : Nat) : (a.extract 0 n).toList = a.toList.take n := by
  rw [ext_mid a (Nat.zero_le n), List.drop_zero, Nat.sub_zero]
theorem MH.doneA {a b out : Array Keyed} {na nb : Nat} (h : MH rk a b out na nb) (Sb : PwL rk b.toList) (e : na = 0) : Res rk a b (a.extract 0 na ++ b.extract 0 nb ++ out.reverse) := by
  unfold Res
  rw [Array.toList_append, Array.toList_append, ext0, ext0, Array.toList_reverse]
  refine ⟨?_, h.pm⟩
  have : a.toList.take na = [] := by rw [e]; rfl
  rw [this, List.nil_append]
  exact List.pairwise_append.mpr ⟨Sb.sublist (List.take_sublist _ _), h.so, fun p hp q hq => h.le p (List.mem_append_right _ hp) q (List.mem_reverse.mp hq)⟩
theorem MH.doneB {a b out : Array Keyed} {na nb : Nat} (h : MH rk a b out na nb) (Sa : PwL rk a.toList) (e : nb = 0) : Res rk a b (a.extract 0 na ++ b.extract 0 nb ++ out.reverse) := by
  unfold Res
  rw [Array.toList_append, Array.toList_append, ext0, ext0, Array.toList_reverse]
  refine ⟨?_, h.pm⟩
  have : b.toList.take nb = [] := by rw [e]; rfl
  rw [this, List.append_nil]
  exact List.pairwise_append.mpr ⟨Sa.sublist (List.take_sublist _ _), h.so, fun p hp q hq => h.le p (List.mem_append_left _ hp) q (List.mem_reverse.mp hq)⟩
theorem MH.firstB {a b out : Array Keyed} {na nb : Nat} (h : MH rk a b out na nb) (Sa : PwL rk a.toList) (e : nb = 1) (hf : ∀ p, b[0]? = some p → ∀ q ∈ a.toList, rk p ≤ rk q) : Res rk a b (b.extract 0 nb ++ a.extract 0 na ++ out.reverse) := by
  unfold Res
  rw [Array.toList_append, Array.toList_append, ext0, ext0, Array.toList_reverse]
  have hi : 0 < b.size := by have := h.hb; omega
  have eb : b.toList.take nb = [b[0]] := by
    rw [e]
    have := List.drop_eq_getElem_cons (l := b.toList) (i := 0) (by simpa using hi)
    rw [List.drop_zero] at this
    rw [this]; simp
  refine ⟨?_, (List.Perm.append_right _ List.perm_append_comm).trans h.pm⟩
  refine List.pairwise_append.mpr ⟨List.pairwise_append.mpr ⟨by rw [eb]; exact List.pairwise_singleton _ _, Sa.sublist (List.take_sublist _ _), fun p hp q hq => ?_⟩, h.so, fun p hp q hq => h.le p ?_ q (List.mem_reverse.mp hq)⟩
  · rw [eb] at hp
    rw [List.mem_singleton.mp hp]
    exact hf _ (getElem?_pos b 0 hi) q (List.mem_of_mem_take hq)
  · rcases List.mem_append.mp hp with hp | hp
    · exact List.mem_append_right _ hp
    · exact List.mem_append_left _ hp
theorem mid_at {a : Array Keyed} {i k : Nat} {q : Keyed} (hq : q ∈ (a.toList.drop i).take k) : ∃ j, i ≤ j ∧ j < i + k ∧ a[j]? = some q := by
  obtain ⟨j, hj, e⟩ := take_at hq
  exact ⟨i + j, by omega, by omega, e⟩
theorem pre_at {a : Array Keyed} {n : Nat} {q : Keyed} (hq : q ∈ a.toList.take n) : ∃ j, j < n ∧ a[j]? = some q := by
  obtain ⟨k, hk, e⟩ := List.mem_iff_getElem.mp hq
  have hk' : k < n ∧ k < a.size := by simp at hk; omega
  exact ⟨k, hk'.1, by rw [getElem?_pos a k hk'.2, ← e]; simp⟩
noncomputable def GoH (rk : Keyed → Int) (a b : Array Keyed) (n : Nat) (r : Option (Array Keyed)) (na nb : Nat) (out : Array Keyed) : Prop := (∃ x, r = some x ∧ Res rk a b x) ∨ (r = none ∧ MH rk a b out na nb ∧ 1 ≤ na ∧ 2 ≤ nb ∧ n + na + nb ≤ a.size + b.size)
theorem wpS_mergeHi {a b : Array Keyed} {st : SortSt} {Q : Array Keyed → SortSt → Prop} (L : LtOk M A E s kd rk a₀) (ha : ∀ p ∈ a.toList, p ∈ a₀.toList) (hb : ∀ p ∈ b.toList, p ∈ a₀.toList) (Sa : PwL rk a.toList) (Sb : PwL rk b.toList)
    (n1 : 1 ≤ a.size) (n2 : 1 ≤ b.size) (hf : ∀ p, b[0]? = some p → ∀ q ∈ a.toList, rk p ≤ rk q) (hl : ∀ p, a[a.size - 1]? = some p → ∀ q ∈ b.toList, rk q ≤ rk p) (kind : kindOf st = kd)
    (h : ∀ r st', Sm st st' → Res rk a b r → Q r st') : wpS M A E s (mergeHi' a b) Q st := by
  have atA : ∀ {i : Nat}, i < a.size → ∃ p, a[i]? = some p ∧ p ∈ a₀.toList := fun {i} hi => ⟨a[i], getElem?_pos a i hi, ha _ (by simp)⟩
  have atB : ∀ {i : Nat}, i < b.size → ∃ p, b[i]? = some p ∧ p ∈ a₀.toList := fun {i} hi => ⟨b[i], getElem?_pos b i hi, hb _ (by simp)⟩
  have KA : ∀ {i : Nat} {p : Keyed}, a[i]? = some p → Kr rk a i = rk p := fun e => Kr_at e
  have SKa : ∀ i j, i ≤ j → j < a.size → Kr rk a i ≤ Kr rk a j := fun i j hij hj => by
    obtain ⟨p, ep, _⟩ := atA (show i < a.size by omega)
    obtain ⟨q, eq, _⟩ := atA hj
    rw [Kr_at ep, Kr_at eq]
    refine drop_le Sa ep ?_
    obtain ⟨hq, e⟩ := Array.getElem?_eq_some_iff.mp eq
    rw [← e]
    exact List.mem_iff_getElem.mpr ⟨j - i, by simp; omega, by simp [show i + (j - i) = j by omega]⟩
  have SKb : ∀ i j, i ≤ j → j < b.size → Kr rk b i ≤ Kr rk b j := fun i j hij hj => by
    obtain ⟨p, ep, _⟩ := atB (show i < b.size by omega)
    obtain ⟨q, eq, _⟩ := atB hj
    rw [Kr_at ep, Kr_at eq]
    refine drop_le Sb ep ?_
    obtain ⟨hq, e⟩ := Array.getElem?_eq_some_iff.mp eq
    rw [← e]
    exact List.mem_iff_getElem.mpr ⟨j - i, by simp; omega, by simp [show i + (j - i) = j by omega]⟩
  refine wpS_bind (wpS_lift (wpAny_rule ⟨rfl, ?_⟩))
  dsimp only
  obtain ⟨p0, e0, m0⟩ := atA (i := a.size - 1) (by omega)
  refine wpS_bind (wpS_elem (σ := Unit) e0 ?_)
  have I0 : MH rk a b #[p0] (a.size - 1) b.size := by
    have Z : MH rk a b #[] a.size b.size := ⟨Nat.le_refl _, Nat.le_refl _, List.Pairwise.nil, fun p _ q hq => by simp at hq, by
      rw [List.take_of_length_le (by simp), List.take_of_length_le (by simp)]; simp⟩
    exact Z.pushA Sa n1 e0 fun q hq => hl p0 e0 q (List.mem_of_mem_take hq)
  by_cases h1 : a.size - 1 = 0
  · rw [if_pos (by simpa using h1)]
    exact wpS_pure (h _ _ (Sm.refl _) (I0.doneA Sb h1))
  rw [if_neg (by simpa using h1)]
  by_cases h2 : b.size = 1
  · rw [if_pos (by simpa using h2)]
    exact wpS_pure (h _ _ (Sm.refl _) (I0.firstB Sa h2 hf))
  rw [if_neg (by simpa using h2)]
  refine wpS_bind (wpS_get ?_)
  refine wpS_bind (wpS_mono (wpS_forRange (I := fun x c st' => Sm st st' ∧ ∃ na nb out mg, c = (none, na, nb, out, mg) ∧ MH rk a b out na nb ∧ 1 ≤ na ∧ 2 ≤ nb ∧ x + 1 + na + nb ≤ a.size + b.size)
      (Q := fun c st' => Sm st st' ∧ ∃ r, c.1 = some r ∧ Res rk a b r) ?step ?fin ⟨Sm.refl _, _, _, _, _, rfl, I0, by omega, by omega, by omega⟩) ?post)
  case fin =>
    rintro c st' ⟨_, na, nb, out, mg, rfl, I, x1, x2, x3⟩
    exact absurd x3 (by omega)
  case post =>
    rintro ⟨r0, c⟩ st' ⟨S, r, rfl, hr⟩
    exact wpS_pure (h r st' S hr)
  case step =>
    rintro x c st1 _ hx ⟨S1, na, nb, out, mg, rfl, I, x1, x2, x3⟩
    dsimp only
    have kd1 : kindOf st1 = kd := S1.kind.trans kind
    refine wpS_bind (wpS_mono (wpS_forRange (I := fun y c st' => st' = st1 ∧ ∃ na' nb' out' ac bc, c = (none, na', nb', out', ac, bc) ∧ MH rk a b out' na' nb' ∧ 1 ≤ na' ∧ 2 ≤ nb' ∧ x + 1 + y + na' + nb' ≤ a.size + b.size)
      (Q := fun c st' => st' = st1 ∧ GoH rk a b (x + 2) c.1 c.2.1 c.2.2.1 c.2.2.2.1) ?istep ?ifin ⟨rfl, _, _, _, _, _, rfl, I, x1, x2, by omega⟩) ?ipost)
    case ifin =>
      rintro c st' ⟨rfl, na', nb', out', ac, bc, rfl, I', y1, y2, y3⟩
      exact ⟨rfl, .inr ⟨rfl, I', y1, y2, by dsimp only; omega⟩⟩
    case istep =>
      rintro y c st' _ hy ⟨rfl, na', nb', out', ac, bc, rfl, I', y1, y2, y3⟩
      dsimp only
      obtain ⟨pb, eb, mb⟩ := atB (i := nb' - 1) (by have := I'.hb; omega)
      obtain ⟨pa, ea, ma⟩ := atA (i := na' - 1) (by have := I'.ha; omega)
      refine wpS_bind (wpS_elem (σ := Unit) eb (wpS_bind (wpS_elem (σ := Unit) ea (wpS_bind (L _ _ _ _ mb ma kd1 ?_)))))
      dsimp only
      refine wpS_ite (fun hw => ?_) (fun hw => ?_)
      · have hw := of_decide_eq_true hw
        refine wpS_bind (wpS_elem (σ := Unit) ea ?_)
        have I2 := I'.pushA Sa y1 ea fun q hq => Int.le_trans (take_le Sb (by omega) eb hq) (by omega)
        refine wpS_ite (fun h3 => ?_) (fun h3 => ?_)
        · exact wpS_pure ⟨rfl, .inl ⟨_, rfl, I2.doneA Sb (by simpa using h3)⟩⟩
        have h3' : ¬ na' - 1 = 0 := by simpa using h3
        refine wpS_ite (fun _ => ?_) (fun _ => ?_)
        · exact wpS_pure ⟨rfl, .inr ⟨rfl, I2, by dsimp only; omega, by dsimp only; omega, by dsimp only; omega⟩⟩
        · exact wpS_pure ⟨rfl, _, _, _, _, _, rfl, I2, by omega, by omega, by omega⟩
      · have hw : ¬ rk pb < rk pa := fun z => hw (decide_eq_true z)
        refine wpS_bind (wpS_elem (σ := Unit) eb ?_)
        have I2 := I'.pushB Sb (by omega) eb fun q hq => Int.le_trans (take_le Sa y1 ea hq) (by omega)
        refine wpS_ite (fun h3 => ?_) (fun h3 => ?_)
        · exact wpS_pure ⟨rfl, .inl ⟨_, rfl, I2.firstB Sa (by simpa using h3) hf⟩⟩
        have h3' : ¬ nb' - 1 = 1 := by simpa using h3
        refine wpS_ite (fun _ => ?_) (fun _ => ?_)
        · exact wpS_pure ⟨rfl, .inr ⟨rfl, I2, by dsimp only; omega, by dsimp only; omega, by dsimp only; omega⟩⟩
        · exact wpS_pure ⟨rfl, _, _, _, _, _, rfl, I2, by omega, by omega, by omega⟩
    case ipost =>
      rintro ⟨r0, na1, nb1, out1, ac1, bc1⟩ st' ⟨rfl, G⟩
      dsimp only at G ⊢
      rcases G with ⟨r, rfl, hr⟩ | ⟨rfl, I1, y1, y2, y3⟩
      · exact wpS_pure ⟨S1, r, rfl, hr⟩
      dsimp only
      refine wpS_bind (wpS_lift (wpAny_rule ⟨rfl, ?_⟩))
      refine wpS_bind (wpS_mono (wpS_forRange (I := fun y c st' => Sm st st' ∧ ∃ na' nb' out' mg ac bc, c = (none, na', nb', out', mg, ac, bc) ∧ MH rk a b out' na' nb' ∧ 1 ≤ na' ∧ 2 ≤ nb' ∧ x + 2 + na' + nb' ≤ a.size + b.size)
        (Q := fun c st' => Sm st st' ∧ GoH rk a b (x + 2) c.1 c.2.1 c.2.2.1 c.2.2.2.1) ?gstep ?gfin ⟨S1, _, _, _, _, _, _, rfl, I1, y1, y2, y3⟩) ?gpost)
      case gfin =>
        rintro c st' ⟨S2, na', nb', out', mg', ac, bc, rfl, I', y1, y2, y3⟩
        exact ⟨S2, .inr ⟨rfl, I', y1, y2, y3⟩⟩
      case gpost =>
        rintro ⟨r0, na1, nb1, out1, mg1, ac1, bc1⟩ st' ⟨S2, G⟩
        dsimp only at G ⊢
        rcases G with ⟨r, rfl, hr⟩ | ⟨rfl, I1, y1, y2, y3⟩
        · exact wpS_pure ⟨S2, r, rfl, hr⟩
        dsimp only
        refine wpS_bind (wpS_setG S2 fun st2 S3 => ?_)
        exact wpS_pure ⟨S3, _, _, _, _, rfl, I1, y1, y2, by omega⟩
      case gstep =>
        rintro y c st' _ hy ⟨S2, na', nb', out', mg', ac, bc, rfl, I', y1, y2, y3⟩
        dsimp only
        obtain ⟨pb, eb, mb⟩ := atB (i := nb' - 1) (by have := I'.hb; omega)
        have hna := I'.ha
        have hnb := I'.hb
        refine wpS_ite (fun _ => ?_) (fun _ => ?_)
        all_goals
          refine wpS_bind (wpS_setG S2 fun st3 S3 => ?_)
          have kd3 : kindOf st3 = kd := S3.kind.trans kind
          refine wpS_bind (wpS_elem (σ := Unit) eb ?_)
          refine wpS_bind (wpS_gallop (fun i => decide (Kr rk a (0 + i) ≤ rk pb)) (by omega) (fun i R hi r => wpS_bey L mb ha (by omega) kd3 (by simpa using r)) (fun i j hij hj hq => decide_eq_true (Int.le_trans (SKa _ _ (by omega) (by omega)) (of_decide_eq_true hq))) fun k hk hk1 hk2 => ?_)
          dsimp only
          have I2 := I'.takeA Sa k (by omega) fun q hq p hp => by
            obtain ⟨j, h3, h4, e⟩ := mid_at hq
            have := of_decide_eq_false (hk2 j (by omega) (by omega))
            rw [Nat.zero_add, Kr_at e] at this
            exact Int.le_trans (take_le Sb (by omega) eb hp) (by omega)
          have hgt : ∀ q ∈ a.toList.take k, rk q ≤ rk pb := fun q hq => by
            obtain ⟨j, h3, e⟩ := pre_at hq
            have := of_decide_eq_true (hk1 j h3)
            rw [Nat.zero_add, Kr_at e] at this
            exact this
          refine wpS_ite (fun hk0 => ?_) (fun hk0 => ?_)
          · refine wpS_ite (fun h3 => ?_) (fun h3 => ?_)
            · exact wpS_pure ⟨S3, .inl ⟨_, rfl, I2.doneA Sb (by simpa using h3)⟩⟩
            have h3' : ¬ k = 0 := by simpa using h3
            have hi1 : 1 ≤ k := by omega
            have J := I2
            have hg2 := hgt
            refine wpS_bind (wpS_elem (σ := Unit) eb ?_)
            have J2 := J.pushB Sb (by omega) eb hg2
            refine wpS_ite (fun h5 => ?_) (fun h5 => ?_)
            · exact wpS_pure ⟨S3, .inl ⟨_, rfl, J2.firstB Sa (by simpa using h5) hf⟩⟩
            have h5' : ¬ nb' - 1 = 1 := by simpa using h5
            obtain ⟨pa, ea, ma⟩ := atA (i := k - 1) (by have := J.ha; omega)
            refine wpS_bind (wpS_elem (σ := Unit) ea ?_)
            refine wpS_bind (wpS_gallop (fun i => decide (Kr rk b (0 + i) < rk pa)) (by omega) (fun i R hi r => wpS_bey L ma hb (by omega) kd3 (by simpa using r)) (fun i j hij hj hq => decide_eq_true (Int.lt_of_le_of_lt (SKb _ _ (by omega) (by omega)) (of_decide_eq_true hq))) fun k1 hk1 hk11 hk12 => ?_)
            dsimp only
            have J3 := J2.takeB Sb k1 (by omega) fun q hq p hp => by
              obtain ⟨j, h3, h4, e⟩ := mid_at hq
              have := of_decide_eq_false (hk12 j (by omega) (by omega))
              rw [Nat.zero_add, Kr_at e] at this
              exact Int.le_trans (take_le Sa hi1 ea hp) (by omega)
            have hle : ∀ q ∈ b.toList.take k1, rk q ≤ rk pa := fun q hq => by
              obtain ⟨j, h3, e⟩ := pre_at hq
              have := of_decide_eq_true (hk11 j h3)
              rw [Nat.zero_add, Kr_at e] at this
              omega
            refine wpS_ite (fun hk10 => ?_) (fun hk10 => ?_)
            · refine wpS_ite (fun h6 => ?_) (fun h6 => wpS_ite (fun h8 => ?_) (fun h8 => ?_))
              · exact wpS_pure ⟨S3, .inl ⟨_, rfl, J3.firstB Sa (by simpa using h6) hf⟩⟩
              · exact wpS_pure ⟨S3, .inl ⟨_, rfl, J3.doneB Sa (by simpa using h8)⟩⟩
              have h6' : ¬ k1 = 1 := by simpa using h6
              have h8' : ¬ k1 = 0 := by simpa using h8
              refine wpS_bind (wpS_elem (σ := Unit) ea ?_)
              have J5 := J3.pushA Sa hi1 ea hle
              refine wpS_ite (fun h7 => ?_) (fun h7 => ?_)
              · exact wpS_pure ⟨S3, .inl ⟨_, rfl, J5.doneA Sb (by simpa using h7)⟩⟩
              have h7' : ¬ k - 1 = 0 := by simpa using h7
              refine wpS_ite (fun _ => ?_) (fun _ => ?_)
              · exact wpS_pure ⟨S3, .inr ⟨rfl, J5, by dsimp only; omega, by dsimp only; omega, by dsimp only; omega⟩⟩
              · exact wpS_pure ⟨S3, _, _, _, _, _, _, rfl, J5, by omega, by omega, by omega⟩
            · obtain rfl : k1 = nb' - 1 := by omega
              refine wpS_bind (wpS_elem (σ := Unit) ea ?_)
              have J5 := J2.pushA Sa hi1 ea hle
              refine wpS_ite (fun h7 => ?_) (fun h7 => ?_)
              · exact wpS_pure ⟨S3, .inl ⟨_, rfl, J5.doneA Sb (by simpa using h7)⟩⟩
              have h7' : ¬ k - 1 = 0 := by simpa using h7
              refine wpS_ite (fun _ => ?_) (fun _ => ?_)
              · exact wpS_pure ⟨S3, .inr ⟨rfl, J5, by dsimp only; omega, by dsimp only; omega, by dsimp only; omega⟩⟩
              · exact wpS_pure ⟨S3, _, _, _, _, _, _, rfl, J5, by omega, by omega, by omega⟩
          · obtain rfl : k = na' := by omega
            have hi1 : 1 ≤ k := y1
            have J := I'
            have hg2 := hgt
            refine wpS_bind (wpS_elem (σ := Unit) eb ?_)
            have J2 := J.pushB Sb (by omega) eb hg2
            refine wpS_ite (fun h5 => ?_) (fun h5 => ?_)
            · exact wpS_pure ⟨S3, .inl ⟨_, rfl, J2.firstB Sa (by simpa using h5) hf⟩⟩
            have h5' : ¬ nb' - 1 = 1 := by simpa using h5
            obtain ⟨pa, ea, ma⟩ := atA (i := k - 1) (by have := J.ha; omega)
            refine wpS_bind (wpS_elem (σ := Unit) ea ?_)
            refine wpS_bind (wpS_gallop (fun i => decide (Kr rk b (0 + i) < rk pa)) (by omega) (fun i R hi r => wpS_bey L ma hb (by omega) kd3 (by simpa using r)) (fun i j hij hj hq => decide_eq_true (Int.lt_of_le_of_lt (SKb _ _ (by omega) (by omega)) (of_decide_eq_true hq))) fun k1 hk1 hk11 hk12 => ?_)
            dsimp only
            have J3 := J2.takeB Sb k1 (by omega) fun q hq p hp => by
              obtain ⟨j, h3, h4, e⟩ := mid_at hq
              have := of_decide_eq_false (hk12 j (by omega) (by omega))
              rw [Nat.zero_add, Kr_at e] at this
              exact Int.le_trans (take_le Sa hi1 ea hp) (by omega)
            have hle : ∀ q ∈ b.toList.take k1, rk q ≤ rk pa := fun q hq => by
              obtain ⟨j, h3, e⟩ := pre_at hq
              have := of_decide_eq_true (hk11 j h3)
              rw [Nat.zero_add, Kr_at e] at this
              omega
            refine wpS_ite (fun hk10 => ?_) (fun hk10 => ?_)
            · refine wpS_ite (fun h6 => ?_) (fun h6 => wpS_ite (fun h8 => ?_) (fun h8 => ?_))
              · exact wpS_pure ⟨S3, .inl ⟨_, rfl, J3.firstB Sa (by simpa using h6) hf⟩⟩
              · exact wpS_pure ⟨S3, .inl ⟨_, rfl, J3.doneB Sa (by simpa using h8)⟩⟩
              have h6' : ¬ k1 = 1 := by simpa using h6
              have h8' : ¬ k1 = 0 := by simpa using h8
              refine wpS_bind (wpS_elem (σ := Unit) ea ?_)
              have J5 := J3.pushA Sa hi1 ea hle
              refine wpS_ite (fun h7 => ?_) (fun h7 => ?_)
              · exact wpS_pure ⟨S3, .inl ⟨_, rfl, J5.doneA Sb (by simpa using h7)⟩⟩
              have h7' : ¬ k - 1 = 0 := by simpa using h7
              refine wpS_ite (fun _ => ?_) (fun _ => ?_)
              · exact wpS_pure ⟨S3, .inr ⟨rfl, J5, by dsimp only; omega, by dsimp only; omega, by dsimp only; omega⟩⟩
              · exact wpS_pure ⟨S3, _, _, _, _, _, _, rfl, J5, by omega, by omega, by omega⟩
            · obtain rfl : k1 = nb' - 1 := by omega
              refine wpS_bind (wpS_elem (σ := Unit) ea ?_)
              have J5 := J2.pushA Sa hi1 ea hle
              refine wpS_ite (fun h7 => ?_) (fun h7 => ?_)
              · exact wpS_pure ⟨S3, .inl ⟨_, rfl, J5.doneA Sb (by simpa using h7)⟩⟩
              have h7' : ¬ k - 1 = 0 := by simpa using h7
              refine wpS_ite (fun _ => ?_) (fun _ => ?_)
              · exact wpS_pure ⟨S3, .inr ⟨rfl, J5, by dsimp only; omega, by dsimp only; omega, by dsimp only; omega⟩⟩
              · exact wpS_pure ⟨S3, _, _, _, _, _, _, rfl, J5, by omega, by omega, by omega⟩
end
end L2

namespace L2
open PySem PySem.Spec PyProof.Rows
section
variable {M : Model} {A : Around} {E : Value → Shared → Prop} {s : Shared} {kd : SortKind} {rk : Keyed → Int} {a₀ : Array Keyed}
theorem Kr_list (xs : Array Keyed) (i : Nat) : Kr rk xs i = match xs.toList[i]? with | some p => rk p | none => 0 := by
  unfold Kr
  rw [Array.getElem?_toList]
  all_goals (cases xs[i]? <;> rfl)
theorem seg_pw {xs : Array Keyed} {lo hi : Nat} (h : Seg rk xs lo hi) : PwL rk ((xs.toList.drop lo).take (hi - lo)) := by
  refine List.pairwise_iff_getElem.mpr fun i j hi' hj hij => ?_
  have hj2 : j < hi - lo ∧ lo + j < xs.size := by simp at hj; omega
  have := h (lo + i) (lo + j) (by omega) (by omega) (by omega)
  rw [Kr_at (getElem?_pos xs (lo + i) (by omega)), Kr_at (getElem?_pos xs (lo + j) hj2.2)] at this
  simpa using this
theorem pw_seg {xs : Array Keyed} {P S D : List Keyed} (e : xs.toList = P ++ S ++ D) (h : PwL rk S) : Seg rk xs P.length (P.length + S.length) := by
  intro i j h1 h2 h3
  have at_ : ∀ k, P.length ≤ k → k < P.length + S.length → xs.toList[k]? = S[k - P.length]? := fun k a b => by
    rw [e, List.append_assoc, List.getElem?_append_right a, List.getElem?_append_left (by omega)]
  have hi : i - P.length < S.length := by omega
  have hj : j - P.length < S.length := by omega
  rw [Kr_list, Kr_list, at_ i h1 (by omega), at_ j (by omega) h3, List.getElem?_eq_getElem hi, List.getElem?_eq_getElem hj]
  show rk _ ≤ rk _
  by_cases hij : i = j
  · subst hij; exact Int.le_refl _
  · exact List.pairwise_iff_getElem.mp h _ _ hi hj (by omega)
theorem put_at : ∀ (l : List Keyed) (off n : Nat) (xs : Array Keyed), off + n + l.length ≤ xs.size → ∀ k, ((l.zipIdx n).foldl (fun a (x : Keyed × Nat) => a.setIfInBounds (off + x.2) x.1) xs)[k]? = if off + n ≤ k ∧ k < off + n + l.length then l[k - (off + n)]? else xs[k]?
  | [], off, n, xs, h, k => by
    rw [if_neg (by rw [List.length_nil]; omega)]
    rfl
  | p :: l, off, n, xs, h, k => by
    have hl : (p :: l).length = l.length + 1 := rfl
    show ((l.zipIdx (n + 1)).foldl (fun a (x : Keyed × Nat) => a.setIfInBounds (off + x.2) x.1) (xs.setIfInBounds (off + n) p))[k]? = _
    rw [put_at l off (n + 1) (xs.setIfInBounds (off + n) p) (by rw [Array.size_setIfInBounds]; omega)]
    by_cases h1 : k = off + n
    · subst h1
      rw [if_neg (by omega), if_pos (by omega), Array.getElem?_setIfInBounds, if_pos rfl, if_pos (by omega), Nat.sub_self]; rfl
    · by_cases h2 : off + (n + 1) ≤ k ∧ k < off + (n + 1) + l.length
      · rw [if_pos h2, if_pos (by omega), show k - (off + n) = (k - (off + (n + 1))) + 1 by omega, List.getElem?_cons_succ]
      · rw [if_neg h2, if_neg (by omega), Array.getElem?_setIfInBounds, if_neg (by omega)]
theorem put_list (l : List Keyed) (off : Nat) (xs : Array Keyed) (h : off + l.length ≤ xs.size) : (l.zipIdx.foldl (fun a (x : Keyed × Nat) => a.setIfInBounds (off + x.2) x.1) xs).toList = xs.toList.take off ++ l ++ xs.toList.drop (off + l.length) := by
  refine List.ext_getElem? fun k => ?_
  rw [Array.getElem?_toList, put_at l off 0 xs (by omega) k]
  have t1 : (xs.toList.take off).length = off := by rw [List.length_take, Array.length_toList]; omega
  rw [List.append_assoc]
  by_cases h1 : k < off
  · rw [if_neg (by omega), List.getElem?_append_left (by omega), List.getElem?_take_of_lt h1, Array.getElem?_toList]
  · rw [List.getElem?_append_right (by omega), t1]
    by_cases h2 : k < off + l.length
    · rw [if_pos ⟨by omega, by omega⟩, List.getElem?_append_left (by omega), Nat.add_zero]
    · rw [if_neg (by omega), List.getElem?_append_right (by omega), List.getElem?_drop, show off + l.length + (k - off - l.length) = k by omega, Array.getElem?_toList]
theorem seg_two {xs : Array Keyed} {sa na nb : Nat} (g1 : Seg rk xs sa (sa + na)) (g2 : Seg rk xs (sa + na) (sa + na + nb)) (n2 : 1 ≤ nb) (h : ∀ i, sa ≤ i → i < sa + na → Kr rk xs i ≤ Kr rk xs (sa + na)) : Seg rk xs sa (sa + na + nb) := fun i j h1 h2 h3 => by
  by_cases a : j < sa + na
  · exact g1 i j h1 h2 a
  · by_cases b : i < sa + na
    · exact Int.le_trans (h i h1 b) (g2 _ _ (Nat.le_refl _) (by omega) h3)
    · exact g2 i j (by omega) h2 h3
theorem merged_ok {xs m : Array Keyed} {sa na nb k n' : Nat} (hsz : sa + na + nb ≤ xs.size) (g1 : Seg rk xs sa (sa + na)) (g2 : Seg rk xs (sa + na) (sa + na + nb)) (hk : k < na) (hn : n' ≤ nb) (n2 : 1 ≤ nb)
    (hA : ∀ i, i < k → Kr rk xs (sa + i) ≤ Kr rk xs (sa + na)) (hX : ∀ i, k ≤ i → i < na → Kr rk xs (sa + na) < Kr rk xs (sa + i)) (hB2 : ∀ i, n' ≤ i → i < nb → Kr rk xs (sa + na - 1) ≤ Kr rk xs (sa + na + i))
    (hm : Res rk (xs.extract (sa + k) (sa + na)) (xs.extract (sa + na) (sa + na + n')) m) :
    (m.toList.zipIdx.foldl (fun a (x : Keyed × Nat) => a.setIfInBounds (sa + k + x.2) x.1) xs).Perm xs ∧ Seg rk (m.toList.zipIdx.foldl (fun a (x : Keyed × Nat) => a.setIfInBounds (sa + k + x.2) x.1) xs) sa (sa + na + nb) ∧
    ∀ i, i < sa ∨ sa + na + nb ≤ i → Kr rk (m.toList.zipIdx.foldl (fun a (x : Keyed × Nat) => a.setIfInBounds (sa + k + x.2) x.1) xs) i = Kr rk xs i := by
  obtain ⟨hm1, hm2⟩ := hm
  rw [ext_mid xs (by omega), ext_mid xs (by omega), show sa + na - (sa + k) = na - k by omega, show sa + na + n' - (sa + na) = n' by omega] at hm2
  have lt : xs.toList.length = xs.size := by simp
  have lm : m.toList.length = na - k + n' := by
    rw [hm2.length_eq, List.length_append, List.length_take, List.length_take, List.length_drop, List.length_drop, lt]; omega
  have e := put_list m.toList (sa + k) xs (by omega)
  rw [lm, show sa + k + (na - k + n') = sa + na + n' by omega] at e
  generalize m.toList.zipIdx.foldl (fun a (x : Keyed × Nat) => a.setIfInBounds (sa + k + x.2) x.1) xs = W at e ⊢
  have t0 : xs.toList.take (sa + k) = xs.toList.take sa ++ (xs.toList.drop sa).take k := by
    have := take_split xs.toList (i := sa) (n := sa + k) (by omega)
    rwa [show sa + k - sa = k by omega] at this
  have t1 : xs.toList.take (sa + na) = xs.toList.take (sa + k) ++ (xs.toList.drop (sa + k)).take (na - k) := by
    have := take_split xs.toList (i := sa + k) (n := sa + na) (by omega)
    rwa [show sa + na - (sa + k) = na - k by omega] at this
  have t2 : xs.toList.drop (sa + na) = (xs.toList.drop (sa + na)).take n' ++ xs.toList.drop (sa + na + n') := drop_split _ _ _
  have t3 : xs.toList.drop (sa + na + n') = (xs.toList.drop (sa + na + n')).take (nb - n') ++ xs.toList.drop (sa + na + nb) := by
    have := drop_split xs.toList (sa + na + n') (nb - n')
    rwa [show sa + na + n' + (nb - n') = sa + na + nb by omega] at this
  have eW : W.toList = xs.toList.take sa ++ ((xs.toList.drop sa).take k ++ m.toList ++ (xs.toList.drop (sa + na + n')).take (nb - n')) ++ xs.toList.drop (sa + na + nb) := by
    rw [e, t0]
    conv => lhs; rw [t3]
    simp only [List.append_assoc]
  have lP : (xs.toList.take sa).length = sa := by rw [List.length_take, lt]; omega
  have lS : ((xs.toList.drop sa).take k ++ m.toList ++ (xs.toList.drop (sa + na + n')).take (nb - n')).length = na + nb := by
    rw [List.length_append, List.length_append, lm, List.length_take, List.length_take, List.length_drop, List.length_drop, lt]; omega
  have kr : ∀ {i : Nat} {p : Keyed}, xs[i]? = some p → Kr rk xs i = rk p := fun e => Kr_at e
  have memM : ∀ {q : Keyed}, q ∈ m.toList → (∃ i, k ≤ i ∧ i < na ∧ xs[sa + i]? = some q) ∨ ∃ i, i < n' ∧ xs[sa + na + i]? = some q := fun {q} hq => by
    rcases List.mem_append.mp (hm2.mem_iff.mp hq) with hq | hq
    · obtain ⟨j, h1, h2, e⟩ := mid_at hq
      exact .inl ⟨j - sa, by omega, by omega, by rw [show sa + (j - sa) = j by omega]; exact e⟩
    · obtain ⟨j, h1, h2, e⟩ := mid_at hq
      exact .inr ⟨j - (sa + na), by omega, by rw [show sa + na + (j - (sa + na)) = j by omega]; exact e⟩
  refine ⟨?_, ?_, ?_⟩
  · rw [Array.perm_iff_toList_perm, e]
    have ex : xs.toList = xs.toList.take (sa + k) ++ ((xs.toList.drop (sa + k)).take (na - k) ++ (xs.toList.drop (sa + na)).take n') ++ xs.toList.drop (sa + na + n') := by
      conv => lhs; rw [← List.take_append_drop (sa + na) xs.toList, t1, t2]
      simp only [List.append_assoc]
    conv => rhs; rw [ex]
    exact List.Perm.append_right _ (List.Perm.append_left _ hm2)
  · have := pw_seg (rk := rk) eW ?_
    · rw [lP, lS, ← Nat.add_assoc] at this; exact this
    have s1 : PwL rk ((xs.toList.drop sa).take k) := by
      have := seg_pw (rk := rk) (xs := xs) (lo := sa) (hi := sa + k) fun i j a b c => g1 i j a b (by omega)
      rwa [show sa + k - sa = k by omega] at this
    have s2 : PwL rk ((xs.toList.drop (sa + na + n')).take (nb - n')) := by
      have := seg_pw (rk := rk) (xs := xs) (lo := sa + na + n') (hi := sa + na + nb) fun i j a b c => g2 i j (by omega) b c
      rwa [show sa + na + nb - (sa + na + n') = nb - n' by omega] at this
    refine List.pairwise_append.mpr ⟨List.pairwise_append.mpr ⟨s1, hm1, fun p hp q hq => ?_⟩, s2, fun p hp q hq => ?_⟩
    · obtain ⟨j, h1, h2, ep⟩ := mid_at hp
      have a1 := hA (j - sa) (by omega)
      rw [show sa + (j - sa) = j by omega, kr ep] at a1
      rcases memM hq with ⟨i, h3, h4, eq⟩ | ⟨i, h3, eq⟩
      · have := hX i h3 h4
        rw [kr eq] at this; omega
      · have := g2 (sa + na) (sa + na + i) (by omega) (by omega) (by omega)
        rw [kr eq] at this; omega
    · obtain ⟨j, h1, h2, eq⟩ := mid_at hq
      rcases List.mem_append.mp hp with hp | hp
      · obtain ⟨i, h3, h4, ep⟩ := mid_at hp
        have a1 := hA (i - sa) (by omega)
        rw [show sa + (i - sa) = i by omega, kr ep] at a1
        have := g2 (sa + na) j (by omega) (by omega) (by omega)
        rw [kr eq] at this; omega
      · rcases memM hp with ⟨i, h3, h4, ep⟩ | ⟨i, h3, ep⟩
        · have a1 := g1 (sa + i) (sa + na - 1) (by omega) (by omega) (by omega)
          have a2 := hB2 (j - (sa + na)) (by omega) (by omega)
          rw [show sa + na + (j - (sa + na)) = j by omega, kr eq] at a2
          rw [kr ep] at a1; omega
        · have := g2 (sa + na + i) j (by omega) (by omega) (by omega)
          rw [kr ep, kr eq] at this; exact this
  · intro i hi
    rw [Kr_list, Kr_list, eW]
    rcases hi with hi | hi
    · rw [List.append_assoc, List.getElem?_append_left (by omega), List.getElem?_take_of_lt hi]
    · rw [List.getElem?_append_right (by rw [List.length_append, lP, lS]; omega), List.length_append, lP, lS, List.getElem?_drop, show sa + na + nb + (i - (sa + (na + nb))) = i by omega]
theorem wpS_mergeAt {st : SortSt} {i sa na nb pw pw2 : Nat} {Q : Bool → SortSt → Prop} (L : LtOk M A E s kd rk a₀) (hB : SB a₀ kd st) (e1 : (pendingOf st)[i]? = some (sa, na, pw)) (e2 : (pendingOf st)[i + 1]? = some (sa + na, nb, pw2)) (n1 : 1 ≤ na) (n2 : 1 ≤ nb)
    (hsz : sa + na + nb ≤ a₀.size) (g1 : Seg rk (arrOf st) sa (sa + na)) (g2 : Seg rk (arrOf st) (sa + na) (sa + na + nb))
    (h : ∀ st', SB a₀ kd st' → pendingOf st' = ((pendingOf st).setIfInBounds i (sa, na + nb, pw)).eraseIdxIfInBounds (i + 1) → Seg rk (arrOf st') sa (sa + na + nb) → (∀ k, k < sa ∨ sa + na + nb ≤ k → Kr rk (arrOf st') k = Kr rk (arrOf st) k) → Q true st') :
    wpS M A E s (mergeAt' i) Q st := by
  refine wpS_bind (wpS_get ?_)
  dsimp only
  rw [e1, e2]
  dsimp only
  have hsz' : sa + na + nb ≤ (arrOf st).size := by rw [hB.size]; exact hsz
  refine wpS_bind (m := set _) ?_
  show wpS M A E s (modify fun _ => setPending st (((pendingOf st).setIfInBounds i (sa, na + nb, pw)).eraseIdxIfInBounds (i + 1))) _ st
  refine wpS_modify ?_
  obtain ⟨p0, ep0, m0⟩ := hB.at (i := sa + na) (by omega)
  refine wpS_bind (wpS_elem (σ := Unit) ep0 ?_)
  have hmem : ∀ p ∈ (arrOf st).toList, p ∈ a₀.toList := fun p hp => hB.mem hp
  have hK0 : Kr rk (arrOf st) (sa + na) = rk p0 := Kr_at ep0
  have hB1 : SB a₀ kd (setPending st (((pendingOf st).setIfInBounds i (sa, na + nb, pw)).eraseIdxIfInBounds (i + 1))) := ⟨hB.perm, hB.kind, hB.failed⟩
  refine wpS_bind (wpS_gallop (arr := arrOf st) (fun i => decide (Kr rk (arrOf st) (sa + i) ≤ rk p0)) (by omega) (fun i R hi r => wpS_bey L m0 hmem (by omega) hB1.kind (by simpa using r)) (fun i j hij hj hq => decide_eq_true (Int.le_trans (g1 _ _ (by omega) (by omega) (by omega)) (of_decide_eq_true hq))) fun k hk hk1 hk2 => ?_)
  dsimp only
  refine wpS_ite (fun h3 => ?_) (fun h3 => ?_)
  · have h3' : na - k = 0 := by simpa using h3
    refine wpS_pure (h _ hB1 rfl (seg_two g1 g2 n2 fun i a b => ?_) fun _ _ => rfl)
    have := of_decide_eq_true (hk1 (i - sa) (by omega))
    rw [show sa + (i - sa) = i by omega] at this
    rw [hK0]; exact this
  have h3' : ¬ na - k = 0 := by simpa using h3
  obtain ⟨p1, ep1, m1⟩ := hB.at (i := sa + k + (na - k) - 1) (by omega)
  refine wpS_bind (wpS_elem (σ := Unit) ep1 ?_)
  have hK1 : Kr rk (arrOf st) (sa + na - 1) = rk p1 := by rw [show sa + na - 1 = sa + k + (na - k) - 1 by omega]; exact Kr_at ep1
  refine wpS_bind (wpS_gallop (arr := arrOf st) (fun i => decide (Kr rk (arrOf st) (sa + na + i) < rk p1)) (by omega) (fun i R hi r => wpS_bey L m1 hmem (by omega) hB1.kind (by simpa using r)) (fun i j hij hj hq => decide_eq_true (Int.lt_of_le_of_lt (g2 _ _ (by omega) (by omega) (by omega)) (of_decide_eq_true hq))) fun n' hn' hn1 hn2 => ?_)
  dsimp only
  have hB2 : ∀ i, n' ≤ i → i < nb → Kr rk (arrOf st) (sa + na - 1) ≤ Kr rk (arrOf st) (sa + na + i) := fun i a b => by
    have := of_decide_eq_false (hn2 i a b)
    rw [hK1]; omega
  refine wpS_ite (fun h4 => ?_) (fun h4 => ?_)
  · have h4' : n' = 0 := by simpa using h4
    refine wpS_pure (h _ hB1 rfl (seg_two g1 g2 n2 fun i a b => ?_) fun _ _ => rfl)
    have a1 := g1 i (sa + na - 1) a (by omega) (by omega)
    have a2 := hB2 0 (by omega) (by omega)
    exact Int.le_trans a1 a2
  have h4' : ¬ n' = 0 := by simpa using h4
  have hA : ∀ i, i < k → Kr rk (arrOf st) (sa + i) ≤ Kr rk (arrOf st) (sa + na) := fun i hi => by rw [hK0]; exact of_decide_eq_true (hk1 i hi)
  have hX : ∀ i, k ≤ i → i < na → Kr rk (arrOf st) (sa + na) < Kr rk (arrOf st) (sa + i) := fun i a b => by
    have := of_decide_eq_false (hk2 i a b)
    rw [hK0]; omega
  have memX : ∀ p ∈ ((arrOf st).extract (sa + k) (sa + na)).toList, ∃ j, sa + k ≤ j ∧ j < sa + na ∧ (arrOf st)[j]? = some p := fun p hp => by
    rw [ext_mid _ (by omega)] at hp
    obtain ⟨j, a, b, c⟩ := mid_at hp
    exact ⟨j, a, by omega, c⟩
  have memY : ∀ p ∈ ((arrOf st).extract (sa + na) (sa + na + n')).toList, ∃ j, sa + na ≤ j ∧ j < sa + na + n' ∧ (arrOf st)[j]? = some p := fun p hp => by
    rw [ext_mid _ (by omega)] at hp
    obtain ⟨j, a, b, c⟩ := mid_at hp
    exact ⟨j, a, by omega, c⟩
  have fin : ∀ (m : Array Keyed) (st2 : SortSt), Sm (setPending st (((pendingOf st).setIfInBounds i (sa, na + nb, pw)).eraseIdxIfInBounds (i + 1))) st2 → Res rk ((arrOf st).extract (sa + k) (sa + na)) ((arrOf st).extract (sa + na) (sa + na + n')) m →
      wpS M A E s (do
        modify fun s => setArr s (List.foldl (fun a (x : Keyed × Nat) => a.setIfInBounds (sa + k + x.snd) x.fst) (arrOf s) m.toList.zipIdx)
        let __do_lift ← get
        pure (failedOf __do_lift).isNone) Q st2 := fun m st2 S R => by
    obtain ⟨q1, q2, q3⟩ := merged_ok hsz' g1 g2 (by omega) hn' n2 hA hX hB2 R
    refine wpS_bind (wpS_modify (wpS_bind (wpS_get (wpS_pure ?_))))
    have ea : arrOf st2 = arrOf st := S.arr
    have ef : failedOf st2 = none := S.failed.trans hB.failed
    show Q (failedOf st2).isNone _
    rw [ef]
    refine h _ ⟨?_, S.kind.trans hB.kind, ef⟩ S.pend ?_ ?_
    · show (List.foldl _ (arrOf st2) _).Perm a₀
      rw [ea]; exact q1.trans hB.perm
    · show Seg rk (List.foldl _ (arrOf st2) _) _ _
      rw [ea]; exact q2
    · intro k' hk'
      show Kr rk (List.foldl _ (arrOf st2) _) _ = _
      rw [ea]; exact q3 k' hk'
  have szX : ((arrOf st).extract (sa + k) (sa + na)).size = na - k := by rw [Array.size_extract]; omega
  have szY : ((arrOf st).extract (sa + na) (sa + na + n')).size = n' := by rw [Array.size_extract]; omega
  have haX : ∀ p ∈ ((arrOf st).extract (sa + k) (sa + na)).toList, p ∈ a₀.toList := fun p hp => by
    obtain ⟨j, _, _, e⟩ := memX p hp
    exact hmem p (by rw [← (Array.getElem?_eq_some_iff.mp e).2]; simp)
  have haY : ∀ p ∈ ((arrOf st).extract (sa + na) (sa + na + n')).toList, p ∈ a₀.toList := fun p hp => by
    obtain ⟨j, _, _, e⟩ := memY p hp
    exact hmem p (by rw [← (Array.getElem?_eq_some_iff.mp e).2]; simp)
  have SX : PwL rk ((arrOf st).extract (sa + k) (sa + na)).toList := by
    rw [ext_mid _ (by omega)]
    exact seg_pw fun i j a b c => g1 i j (by omega) b c
  have SY : PwL rk ((arrOf st).extract (sa + na) (sa + na + n')).toList := by
    rw [ext_mid _ (by omega)]
    exact seg_pw fun i j a b c => g2 i j (by omega) b (by omega)
  have hf : ∀ p, ((arrOf st).extract (sa + na) (sa + na + n'))[0]? = some p → ∀ q ∈ ((arrOf st).extract (sa + k) (sa + na)).toList, rk p ≤ rk q := fun p ep q hq => by
    rw [Array.getElem?_extract, if_pos (by omega), Nat.add_zero] at ep
    obtain ⟨j, a, b, c⟩ := memX q hq
    have := hX (j - sa) (by omega) (by omega)
    rw [show sa + (j - sa) = j by omega, Kr_at c, Kr_at ep] at this
    omega
  have hl : ∀ p, ((arrOf st).extract (sa + k) (sa + na))[((arrOf st).extract (sa + k) (sa + na)).size - 1]? = some p → ∀ q ∈ ((arrOf st).extract (sa + na) (sa + na + n')).toList, rk q ≤ rk p := fun p ep q hq => by
    rw [szX, Array.getElem?_extract, if_pos (by omega), show sa + k + (na - k - 1) = sa + k + (na - k) - 1 by omega, ep1] at ep
    have ep : p1 = p := Option.some.inj ep
    obtain ⟨j, a, b, c⟩ := memY q hq
    have := of_decide_eq_true (hn1 (j - (sa + na)) (by omega))
    rw [show sa + na + (j - (sa + na)) = j by omega, Kr_at c] at this
    rw [← ep]; omega
  refine wpS_ite (fun _ => ?_) (fun _ => ?_)
  · exact wpS_bind (wpS_mergeLo (a := (arrOf st).extract (sa + k) (sa + na)) (b := (arrOf st).extract (sa + na) (sa + na + n')) L haX haY SX SY (by omega) (by omega) hf hl hB1.kind fun r st2 S R => fin r st2 S R)
  · exact wpS_bind (wpS_mergeHi (a := (arrOf st).extract (sa + k) (sa + na)) (b := (arrOf st).extract (sa + na) (sa + na + n')) L haX haY SX SY (by omega) (by omega) hf hl hB1.kind fun r st2 S R => fin r st2 S R)
end
end L2

namespace L2
open PySem PySem.Spec PyProof.Rows
section
variable {M : Model} {A : Around} {E : Value → Shared → Prop} {s : Shared} {kd : SortKind} {rk : Keyed → Int} {a₀ : Array Keyed}
noncomputable def Runs (rk : Keyed → Int) (xs : Array Keyed) : List (Nat × Nat × Nat) → Nat → Nat → Prop
  | [], s, e => s = e
  | (st, n, _) :: l, s, e => st = s ∧ 1 ≤ n ∧ Seg rk xs s (s + n) ∧ Runs rk xs l (s + n) e
theorem Runs.le {xs : Array Keyed} : ∀ {l : List (Nat × Nat × Nat)} {s e : Nat}, Runs rk xs l s e → s + l.length ≤ e
  | [], s, e, h => Nat.le_of_eq h
  | (st, n, p) :: l, s, e, ⟨_, h1, _, h2⟩ => by
    have := Runs.le h2
    show s + (l.length + 1) ≤ e
    omega
theorem Runs.app {xs : Array Keyed} : ∀ {l : List (Nat × Nat × Nat)} {m : List (Nat × Nat × Nat)} {s e : Nat}, Runs rk xs (l ++ m) s e ↔ ∃ k, Runs rk xs l s k ∧ Runs rk xs m k e
  | [], m, s, e => ⟨fun h => ⟨s, rfl, h⟩, fun ⟨k, h1, h2⟩ => by
      have h1 : s = k := h1
      subst h1; exact h2⟩
  | (st, n, p) :: l, m, s, e => ⟨fun ⟨h1, h2, h3, h4⟩ => by
      obtain ⟨k, h5, h6⟩ := Runs.app.mp h4
      exact ⟨k, ⟨h1, h2, h3, h5⟩, h6⟩, fun ⟨k, ⟨h1, h2, h3, h4⟩, h5⟩ => ⟨h1, h2, h3, Runs.app.mpr ⟨k, h4, h5⟩⟩⟩
theorem Runs.congr {xs ys : Array Keyed} : ∀ {l : List (Nat × Nat × Nat)} {s e : Nat}, (∀ k, s ≤ k → k < e → Kr rk ys k = Kr rk xs k) → Runs rk xs l s e → Runs rk ys l s e
  | [], s, e, _, h => h
  | (st, n, p) :: l, s, e, hk, ⟨h1, h2, h3, h4⟩ => by
    have hle := Runs.le h4
    refine ⟨h1, h2, fun i j a b c => ?_, Runs.congr (fun k a b => hk k (by omega) b) h4⟩
    rw [hk i (by omega) (by omega), hk j (by omega) (by omega)]
    exact h3 i j a b c
theorem two_at {α : Type} {l : List α} {i : Nat} (h : i + 1 < l.length) : ∃ P a b D, l = P ++ a :: b :: D ∧ P.length = i := by
  refine ⟨l.take i, l[i], l[i + 1], l.drop (i + 2), ?_, by rw [List.length_take]; omega⟩
  conv => lhs; rw [← List.take_append_drop i l]
  rw [List.drop_eq_getElem_cons (by omega), List.drop_eq_getElem_cons h]
theorem wpS_mergeR {st : SortSt} {i lo : Nat} {Q : Bool → SortSt → Prop} (L : LtOk M A E s kd rk a₀) (hB : SB a₀ kd st) (hR : Runs rk (arrOf st) (pendingOf st).toList 0 lo) (hi : i + 1 < (pendingOf st).size) (hlo : lo ≤ a₀.size)
    (h : ∀ st', SB a₀ kd st' → Runs rk (arrOf st') (pendingOf st').toList 0 lo → (pendingOf st').size + 1 = (pendingOf st).size → (∀ k, lo ≤ k → Kr rk (arrOf st') k = Kr rk (arrOf st) k) → Q true st') : wpS M A E s (mergeAt' i) Q st := by
  obtain ⟨P, ⟨sa, na, pw⟩, ⟨sb, nb, pw2⟩, D, e, hP⟩ := two_at (l := (pendingOf st).toList) (i := i) (by simpa using hi)
  have hR0 := hR
  rw [e] at hR
  obtain ⟨k, r1, h1, n1, g1, h2, n2, g2, r2⟩ := Runs.app.mp hR
  subst h1 h2
  have le1 := r1.le
  have le2 := r2.le
  have e1 : (pendingOf st)[i]? = some (sa, na, pw) := by rw [← Array.getElem?_toList, e, List.getElem?_append_right (by omega), hP, Nat.sub_self]; rfl
  have e2 : (pendingOf st)[i + 1]? = some (sa + na, nb, pw2) := by rw [← Array.getElem?_toList, e, List.getElem?_append_right (by omega), hP, show i + 1 - i = 1 by omega]; rfl
  refine wpS_mergeAt L hB e1 e2 n1 n2 (by omega) g1 g2 fun st' hB' hp hS hF => ?_
  have tl : (pendingOf st').toList = P ++ (sa, na + nb, pw) :: D := by
    rw [hp, Array.toList_eraseIdxIfInBounds, Array.toList_setIfInBounds, e, List.set_append_right _ _ (by omega), hP, Nat.sub_self, List.set_cons_zero, List.eraseIdx_append_of_length_le (by omega), hP, show i + 1 - i = 1 by omega]
    rfl
  refine h st' hB' ?_ ?_ fun k hk => hF k (.inr (by omega))
  · rw [tl]
    refine Runs.app.mpr ⟨sa, Runs.congr (fun k a b => hF k (.inl b)) r1, rfl, by omega, by rw [← Nat.add_assoc]; exact hS, ?_⟩
    rw [← Nat.add_assoc]
    exact Runs.congr (fun k a b => hF k (.inr a)) r2
  · have l1 := congrArg List.length tl
    have l2 := congrArg List.length e
    simp at l1 l2
    omega
theorem Runs.mod {xs : Array Keyed} {f : Nat × Nat × Nat → Nat × Nat × Nat} (hf : ∀ q, (f q).1 = q.1 ∧ (f q).2.1 = q.2.1) : ∀ {l : List (Nat × Nat × Nat)} {i s e : Nat}, Runs rk xs l s e → Runs rk xs (l.modify i f) s e
  | [], i, s, e, h => by rw [List.modify_nil]; exact h
  | (st, n, p) :: l, 0, s, e, ⟨h1, h2, h3, h4⟩ => by
    rw [List.modify_zero_cons]
    obtain ⟨a, b⟩ := hf (st, n, p)
    generalize f (st, n, p) = q at a b
    obtain ⟨x, y, z⟩ := q
    dsimp only at a b
    subst a b
    exact ⟨h1, h2, h3, h4⟩
  | (st, n, p) :: l, i + 1, s, e, ⟨h1, h2, h3, h4⟩ => by
    rw [List.modify_succ_cons]
    exact ⟨h1, h2, h3, Runs.mod hf h4⟩
theorem wpS_sortR {st : SortSt} {Q : Unit → SortSt → Prop} (L : LtOk M A E s kd rk a₀) (hB : SB a₀ kd st) (hp : pendingOf st = #[]) (h2 : 2 ≤ a₀.size)
    (h : ∀ st', SB a₀ kd st' → Seg rk (arrOf st') 0 a₀.size → Q () st') : wpS M A E s sortRuns' Q st := by
  rw [sortRuns'_eq]
  refine wpS_bind (wpS_get ?_)
  dsimp only
  generalize minRun' (arrOf st).size (arrOf st).size 0 = mr
  rw [hB.size]
  refine wpS_bind (wpS_mono (wpS_forRange
    (I := fun x c st' => ∃ lo, c = (none, lo) ∧ SB a₀ kd st' ∧ Runs rk (arrOf st') (pendingOf st').toList 0 lo ∧ lo ≤ a₀.size ∧ x ≤ lo)
    (Q := fun c st' => c = (none, a₀.size) ∧ SB a₀ kd st' ∧ Runs rk (arrOf st') (pendingOf st').toList 0 a₀.size) ?step ?fin ⟨0, rfl, hB, by rw [hp]; rfl, by omega, by omega⟩) ?post)
  case fin =>
    rintro c st' ⟨lo, rfl, hB', hR, a, b⟩
    obtain rfl : lo = a₀.size := by omega
    exact ⟨rfl, hB', hR⟩
  case step =>
    rintro x c st' _ hx ⟨lo, rfl, hB', hR, a, b⟩
    dsimp only
    by_cases hge : lo ≥ a₀.size
    · rw [if_pos hge]
      obtain rfl : lo = a₀.size := by omega
      exact wpS_pure ⟨rfl, hB', hR⟩
    rw [if_neg hge]
    refine wpS_bind (wpS_countL (rk := rk) L (by omega) (by omega) hB' fun m st1 N1 m1 m2 S1 => ?_)
    dsimp only
    have R1 : Runs rk (arrOf st1) (pendingOf st1).toList 0 lo := by
      rw [N1.pe]
      exact Runs.congr (fun k _ hk => N1.fr k hk) hR
    by_cases hmr : m < mr
    · rw [if_pos hmr]
      refine wpS_bind (wpS_lift (wpAny_rule ⟨rfl, ?_⟩))
      refine wpS_bind (wpS_binL L (by omega) (by omega) N1.sb S1 fun st2 N2 S2 => ?_)
      rw [if_neg (by decide)]
      have R2 : Runs rk (arrOf st2) (pendingOf st2).toList 0 lo := by
        rw [N2.pe]
        exact Runs.congr (fun k _ hk => N2.fr k hk) R1
      have B2 := N2.sb
      have N1 : 1 ≤ min (a₀.size - lo) mr := by omega
      have LE : lo + min (a₀.size - lo) mr ≤ a₀.size := by omega
      refine wpS_bind (wpS_get ?_)
      rcases hbk : (pendingOf st2).back? with _ | ⟨s1, n1, p1⟩
      · dsimp only
        refine wpS_bind (wpS_modify (wpS_pure ⟨_, rfl, ⟨B2.perm, B2.kind, B2.failed⟩, ?_, LE, by omega⟩))
        show Runs rk (arrOf st2) ((pendingOf st2).push _).toList 0 _
        rw [Array.toList_push]
        exact Runs.app.mpr ⟨lo, R2, rfl, N1, S2, rfl⟩
      · dsimp only
        refine wpS_bind (wpS_mono (wpS_forRange (I := fun _ c st3 => c = (none, ()) ∧ SB a₀ kd st3 ∧ Runs rk (arrOf st3) (pendingOf st3).toList 0 lo ∧ Seg rk (arrOf st3) lo (lo + min (a₀.size - lo) mr))
          (Q := fun c st3 => c = (none, ()) ∧ SB a₀ kd st3 ∧ Runs rk (arrOf st3) (pendingOf st3).toList 0 lo ∧ Seg rk (arrOf st3) lo (lo + min (a₀.size - lo) mr)) ?_ (fun _ _ hh => hh) ⟨rfl, B2, R2, S2⟩) ?_)
        · rintro y c st3 _ _ ⟨rfl, B3, R3, S3⟩
          refine wpS_bind (wpS_get ?_)
          by_cases hs1 : (pendingOf st3).size > 1
          · rw [if_pos hs1, getElem?_pos (pendingOf st3) ((pendingOf st3).size - 2) (by omega)]
            generalize (pendingOf st3)[(pendingOf st3).size - 2] = pq
            obtain ⟨q1, q2, q3⟩ := pq
            dsimp only
            refine wpS_ite (fun _ => wpS_pure ⟨rfl, B3, R3, S3⟩) (fun _ => ?_)
            refine wpS_bind (wpS_mergeR L B3 R3 (by omega) a fun st4 B4 R4 _ F4 => ?_)
            rw [if_neg (by decide)]
            refine wpS_pure ⟨rfl, B4, R4, fun i j h5 h6 h7 => ?_⟩
            rw [F4 i h5, F4 j (by omega)]
            exact S3 i j h5 h6 h7
          · rw [if_neg hs1]
            exact wpS_pure ⟨rfl, B3, R3, S3⟩
        · rintro c st3 ⟨rfl, B3, R3, S3⟩
          dsimp only
          refine wpS_bind (wpS_modify (wpS_bind (wpS_modify (wpS_pure ⟨_, rfl, ⟨B3.perm, B3.kind, B3.failed⟩, ?_, LE, by omega⟩))))
          show Runs rk (arrOf st3) (((pendingOf st3).modify _ _).push _).toList 0 _
          rw [Array.toList_push, Array.toList_modify]
          refine Runs.app.mpr ⟨lo, ?_, rfl, N1, S3, rfl⟩
          refine Runs.mod ?_ R3; exact fun q => ⟨rfl, rfl⟩
    · rw [if_neg hmr]
      obtain ⟨st2, rfl⟩ : ∃ st2, st1 = st2 := ⟨_, rfl⟩
      have R2 := R1
      have S2 := S1
      have B2 := N1.sb
      have N1 := m1
      have LE : lo + m ≤ a₀.size := by omega
      refine wpS_bind (wpS_get ?_)
      rcases hbk : (pendingOf st1).back? with _ | ⟨s1, n1, p1⟩
      · dsimp only
        refine wpS_bind (wpS_modify (wpS_pure ⟨_, rfl, ⟨B2.perm, B2.kind, B2.failed⟩, ?_, LE, by omega⟩))
        show Runs rk (arrOf st1) ((pendingOf st1).push _).toList 0 _
        rw [Array.toList_push]
        exact Runs.app.mpr ⟨lo, R2, rfl, N1, S2, rfl⟩
      · dsimp only
        refine wpS_bind (wpS_mono (wpS_forRange (I := fun _ c st3 => c = (none, ()) ∧ SB a₀ kd st3 ∧ Runs rk (arrOf st3) (pendingOf st3).toList 0 lo ∧ Seg rk (arrOf st3) lo (lo + m))
          (Q := fun c st3 => c = (none, ()) ∧ SB a₀ kd st3 ∧ Runs rk (arrOf st3) (pendingOf st3).toList 0 lo ∧ Seg rk (arrOf st3) lo (lo + m)) ?_ (fun _ _ hh => hh) ⟨rfl, B2, R2, S2⟩) ?_)
        · rintro y c st3 _ _ ⟨rfl, B3, R3, S3⟩
          refine wpS_bind (wpS_get ?_)
          by_cases hs1 : (pendingOf st3).size > 1
          · rw [if_pos hs1, getElem?_pos (pendingOf st3) ((pendingOf st3).size - 2) (by omega)]
            generalize (pendingOf st3)[(pendingOf st3).size - 2] = pq
            obtain ⟨q1, q2, q3⟩ := pq
            dsimp only
            refine wpS_ite (fun _ => wpS_pure ⟨rfl, B3, R3, S3⟩) (fun _ => ?_)
            refine wpS_bind (wpS_mergeR L B3 R3 (by omega) a fun st4 B4 R4 _ F4 => ?_)
            rw [if_neg (by decide)]
            refine wpS_pure ⟨rfl, B4, R4, fun i j h5 h6 h7 => ?_⟩
            rw [F4 i h5, F4 j (by omega)]
            exact S3 i j h5 h6 h7
          · rw [if_neg hs1]
            exact wpS_pure ⟨rfl, B3, R3, S3⟩
        · rintro c st3 ⟨rfl, B3, R3, S3⟩
          dsimp only
          refine wpS_bind (wpS_modify (wpS_bind (wpS_modify (wpS_pure ⟨_, rfl, ⟨B3.perm, B3.kind, B3.failed⟩, ?_, LE, by omega⟩))))
          show Runs rk (arrOf st3) (((pendingOf st3).modify _ _).push _).toList 0 _
          rw [Array.toList_push, Array.toList_modify]
          refine Runs.app.mpr ⟨lo, ?_, rfl, N1, S3, rfl⟩
          refine Runs.mod ?_ R3; exact fun q => ⟨rfl, rfl⟩
  case post =>
    rintro c st' ⟨rfl, hB', hR⟩
    dsimp only
    have hle := hR.le
    refine wpS_bind (wpS_mono (wpS_forRange (I := fun x c st3 => c = (none, ()) ∧ SB a₀ kd st3 ∧ Runs rk (arrOf st3) (pendingOf st3).toList 0 a₀.size ∧ (pendingOf st3).size + x ≤ a₀.size)
      (Q := fun c st3 => c = (none, ()) ∧ SB a₀ kd st3 ∧ Runs rk (arrOf st3) (pendingOf st3).toList 0 a₀.size ∧ (pendingOf st3).size ≤ 1) ?_ ?_ ⟨rfl, hB', hR, by simp at hle; omega⟩) ?_)
    · rintro y c st3 _ hy ⟨rfl, B3, R3, P3⟩
      refine wpS_bind (wpS_get ?_)
      by_cases hs1 : (pendingOf st3).size ≤ 1
      · rw [if_pos hs1]
        exact wpS_pure ⟨rfl, B3, R3, hs1⟩
      · rw [if_neg hs1]
        refine wpS_bind (wpS_mergeR L B3 R3 ?_ (Nat.le_refl _) fun st4 B4 R4 P4 _ => ?_)
        · have gen : ∀ (c : Prop) [Decidable c], (if c then (pendingOf st3).size - 2 - 1 else (pendingOf st3).size - 2) + 1 < (pendingOf st3).size := fun c _ => by split <;> omega
          exact gen _
        · rw [if_neg (by decide)]
          exact wpS_pure ⟨rfl, B4, R4, by omega⟩
    · rintro c st3 ⟨rfl, B3, R3, P3⟩
      exact ⟨rfl, B3, R3, by omega⟩
    · rintro c st3 ⟨rfl, B3, R3, P3⟩
      refine wpS_pure (h st3 B3 ?_)
      have hl : (pendingOf st3).toList.length ≤ 1 := by simpa using P3
      generalize (pendingOf st3).toList = l at hl R3
      match l, hl, R3 with
      | [], _, R3 =>
        have : 0 = a₀.size := R3
        omega
      | [(x, n, p)], _, ⟨h5, h6, h7, h8⟩ =>
        have h8 : 0 + n = a₀.size := h8
        rw [h8] at h7
        exact h7
end
end L2

namespace L2
open PySem PySem.W PySem.Spec PyProof.Rows
section
variable {prog : Program} {w : World} {A : Around} {E : Value → Shared → Prop} {s : Shared}
theorem zip_self_mem {vs : List Value} {p : Keyed} (h : p ∈ (vs.toArray.zip vs.toArray).toList) : p.1 = p.2 ∧ p.1 ∈ vs := by
  rw [Array.toList_zip] at h
  exact mem_zip_self h
theorem any_sort {a : Addr} {vs : List Value} {n : Nat} {κ : SortKind} {rv : Value → Int} {P : PySem.Fin → Shared → Prop}
    (ho : s.heap.get? a = some (seqObj "list" vs.toArray n)) (few : vs.length ≤ 100000)
    (hK : 2 ≤ vs.length → ∀ (s' : Shared) (R : SortKind → Shared → Prop), But a s.heap s'.heap → R κ s' → wpAny (model prog w) A (keyKind' vs.toArray) R E s')
    (hC : ∀ (s' : Shared) (x y : Value) (R : Bool → Shared → Prop) (E' : Value → Shared → Prop), But a s.heap s'.heap → x ∈ vs → y ∈ vs → R (decide (rv x < rv y)) s' → wpAny (model prog w) A (keyLt' κ x y) R E' s')
    (h : ∀ out : List Value, out.Perm vs → (out.Pairwise fun x y => rv x ≤ rv y) → P (.done (.ret .none)) { s with heap := sortedHeap s.heap a vs out.toArray }) :
    wpAny (model prog w) A (Builtin.«list.sort» ⟨[.ref a], []⟩) P E s := by
  rw [list_sort_plain]
  refine wpAny_bind (listItems_at ho rfl (wpAny_bind (listUpdate_at ho rfl ?_)))
  obtain ⟨k, hk⟩ : ∃ k, (s.heap.update a (Obj.mapSeq fun _ => #[])).get? a = some (seqObj "list" #[] k) := ⟨_, get?_update_seq ho (fun _ => #[])⟩
  refine wpAny_bind (seqEpoch_at hk rfl (wpAny_bind (wpAny_newTuple (wpAny_bind (wpAny_newList (wpAny_holding ?_))))))
  have hk2 := Heap.get?_push_of_some (seqObj "list" #[] 0) (Heap.get?_push_of_some (seqObj "tuple" vs.toArray 0) hk)
  have bt := but_three (h := s.heap) (a := a) (f := Obj.mapSeq fun _ => #[]) (x := seqObj "tuple" vs.toArray 0) (y := seqObj "list" #[] 0)
  show wpAny (model prog w) A _ P E { s with heap := (((s.heap.update a (Obj.mapSeq fun _ => #[])).push (seqObj "tuple" vs.toArray 0)).push (seqObj "list" #[] 0)) }
  generalize hS : ({ s with heap := (((s.heap.update a (Obj.mapSeq fun _ => #[])).push (seqObj "tuple" vs.toArray 0)).push (seqObj "list" #[] 0)) } : Shared) = s2
  dsimp only
  have sz : vs.toArray.size = vs.length := by simp
  have hs : 200000 ≤ sizeLine := by decide
  have hk3 : s2.heap.get? a = some (seqObj "list" #[] k) := by rw [← hS]; exact hk2
  have bt2 : But a s.heap s2.heap := by rw [← hS]; exact bt
  have fin : ∀ out : List Value, out.Perm vs → (out.Pairwise fun x y => rv x ≤ rv y) → P (.done (.ret .none)) { s2 with heap := s2.heap.update a (Obj.mapSeq fun _ => out.toArray) } := fun out h1 h2 => by
    rw [← hS]; exact h out h1 h2
  by_cases h2 : vs.toArray.size < 2
  · rw [if_pos h2, if_pos h2]
    refine wpAny_bind (wpAny_pure ?_)
    rw [StateT.run_pure]
    refine wpAny_bind (wpAny_pure ?_)
    dsimp only
    have ez : (arrOf (SortSt.mk' general' (vs.toArray.zip vs.toArray) #[] 7 none)).map (·.2) = vs.toArray := zip_snd vs
    rw [ez]
    refine wpAny_bind (seqEpoch_at hk3 rfl (wpAny_bind (listUpdate_at hk3 rfl ?_ (hsz2 := by rw [sz]; omega))))
    simp only [bne_self_eq_false, Bool.false_eq_true, if_false]
    refine wpAny_pure (fin vs (List.Perm.refl _) ?_)
    match vs, h2 with
    | [], _ => exact List.Pairwise.nil
    | [_], _ => exact List.pairwise_singleton _ _
    | _ :: _ :: _, h2 => simp at h2; omega
  · rw [if_neg h2, if_neg h2]
    refine wpAny_bind (hK (by omega) _ _ bt2 ?_)
    have L : LtOk (model prog w) A E s2 κ (fun p => rv p.1) (vs.toArray.zip vs.toArray) := fun p q st R hp hq hkd hr => by
      rw [lt'_eq]
      refine wpS_bind (wpS_get ?_)
      rw [hkd]
      refine wpS_bind (wpS_lift (wpAny_attempt (hC _ _ _ _ _ bt2 (zip_self_mem hp).2 (zip_self_mem hq).2 ⟨rfl, ?_⟩)))
      exact wpS_pure hr
    refine wpAny_bind (wpAny_mono (wpS_sortR (st := SortSt.mk' κ (vs.toArray.zip vs.toArray) #[] 7 none) (Q := fun _ st' => SB (vs.toArray.zip vs.toArray) κ st' ∧ Seg (fun p => rv p.1) (arrOf st') 0 (vs.toArray.zip vs.toArray).size)
      L ⟨Array.Perm.refl _, rfl, rfl⟩ rfl (by rw [Array.size_zip]; omega) fun st' a1 a2 => ⟨a1, a2⟩) ?_ fun _ _ e => e)
    rintro ⟨⟨⟩, st'⟩ s' ⟨rfl, hB, hg⟩
    dsimp only
    dsimp only at hB hg
    have hp : ((arrOf st').map (·.2)).toList.Perm vs := by
      rw [Array.toList_map]
      refine ((Array.perm_iff_toList_perm.mp hB.perm).map _).trans (List.Perm.of_eq ?_)
      rw [← Array.toList_map, zip_snd]
    have hz : (vs.toArray.zip vs.toArray).size = vs.length := by rw [Array.size_zip]; omega
    have hpw : ((arrOf st').map (·.2)).toList.Pairwise fun x y => rv x ≤ rv y := by
      rw [Array.toList_map]
      have := seg_pw hg
      rw [Nat.sub_zero, List.drop_zero, List.take_of_length_le (by rw [Array.length_toList, hB.size]; exact Nat.le_refl _)] at this
      rw [List.pairwise_map]
      refine this.imp_of_mem fun {p q} hp hq hpq => ?_
      rw [← (zip_self_mem (hB.mem hp)).1, ← (zip_self_mem (hB.mem hq)).1]
      exact hpq
    refine wpAny_bind (seqEpoch_at hk3 rfl (wpAny_bind (listUpdate_at hk3 rfl ?_ (hsz2 := by
      have := hp.length_eq
      rw [Array.length_toList] at this
      show ((arrOf st').map (·.2)).size ≤ _
      omega))))
    rw [hB.failed]
    simp only [bne_self_eq_false, Bool.false_eq_true, if_false]
    refine wpAny_pure ?_
    have := fin _ hp hpw
    rwa [Array.toArray_toList] at this
end
theorem ints_mem {vs : List Value} {ns : List Int} (h : IntsAre vs ns) {v : Value} (hv : v ∈ vs) : ∃ n t, v = .int n t := h.all v hv
section
variable {X : Cx}
end
section
variable {H : Hp} {Q : VK}
end
end L2

namespace L2
open PySem PySem.Spec PyProof.Rows
section
variable {prog : Program} {w : World} {A : Around} {E : Value → Shared → Prop} {s : Shared}
end
end L2

namespace L2
open PySem PySem.Spec PyProof.Rows
section
variable {K : PySem.W.Frag} {σ : St} {H : Hp}
end
end L2

namespace L2
open PySem PySem.W PySem.Spec PyProof.Rows
section
variable {prog : Program} {w : World} {A : Around} {E : Value → Shared → Prop} {s : Shared}
theorem collect_tup {l : Addr} {vs : List Value} {Q : List Value → Shared → Prop} (hl : IsTup s.heap l vs.toArray) (hsz : vs.length ≤ sizeLine)
    (h : Q vs { s with heap := (s.heap.push (seqObj "list" #[] 0)).update s.heap.objs.size (Obj.mapSeq (· ++ vs.toArray)) }) :
    wpAny (model prog w) A (collect (.ref l)) Q E s := by
  obtain ⟨o, ho, hc, n, hd⟩ := id hl
  unfold collect
  refine wpAny_bind (wpAny_runValue (codeAny_builtin entry_proto_collect' ?_))
  show wpAny _ _ (do again (.builtin "list.__iadd__" ⟨[← newList [], .ref l], []⟩)) _ _ s
  refine wpAny_bind (wpAny_newList (wpAny_pure ⟨Code.quiet_builtin _ (by decide +kernel), codeAny_builtin entry_list_iadd' ?_⟩))
  show wpAny _ _ (Builtin.List.listExtendWith (.ref s.heap.objs.size) (.ref l) (.ref s.heap.objs.size)) _ _ { s with heap := s.heap.push (seqObj "list" #[] 0) }
  unfold Builtin.List.listExtendWith
  have ho' : (s.heap.push (seqObj "list" #[] 0)).get? l = some o := Heap.get?_push_of_some _ ho
  refine wpAny_bind (wpAny_typeOf (T := "tuple") ⟨o, ho', hc⟩ ?_)
  have ht : (Value.type "tuple" == Value.type "tuple") = true := by rfl
  rw [if_pos (by rw [ht]; simp)]
  refine wpAny_bind (listItems_at ho' hd ?_)
  refine wpAny_bind (listItems_at (xs := #[]) (n := 0) (Heap.get?_push_size _ rfl) rfl ?_)
  rw [if_neg (by simp)]
  refine wpAny_bind (listUpdate_at (xs := #[]) (n := 0) (Heap.get?_push_size _ rfl) rfl ?_ (Nat.zero_le _) (by show (#[] ++ vs.toArray).size ≤ sizeLine + 1; simp only [Array.size_append, List.size_toArray, List.length_nil]; omega))
  refine wpAny_pure ?_
  show wpAny (model prog w) A (do
      let o ← load s.heap.objs.size
      match o.data with
      | .seq xs _ => pure xs.toList
      | _ => unsupported "internal:collect") Q E { s with heap := (s.heap.push (seqObj "list" #[] 0)).update s.heap.objs.size (Obj.mapSeq (· ++ vs.toArray)) }
  refine wpAny_bind (wpAny_load (get?_update_seq (Heap.get?_push_size _ rfl) _) ?_)
  show wpAny _ _ (pure ((#[] : Array Value) ++ vs.toArray).toList) Q E _
  rw [show ((#[] : Array Value) ++ vs.toArray).toList = vs by simp]
  exact wpAny_pure h
theorem any_sortedG {l : Addr} {vs : List Value} {κ : SortKind} {rv : Value → Int} {Q : Value → Shared → Prop} (hl : ∀ (A' : Around) (Q' : List Value → Shared → Prop), Q' vs { s with heap := (s.heap.push (seqObj "list" #[] 0)).update s.heap.objs.size (Obj.mapSeq (· ++ vs.toArray)) } → wpAny (model prog w) A' (collect (.ref l)) Q' E s) (few : vs.length ≤ 100000)
    (hK : 2 ≤ vs.length → ∀ (A' : Around) (s' : Shared) (R : SortKind → Shared → Prop), (∀ b o, s.heap.get? b = some o → s'.heap.get? b = some o) → R κ s' → wpAny (model prog w) A' (keyKind' vs.toArray) R E s')
    (hC : ∀ (A' : Around) (s' : Shared) (x y : Value) (R : Bool → Shared → Prop) (E' : Value → Shared → Prop), (∀ b o, s.heap.get? b = some o → s'.heap.get? b = some o) → x ∈ vs → y ∈ vs → R (decide (rv x < rv y)) s' → wpAny (model prog w) A' (keyLt' κ x y) R E' s')
    (h : ∀ out : List Value, out.Perm vs → (out.Pairwise fun x y => rv x ≤ rv y) → Q (.ref (s.heap.objs.size + 1)) { s with heap := sortedAll s.heap vs out.toArray }) :
    wpAny (model prog w) A (call (.builtin "sorted") [.ref l]) Q E s := by
  refine Calls.call_function_entry kind_sorted plain_sorted entry_sorted (args_sorted1 _) ?_
  unfold Builtin.«sorted»
  have hs : 200000 ≤ sizeLine := by decide
  refine wpAny_bind (m := checkCount "sorted" 1 1 _) (wpAny_pure (wpAny_bind (hl _ _ ?_)))
  refine wpAny_bind (wpAny_newList ?_)
  have z1 : ((s.heap.push (seqObj "list" #[] 0)).update s.heap.objs.size (Obj.mapSeq (· ++ vs.toArray))).objs.size = s.heap.objs.size + 1 := by rw [Heap.size_update, size_push']
  have old : ∀ b o, s.heap.get? b = some o → (((s.heap.push (seqObj "list" #[] 0)).update s.heap.objs.size (Obj.mapSeq (· ++ vs.toArray))).push (seqObj "list" vs.toArray 0)).get? b = some o := fun b o e => by
    have lb := Heap.lt_size e
    refine Heap.get?_push_of_some _ ?_
    rw [Heap.get?_update_ne _ _ _ _ (Nat.ne_of_lt lb)]
    exact Heap.get?_push_of_some _ e
  have hoL : (((s.heap.push (seqObj "list" #[] 0)).update s.heap.objs.size (Obj.mapSeq (· ++ vs.toArray))).push (seqObj "list" vs.toArray 0)).get? (s.heap.objs.size + 1) = some (seqObj "list" vs.toArray 0) :=
    z1 ▸ Heap.get?_push_size _ rfl
  show wpAny _ _ _ _ _ { s with heap := (((s.heap.push (seqObj "list" #[] 0)).update s.heap.objs.size (Obj.mapSeq (· ++ vs.toArray))).push (seqObj "list" vs.toArray 0)) }
  rw [z1]
  have ok : ∀ {s' : Shared}, But (s.heap.objs.size + 1) (((s.heap.push (seqObj "list" #[] 0)).update s.heap.objs.size (Obj.mapSeq (· ++ vs.toArray))).push (seqObj "list" vs.toArray 0)) s'.heap → ∀ b o, s.heap.get? b = some o → s'.heap.get? b = some o := fun bt b o e => bt b o (Nat.ne_of_lt (Nat.lt_succ_of_lt (Heap.lt_size e))) (old b o e)
  refine wpAny_bind (wpAny_holding (wpAny_call_entry slot_list_sort ⟨_, hoL, rfl⟩ entry_list_sort (any_sort (κ := κ) (rv := rv) hoL few (fun h2 s' R bt r => hK h2 _ s' R (ok bt) r) (fun s' x y R E' bt hx hy r => hC _ s' x y R E' (ok bt) hx hy r) fun out h1 h2 => ⟨_, rfl, ?_⟩) (args_list_sort _)))
  exact wpAny_pure ⟨_, rfl, h out h1 h2⟩
end

section
variable {X : Cx}
noncomputable def rSortX : List V → Hp → VK → Prop := fun xs H Q => (∃ (p : Addr) (ns : List Int), xs = [.ref p] ∧ (H p = some (.lst (ns.map V.int)) ∨ H p = some (.tup (ns.map V.int))) ∧ ns.length ≤ 100000 ∧
    ∀ (q : Addr) (ms : List Int), H q = none → ms.Perm ns → ms.Pairwise (· ≤ ·) → Q (.ref q) (upd H q (.lst (ms.map V.int)))) ∨
  ∃ (p : Addr) (as : List Addr) (ct : Addr → List Int), xs = [.ref p] ∧ H p = some (.lst (as.map V.ref)) ∧ as.length ≤ 100000 ∧ (∀ a ∈ as, H a = some (.tup ((ct a).map V.int)) ∧ ct a ≠ []) ∧
    ∀ (q : Addr) (bs : List Addr), H q = none → bs.Perm as → bs.Pairwise (fun a b => HT.lexLt (ct b) (ct a) = false) → Q (.ref q) (upd H q (.lst (bs.map V.ref)))
theorem vals_refs : ∀ {as : List Addr} {its : List Value}, Vals (as.map V.ref) its → its = as.map Value.ref
  | [], _, h => by cases h; rfl
  | a :: as, _, h => by
    cases h with
    | cons h1 h2 =>
      cases h1
      rw [vals_refs h2]; rfl
theorem refs_vals : ∀ (as : List Addr), Vals (as.map V.ref) (as.map Value.ref)
  | [] => .nil
  | a :: as => .cons rfl (refs_vals as)
theorem refs_perm {as : List Addr} {out : List Value} (h : out.Perm (as.map Value.ref)) : ∃ bs : List Addr, out = bs.map Value.ref ∧ bs.Perm as := by
  have key : ∀ out : List Value, (∀ v ∈ out, ∃ a, v = Value.ref a) → ∃ bs : List Addr, out = bs.map Value.ref := by
    intro out
    induction out with
    | nil => exact fun _ => ⟨[], rfl⟩
    | cons v out ih =>
      intro hv
      obtain ⟨a, rfl⟩ := hv v List.mem_cons_self
      obtain ⟨bs, rfl⟩ := ih fun u hu => hv u (List.mem_cons_of_mem _ hu)
      exact ⟨a :: bs, rfl⟩
  obtain ⟨bs, rfl⟩ := key out fun v hv => by
    obtain ⟨a, _, rfl⟩ := List.mem_map.mp (h.mem_iff.mp hv)
    exact ⟨a, rfl⟩
  refine ⟨bs, rfl, ?_⟩
  have := h.map (fun v => match v with | Value.ref a => a | _ => 0)
  rwa [List.map_map, List.map_map, show ((fun v : Value => match v with | Value.ref a => a | _ => 0) ∘ Value.ref) = id from rfl, List.map_id, List.map_id] at this
noncomputable def cntL (ts : List (List Int)) (t : List Int) : Int := ((ts.countP fun u => HT.lexLt u t) : Nat)
theorem cntL_lt {ts : List (List Int)} {a b : List Int} (ha : a ∈ ts) : decide (cntL ts a < cntL ts b) = HT.lexLt a b := by
  unfold cntL
  cases h : HT.lexLt a b with
  | true =>
    refine decide_eq_true ?_
    have key : ∀ l : List (List Int), a ∈ l → l.countP (fun u => HT.lexLt u a) < l.countP (fun u => HT.lexLt u b) := by
      intro l
      induction l with
      | nil => intro h; cases h
      | cons u l ih =>
        intro hm
        rw [List.countP_cons, List.countP_cons]
        have le : l.countP (fun u => HT.lexLt u a) ≤ l.countP (fun u => HT.lexLt u b) := List.countP_mono_left fun x _ hx => lx_trans hx h
        by_cases e : u = a
        · rw [e, lx_irr, h, if_neg (by decide), if_pos rfl]
          omega
        · have hm' : a ∈ l := (List.mem_cons.mp hm).resolve_left fun z => e z.symm
          have := ih hm'
          by_cases c : HT.lexLt u a = true
          · rw [if_pos c, if_pos (lx_trans c h)]; omega
          · rw [if_neg c]; split <;> omega
    have := key ts ha
    omega
  | false =>
    refine decide_eq_false ?_
    have le : ts.countP (fun u => HT.lexLt u b) ≤ ts.countP (fun u => HT.lexLt u a) := List.countP_mono_left fun x _ hx => by
      cases c : HT.lexLt b a with
      | true => exact lx_trans hx c
      | false => rw [lx_total h c]; exact hx
    omega
theorem kind_tupsX {prog : Program} {w : World} {A : Around} {E : Value → Shared → Prop} {s : Shared} {as : List Addr} {ct : Addr → List Int} {Q : SortKind → Shared → Prop} (h2 : 2 ≤ as.length) (h : ∀ a ∈ as, ∃ its, IsTup s.heap a its.toArray ∧ IntsAre its (ct a) ∧ ct a ≠ []) (q : Q (tuples' true) s) :
    wpAny (model prog w) A (keyKind' (as.map Value.ref).toArray) Q E s := by
  refine kind_tups (ts := as.map ct) (by rw [List.length_map]; exact h2) (fun i hi => ?_) q
  rw [List.length_map] at hi
  obtain ⟨its, it, ia, ne⟩ := h as[i] (List.getElem_mem hi)
  have e : (as.map ct).getD i [] = ct as[i] := by rw [List.getD_eq_getElem?_getD, List.getElem?_map, List.getElem?_eq_getElem hi]; rfl
  rw [e]
  exact ⟨as[i], its, by rw [List.getElem?_map, List.getElem?_eq_getElem hi]; rfl, it, ia, ne⟩
theorem call_sortedX : CallR X (.builtin "sorted") rSortX := by
  intro pins s σ H xs us Q I r h
  have hs2 : 200000 ≤ sizeLine := by decide
  rcases h with ⟨p, ns, rfl, hp, few, q⟩ | ⟨p, as, ct, rfl, hp, few, ht, q⟩
  · obtain ⟨u, rfl, ru⟩ := vals1 r
    cases ru
    obtain ⟨its, rv, hcol⟩ : ∃ its : List Value, Vals (ns.map V.int) its ∧ ∀ (A' : Around) (E' : Value → Shared → Prop) (Q' : List Value → Shared → Prop), Q' its { s with heap := (s.heap.push (seqObj "list" #[] 0)).update s.heap.objs.size (Obj.mapSeq (· ++ its.toArray)) } → wpAny (model X.prog X.w) A' (collect (.ref p)) Q' E' s := by
      rcases hp with hp | hp
      · obtain ⟨hz, its, n, rv, g⟩ := I.hok p _ hp
        refine ⟨its, rv, fun A' E' Q' hq => collect_list ⟨_, g, rfl, n, rfl⟩ hq (hsz := ?_)⟩
        rw [← rv.length]; exact hz
      · obtain ⟨hz, its, rv, g⟩ := I.hok p _ hp
        exact ⟨its, rv, fun A' E' Q' hq => collect_tup g (by rw [← rv.length]; exact hz) hq⟩
    have hi : IntsAre its ns := intsAre_of rv
    have hl := rv.length
    rw [List.length_map] at hl
    refine any_sortedG (vs := its) (κ := oneType') (rv := numOf) (fun A' Q' hq => hcol A' _ Q' hq) (by omega) ?_ ?_ fun out hperm hs => ?_
    · intro h2 A' s' R _ hr
      obtain ⟨v₁, v₂, rest, rfl⟩ : ∃ v₁ v₂ rest, its = v₁ :: v₂ :: rest := by
        match its, h2 with
        | v₁ :: v₂ :: rest, _ => exact ⟨v₁, v₂, rest, rfl⟩
      rw [keyKind_ints hi]
      exact wpAny_pure hr
    · intro A' s' x y R E' _ hx hy hr
      obtain ⟨a, t, rfl⟩ := ints_mem hi hx
      obtain ⟨b, u, rfl⟩ := ints_mem hi hy
      rw [keyLt'_oneType]
      exact oneLt_int hr
    · obtain ⟨e, he⟩ := sortedAll_at s.heap its out.toArray
      have ho : IntsAre out (out.map numOf) := intsAre_map out fun v hv => ints_mem hi (hperm.mem_iff.mp hv)
      have hm : (out.map numOf).Perm ns := (hperm.map _).trans (List.Perm.of_eq hi.nums)
      have hml : (out.map numOf).length = ns.length := hm.length_eq
      exact ⟨.ref (s.heap.objs.size + 1), _, I.laid (t' := s.toks) (o := .lst ((out.map numOf).map V.int)) (fun b ob q => sortedAll_old q) (Nat.le_succ _) ⟨by rw [List.length_map]; omega, out, e, ints_vals ho, by simpa using he⟩, rfl, q _ _ (I.hok.fresh (Nat.le_succ _)) hm (List.pairwise_map.mpr hs)⟩
  · obtain ⟨u, rfl, ru⟩ := vals1 r
    cases ru
    obtain ⟨hz, its, n, rv, g⟩ := I.hok p _ hp
    obtain rfl := vals_refs rv
    have tup : ∀ a ∈ as, ∃ its, IsTup s.heap a its.toArray ∧ IntsAre its (ct a) ∧ ct a ≠ [] := fun a ha => by
      obtain ⟨h1, h2⟩ := ht a ha
      obtain ⟨_, it, rt, tt⟩ := I.hok a _ h1
      exact ⟨it, tt, intsAre_of rt, h2⟩
    have tupK : ∀ s' : Shared, (∀ b o, s.heap.get? b = some o → s'.heap.get? b = some o) → ∀ a ∈ as, ∃ its, IsTup s'.heap a its.toArray ∧ IntsAre its (ct a) ∧ ct a ≠ [] := fun s' hk a ha => by
      obtain ⟨its, ⟨o, go, rr⟩, h2⟩ := tup a ha
      exact ⟨its, ⟨o, hk _ _ go, rr⟩, h2⟩
    refine any_sortedG (vs := as.map Value.ref) (κ := tuples' true) (rv := fun v => match v with | .ref a => cntL (as.map ct) (ct a) | _ => 0) (fun A' Q' hq => collect_list ⟨_, g, rfl, n, rfl⟩ hq (hsz := by rw [List.length_map]; omega)) (by rw [List.length_map]; omega) ?_ ?_ fun out hperm hs => ?_
    · intro h2 A' s' R hk hr
      exact kind_tupsX (by rwa [List.length_map] at h2) (tupK s' hk) hr
    · intro A' s' x y R E' hk hx hy hr
      obtain ⟨a, ha, rfl⟩ := List.mem_map.mp hx
      obtain ⟨b, hb, rfl⟩ := List.mem_map.mp hy
      obtain ⟨i1, t1, n1, _⟩ := tupK s' hk a ha
      obtain ⟨i2, t2, n2, _⟩ := tupK s' hk b hb
      refine tl_lt t1 t2 n1 n2 ?_
      rw [← cntL_lt (ts := as.map ct) (List.mem_map.mpr ⟨a, ha, rfl⟩)]
      exact hr
    · obtain ⟨e, he⟩ := sortedAll_at s.heap (as.map Value.ref) out.toArray
      obtain ⟨bs, rfl, hb⟩ := refs_perm hperm
      have hbl := hb.length_eq
      refine ⟨.ref (s.heap.objs.size + 1), _, I.laid (t' := s.toks) (o := .lst (bs.map V.ref)) (fun b ob q => sortedAll_old q) (Nat.le_succ _) ⟨by rw [List.length_map]; omega, _, e, refs_vals bs, by simpa using he⟩, rfl, q _ bs (I.hok.fresh (Nat.le_succ _)) hb ?_⟩
      rw [List.pairwise_map] at hs
      refine hs.imp_of_mem fun {a b} ha hb' hab => ?_
      have := cntL_lt (ts := as.map ct) (a := ct b) (b := ct a) (List.mem_map.mpr ⟨b, hb.mem_iff.mp hb', rfl⟩)
      rw [← this]
      exact decide_eq_false (by have : cntL (as.map ct) (ct a) ≤ cntL (as.map ct) (ct b) := hab; omega)
end
section
variable {H : Hp} {Q : VK}
theorem r_sortXT {p : Addr} {as : List Addr} (ct : Addr → List Int) (hp : H p = some (.lst (as.map V.ref))) (hn : as.length ≤ 100000) (ht : ∀ a ∈ as, H a = some (.tup ((ct a).map V.int)) ∧ ct a ≠ []) (h : ∀ (q : Addr) (bs : List Addr) (H' : Hp), H q = none → Same H H' → H' q = some (.lst (bs.map V.ref)) → bs.Perm as → bs.Pairwise (fun a b => HT.lexLt (ct b) (ct a) = false) → Q (.ref q) H') : rSortX [.ref p] H Q :=
  .inr ⟨p, as, ct, rfl, hp, hn, ht, fun q bs nq a b => h q bs _ nq ((Same.refl H).upd nq) upd_same a b⟩
end
end L2
namespace L2
open PySem PySem.Spec PyProof.Rows
end L2

namespace L2
open PySem PySem.Spec PyProof.Rows
section
variable {X : Cx}
end
section
variable {H : Hp} {Q : VK} {K : PySem.W.Frag}
end
end L2

namespace L2
open PySem PySem.Spec PyProof.Rows
section
variable {X : Cx} {N' : List Str} {scope : Scope} {C : Addr} {s₀ : Shared} {H₀ : Hp} {ex : List Addr} {x : Str} {pos : Pos}
end
end L2

namespace L2
open PySem PySem.Spec PyProof.Rows
section
variable {X : Cx}
end
section
variable {H : Hp} {Q : VK}
end
section
variable {sub : List (Option Nat)} {g : TG} {tt : TT} {te : TE} {σ : St} {Q : VK} {H : Hp} {K : PySem.W.Frag} {a b : Addr} {xs ys : List V}
end
end L2

namespace HT
open PySem PySem.Spec PyProof.Rows
section
variable {prog : Program} {w : World} {A : Around} {E : Value → Shared → Prop} {s : Shared}
theorem getItem_tuple_whole {t sl : Addr} {items : Array Value} {vl vu : Value} {lo hi : Option Int} {Q : Value → Shared → Prop} (ht : IsTup s.heap t items) (hs : s.heap.IsSliceOf sl vl vu .none) (pl : IsPart vl lo) (pu : IsPart vu hi)
    (hw : sIx items.size 0 lo = 0 ∧ sIx items.size items.size hi = items.size) (h : Q (.ref t) s) : wpAny (model prog w) A (getItem (.ref t) (.ref sl)) Q E s := by
  obtain ⟨os, hos, hcs, hds⟩ := id hs
  have hTs : s.TypeIs (.ref sl) "slice" := ⟨os, hos, hcs⟩
  unfold getItem
  try with_reducible refine wpAny_holding ?_
  first | refine wpAny_bind (wpAny_pure ?_) | skip
  refine wpAny_bind (wpAny_sequenceKey ht.typeIs (by decide) ?_)
  refine wpAny_bind (wpAny_callSpecial?_slot (name := Str.ofString "__getitem__") ht.typeIs PyProof.Rows.slot_tuple_getitem
    (wpAny_call_entry PyProof.Rows.slot_tuple_getitem ht.typeIs entry_tuple_getitem ?_ (args_tuple_getitem _ _)))
  show wpAny _ _ (Builtin.Tuple.tupleItemsOf (.ref t) >>= _) _ _ s
  refine wpAny_bind (tupleItemsOf_ ht ?_)
  refine wpAny_bind (wpAny_typeOf hTs ?_)
  rw [if_pos (by decide)]
  refine wpAny_bind (sliceApplied_gen hs pl pu ?_)
  have hyes : ((((sIx items.size 0 lo : Nat) : Int) == 0 && (1 : Int) == 1 && (sIx items.size items.size hi - sIx items.size 0 lo) == items.size) = true) := by
    rw [hw.1, hw.2]; simp
  show wpAny _ _ (if (((sIx items.size 0 lo : Nat) : Int) == 0 && (1 : Int) == 1 && (sIx items.size items.size hi - sIx items.size 0 lo) == items.size) = true then _ else _) _ _ s
  rw [if_pos hyes]
  unfold Builtin.Tuple.tupleIsExact
  refine wpAny_bind (wpAny_bind (wpAny_typeOf ht.typeIs (wpAny_pure ?_)))
  rw [if_pos (by decide)]
  exact wpAny_bind (wpAny_rule (wpAny_pure ⟨_, rfl, wpAny_pure h⟩))
end
end HT
namespace L2
open PySem PySem.Spec PyProof.Rows
section
variable {X : Cx}
noncomputable def rSlW (K : PySem.W.Frag) : V → Option Int → Option Int → Hp → VK → Prop := fun x lo hi H Q => ∃ a xs, x = .ref a ∧ SqT K H a xs ∧ (HT.sIx xs.length 0 lo = 0 ∧ HT.sIx xs.length xs.length hi = xs.length) ∧ Q (.ref a) H
theorem sl_tupW : SlR X (rSlW X.K) := by
  intro pins s σ H x v vl vu lo hi sl Q I rx hs pl pu h
  obtain ⟨a, xs, rfl, hx, hw, q⟩ := h
  cases rx
  obtain ⟨its, r, ht, hz⟩ := I.tuple hx
  have hlen : its.toArray.size = xs.length := by rw [List.size_toArray]; exact r.length.symm
  refine ⟨"tuple", _, PyProof.Rows.slot_tuple_getitem.lookup, ht.typeIs, ?_⟩
  exact HT.getItem_tuple_whole ht hs pl pu (by rw [hlen]; exact hw) ⟨.ref a, H, I, rfl, q⟩
noncomputable def rSlX (K : PySem.W.Frag) : V → Option Int → Option Int → Hp → VK → Prop := fun x lo hi H Q => rSl K x lo hi H Q ∨ rSlW K x lo hi H Q
theorem sl_seqX {K : PySem.W.Frag} (hK : X.K = K) : SlR X (rSlX K) := by
  subst hK
  exact sl_seq.or sl_tupW
end
section
variable {H : Hp} {Q : VK} {K : PySem.W.Frag} {p : Addr} {xs : List V} {lo hi : Option Int}
theorem r_slXL (hp : H p = some (.lst xs)) (h : ∀ q H', H q = none → Same H H' → H' q = some (.lst (cutV xs lo hi)) → Q (.ref q) H') : rSlX K (.ref p) lo hi H Q := .inl (r_slL (SqL.of hp) fun q nq => h q _ nq ((Same.refl H).upd nq) upd_same)
theorem r_slXT (hp : H p = some (.tup xs)) (h : ∀ q H', Same H H' → H' q = some (.tup (cutV xs lo hi)) → Q (.ref q) H') : rSlX K (.ref p) lo hi H Q := by
  by_cases hw : HT.sIx xs.length 0 lo = 0 ∧ HT.sIx xs.length xs.length hi = xs.length
  · refine .inr ⟨p, xs, rfl, SqT.of hp, hw, h p H (Same.refl H) ?_⟩
    unfold cutV
    rw [hw.1, hw.2, List.drop_zero, Nat.sub_zero, List.take_length]; exact hp
  · exact .inl (.inr (.inl ⟨p, xs, rfl, SqT.of hp, hw, fun q nq => h q _ ((Same.refl H).upd nq) upd_same⟩))
end
end L2

namespace L2
open PySem PySem.Spec PyProof.Rows
end L2

namespace L2
open PySem PySem.Spec PyProof.Rows
noncomputable def RawD (h : Heap) (d : Addr) (es : Array DictEntry) (ep : Nat) : Prop := ∃ o, h.get? d = some o ∧ o.ExactDict ∧ o.data = .dict es ep
theorem RawD.ty {s : Shared} {d : Addr} {es : Array DictEntry} {ep : Nat} (x : RawD s.heap d es ep) : s.TypeIs (.ref d) "dict" := by
  obtain ⟨o, ho, hc, _⟩ := x
  exact ⟨o, ho, hc.1⟩
section
variable {prog : Program} {w : World} {A : Around} {E : Value → Shared → Prop} {s : Shared} {d it : Addr} {es : Array DictEntry} {ep i : Nat}
theorem raw_iter {Q : Value → Shared → Prop} (hd : (d == sysModules) = false) (x : RawD s.heap d es ep)
    (q : Q (.ref s.heap.objs.size) { s with heap := s.heap.push { cls := .type "dict_keyiterator", data := .fields #[.ref d, .int 0 0, .int es.size 0, .int ep 0] } }) : wpAny (model prog w) A (pyIter (.ref d)) Q E s := by
  have hT := x.ty
  obtain ⟨o, ho, hc, hdat⟩ := x
  refine wpAny_pyIter_slot hT PySem.F.slot_dict_iter (wpAny_call_entry PySem.F.slot_dict_iter hT PySem.F.entry_dict_iter ?_ (PySem.F.args_dict_iter_1 _))
  unfold Builtin.«dict.__iter__» Builtin.Dict.dictSlotNone
  refine wpAny_bind (wpAny_bind (wpAny_notOrdered_dict hT (wpAny_pure ?_)))
  show wpAny _ _ (Builtin.Dict.showsAll d >>= _) _ _ s
  unfold Builtin.Dict.showsAll
  rw [if_neg (by rw [hd]; exact Bool.false_ne_true)]
  refine wpAny_bind (wpAny_pure (wpAny_bind (wpAny_dictEntries ho hdat (wpAny_bind (wpAny_dictEpoch ho hdat (wpAny_bind (wpAny_newObj_type (wpAny_pure ⟨_, rfl, "dict_keyiterator", _, ⟨_, Heap.get?_push_size _ rfl, rfl⟩, PySem.F.slot_dict_keyiterator_next.lookup, ?_⟩))))))))
  simpa [rawInt] using q
theorem raw_next {Q : Option Value → Shared → Prop} {e : DictEntry} (hit : s.heap.IsKeyIter it d i es.size ep) (x : RawD s.heap d es ep) (hx : es[i]? = some e)
    (q : ∀ h', h'.IsKeyIter it d (i + 1) es.size ep → Heap.SameBut it s.heap h' → Q (some e.key) { s with heap := h' }) : wpAny (model prog w) A (pyNext (.ref it)) Q E s := by
  obtain ⟨oi, hoi, hci, hdi⟩ := id hit
  obtain ⟨o, ho, hc, hdat⟩ := x
  unfold pyNext
  refine wpAny_bind (wpAny_attempt (wpAny_callSpecial?_slot (name := Str.ofString "__next__") hit.typeIs PySem.F.slot_dict_keyiterator_next (wpAny_call_entry PySem.F.slot_dict_keyiterator_next hit.typeIs PySem.F.entry_dict_keyiterator_next ?_ (PySem.F.args_dict_keyiterator_next_1 _))))
  refine wpAny_bind (wpAny_pure (wpAny_bind (wpAny_bind ?_)))
  first | refine wpAny_bind (wpAny_typeNameOfWhole_keyiter hit.typeIs (wpAny_pure (wpAny_bind (wpAny_fieldsOf hoi hdi ?_)))) | refine wpAny_bind (wpAny_typeNameOf_keyiter hit.typeIs (wpAny_pure (wpAny_bind (wpAny_fieldsOf hoi hdi ?_))))
  have ow : Builtin.Dict_items.ownsTuple "dict_keyiterator" = false := by decide
  simp only [ow, Bool.false_eq_true, if_false]
  show wpAny _ _ (if (Value.ref d == Value.none) = true then _ else _) _ _ s
  rw [if_neg (show ¬ ((Value.ref d == Value.none) = true) from Bool.false_ne_true)]
  refine wpAny_bind (wpAny_pure (wpAny_bind (wpAny_dictEntries ho hdat ?_)))
  rw [if_neg (by simp)]
  refine wpAny_bind (wpAny_pure (wpAny_bind (wpAny_dictEpoch ho hdat ?_)))
  rw [if_neg (by simp)]
  refine wpAny_pure ?_
  simp only [show ¬ ((i : Int) < 0) from by omega, if_false, Int.toNat_natCast, hx]
  refine wpAny_bind ?_
  first | refine wpAny_bind (wpAny_typeNameOfWhole_keyiter hit.typeIs (wpAny_pure (wpAny_bind (wpAny_isOneOf_keyiter hit.typeIs ?_)))) | refine wpAny_bind (wpAny_typeNameOf_keyiter hit.typeIs (wpAny_pure (wpAny_bind (wpAny_isOneOf_keyiter hit.typeIs ?_))))
  show wpAny _ _ (setField (.ref it) 1 (rawInt ((i : Int) + 1)) >>= _) _ _ s
  refine wpAny_bind (wpAny_setField hoi hdi (by simp) ?_)
  have nxt : (s.heap.update it (Obj.mapFields (·.setIfInBounds 1 (rawInt ((i : Int) + 1))))).IsKeyIter it d (i + 1) es.size ep :=
    ⟨_, Heap.get?_update_self _ hoi (Obj.isFreed_of_fields (Obj.data_mapFields hdi _)), (Obj.cls_mapFields ..).trans hci, by rw [Obj.data_mapFields hdi]; simp [rawInt]⟩
  refine wpAny_bind (wpAny_holding (wpAny_bind (wpAny_isOneOf_keyiter (s := { s with heap := s.heap.update it (Obj.mapFields (·.setIfInBounds 1 (rawInt ((i : Int) + 1)))) }) nxt.typeIs ?_)))
  show wpAny _ _ (pure e.key) _ _ _
  exact wpAny_pure (wpAny_pure ⟨_, rfl, wpAny_pure (q _ nxt (Heap.SameBut.update ..))⟩)
theorem raw_end {Q : Option Value → Shared → Prop} (hh : A.handled = none) (hit : s.heap.IsKeyIter it d i es.size ep) (x : RawD s.heap d es ep) (hx : es.size ≤ i)
    (q : ∀ h', Heap.ExtBut it s.heap h' → Q none { s with heap := h' }) : wpAny (model prog w) A (pyNext (.ref it)) Q E s := by
  obtain ⟨oi, hoi, hci, hdi⟩ := id hit
  obtain ⟨o, ho, hc, hdat⟩ := x
  unfold pyNext
  refine wpAny_bind (wpAny_attempt (wpAny_callSpecial?_slot (name := Str.ofString "__next__") hit.typeIs PySem.F.slot_dict_keyiterator_next (wpAny_call_entry PySem.F.slot_dict_keyiterator_next hit.typeIs PySem.F.entry_dict_keyiterator_next ?_ (PySem.F.args_dict_keyiterator_next_1 _))))
  refine wpAny_bind (wpAny_pure (wpAny_bind (wpAny_bind ?_)))
  first | refine wpAny_bind (wpAny_typeNameOfWhole_keyiter hit.typeIs (wpAny_pure (wpAny_bind (wpAny_fieldsOf hoi hdi ?_)))) | refine wpAny_bind (wpAny_typeNameOf_keyiter hit.typeIs (wpAny_pure (wpAny_bind (wpAny_fieldsOf hoi hdi ?_))))
  have ow : Builtin.Dict_items.ownsTuple "dict_keyiterator" = false := by decide
  simp only [ow, Bool.false_eq_true, if_false]
  show wpAny _ _ (if (Value.ref d == Value.none) = true then _ else _) _ _ s
  rw [if_neg (show ¬ ((Value.ref d == Value.none) = true) from Bool.false_ne_true)]
  refine wpAny_bind (wpAny_pure (wpAny_bind (wpAny_dictEntries ho hdat ?_)))
  rw [if_neg (by simp)]
  refine wpAny_bind (wpAny_pure (wpAny_bind (wpAny_dictEpoch ho hdat ?_)))
  rw [if_neg (by simp)]
  refine wpAny_pure ?_
  simp only [show ¬ ((i : Int) < 0) from by omega, if_false, Int.toNat_natCast, Array.getElem?_eq_none hx]
  refine wpAny_bind ?_
  first | refine wpAny_bind (wpAny_typeNameOfWhole_keyiter hit.typeIs (wpAny_pure ?_)) | refine wpAny_bind (wpAny_typeNameOf_keyiter hit.typeIs (wpAny_pure ?_))
  show wpAny _ _ (setField (.ref it) 0 .none >>= _) _ _ s
  refine wpAny_bind (wpAny_setField hoi hdi (by simp) ?_)
  show wpAny _ _ (newExc (.type "StopIteration") [] >>= _) _ _ _
  refine wpAny_bind ?_
  simp only [newExc, newTuple]
  refine wpAny_bind (wpAny_newObj_type (wpAny_bind (m := firstArgMember _ _) (wpAny_of_eq (a := Value.none) (by first | rfl | (simp only [firstArgMember]; rfl)) (wpAny_newObj_type ?_ (by size_fits)))) (by size_fits))
  simp only [raiseNew]
  refine wpAny_bind (wpAny_handled ?_)
  rw [show A.in1.handled = none from hh]
  refine wpAny_bind (wpAny_pure (wpAny_throw ?_))
  refine wpAny_bind (wpAny_isInstance (T := "StopIteration") (b := true) ⟨_, Heap.get?_push_size _ rfl, rfl⟩ isSubtype_stop (wpAny_pure ?_))
  exact (q _ (((Heap.SameBut.update ..).extBut.push _).push _))
end
end L2

namespace L2
open PySem PySem.Spec PyProof.Rows
section
variable {X : Cx} {pins : List (Addr × Obj)} {σ : St} {H : Hp} {s : Shared}
theorem Inv.freezeT {d : Addr} {kvs : List (List Key × V)} (I : Inv X pins σ H s) (e : H d = some (.dT kvs)) : ∃ o, Inv X pins σ (upd H d (.frz o (.dT kvs))) s := by
  have x : ObjOk X.prog X.w H s.heap d (.dT kvs) := I.hok d _ e
  obtain ⟨z, y, xs, r, o, es, ep, h1, h2⟩ := id x
  refine ⟨o, ?_⟩
  have ne : ∀ {b : Addr} {u : HO}, H b = some u → u ≠ .dT kvs → b ≠ d := fun {b u} q n z => n (by rw [z, e] at q; exact (Option.some.inj q).symm)
  have tp : ∀ b ys, H b = some (.tup ys) → upd H d (.frz o (.dT kvs)) b = some (.tup ys) := fun b ys q => by rw [upd_ne (ne q (fun z => by cases z))]; exact q
  have ow : ∀ b c, H b = some (.own c) → upd H d (.frz o (.dT kvs)) b = some (.own c) := fun b c q => by rw [upd_ne (ne q (fun z => by cases z))]; exact q
  have st := I.step (g' := s.gens) (d' := s.drawn) (t' := s.toks) (h' := s.heap) (H' := upd H d (.frz o (.dT kvs))) (ch := []) (fun b hb => nomatch hb) (fun b o _ _ _ e _ => e) (fun b o _ _ _ e _ => ⟨o.slots, e⟩)
    (fun b ob _ _ hn => by rw [upd_ne (fun z => by rw [z, e] at hn; cases hn)]; exact hn) (fun b o _ e => ⟨o, e⟩) tp (fun b ob u q => ?_) (fun b ps q => ⟨#[], ?_⟩) (fun m hm => hm) (fun b u q => ?_) I.bare
  · exact st
  · by_cases hb : b = d
    · rw [hb, e] at q; cases q
    · rw [upd_ne hb]; exact q
  · rw [upd_ne (ne q (fun z => by cases z)), q]; simp
  · by_cases hb : b = d
    · subst hb
      rw [upd_same] at q; cases q
      exact ⟨h1, x.stay (fun _ _ _ q => q) (fun c q => ow c _ q) tp⟩
    · rw [upd_ne hb] at q
      exact (I.hok b u q).stay (fun _ _ _ q => q) (fun c q => ow c _ q) tp
end
noncomputable def ItD (d : Addr) (o : Obj) (kvs : List (List Key × V)) : It :=
  ⟨fun i H => i < kvs.length ∧ H d = some (.frz o (.dT kvs)),
   fun i H x H' => H' = H ∧ ∃ k v b, kvs[i]? = some (k, v) ∧ x = .ref b ∧ H b = some (.tup (k.map kV)),
   fun i H => kvs.length ≤ i ∧ H d = some (.frz o (.dT kvs))⟩
theorem paired_at {α β : Type} {F : α → β → Prop} : ∀ {l : List α} {m : List β}, Paired F l m → l.length = m.length ∧ ∀ (i : Nat) (a : α), l[i]? = some a → ∃ b, m[i]? = some b ∧ F a b
  | _, _, .nil => ⟨rfl, fun i a h => by simp at h⟩
  | _ :: _, b :: _, .cons r t => by
    obtain ⟨h1, h2⟩ := paired_at t
    refine ⟨by simp [h1], fun i c h => ?_⟩
    cases i with
    | zero => cases h; exact ⟨b, rfl, r⟩
    | succ j => exact h2 j c h
theorem frz_raw {P : Program} {w : World} {H : Hp} {h : Heap} {d : Addr} {o : Obj} {kvs : List (List Key × V)} (ok : HOk P w H h) (e : H d = some (.frz o (.dT kvs))) :
    (d == sysModules) = false ∧ ∃ es ep, o.ExactDict ∧ o.data = .dict es ep ∧ RawD h d es ep ∧ es.size = kvs.length ∧ ∀ (i : Nat) (k : List Key) (v : V), kvs[i]? = some (k, v) → ∃ b u hs, es[i]? = some ⟨hs, .ref b, u⟩ ∧ H b = some (.tup (k.map kV)) ∧ RelV v u := by
  obtain ⟨hg, z, y, xs, r, o', es, ep, h1, h2, h3, h4, h5⟩ := (show ObjOk P w H h d (.frz o (.dT kvs)) from ok d _ e)
  rw [hg] at h1; cases h1
  obtain ⟨hl, hat⟩ := paired_at r
  refine ⟨y, es, ep, h2, h3, ⟨o, hg, h2, h3⟩, ?_, fun i k v hk => ?_⟩
  · have : es.toList.length = xs.length := by rw [h4, List.length_map]
    rw [hl, ← this]; simp
  · obtain ⟨⟨k', b, u⟩, hb, e1, e2, e3⟩ := hat i _ hk
    cases e1
    refine ⟨b, u, (tupleKind (mixKind P w)).hash k, ?_, e2, e3⟩
    rw [← Array.getElem?_toList, h4, List.getElem?_map, hb]; rfl
theorem turn_dT {P : Program} {w : World} {K : PySem.W.Frag} {tg : Expr} (d it : Addr) (o : Obj) (kvs : List (List Key × V)) (es : Array DictEntry) (ep : Nat) (ho : o.data = .dict es ep) :
    Turn P w K tg (ItD d o kvs) [it] it (fun i h => h.IsKeyIter it d i es.size ep) where
  mem := by simp
  obj := fun i h st b hb => by
    have e : b = it := by simpa using hb
    subst e
    obtain ⟨o, e, c, d⟩ := st
    exact ⟨o, e, fun v z => by rw [d] at z; cases z⟩
  keep := fun i h h' st k => st.at fun o e => k it (by simp) o e
  item := by
    intro X hP hw hK hc i pins s σ H E I hf st hg
    subst hP hw hK
    obtain ⟨hi, hd⟩ := hg
    obtain ⟨y, es', ep', x1, x2, x3, x4, x5⟩ := frz_raw I.hok hd
    rw [ho] at x2; cases x2
    obtain ⟨b, u, hs, e1, e2, e3⟩ := x5 i kvs[i].1 kvs[i].2 (by simp [hi])
    obtain ⟨f0, f1, f2, f3, f4, f5⟩ := hf it (by simp)
    refine raw_next st x3 e1 fun h' st' sb => ?_
    have I1 : Inv X pins σ H { s with heap := h' } := I.turned (t' := s.toks) (fun b o hb e => (sb.2 b hb).trans e) f0 f1 f3 f4 f5
    obtain ⟨oi, e, c, dd⟩ := id st'
    exact ⟨_, rfl, go_of (s := { s with heap := h' }) e c dd (by decide) ⟨.ref b, H, I1, rfl, ⟨rfl, kvs[i].1, kvs[i].2, b, by simp [hi], rfl, e2⟩, st', fun b hb => (hf b hb).1⟩⟩
  done := by
    intro X hP hw hK hc i pins s σ H E I hf st hg
    subst hP hw hK
    obtain ⟨hi, hd⟩ := hg
    obtain ⟨y, es', ep', x1, x2, x3, x4, x5⟩ := frz_raw I.hok hd
    rw [ho] at x2; cases x2
    obtain ⟨f0, f1, f2, f3, f4, f5⟩ := hf it (by simp)
    exact raw_end (I.ok.hd hc) st x3 (by omega) fun h' eb => ⟨rfl, I.turned (t' := s.toks) (fun b o hb e => eb b o hb e) f0 f1 f3 f4 f5⟩
  self := fun _ _ _ _ _ st h => wpAny_pyIter_keyiter st h
noncomputable def iDT (tl : TE) : TI := fun σ H R => tl σ H fun x H1 => ∃ d kvs, x = .ref d ∧ H1 d = some (.dT kvs) ∧ ∀ o, R (ItD d o kvs) (upd H1 d (.frz o (.dT kvs)))
theorem ji_dT {X : Cx} {tg l : Expr} {tl : TE} (hl : JE X l tl) : JI X tg l (iDT tl) := ⟨by
  intro pins s σ H R I h
  refine thn (hl.run pins s σ H _ I h) fun v s1 qq0 => ?_
  obtain ⟨x, H1, I1, r1, q1⟩ := qq0
  obtain ⟨d, kvs, e, hd, q⟩ := q1
  subst e
  cases r1
  obtain ⟨o, I2⟩ := I1.freezeT hd
  obtain ⟨y, es, ep, x1, x2, x3, x4, x5⟩ := frz_raw I2.hok upd_same
  refine raw_iter y x3 ?_
  refine ⟨s1.heap.objs.size, [s1.heap.objs.size], _, _, upd H1 d (.frz o (.dT kvs)), rfl, I2.kept (t' := s1.toks) fun b o e => Heap.get?_push_of_some _ e, turn_dT d _ o kvs es ep x2, ⟨_, Heap.get?_push_size _ rfl, rfl, rfl⟩, fun b hb => ?_, q o⟩
  have e : b = s1.heap.objs.size := by simpa using hb
  subst e
  exact I2.fpOk (Nat.le_refl _) (I2.hok.fresh (Nat.le_refl _))⟩
theorem r_iDT {tl : TE} {σ : St} {H : Hp} {R : It → Hp → Prop} (h : tl σ H fun x H1 => ∃ d kvs, x = .ref d ∧ H1 d = some (.dT kvs) ∧ ∀ o, R (ItD d o kvs) (upd H1 d (.frz o (.dT kvs)))) : iDT tl σ H R := h
theorem comp_dT {sub : List (Option Nat)} {g : TG} {tt : TT} {te : TE} {σ : St} {Q : VK} {H : Hp} {d : Addr} {o : Obj} {kvs : List (List Key × V)} (Pv : Nat → List V → Hp → Prop) (hn : kvs.length ≤ sizeLine) (h0 : Pv 0 [] H) (hl : ∀ i ys H, Pv i ys H → ys.length ≤ i) (hq : ∀ i ys H, Pv i ys H → H d = some (.frz o (.dT kvs)))
    (hs : ∀ i ys H k v b, kvs[i]? = some (k, v) → H b = some (.tup (k.map kV)) → Pv i ys H → g (.ref b) (subSt sub σ) H fun σ2 H2 => KeepSt (subSt sub σ) σ2 ∧ tt σ2 H2 fun b H3 => if b = true then te σ2 H3 fun y H4 => Pv (i + 1) (ys ++ [y]) H4 else Pv (i + 1) ys H3)
    (hd : ∀ ys H D H', Pv kvs.length ys H → H D = none → Same H H' → H' D = some (.lst ys) → Q (.ref D) H') : CompR sub g tt te σ Q (ItD d o kvs) H :=
  comp_by (n := kvs.length) Pv hn h0 hl (fun i ys H hi p => ⟨hi, hq i ys H p⟩) (fun ys H p => ⟨Nat.le_refl _, hq _ ys H p⟩) (fun i ys H x H' hi p y => by
    obtain ⟨rfl, k, v, b, h1, rfl, h2⟩ := y
    exact hs i ys _ k v b h1 h2 p) fun ys H p D nD => hd ys H D _ p nD ((Same.refl H).upd nD) upd_same
end L2

namespace L2
open PySem PySem.Spec PyProof.Rows
section
variable {prog : Program} {w : World} {A : Around} {E : Value → Shared → Prop} {s : Shared} {d it v : Addr} {es : Array DictEntry} {ep i : Nat}
theorem raw_items {Q : Value → Shared → Prop} (hd : (d == sysModules) = false) (x : RawD s.heap d es ep)
    (q : Q (.ref s.heap.objs.size) { s with heap := s.heap.push { cls := .type "dict_items", data := .fields #[.ref d] } }) : wpAny (model prog w) A (call (.builtin "dict.items") [.ref d]) Q E s := by
  have hT := x.ty
  refine call_meetsIn PySem.F.slot_dict_items hT PySem.F.entry_dict_items (PySem.F.args_dict_items_1 _) (MeetsIn.of_wp (S := fun _ R s' => s' = s ∧ R (.ok (.ret (.ref s.heap.objs.size))) { s with heap := s.heap.push { cls := .type "dict_items", data := .fields #[.ref d] } }) fun A' R s' ⟨hs, h⟩ => ?_) ⟨rfl, q⟩
  subst hs
  unfold Builtin.«dict.items» Builtin.Dict.noArgs
  refine wpAny_bind (wpAny_bind (wpAny_notOrdered_dict hT (wpAny_pure ?_)))
  show wpAny _ _ (Builtin.Dict.showsAll d >>= _) _ _ s'
  unfold Builtin.Dict.showsAll
  rw [if_neg (by rw [hd]; exact Bool.false_ne_true)]
  exact wpAny_bind (wpAny_pure (wpAny_bind (wpAny_newObj_type (wpAny_pure ⟨_, rfl, h⟩))))
theorem raw_iterI {Q : Value → Shared → Prop} (hv : s.heap.IsItemsView v d) (x : RawD s.heap d es ep)
    (q : Q (.ref s.heap.objs.size) { s with heap := s.heap.push { cls := .type "dict_itemiterator", data := .fields #[.none, .bool false, .ref d, .int 0 0, .int es.size 0, .int ep 0, .none, .none] } }) : wpAny (model prog w) A (pyIter (.ref v)) Q E s := by
  obtain ⟨ov, hov, hcv, hdv⟩ := id hv
  obtain ⟨o, ho, hc, hdat⟩ := x
  refine wpAny_pyIter_slot hv.typeIs PySem.F.slot_dict_items_iter (wpAny_call_entry PySem.F.slot_dict_items_iter hv.typeIs PySem.F.entry_dict_items_iter ?_ (PySem.F.args_dict_items_iter_1 _))
  unfold Builtin.«dict_items.__iter__» Builtin.Dict_items.dictOf
  refine wpAny_bind (wpAny_pure (wpAny_bind (wpAny_bind (wpAny_field hov hdv (x := .ref d) rfl (wpAny_pure (wpAny_bind ?_))))))
  unfold Builtin.Dict_items.newIterator
  refine wpAny_bind (wpAny_dictEntries ho hdat (wpAny_bind (wpAny_dictEpoch ho hdat ?_)))
  have ow : Builtin.Dict_items.ownsTuple "dict_itemiterator" = true := by decide
  simp only [ow, if_true]
  refine wpAny_newObj_type (wpAny_pure ⟨_, rfl, "dict_itemiterator", _, ⟨_, Heap.get?_push_size _ rfl, rfl⟩, PySem.F.slot_dict_itemiterator_next.lookup, ?_⟩) (by simp only [sizeOk, Builtin.Dict_items.ownedTupleFields, List.size_toArray, List.length_append, List.length_cons, List.length_nil, sizeLine_eq]; omega)
  simpa [rawInt, Builtin.Dict_items.ownedTupleFields] using q
theorem raw_nextI {ok ov : Value} {Q : Option Value → Shared → Prop} {e : DictEntry} (hit : IsItemIter s.heap it d i es.size ep ok ov) (x : RawD s.heap d es ep) (hx : es[i]? = some e)
    (q : ∀ h', IsItemIterOut h' it d (i + 1) es.size ep e.key e.val s.heap.objs.size → h'.get? s.heap.objs.size = some { cls := .type "tuple", data := .seq #[e.key, e.val] } → h'.objs.size = s.heap.objs.size + 1 →
      (∀ b o, b ≠ it → s.heap.get? b = some o → h'.get? b = some o) → Q (some (.ref s.heap.objs.size)) { s with heap := h' }) : wpAny (model prog w) A (pyNext (.ref it)) Q E s := by
  obtain ⟨hp, g, dr, tk, os⟩ := s
  obtain ⟨o, ho, hc, hdat⟩ := x
  have hT : Shared.TypeIs ⟨hp, g, dr, tk, os⟩ (.ref it) "dict_itemiterator" := ⟨_, hit, rfl⟩
  unfold pyNext
  refine wpAny_bind (wpAny_attempt (wpAny_callSpecial?_slot (name := Str.ofString "__next__") hT PySem.F.slot_dict_itemiterator_next (wpAny_call_entry PySem.F.slot_dict_itemiterator_next hT PySem.F.entry_dict_itemiterator_next ?_ (PySem.F.args_dict_itemiterator_next_1 _))))
  refine wpAny_bind (wpAny_pure (wpAny_bind (wpAny_bind ?_)))
  first | refine wpAny_bind (wpAny_typeNameOfWhole_itemiter hT (wpAny_pure (wpAny_bind (wpAny_fieldsOf hit rfl ?_)))) | refine wpAny_bind (wpAny_typeNameOf_itemiter hT (wpAny_pure (wpAny_bind (wpAny_fieldsOf hit rfl ?_))))
  have ow : Builtin.Dict_items.ownsTuple "dict_itemiterator" = true := by decide
  simp only [ow, if_true]
  show wpAny _ _ (if (Value.ref d == Value.none) = true then _ else _) _ _ _
  rw [if_neg (show ¬ ((Value.ref d == Value.none) = true) from Bool.false_ne_true)]
  refine wpAny_bind (wpAny_pure (wpAny_bind (wpAny_dictEntries ho hdat ?_)))
  rw [if_neg (by simp)]
  refine wpAny_bind (wpAny_pure (wpAny_bind (wpAny_dictEpoch ho hdat ?_)))
  rw [if_neg (by simp)]
  refine wpAny_pure ?_
  simp only [show ¬ ((i : Int) < 0) from by omega, if_false, Int.toNat_natCast, hx]
  refine wpAny_bind ?_
  first | refine wpAny_bind (wpAny_typeNameOfWhole_itemiter hT (wpAny_pure (wpAny_bind (wpAny_isOneOf_itemiter hT ?_)))) | refine wpAny_bind (wpAny_typeNameOf_itemiter hT (wpAny_pure (wpAny_bind (wpAny_isOneOf_itemiter hT ?_))))
  show wpAny _ _ (setField (.ref it) 3 (rawInt ((i : Int) + 1)) >>= _) _ _ ⟨hp, g, dr, tk, os⟩
  refine wpAny_bind (wpAny_setField_rec hit (by simp) fun h1 a1 b1 => ?_)
  replace b1 : Heap.SameBut it hp h1 := b1
  replace a1 : IsItemIter h1 it d (i + 1) es.size ep ok ov := by
    have e0 : ((i + 1 : Nat) : Int) = (i : Int) + 1 := by omega
    unfold IsItemIter; rw [e0]; simpa [rawInt] using a1
  have hT1 : Shared.TypeIs ⟨h1, g, dr, tk, os⟩ (.ref it) "dict_itemiterator" := ⟨_, a1, rfl⟩
  refine wpAny_bind (wpAny_holding (wpAny_bind (wpAny_isOneOf_itemiter hT1 (wpAny_bind (wpAny_isOneOf_itemiter hT1 ?_)))))
  show wpAny _ _ (Builtin.Dict_items.pairFromOwner (.ref it) 6 e.key e.val) _ _ ⟨h1, g, dr, tk, os⟩
  unfold Builtin.Dict_items.pairFromOwner
  refine wpAny_bind (wpAny_newTuple ?_)
  have a2 : IsItemIter (h1.push { cls := .type "tuple", data := .seq #[e.key, e.val] }) it d (i + 1) es.size ep ok ov := Heap.get?_push_of_some _ a1
  have z1 : h1.objs.size = hp.objs.size := b1.1
  have hil : it < hp.objs.size := Heap.lt_size hit
  have t2 : (h1.push { cls := .type "tuple", data := .seq #[e.key, e.val] }).get? hp.objs.size = some { cls := .type "tuple", data := .seq #[e.key, e.val] } := by rw [← z1]; exact Heap.get?_push_size _ rfl
  have z2 : (h1.push { cls := .type "tuple", data := .seq #[e.key, e.val] }).objs.size = hp.objs.size + 1 := by rw [Heap.size_push, z1]
  have k2 : ∀ b o, b ≠ it → hp.get? b = some o → (h1.push { cls := .type "tuple", data := .seq #[e.key, e.val] }).get? b = some o := fun b o hb q => Heap.get?_push_of_some _ (b1.extBut b o hb q)
  generalize h1.push { cls := .type "tuple", data := .seq #[e.key, e.val] } = h2 at a2 t2 z2 k2 ⊢
  show wpAny _ _ (Builtin.Dict_items.ownedTupleIsFree (.ref it) >>= _) _ _ ⟨h2, g, dr, tk, os⟩
  rw [z1]
  clear a1 b1 hT1 z1
  unfold Builtin.Dict_items.ownedTupleIsFree
  refine wpAny_bind (wpAny_bind (wpAny_field a2 rfl (x := .none) rfl (wpAny_pure ?_)))
  simp only [if_true]
  refine wpAny_bind (wpAny_field a2 rfl (x := ok) rfl (wpAny_bind (wpAny_field a2 rfl (x := ov) rfl (wpAny_bind (wpAny_setField_rec a2 (by simp) fun h3 a3 b3 => ?_)))))
  replace b3 : Heap.SameBut it h2 h3 := b3
  replace a3 : IsItemIter h3 it d (i + 1) es.size ep e.key ov := a3
  refine wpAny_bind (wpAny_setField_rec a3 (by simp) fun h4 a4 b4 => ?_)
  replace b4 : Heap.SameBut it h3 h4 := b4
  replace a4 : IsItemIter h4 it d (i + 1) es.size ep e.key e.val := a4
  refine wpAny_bind (wpAny_setField_rec a4 (by simp) fun h5 a5 b5 => ?_)
  replace b5 : Heap.SameBut it h4 h5 := b5
  replace a5 : IsItemIterOut h5 it d (i + 1) es.size ep e.key e.val hp.objs.size := a5
  refine wpAny_bind (wpAny_setField_rec a5 (by simp) fun h6 a6 b6 => ?_)
  replace b6 : Heap.SameBut it h5 h6 := b6
  replace a6 : IsItemIterOut h6 it d (i + 1) es.size ep e.key e.val hp.objs.size := a6
  have kk : ∀ b o, b ≠ it → h2.get? b = some o → h6.get? b = some o := fun b o hb q => b6.extBut b o hb (b5.extBut b o hb (b4.extBut b o hb (b3.extBut b o hb q)))
  refine wpAny_bind (wpAny_letGo (wpAny_pure (wpAny_pure ⟨_, rfl, wpAny_pure (q h6 a6 (kk _ _ (Nat.ne_of_gt hil) t2) ?_ fun b o hb e => kk b o hb (k2 b o hb e))⟩)))
  show h6.objs.size = hp.objs.size + 1
  rw [b6.1, b5.1, b4.1, b3.1, z2]
theorem raw_endI {ok ov : Value} {Q : Option Value → Shared → Prop} (hh : A.handled = none) (hit : IsItemIter s.heap it d i es.size ep ok ov) (x : RawD s.heap d es ep) (hx : es.size ≤ i)
    (q : ∀ h', Heap.ExtBut it s.heap h' → Q none { s with heap := h' }) : wpAny (model prog w) A (pyNext (.ref it)) Q E s := by
  obtain ⟨o, ho, hc, hdat⟩ := x
  have hT : s.TypeIs (.ref it) "dict_itemiterator" := ⟨_, hit, rfl⟩
  unfold pyNext
  refine wpAny_bind (wpAny_attempt (wpAny_callSpecial?_slot (name := Str.ofString "__next__") hT PySem.F.slot_dict_itemiterator_next (wpAny_call_entry PySem.F.slot_dict_itemiterator_next hT PySem.F.entry_dict_itemiterator_next ?_ (PySem.F.args_dict_itemiterator_next_1 _))))
  refine wpAny_bind (wpAny_pure (wpAny_bind (wpAny_bind ?_)))
  first | refine wpAny_bind (wpAny_typeNameOfWhole_itemiter hT (wpAny_pure (wpAny_bind (wpAny_fieldsOf hit rfl ?_)))) | refine wpAny_bind (wpAny_typeNameOf_itemiter hT (wpAny_pure (wpAny_bind (wpAny_fieldsOf hit rfl ?_))))
  have ow : Builtin.Dict_items.ownsTuple "dict_itemiterator" = true := by decide
  simp only [ow, if_true]
  show wpAny _ _ (if (Value.ref d == Value.none) = true then _ else _) _ _ s
  rw [if_neg (show ¬ ((Value.ref d == Value.none) = true) from Bool.false_ne_true)]
  refine wpAny_bind (wpAny_pure (wpAny_bind (wpAny_dictEntries ho hdat ?_)))
  rw [if_neg (by simp)]
  refine wpAny_bind (wpAny_pure (wpAny_bind (wpAny_dictEpoch ho hdat ?_)))
  rw [if_neg (by simp)]
  refine wpAny_pure ?_
  simp only [show ¬ ((i : Int) < 0) from by omega, if_false, Int.toNat_natCast, Array.getElem?_eq_none hx]
  refine wpAny_bind ?_
  first | refine wpAny_bind (wpAny_typeNameOfWhole_itemiter hT (wpAny_pure ?_)) | refine wpAny_bind (wpAny_typeNameOf_itemiter hT (wpAny_pure ?_))
  show wpAny _ _ (setField (.ref it) 2 .none >>= _) _ _ s
  refine wpAny_bind (wpAny_setField hit rfl (by simp) ?_)
  show wpAny _ _ (newExc (.type "StopIteration") [] >>= _) _ _ _
  refine wpAny_bind ?_
  simp only [newExc, newTuple]
  refine wpAny_bind (wpAny_newObj_type (wpAny_bind (m := firstArgMember _ _) (wpAny_of_eq (a := Value.none) (by first | rfl | (simp only [firstArgMember]; rfl)) (wpAny_newObj_type ?_ (by size_fits)))) (by size_fits))
  simp only [raiseNew]
  refine wpAny_bind (wpAny_handled ?_)
  rw [show A.in1.handled = none from hh]
  refine wpAny_bind (wpAny_pure (wpAny_throw ?_))
  refine wpAny_bind (wpAny_isInstance (T := "StopIteration") (b := true) ⟨_, Heap.get?_push_size _ rfl, rfl⟩ isSubtype_stop (wpAny_pure ?_))
  exact (q _ (((Heap.SameBut.update ..).extBut.push _).push _))
end
end L2

namespace L2
open PySem PySem.Spec PyProof.Rows
theorem entry_items_iter : entryFor table "dict_itemiterator.__iter__" = some Builtin.«dict_keyiterator.__iter__» := entryFor_alias (id' := "dict_keyiterator.__iter__") (by kernel_rfl) rfl (by decide +kernel) (by kernel_rfl)
noncomputable def ItI (d : Addr) (o : Obj) (kvs : List (List Key × V)) : It :=
  ⟨fun i H => i < kvs.length ∧ H d = some (.frz o (.dT kvs)),
   fun i H x H' => ∃ T k v b, kvs[i]? = some (k, v) ∧ H b = some (.tup (k.map kV)) ∧ H T = none ∧ x = .ref T ∧ H' = upd H T (.tup [.ref b, v]),
   fun i H => kvs.length ≤ i ∧ H d = some (.frz o (.dT kvs))⟩
theorem turn_dTI {P : Program} {w : World} {K : PySem.W.Frag} {elts : List Expr} {kk : Nat} {pos : Pos} (d it : Addr) (o : Obj) (kvs : List (List Key × V)) (es : Array DictEntry) (ep : Nat) (ho : o.data = .dict es ep) :
    Turn P w K (.Tuple elts kk pos) (ItI d o kvs) [it] it (fun i h => ∃ a b, IsItemIter h it d i es.size ep a b) where
  mem := by simp
  obj := fun i h st b hb => by
    have e : b = it := by simpa using hb
    subst e
    obtain ⟨_, _, e⟩ := st
    exact ⟨_, e, fun v z => by cases z⟩
  keep := fun i h h' st k => by
    obtain ⟨a, b, e⟩ := st
    exact ⟨a, b, k it (by simp) _ e⟩
  item := by
    intro X hP hw hK hc i pins s σ H E I hf st hg
    subst hP hw hK
    obtain ⟨hi, hd⟩ := hg
    obtain ⟨a0, b0, st⟩ := st
    obtain ⟨y, es', ep', x1, x2, x3, x4, x5⟩ := frz_raw I.hok hd
    rw [ho] at x2; cases x2
    obtain ⟨b, u, hs, e1, e2, e3⟩ := x5 i kvs[i].1 kvs[i].2 (by simp [hi])
    have ns : s.heap.objs.size ≠ it := Nat.ne_of_gt (Heap.lt_size st)
    refine raw_nextI st x3 e1 fun h' st' tp sz kp => ⟨_, rfl, wpAny_letOwnedTupleGo_items st' fun h'' st2 sb => ?_⟩
    have isT : h''.IsTuple s.heap.objs.size #[.ref b, u] := ⟨_, sb.extBut _ _ ns tp, rfl, _, rfl⟩
    have kall : ∀ c q, c ∉ [it] → s.heap.get? c = some q → h''.get? c = some q := fun c q hb e => by
      have hb' : c ≠ it := by simpa using hb
      exact sb.extBut _ _ hb' (kp c q hb' e)
    have hTn : H s.heap.objs.size = none := I.hok.fresh (Nat.le_refl _)
    refine ⟨.ref s.heap.objs.size, _, I.newtup (tk := s.toks) hf (Nat.le_refl _) kall isT (xs := [.ref b, kvs[i].2]) (.cons rfl (.cons e3 .nil)) (by simp; decide), rfl, ⟨_, kvs[i].1, kvs[i].2, b, by simp [hi], e2, hTn, rfl, rfl⟩, ⟨_, _, st2⟩, fun c hb => ?_⟩
    have hb' : c = it := by simpa using hb
    subst hb'
    rw [upd_ne (Ne.symm ns)]
    exact (hf c hb).1
  done := by
    intro X hP hw hK hc i pins s σ H E I hf st hg
    subst hP hw hK
    obtain ⟨hi, hd⟩ := hg
    obtain ⟨a0, b0, st⟩ := st
    obtain ⟨y, es', ep', x1, x2, x3, x4, x5⟩ := frz_raw I.hok hd
    rw [ho] at x2; cases x2
    obtain ⟨f0, f1, f2, f3, f4, f5⟩ := hf it (by simp)
    exact raw_endI (I.ok.hd hc) st x3 (by omega) fun h' eb => ⟨rfl, I.turned (t' := s.toks) (fun b o hb e => eb b o hb e) f0 f1 f3 f4 f5⟩
  self := fun A i s Q E st h => by
    obtain ⟨a0, b0, st⟩ := st
    have hT : s.TypeIs (.ref it) "dict_itemiterator" := ⟨_, st, rfl⟩
    refine wpAny_pyIter_slot hT PySem.F.slot_dict_itemiterator_iter (wpAny_call_entry PySem.F.slot_dict_itemiterator_iter hT entry_items_iter ?_ (PySem.F.args_dict_itemiterator_iter_1 _))
    show wpAny _ _ (ret (.ref it)) _ _ s
    exact wpAny_pure ⟨_, rfl, "dict_itemiterator", _, hT, PySem.F.slot_dict_itemiterator_next.lookup, h⟩
noncomputable def iDTI (tl : TE) : TI := fun σ H R => tl σ H fun x H1 => ∃ d kvs, x = .ref d ∧ H1 d = some (.dT kvs) ∧ ∀ o, R (ItI d o kvs) (upd H1 d (.frz o (.dT kvs)))
theorem ji_dTI {X : Cx} {l : Expr} {tl : TE} {elts : List Expr} {kk : Nat} {tp apos cpos : Pos} (hl : JE X l tl) (hbase : autoParam (notCall l = true) L2.auto4._auto_1) (hline : autoParam ((apos.endLine == cpos.line) = true) L2.auto4._auto_1) : JI X (.Tuple elts kk tp) (.Call (.Attribute l "items" apos) [] [] cpos) (iDTI tl) := ⟨by
  intro pins s σ H R I h
  refine wpAny_Call_method0_late (ab_no hbase) hline (thn (hl.run pins s σ H _ I h) fun v s1 qq0 => ?_)
  obtain ⟨x, H1, I1, r1, q1⟩ := qq0
  obtain ⟨d, kvs, e, hd, q⟩ := q1
  subst e
  cases r1
  obtain ⟨h1, h2, hds⟩ := isD_at I1 (.inr ⟨kvs, .inl hd⟩)
  obtain ⟨o, I2⟩ := I1.freezeT hd
  obtain ⟨y, es, ep, x1, x2, x3, x4, x5⟩ := frz_raw I2.hok upd_same
  refine ⟨"dict", "dict.items", PySem.F.plainAttrs_dict, PySem.F.slot_dict_items, PySem.F.type_dict_items, h1, h2, Calls.callWith_builtin rfl (PySem.evalArgs_none ?_)⟩
  refine raw_items y x3 ?_
  have x3' : RawD (s1.heap.push { cls := .type "dict_items", data := .fields #[.ref d] }) d es ep := by
    obtain ⟨od, a1, a2⟩ := x3
    exact ⟨od, Heap.get?_push_of_some _ a1, a2⟩
  refine raw_iterI (s := { s1 with heap := s1.heap.push { cls := .type "dict_items", data := .fields #[.ref d] } }) ⟨_, Heap.get?_push_size _ rfl, rfl, rfl⟩ x3' ?_
  have I3 : Inv X pins σ (upd H1 d (.frz o (.dT kvs))) { s1 with heap := s1.heap.push { cls := .type "dict_items", data := .fields #[.ref d] } } := I2.kept (t' := s1.toks) fun b o e => Heap.get?_push_of_some _ e
  refine ⟨_, [_], _, _, upd H1 d (.frz o (.dT kvs)), rfl, I3.kept (t' := s1.toks) fun b o e => Heap.get?_push_of_some _ e, turn_dTI d _ o kvs es ep x2, ⟨_, _, Heap.get?_push_size _ rfl⟩, fun b hb => ?_, q o⟩
  have e := List.mem_singleton.mp hb
  subst e
  exact I3.fpOk (Nat.le_refl _) (I3.hok.fresh (Nat.le_refl _))⟩
theorem r_iDTI {tl : TE} {σ : St} {H : Hp} {R : It → Hp → Prop} (h : tl σ H fun x H1 => ∃ d kvs, x = .ref d ∧ H1 d = some (.dT kvs) ∧ ∀ o, R (ItI d o kvs) (upd H1 d (.frz o (.dT kvs)))) : iDTI tl σ H R := h
theorem comp_dTI {sub : List (Option Nat)} {g : TG} {tt : TT} {te : TE} {σ : St} {Q : VK} {H : Hp} {d : Addr} {o : Obj} {kvs : List (List Key × V)} (Pv : Nat → List V → Hp → Prop) (hn : kvs.length ≤ sizeLine) (h0 : Pv 0 [] H) (hl : ∀ i ys H, Pv i ys H → ys.length ≤ i) (hq : ∀ i ys H, Pv i ys H → H d = some (.frz o (.dT kvs)))
    (hs : ∀ i ys H T k v b, kvs[i]? = some (k, v) → H b = some (.tup (k.map kV)) → H T = none → Pv i ys H → g (.ref T) (subSt sub σ) (upd H T (.tup [.ref b, v])) fun σ2 H2 => KeepSt (subSt sub σ) σ2 ∧ tt σ2 H2 fun b H3 => if b = true then te σ2 H3 fun y H4 => Pv (i + 1) (ys ++ [y]) H4 else Pv (i + 1) ys H3)
    (hd : ∀ ys H D H', Pv kvs.length ys H → H D = none → Same H H' → H' D = some (.lst ys) → Q (.ref D) H') : CompR sub g tt te σ Q (ItI d o kvs) H :=
  comp_by (n := kvs.length) Pv hn h0 hl (fun i ys H hi p => ⟨hi, hq i ys H p⟩) (fun ys H p => ⟨Nat.le_refl _, hq _ ys H p⟩) (fun i ys H x H' hi p y => by
    obtain ⟨T, k, v, b, h1, h2, h3, rfl, rfl⟩ := y
    exact hs i ys _ T k v b h1 h2 h3 p) fun ys H p D nD => hd ys H D _ p nD ((Same.refl H).upd nD) upd_same
section
variable {X : Cx} {K : PySem.W.Frag} {a b e f o : Expr} {ta tb tc : TE} {pos apos cpos : Pos} {H : Hp} {Q : VK} {σ : St}
theorem j_dget (hu : X.A.units + 64 < cLine) (ha : JE X a ta) (hb : JE X b tb) (h : autoParam (notSlice b = true) L2.auto4._auto_1) : JE X (.Subscript a b pos) (tDGet ta tb) := ⟨pe_dget (by omega) ha.run hb.run (pix h)⟩
theorem r_dget (h : ta σ H fun x H1 => tb σ H1 fun y H2 => ∃ a v, x = .ref a ∧ DGet H2 a y (some v) ∧ Q v H2) : tDGet ta tb σ H Q := h
theorem j_dget1 (hu : X.A.units + 64 < cLine) (ho : JE X o ta) (he : JE X e tb) (hbase : autoParam (notCall o = true) L2.auto4._auto_1) (hline : autoParam ((apos.endLine == cpos.line) = true) L2.auto4._auto_1) (h : autoParam (notStar e = true) L2.auto4._auto_1) : JE X (.Call (.Attribute o "get" apos) [e] [] cpos) (tDGet1 ta tb) :=
  ⟨pe_dget1 (by omega) ho.run he.run ⟨ab_no hbase, by rw [se_cons h]; rfl, hline, by rw [se_cons h]; rfl⟩⟩
theorem r_dget1 (h : ta σ H fun x H1 => ∃ a, x = .ref a ∧ IsD H1 a ∧ tb σ H1 fun y H2 => ∃ o, DGet H2 a y o ∧ Q (o.getD .non) H2) : tDGet1 ta tb σ H Q := h
noncomputable def rLtA (K : PySem.W.Frag) : R2 := fun x y H Q => rI0 (fun i j => .bl (decide (i < j))) x y H Q ∨ rLtT K x y H Q
theorem op_ltA (hK : X.K = K) (hu : X.A.units + 64 < cLine) : OpR X (compareOp .Lt) (rLtA K) := by
  subst hK
  exact op_lt.or (op_ltT (by omega))
theorem r_ltI {i j : Int} (h : Q (.bl (decide (i < j))) H) : rLtA K (.int i) (.int j) H Q := .inl ⟨_, _, rfl, rfl, h⟩
theorem r_ltTT {p q : Addr} {ns ms : List Int} (hp : H p = some (.tup (ns.map V.int))) (hq : H q = some (.tup (ms.map V.int))) (h : Q (.bl (HT.lexLt ns ms)) H) : rLtA K (.ref p) (.ref q) H Q := .inr ⟨p, q, ns, ms, rfl, rfl, SqT.of hp, SqT.of hq, h⟩
end
end L2

namespace My
open PySem L2
noncomputable def top (i : Nat) : Stmt := PySem.Challenge.pw_panethread_k68_news_of_lists.main.body.getD i (.Pass ⟨0, 0, 0, 0⟩)
noncomputable abbrev s_is_number : Stmt := top 6
noncomputable abbrev s_is_within : Stmt := top 7
noncomputable abbrev s_is_span : Stmt := top 8
noncomputable abbrev s_are_numbers : Stmt := top 11
noncomputable abbrev s_is_priced : Stmt := top 12
noncomputable abbrev s_span_of : Stmt := top 13
noncomputable abbrev s_ranks_of : Stmt := top 14
noncomputable abbrev s_is_ranked : Stmt := top 15
noncomputable abbrev s_need_ranked : Stmt := top 16
noncomputable abbrev s_not_among : Stmt := top 17
noncomputable abbrev s_moved_between : Stmt := top 18
noncomputable abbrev s_news_of : Stmt := top 19
noncomputable abbrev s_are_all_numbers : Stmt := top 20
noncomputable abbrev s_are_news : Stmt := top 21
noncomputable abbrev s_told_behind : Stmt := top 22
noncomputable abbrev s_followed : Stmt := top 23
noncomputable abbrev s_law_cell : Stmt := top 25
noncomputable abbrev s_law_drawn : Stmt := top 26
noncomputable abbrev s_law_tuples : Stmt := top 27
noncomputable abbrev s_law_news_kind : Stmt := top 28
noncomputable abbrev s_law_ranks : Stmt := top 29
noncomputable abbrev s_law_news : Stmt := top 30
noncomputable abbrev s_law_list : Stmt := top 31
noncomputable abbrev s_law_next : Stmt := top 32
noncomputable abbrev s_law_led : Stmt := top 33
noncomputable abbrev s_law : Stmt := top 34
noncomputable abbrev i_NoNear : Stmt := initOf (top 2)
noncomputable abbrev i_NoTold : Stmt := initOf (top 3)
local macro_rules | `(tactic| walk_at "sts") => `(tactic| (with_reducible repeat (first | refine r_op ?_ | refine iteT ?_ | refine iteF ?_ | refine iteNT ?_ | refine iteNF ?_ | (refine' r_var ?hz0 ?_; (case hz0 => with_unfolding_all rfl)) | refine r_C ?_ | refine r_i0 ?_ | refine r_addI ?_ | refine r_cons ?_ | refine r_nil ?_ | refine r_seq ?_ | refine r_asg ?_ | refine r_name ?_ | refine r_ret ?_ | refine r_next ?_ | refine r_if ?_ | refine r_test ?_ | refine r_bl ?_ | refine r_cb ?_ | refine r_call ?_ | refine r_tb ?_ | refine r_not ?_ | refine r_and ?_ | refine r_or ?_ | refine r_andV ?_ | refine r_notV ?_ | refine r_sub ?_ | refine r_drop ?_ | refine r_tupG ?_ | refine r_lstG ?_ | refine r_bm ?_ | refine r_bm0 ?_ | refine r_sl ?_ | refine r_nop ?_ | refine r_part ?_ | refine r_true ?_ | refine r_rng1 ?_ | refine r_iseq ?_ | refine r_comp ?_ | refine r_for ?_ | refine r_gcons ?_ | refine r_gnil ?_ | (refine' r_gtup (SqT.of ?hz0) ?hz1 ?_; (case hz0 => first | assumption | exact upd_same); (case hz1 => rfl)) | refine r_chain ?_ | refine r_eqCI ?_ | refine r_eqEI ?_ | refine r_isA ?_ | refine r_isNotB ?_ | refine r_eqBI ?_ | refine r_neBI ?_ | refine r_enumA ?_ | refine r_intE ?_ | (refine' r_i ?hz0 ?_; (case hz0 => with_unfolding_all first | assumption | omega | (dsimp only <;> omega) | exact ⟨by omega, by omega⟩ | exact .inl ⟨by omega, by omega⟩ | exact .inr ⟨by omega, by omega⟩ | exact ⟨by decide, by decide, by decide⟩)) | (refine' r_mulI ?hz0 ?_; (case hz0 => with_unfolding_all first | assumption | omega | (dsimp only <;> omega) | exact ⟨by omega, by omega⟩ | exact .inl ⟨by omega, by omega⟩ | exact .inr ⟨by omega, by omega⟩ | exact ⟨by decide, by decide, by decide⟩)) | (refine' r_ixL (SqL.of ?hz0) ?hz1 ?_; (case hz0 => first | assumption | exact upd_same); (case hz1 => with_unfolding_all rfl)) | (refine' r_ixT (SqT.of ?hz0) ?hz1 ?_; (case hz0 => first | assumption | exact upd_same); (case hz1 => with_unfolding_all rfl)) | refine r_dnewT ?_ | refine r_dget ?_ | refine r_dget1 ?_ | refine r_iDT ?_ | refine r_iDTI ?_ | refine r_ltI ?_)))
local macro_rules | `(tactic| walk_at "stn") => `(tactic| (with_reducible repeat (first | refine r_op ?_ | refine iteT ?_ | refine iteF ?_ | refine iteNT ?_ | refine iteNF ?_ | (refine' r_var ?hz0 ?_; (case hz0 => with_unfolding_all rfl)) | refine r_C ?_ | refine r_i0 ?_ | refine r_addI ?_ | refine r_cons ?_ | refine r_nil ?_ | refine r_asg ?_ | refine r_name ?_ | refine r_ret ?_ | refine r_next ?_ | refine r_if ?_ | refine r_test ?_ | refine r_bl ?_ | refine r_cb ?_ | refine r_call ?_ | refine r_tb ?_ | refine r_not ?_ | refine r_and ?_ | refine r_or ?_ | refine r_andV ?_ | refine r_notV ?_ | refine r_sub ?_ | refine r_drop ?_ | refine r_tupG ?_ | refine r_lstG ?_ | refine r_bm ?_ | refine r_bm0 ?_ | refine r_sl ?_ | refine r_nop ?_ | refine r_part ?_ | refine r_true ?_ | refine r_rng1 ?_ | refine r_iseq ?_ | refine r_comp ?_ | refine r_for ?_ | refine r_gcons ?_ | refine r_gnil ?_ | (refine' r_gtup (SqT.of ?hz0) ?hz1 ?_; (case hz0 => first | assumption | exact upd_same); (case hz1 => rfl)) | refine r_chain ?_ | refine r_eqCI ?_ | refine r_eqEI ?_ | refine r_isA ?_ | refine r_isNotB ?_ | refine r_eqBI ?_ | refine r_neBI ?_ | refine r_enumA ?_ | refine r_intE ?_ | (refine' r_i ?hz0 ?_; (case hz0 => with_unfolding_all first | assumption | omega | (dsimp only <;> omega) | exact ⟨by omega, by omega⟩ | exact .inl ⟨by omega, by omega⟩ | exact .inr ⟨by omega, by omega⟩ | exact ⟨by decide, by decide, by decide⟩)) | (refine' r_mulI ?hz0 ?_; (case hz0 => with_unfolding_all first | assumption | omega | (dsimp only <;> omega) | exact ⟨by omega, by omega⟩ | exact .inl ⟨by omega, by omega⟩ | exact .inr ⟨by omega, by omega⟩ | exact ⟨by decide, by decide, by decide⟩)) | (refine' r_ixL (SqL.of ?hz0) ?hz1 ?_; (case hz0 => first | assumption | exact upd_same); (case hz1 => with_unfolding_all rfl)) | (refine' r_ixT (SqT.of ?hz0) ?hz1 ?_; (case hz0 => first | assumption | exact upd_same); (case hz1 => with_unfolding_all rfl)) | refine r_dnewT ?_ | refine r_dget ?_ | refine r_dget1 ?_ | refine r_iDT ?_ | refine r_iDTI ?_ | refine r_ltI ?_)))
structure Txt (K : PySem.W.Frag) (mg : Str → Option Value) : Prop where
  b_all : mg "all" = none
  b_bool : mg "bool" = none
  b_enumerate : mg "enumerate" = none
  b_int : mg "int" = none
  b_isinstance : mg "isinstance" = none
  b_len : mg "len" = none
  b_list : mg "list" = none
  b_range : mg "range" = none
  b_sorted : mg "sorted" = none
  b_tuple : mg "tuple" = none
  c_MOST_COST : ∃ t, mg "MOST_COST" = some (.int 48 t)
  c_MOST_LETTERS : ∃ t, mg "MOST_LETTERS" = some (.int 24 t)
  d_is_number : Def K mg "is_number" s_is_number
  d_is_within : Def K mg "is_within" s_is_within
  d_is_span : Def K mg "is_span" s_is_span
  d_are_numbers : Def K mg "are_numbers" s_are_numbers
  d_is_priced : Def K mg "is_priced" s_is_priced
  d_span_of : Def K mg "span_of" s_span_of
  d_ranks_of : Def K mg "ranks_of" s_ranks_of
  d_is_ranked : Def K mg "is_ranked" s_is_ranked
  d_need_ranked : Def K mg "need_ranked" s_need_ranked
  d_not_among : Def K mg "not_among" s_not_among
  d_moved_between : Def K mg "moved_between" s_moved_between
  d_news_of : Def K mg "news_of" s_news_of
  d_are_all_numbers : Def K mg "are_all_numbers" s_are_all_numbers
  d_are_news : Def K mg "are_news" s_are_news
  d_told_behind : Def K mg "told_behind" s_told_behind
  d_followed : Def K mg "followed" s_followed
  d_law_cell : Def K mg "_law_cell" s_law_cell
  d_law_drawn : Def K mg "_law_drawn" s_law_drawn
  d_law_tuples : Def K mg "_law_tuples" s_law_tuples
  d_law_news_kind : Def K mg "_law_news_kind" s_law_news_kind
  d_law_ranks : Def K mg "_law_ranks" s_law_ranks
  d_law_news : Def K mg "_law_news" s_law_news
  d_law_list : Def K mg "_law_list" s_law_list
  d_law_next : Def K mg "_law_next" s_law_next
  d_law_led : Def K mg "_law_led" s_law_led
  d_law : Def K mg "law" s_law
  x_NoNear : XTxt K mg "NoNear" ["found"] "NoNear.__init__" i_NoNear
  x_NoTold : XTxt K mg "NoTold" ["found"] "NoTold.__init__" i_NoTold
section
variable {P : Program} {w : World} {K : PySem.W.Frag} {mg : Str → Option Value} {base : Heap}
theorem nd_are_numbers_0 : (["number"] : List Str).Nodup := by decide +kernel
theorem kz00 : (defScope s_is_number).names.lookup ("isinstance" : Str) = some NameKind.globalImplicit := by decide +kernel
theorem kz01 : (defScope s_is_number).names.lookup ("bool" : Str) = some NameKind.globalImplicit := by decide +kernel
theorem kz02 : (defScope s_is_number).names.lookup ("thing" : Str) = some NameKind.local := by decide +kernel
theorem kz03 : (defScope s_is_number).names.lookup ("int" : Str) = some NameKind.globalImplicit := by decide +kernel
theorem kz04 : (defScope s_is_within).names.lookup ("low" : Str) = some NameKind.local := by decide +kernel
theorem kz05 : (defScope s_is_within).names.lookup ("thing" : Str) = some NameKind.local := by decide +kernel
theorem kz06 : (defScope s_is_within).names.lookup ("high" : Str) = some NameKind.local := by decide +kernel
theorem kz07 : (defScope s_is_within).names.lookup ("is_number" : Str) = some NameKind.globalImplicit := by decide +kernel
theorem kz08 : (defScope s_is_span).names.lookup ("is_within" : Str) = some NameKind.globalImplicit := by decide +kernel
theorem kz09 : (defScope s_is_span).names.lookup ("many" : Str) = some NameKind.local := by decide +kernel
theorem kz0a : (defScope s_is_span).names.lookup ("begin" : Str) = some NameKind.local := by decide +kernel
theorem kz0b : (defScope s_is_span).names.lookup ("end" : Str) = some NameKind.local := by decide +kernel
theorem kz0c : (defScope s_are_numbers).names.lookup ("all" : Str) = some NameKind.globalImplicit := by decide +kernel
theorem kz0d : (defScope s_are_numbers).names.lookup ("thing" : Str) = some NameKind.local := by decide +kernel
theorem kz0e : (defScope s_are_numbers).names.lookup ("len" : Str) = some NameKind.globalImplicit := by decide +kernel
theorem kz0f : (defScope s_are_numbers).names.lookup ("many" : Str) = some NameKind.local := by decide +kernel
theorem kz0g : (defScope s_are_numbers).names.lookup ("isinstance" : Str) = some NameKind.globalImplicit := by decide +kernel
theorem kz0h : (defScope s_are_numbers).names.lookup ("tuple" : Str) = some NameKind.globalImplicit := by decide +kernel
theorem kz0i : (defScope s_is_priced).names.lookup ("thing" : Str) = some NameKind.local := by decide +kernel
theorem kz0j : (defScope s_is_priced).names.lookup ("is_span" : Str) = some NameKind.globalImplicit := by decide +kernel
theorem kz0k : (defScope s_is_priced).names.lookup ("MOST_LETTERS" : Str) = some NameKind.globalImplicit := by decide +kernel
theorem kz0l : (defScope s_is_priced).names.lookup ("is_within" : Str) = some NameKind.globalImplicit := by decide +kernel
theorem kz0m : (defScope s_is_priced).names.lookup ("MOST_COST" : Str) = some NameKind.globalImplicit := by decide +kernel
theorem kz0n : (defScope s_is_priced).names.lookup ("are_numbers" : Str) = some NameKind.globalImplicit := by decide +kernel
theorem kz0o : (defScope s_span_of).names.lookup ("priced" : Str) = some NameKind.local := by decide +kernel
theorem Same.put {H H' : Hp} {p : Addr} {o : HO} (s : Same H H') (hn : H p = none) : Same H (upd H' p o) := fun b u e => by
  rw [upd_ne (fun z => by rw [z, hn] at e; cases e)]
  exact s b u e
theorem Same.back {H H' : Hp} {p : Addr} (s : Same H H') (h : H' p = none) : H p = none := by
  cases e : H p with
  | none => rfl
  | some o => rw [s _ _ e] at h; cases h
theorem gNe {H1 : Hp} {x g : Addr} {u : HO} (nx : H1 x = none) (e : H1 g = some u) : g ≠ x := fun z => by rw [z, nx] at e; cases e
noncomputable abbrev P3 := Nat × (Nat × Nat)
noncomputable def v3 (p : P3) : List V := [.int (p.1 : Int), .int (p.2.1 : Int), .int (p.2.2 : Int)]
noncomputable def A3 (H : Hp) (v : V) (p : P3) : Prop := ∃ a, v = .ref a ∧ H a = some (.tup (v3 p))
theorem A3.same {H H' : Hp} {v : V} {p : P3} (h : A3 H v p) (s : Same H H') : A3 H' v p := by
  obtain ⟨a, e, ha⟩ := h
  exact ⟨a, e, s _ _ ha⟩
noncomputable def R3 (H : Hp) (vs : List V) (L : List P3) : Prop := vs.length = L.length ∧ ∀ (i : Nat) (v : V) (p : P3), vs[i]? = some v → L[i]? = some p → A3 H v p
theorem R3.same {H H' : Hp} {vs : List V} {L : List P3} (h : R3 H vs L) (s : Same H H') : R3 H' vs L := ⟨h.1, fun i v p e1 e2 => (h.2 i v p e1 e2).same s⟩
theorem R3.nil {H : Hp} : R3 H [] [] := ⟨rfl, fun i v p e => by simp at e⟩
theorem R3.push {H : Hp} {vs : List V} {L : List P3} {v : V} {p : P3} (h : R3 H vs L) (a : A3 H v p) : R3 H (vs ++ [v]) (L ++ [p]) := by
  refine ⟨by simp [h.1], fun i u r e1 e2 => ?_⟩
  by_cases hi : i < vs.length
  · rw [List.getElem?_append_left hi] at e1
    rw [List.getElem?_append_left (by rw [← h.1]; exact hi)] at e2
    exact h.2 i u r e1 e2
  · rw [List.getElem?_append_right (by omega)] at e1
    rw [List.getElem?_append_right (by rw [← h.1]; omega), ← h.1] at e2
    have hz : i - vs.length = 0 := by
      have := (List.getElem?_eq_some_iff.mp e1).1
      simp at this; omega
    rw [hz] at e1 e2
    cases e1; cases e2
    exact a
theorem R3.cat {H : Hp} {vs us : List V} {L M : List P3} (h : R3 H vs L) (g : R3 H us M) : R3 H (vs ++ us) (L ++ M) := by
  refine ⟨by simp [h.1, g.1], fun i u r e1 e2 => ?_⟩
  by_cases hi : i < vs.length
  · rw [List.getElem?_append_left hi] at e1
    rw [List.getElem?_append_left (by rw [← h.1]; exact hi)] at e2
    exact h.2 i u r e1 e2
  · rw [List.getElem?_append_right (by omega)] at e1
    rw [List.getElem?_append_right (by rw [← h.1]; omega), ← h.1] at e2
    exact g.2 _ u r e1 e2
theorem R3.at {H : Hp} {vs : List V} {L : List P3} (h : R3 H vs L) {i : Nat} {v : V} (e : vs[i]? = some v) : ∃ p, L[i]? = some p ∧ A3 H v p := by
  have hi := (List.getElem?_eq_some_iff.mp e).1
  have hj : i < L.length := by rw [← h.1]; exact hi
  exact ⟨L[i], List.getElem?_eq_getElem hj, h.2 i v _ e (List.getElem?_eq_getElem hj)⟩
theorem R3.of {H : Hp} {vs : List V} {L : List P3} (h : R3 H vs L) {i : Nat} {p : P3} (e : L[i]? = some p) : ∃ v, vs[i]? = some v ∧ A3 H v p := by
  have hi := (List.getElem?_eq_some_iff.mp e).1
  have hj : i < vs.length := by rw [h.1]; exact hi
  exact ⟨vs[i], List.getElem?_eq_getElem hj, h.2 i _ p (List.getElem?_eq_getElem hj) e⟩
noncomputable def kp (s : Nat × Nat) : List Key := [.inl (s.1 : Int), .inl (s.2 : Int)]
theorem kp_inj {s t : Nat × Nat} (h : kp s = kp t) : s = t := by
  unfold kp at h
  simp only [List.cons.injEq, Sum.inl.injEq, and_true] at h
  exact Prod.ext (by omega) (by omega)
noncomputable def ok3 (p : P3) : Prop := p.1 ≤ 48 ∧ p.2.1 < p.2.2 ∧ p.2.2 ≤ 24
noncomputable def i3 (p : P3) : List Int := [(p.1 : Int), (p.2.1 : Int), (p.2.2 : Int)]
structure Good (L : List P3) : Prop where
  ok : ∀ p ∈ L, ok3 p
  nd : (L.map (·.2)).Nodup
  so : ∀ (i : Nat) (p q : P3), L[i]? = some p → L[i + 1]? = some q → HT.lexLt (i3 p) (i3 q) = true
  le : L.length ≤ 1000
noncomputable def spNumber : Sp := fun vs H Q _ => ∃ n : Int, vs = [.int n] ∧ Q (.bl true) H
theorem sc_is_number : FnScope ["thing"] ["thing"] (defScope s_is_number) := ⟨rfl, rfl, rfl, by decide +kernel, rfl, by decide +kernel, by decide +kernel⟩
theorem h_is_number (T : Txt K mg) : Has P w K mg base 1 "is_number" ["thing"] spNumber := by
  refine hasJ T.d_is_number sc_is_number (fun _ _ _ _ _ _ us hl => L2.usN1 (fun _ => rfl) us hl) ?_ fun f cdv A outer s H vs Q E hr h => ?_
  · rintro vs H Q E ⟨n, rfl, _⟩; rfl
  obtain ⟨n, rfl, q⟩ := h
  have hu := hr.units0
  have hu64 := hr.units
  refine ⟨_, (jb_one (js_ret (j_and (j_callB (call_isiK (K := K) rfl) (glF kz00) T.b_isinstance bt_isinstance (ja_cons (j_vL 0 kz02) (ja_cons (j_ty (glF kz03) T.b_int bt_int (by decide +kernel) (by decide +kernel)) ja_nil)) (by decide +kernel) (by decide +kernel)) (j_one (j_not (j_callB (call_isiK (K := K) rfl) (glF kz00) T.b_isinstance bt_isinstance (ja_cons (j_vL 0 kz02) (ja_cons (j_ty (glF kz01) T.b_bool bt_bool (by decide +kernel) (by decide +kernel)) ja_nil)) (by decide +kernel) (by decide +kernel))))))), ?_⟩
  walk_at "sts"
  refine r_isi (.int _) rfl ?_
  walk_at "sts"
  refine r_isi (.int _) rfl ?_
  walk_at "sts"
  exact q
noncomputable def spWithin : Sp := fun vs H Q _ => ∃ n lo hi : Int, vs = [.int n, .int lo, .int hi] ∧ lo ≤ n ∧ n ≤ hi ∧ Q (.bl true) H
theorem sc_is_within : FnScope ["thing", "low", "high"] ["thing", "low", "high"] (defScope s_is_within) := ⟨rfl, rfl, rfl, by decide +kernel, rfl, by decide +kernel, by decide +kernel⟩
theorem h_is_within (T : Txt K mg) : Has P w K mg base 2 "is_within" ["thing", "low", "high"] spWithin := by
  have h_is_number := h_is_number (P := P) (w := w) (base := base) T
  refine hasJ T.d_is_within sc_is_within (fun _ _ _ _ _ _ us hl => L2.usN3 (fun _ _ _ => rfl) us hl) ?_ fun f cdv A outer s H vs Q E hr h => ?_
  · rintro vs H Q E ⟨n, lo, hi, rfl, _⟩; rfl
  obtain ⟨n, lo, hi, rfl, h1, h2, q⟩ := h
  have hu := hr.units0
  have hu64 := hr.units
  refine ⟨_, (jb_one (js_ret (j_and (j_call h_is_number (hr.mono (by decide)) (glF kz07) (ja_cons (j_vL 0 kz05) ja_nil) (by decide +kernel)) (j_one (j_chain op_le op_le (j_vL 1 kz04) (j_vL 0 kz05) (j_vL 2 kz06)))))), ?_⟩
  walk_at "sts"
  refine ⟨n, rfl, ?_⟩
  walk_at "sts"
  rw [decide_eq_true h1]
  walk_at "sts"
  rw [decide_eq_true h2]
  exact q
noncomputable def spSpan : Sp := fun vs H Q _ => ∃ b e m : Int, vs = [.int b, .int e, .int m] ∧ 0 ≤ b ∧ b ≤ e ∧ e ≤ m ∧ Q (.bl true) H
theorem sc_is_span : FnScope ["begin", "end", "many"] ["begin", "end", "many"] (defScope s_is_span) := ⟨rfl, rfl, rfl, by decide +kernel, rfl, by decide +kernel, by decide +kernel⟩
theorem h_is_span (T : Txt K mg) : Has P w K mg base 3 "is_span" ["begin", "end", "many"] spSpan := by
  have h_is_within := h_is_within (P := P) (w := w) (base := base) T
  refine hasJ T.d_is_span sc_is_span (fun _ _ _ _ _ _ us hl => L2.usN3 (fun _ _ _ => rfl) us hl) ?_ fun f cdv A outer s H vs Q E hr h => ?_
  · rintro vs H Q E ⟨b, e, m, rfl, _⟩; rfl
  obtain ⟨b, e, m, rfl, h1, h2, h3, q⟩ := h
  have hu := hr.units0
  have hu64 := hr.units
  refine ⟨_, (jb_one (js_ret (j_and (j_call h_is_within (hr.mono (by decide)) (glF kz08) (ja_cons (j_vL 0 kz0a) (ja_cons j_int (ja_cons (j_vL 2 kz09) ja_nil))) (by decide +kernel)) (j_one (j_call h_is_within (hr.mono (by decide)) (glF kz08) (ja_cons (j_vL 1 kz0b) (ja_cons (j_vL 0 kz0a) (ja_cons (j_vL 2 kz09) ja_nil))) (by decide +kernel)))))), ?_⟩
  walk_at "sts"
  refine ⟨b, 0, m, rfl, h1, by omega, ?_⟩
  walk_at "sts"
  refine ⟨e, b, m, rfl, h2, h3, ?_⟩
  walk_at "sts"
  exact q
theorem trues (n : Nat) : (List.range n).map (fun _ => V.bl true) = (List.replicate n true).map V.bl := by
  induction n with
  | zero => rfl
  | succ n ih => rw [List.range_succ, List.map_append, ih, List.replicate_succ', List.map_append]; rfl
theorem trues_all (n : Nat) : (List.replicate n true).all id = true := by simp
noncomputable def spNumbers (K : PySem.W.Frag) : Sp := fun vs H Q _ => ∃ (a : Addr) (ns : List Int), vs = [.ref a, .int ns.length] ∧ H a = some (.tup (ns.map V.int)) ∧ ns.length ≤ 10 ∧ ∀ H', Same H H' → Q (.bl true) H'
theorem sc_are_numbers : FnScope ["thing", "many"] ["thing", "many"] (defScope s_are_numbers) := ⟨rfl, rfl, rfl, by decide +kernel, rfl, by decide +kernel, by decide +kernel⟩
theorem h_are_numbers (T : Txt K mg) : Has P w K mg base 2 "are_numbers" ["thing", "many"] (spNumbers K) := by
  have h_is_number := h_is_number (P := P) (w := w) (base := base) T
  refine hasJ T.d_are_numbers sc_are_numbers (fun _ _ _ _ _ _ us hl => L2.usN2 (fun _ _ => rfl) us hl) ?_ fun f cdv A outer s H vs Q E hr h => ?_
  · rintro vs H Q E ⟨a, ns, rfl, _⟩; rfl
  obtain ⟨a, ns, rfl, ha, hl, q⟩ := h
  have hu := hr.units0
  have hu64 := hr.units
  refine ⟨_, (jb_one (js_ret (j_and (j_callB (call_isiK (K := K) rfl) (glF kz0g) T.b_isinstance bt_isinstance (ja_cons (j_vL 0 kz0d) (ja_cons (j_ty (glF kz0h) T.b_tuple bt_tuple (by decide +kernel) (by decide +kernel)) ja_nil)) (by decide +kernel) (by decide +kernel)) (j_and (j_cmp (op_eqE (K := K) rfl hu64) (j_callB (call_lenK (K := K) rfl) (glF kz0e) T.b_len bt_len (ja_cons (j_vL 0 kz0d) ja_nil) (by decide +kernel) (by decide +kernel)) (j_vL 1 kz0f) (by first | exact nomark _ | with_unfolding_all rfl)) (j_one (j_callB (call_all rfl) (glF kz0c) T.b_all bt_all (ja_cons (j_comp (sub := [none]) (subOk_of (N := ["thing", "many"]) (sc := defScope s_are_numbers) (N' := ["number"]) (by decide +kernel)) rfl rfl rfl (ji_seq (K := K) rfl (j_vL 0 kz0d)) (fun C s₀ H₀ ex => (jg_B 0 (by decide +kernel) nd_are_numbers_0)) (fun C s₀ H₀ ex => jif_nil) (fun C s₀ H₀ ex => (j_call h_is_number (hr.mono (by decide)) (glB (by decide +kernel)) (ja_cons (j_vBL 0 (by decide +kernel)) ja_nil) (by decide +kernel)))) ja_nil) (by decide +kernel) (by decide +kernel))))))), ?_⟩
  walk_at "sts"
  have hs : 1000 ≤ sizeLine := by decide
  refine r_isi (.tup ha) rfl ?_
  walk_at "sts"
  refine r_lenT (SqT.of ha) ?_
  walk_at "sts"
  rw [List.length_map, decide_eq_true rfl]
  walk_at "sts"
  refine .inr (.inl ⟨a, rfl, ⟨_, SqT.of ha⟩, ?_⟩)
  refine comp_tupG (xs := ns.map V.int) (fun i ys G => G = H ∧ ys = (List.range i).map fun _ => V.bl true) (by rw [List.length_map]; omega) ⟨rfl, rfl⟩ ?_ ?_ ?_ ?_
  · rintro i ys G ⟨_, rfl⟩
    simp
  · rintro i ys G ⟨rfl, _⟩
    exact SqT.of ha
  · rintro i ys G x hx ⟨rfl, rfl⟩
    obtain ⟨n, _, rfl⟩ := List.mem_map.mp (List.mem_of_getElem? hx)
    walk_at "sts"
    refine ⟨KeepSt.set rfl, ?_⟩
    walk_at "sts"
    refine ⟨n, rfl, ?_⟩
    walk_at "sts"
    exact ⟨rfl, mapNext rfl⟩
  · rintro ys G D G2 ⟨rfl, rfl⟩ nD s2 hD
    rw [trues] at hD
    try walk_at "sts"
    refine ⟨D, _, rfl, hD, ?_⟩
    walk_at "sts"
    rw [trues_all]
    exact q _ s2
noncomputable def spPriced (K : PySem.W.Frag) : Sp := fun vs H Q _ => ∃ (a : Addr) (p : P3), vs = [.ref a] ∧ H a = some (.tup (v3 p)) ∧ ok3 p ∧ ∀ H', Same H H' → Q (.bl true) H'
theorem sc_is_priced : FnScope ["thing"] ["thing"] (defScope s_is_priced) := ⟨rfl, rfl, rfl, by decide +kernel, rfl, by decide +kernel, by decide +kernel⟩
theorem h_is_priced (T : Txt K mg) : Has P w K mg base 4 "is_priced" ["thing"] (spPriced K) := by
  have h_are_numbers := h_are_numbers (P := P) (w := w) (base := base) T
  have h_is_within := h_is_within (P := P) (w := w) (base := base) T
  have h_is_span := h_is_span (P := P) (w := w) (base := base) T
  refine hasJ T.d_is_priced sc_is_priced (fun _ _ _ _ _ _ us hl => L2.usN1 (fun _ => rfl) us hl) ?_ fun f cdv A outer s H vs Q E hr h => ?_
  · rintro vs H Q E ⟨a, p, rfl, _⟩; rfl
  obtain ⟨a, p, rfl, ha, hp, q⟩ := h
  have hu := hr.units0
  have hu64 := hr.units
  refine ⟨_, (jb_cons (js_if (jw_pt (jw_or (jt_not (jt_val (j_call h_are_numbers (hr.mono (by decide)) (glF kz0n) (ja_cons (j_vL 0 kz0i) (ja_cons j_int ja_nil)) (by decide +kernel)))) (jw_or1 (jt_not (jt_val (j_call h_is_within (hr.mono (by decide)) (glF kz0l) (ja_cons (j_ix (K := K) rfl (j_vL 0 kz0i) j_int) (ja_cons j_int (ja_cons (j_gint (glF kz0m) T.c_MOST_COST (by decide +kernel)) ja_nil))) (by decide +kernel))))))) (jb_one (js_ret j_bl)) jb_nil) (jb_one (js_ret (j_and (j_call h_is_span (hr.mono (by decide)) (glF kz0j) (ja_cons (j_ix (K := K) rfl (j_vL 0 kz0i) j_int) (ja_cons (j_ix (K := K) rfl (j_vL 0 kz0i) j_int) (ja_cons (j_gint (glF kz0k) T.c_MOST_LETTERS (by decide +kernel)) ja_nil))) (by decide +kernel)) (j_one (j_cmp (op_ltA (K := K) rfl hu64) (j_ix (K := K) rfl (j_vL 0 kz0i) j_int) (j_ix (K := K) rfl (j_vL 0 kz0i) j_int) (by first | exact nomark _ | with_unfolding_all rfl))))))), ?_⟩
  walk_at "sts"
  obtain ⟨h1, h2, h3⟩ := hp
  refine ⟨a, i3 p, rfl, ha, by simp [i3], fun H1 S1 => ?_⟩
  walk_at "sts"
  have ha1 : H1 a = some (.tup [.int (p.1 : Int), .int (p.2.1 : Int), .int (p.2.2 : Int)]) := S1 _ _ ha
  walk_at "sts"
  refine ⟨p.1, 0, 48, rfl, by omega, by omega, ?_⟩
  walk_at "sts"
  refine ⟨p.2.1, p.2.2, 24, rfl, by omega, by omega, by omega, ?_⟩
  walk_at "sts"
  rw [decide_eq_true (show (p.2.1 : Int) < (p.2.2 : Int) by omega)]
  exact q _ S1
noncomputable def spSpanOf : Sp := fun vs H Q _ => ∃ (a : Addr) (p : P3), vs = [.ref a] ∧ H a = some (.tup (v3 p)) ∧ ∀ b H', H b = none → Same H H' → H' b = some (.tup ((kp p.2).map kV)) → Q (.ref b) H'
theorem sc_span_of : FnScope ["priced"] ["priced"] (defScope s_span_of) := ⟨rfl, rfl, rfl, by decide +kernel, rfl, by decide +kernel, by decide +kernel⟩
theorem h_span_of (T : Txt K mg) : Has P w K mg base 1 "span_of" ["priced"] spSpanOf := by
  refine hasJ T.d_span_of sc_span_of (fun _ _ _ _ _ _ us hl => L2.usN1 (fun _ => rfl) us hl) ?_ fun f cdv A outer s H vs Q E hr h => ?_
  · rintro vs H Q E ⟨a, p, rfl, _⟩; rfl
  obtain ⟨a, p, rfl, ha, q⟩ := h
  have hu := hr.units0
  have hu64 := hr.units
  refine ⟨_, (jb_one (js_ret (j_tup (ja_cons (j_ix (K := K) rfl (j_vL 0 kz0o) j_int) (ja_cons (j_ix (K := K) rfl (j_vL 0 kz0o) j_int) ja_nil))))), ?_⟩
  walk_at "sts"
  replace ha : H a = some (.tup [.int (p.1 : Int), .int (p.2.1 : Int), .int (p.2.2 : Int)]) := ha
  walk_at "sts"
  refine r_newO rfl fun b H1 nb S1 f1 => ?_
  walk_at "sts"
  exact q b H1 nb S1 f1
end

section
variable {P : Program} {w : World} {K : PySem.W.Frag} {mg : Str → Option Value} {base : Heap}
theorem nd_is_ranked_0 : (["place", "thing"] : List Str).Nodup := by decide +kernel
theorem nd_is_ranked_1 : (["priced"] : List Str).Nodup := by decide +kernel
theorem nd_not_among_2 : (["priced", "ranks"] : List Str).Nodup := by decide +kernel
theorem kz0p : (defScope s_ranks_of).names.lookup ("ranks" : Str) = some NameKind.local := by decide +kernel
theorem kz0q : (defScope s_ranks_of).names.lookup ("enumerate" : Str) = some NameKind.globalImplicit := by decide +kernel
theorem kz0r : (defScope s_ranks_of).names.lookup ("ranked" : Str) = some NameKind.local := by decide +kernel
theorem kz0s : (defScope s_ranks_of).names.lookup ("priced" : Str) = some NameKind.local := by decide +kernel
theorem kz0t : (defScope s_ranks_of).names.lookup ("rank" : Str) = some NameKind.local := by decide +kernel
theorem kz0u : (defScope s_ranks_of).names.lookup ("span_of" : Str) = some NameKind.globalImplicit := by decide +kernel
theorem kz0v : (defScope s_is_ranked).names.lookup ("all" : Str) = some NameKind.globalImplicit := by decide +kernel
theorem kz0w : (defScope s_is_ranked).names.lookup ("range" : Str) = some NameKind.globalImplicit := by decide +kernel
theorem kz0x : (defScope s_is_ranked).names.lookup ("len" : Str) = some NameKind.globalImplicit := by decide +kernel
theorem kz0y : (defScope s_is_ranked).names.lookup ("thing" : Str) = some NameKind.cell := by decide +kernel
theorem kz0z : (defScope s_is_ranked).names.lookup ("ranks_of" : Str) = some NameKind.globalImplicit := by decide +kernel
theorem kz10 : (defScope s_is_ranked).names.lookup ("isinstance" : Str) = some NameKind.globalImplicit := by decide +kernel
theorem kz11 : (defScope s_is_ranked).names.lookup ("list" : Str) = some NameKind.globalImplicit := by decide +kernel
theorem kz12 : (defScope s_need_ranked).names.lookup ("is_ranked" : Str) = some NameKind.globalImplicit := by decide +kernel
theorem kz13 : (defScope s_need_ranked).names.lookup ("thing" : Str) = some NameKind.local := by decide +kernel
theorem kz14 : (defScope s_not_among).names.lookup ("ranked" : Str) = some NameKind.local := by decide +kernel
theorem kz15 : (defScope s_not_among).names.lookup ("ranks" : Str) = some NameKind.cell := by decide +kernel
theorem kz16 : (defScope s_not_among).names.lookup ("ranks_of" : Str) = some NameKind.globalImplicit := by decide +kernel
theorem kz17 : (defScope s_not_among).names.lookup ("other" : Str) = some NameKind.local := by decide +kernel
noncomputable def spn (L : List P3) (i : Nat) : Nat × Nat := (L.getD i (0, 0, 0)).2
theorem spn_at {L : List P3} {i : Nat} {p : P3} (h : L[i]? = some p) : spn L i = p.2 := by
  unfold spn; rw [List.getD_eq_getElem?_getD, h]; rfl
theorem spn_inj {L : List P3} (hn : (L.map (·.2)).Nodup) {i j : Nat} (hi : i < L.length) (hj : j < L.length) (h : spn L i = spn L j) : i = j := by
  rw [spn_at (List.getElem?_eq_getElem hi), spn_at (List.getElem?_eq_getElem hj)] at h
  have h1 : (L.map (·.2))[i]'(by simpa using hi) = (L.map (·.2))[j]'(by simpa using hj) := by simpa using h
  exact (List.getElem_inj hn).mp h1
noncomputable def dZ (Z : List ((Nat × Nat) × V)) : List (List Key × V) := Z.map fun x => (kp x.1, x.2)
theorem dZ_val (Z : List ((Nat × Nat) × V)) (s : Nat × Nat) : valV (dZ Z) (kp s) = Z.lookup s := by
  induction Z with
  | nil => rfl
  | cons x Z ih =>
    show valV ((kp x.1, x.2) :: dZ Z) (kp s) = _
    by_cases h : x.1 = s
    · subst h
      rw [valV_pos rfl, List.lookup_cons, beq_self_eq_true]
    · rw [valV_neg (fun z => h (kp_inj z)), ih, List.lookup_cons]
      have : (s == x.1) = false := by simpa using fun z : s = x.1 => h z.symm
      rw [this]
theorem dZ_len (Z : List ((Nat × Nat) × V)) : (dZ Z).length = Z.length := by simp [dZ]
theorem dZ_new {Z : List ((Nat × Nat) × V)} {s : Nat × Nat} {v : V} (h : Z.lookup s = none) : putK (dZ Z) (kp s) v = dZ (Z ++ [(s, v)]) := by
  rw [putK_new v (by rw [dZ_val]; exact h)]
  unfold dZ; rw [List.map_append]; rfl
noncomputable def rkZ (L : List P3) (f : Nat → V) (n : Nat) : List ((Nat × Nat) × V) := (List.range n).map fun i => (spn L i, f i)
theorem rkZ_len (L : List P3) (f : Nat → V) (n : Nat) : (rkZ L f n).length = n := by simp [rkZ]
theorem rkZ_succ (L : List P3) (f : Nat → V) (n : Nat) : rkZ L f (n + 1) = rkZ L f n ++ [(spn L n, f n)] := by unfold rkZ; rw [List.range_succ, List.map_append]; rfl
theorem look_snoc {Z : List ((Nat × Nat) × V)} {s t : Nat × Nat} {v : V} : (Z ++ [(t, v)]).lookup s = match Z.lookup s with
    | some u => some u
    | none => if s = t then some v else none := by
  induction Z with
  | nil =>
    show List.lookup s [(t, v)] = _
    rw [List.lookup_cons]
    by_cases h : s = t
    · rw [if_pos h]; simp [h]
    · rw [if_neg h]
      have : (s == t) = false := by simpa using h
      rw [this]; rfl
  | cons x Z ih =>
    rw [List.cons_append, List.lookup_cons, List.lookup_cons]
    by_cases h : s = x.1
    · simp [h]
    · have : (s == x.1) = false := by simpa using h
      rw [this]; exact ih
theorem rkZ_no {L : List P3} {f : Nat → V} {s : Nat × Nat} : ∀ (n : Nat), (∀ i, i < n → spn L i ≠ s) → (rkZ L f n).lookup s = none
  | 0, _ => rfl
  | n + 1, h => by
    rw [rkZ_succ, look_snoc, rkZ_no n fun i hi => h i (by omega)]
    exact if_neg fun z => h n (by omega) z.symm
theorem rkZ_at {L : List P3} {f : Nat → V} (hn : (L.map (·.2)).Nodup) {i : Nat} : ∀ (n : Nat), i < n → n ≤ L.length → (rkZ L f n).lookup (spn L i) = some (f i)
  | 0, h, _ => by omega
  | n + 1, h, hl => by
    rw [rkZ_succ, look_snoc]
    by_cases hi : i < n
    · rw [rkZ_at hn n hi (by omega)]
    · obtain rfl : i = n := by omega
      rw [rkZ_no i fun j hj z => by have := spn_inj hn (by omega) (by omega) z; omega]
      exact if_pos rfl
noncomputable def fnd (L : List P3) (s : Nat × Nat) : Option Nat := L.findIdx? fun p => decide (p.2 = s)
theorem fnd_none {L : List P3} {s : Nat × Nat} (h : fnd L s = none) : ∀ p ∈ L, p.2 ≠ s := by
  unfold fnd at h
  rw [List.findIdx?_eq_none_iff] at h
  intro p hp z
  have := h p hp
  simp [z] at this
theorem fnd_some {L : List P3} {s : Nat × Nat} {i : Nat} (h : fnd L s = some i) : ∃ p, L[i]? = some p ∧ p.2 = s := by
  unfold fnd at h
  obtain ⟨hi, h1, _⟩ := List.findIdx?_eq_some_iff_getElem.mp h
  exact ⟨L[i], List.getElem?_eq_getElem hi, by simpa using h1⟩
theorem rkZ_look {L : List P3} {f : Nat → V} (hn : (L.map (·.2)).Nodup) (s : Nat × Nat) : (rkZ L f L.length).lookup s = (fnd L s).map f := by
  cases e : fnd L s with
  | none =>
    refine rkZ_no _ fun i hi z => ?_
    exact fnd_none e L[i] (List.getElem_mem hi) ((spn_at (List.getElem?_eq_getElem hi)).symm.trans z)
  | some i =>
    obtain ⟨p, hp, rfl⟩ := fnd_some e
    have hi := (List.getElem?_eq_some_iff.mp hp).1
    rw [← spn_at hp]
    exact rkZ_at hn _ hi (Nat.le_refl _)
noncomputable def rkI (i : Nat) : V := .int (i : Int)
noncomputable def spRanks (K : PySem.W.Frag) : Sp := fun vs H Q _ => ∃ (a : Addr) (us : List V) (L : List P3), vs = [.ref a] ∧ H a = some (.lst us) ∧ R3 H us L ∧ (L.map (·.2)).Nodup ∧ L.length ≤ 1000 ∧ ∀ d H', H d = none → Same H H' → H' d = some (.dT (dZ (rkZ L rkI L.length))) → Q (.ref d) H'
theorem sc_ranks_of : FnScope ["ranked", "ranks", "rank", "priced"] ["ranked"] (defScope s_ranks_of) := ⟨rfl, rfl, rfl, by decide +kernel, rfl, by decide +kernel, by decide +kernel⟩
theorem h_ranks_of (T : Txt K mg) : Has P w K mg base 2 "ranks_of" ["ranked"] (spRanks K) := by
  have h_span_of := h_span_of (P := P) (w := w) (base := base) T
  refine hasJ T.d_ranks_of sc_ranks_of (fun _ _ _ _ _ _ us hl => L2.usN1 (fun _ => rfl) us hl) ?_ fun f cdv A outer s H vs Q E hr h => ?_
  · rintro vs H Q E ⟨a, us, L, rfl, _⟩; rfl
  obtain ⟨a, us, L, rfl, ha, hR, hn, hl, q⟩ := h
  have hu := hr.units0
  have hu64 := hr.units
  refine ⟨_, (jb_cons (js_set (i := 1) sc_ranks_of.nd rfl (Or.inl kz0p) j_dnewT rfl) (jb_cons (js_for PassesOwn.never rfl (ji_enum (K := K) rfl rfl (glF kz0q) T.b_enumerate (ja_cons (j_vL 0 kz0r) ja_nil)) (jg_tup (K := K) rfl rfl (jgs_cons (jg_name (i := 2) sc_ranks_of.nd rfl (Or.inl kz0t) rfl) (jgs_cons (jg_name (i := 3) sc_ranks_of.nd rfl (Or.inl kz0s) rfl) jgs_nil))) (jb_one (js_asgS (ts := rSetA) (j_vL 2 kz0t) (jg_sub (j_vL 1 kz0p) (j_call h_span_of (hr.mono (by decide)) (glF kz0u) (ja_cons (j_vL 3 kz0s) ja_nil) (by decide +kernel)) (set_any hu64))))) (jb_one (js_ret (j_vL 1 kz0p))))), ?_⟩
  walk_at "sts"
  have hs : 20000 ≤ sizeLine := by decide
  intro d nd0
  have S1 := (Same.refl H).upd nd0 (o := .dT [])
  have hd := upd_same (H := H) (a := d) (o := .dT [])
  generalize upd H d (.dT []) = H1 at S1 hd ⊢
  walk_at "sts"
  refine .inr ⟨a, us, rfl, SqL.of (S1 _ _ ha), ?_⟩
  refine for_enumL (xs := us) (fun k σ G => Same H G ∧ G d = some (.dT (dZ (rkZ L rkI k))) ∧ ∃ x2 x3, σ = [some (.ref a), some (.ref d), x2, x3]) ⟨S1, hd, _, _, rfl⟩ (fun i σ G _ h => SqL.of (h.1 _ _ ha)) ?_ ?_
  · rintro k σ G T' v hv ⟨s, hdG, x2, x3, rfl⟩ nT
    obtain ⟨p, hp, b, rfl, hb⟩ := (hR.same s).at hv
    have hk := (List.getElem?_eq_some_iff.mp hp).1
    have s2 := (Same.refl G).upd nT (o := .tup [.int (k : Int), .ref b])
    have f2 := upd_same (H := G) (a := T') (o := .tup [.int (k : Int), .ref b])
    generalize upd G T' (.tup [.int (k : Int), .ref b]) = G2 at s2 f2 ⊢
    refine r_gtup (SqT.of f2) rfl ?_
    walk_at "sts"
    refine ⟨b, p, rfl, s2 _ _ hb, fun t G3 nt s3 ht => ?_⟩
    walk_at "sts"
    refine r_setT (s3 _ _ (s2 _ _ hdG)) ht (by rw [dZ_len, rkZ_len]; omega) ?_
    rw [dZ_new (by rw [← spn_at hp]; exact rkZ_no k fun i hi z => by have := spn_inj hn (by omega) hk z; omega), ← spn_at hp]
    refine ⟨Same.put (s.trans (s2.trans s3)) nd0, ?_, _, _, rfl⟩
    rw [rkZ_succ]; exact upd_same
  · rintro σ G ⟨s, hdG, x2, x3, rfl⟩
    walk_at "sts"
    rw [hR.1] at hdG
    exact q d G nd0 s hdG
noncomputable def spRanked (K : PySem.W.Frag) : Sp := fun vs H Q _ => ∃ (a : Addr) (us : List V) (L : List P3), vs = [.ref a] ∧ H a = some (.lst us) ∧ R3 H us L ∧ Good L ∧ ∀ H', Same H H' → Q (.bl true) H'
theorem sc_is_ranked : FnScope ["thing"] ["thing"] (defScope s_is_ranked) := ⟨rfl, rfl, rfl, by decide +kernel, rfl, by decide +kernel, by decide +kernel⟩
theorem h_is_ranked (T : Txt K mg) : Has P w K mg base 5 "is_ranked" ["thing"] (spRanked K) := by
  have h_is_priced := h_is_priced (P := P) (w := w) (base := base) T
  have h_ranks_of := h_ranks_of (P := P) (w := w) (base := base) T
  refine hasJ T.d_is_ranked sc_is_ranked (fun _ _ _ _ _ _ us hl => L2.usN1 (fun _ => rfl) us hl) ?_ fun f cdv A outer s H vs Q E hr h => ?_
  · rintro vs H Q E ⟨a, us, L, rfl, _⟩; rfl
  obtain ⟨a, us, L, rfl, ha, hR, hG, q⟩ := h
  have hu := hr.units0
  have hu64 := hr.units
  refine ⟨_, (jb_cons (js_if (jw_pt (jw_or (jt_not (jt_val (j_callB (call_isiK (K := K) rfl) (glF kz10) T.b_isinstance bt_isinstance (ja_cons (j_vC 0 kz0y) (ja_cons (j_ty (glF kz11) T.b_list bt_list (by decide +kernel) (by decide +kernel)) ja_nil)) (by decide +kernel) (by decide +kernel)))) (jw_or1 (jt_not (jt_val (j_callB (call_all rfl) (glF kz0v) T.b_all bt_all (ja_cons (j_comp (sub := [none]) (subOk_of (N := ["thing"]) (sc := defScope s_is_ranked) (N' := ["priced"]) (by decide +kernel)) rfl rfl rfl (ji_seq (K := K) rfl (j_vC 0 kz0y)) (fun C s₀ H₀ ex => (jg_B 0 (by decide +kernel) nd_is_ranked_1)) (fun C s₀ H₀ ex => jif_nil) (fun C s₀ H₀ ex => (j_call h_is_priced (hr.mono (by decide)) (glB (by decide +kernel)) (ja_cons (j_vBL 0 (by decide +kernel)) ja_nil) (by decide +kernel)))) ja_nil) (by decide +kernel) (by decide +kernel))))))) (jb_one (js_ret j_bl)) jb_nil) (jb_cons (js_if (jt_cmp (op_ltA (K := K) rfl hu64) (j_callB call_lenT (glF kz0x) T.b_len bt_len (ja_cons (j_call h_ranks_of (hr.mono (by decide)) (glF kz0z) (ja_cons (j_vC 0 kz0y) ja_nil) (by decide +kernel)) ja_nil) (by decide +kernel) (by decide +kernel)) (j_callB (call_lenK (K := K) rfl) (glF kz0x) T.b_len bt_len (ja_cons (j_vC 0 kz0y) ja_nil) (by decide +kernel) (by decide +kernel)) (by first | exact nomark _ | with_unfolding_all rfl)) (jb_one (js_ret j_bl)) jb_nil) (jb_one (js_ret (j_callB (call_all rfl) (glF kz0v) T.b_all bt_all (ja_cons (j_comp (sub := [none, some 0]) (subOk_of (N := ["thing"]) (sc := defScope s_is_ranked) (N' := ["place", "thing"]) (by decide +kernel)) rfl rfl rfl (ji_range1 (glF kz0w) T.b_range (ja_cons (j_op op_sub (j_callB (call_lenK (K := K) rfl) (glF kz0x) T.b_len bt_len (ja_cons (j_vC 0 kz0y) ja_nil) (by decide +kernel) (by decide +kernel)) j_int) ja_nil)) (fun C s₀ H₀ ex => (jg_B 0 (by decide +kernel) nd_is_ranked_0)) (fun C s₀ H₀ ex => jif_nil) (fun C s₀ H₀ ex => (j_cmp (op_ltA (K := K) rfl hu64) (j_ix (K := K) rfl (j_vBF 1 (by decide +kernel)) (j_vBL 0 (by decide +kernel))) (j_ix (K := K) rfl (j_vBF 1 (by decide +kernel)) (j_op op_addA (j_vBL 0 (by decide +kernel)) j_int)) (by first | exact nomark _ | with_unfolding_all rfl)))) ja_nil) (by decide +kernel) (by decide +kernel)))))), ?_⟩
  walk_at "sts"
  have hs : 20000 ≤ sizeLine := by decide
  have hl := hG.le
  have hul := hR.1
  refine r_isi (.lst ha) rfl ?_
  walk_at "sts"
  refine .inl ⟨a, rfl, ⟨_, SqL.of ha⟩, ?_⟩
  refine comp_listG (xs := us) (fun i ys G => Same H G ∧ ys = (List.range i).map fun _ => V.bl true) (by omega) ⟨Same.refl H, rfl⟩ ?_ ?_ ?_ ?_
  · rintro i ys G ⟨_, rfl⟩
    simp
  · rintro i ys G ⟨s, _⟩
    exact SqL.of (s _ _ ha)
  · rintro i ys G x hx ⟨s, rfl⟩
    obtain ⟨p, hp, b, rfl, hb⟩ := (hR.same s).at hx
    walk_at "sts"
    refine ⟨KeepSt.set rfl, ?_⟩
    walk_at "sts"
    refine ⟨b, p, rfl, hb, hG.ok p (List.mem_of_getElem? hp), fun G2 s2 => ?_⟩
    walk_at "sts"
    exact ⟨s.trans s2, mapNext rfl⟩
  rintro ys G D H1 ⟨s0, rfl⟩ nD s1 hD
  rw [trues] at hD
  have S1 := s0.trans s1
  try walk_at "sts"
  refine ⟨D, _, rfl, hD, ?_⟩
  walk_at "sts"
  rw [trues_all]
  walk_at "sts"
  refine ⟨a, us, L, rfl, S1 _ _ ha, hR.same S1, hG.nd, hl, fun d H2 nd S2 hd => ?_⟩
  walk_at "sts"
  refine r_lenDT hd ?_
  walk_at "sts"
  have S2' := S1.trans S2
  refine r_lenL (SqL.of (S2' _ _ ha)) ?_
  walk_at "sts"
  rw [dZ_len, rkZ_len, hul, decide_eq_false (by omega)]
  walk_at "sts"
  refine r_lenL (SqL.of (S2' _ _ ha)) ?_
  walk_at "sts"
  rw [hul]
  refine ⟨_, rfl, by omega, by omega, ?_⟩
  refine comp_rngG (n := ((L.length : Int) - 1).toNat) (fun i ys G => Same H G ∧ ys = (List.range i).map fun _ => V.bl true) (by omega) ⟨S2', rfl⟩ ?_ ?_ ?_
  · rintro i ys G ⟨_, rfl⟩
    simp
  · rintro i ys G hi ⟨s, rfl⟩
    have h1 : i < L.length := by omega
    have h2 : i + 1 < L.length := by omega
    obtain ⟨v, hv, b, rfl, hb⟩ := (hR.same s).of (List.getElem?_eq_getElem h1)
    obtain ⟨v, hv2, b2, rfl, hb2⟩ := (hR.same s).of (List.getElem?_eq_getElem h2)
    rw [Int.zero_add]
    walk_at "sts"
    refine ⟨KeepSt.set rfl, ?_⟩
    walk_at "sts"
    refine r_ixL (SqL.of (s _ _ ha)) (atI_nat hv) ?_
    walk_at "sts"
    refine r_ixL (SqL.of (s _ _ ha)) (show atI us ((i : Int) + 1) = some (.ref b2) from by rw [show (i : Int) + 1 = ((i + 1 : Nat) : Int) by omega]; exact atI_nat hv2) ?_
    walk_at "sts"
    refine r_ltTT (ns := i3 L[i]) (ms := i3 L[i + 1]) hb hb2 ?_
    walk_at "sts"
    rw [hG.so i _ _ (List.getElem?_eq_getElem h1) (List.getElem?_eq_getElem h2)]
    exact ⟨s, mapNext rfl⟩
  rintro ys G D2 H3 ⟨s3, rfl⟩ nD2 s4 hD2
  rw [trues] at hD2
  try walk_at "sts"
  refine ⟨D2, _, rfl, hD2, ?_⟩
  walk_at "sts"
  rw [trues_all]
  exact q _ (s3.trans s4)
noncomputable def spNeedR (K : PySem.W.Frag) : Sp := fun vs H Q _ => ∃ (a : Addr) (us : List V) (L : List P3), vs = [.ref a] ∧ H a = some (.lst us) ∧ R3 H us L ∧ Good L ∧ ∀ H', Same H H' → Q .non H'
theorem sc_need_ranked : FnScope ["thing"] ["thing"] (defScope s_need_ranked) := ⟨rfl, rfl, rfl, by decide +kernel, rfl, by decide +kernel, by decide +kernel⟩
theorem h_need_ranked (T : Txt K mg) : Has P w K mg base 6 "need_ranked" ["thing"] (spNeedR K) := by
  have h_is_ranked := h_is_ranked (P := P) (w := w) (base := base) T
  refine hasJ T.d_need_ranked sc_need_ranked (fun _ _ _ _ _ _ us hl => L2.usN1 (fun _ => rfl) us hl) ?_ fun f cdv A outer s H vs Q E hr h => ?_
  · rintro vs H Q E ⟨a, us, L, rfl, _⟩; rfl
  obtain ⟨a, us, L, rfl, ha, hR, hG, q⟩ := h
  have hu := hr.units0
  have hu64 := hr.units
  refine ⟨_, (jb_one (js_if (jt_not (jt_val (j_call h_is_ranked (hr.mono (by decide)) (glF kz12) (ja_cons (j_vL 0 kz13) ja_nil) (by decide +kernel)))) (jb_one js_never) jb_nil)), ?_⟩
  walk_at "sts"
  refine ⟨a, us, L, rfl, ha, hR, hG, fun H1 S1 => ?_⟩
  walk_at "sts"
  exact q _ S1
noncomputable def nam (R O : List P3) : List P3 := R.filter fun p => (fnd O p.2).isNone
theorem nam_take (R O : List P3) (k : Nat) {p : P3} (h : R[k]? = some p) : nam (R.take (k + 1)) O = nam (R.take k) O ++ (if (fnd O p.2).isNone = true then [p] else []) := by
  unfold nam
  rw [List.take_add_one, h, List.filter_append]
  congr 1
  show List.filter _ [p] = _
  rw [List.filter_cons]
  rfl
noncomputable def spAmong (K : PySem.W.Frag) : Sp := fun vs H Q _ => ∃ (a b : Addr) (us ws : List V) (R O : List P3), vs = [.ref a, .ref b] ∧ H a = some (.lst us) ∧ R3 H us R ∧ R.length ≤ 1000 ∧ H b = some (.lst ws) ∧ R3 H ws O ∧ (O.map (·.2)).Nodup ∧ O.length ≤ 1000 ∧ ∀ q ys H', H q = none → Same H H' → H' q = some (.lst ys) → R3 H' ys (nam R O) → Q (.ref q) H'
theorem sc_not_among : FnScope ["ranked", "other", "ranks"] ["ranked", "other"] (defScope s_not_among) := ⟨rfl, rfl, rfl, by decide +kernel, rfl, by decide +kernel, by decide +kernel⟩
theorem h_not_among (T : Txt K mg) : Has P w K mg base 3 "not_among" ["ranked", "other"] (spAmong K) := by
  have h_ranks_of := h_ranks_of (P := P) (w := w) (base := base) T
  have h_span_of := h_span_of (P := P) (w := w) (base := base) T
  refine hasJ T.d_not_among sc_not_among (fun _ _ _ _ _ _ us hl => L2.usN2 (fun _ _ => rfl) us hl) ?_ fun f cdv A outer s H vs Q E hr h => ?_
  · rintro vs H Q E ⟨a, b, us, ws, R, O, rfl, _⟩; rfl
  obtain ⟨a, b, us, ws, R, O, rfl, ha, hR, hlR, hb, hO, hn, hlO, q⟩ := h
  have hu := hr.units0
  have hu64 := hr.units
  refine ⟨_, (jb_cons (js_set (i := 2) sc_not_among.nd rfl (Or.inr kz15) (j_call h_ranks_of (hr.mono (by decide)) (glF kz16) (ja_cons (j_vL 1 kz17) ja_nil) (by decide +kernel)) rfl) (jb_one (js_ret (j_comp (sub := [none, some 2]) (subOk_of (N := ["ranked", "other", "ranks"]) (sc := defScope s_not_among) (N' := ["priced", "ranks"]) (by decide +kernel)) rfl rfl rfl (ji_seq (K := K) rfl (j_vL 0 kz14)) (fun C s₀ H₀ ex => (jg_B 0 (by decide +kernel) nd_not_among_2)) (fun C s₀ H₀ ex => (jif_one (jt_cmp (op_notInD (K := K) rfl hu64) (j_call h_span_of (hr.mono (by decide)) (glB (by decide +kernel)) (ja_cons (j_vBL 0 (by decide +kernel)) ja_nil) (by decide +kernel)) (j_vBF 1 (by decide +kernel)) (by first | exact nomark _ | with_unfolding_all rfl)))) (fun C s₀ H₀ ex => (j_vBL 0 (by decide +kernel))))))), ?_⟩
  walk_at "sts"
  have hs : 20000 ≤ sizeLine := by decide
  have hul := hR.1
  refine ⟨b, ws, O, rfl, hb, hO, hn, hlO, fun d H1 nd S1 hd => ?_⟩
  walk_at "sts"
  refine .inl ⟨a, rfl, ⟨_, SqL.of (S1 _ _ ha)⟩, ?_⟩
  refine comp_listG (xs := us) (fun i ys G => Same H1 G ∧ R3 G ys (nam (R.take i) O) ∧ ys.length ≤ i) (by omega) ⟨Same.refl H1, R3.nil, Nat.le_refl _⟩ ?_ ?_ ?_ ?_
  · rintro i ys G ⟨_, _, h⟩
    exact h
  · rintro i ys G ⟨s, _⟩
    exact SqL.of (s _ _ (S1 _ _ ha))
  · rintro i ys G x hx ⟨s, hY, hyl⟩
    obtain ⟨p, hp, c, rfl, hc⟩ := (hR.same (S1.trans s)).at hx
    walk_at "sts"
    refine ⟨KeepSt.set rfl, ?_⟩
    walk_at "sts"
    refine ⟨c, p, rfl, hc, fun t G2 nt s2 ht => ?_⟩
    walk_at "sts"
    refine .inr ⟨d, _, rfl, DGet.t (s2 _ _ (s _ _ hd)) ht, ?_⟩
    walk_at "sts"
    rw [dZ_val, rkZ_look hn]
    have hN := nam_take R O i hp
    cases e : fnd O p.2 with
    | none =>
      rw [e] at hN
      show if true = true then _ else _
      walk_at "sts"
      refine ⟨s.trans s2, ?_, by simp; omega⟩
      rw [hN]
      exact (hY.same s2).push ⟨c, rfl, s2 _ _ hc⟩
    | some j =>
      rw [e] at hN
      show if false = true then _ else _
      walk_at "sts"
      refine ⟨s.trans s2, ?_, by omega⟩
      rw [hN, show (if ((some j : Option Nat).isNone) = true then [p] else []) = ([] : List P3) from rfl, List.append_nil]
      exact hY.same s2
  · rintro ys G D G2 ⟨s, hY, _⟩ nD s2 hD
    try walk_at "sts"
    rw [hul, List.take_length] at hY
    exact q D ys G2 (Same.back (S1.trans s) nD) (S1.trans (s.trans s2)) hD (hY.same s2)
end

section
variable {P : Program} {w : World} {K : PySem.W.Frag} {mg : Str → Option Value} {base : Heap}
theorem kz18 : (defScope s_moved_between).names.lookup ("moved" : Str) = some NameKind.local := by decide +kernel
theorem kz19 : (defScope s_moved_between).names.lookup ("enumerate" : Str) = some NameKind.globalImplicit := by decide +kernel
theorem kz1a : (defScope s_moved_between).names.lookup ("behind" : Str) = some NameKind.local := by decide +kernel
theorem kz1b : (defScope s_moved_between).names.lookup ("priced" : Str) = some NameKind.local := by decide +kernel
theorem kz1c : (defScope s_moved_between).names.lookup ("rank" : Str) = some NameKind.local := by decide +kernel
theorem kz1d : (defScope s_moved_between).names.lookup ("old_rank" : Str) = some NameKind.local := by decide +kernel
theorem kz1e : (defScope s_moved_between).names.lookup ("old_cost" : Str) = some NameKind.local := by decide +kernel
theorem kz1f : (defScope s_moved_between).names.lookup ("ahead" : Str) = some NameKind.local := by decide +kernel
theorem kz1g : (defScope s_moved_between).names.lookup ("ranks" : Str) = some NameKind.local := by decide +kernel
theorem kz1h : (defScope s_moved_between).names.lookup ("span_of" : Str) = some NameKind.globalImplicit := by decide +kernel
theorem kz1i : (defScope s_moved_between).names.lookup ("ranks_of" : Str) = some NameKind.globalImplicit := by decide +kernel
noncomputable def AT (H : Hp) (v : V) (t : List Int) : Prop := ∃ a, v = .ref a ∧ H a = some (.tup (t.map V.int))
theorem AT.same {H H' : Hp} {v : V} {t : List Int} (h : AT H v t) (s : Same H H') : AT H' v t := by
  obtain ⟨a, e, ha⟩ := h
  exact ⟨a, e, s _ _ ha⟩
noncomputable def RT (H : Hp) (vs : List V) (ts : List (List Int)) : Prop := vs.length = ts.length ∧ ∀ (i : Nat) (v : V) (t : List Int), vs[i]? = some v → ts[i]? = some t → AT H v t
theorem RT.same {H H' : Hp} {vs : List V} {L : List (List Int)} (h : RT H vs L) (s : Same H H') : RT H' vs L := ⟨h.1, fun i v p e1 e2 => (h.2 i v p e1 e2).same s⟩
theorem RT.nil {H : Hp} : RT H [] [] := ⟨rfl, fun i v p e => by simp at e⟩
theorem RT.push {H : Hp} {vs : List V} {L : List (List Int)} {v : V} {p : List Int} (h : RT H vs L) (a : AT H v p) : RT H (vs ++ [v]) (L ++ [p]) := by
  refine ⟨by simp [h.1], fun i u r e1 e2 => ?_⟩
  by_cases hi : i < vs.length
  · rw [List.getElem?_append_left hi] at e1
    rw [List.getElem?_append_left (by rw [← h.1]; exact hi)] at e2
    exact h.2 i u r e1 e2
  · rw [List.getElem?_append_right (by omega)] at e1
    rw [List.getElem?_append_right (by rw [← h.1]; omega), ← h.1] at e2
    have hz : i - vs.length = 0 := by
      have := (List.getElem?_eq_some_iff.mp e1).1
      simp at this; omega
    rw [hz] at e1 e2
    cases e1; cases e2
    exact a
theorem RT.at {H : Hp} {vs : List V} {L : List (List Int)} (h : RT H vs L) {i : Nat} {v : V} (e : vs[i]? = some v) : ∃ p, L[i]? = some p ∧ AT H v p := by
  have hi := (List.getElem?_eq_some_iff.mp e).1
  have hj : i < L.length := by rw [← h.1]; exact hi
  exact ⟨L[i], List.getElem?_eq_getElem hj, h.2 i v _ e (List.getElem?_eq_getElem hj)⟩
theorem R3.rt {H : Hp} {vs : List V} {L : List P3} (h : R3 H vs L) : RT H vs (L.map i3) := by
  refine ⟨by simp [h.1], fun i v t e1 e2 => ?_⟩
  rw [List.getElem?_map] at e2
  cases e : L[i]? with
  | none => rw [e] at e2; cases e2
  | some p =>
    rw [e] at e2; cases e2
    exact h.2 i v p e1 e
noncomputable def tpD (ts : List (List Int)) : PyData := .list (ts.map fun t => .tuple (t.map PyData.int))
theorem DRs_get {H : Hp} : ∀ (ds : List PyData) (vs : List V), ds.length = vs.length → (∀ (k : Nat) (d : PyData) (v : V), ds[k]? = some d → vs[k]? = some v → DR H d v) → DRs H ds vs
  | [], [], _, _ => DRs_nil.mpr rfl
  | [], _ :: _, h, _ => by simp at h
  | _ :: _, [], h, _ => by simp at h
  | d :: ds, v :: vs, h, g => DRs_cons.mpr ⟨v, vs, rfl, g 0 d v rfl rfl, DRs_get ds vs (by simpa using h) fun k d' v' e1 e2 => g (k + 1) d' v' e1 e2⟩
theorem AT.dr {H : Hp} {v : V} {t : List Int} (h : AT H v t) : DR H (.tuple (t.map PyData.int)) v := by
  obtain ⟨a, rfl, ha⟩ := h
  exact DR_tuple.mpr ⟨a, _, rfl, ha, DRs_ints _⟩
theorem RT.dr {H : Hp} {vs : List V} {ts : List (List Int)} {q : Addr} (h : RT H vs ts) (hq : H q = some (.lst vs)) : DR H (tpD ts) (.ref q) := by
  refine DR_list.mpr ⟨q, vs, rfl, hq, DRs_get _ _ (by rw [List.length_map, h.1]) fun k d v e1 e2 => ?_⟩
  obtain ⟨t, ht, hv⟩ := h.at e2
  rw [List.getElem?_map, ht] at e1
  cases e1
  exact hv.dr
theorem lay_tp (ts : List (List Int)) : (tpD ts).canLay0 = true ∧ (tpD ts).depth ≤ 2 := by
  refine lay_list (n := 1) fun d hd => ?_
  obtain ⟨t, _, rfl⟩ := List.mem_map.mp hd
  refine lay_tuple (n := 0) fun e he => ?_
  obtain ⟨i, _, rfl⟩ := List.mem_map.mp he
  exact lay_int i
theorem eqv_intsT : ∀ ns ms : List Int, PyData.eqv (.tuple (ns.map PyData.int)) (.tuple (ms.map PyData.int)) = decide (ns = ms) := by
  intro ns ms
  rw [PyData.eqv]
  induction ns generalizing ms with
  | nil => cases ms <;> simp [PyData.eqvAll]
  | cons n ns ih =>
    cases ms with
    | nil => simp [PyData.eqvAll]
    | cons m ms =>
      rw [List.map_cons, List.map_cons, PyData.eqvAll, ih ms]
      simp [PyData.eqv]
      rfl
theorem ne2 {H : Hp} {Q : VK} {p q : Addr} {ns ms : List Int} (hp : H p = some (.tup (ns.map V.int))) (hq : H q = some (.tup (ms.map V.int))) (h : Q (.bl (!decide (ns = ms))) H) : rNeB K (.ref p) (.ref q) H Q :=
  .inr ⟨.tuple (ns.map PyData.int), .tuple (ms.map PyData.int), DR_tuple.mpr ⟨p, _, rfl, hp, DRs_ints _⟩, DR_tuple.mpr ⟨q, _, rfl, hq, DRs_ints _⟩, lay_shaped (n := 1) (lay_tuple (n := 0) fun e he => by
    obtain ⟨i, _, rfl⟩ := List.mem_map.mp he
    exact lay_int i) (by omega), lay_shaped (n := 1) (lay_tuple (n := 0) fun e he => by
    obtain ⟨i, _, rfl⟩ := List.mem_map.mp he
    exact lay_int i) (by omega), by rw [eqv_intsT]; exact h⟩
noncomputable def mvAt (A : List P3) (j : Nat) (p : P3) : Option (List Int) := match fnd A p.2 with
  | none => none
  | some i => if (A.getD i (0, 0, 0)).1 = p.1 ∧ i = j then none else some [(p.2.1 : Int), (p.2.2 : Int), ((A.getD i (0, 0, 0)).1 : Int), (p.1 : Int), (i : Int), (j : Int)]
noncomputable def mvK (A B : List P3) (n : Nat) : List (List Int) := (List.range n).flatMap fun j => (mvAt A j (B.getD j (0, 0, 0))).toList
theorem mvK_succ {A B : List P3} {n : Nat} {p : P3} (h : B[n]? = some p) : mvK A B (n + 1) = mvK A B n ++ (mvAt A n p).toList := by
  unfold mvK
  rw [List.range_succ, List.flatMap_append, List.flatMap_cons, List.flatMap_nil, List.append_nil, List.getD_eq_getElem?_getD, h]
  rfl
theorem mvK_len {A B : List P3} (n : Nat) : (mvK A B n).length ≤ n := by
  induction n with
  | zero => simp [mvK]
  | succ n ih =>
    unfold mvK at ih ⊢
    rw [List.range_succ, List.flatMap_append, List.length_append, List.flatMap_cons, List.flatMap_nil, List.append_nil]
    have : ((mvAt A n (B.getD n (0, 0, 0))).toList).length ≤ 1 := by cases mvAt A n (B.getD n (0, 0, 0)) <;> simp
    omega
noncomputable def mv (A B : List P3) : List (List Int) := mvK A B B.length
noncomputable def spMoved (K : PySem.W.Frag) : Sp := fun vs H Q _ => ∃ (a b : Addr) (us ws : List V) (A B : List P3), vs = [.ref a, .ref b] ∧ H a = some (.lst us) ∧ R3 H us A ∧ (A.map (·.2)).Nodup ∧ A.length ≤ 1000 ∧ H b = some (.lst ws) ∧ R3 H ws B ∧ B.length ≤ 1000 ∧ ∀ q ys H', H q = none → Same H H' → H' q = some (.lst ys) → RT H' ys (mv A B) → Q (.ref q) H'
theorem sc_moved_between : FnScope ["ahead", "behind", "ranks", "moved", "rank", "priced", "old_rank", "old_cost"] ["ahead", "behind"] (defScope s_moved_between) := ⟨rfl, rfl, rfl, by decide +kernel, rfl, by decide +kernel, by decide +kernel⟩
theorem h_moved_between (T : Txt K mg) : Has P w K mg base 3 "moved_between" ["ahead", "behind"] (spMoved K) := by
  have h_ranks_of := h_ranks_of (P := P) (w := w) (base := base) T
  have h_span_of := h_span_of (P := P) (w := w) (base := base) T
  refine hasJ T.d_moved_between sc_moved_between (fun _ _ _ _ _ _ us hl => L2.usN2 (fun _ _ => rfl) us hl) ?_ fun f cdv A outer s H vs Q E hr h => ?_
  · rintro vs H Q E ⟨a, b, us, ws, A', B, rfl, _⟩; rfl
  obtain ⟨a, b, us, ws, A', B, rfl, ha, hA, hn, hlA, hb, hB, hlB, q⟩ := h
  have hu := hr.units0
  have hu64 := hr.units
  refine ⟨_, (jb_cons (js_set (i := 2) sc_moved_between.nd rfl (Or.inl kz1g) (j_call h_ranks_of (hr.mono (by decide)) (glF kz1i) (ja_cons (j_vL 0 kz1f) ja_nil) (by decide +kernel)) rfl) (jb_cons (js_set (i := 3) sc_moved_between.nd rfl (Or.inl kz18) (j_lst ja_nil) rfl) (jb_cons (js_for PassesOwn.never rfl (ji_enum (K := K) rfl rfl (glF kz19) T.b_enumerate (ja_cons (j_vL 1 kz1a) ja_nil)) (jg_tup (K := K) rfl rfl (jgs_cons (jg_name (i := 4) sc_moved_between.nd rfl (Or.inl kz1c) rfl) (jgs_cons (jg_name (i := 5) sc_moved_between.nd rfl (Or.inl kz1b) rfl) jgs_nil))) (jb_cons (js_set (i := 6) sc_moved_between.nd rfl (Or.inl kz1d) (j_dget1 hu64 (j_vL 2 kz1g) (j_call h_span_of (hr.mono (by decide)) (glF kz1h) (ja_cons (j_vL 5 kz1b) ja_nil) (by decide +kernel))) rfl) (jb_cons (js_if (jt_cmp op_isA (j_vL 6 kz1d) j_non (by first | exact nomark _ | with_unfolding_all rfl)) (jb_one js_continue) jb_nil) (jb_cons (js_set (i := 7) sc_moved_between.nd rfl (Or.inl kz1e) (j_ix (K := K) rfl (j_ix (K := K) rfl (j_vL 0 kz1f) (j_vL 6 kz1d)) j_int) rfl) (jb_one (js_if (jt_cmp (op_neX (K := K) rfl hu64) (j_tup (ja_cons (j_vL 7 kz1e) (ja_cons (j_vL 6 kz1d) ja_nil))) (j_tup (ja_cons (j_ix (K := K) rfl (j_vL 5 kz1b) j_int) (ja_cons (j_vL 4 kz1c) ja_nil))) (by first | exact nomark _ | with_unfolding_all rfl)) (jb_one (js_expr (j_meth (K := K) rfl PySem.F.plainAttrs_list PySem.F.slot_list_append PySem.F.type_list_append mt_append (j_vL 3 kz18) (ja_cons (j_tup (ja_cons (j_ix (K := K) rfl (j_vL 5 kz1b) j_int) (ja_cons (j_ix (K := K) rfl (j_vL 5 kz1b) j_int) (ja_cons (j_vL 7 kz1e) (ja_cons (j_ix (K := K) rfl (j_vL 5 kz1b) j_int) (ja_cons (j_vL 6 kz1d) (ja_cons (j_vL 4 kz1c) ja_nil))))))) ja_nil)))) jb_nil)))))) (jb_one (js_ret (j_vL 3 kz18)))))), ?_⟩
  walk_at "sts"
  have hs : 20000 ≤ sizeLine := by decide
  refine ⟨a, us, A', rfl, ha, hA, hn, hlA, fun d H1 nd S1 hd => ?_⟩
  walk_at "sts"
  refine r_newO rfl fun m H2 nm S2 hm => ?_
  walk_at "sts"
  have nm0 := Same.back S1 nm
  have U2 := S1.trans S2
  refine .inr ⟨b, ws, rfl, SqL.of (U2 _ _ hb), ?_⟩
  refine for_enumL (xs := ws) (fun k σ G => Same H1 G ∧ (∃ ys, G m = some (.lst ys) ∧ RT G ys (mvK A' B k)) ∧ ∃ x4 x5 x6 x7, σ = [some (.ref a), some (.ref b), some (.ref d), some (.ref m), x4, x5, x6, x7]) ⟨S2, ⟨[], hm, RT.nil⟩, _, _, _, _, rfl⟩ (fun i σ G _ h => SqL.of (h.1 _ _ (S1 _ _ hb))) ?_ ?_
  · rintro k σ G T' v hv ⟨s, ⟨ys, hmG, hY⟩, x4, x5, x6, x7, rfl⟩ nT
    obtain ⟨p, hp, c, rfl, hc⟩ := (hB.same (S1.trans s)).at hv
    have hyl : ys.length ≤ k := by rw [hY.1]; exact mvK_len k
    have hk := (List.getElem?_eq_some_iff.mp hp).1
    have hN := mvK_succ (A := A') hp
    have s2 := (Same.refl G).upd nT (o := .tup [.int (k : Int), .ref c])
    have f2 := upd_same (H := G) (a := T') (o := .tup [.int (k : Int), .ref c])
    generalize upd G T' (.tup [.int (k : Int), .ref c]) = G2 at s2 f2 ⊢
    refine r_gtup (SqT.of f2) rfl ?_
    walk_at "sts"
    refine ⟨d, rfl, .inr ⟨_, .inl (s2 _ _ (s _ _ hd))⟩, ?_⟩
    walk_at "sts"
    refine ⟨c, p, rfl, s2 _ _ hc, fun t G3 nt s3 ht => ?_⟩
    walk_at "sts"
    refine ⟨_, DGet.t (s3 _ _ (s2 _ _ (s _ _ hd))) ht, ?_⟩
    rw [dZ_val, rkZ_look hn]
    have s23 := s2.trans s3
    unfold mvAt at hN
    cases e : fnd A' p.2 with
    | none =>
      rw [e] at hN
      walk_at "sts"
      refine ⟨s.trans s23, ⟨ys, s23 _ _ hmG, ?_⟩, _, _, _, _, rfl⟩
      rw [hN, show (none : Option (List Int)).toList = [] from rfl, List.append_nil]
      exact hY.same s23
    | some i =>
      rw [e] at hN
      obtain ⟨p', hp', _⟩ := fnd_some e
      have hg : A'.getD i (0, 0, 0) = p' := by rw [List.getD_eq_getElem?_getD, hp']; rfl
      simp only [hg] at hN
      obtain ⟨v', hv', c', rfl, hc'⟩ := (hA.same ((S1.trans s).trans s23)).of hp'
      replace hc' : G3 c' = some (.tup [.int (p'.1 : Int), .int (p'.2.1 : Int), .int (p'.2.2 : Int)]) := hc'
      have hc3 : G3 c = some (.tup [.int (p.1 : Int), .int (p.2.1 : Int), .int (p.2.2 : Int)]) := s23 _ _ hc
      have hU3 := (S1.trans s).trans s23
      show gName 6 (.int (i : Int)) _ _ _
      walk_at "sts"
      rw [decide_eq_false (by intro z; cases z)]
      walk_at "sts"
      refine r_ixL (SqL.of (hU3 _ _ ha)) (atI_nat hv') ?_
      walk_at "sts"
      refine r_newO rfl fun t1 G4 _ s4 h4 => ?_
      walk_at "sts"
      have hc4 := s4 _ _ hc3
      walk_at "sts"
      refine r_newO rfl fun t2 G5 _ s5 h5 => ?_
      walk_at "sts"
      refine ne2 (ns := [(p'.1 : Int), (i : Int)]) (ms := [(p.1 : Int), (k : Int)]) (s5 _ _ h4) h5 ?_
      have s25 := s23.trans (s4.trans s5)
      by_cases hq : p'.1 = p.1 ∧ i = k
      · rw [if_pos hq] at hN
        rw [decide_eq_true (by rw [hq.1, hq.2])]
        try with_reducible refine iteF ?_
        walk_at "sts"
        refine ⟨s.trans s25, ⟨ys, s25 _ _ hmG, ?_⟩, _, _, _, _, rfl⟩
        rw [hN, show (none : Option (List Int)).toList = [] from rfl, List.append_nil]
        exact hY.same s25
      · rw [if_neg hq] at hN
        rw [decide_eq_false (fun z => hq (by simp only [List.cons.injEq, and_true] at z; omega))]
        have hc5 := s5 _ _ hc4
        try with_reducible refine iteT ?_
        walk_at "sts"
        refine ⟨.inl ⟨rfl, _, SqL.of (s25 _ _ hmG)⟩, ?_⟩
        walk_at "sts"
        refine r_newO rfl fun t3 G6 _ s6 h6 => ?_
        walk_at "sts"
        have s26 := s25.trans s6
        refine r_append (s26 _ _ hmG) (by omega) ?_
        walk_at "sts"
        have nm1 := nm
        refine ⟨Same.put (s.trans s26) nm1, ⟨_, upd_same, ?_⟩, _, _, _, _, rfl⟩
        rw [hN]
        refine RT.push (vs := ys) (L := mvK A' B k) ?_ ⟨t3, rfl, ?_⟩
        · refine ⟨hY.1, fun i' v t e1 e2 => ?_⟩
          obtain ⟨a', rfl, h'⟩ := (hY.same s26).2 i' v t e1 e2
          exact ⟨a', rfl, by rw [upd_ne (fun z => by rw [z, s26 _ _ hmG] at h'; cases h')]; exact h'⟩
        · rw [upd_ne (fun z => by rw [z, s26 _ _ hmG] at h6; cases h6)]; exact h6
  · rintro σ G ⟨s, ⟨ys, hmG, hY⟩, x4, x5, x6, x7, rfl⟩
    walk_at "sts"
    rw [hB.1] at hY
    exact q m ys G nm0 (S1.trans s) hmG hY
end

section
variable {P : Program} {w : World} {K : PySem.W.Frag} {mg : Str → Option Value} {base : Heap}

theorem i3_inj {p q : P3} (h : i3 p = i3 q) : p = q := by
  unfold i3 at h
  simp only [List.cons.injEq, and_true] at h
  exact Prod.ext (by omega) (Prod.ext (by omega) (by omega))
noncomputable def ltP (p q : P3) : Prop := HT.lexLt (i3 q) (i3 p) = false
theorem adj_all {L : List P3} (h : ∀ (i : Nat) (p q : P3), L[i]? = some p → L[i + 1]? = some q → HT.lexLt (i3 p) (i3 q) = true) : ∀ (n i : Nat) (p q : P3), L[i]? = some p → L[i + n + 1]? = some q → HT.lexLt (i3 p) (i3 q) = true
  | 0, i, p, q, e1, e2 => h i p q e1 e2
  | n + 1, i, p, q, e1, e2 => by
    have hl : i + n + 1 < L.length := by have := (List.getElem?_eq_some_iff.mp e2).1; omega
    have e3 := List.getElem?_eq_getElem hl
    exact lx_trans (adj_all h n i p _ e1 e3) (h (i + n + 1) _ q e3 (by rw [show i + n + 1 + 1 = i + (n + 1) + 1 by omega]; exact e2))
theorem lx_anti {a b : List Int} (h : HT.lexLt a b = true) : HT.lexLt b a = false := by
  cases e : HT.lexLt b a with
  | false => rfl
  | true =>
    have := lx_trans h e
    rw [lx_irr] at this; cases this
theorem Good.pw {L : List P3} (g : Good L) : L.Pairwise ltP := by
  rw [List.pairwise_iff_getElem]
  intro i j hi hj hij
  refine lx_anti (adj_all g.so (j - i - 1) i _ _ (List.getElem?_eq_getElem hi) ?_)
  rw [show i + (j - i - 1) + 1 = j by omega]
  exact List.getElem?_eq_getElem hj
theorem pw_eq {L M : List P3} (h1 : L.Pairwise ltP) (h2 : M.Pairwise ltP) (h : L.Perm M) : L = M :=
  List.Perm.eq_of_pairwise (fun a b _ _ x y => i3_inj (lx_total (show HT.lexLt (i3 a) (i3 b) = false from y) x)) h1 h2 h
theorem good_of {L : List P3} (h : L.Pairwise ltP) (ho : ∀ p ∈ L, ok3 p) (hn : (L.map (·.2)).Nodup) (hl : L.length ≤ 1000) : Good L := by
  refine ⟨ho, hn, fun i p q e1 e2 => ?_, hl⟩
  obtain ⟨h1, rfl⟩ := List.getElem?_eq_some_iff.mp e1
  obtain ⟨h2, rfl⟩ := List.getElem?_eq_some_iff.mp e2
  have hb := List.pairwise_iff_getElem.mp h i (i + 1) h1 h2 (by omega)
  cases e : HT.lexLt (i3 L[i]) (i3 L[i + 1]) with
  | true => rfl
  | false =>
    have := i3_inj (lx_total e hb)
    have := spn_inj hn h1 h2 (by rw [spn_at (List.getElem?_eq_getElem h1), spn_at (List.getElem?_eq_getElem h2), this])
    omega
theorem nd_of {L : List P3} (h : (L.map (·.2)).Nodup) : L.Nodup := List.Pairwise.of_map (·.2) (fun a b n e => n (by rw [e])) h
theorem fnd_at {L : List P3} (hn : (L.map (·.2)).Nodup) {i : Nat} {p : P3} (h : L[i]? = some p) : fnd L p.2 = some i := by
  cases e : fnd L p.2 with
  | none => exact absurd rfl (fnd_none e p (List.mem_of_getElem? h))
  | some j =>
    obtain ⟨q, hq, e2⟩ := fnd_some e
    have := spn_inj hn (List.getElem?_eq_some_iff.mp hq).1 (List.getElem?_eq_some_iff.mp h).1 (by rw [spn_at hq, spn_at h, e2])
    rw [this]
theorem span_uniq {L : List P3} (hn : (L.map (·.2)).Nodup) {p q : P3} (hp : p ∈ L) (hq : q ∈ L) (h : p.2 = q.2) : p = q := by
  obtain ⟨i, hi, e1⟩ := List.mem_iff_getElem.mp hp
  obtain ⟨j, hj, e2⟩ := List.mem_iff_getElem.mp hq
  have := spn_inj hn hi hj (by rw [spn_at (List.getElem?_eq_getElem hi), spn_at (List.getElem?_eq_getElem hj), e1, e2, h])
  subst this
  exact e1.symm.trans e2
theorem nam_mem {R O : List P3} {p : P3} : p ∈ nam R O ↔ p ∈ R ∧ ∀ q ∈ O, q.2 ≠ p.2 := by
  unfold nam
  rw [List.mem_filter]
  constructor
  · rintro ⟨h1, h2⟩
    refine ⟨h1, ?_⟩
    cases e : fnd O p.2 with
    | none => exact fnd_none e
    | some i => rw [e] at h2; cases h2
  · rintro ⟨h1, h2⟩
    refine ⟨h1, ?_⟩
    cases e : fnd O p.2 with
    | none => rfl
    | some i =>
      obtain ⟨q, hq, e2⟩ := fnd_some e
      exact absurd e2 (h2 q (List.mem_of_getElem? hq))
theorem nam_nd {R O : List P3} (h : (R.map (·.2)).Nodup) : ((nam R O).map (·.2)).Nodup := (List.Sublist.map _ List.filter_sublist).nodup h
theorem nam_len (R O : List P3) : (nam R O).length ≤ R.length := List.length_filter_le _ _
noncomputable def kpt (A B : List P3) : List P3 := nam A (nam A B) ++ nam B A
theorem kpt_mem {A B : List P3} (hA : (A.map (·.2)).Nodup) {p : P3} : p ∈ kpt A B ↔ (p ∈ A ∧ ∃ q ∈ B, q.2 = p.2) ∨ (p ∈ B ∧ ∀ q ∈ A, q.2 ≠ p.2) := by
  unfold kpt
  rw [List.mem_append, nam_mem, nam_mem]
  refine or_congr (and_congr_right fun hp => ⟨fun h => ?_, fun h q hq e => ?_⟩) Iff.rfl
  · refine Classical.byContradiction fun hc => ?_
    exact h p (nam_mem.mpr ⟨hp, fun q hq e => hc ⟨q, hq, e⟩⟩) rfl
  · obtain ⟨r, hr, e2⟩ := h
    exact (nam_mem.mp hq).2 r hr (e2.trans e.symm)
theorem kpt_nd {A B : List P3} (hA : (A.map (·.2)).Nodup) (hB : (B.map (·.2)).Nodup) : ((kpt A B).map (·.2)).Nodup := by
  unfold kpt
  rw [List.map_append, List.nodup_append]
  refine ⟨nam_nd hA, nam_nd hB, fun a ha b hb e => ?_⟩
  obtain ⟨p, hp, rfl⟩ := List.mem_map.mp ha
  obtain ⟨q, hq, rfl⟩ := List.mem_map.mp hb
  exact (nam_mem.mp hq).2 p (nam_mem.mp hp).1 e
noncomputable def sm (m : List Int) : Nat × Nat := ((m.getD 0 0).toNat, (m.getD 1 0).toNat)
noncomputable def cm (m : List Int) : Int := m.getD 3 0
theorem mv_mem {A B : List P3} {m : List Int} (h : m ∈ mv A B) : ∃ (i j : Nat) (p q : P3), B[j]? = some p ∧ A[i]? = some q ∧ q.2 = p.2 ∧ m = [(p.2.1 : Int), (p.2.2 : Int), (q.1 : Int), (p.1 : Int), (i : Int), (j : Int)] := by
  unfold mv mvK at h
  obtain ⟨j, hj, hm⟩ := List.mem_flatMap.mp h
  have hjl := List.mem_range.mp hj
  have hp := List.getElem?_eq_getElem hjl
  rw [List.getD_eq_getElem?_getD, hp] at hm
  unfold mvAt at hm
  dsimp only [Option.getD_some] at hm
  cases e : fnd A (B[j]).2 with
  | none => rw [e] at hm; simp at hm
  | some i =>
    rw [e] at hm
    obtain ⟨q, hq, e2⟩ := fnd_some e
    have hg : A.getD i (0, 0, 0) = q := by rw [List.getD_eq_getElem?_getD, hq]; rfl
    simp only [hg] at hm
    refine ⟨i, j, B[j], q, hp, hq, e2, ?_⟩
    split at hm
    · simp at hm
    · simpa using hm
theorem mv_has {A B : List P3} {i j : Nat} {p q : P3} (hp : B[j]? = some p) (hi : fnd A p.2 = some i) (hq : A[i]? = some q) (h : ¬ (q.1 = p.1 ∧ i = j)) : ∃ m ∈ mv A B, sm m = p.2 := by
  refine ⟨[(p.2.1 : Int), (p.2.2 : Int), (q.1 : Int), (p.1 : Int), (i : Int), (j : Int)], ?_, Prod.ext (by simp [sm]) (by simp [sm])⟩
  unfold mv mvK
  refine List.mem_flatMap.mpr ⟨j, List.mem_range.mpr (List.getElem?_eq_some_iff.mp hp).1, ?_⟩
  rw [List.getD_eq_getElem?_getD, hp]
  unfold mvAt
  have hg : A.getD i (0, 0, 0) = q := by rw [List.getD_eq_getElem?_getD, hq]; rfl
  dsimp only [Option.getD_some]
  rw [hi]
  simp only [hg]
  rw [if_neg h]
  simp
noncomputable def updZ (Z : List ((Nat × Nat) × V)) (s : Nat × Nat) (v : V) : List ((Nat × Nat) × V) := Z.map fun x => if x.1 = s then (x.1, v) else x
theorem updZ_keys (Z : List ((Nat × Nat) × V)) (s : Nat × Nat) (v : V) : (updZ Z s v).map (·.1) = Z.map (·.1) := by
  unfold updZ
  rw [List.map_map]
  refine List.map_congr_left fun x _ => ?_
  show (if x.1 = s then (x.1, v) else x).1 = x.1
  split <;> rfl
theorem look_some {Z : List ((Nat × Nat) × V)} {s : Nat × Nat} (h : s ∈ Z.map (·.1)) : ∃ v, Z.lookup s = some v := by
  induction Z with
  | nil => simp at h
  | cons x Z ih =>
    rw [List.lookup_cons]
    by_cases e : s = x.1
    · subst e; rw [beq_self_eq_true]; exact ⟨_, rfl⟩
    · have : (s == x.1) = false := by simpa using e
      rw [this]
      exact ih (by simpa [e] using h)
theorem dZ_old {Z : List ((Nat × Nat) × V)} {s : Nat × Nat} {v : V} (h : s ∈ Z.map (·.1)) : putK (dZ Z) (kp s) v = dZ (updZ Z s v) := by
  obtain ⟨u, hu⟩ := look_some h
  unfold putK
  rw [valV_any, dZ_val, hu, Option.isSome_some, if_pos rfl]
  unfold dZ updZ
  rw [List.map_map, List.map_map]
  refine List.map_congr_left fun x _ => ?_
  show (if kp x.1 = kp s then (kp x.1, v) else (kp x.1, x.2)) = _
  by_cases e : x.1 = s
  · rw [if_pos (by rw [e])]
    show _ = (kp (if x.1 = s then (x.1, v) else x).1, (if x.1 = s then (x.1, v) else x).2)
    rw [if_pos e]
  · rw [if_neg (fun z => e (kp_inj z))]
    show _ = (kp (if x.1 = s then (x.1, v) else x).1, (if x.1 = s then (x.1, v) else x).2)
    rw [if_neg e]
theorem updZ_look (Z : List ((Nat × Nat) × V)) (s t : Nat × Nat) (v : V) : (updZ Z s v).lookup t = if t = s then (Z.lookup t).map (fun _ => v) else Z.lookup t := by
  induction Z with
  | nil => show List.lookup t [] = _; simp
  | cons x Z ih =>
    show List.lookup t ((if x.1 = s then (x.1, v) else x) :: updZ Z s v) = _
    rw [List.lookup_cons, List.lookup_cons, ih]
    by_cases e : t = x.1
    · subst e
      by_cases e2 : x.1 = s
      · simp only [if_pos e2, beq_self_eq_true]; rfl
      · simp only [if_neg e2, beq_self_eq_true]
    · have h1 : (t == x.1) = false := by simpa using e
      have h2 : (t == (if x.1 = s then (x.1, v) else x).1) = false := by
        split
        · exact h1
        · exact h1
      rw [h1, h2]
noncomputable def uZ (ms : List (List Int)) (Z : List ((Nat × Nat) × V)) : List ((Nat × Nat) × V) := ms.foldl (fun Z m => updZ Z (sm m) (.int (cm m))) Z
theorem uZ_keys (ms : List (List Int)) : ∀ Z : List ((Nat × Nat) × V), (uZ ms Z).map (·.1) = Z.map (·.1) := by
  induction ms with
  | nil => intro Z; rfl
  | cons m ms ih => intro Z; exact (ih _).trans (updZ_keys _ _ _)
theorem uZ_look {ms : List (List Int)} {s : Nat × Nat} {c : Int} (h : ∀ m ∈ ms, sm m = s → cm m = c) : ∀ Z : List ((Nat × Nat) × V), (uZ ms Z).lookup s = (Z.lookup s).map fun v => if ∃ m ∈ ms, sm m = s then .int c else v := by
  induction ms with
  | nil => intro Z; show Z.lookup s = _; cases Z.lookup s <;> simp
  | cons m ms ih =>
    intro Z
    show (uZ ms (updZ Z (sm m) (.int (cm m)))).lookup s = _
    rw [ih (fun m' hm => h m' (List.mem_cons_of_mem _ hm)), updZ_look]
    by_cases e : s = sm m
    · rw [if_pos e, h m (List.mem_cons_self ..) e.symm]
      cases Z.lookup s with
      | none => rfl
      | some v =>
        simp only [Option.map_some]
        rw [if_pos (show ∃ m' ∈ m :: ms, sm m' = s from ⟨m, List.mem_cons_self .., e.symm⟩)]
        split <;> rfl
    · rw [if_neg e]
      congr 1
      funext v
      have : (∃ m' ∈ m :: ms, sm m' = s) ↔ ∃ m' ∈ ms, sm m' = s := ⟨fun ⟨m', h1, h2⟩ => by
        rcases List.mem_cons.mp h1 with rfl | h1
        · exact absurd h2.symm e
        · exact ⟨m', h1, h2⟩, fun ⟨m', h1, h2⟩ => ⟨m', List.mem_cons_of_mem _ h1, h2⟩⟩
      simp only [this]
theorem Z_ext : ∀ {Z : List ((Nat × Nat) × V)}, (Z.map (·.1)).Nodup → ∀ x ∈ Z, Z.lookup x.1 = some x.2
  | [], _, x, hx => by simp at hx
  | y :: Z, hn, x, hx => by
    rw [List.map_cons, List.nodup_cons] at hn
    rw [List.lookup_cons]
    rcases List.mem_cons.mp hx with rfl | hx
    · rw [beq_self_eq_true]
    · have : (x.1 == y.1) = false := by
        simp only [beq_eq_false_iff_ne]
        intro e
        exact hn.1 (List.mem_map.mpr ⟨x, hx, e⟩)
      rw [this]
      exact Z_ext hn.2 x hx
theorem told_dict {A B : List P3} (hA : (A.map (·.2)).Nodup) (hB : (B.map (·.2)).Nodup) :
    ∃ W : List P3, uZ (mv A B) ((kpt A B).map fun p => (p.2, V.int (p.1 : Int))) = W.map (fun p => (p.2, V.int (p.1 : Int))) ∧ W.Perm B := by
  have hk := kpt_nd hA hB
  have hkeys : (uZ (mv A B) ((kpt A B).map fun p => (p.2, V.int (p.1 : Int)))).map (·.1) = (kpt A B).map (·.2) := by
    rw [uZ_keys, List.map_map]; rfl
  have inB : ∀ p ∈ kpt A B, ∃ q ∈ B, q.2 = p.2 := fun p hp => by
    rcases (kpt_mem hA).mp hp with ⟨_, h⟩ | ⟨h, _⟩
    · exact h
    · exact ⟨p, h, rfl⟩
  have val : ∀ p ∈ kpt A B, ∀ q ∈ B, q.2 = p.2 → (uZ (mv A B) ((kpt A B).map fun p => (p.2, V.int (p.1 : Int)))).lookup p.2 = some (.int (q.1 : Int)) := by
    intro p hp q hq e
    rw [uZ_look (c := (q.1 : Int)) (fun m hm hs => by
      obtain ⟨i, j, p', q', h1, h2, h3, rfl⟩ := mv_mem hm
      have : p'.2 = q.2 := by rw [e, ← hs]; exact Prod.ext (by simp [sm]) (by simp [sm])
      rw [← span_uniq hB (List.mem_of_getElem? h1) hq this]; rfl)]
    rw [Z_ext (by rw [List.map_map]; exact hk) (p.2, V.int (p.1 : Int)) (List.mem_map.mpr ⟨p, hp, rfl⟩), Option.map_some]
    by_cases hm : ∃ m ∈ mv A B, sm m = p.2
    · rw [if_pos hm]
    · rw [if_neg hm]
      congr 2
      obtain ⟨j, hj, ej⟩ := List.mem_iff_getElem.mp hq
      have hqj : B[j]? = some q := by rw [List.getElem?_eq_getElem hj, ej]
      rcases (kpt_mem hA).mp hp with ⟨h, _⟩ | ⟨h, _⟩
      · obtain ⟨i, hi, ei⟩ := List.mem_iff_getElem.mp h
        have hpi : A[i]? = some p := by rw [List.getElem?_eq_getElem hi, ei]
        have := Classical.byContradiction fun hc => hm (by
          obtain ⟨m, h1, h2⟩ := mv_has hqj (by rw [e]; exact fnd_at hA hpi) hpi hc
          exact ⟨m, h1, h2.trans e⟩)
        rw [this.1]
      · rw [span_uniq hB h hq e.symm]
  -- the list
  refine ⟨(uZ (mv A B) ((kpt A B).map fun p => (p.2, V.int (p.1 : Int)))).map (fun x => ((match x.2 with | .int n => n.toNat | _ => 0), x.1)), ?_, ?_⟩
  · rw [List.map_map]
    conv => lhs; rw [← List.map_id (uZ (mv A B) ((kpt A B).map fun p => (p.2, V.int (p.1 : Int))))]
    refine List.map_congr_left fun x hx => ?_
    have hx1 : x.1 ∈ (kpt A B).map (·.2) := by rw [← hkeys]; exact List.mem_map.mpr ⟨x, hx, rfl⟩
    obtain ⟨p, hp, e⟩ := List.mem_map.mp hx1
    obtain ⟨q, hq, e2⟩ := inB p hp
    have h1 := Z_ext (by rw [hkeys]; exact hk) x hx
    have h2 := val p hp q hq e2
    rw [e, h1] at h2
    have h3 : x.2 = .int (q.1 : Int) := Option.some.inj h2
    show x = (x.1, V.int (((match x.2 with | .int n => n.toNat | _ => 0) : Nat) : Int))
    rw [h3]
    exact Prod.ext rfl (by rw [h3]; simp)
  · have key : ∀ x ∈ uZ (mv A B) ((kpt A B).map fun p => (p.2, V.int (p.1 : Int))), ((match x.2 with | .int n => n.toNat | _ => 0), x.1) ∈ B := by
      intro x hx
      have hx1 : x.1 ∈ (kpt A B).map (·.2) := by rw [← hkeys]; exact List.mem_map.mpr ⟨x, hx, rfl⟩
      obtain ⟨p, hp, e⟩ := List.mem_map.mp hx1
      obtain ⟨q, hq, e2⟩ := inB p hp
      have h1 := Z_ext (by rw [hkeys]; exact hk) x hx
      have h2 := val p hp q hq e2
      rw [e, h1] at h2
      have h3 : x.2 = .int (q.1 : Int) := Option.some.inj h2
      rw [h3]
      have : (((q.1 : Int)).toNat, x.1) = q := Prod.ext (by simp) (by rw [e2, e])
      dsimp only
      rw [this]; exact hq
    have nd1 : (((uZ (mv A B) ((kpt A B).map fun p => (p.2, V.int (p.1 : Int)))).map (fun x => ((match x.2 with | .int n => n.toNat | _ => 0), x.1))).map (·.2)).Nodup := by
      rw [List.map_map]
      show ((uZ (mv A B) ((kpt A B).map fun p => (p.2, V.int (p.1 : Int)))).map (·.1)).Nodup
      rw [hkeys]; exact hk
    refine (List.perm_ext_iff_of_nodup (nd_of nd1) (nd_of hB)).mpr fun q => ⟨fun h => ?_, fun h => ?_⟩
    · obtain ⟨x, hx, rfl⟩ := List.mem_map.mp h
      exact key x hx
    · have hs : ∃ p ∈ kpt A B, p.2 = q.2 := by
        by_cases hc : ∃ a ∈ A, a.2 = q.2
        · obtain ⟨a, ha, e⟩ := hc
          exact ⟨a, (kpt_mem hA).mpr (.inl ⟨ha, q, h, e.symm⟩), e⟩
        · exact ⟨q, (kpt_mem hA).mpr (.inr ⟨h, fun a ha e => hc ⟨a, ha, e⟩⟩), rfl⟩
      obtain ⟨p, hp, e⟩ := hs
      have hq2 : q.2 ∈ (uZ (mv A B) ((kpt A B).map fun p => (p.2, V.int (p.1 : Int)))).map (·.1) := by rw [hkeys]; exact List.mem_map.mpr ⟨p, hp, e⟩
      obtain ⟨x, hx, ex⟩ := List.mem_map.mp hq2
      refine List.mem_map.mpr ⟨x, hx, ?_⟩
      exact span_uniq hB (key x hx) h ex
end

section
variable {P : Program} {w : World} {K : PySem.W.Frag} {mg : Str → Option Value} {base : Heap}
theorem nd_are_all_numbers_0 : (["part", "many"] : List Str).Nodup := by decide +kernel
theorem nd_told_behind_1 : (["span", "cost"] : List Str).Nodup := by decide +kernel
theorem kz1j : (defScope s_news_of).names.lookup ("moved_between" : Str) = some NameKind.globalImplicit := by decide +kernel
theorem kz1k : (defScope s_news_of).names.lookup ("behind" : Str) = some NameKind.local := by decide +kernel
theorem kz1l : (defScope s_news_of).names.lookup ("ahead" : Str) = some NameKind.local := by decide +kernel
theorem kz1m : (defScope s_news_of).names.lookup ("not_among" : Str) = some NameKind.globalImplicit := by decide +kernel
theorem kz1n : (defScope s_news_of).names.lookup ("need_ranked" : Str) = some NameKind.globalImplicit := by decide +kernel
theorem kz1o : (defScope s_are_all_numbers).names.lookup ("all" : Str) = some NameKind.globalImplicit := by decide +kernel
theorem kz1p : (defScope s_are_all_numbers).names.lookup ("thing" : Str) = some NameKind.local := by decide +kernel
theorem kz1q : (defScope s_are_all_numbers).names.lookup ("isinstance" : Str) = some NameKind.globalImplicit := by decide +kernel
theorem kz1r : (defScope s_are_all_numbers).names.lookup ("list" : Str) = some NameKind.globalImplicit := by decide +kernel
theorem kz1s : (defScope s_are_news).names.lookup ("are_all_numbers" : Str) = some NameKind.globalImplicit := by decide +kernel
theorem kz1t : (defScope s_are_news).names.lookup ("thing" : Str) = some NameKind.local := by decide +kernel
theorem kz1u : (defScope s_are_news).names.lookup ("len" : Str) = some NameKind.globalImplicit := by decide +kernel
theorem kz1v : (defScope s_are_news).names.lookup ("isinstance" : Str) = some NameKind.globalImplicit := by decide +kernel
theorem kz1w : (defScope s_are_news).names.lookup ("tuple" : Str) = some NameKind.globalImplicit := by decide +kernel
theorem kz1x : (defScope s_told_behind).names.lookup ("sorted" : Str) = some NameKind.globalImplicit := by decide +kernel
theorem kz1y : (defScope s_told_behind).names.lookup ("costs" : Str) = some NameKind.local := by decide +kernel
theorem kz1z : (defScope s_told_behind).names.lookup ("news" : Str) = some NameKind.local := by decide +kernel
theorem kz20 : (defScope s_told_behind).names.lookup ("moved" : Str) = some NameKind.local := by decide +kernel
theorem kz21 : (defScope s_told_behind).names.lookup ("not_among" : Str) = some NameKind.globalImplicit := by decide +kernel
theorem kz22 : (defScope s_told_behind).names.lookup ("ahead" : Str) = some NameKind.local := by decide +kernel
theorem kz23 : (defScope s_told_behind).names.lookup ("priced" : Str) = some NameKind.local := by decide +kernel
theorem kz24 : (defScope s_told_behind).names.lookup ("span_of" : Str) = some NameKind.globalImplicit := by decide +kernel
theorem kz25 : (defScope s_followed).names.lookup ("behind" : Str) = some NameKind.local := by decide +kernel
theorem kz26 : (defScope s_followed).names.lookup ("news_of" : Str) = some NameKind.globalImplicit := by decide +kernel
theorem kz27 : (defScope s_followed).names.lookup ("ahead" : Str) = some NameKind.local := by decide +kernel
theorem kz28 : (defScope s_followed).names.lookup ("news" : Str) = some NameKind.local := by decide +kernel
theorem kz29 : (defScope s_followed).names.lookup ("is_ranked" : Str) = some NameKind.globalImplicit := by decide +kernel
theorem kz2a : (defScope s_followed).names.lookup ("told_behind" : Str) = some NameKind.globalImplicit := by decide +kernel
theorem kz2b : (defScope s_followed).names.lookup ("are_news" : Str) = some NameKind.globalImplicit := by decide +kernel
theorem kz2c : (defScope s_followed).names.lookup ("need_ranked" : Str) = some NameKind.globalImplicit := by decide +kernel
noncomputable def ctH (H : Hp) (a : Addr) : List Int := match H a with
  | some (.tup xs) => xs.map fun v => match v with | .int n => n | _ => 0
  | _ => []
theorem ctH_of {H : Hp} {a : Addr} {t : List Int} (h : H a = some (.tup (t.map V.int))) : ctH H a = t := by
  unfold ctH
  rw [h]
  dsimp only
  rw [List.map_map]
  conv => rhs; rw [← List.map_id t]
  rfl
noncomputable def c3 (t : List Int) : P3 := ((t.getD 0 0).toNat, (t.getD 1 0).toNat, (t.getD 2 0).toNat)
theorem c3_i3 (p : P3) : c3 (i3 p) = p := Prod.ext (by simp [c3, i3]) (Prod.ext (by simp [c3, i3]) (by simp [c3, i3]))
noncomputable def rfA : V → Addr
  | .ref a => a
  | _ => 0
theorem sort_R3 {H : Hp} {Q : VK} {p : Addr} {us : List V} {W : List P3} (hp : H p = some (.lst us)) (hW : R3 H us W) (hl : W.length ≤ 1000)
    (h : ∀ (q : Addr) (ys : List V) (H' : Hp) (L : List P3), H q = none → Same H H' → H' q = some (.lst ys) → R3 H' ys L → L.Perm W → L.Pairwise ltP → Q (.ref q) H') : rSortX [.ref p] H Q := by
  have hul := hW.1
  have hus : us = (us.map rfA).map V.ref := by
    rw [List.map_map]
    conv => lhs; rw [← List.map_id us]
    refine List.map_congr_left fun v hv => ?_
    obtain ⟨i, hi, e⟩ := List.mem_iff_getElem.mp hv
    obtain ⟨p, _, a, rfl, _⟩ := hW.at (i := i) (v := v) (by rw [List.getElem?_eq_getElem hi, e])
    rfl
  have hc : ∀ a ∈ us.map rfA, ∃ p, H a = some (.tup (v3 p)) := fun a ha => by
    obtain ⟨v, hv, rfl⟩ := List.mem_map.mp ha
    obtain ⟨i, hi, e⟩ := List.mem_iff_getElem.mp hv
    obtain ⟨p, _, a, rfl, hh⟩ := hW.at (i := i) (v := v) (by rw [List.getElem?_eq_getElem hi, e])
    exact ⟨p, hh⟩
  have hWm : (us.map rfA).map (fun a => c3 (ctH H a)) = W := by
    refine List.ext_getElem? fun i => ?_
    rw [List.map_map, List.getElem?_map]
    cases e : us[i]? with
    | none =>
      rw [List.getElem?_eq_none_iff] at e
      rw [List.getElem?_eq_none (by omega)]; rfl
    | some v =>
      obtain ⟨p, hp, a, rfl, hh⟩ := hW.at e
      rw [hp]
      show some (c3 (ctH H a)) = _
      rw [ctH_of (t := i3 p) hh, c3_i3]
  refine r_sortXT (as := us.map rfA) (ctH H) (by rw [← hus]; exact hp) (by rw [List.length_map]; omega) (fun a ha => ?_) fun q bs H' nq S hq pe pw => ?_
  · obtain ⟨p, hh⟩ := hc a ha
    rw [ctH_of (t := i3 p) hh]
    exact ⟨hh, by simp [i3]⟩
  · have hbs : ∀ a ∈ bs, ∃ p, H a = some (.tup (v3 p)) ∧ ctH H a = i3 p := fun a ha => by
      obtain ⟨p, hh⟩ := hc a (pe.mem_iff.mp ha)
      exact ⟨p, hh, ctH_of (t := i3 p) hh⟩
    refine h q (bs.map V.ref) H' (bs.map fun a => c3 (ctH H a)) nq S hq ⟨by simp, fun i v r e1 e2 => ?_⟩ ?_ ?_
    · rw [List.getElem?_map] at e1 e2
      cases e : bs[i]? with
      | none => rw [e] at e1; cases e1
      | some a =>
        rw [e] at e1 e2
        cases e1; cases e2
        obtain ⟨p, hh, ec⟩ := hbs a (List.mem_of_getElem? e)
        exact ⟨a, rfl, S _ _ (by show H a = some (.tup (v3 (c3 (ctH H a)))); rw [ec, c3_i3]; exact hh)⟩
    · rw [← hWm]; exact pe.map _
    · rw [List.pairwise_map]
      refine pw.imp_of_mem fun {a b} ha hb hab => ?_
      obtain ⟨p, _, ep⟩ := hbs a ha
      obtain ⟨r, _, er⟩ := hbs b hb
      show HT.lexLt (i3 (c3 (ctH H b))) (i3 (c3 (ctH H a))) = false
      rw [ep, er, c3_i3, c3_i3, ← ep, ← er]
      exact hab
noncomputable def Nw (H : Hp) (n : Addr) (A B : List P3) : Prop := ∃ (c l m : Addr) (cs ls ms : List V), H n = some (.tup [.ref c, .ref l, .ref m]) ∧ H c = some (.lst cs) ∧ R3 H cs (nam B A) ∧ H l = some (.lst ls) ∧ R3 H ls (nam A B) ∧ H m = some (.lst ms) ∧ RT H ms (mv A B)
theorem Nw.same {H H' : Hp} {n : Addr} {A B : List P3} (h : Nw H n A B) (s : Same H H') : Nw H' n A B := by
  obtain ⟨c, l, m, cs, ls, ms, h1, h2, h3, h4, h5, h6, h7⟩ := h
  exact ⟨c, l, m, cs, ls, ms, s _ _ h1, s _ _ h2, h3.same s, s _ _ h4, h5.same s, s _ _ h6, h7.same s⟩
noncomputable def nwD (A B : List P3) : PyData := .tuple [tpD ((nam B A).map i3), tpD ((nam A B).map i3), tpD (mv A B)]
theorem Nw.dr {H : Hp} {n : Addr} {A B : List P3} (h : Nw H n A B) : DR H (nwD A B) (.ref n) := by
  obtain ⟨c, l, m, cs, ls, ms, h1, h2, h3, h4, h5, h6, h7⟩ := h
  exact DR_tuple.mpr ⟨n, _, rfl, h1, DRs_cons.mpr ⟨_, _, rfl, h3.rt.dr h2, DRs_cons.mpr ⟨_, _, rfl, h5.rt.dr h4, DRs_cons.mpr ⟨_, _, rfl, h7.dr h6, DRs_nil.mpr rfl⟩⟩⟩⟩
theorem nwD_sh (A B : List P3) : PySem.SeqAt.shaped (nwD A B) = true := by
  refine lay_shaped (n := 3) (lay_tuple (n := 2) fun d hd => ?_) (by omega)
  simp only [List.mem_cons, List.mem_nil_iff, or_false] at hd
  rcases hd with rfl | rfl | rfl <;> exact lay_tp _
noncomputable def spNews (K : PySem.W.Frag) : Sp := fun vs H Q _ => ∃ (a b : Addr) (us ws : List V) (A B : List P3), vs = [.ref a, .ref b] ∧ H a = some (.lst us) ∧ R3 H us A ∧ Good A ∧ H b = some (.lst ws) ∧ R3 H ws B ∧ Good B ∧
  ∀ (n c l m : Addr) (cs ls ms : List V) (H' : Hp), H n = none → Same H H' → H' n = some (.tup [.ref c, .ref l, .ref m]) → H' c = some (.lst cs) → R3 H' cs (nam B A) → H' l = some (.lst ls) → R3 H' ls (nam A B) → H' m = some (.lst ms) → RT H' ms (mv A B) → H c = none → H m = none → c ≠ m → Q (.ref n) H'
theorem sc_news_of : FnScope ["ahead", "behind"] ["ahead", "behind"] (defScope s_news_of) := ⟨rfl, rfl, rfl, by decide +kernel, rfl, by decide +kernel, by decide +kernel⟩
theorem h_news_of (T : Txt K mg) : Has P w K mg base 7 "news_of" ["ahead", "behind"] (spNews K) := by
  have h_need_ranked := h_need_ranked (P := P) (w := w) (base := base) T
  have h_not_among := h_not_among (P := P) (w := w) (base := base) T
  have h_moved_between := h_moved_between (P := P) (w := w) (base := base) T
  refine hasJ T.d_news_of sc_news_of (fun _ _ _ _ _ _ us hl => L2.usN2 (fun _ _ => rfl) us hl) ?_ fun f cdv A outer s H vs Q E hr h => ?_
  · rintro vs H Q E ⟨a, b, us, ws, A', B, rfl, _⟩; rfl
  obtain ⟨a, b, us, ws, A', B, rfl, ha, hA, gA, hb, hB, gB, q⟩ := h
  have hu := hr.units0
  have hu64 := hr.units
  refine ⟨_, (jb_cons (js_expr (j_call h_need_ranked (hr.mono (by decide)) (glF kz1n) (ja_cons (j_vL 0 kz1l) ja_nil) (by decide +kernel))) (jb_cons (js_expr (j_call h_need_ranked (hr.mono (by decide)) (glF kz1n) (ja_cons (j_vL 1 kz1k) ja_nil) (by decide +kernel))) (jb_one (js_ret (j_tup (ja_cons (j_call h_not_among (hr.mono (by decide)) (glF kz1m) (ja_cons (j_vL 1 kz1k) (ja_cons (j_vL 0 kz1l) ja_nil)) (by decide +kernel)) (ja_cons (j_call h_not_among (hr.mono (by decide)) (glF kz1m) (ja_cons (j_vL 0 kz1l) (ja_cons (j_vL 1 kz1k) ja_nil)) (by decide +kernel)) (ja_cons (j_call h_moved_between (hr.mono (by decide)) (glF kz1j) (ja_cons (j_vL 0 kz1l) (ja_cons (j_vL 1 kz1k) ja_nil)) (by decide +kernel)) ja_nil)))))))), ?_⟩
  walk_at "sts"
  refine ⟨a, us, A', rfl, ha, hA, gA, fun H1 S1 => ?_⟩
  walk_at "sts"
  refine ⟨b, ws, B, rfl, S1 _ _ hb, hB.same S1, gB, fun H2 S2 => ?_⟩
  walk_at "sts"
  have U2 := S1.trans S2
  refine ⟨b, a, ws, us, B, A', rfl, U2 _ _ hb, hB.same U2, gB.le, U2 _ _ ha, hA.same U2, gA.nd, gA.le, fun c cs H3 nc S3 hc hC => ?_⟩
  walk_at "sts"
  have U3 := U2.trans S3
  refine ⟨a, b, us, ws, A', B, rfl, U3 _ _ ha, hA.same U3, gA.le, U3 _ _ hb, hB.same U3, gB.nd, gB.le, fun l ls H4 nl S4 hl hL => ?_⟩
  walk_at "sts"
  have U4 := U3.trans S4
  refine ⟨a, b, us, ws, A', B, rfl, U4 _ _ ha, hA.same U4, gA.nd, gA.le, U4 _ _ hb, hB.same U4, gB.le, fun m ms H5 nm S5 hm hM => ?_⟩
  walk_at "sts"
  refine r_newO rfl fun n H6 nn S6 hn => ?_
  walk_at "sts"
  have V := S4.trans (S5.trans S6)
  exact q n c l m cs ls ms H6 (Same.back (U4.trans S5) nn) (U3.trans V) hn (V _ _ hc) (hC.same V) ((S5.trans S6) _ _ hl) (hL.same (S5.trans S6)) (S6 _ _ hm) (hM.same S6) (Same.back U2 nc) (Same.back U4 nm) (gNe nm (S4 _ _ hc))
noncomputable def spAllN (K : PySem.W.Frag) : Sp := fun vs H Q _ => ∃ (a : Addr) (us : List V) (ts : List (List Int)) (k : Nat), vs = [.ref a, .int k] ∧ H a = some (.lst us) ∧ RT H us ts ∧ (∀ t ∈ ts, t.length = k) ∧ k ≤ 10 ∧ ts.length ≤ 1000 ∧ ∀ H', Same H H' → Q (.bl true) H'
theorem sc_are_all_numbers : FnScope ["thing", "many"] ["thing", "many"] (defScope s_are_all_numbers) := ⟨rfl, rfl, rfl, by decide +kernel, rfl, by decide +kernel, by decide +kernel⟩
theorem h_are_all_numbers (T : Txt K mg) : Has P w K mg base 3 "are_all_numbers" ["thing", "many"] (spAllN K) := by
  have h_are_numbers := h_are_numbers (P := P) (w := w) (base := base) T
  refine hasJ T.d_are_all_numbers sc_are_all_numbers (fun _ _ _ _ _ _ us hl => L2.usN2 (fun _ _ => rfl) us hl) ?_ fun f cdv A outer s H vs Q E hr h => ?_
  · rintro vs H Q E ⟨a, us, ts, k, rfl, _⟩; rfl
  obtain ⟨a, us, ts, k, rfl, ha, hR, hk, hk2, hl, q⟩ := h
  have hu := hr.units0
  have hu64 := hr.units
  refine ⟨_, (jb_one (js_ret (j_and (j_callB (call_isiK (K := K) rfl) (glF kz1q) T.b_isinstance bt_isinstance (ja_cons (j_vL 0 kz1p) (ja_cons (j_ty (glF kz1r) T.b_list bt_list (by decide +kernel) (by decide +kernel)) ja_nil)) (by decide +kernel) (by decide +kernel)) (j_one (j_callB (call_all rfl) (glF kz1o) T.b_all bt_all (ja_cons (j_comp (sub := [none, some 1]) (subOk_of (N := ["thing", "many"]) (sc := defScope s_are_all_numbers) (N' := ["part", "many"]) (by decide +kernel)) rfl rfl rfl (ji_seq (K := K) rfl (j_vL 0 kz1p)) (fun C s₀ H₀ ex => (jg_B 0 (by decide +kernel) nd_are_all_numbers_0)) (fun C s₀ H₀ ex => jif_nil) (fun C s₀ H₀ ex => (j_call h_are_numbers (hr.mono (by decide)) (glB (by decide +kernel)) (ja_cons (j_vBL 0 (by decide +kernel)) (ja_cons (j_vBF 1 (by decide +kernel)) ja_nil)) (by decide +kernel)))) ja_nil) (by decide +kernel) (by decide +kernel)))))), ?_⟩
  walk_at "sts"
  have hs : 20000 ≤ sizeLine := by decide
  have hul := hR.1
  refine r_isi (.lst ha) rfl ?_
  walk_at "sts"
  refine .inl ⟨a, rfl, ⟨_, SqL.of ha⟩, ?_⟩
  refine comp_listG (xs := us) (fun i ys G => Same H G ∧ ys = (List.range i).map fun _ => V.bl true) (by omega) ⟨Same.refl H, rfl⟩ ?_ ?_ ?_ ?_
  · rintro i ys G ⟨_, rfl⟩
    simp
  · rintro i ys G ⟨s, _⟩
    exact SqL.of (s _ _ ha)
  · rintro i ys G x hx ⟨s, rfl⟩
    obtain ⟨t, ht, b, rfl, hb⟩ := (hR.same s).at hx
    have e := hk t (List.mem_of_getElem? ht)
    walk_at "sts"
    refine ⟨KeepSt.set rfl, ?_⟩
    walk_at "sts"
    refine ⟨b, t, by rw [e], hb, by omega, fun G2 s2 => ?_⟩
    walk_at "sts"
    exact ⟨s.trans s2, mapNext rfl⟩
  rintro ys G D H1 ⟨s0, rfl⟩ nD s1 hD
  rw [trues] at hD
  try walk_at "sts"
  refine ⟨D, _, rfl, hD, ?_⟩
  walk_at "sts"
  rw [trues_all]
  exact q _ (s0.trans s1)
theorem i3s_len (L : List P3) : ∀ t ∈ L.map i3, t.length = 3 := fun t ht => by
  obtain ⟨p, _, rfl⟩ := List.mem_map.mp ht
  rfl
theorem mv_len (A B : List P3) : ∀ t ∈ mv A B, t.length = 6 := fun t ht => by
  obtain ⟨_, _, _, _, _, _, _, rfl⟩ := mv_mem ht
  rfl
noncomputable def spAreNews (K : PySem.W.Frag) : Sp := fun vs H Q _ => ∃ (n : Addr) (A B : List P3), vs = [.ref n] ∧ Nw H n A B ∧ A.length ≤ 1000 ∧ B.length ≤ 1000 ∧ ∀ H', Same H H' → Q (.bl true) H'
theorem sc_are_news : FnScope ["thing"] ["thing"] (defScope s_are_news) := ⟨rfl, rfl, rfl, by decide +kernel, rfl, by decide +kernel, by decide +kernel⟩
theorem h_are_news (T : Txt K mg) : Has P w K mg base 4 "are_news" ["thing"] (spAreNews K) := by
  have h_are_all_numbers := h_are_all_numbers (P := P) (w := w) (base := base) T
  refine hasJ T.d_are_news sc_are_news (fun _ _ _ _ _ _ us hl => L2.usN1 (fun _ => rfl) us hl) ?_ fun f cdv A outer s H vs Q E hr h => ?_
  · rintro vs H Q E ⟨n, A', B, rfl, _⟩; rfl
  obtain ⟨n, A', B, rfl, ⟨c, l, m, cs, ls, ms, h1, h2, h3, h4, h5, h6, h7⟩, lA, lB, q⟩ := h
  have hu := hr.units0
  have hu64 := hr.units
  refine ⟨_, (jb_cons (js_if (jw_pt (jw_or (jt_not (jt_val (j_callB (call_isiK (K := K) rfl) (glF kz1v) T.b_isinstance bt_isinstance (ja_cons (j_vL 0 kz1t) (ja_cons (j_ty (glF kz1w) T.b_tuple bt_tuple (by decide +kernel) (by decide +kernel)) ja_nil)) (by decide +kernel) (by decide +kernel)))) (jw_or1 (jt_cmp (op_neX (K := K) rfl hu64) (j_callB (call_lenK (K := K) rfl) (glF kz1u) T.b_len bt_len (ja_cons (j_vL 0 kz1t) ja_nil) (by decide +kernel) (by decide +kernel)) j_int (by first | exact nomark _ | with_unfolding_all rfl))))) (jb_one (js_ret j_bl)) jb_nil) (jb_one (js_ret (j_and (j_call h_are_all_numbers (hr.mono (by decide)) (glF kz1s) (ja_cons (j_ix (K := K) rfl (j_vL 0 kz1t) j_int) (ja_cons j_int ja_nil)) (by decide +kernel)) (j_and (j_call h_are_all_numbers (hr.mono (by decide)) (glF kz1s) (ja_cons (j_ix (K := K) rfl (j_vL 0 kz1t) j_int) (ja_cons j_int ja_nil)) (by decide +kernel)) (j_one (j_call h_are_all_numbers (hr.mono (by decide)) (glF kz1s) (ja_cons (j_ix (K := K) rfl (j_vL 0 kz1t) j_int) (ja_cons j_int ja_nil)) (by decide +kernel)))))))), ?_⟩
  walk_at "sts"
  refine r_isi (.tup h1) rfl ?_
  walk_at "sts"
  refine r_lenT (SqT.of h1) ?_
  walk_at "sts"
  rw [show (!decide (V.int (([V.ref c, V.ref l, V.ref m] : List V).length : Int) = V.int 3)) = false from rfl]
  walk_at "sts"
  refine ⟨c, cs, _, 3, rfl, h2, h3.rt, i3s_len _, by omega, by have := nam_len B A'; rw [List.length_map]; omega, fun H1 S1 => ?_⟩
  walk_at "sts"
  have h11 := S1 _ _ h1
  walk_at "sts"
  refine ⟨l, ls, _, 3, rfl, S1 _ _ h4, (h5.same S1).rt, i3s_len _, by omega, by have := nam_len A' B; rw [List.length_map]; omega, fun H2 S2 => ?_⟩
  walk_at "sts"
  have h12 := S2 _ _ h11
  walk_at "sts"
  refine ⟨m, ms, _, 6, rfl, S2 _ _ (S1 _ _ h6), h7.same (S1.trans S2), mv_len _ _, by omega, by have := mvK_len (A := A') (B := B) B.length; show (mvK A' B B.length).length ≤ 1000; omega, fun H3 S3 => ?_⟩
  walk_at "sts"
  exact q _ (S1.trans (S2.trans S3))
theorem kptZ_snoc {L : List P3} {k : Nat} {p : P3} (h : L[k]? = some p) : (L.take (k + 1)).map (fun p => (p.2, V.int (p.1 : Int))) = (L.take k).map (fun p => (p.2, V.int (p.1 : Int))) ++ [(p.2, V.int (p.1 : Int))] := by
  rw [List.take_add_one, h, List.map_append]; rfl
theorem look_take {L : List P3} (hn : (L.map (·.2)).Nodup) {k : Nat} {p : P3} (h : L[k]? = some p) : ((L.take k).map fun p => (p.2, V.int (p.1 : Int))).lookup p.2 = none := by
  cases e : ((L.take k).map fun p => (p.2, V.int (p.1 : Int))).lookup p.2 with
  | none => rfl
  | some v =>
    have hm : p.2 ∈ ((L.take k).map fun p => (p.2, V.int (p.1 : Int))).map (·.1) := by
      have := valV_in (k := kp p.2) (by rw [dZ_val]; exact e)
      unfold dZ at this
      rw [List.map_map] at this
      obtain ⟨x, hx, ex⟩ := List.mem_map.mp this
      rw [← kp_inj ex]
      exact List.mem_map.mpr ⟨x, hx, rfl⟩
    rw [List.map_map] at hm
    obtain ⟨q, hq, eq⟩ := List.mem_map.mp hm
    obtain ⟨j, hj, ej⟩ := List.mem_iff_getElem.mp hq
    rw [List.length_take] at hj
    rw [List.getElem_take] at ej
    have hk := (List.getElem?_eq_some_iff.mp h).1
    have := spn_inj hn (i := j) (j := k) (by omega) hk (by rw [spn_at (List.getElem?_eq_getElem (by omega)), spn_at h, ej]; exact eq)
    omega
theorem uZ_snoc (ms : List (List Int)) (m : List Int) (Z : List ((Nat × Nat) × V)) : uZ (ms ++ [m]) Z = updZ (uZ ms Z) (sm m) (.int (cm m)) := by
  unfold uZ
  rw [List.foldl_append]; rfl
noncomputable def spTold (K : PySem.W.Frag) : Sp := fun vs H Q _ => ∃ (a n : Addr) (us : List V) (A B : List P3), vs = [.ref a, .ref n] ∧ H a = some (.lst us) ∧ R3 H us A ∧ Good A ∧ Good B ∧ Nw H n A B ∧ ∀ q ys H', H q = none → Same H H' → H' q = some (.lst ys) → R3 H' ys B → Q (.ref q) H'
theorem sc_told_behind : FnScope ["ahead", "news", "costs", "priced", "moved"] ["ahead", "news"] (defScope s_told_behind) := ⟨rfl, rfl, rfl, by decide +kernel, rfl, by decide +kernel, by decide +kernel⟩
theorem h_told_behind (T : Txt K mg) : Has P w K mg base 4 "told_behind" ["ahead", "news"] (spTold K) := by
  have h_not_among := h_not_among (P := P) (w := w) (base := base) T
  have h_span_of := h_span_of (P := P) (w := w) (base := base) T
  refine hasJ T.d_told_behind sc_told_behind (fun _ _ _ _ _ _ us hl => L2.usN2 (fun _ _ => rfl) us hl) ?_ fun f cdv A outer s H vs Q E hr h => ?_
  · rintro vs H Q E ⟨a, n, us, A', B, rfl, _⟩; rfl
  obtain ⟨a, n, us, A', B, rfl, ha, hA, gA, gB, ⟨c, l, m, cs, ls, ms, h1, h2, h3, h4, h5, h6, h7⟩, q⟩ := h
  have hu := hr.units0
  have hu64 := hr.units
  refine ⟨_, (jb_cons (js_set (i := 2) sc_told_behind.nd rfl (Or.inl kz1y) j_dnewT rfl) (jb_cons (js_for PassesOwn.never rfl (ji_seq (K := K) rfl (j_op op_addA (j_call h_not_among (hr.mono (by decide)) (glF kz21) (ja_cons (j_vL 0 kz22) (ja_cons (j_ix (K := K) rfl (j_vL 1 kz1z) j_int) ja_nil)) (by decide +kernel)) (j_ix (K := K) rfl (j_vL 1 kz1z) j_int))) (jg_name (i := 3) sc_told_behind.nd rfl (Or.inl kz23) rfl) (jb_one (js_asgS (ts := rSetA) (j_ix (K := K) rfl (j_vL 3 kz23) j_int) (jg_sub (j_vL 2 kz1y) (j_call h_span_of (hr.mono (by decide)) (glF kz24) (ja_cons (j_vL 3 kz23) ja_nil) (by decide +kernel)) (set_any hu64))))) (jb_cons (js_for PassesOwn.never rfl (ji_seq (K := K) rfl (j_ix (K := K) rfl (j_vL 1 kz1z) j_int)) (jg_name (i := 4) sc_told_behind.nd rfl (Or.inl kz20) rfl) (jb_one (js_asgS (ts := rSetA) (j_ix (K := K) rfl (j_vL 4 kz20) j_int) (jg_sub (j_vL 2 kz1y) (j_tup (ja_cons (j_ix (K := K) rfl (j_vL 4 kz20) j_int) (ja_cons (j_ix (K := K) rfl (j_vL 4 kz20) j_int) ja_nil))) (set_any hu64))))) (jb_one (js_ret (j_callB call_sortedX (glF kz1x) T.b_sorted bt_sorted (ja_cons (j_comp (sub := [none, none]) (subOk_of (N := ["ahead", "news", "costs", "priced", "moved"]) (sc := defScope s_told_behind) (N' := ["span", "cost"]) (by decide +kernel)) rfl rfl rfl (ji_dTI (j_vL 2 kz1y)) (fun C s₀ H₀ ex => (jg_tup (K := K) (n := 2) rfl rfl (jgs_cons (jg_B 0 (by decide +kernel) nd_told_behind_1) (jgs_cons (jg_B 1 (by decide +kernel) nd_told_behind_1) jgs_nil)))) (fun C s₀ H₀ ex => jif_nil) (fun C s₀ H₀ ex => (j_tup (ja_cons (j_vBL 1 (by decide +kernel)) (ja_cons (j_ix (K := K) rfl (j_vBL 0 (by decide +kernel)) j_int) (ja_cons (j_ix (K := K) rfl (j_vBL 0 (by decide +kernel)) j_int) ja_nil)))))) ja_nil) (by decide +kernel) (by decide +kernel))))))), ?_⟩
  walk_at "sts"
  have hs : 20000 ≤ sizeLine := by decide
  have lA := gA.le
  have lB := gB.le
  intro d nd0
  have S1 := (Same.refl H).upd nd0 (o := .dT [])
  have hd := upd_same (H := H) (a := d) (o := .dT [])
  generalize upd H d (.dT []) = H1 at S1 hd ⊢
  have h11 := S1 _ _ h1
  walk_at "sts"
  refine ⟨a, l, us, ls, A', nam A' B, rfl, S1 _ _ ha, hA.same S1, lA, S1 _ _ h4, h5.same S1, nam_nd gA.nd, by have := nam_len A' B; omega, fun t ts H2 nt S2 ht hT => ?_⟩
  walk_at "sts"
  have h12 := S2 _ _ h11
  walk_at "sts"
  have U2 := S1.trans S2
  have l1 := nam_len A' (nam A' B)
  have l2 := nam_len B A'
  have hcs := h3.1
  have hts := hT.1
  refine r_addL ht (U2 _ _ h2) (by omega) fun ad nad => ?_
  walk_at "sts"
  have S3 := (Same.refl H2).upd nad (o := .lst (ts ++ cs))
  have had := upd_same (H := H2) (a := ad) (o := .lst (ts ++ cs))
  generalize upd H2 ad (.lst (ts ++ cs)) = H3 at S3 had ⊢
  have hK : R3 H3 (ts ++ cs) (kpt A' B) := (hT.same S3).cat (h3.same (U2.trans S3))
  have hkl := hK.1
  have kl : (kpt A' B).length ≤ 2000 := by unfold kpt; rw [List.length_append]; omega
  have nk := kpt_nd gA.nd gB.nd
  have hd3 := S3 _ _ (S2 _ _ hd)
  have U3 := U2.trans S3
  have V3 := S2.trans S3
  refine .inl ⟨ad, rfl, ⟨_, SqL.of had⟩, ?_⟩
  have nad1 : ad ≠ d := fun z => by rw [z, S2 _ _ hd] at nad; cases nad
  refine for_list (xs := ts ++ cs) (fun k σ G => Same H G ∧ G ad = some (.lst (ts ++ cs)) ∧ R3 G (ts ++ cs) (kpt A' B) ∧ G d = some (.dT (dZ (((kpt A' B).take k).map fun p => (p.2, V.int (p.1 : Int))))) ∧ ∃ x3 x4, σ = [some (.ref a), some (.ref n), some (.ref d), x3, x4]) ⟨U3, had, hK, hd3, _, _, rfl⟩ (fun i σ G _ h => SqL.of h.2.1) ?_ ?_
  · rintro k v σ G hv ⟨s, hadG, hKG, hdG, x3, x4, rfl⟩
    obtain ⟨p, hp, b, rfl, hb⟩ := hKG.at hv
    replace hb : G b = some (.tup [.int (p.1 : Int), .int (p.2.1 : Int), .int (p.2.2 : Int)]) := hb
    have hk := (List.getElem?_eq_some_iff.mp hp).1
    walk_at "sts"
    refine ⟨b, p, rfl, hb, fun t' G2 nt' s2 ht' => ?_⟩
    walk_at "sts"
    refine r_setT (s2 _ _ hdG) ht' (by rw [dZ_len, List.length_map, List.length_take]; omega) ?_
    rw [dZ_new (look_take nk hp), ← kptZ_snoc hp]
    refine ⟨Same.put (s.trans s2) nd0, by rw [upd_ne nad1]; exact s2 _ _ hadG, ?_, upd_same, _, _, rfl⟩
    refine ⟨hKG.1, fun i' v' p' e1 e2 => ?_⟩
    obtain ⟨a', rfl, h'⟩ := (hKG.same s2).2 i' v' p' e1 e2
    exact ⟨a', rfl, by rw [upd_ne (fun z => by rw [z, s2 _ _ hdG] at h'; cases h')]; exact h'⟩
  rintro σ H4 ⟨S4, _, _, hd4, x3, x4, rfl⟩
  rw [hkl, List.take_length] at hd4
  have h14 := S4 _ _ h1
  have hM := h7.same S4
  have hml := hM.1
  have mvl : (mv A' B).length ≤ 1000 := by have := mvK_len (A := A') (B := B) B.length; show (mvK A' B B.length).length ≤ 1000; omega
  have mne : m ≠ d := fun z => by rw [z, nd0] at h6; cases h6
  walk_at "sts"
  refine .inl ⟨m, rfl, ⟨_, SqL.of (S4 _ _ h6)⟩, ?_⟩
  refine for_list (xs := ms) (fun k σ G => Same H G ∧ RT G ms (mv A' B) ∧ G d = some (.dT (dZ (uZ ((mv A' B).take k) ((kpt A' B).map fun p => (p.2, V.int (p.1 : Int)))))) ∧ ∃ x3 x4, σ = [some (.ref a), some (.ref n), some (.ref d), x3, x4]) ⟨S4, hM, hd4, _, _, rfl⟩ (fun i σ G _ h => SqL.of (h.1 _ _ h6)) ?_ ?_
  · rintro k v σ G hv ⟨s, hMG, hdG, x3, x4, rfl⟩
    obtain ⟨t', ht', b, rfl, hb⟩ := hMG.at hv
    obtain ⟨i, j, p, r, e1, e2, e3, rfl⟩ := mv_mem (List.mem_of_getElem? ht')
    replace hb : G b = some (.tup [.int (p.2.1 : Int), .int (p.2.2 : Int), .int (r.1 : Int), .int (p.1 : Int), .int (i : Int), .int (j : Int)]) := hb
    walk_at "sts"
    refine r_newO rfl fun t2 G2 nt2 s2 ht2 => ?_
    walk_at "sts"
    have hkey : p.2 ∈ (uZ ((mv A' B).take k) ((kpt A' B).map fun p => (p.2, V.int (p.1 : Int)))).map (·.1) := by
      rw [uZ_keys, List.map_map]
      exact List.mem_map.mpr ⟨r, (kpt_mem gA.nd).mpr (.inl ⟨List.mem_of_getElem? e2, p, List.mem_of_getElem? e1, e3.symm⟩), e3⟩
    have hul : (uZ ((mv A' B).take k) ((kpt A' B).map fun p => (p.2, V.int (p.1 : Int)))).length = (kpt A' B).length := by
      have := congrArg List.length (uZ_keys ((mv A' B).take k) ((kpt A' B).map fun p => (p.2, V.int (p.1 : Int))))
      simpa using this
    refine r_setT (k := kp p.2) (s2 _ _ hdG) ht2 (by rw [dZ_len, hul]; omega) ?_
    rw [dZ_old hkey]
    refine ⟨Same.put (s.trans s2) nd0, ?_, ?_, _, _, rfl⟩
    · refine ⟨hMG.1, fun i' v' p' e1 e2 => ?_⟩
      obtain ⟨a', rfl, h'⟩ := (hMG.same s2).2 i' v' p' e1 e2
      exact ⟨a', rfl, by rw [upd_ne (fun z => by rw [z, s2 _ _ hdG] at h'; cases h')]; exact h'⟩
    · rw [List.take_add_one, ht']
      show _ = some (HO.dT (dZ (uZ ((mv A' B).take k ++ [_]) _)))
      rw [uZ_snoc, show sm [(p.2.1 : Int), (p.2.2 : Int), (r.1 : Int), (p.1 : Int), (i : Int), (j : Int)] = p.2 from Prod.ext (by simp [sm]) (by simp [sm])]
      exact upd_same
  rintro σ H5 ⟨S5, _, hd5, x3', x4', rfl⟩
  rw [hml, List.take_length] at hd5
  obtain ⟨W, eW, pW⟩ := told_dict gA.nd gB.nd
  rw [eW] at hd5
  have wl : W.length = B.length := pW.length_eq
  walk_at "sts"
  refine ⟨d, _, rfl, hd5, fun ob => ?_⟩
  have S6 := Same.put (o := .frz ob (.dT (dZ (W.map fun p => (p.2, V.int (p.1 : Int)))))) S5 nd0
  have hd6 := upd_same (H := H5) (a := d) (o := .frz ob (.dT (dZ (W.map fun p => (p.2, V.int (p.1 : Int))))))
  generalize upd H5 d (.frz ob (.dT (dZ (W.map fun p => (p.2, V.int (p.1 : Int)))))) = H6 at S6 hd6 ⊢
  refine comp_dTI (fun i ys G => Same H G ∧ G d = some (.frz ob (.dT (dZ (W.map fun p => (p.2, V.int (p.1 : Int)))))) ∧ R3 G ys (W.take i)) (by rw [dZ_len, List.length_map]; omega) ⟨S6, hd6, R3.nil⟩ ?_ ?_ ?_ ?_
  · rintro i ys G ⟨_, _, h⟩
    rw [h.1, List.length_take]; omega
  · rintro i ys G ⟨_, h, _⟩
    exact h
  · rintro i ys G T' k v b hk hb nT ⟨s, hdG, hY⟩
    obtain ⟨p, hp, rfl, rfl⟩ : ∃ p, W[i]? = some p ∧ k = kp p.2 ∧ v = .int (p.1 : Int) := by
      unfold dZ at hk
      rw [List.map_map, List.getElem?_map] at hk
      cases e : W[i]? with
      | none => rw [e] at hk; cases hk
      | some p => rw [e] at hk; cases hk; exact ⟨p, rfl, rfl, rfl⟩
    replace hb : G b = some (.tup [.int (p.2.1 : Int), .int (p.2.2 : Int)]) := hb
    have s2 := (Same.refl G).upd nT (o := .tup [.ref b, .int (p.1 : Int)])
    have f2 := upd_same (H := G) (a := T') (o := .tup [.ref b, .int (p.1 : Int)])
    generalize upd G T' (.tup [.ref b, .int (p.1 : Int)]) = G2 at s2 f2 ⊢
    have hb2 := s2 _ _ hb
    refine r_gtup (SqT.of f2) rfl ?_
    walk_at "sts"
    refine ⟨KeepSt.trans (KeepSt.set rfl) (KeepSt.set rfl), ?_⟩
    walk_at "sts"
    refine r_newO rfl fun t2 G3 nt2 s3 ht2 => ?_
    walk_at "sts"
    have s23 := s2.trans s3
    refine ⟨s.trans s23, s23 _ _ hdG, ?_⟩
    rw [List.take_add_one, hp]
    exact (hY.same s23).push ⟨t2, rfl, ht2⟩
  rintro ys G D H7 ⟨s7, _, hY⟩ nD s8 hD
  rw [dZ_len, List.length_map, List.take_length] at hY
  try walk_at "sts"
  refine sort_R3 hD (hY.same s8) (by omega) fun qq zs H8 L nq S8 hq hL pL pwL => ?_
  have U8 := s7.trans (s8.trans S8)
  rw [pw_eq pwL gB.pw (pL.trans pW)] at hL
  try walk_at "sts"
  exact q qq zs H8 (Same.back (s7.trans s8) nq) U8 hq hL
noncomputable def spFoll (K : PySem.W.Frag) : Sp := fun vs H Q _ => ∃ (a n : Addr) (us : List V) (A B : List P3), vs = [.ref a, .ref n] ∧ H a = some (.lst us) ∧ R3 H us A ∧ Good A ∧ Good B ∧ Nw H n A B ∧ ∀ q ys H', H q = none → Same H H' → H' q = some (.lst ys) → R3 H' ys B → Q (.ref q) H'
theorem sc_followed : FnScope ["ahead", "news", "behind"] ["ahead", "news"] (defScope s_followed) := ⟨rfl, rfl, rfl, by decide +kernel, rfl, by decide +kernel, by decide +kernel⟩
theorem h_followed (T : Txt K mg) : Has P w K mg base 8 "followed" ["ahead", "news"] (spFoll K) := by
  have h_need_ranked := h_need_ranked (P := P) (w := w) (base := base) T
  have h_are_news := h_are_news (P := P) (w := w) (base := base) T
  have h_told_behind := h_told_behind (P := P) (w := w) (base := base) T
  have h_is_ranked := h_is_ranked (P := P) (w := w) (base := base) T
  have h_news_of := h_news_of (P := P) (w := w) (base := base) T
  refine hasJ T.d_followed sc_followed (fun _ _ _ _ _ _ us hl => L2.usN2 (fun _ _ => rfl) us hl) ?_ fun f cdv A outer s H vs Q E hr h => ?_
  · rintro vs H Q E ⟨a, n, us, A', B, rfl, _⟩; rfl
  obtain ⟨a, n, us, A', B, rfl, ha, hA, gA, gB, hN, q⟩ := h
  have hu := hr.units0
  have hu64 := hr.units
  refine ⟨_, (jb_cons (js_expr (j_call h_need_ranked (hr.mono (by decide)) (glF kz2c) (ja_cons (j_vL 0 kz27) ja_nil) (by decide +kernel))) (jb_cons (js_if (jt_not (jt_val (j_call h_are_news (hr.mono (by decide)) (glF kz2b) (ja_cons (j_vL 1 kz28) ja_nil) (by decide +kernel)))) (jb_one js_never) jb_nil) (jb_cons (js_set (i := 2) sc_followed.nd rfl (Or.inl kz25) (j_call h_told_behind (hr.mono (by decide)) (glF kz2a) (ja_cons (j_vL 0 kz27) (ja_cons (j_vL 1 kz28) ja_nil)) (by decide +kernel)) rfl) (jb_cons (js_if (jw_pt (jw_or (jt_not (jt_val (j_call h_is_ranked (hr.mono (by decide)) (glF kz29) (ja_cons (j_vL 2 kz25) ja_nil) (by decide +kernel)))) (jw_or1 (jt_cmp (op_neX (K := K) rfl hu64) (j_call h_news_of (hr.mono (by decide)) (glF kz26) (ja_cons (j_vL 0 kz27) (ja_cons (j_vL 2 kz25) ja_nil)) (by decide +kernel)) (j_vL 1 kz28) (by first | exact nomark _ | with_unfolding_all rfl))))) (jb_one js_never) jb_nil) (jb_one (js_ret (j_vL 2 kz25))))))), ?_⟩
  walk_at "sts"
  refine ⟨a, us, A', rfl, ha, hA, gA, fun H1 S1 => ?_⟩
  walk_at "sts"
  refine ⟨n, A', B, rfl, hN.same S1, gA.le, gB.le, fun H2 S2 => ?_⟩
  walk_at "sts"
  have U2 := S1.trans S2
  refine ⟨a, n, us, A', B, rfl, U2 _ _ ha, hA.same U2, gA, gB, hN.same U2, fun t ts H3 nt S3 ht hT => ?_⟩
  walk_at "sts"
  have U3 := U2.trans S3
  refine ⟨t, ts, B, rfl, ht, hT, gB, fun H4 S4 => ?_⟩
  walk_at "sts"
  have U4 := U3.trans S4
  refine ⟨a, t, us, ts, A', B, rfl, U4 _ _ ha, hA.same U4, gA, S4 _ _ ht, hT.same S4, gB, fun n2 c l m cs ls ms H5 nn S5 z1 z2 z3 z4 z5 z6 z7 _ _ _ => ?_⟩
  walk_at "sts"
  have U5 := U4.trans S5
  refine r_neSame (Nw.dr ⟨c, l, m, cs, ls, ms, z1, z2, z3, z4, z5, z6, z7⟩) (hN.same U5).dr (nwD_sh _ _) ?_
  walk_at "sts"
  exact q t ts H5 (Same.back U2 nt) U5 (S5 _ _ (S4 _ _ ht)) (hT.same (S4.trans S5))
end

section
variable {P : Program} {w : World} {K : PySem.W.Frag} {mg : Str → Option Value} {base : Heap}
theorem nd_law_tuples_0 : (["_law_one"] : List Str).Nodup := by decide +kernel
theorem kz2d : (defScope s_law_cell).names.lookup ("_law_k" : Str) = some NameKind.local := by decide +kernel
theorem kz2e : (defScope s_law_cell).names.lookup ("len" : Str) = some NameKind.globalImplicit := by decide +kernel
theorem kz2f : (defScope s_law_cell).names.lookup ("_law_script" : Str) = some NameKind.local := by decide +kernel
theorem kz2g : (defScope s_law_drawn).names.lookup ("_law_found" : Str) = some NameKind.local := by decide +kernel
theorem kz2h : (defScope s_law_drawn).names.lookup ("range" : Str) = some NameKind.globalImplicit := by decide +kernel
theorem kz2i : (defScope s_law_drawn).names.lookup ("len" : Str) = some NameKind.globalImplicit := by decide +kernel
theorem kz2j : (defScope s_law_drawn).names.lookup ("_law_menus" : Str) = some NameKind.local := by decide +kernel
theorem kz2k : (defScope s_law_drawn).names.lookup ("_law_k" : Str) = some NameKind.local := by decide +kernel
theorem kz2l : (defScope s_law_drawn).names.lookup ("_law_left" : Str) = some NameKind.local := by decide +kernel
theorem kz2m : (defScope s_law_drawn).names.lookup ("_law_cell_here" : Str) = some NameKind.local := by decide +kernel
theorem kz2n : (defScope s_law_drawn).names.lookup ("_law_number" : Str) = some NameKind.local := by decide +kernel
theorem kz2o : (defScope s_law_tuples).names.lookup ("_law_found" : Str) = some NameKind.local := by decide +kernel
theorem kz2p : (defScope s_law_tuples).names.lookup ("_law_row" : Str) = some NameKind.local := by decide +kernel
theorem kz2q : (defScope s_law_tuples).names.lookup ("all" : Str) = some NameKind.globalImplicit := by decide +kernel
theorem kz2r : (defScope s_law_tuples).names.lookup ("len" : Str) = some NameKind.globalImplicit := by decide +kernel
theorem kz2s : (defScope s_law_tuples).names.lookup ("_law_size" : Str) = some NameKind.local := by decide +kernel
theorem kz2t : (defScope s_law_tuples).names.lookup ("isinstance" : Str) = some NameKind.globalImplicit := by decide +kernel
theorem kz2u : (defScope s_law_tuples).names.lookup ("tuple" : Str) = some NameKind.globalImplicit := by decide +kernel
theorem kz2v : (defScope s_law_tuples).names.lookup ("list" : Str) = some NameKind.globalImplicit := by decide +kernel
theorem kz2w : (defScope s_law_news_kind).names.lookup ("_law_tuples" : Str) = some NameKind.globalImplicit := by decide +kernel
theorem kz2x : (defScope s_law_news_kind).names.lookup ("_law_found" : Str) = some NameKind.local := by decide +kernel
theorem kz2y : (defScope s_law_news_kind).names.lookup ("len" : Str) = some NameKind.globalImplicit := by decide +kernel
theorem kz2z : (defScope s_law_news_kind).names.lookup ("isinstance" : Str) = some NameKind.globalImplicit := by decide +kernel
theorem kz30 : (defScope s_law_news_kind).names.lookup ("tuple" : Str) = some NameKind.globalImplicit := by decide +kernel
theorem kz31 : (defScope s_law_ranks).names.lookup ("_law_found" : Str) = some NameKind.local := by decide +kernel
theorem kz32 : (defScope s_law_ranks).names.lookup ("range" : Str) = some NameKind.globalImplicit := by decide +kernel
theorem kz33 : (defScope s_law_ranks).names.lookup ("len" : Str) = some NameKind.globalImplicit := by decide +kernel
theorem kz34 : (defScope s_law_ranks).names.lookup ("_law_rows" : Str) = some NameKind.local := by decide +kernel
theorem kz35 : (defScope s_law_ranks).names.lookup ("_law_k" : Str) = some NameKind.local := by decide +kernel
noncomputable def spCell (K : PySem.W.Frag) : Sp := fun vs H Q _ => ∃ (a : Addr) (ns : List Int) (k : Nat), vs = [.ref a, .int k] ∧ SqL K H a (ns.map V.int) ∧ ∀ n, Q (.int n) H
theorem sc_law_cell : FnScope ["_law_script", "_law_k"] ["_law_script", "_law_k"] (defScope s_law_cell) := ⟨rfl, rfl, rfl, by decide +kernel, rfl, by decide +kernel, by decide +kernel⟩
theorem h_law_cell (T : Txt K mg) : Has P w K mg base 1 "_law_cell" ["_law_script", "_law_k"] (spCell K) := by
  refine hasJ T.d_law_cell sc_law_cell (fun _ _ _ _ _ _ us hl => L2.usN2 (fun _ _ => rfl) us hl) ?_ fun f cdv A outer s H vs Q E hr h => ?_
  · rintro vs H Q E ⟨a, ns, k, rfl, _⟩; rfl
  obtain ⟨a, ns, k, rfl, hS, q⟩ := h
  have hu := hr.units0
  have hu64 := hr.units
  refine ⟨_, (jb_cons (js_if (jt_cmp (op_ltA (K := K) rfl hu64) (j_vL 1 kz2d) (j_callB (call_lenK (K := K) rfl) (glF kz2e) T.b_len bt_len (ja_cons (j_vL 0 kz2f) ja_nil) (by decide +kernel) (by decide +kernel)) (by first | exact nomark _ | with_unfolding_all rfl)) (jb_one (js_ret (j_ix (K := K) rfl (j_vL 0 kz2f) (j_vL 1 kz2d)))) jb_nil) (jb_one (js_ret j_int))), ?_⟩
  walk_at "sts"
  refine r_lenL hS ?_
  walk_at "sts"
  rw [List.length_map]
  refine iteD (fun h => ?_) (fun h => ?_)
  · have hk : k < ns.length := by omega
    walk_at "sts"
    refine r_ixL hS (atI_nat (show (ns.map V.int)[k]? = some (.int ns[k]) by rw [List.getElem?_map, List.getElem?_eq_getElem hk]; rfl)) ?_
    walk_at "sts"
    exact q _
  · walk_at "sts"
    exact q _
noncomputable def Fits (ms bs : List Int) : Prop := ms.length = bs.length ∧ ∀ (i : Nat) (m b : Int), ms[i]? = some m → bs[i]? = some b → 0 ≤ m ∧ m < b
theorem Fits.push {ms bs : List Int} {k : Nat} {m b : Int} (h : Fits ms (bs.take k)) (hb : bs[k]? = some b) (h0 : 0 ≤ m) (h1 : m < b) : Fits (ms ++ [m]) (bs.take (k + 1)) := by
  have hk : k < bs.length := (List.getElem?_eq_some_iff.mp hb).1
  have hl : ms.length = k := by rw [h.1, List.length_take]; omega
  refine ⟨by simp; omega, fun i m' b' e1 e2 => ?_⟩
  by_cases hi : i < k
  · rw [List.getElem?_append_left (by omega)] at e1
    rw [List.getElem?_take_of_lt (by omega)] at e2
    exact h.2 i m' b' e1 (by rw [List.getElem?_take_of_lt hi]; exact e2)
  · have hi2 : i < k + 1 := by have := (List.getElem?_eq_some_iff.mp e1).1; simp at this; omega
    obtain rfl : i = k := by omega
    rw [List.getElem?_append_right (by omega), hl, Nat.sub_self] at e1
    rw [List.getElem?_take_of_lt (by omega), hb] at e2
    cases e1; cases e2
    exact ⟨h0, h1⟩
noncomputable def spDrawn (K : PySem.W.Frag) : Sp := fun vs H Q _ => ∃ (n : Int) (b : Addr) (bs : List Int), vs = [.int n, .ref b] ∧ H b = some (.lst (bs.map V.int)) ∧ bs.length ≤ 1000 ∧ (∀ x ∈ bs, 0 < x ∧ x < 1073741824) ∧
  ∀ (q : Addr) (ms : List Int) (H' : Hp), H q = none → Same H H' → H' q = some (.lst (ms.map V.int)) → Fits ms bs → Q (.ref q) H'
theorem sc_law_drawn : FnScope ["_law_cell_here", "_law_menus", "_law_found", "_law_left", "_law_number", "_law_k"] ["_law_cell_here", "_law_menus"] (defScope s_law_drawn) := ⟨rfl, rfl, rfl, by decide +kernel, rfl, by decide +kernel, by decide +kernel⟩
theorem h_law_drawn (T : Txt K mg) : Has P w K mg base 1 "_law_drawn" ["_law_cell_here", "_law_menus"] (spDrawn K) := by
  refine hasJ T.d_law_drawn sc_law_drawn (fun _ _ _ _ _ _ us hl => L2.usN2 (fun _ _ => rfl) us hl) ?_ fun f cdv A outer s H vs Q E hr h => ?_
  · rintro vs H Q E ⟨n, b, bs, rfl, _⟩; rfl
  obtain ⟨n, b, bs, rfl, hb, hlen, hbs, q⟩ := h
  have hu := hr.units0
  have hu64 := hr.units
  refine ⟨_, (jb_cons (js_set (i := 2) sc_law_drawn.nd rfl (Or.inl kz2g) (j_lst ja_nil) rfl) (jb_cons (js_set (i := 3) sc_law_drawn.nd rfl (Or.inl kz2l) (j_vL 0 kz2m) rfl) (jb_cons (js_set (i := 4) sc_law_drawn.nd rfl (Or.inl kz2n) (j_op op_addA (j_op op_mod (j_vL 0 kz2m) j_int) j_int) rfl) (jb_cons (js_for PassesOwn.never rfl (ji_range1 (glF kz2h) T.b_range (ja_cons (j_callB (call_lenK (K := K) rfl) (glF kz2i) T.b_len bt_len (ja_cons (j_vL 1 kz2j) ja_nil) (by decide +kernel) (by decide +kernel)) ja_nil)) (jg_name (i := 5) sc_law_drawn.nd rfl (Or.inl kz2k) rfl) (jb_cons (js_set (i := 4) sc_law_drawn.nd rfl (Or.inl kz2n) (j_op op_mod (j_op op_addA (j_op op_addA (j_op op_mulA (j_vL 4 kz2n) (j_vL 4 kz2n)) (j_op op_mulA j_int (j_vL 4 kz2n))) (j_vL 5 kz2k)) j_int) rfl) (jb_cons (js_set (i := 4) sc_law_drawn.nd rfl (Or.inl kz2n) (j_op op_mod (j_op op_addA (j_op op_addA (j_op op_mulA (j_vL 4 kz2n) j_int) (j_op op_mulA j_int (j_vL 5 kz2k))) j_int) j_int) rfl) (jb_one (js_if (jw_pt (jw_and (jt_cmp op_ge (j_vL 0 kz2m) (j_op op_pow j_int j_int) (by first | exact nomark _ | with_unfolding_all rfl)) (jw_and1 (jt_cmp op_gt (j_vL 3 kz2l) j_int (by first | exact nomark _ | with_unfolding_all rfl))))) (jb_cons (js_expr (j_meth (K := K) rfl PySem.F.plainAttrs_list PySem.F.slot_list_append PySem.F.type_list_append mt_append (j_vL 2 kz2g) (ja_cons (j_op op_mod (j_vL 3 kz2l) (j_ix (K := K) rfl (j_vL 1 kz2j) (j_vL 5 kz2k))) ja_nil))) (jb_one (js_set (i := 3) sc_law_drawn.nd rfl (Or.inl kz2l) (j_op op_fdivW (j_vL 3 kz2l) (j_ix (K := K) rfl (j_vL 1 kz2j) (j_vL 5 kz2k))) rfl))) (jb_one (js_expr (j_meth (K := K) rfl PySem.F.plainAttrs_list PySem.F.slot_list_append PySem.F.type_list_append mt_append (j_vL 2 kz2g) (ja_cons (j_op op_mod (j_op op_fdivW (j_vL 4 kz2n) j_int) (j_ix (K := K) rfl (j_vL 1 kz2j) (j_vL 5 kz2k))) ja_nil))))))))) (jb_one (js_ret (j_vL 2 kz2g))))))), ?_⟩
  walk_at "sts"
  have hs : 20000 ≤ sizeLine := by decide
  refine r_newO rfl fun f H1 nf S1 hf => ?_
  walk_at "sts"
  have hm0 := Int.emod_nonneg n (show (2147483629 : Int) ≠ 0 by omega)
  have hm1 := Int.emod_lt_of_pos n (show (0 : Int) < 2147483629 by omega)
  refine r_lenL (SqL.of (S1 _ _ hb)) ?_
  walk_at "sts"
  rw [List.length_map]
  refine ⟨_, rfl, by omega, by omega, ?_⟩
  rw [show ((bs.length : Int)).toNat = bs.length by omega]
  refine for_range (n := bs.length) (fun k σ G => ∃ (l N : Int) (ms : List Int) (x5 : Option V), σ = [some (.int n), some (.ref b), some (.ref f), some (.int l), some (.int N), x5] ∧ 0 ≤ N ∧ N < 2147600000 ∧ Same H G ∧ G f = some (.lst (ms.map V.int)) ∧ Fits ms (bs.take k)) ⟨n, _, [], _, rfl, by omega, by omega, S1, hf, rfl, fun i m b e => by simp at e⟩ ?_ ?_
  · rintro k σ G hk ⟨l, N, ms, x5, rfl, hN0, hN1, s, hfG, hF⟩
    rw [Int.zero_add]
    have hbb := List.getElem?_eq_getElem hk
    obtain ⟨p0, p1⟩ := hbs bs[k] (List.getElem_mem hk)
    have hbV : (bs.map V.int)[k]? = some (.int bs[k]) := by rw [List.getElem?_map, hbb]; rfl
    have hml : ms.length ≤ 1000 := by rw [hF.1, List.length_take]; omega
    walk_at "sts"
    obtain ⟨M, eM⟩ : ∃ M, (N * N + 48271 * N + (k : Int)) % 2147483647 = M := ⟨_, rfl⟩
    have hM0 : 0 ≤ M := by rw [← eM]; exact Int.emod_nonneg _ (by omega)
    have hM1 : M < 2147483647 := by rw [← eM]; exact Int.emod_lt_of_pos _ (by omega)
    rw [eM]
    clear eM
    walk_at "sts"
    obtain ⟨M2, eM2⟩ : ∃ M2, (M * 69621 + 11 * (k : Int) + 5) % 2147483629 = M2 := ⟨_, rfl⟩
    have hM20 : 0 ≤ M2 := by rw [← eM2]; exact Int.emod_nonneg _ (by omega)
    have hM21 : M2 < 2147483629 := by rw [← eM2]; exact Int.emod_lt_of_pos _ (by omega)
    rw [eM2]
    clear eM2
    have B1 : ∀ (m : Int) (x5 : Option V) (l' : Int), 0 ≤ m → m < bs[k] → ∃ (l N : Int) (ms' : List Int) (x5' : Option V), [some (.int n), some (.ref b), some (.ref f), some (.int l'), some (.int M2), x5] = [some (.int n), some (.ref b), some (.ref f), some (.int l), some (.int N), x5'] ∧ 0 ≤ N ∧ N < 2147600000 ∧ Same H (upd G f (.lst (ms.map V.int ++ [V.int m]))) ∧ upd G f (.lst (ms.map V.int ++ [V.int m])) f = some (.lst (ms'.map V.int)) ∧ Fits ms' (bs.take (k + 1)) := fun m x5 l' h0 h1 =>
      ⟨l', M2, ms ++ [m], x5, rfl, hM20, by omega, Same.put s nf, by rw [List.map_append]; exact upd_same, hF.push hbb h0 h1⟩
    refine iteD (fun h => ?_) (fun h => ?_)
    · clear h
      walk_at "sts"
      refine iteD (fun h => ?_) (fun h => ?_)
      · walk_at "sts"
        refine ⟨.inl ⟨rfl, _, SqL.of hfG⟩, ?_⟩
        walk_at "sts"
        refine r_ixL (SqL.of (s _ _ hb)) (atI_nat hbV) ?_
        walk_at "sts"
        refine r_append hfG (by rw [List.length_map]; omega) ?_
        walk_at "sts"
        refine r_ixL (SqL.of ((Same.put s nf) _ _ hb)) (atI_nat hbV) ?_
        walk_at "sts"
        exact B1 _ _ _ (Int.emod_nonneg _ (by omega)) (Int.emod_lt_of_pos _ p0)
      · walk_at "sts"
        refine ⟨.inl ⟨rfl, _, SqL.of hfG⟩, ?_⟩
        walk_at "sts"
        refine r_ixL (SqL.of (s _ _ hb)) (atI_nat hbV) ?_
        walk_at "sts"
        refine r_append hfG (by rw [List.length_map]; omega) ?_
        walk_at "sts"
        exact B1 _ _ _ (Int.emod_nonneg _ (by omega)) (Int.emod_lt_of_pos _ p0)
    · clear h
      walk_at "sts"
      refine ⟨.inl ⟨rfl, _, SqL.of hfG⟩, ?_⟩
      walk_at "sts"
      refine r_ixL (SqL.of (s _ _ hb)) (atI_nat hbV) ?_
      walk_at "sts"
      refine r_append hfG (by rw [List.length_map]; omega) ?_
      walk_at "sts"
      exact B1 _ _ _ (Int.emod_nonneg _ (by omega)) (Int.emod_lt_of_pos _ p0)
  · rintro σ G ⟨l, N, ms, x5, rfl, _, _, s, hfG, hF⟩
    walk_at "sts"
    rw [List.take_length] at hF
    exact q f ms G nf s hfG hF
noncomputable def spTuples (K : PySem.W.Frag) : Sp := fun vs H Q _ => ∃ (a : Addr) (us : List V) (ts : List (List Int)) (k : Nat), vs = [.ref a, .int k] ∧ H a = some (.lst us) ∧ RT H us ts ∧ (∀ t ∈ ts, t.length = k) ∧ k ≤ 10 ∧ ts.length ≤ 1000 ∧ ∀ H', Same H H' → Q (.bl true) H'
theorem sc_law_tuples : FnScope ["_law_found", "_law_size", "_law_row"] ["_law_found", "_law_size"] (defScope s_law_tuples) := ⟨rfl, rfl, rfl, by decide +kernel, rfl, by decide +kernel, by decide +kernel⟩
theorem h_law_tuples (T : Txt K mg) : Has P w K mg base 1 "_law_tuples" ["_law_found", "_law_size"] (spTuples K) := by
  refine hasJ T.d_law_tuples sc_law_tuples (fun _ _ _ _ _ _ us hl => L2.usN2 (fun _ _ => rfl) us hl) ?_ fun f cdv A outer s H vs Q E hr h => ?_
  · rintro vs H Q E ⟨a, us, ts, k, rfl, _⟩; rfl
  obtain ⟨a, us, ts, k, rfl, ha, hR, hk, hk2, hl, q⟩ := h
  have hu := hr.units0
  have hu64 := hr.units
  refine ⟨_, (jb_cons (js_if (jt_not (jt_val (j_callB (call_isiK (K := K) rfl) (glF kz2t) T.b_isinstance bt_isinstance (ja_cons (j_vL 0 kz2o) (ja_cons (j_ty (glF kz2v) T.b_list bt_list (by decide +kernel) (by decide +kernel)) ja_nil)) (by decide +kernel) (by decide +kernel)))) (jb_one (js_ret j_bl)) jb_nil) (jb_cons (js_for PassesOwn.never rfl (ji_seq (K := K) rfl (j_vL 0 kz2o)) (jg_name (i := 2) sc_law_tuples.nd rfl (Or.inl kz2p) rfl) (jb_cons (js_if (jw_pt (jw_or (jt_not (jt_val (j_callB (call_isiK (K := K) rfl) (glF kz2t) T.b_isinstance bt_isinstance (ja_cons (j_vL 2 kz2p) (ja_cons (j_ty (glF kz2u) T.b_tuple bt_tuple (by decide +kernel) (by decide +kernel)) ja_nil)) (by decide +kernel) (by decide +kernel)))) (jw_or1 (jt_cmp (op_neX (K := K) rfl hu64) (j_callB (call_lenK (K := K) rfl) (glF kz2r) T.b_len bt_len (ja_cons (j_vL 2 kz2p) ja_nil) (by decide +kernel) (by decide +kernel)) (j_vL 1 kz2s) (by first | exact nomark _ | with_unfolding_all rfl))))) (jb_one (js_ret j_bl)) jb_nil) (jb_one (js_if (jt_not (jt_val (j_callB (call_all rfl) (glF kz2q) T.b_all bt_all (ja_cons (j_comp (sub := [none]) (subOk_of (N := ["_law_found", "_law_size", "_law_row"]) (sc := defScope s_law_tuples) (N' := ["_law_one"]) (by decide +kernel)) rfl rfl rfl (ji_seq (K := K) rfl (j_vL 2 kz2p)) (fun C s₀ H₀ ex => (jg_B 0 (by decide +kernel) nd_law_tuples_0)) (fun C s₀ H₀ ex => jif_nil) (fun C s₀ H₀ ex => (j_and (j_callB (call_isiK (K := K) rfl) (glB (by decide +kernel)) T.b_isinstance bt_isinstance (ja_cons (j_vBL 0 (by decide +kernel)) (ja_cons (j_ty (glB (by decide +kernel)) T.b_int bt_int (by decide +kernel) (by decide +kernel)) ja_nil)) (by decide +kernel) (by decide +kernel)) (j_one (j_not (j_callB (call_isiK (K := K) rfl) (glB (by decide +kernel)) T.b_isinstance bt_isinstance (ja_cons (j_vBL 0 (by decide +kernel)) (ja_cons (j_ty (glB (by decide +kernel)) T.b_bool bt_bool (by decide +kernel) (by decide +kernel)) ja_nil)) (by decide +kernel) (by decide +kernel))))))) ja_nil) (by decide +kernel) (by decide +kernel)))) (jb_one (js_ret j_bl)) jb_nil)))) (jb_one (js_ret j_bl)))), ?_⟩
  walk_at "sts"
  have hs : 20000 ≤ sizeLine := by decide
  have hul := hR.1
  refine r_isi (.lst ha) rfl ?_
  walk_at "sts"
  refine .inl ⟨a, rfl, ⟨_, SqL.of ha⟩, ?_⟩
  refine for_list (xs := us) (fun i σ G => Same H G ∧ ∃ x2, σ = [some (.ref a), some (.int (k : Int)), x2]) ⟨Same.refl H, _, rfl⟩ (fun i σ G _ h => SqL.of (h.1 _ _ ha)) ?_ ?_
  · rintro i v σ G hv ⟨s, x2, rfl⟩
    obtain ⟨t, ht, b, rfl, hb⟩ := (hR.same s).at hv
    have e := hk t (List.mem_of_getElem? ht)
    walk_at "sts"
    refine r_isi (.tup hb) rfl ?_
    walk_at "sts"
    refine r_lenT (SqT.of hb) ?_
    walk_at "sts"
    rw [List.length_map, e, decide_eq_true rfl]
    walk_at "sts"
    refine .inr (.inl ⟨b, rfl, ⟨_, SqT.of hb⟩, ?_⟩)
    refine comp_tupG (xs := t.map V.int) (fun i ys G' => G' = G ∧ ys = (List.range i).map fun _ => V.bl true) (by rw [List.length_map]; omega) ⟨rfl, rfl⟩ ?_ ?_ ?_ ?_
    · rintro i ys G' ⟨_, rfl⟩
      simp
    · rintro i ys G' ⟨rfl, _⟩
      exact SqT.of hb
    · rintro i ys G' x hx ⟨rfl, rfl⟩
      obtain ⟨n, _, rfl⟩ := List.mem_map.mp (List.mem_of_getElem? hx)
      walk_at "sts"
      refine ⟨KeepSt.set rfl, ?_⟩
      walk_at "sts"
      refine r_isi (.int _) rfl ?_
      walk_at "sts"
      refine r_isi (.int _) rfl ?_
      walk_at "sts"
      exact ⟨rfl, mapNext rfl⟩
    · rintro ys G' D G2 ⟨rfl, rfl⟩ nD s2 hD
      rw [trues] at hD
      try walk_at "sts"
      refine ⟨D, _, rfl, hD, ?_⟩
      walk_at "sts"
      rw [trues_all]
      walk_at "sts"
      exact ⟨s.trans s2, _, rfl⟩
  · rintro σ G ⟨s, x2, rfl⟩
    walk_at "sts"
    exact q _ s
noncomputable def spKind (K : PySem.W.Frag) : Sp := fun vs H Q _ => ∃ (n : Addr) (A B : List P3), vs = [.ref n] ∧ Nw H n A B ∧ A.length ≤ 1000 ∧ B.length ≤ 1000 ∧ ∀ H', Same H H' → Q (.bl true) H'
theorem sc_law_news_kind : FnScope ["_law_found"] ["_law_found"] (defScope s_law_news_kind) := ⟨rfl, rfl, rfl, by decide +kernel, rfl, by decide +kernel, by decide +kernel⟩
theorem h_law_news_kind (T : Txt K mg) : Has P w K mg base 2 "_law_news_kind" ["_law_found"] (spKind K) := by
  have h_law_tuples := h_law_tuples (P := P) (w := w) (base := base) T
  refine hasJ T.d_law_news_kind sc_law_news_kind (fun _ _ _ _ _ _ us hl => L2.usN1 (fun _ => rfl) us hl) ?_ fun f cdv A outer s H vs Q E hr h => ?_
  · rintro vs H Q E ⟨n, A', B, rfl, _⟩; rfl
  obtain ⟨n, A', B, rfl, ⟨c, l, m, cs, ls, ms, h1, h2, h3, h4, h5, h6, h7⟩, lA, lB, q⟩ := h
  have hu := hr.units0
  have hu64 := hr.units
  refine ⟨_, (jb_cons (js_if (jw_pt (jw_or (jt_not (jt_val (j_callB (call_isiK (K := K) rfl) (glF kz2z) T.b_isinstance bt_isinstance (ja_cons (j_vL 0 kz2x) (ja_cons (j_ty (glF kz30) T.b_tuple bt_tuple (by decide +kernel) (by decide +kernel)) ja_nil)) (by decide +kernel) (by decide +kernel)))) (jw_or1 (jt_cmp (op_neX (K := K) rfl hu64) (j_callB (call_lenK (K := K) rfl) (glF kz2y) T.b_len bt_len (ja_cons (j_vL 0 kz2x) ja_nil) (by decide +kernel) (by decide +kernel)) j_int (by first | exact nomark _ | with_unfolding_all rfl))))) (jb_one (js_ret j_bl)) jb_nil) (jb_one (js_ret (j_and (j_call h_law_tuples (hr.mono (by decide)) (glF kz2w) (ja_cons (j_ix (K := K) rfl (j_vL 0 kz2x) j_int) (ja_cons j_int ja_nil)) (by decide +kernel)) (j_and (j_call h_law_tuples (hr.mono (by decide)) (glF kz2w) (ja_cons (j_ix (K := K) rfl (j_vL 0 kz2x) j_int) (ja_cons j_int ja_nil)) (by decide +kernel)) (j_one (j_call h_law_tuples (hr.mono (by decide)) (glF kz2w) (ja_cons (j_ix (K := K) rfl (j_vL 0 kz2x) j_int) (ja_cons j_int ja_nil)) (by decide +kernel)))))))), ?_⟩
  walk_at "sts"
  refine r_isi (.tup h1) rfl ?_
  walk_at "sts"
  refine r_lenT (SqT.of h1) ?_
  walk_at "sts"
  rw [show (!decide (V.int (([V.ref c, V.ref l, V.ref m] : List V).length : Int) = V.int 3)) = false from rfl]
  walk_at "sts"
  refine ⟨c, cs, _, 3, rfl, h2, h3.rt, i3s_len _, by omega, by have := nam_len B A'; rw [List.length_map]; omega, fun H1 S1 => ?_⟩
  walk_at "sts"
  have h11 := S1 _ _ h1
  walk_at "sts"
  refine ⟨l, ls, _, 3, rfl, S1 _ _ h4, (h5.same S1).rt, i3s_len _, by omega, by have := nam_len A' B; rw [List.length_map]; omega, fun H2 S2 => ?_⟩
  walk_at "sts"
  have h12 := S2 _ _ h11
  walk_at "sts"
  refine ⟨m, ms, _, 6, rfl, S2 _ _ (S1 _ _ h6), h7.same (S1.trans S2), mv_len _ _, by omega, by have := mvK_len (A := A') (B := B) B.length; show (mvK A' B B.length).length ≤ 1000; omega, fun H3 S3 => ?_⟩
  walk_at "sts"
  exact q _ (S1.trans (S2.trans S3))
noncomputable def RkT (H : Hp) (L : List P3) (f : Nat → V) (n : Nat) : Prop := ∀ (i : Nat) (p : P3), i < n → L[i]? = some p → ∃ t, f i = .ref t ∧ H t = some (.tup [.int (p.1 : Int), .int (i : Int)])
theorem RkT.same {H H' : Hp} {L : List P3} {f : Nat → V} {n : Nat} (h : RkT H L f n) (s : Same H H') : RkT H' L f n := fun i p hi hp => by
  obtain ⟨t, e, ht⟩ := h i p hi hp
  exact ⟨t, e, s _ _ ht⟩
theorem rkZ_congr {L : List P3} {f g : Nat → V} {n : Nat} (h : ∀ i, i < n → f i = g i) : rkZ L f n = rkZ L g n := List.map_congr_left fun i hi => by rw [h i (List.mem_range.mp hi)]
noncomputable def spLR (K : PySem.W.Frag) : Sp := fun vs H Q _ => ∃ (a : Addr) (us : List V) (L : List P3), vs = [.ref a] ∧ H a = some (.lst us) ∧ R3 H us L ∧ (L.map (·.2)).Nodup ∧ L.length ≤ 1000 ∧ ∀ d f H', H d = none → Same H H' → H' d = some (.dT (dZ (rkZ L f L.length))) → RkT H' L f L.length → Q (.ref d) H'
theorem sc_law_ranks : FnScope ["_law_rows", "_law_found", "_law_k"] ["_law_rows"] (defScope s_law_ranks) := ⟨rfl, rfl, rfl, by decide +kernel, rfl, by decide +kernel, by decide +kernel⟩
theorem h_law_ranks (T : Txt K mg) : Has P w K mg base 1 "_law_ranks" ["_law_rows"] (spLR K) := by
  refine hasJ T.d_law_ranks sc_law_ranks (fun _ _ _ _ _ _ us hl => L2.usN1 (fun _ => rfl) us hl) ?_ fun f cdv A outer s H vs Q E hr h => ?_
  · rintro vs H Q E ⟨a, us, L, rfl, _⟩; rfl
  obtain ⟨a, us, L, rfl, ha, hR, hn, hl, q⟩ := h
  have hu := hr.units0
  have hu64 := hr.units
  refine ⟨_, (jb_cons (js_set (i := 1) sc_law_ranks.nd rfl (Or.inl kz31) j_dnewT rfl) (jb_cons (js_for PassesOwn.never rfl (ji_range1 (glF kz32) T.b_range (ja_cons (j_callB (call_lenK (K := K) rfl) (glF kz33) T.b_len bt_len (ja_cons (j_vL 0 kz34) ja_nil) (by decide +kernel) (by decide +kernel)) ja_nil)) (jg_name (i := 2) sc_law_ranks.nd rfl (Or.inl kz35) rfl) (jb_one (js_asgS (ts := rSetA) (j_tup (ja_cons (j_ix (K := K) rfl (j_ix (K := K) rfl (j_vL 0 kz34) (j_vL 2 kz35)) j_int) (ja_cons (j_vL 2 kz35) ja_nil))) (jg_sub (j_vL 1 kz31) (j_slice (sl_seqX (K := K) rfl) (j_ix (K := K) rfl (j_vL 0 kz34) (j_vL 2 kz35)) (jo_some j_int) jo_none) (set_any hu64))))) (jb_one (js_ret (j_vL 1 kz31))))), ?_⟩
  walk_at "sts"
  have hs : 20000 ≤ sizeLine := by decide
  intro d nd0
  have S1 := (Same.refl H).upd nd0 (o := .dT [])
  have hd := upd_same (H := H) (a := d) (o := .dT [])
  generalize upd H d (.dT []) = H1 at S1 hd ⊢
  walk_at "sts"
  refine r_lenL (SqL.of (S1 _ _ ha)) ?_
  walk_at "sts"
  rw [hR.1]
  refine ⟨_, rfl, by omega, by omega, ?_⟩
  rw [show ((L.length : Int)).toNat = L.length by omega]
  refine for_range (n := L.length) (fun k σ G => Same H G ∧ (∃ f, G d = some (.dT (dZ (rkZ L f k))) ∧ RkT G L f k) ∧ ∃ x2, σ = [some (.ref a), some (.ref d), x2]) ⟨S1, ⟨fun _ => .non, hd, fun i p hi => by omega⟩, _, rfl⟩ ?_ ?_
  · rintro k σ G hk ⟨s, ⟨f', hdG, hT⟩, x2, rfl⟩
    rw [Int.zero_add]
    have hp := List.getElem?_eq_getElem hk
    obtain ⟨v, hv, b, rfl, hb⟩ := (hR.same s).of hp
    generalize L[k] = p at hp hb
    replace hb : G b = some (.tup [.int (p.1 : Int), .int (p.2.1 : Int), .int (p.2.2 : Int)]) := hb
    walk_at "sts"
    refine r_ixL (SqL.of (s _ _ ha)) (atI_nat hv) ?_
    walk_at "sts"
    refine r_newO rfl fun t G2 nt s2 ht => ?_
    walk_at "sts"
    refine r_ixL (SqL.of (s2 _ _ (s _ _ ha))) (atI_nat hv) ?_
    walk_at "sts"
    refine r_slXT (s2 _ _ hb) fun t2 G3 s3 ht2 => ?_
    walk_at "sts"
    replace ht2 : G3 t2 = some (.tup ((kp p.2).map kV)) := ht2
    have s23 := s2.trans s3
    refine r_setT (s23 _ _ hdG) ht2 (by rw [dZ_len, rkZ_len]; omega) ?_
    rw [dZ_new (by rw [← spn_at hp]; exact rkZ_no k fun i hi z => by have := spn_inj hn (by omega) hk z; omega), ← spn_at hp]
    refine ⟨Same.put (s.trans s23) nd0, ⟨fun i => if i = k then .ref t else f' i, ?_, fun i p' hi hp' => ?_⟩, _, rfl⟩
    · rw [rkZ_succ, rkZ_congr (g := f') (fun i hi => if_neg (by omega))]
      simp only [if_true]
      exact upd_same
    · by_cases e : i = k
      · subst e
        rw [hp] at hp'; cases hp'
        refine ⟨t, if_pos rfl, ?_⟩
        rw [upd_ne (fun z => by rw [z, s2 _ _ hdG] at ht; cases ht)]
        exact s3 _ _ ht
      · obtain ⟨t', e', ht'⟩ := hT i p' (by omega) hp'
        refine ⟨t', (if_neg e).trans e', ?_⟩
        rw [upd_ne (fun z => by rw [z, hdG] at ht'; cases ht')]
        exact s23 _ _ ht'
  · rintro σ G ⟨s, ⟨f', hdG, hT⟩, x2, rfl⟩
    walk_at "sts"
    exact q d f' G nd0 s hdG hT
end

section
variable {P : Program} {w : World} {K : PySem.W.Frag} {mg : Str → Option Value} {base : Heap}
theorem nd_law_news_0 : (["_law_row", "_law_newer"] : List Str).Nodup := by decide +kernel
theorem nd_law_news_1 : (["_law_row", "_law_elder"] : List Str).Nodup := by decide +kernel
theorem kz36 : (defScope s_law_news).names.lookup ("_law_shifted" : Str) = some NameKind.local := by decide +kernel
theorem kz37 : (defScope s_law_news).names.lookup ("_law_lost" : Str) = some NameKind.local := by decide +kernel
theorem kz38 : (defScope s_law_news).names.lookup ("_law_came" : Str) = some NameKind.local := by decide +kernel
theorem kz39 : (defScope s_law_news).names.lookup ("_law_behind" : Str) = some NameKind.local := by decide +kernel
theorem kz3a : (defScope s_law_news).names.lookup ("_law_row" : Str) = some NameKind.local := by decide +kernel
theorem kz3b : (defScope s_law_news).names.lookup ("_law_elder" : Str) = some NameKind.cell := by decide +kernel
theorem kz3c : (defScope s_law_news).names.lookup ("_law_rank" : Str) = some NameKind.local := by decide +kernel
theorem kz3d : (defScope s_law_news).names.lookup ("_law_price" : Str) = some NameKind.local := by decide +kernel
theorem kz3e : (defScope s_law_news).names.lookup ("_law_newer" : Str) = some NameKind.cell := by decide +kernel
theorem kz3f : (defScope s_law_news).names.lookup ("_law_ahead" : Str) = some NameKind.local := by decide +kernel
theorem kz3g : (defScope s_law_news).names.lookup ("_law_ranks" : Str) = some NameKind.globalImplicit := by decide +kernel
noncomputable def spLNews (K : PySem.W.Frag) : Sp := fun vs H Q _ => ∃ (a b : Addr) (us ws : List V) (A B : List P3), vs = [.ref a, .ref b] ∧ H a = some (.lst us) ∧ R3 H us A ∧ Good A ∧ H b = some (.lst ws) ∧ R3 H ws B ∧ Good B ∧ ∀ n H', H n = none → Same H H' → Nw H' n A B → Q (.ref n) H'
theorem R3.put {H : Hp} {vs : List V} {L : List P3} {g : Addr} {o : HO} (h : R3 H vs L) (hg : ∀ xs, H g ≠ some (.tup xs)) : R3 (upd H g o) vs L := ⟨h.1, fun i v p e1 e2 => by
  obtain ⟨a, rfl, ha⟩ := h.2 i v p e1 e2
  exact ⟨a, rfl, by rw [upd_ne (fun z => hg _ (by rw [← z]; exact ha))]; exact ha⟩⟩
theorem RT.put {H : Hp} {vs : List V} {L : List (List Int)} {g : Addr} {o : HO} (h : RT H vs L) (hg : ∀ xs, H g ≠ some (.tup xs)) : RT (upd H g o) vs L := ⟨h.1, fun i v p e1 e2 => by
  obtain ⟨a, rfl, ha⟩ := h.2 i v p e1 e2
  exact ⟨a, rfl, by rw [upd_ne (fun z => hg _ (by rw [← z]; exact ha))]; exact ha⟩⟩
theorem notTup {H : Hp} {g : Addr} {xs : List V} (h : H g = some (.lst xs)) : ∀ ys, H g ≠ some (.tup ys) := fun ys z => by rw [h] at z; cases z
theorem sc_law_news : FnScope ["_law_ahead", "_law_behind", "_law_elder", "_law_newer", "_law_came", "_law_lost", "_law_shifted", "_law_row", "_law_price", "_law_rank"] ["_law_ahead", "_law_behind"] (defScope s_law_news) := ⟨rfl, rfl, rfl, by decide +kernel, rfl, by decide +kernel, by decide +kernel⟩
theorem h_law_news (T : Txt K mg) : Has P w K mg base 2 "_law_news" ["_law_ahead", "_law_behind"] (spLNews K) := by
  have h_law_ranks := h_law_ranks (P := P) (w := w) (base := base) T
  refine hasJ T.d_law_news sc_law_news (fun _ _ _ _ _ _ us hl => L2.usN2 (fun _ _ => rfl) us hl) ?_ fun f cdv A outer s H vs Q E hr h => ?_
  · rintro vs H Q E ⟨a, b, us, ws, A', B, rfl, _⟩; rfl
  obtain ⟨a, b, us, ws, A', B, rfl, ha, hA, gA, hb, hB, gB, q⟩ := h
  have hu := hr.units0
  have hu64 := hr.units
  refine ⟨_, (jb_cons (js_set (i := 2) sc_law_news.nd rfl (Or.inr kz3b) (j_call h_law_ranks (hr.mono (by decide)) (glF kz3g) (ja_cons (j_vL 0 kz3f) ja_nil) (by decide +kernel)) rfl) (jb_cons (js_set (i := 3) sc_law_news.nd rfl (Or.inr kz3e) (j_call h_law_ranks (hr.mono (by decide)) (glF kz3g) (ja_cons (j_vL 1 kz39) ja_nil) (by decide +kernel)) rfl) (jb_cons (js_setC (i := 4) sc_law_news.nd rfl (Or.inl kz38) (sub := [none, some 2]) (subOk_of (N := ["_law_ahead", "_law_behind", "_law_elder", "_law_newer", "_law_came", "_law_lost", "_law_shifted", "_law_row", "_law_price", "_law_rank"]) (sc := defScope s_law_news) (N' := ["_law_row", "_law_elder"]) (by decide +kernel)) rfl rfl rfl (ji_seq (K := K) rfl (j_vL 1 kz39)) (fun C s₀ H₀ ex => (jg_B 0 (by decide +kernel) nd_law_news_1)) (fun C s₀ H₀ ex => (jif_one (jt_cmp (op_notInD (K := K) rfl hu64) (j_slice (sl_seqX (K := K) rfl) (j_vBL 0 (by decide +kernel)) (jo_some j_int) jo_none) (j_vBF 1 (by decide +kernel)) (by first | exact nomark _ | with_unfolding_all rfl)))) (fun C s₀ H₀ ex => (j_vBL 0 (by decide +kernel))) rfl) (jb_cons (js_setC (i := 5) sc_law_news.nd rfl (Or.inl kz37) (sub := [none, some 3]) (subOk_of (N := ["_law_ahead", "_law_behind", "_law_elder", "_law_newer", "_law_came", "_law_lost", "_law_shifted", "_law_row", "_law_price", "_law_rank"]) (sc := defScope s_law_news) (N' := ["_law_row", "_law_newer"]) (by decide +kernel)) rfl rfl rfl (ji_seq (K := K) rfl (j_vL 0 kz3f)) (fun C s₀ H₀ ex => (jg_B 0 (by decide +kernel) nd_law_news_0)) (fun C s₀ H₀ ex => (jif_one (jt_cmp (op_notInD (K := K) rfl hu64) (j_slice (sl_seqX (K := K) rfl) (j_vBL 0 (by decide +kernel)) (jo_some j_int) jo_none) (j_vBF 1 (by decide +kernel)) (by first | exact nomark _ | with_unfolding_all rfl)))) (fun C s₀ H₀ ex => (j_vBL 0 (by decide +kernel))) rfl) (jb_cons (js_set (i := 6) sc_law_news.nd rfl (Or.inl kz36) (j_lst ja_nil) rfl) (jb_cons (js_for PassesOwn.never rfl (ji_seq (K := K) rfl (j_vL 1 kz39)) (jg_name (i := 7) sc_law_news.nd rfl (Or.inl kz3a) rfl) (jb_one (js_if (jt_cmp (op_inD (K := K) rfl hu64) (j_slice (sl_seqX (K := K) rfl) (j_vL 7 kz3a) (jo_some j_int) jo_none) (j_vC 2 kz3b) (by first | exact nomark _ | with_unfolding_all rfl)) (jb_cons (js_asgT (j_dget hu64 (j_vC 2 kz3b) (j_slice (sl_seqX (K := K) rfl) (j_vL 7 kz3a) (jo_some j_int) jo_none)) (jg_seqT (K := K) rfl rfl (jgs_cons (jg_name (i := 8) sc_law_news.nd rfl (Or.inl kz3d) rfl) (jgs_cons (jg_name (i := 9) sc_law_news.nd rfl (Or.inl kz3c) rfl) jgs_nil)))) (jb_one (js_if (jt_cmp (op_neX (K := K) rfl hu64) (j_tup (ja_cons (j_vL 8 kz3d) (ja_cons (j_vL 9 kz3c) ja_nil))) (j_dget hu64 (j_vC 3 kz3e) (j_slice (sl_seqX (K := K) rfl) (j_vL 7 kz3a) (jo_some j_int) jo_none)) (by first | exact nomark _ | with_unfolding_all rfl)) (jb_one (js_expr (j_meth (K := K) rfl PySem.F.plainAttrs_list PySem.F.slot_list_append PySem.F.type_list_append mt_append (j_vL 6 kz36) (ja_cons (j_tup (ja_cons (j_ix (K := K) rfl (j_vL 7 kz3a) j_int) (ja_cons (j_ix (K := K) rfl (j_vL 7 kz3a) j_int) (ja_cons (j_vL 8 kz3d) (ja_cons (j_ix (K := K) rfl (j_vL 7 kz3a) j_int) (ja_cons (j_vL 9 kz3c) (ja_cons (j_ix (K := K) rfl (j_dget hu64 (j_vC 3 kz3e) (j_slice (sl_seqX (K := K) rfl) (j_vL 7 kz3a) (jo_some j_int) jo_none)) j_int) ja_nil))))))) ja_nil)))) jb_nil))) jb_nil))) (jb_one (js_ret (j_tup (ja_cons (j_vL 4 kz38) (ja_cons (j_vL 5 kz37) (ja_cons (j_vL 6 kz36) ja_nil)))))))))))), ?_⟩
  walk_at "sts"
  have hs : 20000 ≤ sizeLine := by decide
  have lA := gA.le
  have lB := gB.le
  refine ⟨a, us, A', rfl, ha, hA, gA.nd, gA.le, fun d f1 H1 nd S1 hd hf1 => ?_⟩
  walk_at "sts"
  refine ⟨b, ws, B, rfl, S1 _ _ hb, hB.same S1, gB.nd, gB.le, fun d2 f2 H2 nd2 S2 hd2 hf2 => ?_⟩
  walk_at "sts"
  have U2 := S1.trans S2
  have hd' := S2 _ _ hd
  refine .inl ⟨b, rfl, ⟨_, SqL.of (U2 _ _ hb)⟩, ?_⟩
  have hwl := hB.1
  have hul := hA.1
  refine comp_listG (xs := ws) (fun i ys G => Same H2 G ∧ R3 G ys (nam (B.take i) A') ∧ ys.length ≤ i) (by omega) ⟨Same.refl H2, R3.nil, Nat.le_refl _⟩ ?_ ?_ ?_ ?_
  · rintro i ys G ⟨_, _, h⟩
    exact h
  · rintro i ys G ⟨s, _⟩
    exact SqL.of (s _ _ (U2 _ _ hb))
  · rintro i ys G x hx ⟨s, hY, hyl⟩
    obtain ⟨p, hp, c, rfl, hc⟩ := (hB.same (U2.trans s)).at hx
    walk_at "sts"
    refine ⟨KeepSt.set rfl, ?_⟩
    walk_at "sts"
    refine r_slXT hc fun t G2 s2 ht => ?_
    walk_at "sts"
    replace ht : G2 t = some (.tup ((kp p.2).map kV)) := ht
    refine .inr ⟨d, _, rfl, DGet.t (s2 _ _ (s _ _ hd')) ht, ?_⟩
    walk_at "sts"
    rw [dZ_val, rkZ_look gA.nd]
    have hN := nam_take B A' i hp
    cases e : fnd A' p.2 with
    | none =>
      rw [e] at hN
      show if true = true then _ else _
      walk_at "sts"
      refine ⟨s.trans s2, ?_, by simp; omega⟩
      rw [hN]
      exact (hY.same s2).push ⟨c, rfl, s2 _ _ hc⟩
    | some j =>
      rw [e] at hN
      show if false = true then _ else _
      walk_at "sts"
      refine ⟨s.trans s2, ?_, by omega⟩
      rw [hN, show (if ((some j : Option Nat).isNone) = true then [p] else []) = ([] : List P3) from rfl, List.append_nil]
      exact hY.same s2
  rintro cs G c H3 ⟨s3, hC, _⟩ nc s3' hc
  rw [hwl, List.take_length] at hC
  replace hC := hC.same s3'
  have S3 := s3.trans s3'
  have U3 := U2.trans S3
  try walk_at "sts"
  refine .inl ⟨a, rfl, ⟨_, SqL.of (U3 _ _ ha)⟩, ?_⟩
  refine comp_listG (xs := us) (fun i ys G => Same H3 G ∧ R3 G ys (nam (A'.take i) B) ∧ ys.length ≤ i) (by omega) ⟨Same.refl H3, R3.nil, Nat.le_refl _⟩ ?_ ?_ ?_ ?_
  · rintro i ys G ⟨_, _, h⟩
    exact h
  · rintro i ys G ⟨s, _⟩
    exact SqL.of (s _ _ (U3 _ _ ha))
  · rintro i ys G x hx ⟨s, hY, hyl⟩
    obtain ⟨p, hp, c', rfl, hc'⟩ := (hA.same (U3.trans s)).at hx
    walk_at "sts"
    refine ⟨KeepSt.set rfl, ?_⟩
    walk_at "sts"
    refine r_slXT hc' fun t G2 s2 ht => ?_
    walk_at "sts"
    replace ht : G2 t = some (.tup ((kp p.2).map kV)) := ht
    refine .inr ⟨d2, _, rfl, DGet.t (s2 _ _ (s _ _ (S3 _ _ hd2))) ht, ?_⟩
    walk_at "sts"
    rw [dZ_val, rkZ_look gB.nd]
    have hN := nam_take A' B i hp
    cases e : fnd B p.2 with
    | none =>
      rw [e] at hN
      show if true = true then _ else _
      walk_at "sts"
      refine ⟨s.trans s2, ?_, by simp; omega⟩
      rw [hN]
      exact (hY.same s2).push ⟨c', rfl, s2 _ _ hc'⟩
    | some j =>
      rw [e] at hN
      show if false = true then _ else _
      walk_at "sts"
      refine ⟨s.trans s2, ?_, by omega⟩
      rw [hN, show (if ((some j : Option Nat).isNone) = true then [p] else []) = ([] : List P3) from rfl, List.append_nil]
      exact hY.same s2
  rintro ls G l H4 ⟨s4, hL, _⟩ nl s4' hl
  rw [hul, List.take_length] at hL
  replace hL := hL.same s4'
  have S4 := s4.trans s4'
  have U4 := U3.trans S4
  have V4 := S3.trans S4
  try walk_at "sts"
  refine r_newO rfl fun m H5 nm S5 hm => ?_
  walk_at "sts"
  have U5 := U4.trans S5
  have nm0 := Same.back U4 nm
  have hdA := S5 _ _ (V4 _ _ hd')
  have hdB := S5 _ _ (V4 _ _ hd2)
  have fA := hf1.same (S2.trans (V4.trans S5))
  have fB := hf2.same (V4.trans S5)
  refine .inl ⟨b, rfl, ⟨_, SqL.of (U5 _ _ hb)⟩, ?_⟩
  refine for_list (xs := ws) (fun k σ G => Same H4 G ∧ (∃ ys, G m = some (.lst ys) ∧ RT G ys (mvK A' B k)) ∧ ∃ x7 x8 x9, σ = [some (.ref a), some (.ref b), some (.ref d), some (.ref d2), some (.ref c), some (.ref l), some (.ref m), x7, x8, x9]) ⟨S5, ⟨[], hm, RT.nil⟩, _, _, _, rfl⟩ (fun i σ G _ h => SqL.of (h.1 _ _ (U4 _ _ hb))) ?_ ?_
  · rintro k v σ G hv ⟨s, ⟨ys, hmG, hY⟩, x7, x8, x9, rfl⟩
    obtain ⟨p, hp, c', rfl, hc'⟩ := (hB.same (U4.trans s)).at hv
    have hyl : ys.length ≤ k := by rw [hY.1]; exact mvK_len k
    have hk := (List.getElem?_eq_some_iff.mp hp).1
    have hN := mvK_succ (A := A') hp
    have hfB := fnd_at gB.nd hp
    have hdAG := s _ _ (V4 _ _ hd')
    have hdBG := s _ _ (V4 _ _ hd2)
    replace hc' : G c' = some (.tup [.int (p.1 : Int), .int (p.2.1 : Int), .int (p.2.2 : Int)]) := hc'
    walk_at "sts"
    refine r_slXT hc' fun t G2 s2 ht => ?_
    walk_at "sts"
    replace ht : G2 t = some (.tup ((kp p.2).map kV)) := ht
    refine .inr ⟨d, _, rfl, DGet.t (s2 _ _ hdAG) ht, ?_⟩
    walk_at "sts"
    rw [dZ_val, rkZ_look gA.nd]
    unfold mvAt at hN
    cases e : fnd A' p.2 with
    | none =>
      rw [e] at hN
      rw [show (Option.map f1 (none : Option Nat)).isSome = false from rfl]
      walk_at "sts"
      refine ⟨s.trans s2, ⟨ys, s2 _ _ hmG, ?_⟩, _, _, _, rfl⟩
      rw [hN, show (none : Option (List Int)).toList = [] from rfl, List.append_nil]
      exact hY.same s2
    | some i =>
      rw [e] at hN
      rw [show (Option.map f1 (some i)).isSome = true from rfl]
      obtain ⟨p', hp', _⟩ := fnd_some e
      have hi := (List.getElem?_eq_some_iff.mp hp').1
      have hg : A'.getD i (0, 0, 0) = p' := by rw [List.getD_eq_getElem?_getD, hp']; rfl
      simp only [hg] at hN
      have hc2 := s2 _ _ hc'
      obtain ⟨tA, eA, htA⟩ := hf1.same (S2.trans (V4.trans (s.trans s2))) i p' hi hp'
      obtain ⟨tB, eB, htB⟩ := hf2.same (V4.trans (s.trans s2)) k p hk hp
      walk_at "sts"
      refine r_slXT hc2 fun t3 G3 s3 ht3 => ?_
      walk_at "sts"
      replace ht3 : G3 t3 = some (.tup ((kp p.2).map kV)) := ht3
      refine ⟨d, .ref tA, rfl, by have := DGet.t (s3 _ _ (s2 _ _ hdAG)) ht3; rw [dZ_val, rkZ_look gA.nd, e, Option.map_some, eA] at this; exact this, ?_⟩
      refine ⟨tA, _, rfl, .inl (SqT.of (s3 _ _ htA)), rfl, ?_⟩
      have hc3 := s3 _ _ hc2
      walk_at "sts"
      refine r_newO rfl fun t4 G4 _ s4 h4 => ?_
      walk_at "sts"
      have hc4 := s4 _ _ hc3
      have s24 := s2.trans (s3.trans s4)
      refine r_slXT hc4 fun t5 G5 s5 ht5 => ?_
      walk_at "sts"
      replace ht5 : G5 t5 = some (.tup ((kp p.2).map kV)) := ht5
      refine ⟨d2, .ref tB, rfl, by have := DGet.t (s5 _ _ (s24 _ _ hdBG)) ht5; rw [dZ_val, rkZ_look gB.nd, hfB, Option.map_some, eB] at this; exact this, ?_⟩
      have s35 := s3.trans (s4.trans s5)
      refine ne2 (ns := [(p'.1 : Int), (i : Int)]) (ms := [(p.1 : Int), (k : Int)]) (s5 _ _ h4) (s35 _ _ htB) ?_
      have s25 := s2.trans s35
      by_cases hq : p'.1 = p.1 ∧ i = k
      · rw [if_pos hq] at hN
        rw [decide_eq_true (by rw [hq.1, hq.2])]
        try with_reducible refine iteF ?_
        walk_at "sts"
        refine ⟨s.trans s25, ⟨ys, s25 _ _ hmG, ?_⟩, _, _, _, rfl⟩
        rw [hN, show (none : Option (List Int)).toList = [] from rfl, List.append_nil]
        exact hY.same s25
      · rw [if_neg hq] at hN
        rw [decide_eq_false (fun z => hq (by simp only [List.cons.injEq, and_true] at z; omega))]
        have hc5 := s5 _ _ hc4
        try with_reducible refine iteT ?_
        walk_at "sts"
        refine ⟨.inl ⟨rfl, _, SqL.of (s25 _ _ hmG)⟩, ?_⟩
        walk_at "sts"
        refine r_slXT hc5 fun t6 G6 s6 ht6 => ?_
        walk_at "sts"
        replace ht6 : G6 t6 = some (.tup ((kp p.2).map kV)) := ht6
        refine ⟨d2, .ref tB, rfl, by have := DGet.t (s6 _ _ (s25 _ _ hdBG)) ht6; rw [dZ_val, rkZ_look gB.nd, hfB, Option.map_some, eB] at this; exact this, ?_⟩
        have htB6 := s6 _ _ (s35 _ _ htB)
        have hc6 := s6 _ _ hc5
        walk_at "sts"
        refine r_newO rfl fun t7 G7 _ s7 h7 => ?_
        walk_at "sts"
        have s27 := s25.trans (s6.trans s7)
        refine r_append (s27 _ _ hmG) (by omega) ?_
        walk_at "sts"
        refine ⟨Same.put (s.trans s27) nm, ⟨_, upd_same, ?_⟩, _, _, _, rfl⟩
        rw [hN]
        refine RT.push ((hY.same s27).put (notTup (s27 _ _ hmG))) ⟨t7, rfl, ?_⟩
        rw [upd_ne (fun z => by rw [z, s27 _ _ hmG] at h7; cases h7)]; exact h7
  · rintro σ G ⟨s, ⟨ys, hmG, hY⟩, x7, x8, x9, rfl⟩
    walk_at "sts"
    refine r_newO rfl fun n H6 nn S6 hn => ?_
    walk_at "sts"
    rw [hwl] at hY
    have V6 := s.trans S6
    exact q n H6 (Same.back (U4.trans s) nn) (U4.trans V6) ⟨c, l, m, cs, ls, ys, hn, V6 _ _ (S4 _ _ hc), hC.same (S4.trans V6), V6 _ _ hl, hL.same V6, S6 _ _ hmG, hY.same S6⟩
end

section
variable {P : Program} {w : World} {K : PySem.W.Frag} {mg : Str → Option Value} {base : Heap}
theorem nd_law_list_0 : (["_law_span", "_law_costs"] : List Str).Nodup := by decide +kernel
theorem kz3h : (defScope s_law_list).names.lookup ("sorted" : Str) = some NameKind.globalImplicit := by decide +kernel
theorem kz3i : (defScope s_law_list).names.lookup ("_law_costs" : Str) = some NameKind.cell := by decide +kernel
theorem kz3j : (defScope s_law_list).names.lookup ("range" : Str) = some NameKind.globalImplicit := by decide +kernel
theorem kz3k : (defScope s_law_list).names.lookup ("_law_size" : Str) = some NameKind.local := by decide +kernel
theorem kz3l : (defScope s_law_list).names.lookup ("_law_k" : Str) = some NameKind.local := by decide +kernel
theorem kz3m : (defScope s_law_list).names.lookup ("_law_price" : Str) = some NameKind.local := by decide +kernel
theorem kz3n : (defScope s_law_list).names.lookup ("_law_begin" : Str) = some NameKind.local := by decide +kernel
theorem kz3o : (defScope s_law_list).names.lookup ("_law_far" : Str) = some NameKind.local := by decide +kernel
theorem kz3p : (defScope s_law_list).names.lookup ("_law_kind" : Str) = some NameKind.local := by decide +kernel
theorem kz3q : (defScope s_law_list).names.lookup ("_law_small" : Str) = some NameKind.local := by decide +kernel
theorem kz3r : (defScope s_law_list).names.lookup ("_law_draws" : Str) = some NameKind.local := by decide +kernel
theorem kz3s : (defScope s_law_list).names.lookup ("_law_drawn" : Str) = some NameKind.globalImplicit := by decide +kernel
theorem kz3t : (defScope s_law_list).names.lookup ("_law_cell_here" : Str) = some NameKind.local := by decide +kernel
theorem kz3u : (defScope s_law_list).names.lookup ("_law_heads" : Str) = some NameKind.local := by decide +kernel
theorem Fits.get {ms bs : List Int} (h : Fits ms bs) {i : Nat} {b : Int} (hb : bs[i]? = some b) : ∃ n : Nat, ms.getD i 0 = (n : Int) ∧ (n : Int) < b := by
  have hi : i < ms.length := by rw [h.1]; exact (List.getElem?_eq_some_iff.mp hb).1
  have e := List.getElem?_eq_getElem hi
  obtain ⟨h0, h1⟩ := h.2 i _ b e hb
  exact ⟨(ms[i]).toNat, by rw [List.getD_eq_getElem?_getD, e]; simp; omega, by omega⟩
theorem cut_at {ds : List Int} {a n : Nat} (h : a + n ≤ ds.length) : cutV (ds.map V.int) (some (a : Int)) (some ((a + n : Nat) : Int)) = (List.range n).map fun j => V.int (ds.getD (a + j) 0) := by
  unfold cutV
  rw [HT.sIx_nat, HT.sIx_nat, List.length_map, Nat.min_eq_left (by omega), Nat.min_eq_left (by omega), show a + n - a = n by omega]
  refine List.ext_getElem? fun j => ?_
  rw [List.getElem?_take, List.getElem?_drop, List.getElem?_map, List.getElem?_map]
  by_cases hj : j < n
  · rw [if_pos hj, List.getElem?_range hj, List.getElem?_eq_getElem (show a + j < ds.length by omega)]
    show some (V.int ds[a + j]) = some (V.int (ds.getD (a + j) 0))
    rw [List.getD_eq_getElem?_getD, List.getElem?_eq_getElem (show a + j < ds.length by omega)]; rfl
  · rw [if_neg hj, List.getElem?_eq_none (by simpa using hj)]; rfl
theorem flat_at {l : List Int} {m : Nat} (hl : l.length = m) : ∀ (n k j : Nat), k < n → j < m → ((List.replicate n l).flatten)[m * k + j]? = l[j]?
  | 0, k, j, h, _ => by omega
  | n + 1, 0, j, _, hj => by
    rw [List.replicate_succ, List.flatten_cons, Nat.mul_zero, Nat.zero_add, List.getElem?_append_left (by omega)]
  | n + 1, k + 1, j, h, hj => by
    rw [List.replicate_succ, List.flatten_cons, List.getElem?_append_right (by rw [hl, Nat.mul_succ]; omega), hl, show m * (k + 1) + j - m = m * k + j by rw [Nat.mul_succ]; omega]
    exact flat_at hl n k j (by omega) hj
theorem flat_len {l : List Int} {m : Nat} (hl : l.length = m) (n : Nat) : ((List.replicate n l).flatten).length = m * n := by
  rw [List.length_flatten, List.map_replicate, List.sum_replicate_nat, hl, Nat.mul_comm]
theorem flat_map (l : List Int) (n : Nat) : (List.replicate n (l.map V.int)).flatten = ((List.replicate n l).flatten).map V.int := by
  rw [List.map_flatten, List.map_replicate]
theorem flat_mem {l : List Int} {n : Nat} {x : Int} (h : x ∈ (List.replicate n l).flatten) : x ∈ l := by
  obtain ⟨l', h1, h2⟩ := List.mem_flatten.mp h
  rw [(List.mem_replicate.mp h1).2] at h2
  exact h2
noncomputable def zM (M : List P3) : List ((Nat × Nat) × V) := M.map fun p => (p.2, V.int (p.1 : Int))
structure Cst (M : List P3) : Prop where
  nd : (M.map (·.2)).Nodup
  ok : ∀ p ∈ M, ok3 p
theorem Cst.nil : Cst [] := ⟨List.nodup_nil, fun p hp => by cases hp⟩
theorem Cst.putM {M : List P3} (h : Cst M) {c : Nat} {s : Nat × Nat} (ho : ok3 (c, s)) : ∃ M', putK (dZ (zM M)) (kp s) (.int (c : Int)) = dZ (zM M') ∧ Cst M' ∧ M'.length ≤ M.length + 1 := by
  by_cases hs : s ∈ M.map (·.2)
  · refine ⟨M.map fun p => if p.2 = s then (c, p.2) else p, ?_, ⟨?_, ?_⟩, by simp⟩
    · rw [dZ_old (by unfold zM; rw [List.map_map]; exact hs)]
      unfold updZ zM
      rw [List.map_map, List.map_map]
      congr 1
      refine List.map_congr_left fun p _ => ?_
      show (if p.2 = s then (p.2, V.int (c : Int)) else (p.2, V.int (p.1 : Int))) = ((if p.2 = s then (c, p.2) else p).2, V.int (((if p.2 = s then (c, p.2) else p).1 : Nat) : Int))
      split <;> rfl
    · rw [List.map_map]
      have : (M.map ((fun x => x.2) ∘ fun p => if p.2 = s then (c, p.2) else p)) = M.map (·.2) := List.map_congr_left fun p _ => by
        show (if p.2 = s then (c, p.2) else p).2 = p.2
        split <;> rfl
      rw [this]; exact h.nd
    · intro p hp
      obtain ⟨r, hr, rfl⟩ := List.mem_map.mp hp
      split
      · next e => rw [e]; exact ho
      · exact h.ok r hr
  · refine ⟨M ++ [(c, s)], ?_, ⟨?_, ?_⟩, by simp⟩
    · have hz : (zM M).lookup s = none := by
        cases e : (zM M).lookup s with
        | none => rfl
        | some v =>
          refine absurd ?_ hs
          have := valV_in (k := kp s) (by rw [dZ_val]; exact e)
          unfold dZ zM at this
          rw [List.map_map, List.map_map] at this
          obtain ⟨x, hx, ex⟩ := List.mem_map.mp this
          rw [← kp_inj ex]
          exact List.mem_map.mpr ⟨x, hx, rfl⟩
      rw [dZ_new hz]
      unfold zM
      rw [List.map_append]; rfl
    · rw [List.map_append]
      exact nd_snoc h.nd hs
    · intro p hp
      rcases List.mem_append.mp hp with hp | hp
      · exact h.ok p hp
      · simp only [List.mem_cons, List.mem_nil_iff, or_false] at hp
        rw [hp]; exact ho
theorem Cst.good {M L : List P3} (h : Cst M) (hl : M.length ≤ 1000) (pe : L.Perm M) (pw : L.Pairwise ltP) : Good L :=
  good_of pw (fun p hp => h.ok p (pe.mem_iff.mp hp)) ((pe.map (·.2)).nodup_iff.mpr h.nd) (by rw [pe.length_eq]; exact hl)
theorem zM_len (M : List P3) : (dZ (zM M)).length = M.length := by rw [dZ_len]; simp [zM]
theorem zM_at {M : List P3} {i : Nat} {k : List Key} {v : V} (h : (dZ (zM M))[i]? = some (k, v)) : ∃ p, M[i]? = some p ∧ k = kp p.2 := by
  unfold dZ zM at h
  rw [List.map_map, List.getElem?_map] at h
  cases e : M[i]? with
  | none => rw [e] at h; cases h
  | some p => rw [e] at h; cases h; exact ⟨p, rfl, rfl⟩
theorem zM_val {M : List P3} (h : Cst M) {i : Nat} {p : P3} (hp : M[i]? = some p) : valV (dZ (zM M)) (kp p.2) = some (.int (p.1 : Int)) := by
  rw [dZ_val]
  exact Z_ext (by unfold zM; rw [List.map_map]; exact h.nd) (p.2, V.int (p.1 : Int)) (List.mem_map.mpr ⟨p, List.mem_of_getElem? hp, rfl⟩)
noncomputable def spLList (K : PySem.W.Frag) : Sp := fun vs H Q _ => ∃ n : Int, vs = [.int n] ∧ ∀ q ys H' L, H q = none → Same H H' → H' q = some (.lst ys) → R3 H' ys L → Good L → L.length ≤ 41 → Q (.ref q) H'
theorem fits3 {ms : List Int} {x y z : Int} (h : Fits ms [x, y, z]) : ∃ a b c : Nat, ms = [(a : Int), (b : Int), (c : Int)] ∧ (a : Int) < x ∧ (b : Int) < y ∧ (c : Int) < z := by
  obtain ⟨hl, h⟩ := h
  match ms, hl with
  | [a, b, c], _ =>
    have h0 := h 0 a x rfl rfl
    have h1 := h 1 b y rfl rfl
    have h2 := h 2 c z rfl rfl
    refine ⟨a.toNat, b.toNat, c.toNat, ?_, by omega, by omega, by omega⟩
    rw [Int.toNat_of_nonneg h0.1, Int.toNat_of_nonneg h1.1, Int.toNat_of_nonneg h2.1]
theorem sc_law_list : FnScope ["_law_cell_here", "_law_heads", "_law_size", "_law_draws", "_law_costs", "_law_k", "_law_kind", "_law_price", "_law_small", "_law_begin", "_law_far"] ["_law_cell_here"] (defScope s_law_list) := ⟨rfl, rfl, rfl, by decide +kernel, rfl, by decide +kernel, by decide +kernel⟩
theorem h_law_list (T : Txt K mg) : Has P w K mg base 2 "_law_list" ["_law_cell_here"] (spLList K) := by
  have h_law_drawn := h_law_drawn (P := P) (w := w) (base := base) T
  refine hasJ T.d_law_list sc_law_list (fun _ _ _ _ _ _ us hl => L2.usN1 (fun _ => rfl) us hl) ?_ fun f cdv A outer s H vs Q E hr h => ?_
  · rintro vs H Q E ⟨n, rfl, _⟩; rfl
  obtain ⟨n, rfl, q⟩ := h
  have hu := hr.units0
  have hu64 := hr.units
  refine ⟨_, (jb_cons (js_set (i := 1) sc_law_list.nd rfl (Or.inl kz3u) (j_call h_law_drawn (hr.mono (by decide)) (glF kz3s) (ja_cons (j_vL 0 kz3t) (ja_cons (j_lst (ja_cons j_int (ja_cons j_int (ja_cons j_int ja_nil)))) ja_nil)) (by decide +kernel)) rfl) (jb_cons (js_set (i := 2) sc_law_list.nd rfl (Or.inl kz3k) (j_ix (K := K) rfl (j_vL 1 kz3u) j_int) rfl) (jb_cons (js_if (jt_cmp (op_eqE (K := K) rfl hu64) (j_ix (K := K) rfl (j_vL 1 kz3u) j_int) j_int (by first | exact nomark _ | with_unfolding_all rfl)) (jb_one (js_set (i := 2) sc_law_list.nd rfl (Or.inl kz3k) (j_ix (K := K) rfl (j_vL 1 kz3u) j_int) rfl)) jb_nil) (jb_cons (js_set (i := 3) sc_law_list.nd rfl (Or.inl kz3r) (j_call h_law_drawn (hr.mono (by decide)) (glF kz3s) (ja_cons (j_vL 0 kz3t) (ja_cons (j_op op_addA (j_lst (ja_cons j_int (ja_cons j_int (ja_cons j_int ja_nil)))) (j_op op_mulA (j_lst (ja_cons j_int (ja_cons j_int (ja_cons j_int (ja_cons j_int (ja_cons j_int ja_nil)))))) (j_vL 2 kz3k))) ja_nil)) (by decide +kernel)) rfl) (jb_cons (js_set (i := 4) sc_law_list.nd rfl (Or.inr kz3i) j_dnewT rfl) (jb_cons (js_for PassesOwn.never rfl (ji_range1 (glF kz3j) T.b_range (ja_cons (j_vL 2 kz3k) ja_nil)) (jg_name (i := 5) sc_law_list.nd rfl (Or.inl kz3l) rfl) (jb_cons (js_asgT (j_slice (sl_seqX (K := K) rfl) (j_vL 3 kz3r) (jo_some (j_op op_addA j_int (j_op op_mulA j_int (j_vL 5 kz3l)))) (jo_some (j_op op_addA j_int (j_op op_mulA j_int (j_vL 5 kz3l))))) (jg_seqT (K := K) rfl rfl (jgs_cons (jg_name (i := 6) sc_law_list.nd rfl (Or.inl kz3p) rfl) (jgs_cons (jg_name (i := 7) sc_law_list.nd rfl (Or.inl kz3m) rfl) (jgs_cons (jg_name (i := 8) sc_law_list.nd rfl (Or.inl kz3q) rfl) (jgs_cons (jg_name (i := 9) sc_law_list.nd rfl (Or.inl kz3n) rfl) (jgs_cons (jg_name (i := 10) sc_law_list.nd rfl (Or.inl kz3o) rfl) jgs_nil))))))) (jb_cons (js_if (jt_cmp op_gt (j_vL 6 kz3p) j_int (by first | exact nomark _ | with_unfolding_all rfl)) (jb_one (js_set (i := 7) sc_law_list.nd rfl (Or.inl kz3m) (j_vL 8 kz3q) rfl)) jb_nil) (jb_one (js_asgS (ts := rSetA) (j_vL 7 kz3m) (jg_sub (j_vC 4 kz3i) (j_tup (ja_cons (j_vL 9 kz3n) (ja_cons (j_op op_addA (j_op op_addA (j_vL 9 kz3n) j_int) (j_op op_mod (j_vL 10 kz3o) (j_op op_sub j_int (j_vL 9 kz3n)))) ja_nil))) (set_any hu64))))))) (jb_one (js_ret (j_callB call_sortedX (glF kz3h) T.b_sorted bt_sorted (ja_cons (j_comp (sub := [none, some 4]) (subOk_of (N := ["_law_cell_here", "_law_heads", "_law_size", "_law_draws", "_law_costs", "_law_k", "_law_kind", "_law_price", "_law_small", "_law_begin", "_law_far"]) (sc := defScope s_law_list) (N' := ["_law_span", "_law_costs"]) (by decide +kernel)) rfl rfl rfl (ji_dT (j_vC 4 kz3i)) (fun C s₀ H₀ ex => (jg_B 0 (by decide +kernel) nd_law_list_0)) (fun C s₀ H₀ ex => jif_nil) (fun C s₀ H₀ ex => (j_tup (ja_cons (j_dget hu64 (j_vBF 1 (by decide +kernel)) (j_vBL 0 (by decide +kernel))) (ja_cons (j_ix (K := K) rfl (j_vBL 0 (by decide +kernel)) j_int) (ja_cons (j_ix (K := K) rfl (j_vBL 0 (by decide +kernel)) j_int) ja_nil)))))) ja_nil) (by decide +kernel) (by decide +kernel)))))))))), ?_⟩
  walk_at "sts"
  have hs : 20000 ≤ sizeLine := by decide
  refine r_newO rfl fun b0 H1 _ S1 hb0 => ?_
  walk_at "sts"
  refine ⟨n, b0, [8, 9, 41], rfl, hb0, by simp, (fun x hx => by simp at hx; omega), fun hd ms H2 nhd S2 hhd hF => ?_⟩
  obtain ⟨h0, h1, h2, rfl, e0, e1, e2⟩ := fits3 hF
  replace hhd : H2 hd = some (.lst [.int (h0 : Int), .int (h1 : Int), .int (h2 : Int)]) := hhd
  walk_at "stn"
  with_reducible refine r_seq ?_
  walk_at "stn"
  with_reducible refine r_cut (fun σ G => G = H2 ∧ ∃ sz : Nat, sz ≤ 40 ∧ σ = [some (.int n), some (.ref hd), some (.int (sz : Int)), none, none, none, none, none, none, none, none]) ?_ ?_
  rotate_left
  · intro N hN
    walk_at "sts"
    refine iteD (fun h => ?_) (fun h => ?_)
    · walk_at "sts"
      exact hN _ _ ⟨rfl, h2, by omega, rfl⟩
    · walk_at "sts"
      exact hN _ _ ⟨rfl, h1, by omega, rfl⟩
  rintro σ G ⟨rfl, sz, hsz, rfl⟩
  have U2 := S1.trans S2
  walk_at "sts"
  refine r_newO rfl fun b1 H3 _ S3 hb1 => ?_
  walk_at "sts"
  refine r_newO rfl fun b2 H4 _ S4 hb2 => ?_
  walk_at "sts"
  refine r_mulL hb2 (by omega) (by omega) (by simp; omega) fun b3 nb3 => ?_
  walk_at "sts"
  rw [show ((sz : Int)).toNat = sz by omega, show ([V.int 3, V.int 49, V.int 4, V.int 24, V.int 24] : List V) = ([3, 49, 4, 24, 24] : List Int).map V.int from rfl, flat_map]
  have S5 := (Same.refl H4).upd nb3 (o := .lst (((List.replicate sz [3, 49, 4, 24, 24]).flatten : List Int).map V.int))
  have hb3 := upd_same (H := H4) (a := b3) (o := .lst (((List.replicate sz [3, 49, 4, 24, 24]).flatten : List Int).map V.int))
  generalize upd H4 b3 (.lst (((List.replicate sz [3, 49, 4, 24, 24]).flatten : List Int).map V.int)) = H5 at S5 hb3 ⊢
  have fl := flat_len (l := [3, 49, 4, 24, 24]) rfl sz
  walk_at "sts"
  refine r_addL (S5 _ _ (S4 _ _ hb1)) hb3 (by rw [List.length_map, fl]; simp; omega) fun b4 nb4 => ?_
  walk_at "sts"
  rw [show ([V.int 8, V.int 9, V.int 41] : List V) ++ ((List.replicate sz [3, 49, 4, 24, 24]).flatten : List Int).map V.int = (([8, 9, 41] : List Int) ++ (List.replicate sz [3, 49, 4, 24, 24]).flatten).map V.int from by rw [List.map_append]; rfl]
  have S6 := (Same.refl H5).upd nb4 (o := .lst ((([8, 9, 41] : List Int) ++ (List.replicate sz [3, 49, 4, 24, 24]).flatten).map V.int))
  have hb4 := upd_same (H := H5) (a := b4) (o := .lst ((([8, 9, 41] : List Int) ++ (List.replicate sz [3, 49, 4, 24, 24]).flatten).map V.int))
  generalize upd H5 b4 (.lst ((([8, 9, 41] : List Int) ++ (List.replicate sz [3, 49, 4, 24, 24]).flatten).map V.int)) = H6 at S6 hb4 ⊢
  walk_at "sts"
  have hbd : ∀ x ∈ ([8, 9, 41] : List Int) ++ (List.replicate sz [3, 49, 4, 24, 24]).flatten, 0 < x ∧ x < 1073741824 := fun x hx => by
    rcases List.mem_append.mp hx with hx | hx
    · simp at hx; omega
    · have := flat_mem hx
      simp at this; omega
  refine ⟨n, b4, [8, 9, 41] ++ (List.replicate sz [3, 49, 4, 24, 24]).flatten, rfl, hb4, by rw [List.length_append, fl]; simp; omega, hbd, fun dr ds H7 ndr S7 hdr hD => ?_⟩
  walk_at "sts"
  have dl : ds.length = 3 + 5 * sz := by rw [hD.1, List.length_append, fl]; rfl
  intro d nd
  have U7 := U2.trans (S3.trans (S4.trans (S5.trans (S6.trans S7))))
  have nd0 := Same.back U7 nd
  have S8 := (Same.refl H7).upd nd (o := .dT [])
  have hd8 := upd_same (H := H7) (a := d) (o := .dT [])
  generalize upd H7 d (.dT []) = H8 at S8 hd8 ⊢
  have U8 := U7.trans S8
  have hdr8 := S8 _ _ hdr
  have drd : dr ≠ d := gNe nd hdr
  walk_at "sts"
  refine ⟨_, rfl, by omega, by omega, ?_⟩
  rw [show ((sz : Int)).toNat = sz by omega]
  refine for_range (n := sz) (fun k σ G => Same H G ∧ G dr = some (.lst (ds.map V.int)) ∧ (∃ M, G d = some (.dT (dZ (zM M))) ∧ Cst M ∧ M.length ≤ k) ∧ ∃ x5 x6 x7 x8 x9 x10, σ = [some (.int n), some (.ref hd), some (.int (sz : Int)), some (.ref dr), some (.ref d), x5, x6, x7, x8, x9, x10]) ⟨U8, hdr8, ⟨[], hd8, Cst.nil, Nat.le_refl _⟩, _, _, _, _, _, _, rfl⟩ ?_ ?_
  · rintro k σ G hk ⟨s, hdrG, ⟨M, hdG, hM, hMl⟩, x5, x6, x7, x8, x9, x10, rfl⟩
    rw [Int.zero_add]
    have gt : ∀ j, j < 5 → (([8, 9, 41] : List Int) ++ (List.replicate sz [3, 49, 4, 24, 24]).flatten)[3 + 5 * k + j]? = ([3, 49, 4, 24, 24] : List Int)[j]? := fun j hj => by
      rw [List.getElem?_append_right (by simp; omega), show 3 + 5 * k + j - ([8, 9, 41] : List Int).length = 5 * k + j from by simp; omega]
      exact flat_at rfl sz k j hk hj
    obtain ⟨w0, ew0, lw0⟩ := hD.get ((gt 0 (by omega)).trans rfl)
    obtain ⟨w1, ew1, lw1⟩ := hD.get ((gt 1 (by omega)).trans rfl)
    obtain ⟨w2, ew2, lw2⟩ := hD.get ((gt 2 (by omega)).trans rfl)
    obtain ⟨w3, ew3, lw3⟩ := hD.get ((gt 3 (by omega)).trans rfl)
    obtain ⟨w4, ew4, lw4⟩ := hD.get ((gt 4 (by omega)).trans rfl)
    have hcut := cut_at (ds := ds) (a := 3 + 5 * k) (n := 5) (by omega)
    rw [show (List.range 5).map (fun j => V.int (ds.getD (3 + 5 * k + j) 0)) = [.int (w0 : Int), .int (w1 : Int), .int (w2 : Int), .int (w3 : Int), .int (w4 : Int)] from by
      rw [show List.range 5 = [0, 1, 2, 3, 4] from rfl]
      simp only [List.map_cons, List.map_nil]
      rw [ew0, ew1, ew2, ew3, ew4]] at hcut
    walk_at "sts"
    refine r_slXL hdrG fun sl G2 nsl s2 hsl => ?_
    walk_at "sts"
    rw [show (3 : Int) + 5 * (k : Int) = ((3 + 5 * k : Nat) : Int) by omega, show (8 : Int) + 5 * (k : Int) = ((3 + 5 * k + 5 : Nat) : Int) by omega, hcut] at hsl
    refine r_gseqL (SqL.of hsl) rfl ?_
    walk_at "stn"
    with_reducible refine r_cut (fun σ G' => G' = G2 ∧ ∃ c : Nat, c ≤ 48 ∧ σ = [some (.int n), some (.ref hd), some (.int (sz : Int)), some (.ref dr), some (.ref d), some (.int (k : Int)), some (.int (w0 : Int)), some (.int (c : Int)), some (.int (w2 : Int)), some (.int (w3 : Int)), some (.int (w4 : Int))]) ?_ ?_
    rotate_left
    · intro N hN
      walk_at "sts"
      refine iteD (fun h => ?_) (fun h => ?_)
      · walk_at "sts"
        exact hN _ _ ⟨rfl, w2, by omega, rfl⟩
      · walk_at "sts"
        exact hN _ _ ⟨rfl, w1, by omega, rfl⟩
    rintro σ G' ⟨rfl, c, hc, rfl⟩
    walk_at "sts"
    obtain ⟨e, ee, he1, he2⟩ : ∃ e : Nat, (w3 : Int) + 1 + (w4 : Int) % (24 - (w3 : Int)) = (e : Int) ∧ w3 < e ∧ e ≤ 24 := by
      have a1 := Int.emod_nonneg (w4 : Int) (show (24 - (w3 : Int)) ≠ 0 by omega)
      have a2 := Int.emod_lt_of_pos (w4 : Int) (show 0 < (24 - (w3 : Int)) by omega)
      exact ⟨((w3 : Int) + 1 + (w4 : Int) % (24 - (w3 : Int))).toNat, by omega, by omega, by omega⟩
    rw [ee]
    refine r_newO rfl fun t G3 nt s3 ht => ?_
    walk_at "sts"
    have s23 := s2.trans s3
    obtain ⟨M', eM, hM', lM'⟩ := hM.putM (c := c) (s := (w3, e)) ⟨hc, he1, he2⟩
    refine r_setT (k := kp (w3, e)) (s23 _ _ hdG) ht (by rw [zM_len]; omega) ?_
    rw [eM]
    exact ⟨Same.put (s.trans s23) nd0, by rw [upd_ne drd]; exact s23 _ _ hdrG, ⟨M', upd_same, hM', by omega⟩, _, _, _, _, _, _, rfl⟩
  rintro σ H9 ⟨S9, _, ⟨M, hd9, hM, hMl⟩, x5, x6, x7, x8, x9, x10, rfl⟩
  walk_at "sts"
  refine ⟨d, _, rfl, hd9, fun ob => ?_⟩
  have SA := Same.put (o := .frz ob (.dT (dZ (zM M)))) S9 nd0
  have hdA := upd_same (H := H9) (a := d) (o := .frz ob (.dT (dZ (zM M))))
  generalize upd H9 d (.frz ob (.dT (dZ (zM M)))) = HA at SA hdA ⊢
  refine comp_dT (fun i ys G => Same H G ∧ G d = some (.frz ob (.dT (dZ (zM M)))) ∧ R3 G ys (M.take i)) (by rw [zM_len]; omega) ⟨SA, hdA, R3.nil⟩ ?_ ?_ ?_ ?_
  · rintro i ys G ⟨_, _, h⟩
    rw [h.1, List.length_take]; omega
  · rintro i ys G ⟨_, h, _⟩
    exact h
  · rintro i ys G k v b hk hb ⟨s, hdG, hY⟩
    obtain ⟨p, hp, rfl⟩ := zM_at hk
    have hb' : G b = some (.tup [.int (p.2.1 : Int), .int (p.2.2 : Int)]) := hb
    walk_at "sts"
    refine ⟨KeepSt.set rfl, ?_⟩
    walk_at "sts"
    refine ⟨d, .int (p.1 : Int), rfl, .inr ⟨_, kp p.2, b, .inr ⟨ob, hdG⟩, rfl, hb, (zM_val hM hp).symm⟩, ?_⟩
    walk_at "sts"
    refine r_newO rfl fun t2 G3 nt2 s3 ht2 => ?_
    walk_at "sts"
    refine ⟨s.trans s3, s3 _ _ hdG, ?_⟩
    rw [List.take_add_one, hp]
    exact (hY.same s3).push ⟨t2, rfl, ht2⟩
  rintro ys G D HB ⟨sB, _, hY⟩ nD sB' hD'
  rw [zM_len, List.take_length] at hY
  try walk_at "sts"
  refine sort_R3 hD' (hY.same sB') (by omega) fun qq zs HC L nq SC hq hL pL pwL => ?_
  try walk_at "sts"
  exact q qq zs HC L (Same.back (sB.trans sB') nq) (sB.trans (sB'.trans SC)) hq hL (hM.good (by omega) pL pwL) (by rw [pL.length_eq]; omega)
end

section
variable {P : Program} {w : World} {K : PySem.W.Frag} {mg : Str → Option Value} {base : Heap}
theorem nd_law_next_0 : (["_law_span", "_law_costs"] : List Str).Nodup := by decide +kernel
theorem kz3v : (defScope s_law_next).names.lookup ("sorted" : Str) = some NameKind.globalImplicit := by decide +kernel
theorem kz3w : (defScope s_law_next).names.lookup ("_law_costs" : Str) = some NameKind.cell := by decide +kernel
theorem kz3x : (defScope s_law_next).names.lookup ("range" : Str) = some NameKind.globalImplicit := by decide +kernel
theorem kz3y : (defScope s_law_next).names.lookup ("_law_draws" : Str) = some NameKind.local := by decide +kernel
theorem kz3z : (defScope s_law_next).names.lookup ("_law_k" : Str) = some NameKind.local := by decide +kernel
theorem kz40 : (defScope s_law_next).names.lookup ("_law_price" : Str) = some NameKind.local := by decide +kernel
theorem kz41 : (defScope s_law_next).names.lookup ("_law_begin" : Str) = some NameKind.local := by decide +kernel
theorem kz42 : (defScope s_law_next).names.lookup ("_law_far" : Str) = some NameKind.local := by decide +kernel
theorem kz43 : (defScope s_law_next).names.lookup ("_law_size" : Str) = some NameKind.local := by decide +kernel
theorem kz44 : (defScope s_law_next).names.lookup ("_law_word" : Str) = some NameKind.local := by decide +kernel
theorem kz45 : (defScope s_law_next).names.lookup ("_law_ahead" : Str) = some NameKind.local := by decide +kernel
theorem kz46 : (defScope s_law_next).names.lookup ("_law_list" : Str) = some NameKind.globalImplicit := by decide +kernel
theorem kz47 : (defScope s_law_next).names.lookup ("_law_rest" : Str) = some NameKind.local := by decide +kernel
theorem kz48 : (defScope s_law_next).names.lookup ("_law_cell_here" : Str) = some NameKind.local := by decide +kernel
theorem kz49 : (defScope s_law_next).names.lookup ("_law_drawn" : Str) = some NameKind.globalImplicit := by decide +kernel
theorem kz4a : (defScope s_law_next).names.lookup ("len" : Str) = some NameKind.globalImplicit := by decide +kernel
noncomputable def spLNext (K : PySem.W.Frag) : Sp := fun vs H Q _ => ∃ (n : Int) (a : Addr) (us : List V) (A : List P3), vs = [.int n, .ref a] ∧ H a = some (.lst us) ∧ R3 H us A ∧ Good A ∧ A.length ≤ 100 ∧ ∀ q ys H' L, H q = none → Same H H' → H' q = some (.lst ys) → R3 H' ys L → Good L → (L.length ≤ 41 ∨ L.length ≤ A.length + 3) → Q (.ref q) H'
noncomputable def nb (sz : Nat) : List Int := [4, 4] ++ (List.replicate sz [5, 49]).flatten ++ (List.replicate 3 [24, 24, 49]).flatten
theorem nb_len (sz : Nat) : (nb sz).length = 2 + 2 * sz + 9 := by
  unfold nb
  rw [List.length_append, List.length_append, flat_len (m := 2) rfl, flat_len (m := 3) rfl]; rfl
theorem nb_a {sz k j : Nat} (hk : k < sz) (hj : j < 2) : (nb sz)[2 + 2 * k + j]? = ([5, 49] : List Int)[j]? := by
  unfold nb
  rw [List.getElem?_append_left (by rw [List.length_append, flat_len (m := 2) rfl]; simp; omega), List.getElem?_append_right (by simp; omega), show 2 + 2 * k + j - ([4, 4] : List Int).length = 2 * k + j from by simp; omega]
  exact flat_at rfl sz k j hk hj
theorem nb_b {sz k j : Nat} (hk : k < 3) (hj : j < 3) : (nb sz)[2 + 2 * sz + 3 * k + j]? = ([24, 24, 49] : List Int)[j]? := by
  unfold nb
  rw [List.getElem?_append_right (by rw [List.length_append, flat_len (m := 2) rfl]; simp; omega), List.length_append, flat_len (m := 2) rfl, show 2 + 2 * sz + 3 * k + j - (([4, 4] : List Int).length + 2 * sz) = 3 * k + j from by simp; omega]
  exact flat_at rfl 3 k j hk hj
theorem nb_mem {sz : Nat} {x : Int} (h : x ∈ nb sz) : 0 < x ∧ x < 1073741824 := by
  unfold nb at h
  rcases List.mem_append.mp h with h | h
  · rcases List.mem_append.mp h with h | h
    · simp at h; omega
    · have := flat_mem h
      simp at this; omega
  · have := flat_mem h
    simp at this; omega
theorem sc_law_next : FnScope ["_law_cell_here", "_law_ahead", "_law_size", "_law_draws", "_law_rest", "_law_costs", "_law_k", "_law_word", "_law_price", "_law_begin", "_law_far"] ["_law_cell_here", "_law_ahead"] (defScope s_law_next) := ⟨rfl, rfl, rfl, by decide +kernel, rfl, by decide +kernel, by decide +kernel⟩
theorem h_law_next (T : Txt K mg) : Has P w K mg base 3 "_law_next" ["_law_cell_here", "_law_ahead"] (spLNext K) := by
  have h_law_drawn := h_law_drawn (P := P) (w := w) (base := base) T
  have h_law_list := h_law_list (P := P) (w := w) (base := base) T
  refine hasJ T.d_law_next sc_law_next (fun _ _ _ _ _ _ us hl => L2.usN2 (fun _ _ => rfl) us hl) ?_ fun f cdv A outer s H vs Q E hr h => ?_
  · rintro vs H Q E ⟨n, a, us, A', rfl, _⟩; rfl
  obtain ⟨n, a, us, A', rfl, ha, hA, gA, hAl, q⟩ := h
  have hu := hr.units0
  have hu64 := hr.units
  refine ⟨_, (jb_cons (js_set (i := 2) sc_law_next.nd rfl (Or.inl kz43) (j_callB (call_lenK (K := K) rfl) (glF kz4a) T.b_len bt_len (ja_cons (j_vL 1 kz45) ja_nil) (by decide +kernel) (by decide +kernel)) rfl) (jb_cons (js_set (i := 3) sc_law_next.nd rfl (Or.inl kz3y) (j_call h_law_drawn (hr.mono (by decide)) (glF kz49) (ja_cons (j_vL 0 kz48) (ja_cons (j_op op_addA (j_op op_addA (j_lst (ja_cons j_int (ja_cons j_int ja_nil))) (j_op op_mulA (j_lst (ja_cons j_int (ja_cons j_int ja_nil))) (j_vL 2 kz43))) (j_op op_mulA (j_lst (ja_cons j_int (ja_cons j_int (ja_cons j_int ja_nil)))) j_int)) ja_nil)) (by decide +kernel)) rfl) (jb_cons (js_if (jt_cmp (op_eqE (K := K) rfl hu64) (j_ix (K := K) rfl (j_vL 3 kz3y) j_int) j_int (by first | exact nomark _ | with_unfolding_all rfl)) (jb_cons (js_set (i := 4) sc_law_next.nd rfl (Or.inl kz47) (j_op op_addA (j_vL 0 kz48) j_int) rfl) (jb_cons (js_if (jt_cmp op_ge (j_vL 0 kz48) (j_op op_pow j_int j_int) (by first | exact nomark _ | with_unfolding_all rfl)) (jb_one (js_set (i := 4) sc_law_next.nd rfl (Or.inl kz47) (j_op op_fdivW (j_vL 0 kz48) j_int) rfl)) jb_nil) (jb_one (js_ret (j_call h_law_list (hr.mono (by decide)) (glF kz46) (ja_cons (j_vL 4 kz47) ja_nil) (by decide +kernel)))))) jb_nil) (jb_cons (js_set (i := 5) sc_law_next.nd rfl (Or.inr kz3w) j_dnewT rfl) (jb_cons (js_for PassesOwn.never rfl (ji_range1 (glF kz3x) T.b_range (ja_cons (j_vL 2 kz43) ja_nil)) (jg_name (i := 6) sc_law_next.nd rfl (Or.inl kz3z) rfl) (jb_cons (js_asgT (j_slice (sl_seqX (K := K) rfl) (j_vL 3 kz3y) (jo_some (j_op op_addA j_int (j_op op_mulA j_int (j_vL 6 kz3z)))) (jo_some (j_op op_addA j_int (j_op op_mulA j_int (j_vL 6 kz3z))))) (jg_seqT (K := K) rfl rfl (jgs_cons (jg_name (i := 7) sc_law_next.nd rfl (Or.inl kz44) rfl) (jgs_cons (jg_name (i := 8) sc_law_next.nd rfl (Or.inl kz40) rfl) jgs_nil)))) (jb_one (js_if (jt_cmp (op_eqE (K := K) rfl hu64) (j_vL 7 kz44) j_int (by first | exact nomark _ | with_unfolding_all rfl)) (jb_one (js_asgS (ts := rSetA) (j_vL 8 kz40) (jg_sub (j_vC 5 kz3w) (j_slice (sl_seqX (K := K) rfl) (j_ix (K := K) rfl (j_vL 1 kz45) (j_vL 6 kz3z)) (jo_some j_int) jo_none) (set_any hu64)))) (jb_one (js_if (jt_cmp op_gt (j_vL 7 kz44) j_int (by first | exact nomark _ | with_unfolding_all rfl)) (jb_one (js_asgS (ts := rSetA) (j_ix (K := K) rfl (j_ix (K := K) rfl (j_vL 1 kz45) (j_vL 6 kz3z)) j_int) (jg_sub (j_vC 5 kz3w) (j_slice (sl_seqX (K := K) rfl) (j_ix (K := K) rfl (j_vL 1 kz45) (j_vL 6 kz3z)) (jo_some j_int) jo_none) (set_any hu64)))) jb_nil)))))) (jb_cons (js_for PassesOwn.never rfl (ji_range1 (glF kz3x) T.b_range (ja_cons (j_ix (K := K) rfl (j_vL 3 kz3y) j_int) ja_nil)) (jg_name (i := 6) sc_law_next.nd rfl (Or.inl kz3z) rfl) (jb_cons (js_asgT (j_slice (sl_seqX (K := K) rfl) (j_vL 3 kz3y) (jo_some (j_op op_addA (j_op op_addA j_int (j_op op_mulA j_int (j_vL 2 kz43))) (j_op op_mulA j_int (j_vL 6 kz3z)))) (jo_some (j_op op_addA (j_op op_addA j_int (j_op op_mulA j_int (j_vL 2 kz43))) (j_op op_mulA j_int (j_vL 6 kz3z))))) (jg_seqT (K := K) rfl rfl (jgs_cons (jg_name (i := 9) sc_law_next.nd rfl (Or.inl kz41) rfl) (jgs_cons (jg_name (i := 10) sc_law_next.nd rfl (Or.inl kz42) rfl) (jgs_cons (jg_name (i := 8) sc_law_next.nd rfl (Or.inl kz40) rfl) jgs_nil))))) (jb_one (js_asgS (ts := rSetA) (j_vL 8 kz40) (jg_sub (j_vC 5 kz3w) (j_tup (ja_cons (j_vL 9 kz41) (ja_cons (j_op op_addA (j_op op_addA (j_vL 9 kz41) j_int) (j_op op_mod (j_vL 10 kz42) (j_op op_sub j_int (j_vL 9 kz41)))) ja_nil))) (set_any hu64)))))) (jb_one (js_ret (j_callB call_sortedX (glF kz3v) T.b_sorted bt_sorted (ja_cons (j_comp (sub := [none, some 5]) (subOk_of (N := ["_law_cell_here", "_law_ahead", "_law_size", "_law_draws", "_law_rest", "_law_costs", "_law_k", "_law_word", "_law_price", "_law_begin", "_law_far"]) (sc := defScope s_law_next) (N' := ["_law_span", "_law_costs"]) (by decide +kernel)) rfl rfl rfl (ji_dT (j_vC 5 kz3w)) (fun C s₀ H₀ ex => (jg_B 0 (by decide +kernel) nd_law_next_0)) (fun C s₀ H₀ ex => jif_nil) (fun C s₀ H₀ ex => (j_tup (ja_cons (j_dget hu64 (j_vBF 1 (by decide +kernel)) (j_vBL 0 (by decide +kernel))) (ja_cons (j_ix (K := K) rfl (j_vBL 0 (by decide +kernel)) j_int) (ja_cons (j_ix (K := K) rfl (j_vBL 0 (by decide +kernel)) j_int) ja_nil)))))) ja_nil) (by decide +kernel) (by decide +kernel)))))))))), ?_⟩
  walk_at "sts"
  have hs : 20000 ≤ sizeLine := by decide
  refine r_lenL (SqL.of ha) ?_
  walk_at "sts"
  rw [hA.1]
  obtain ⟨sz, hsz⟩ : ∃ sz, sz = A'.length := ⟨_, rfl⟩
  rw [← hsz]
  have hsl : sz ≤ 100 := by omega
  walk_at "sts"
  refine r_newO rfl fun b1 H1 _ S1 hb1 => ?_
  walk_at "sts"
  refine r_newO rfl fun b2 H2 _ S2 hb2 => ?_
  walk_at "sts"
  refine r_mulL hb2 (by omega) (by omega) (by simp; omega) fun b3 nb3 => ?_
  walk_at "sts"
  rw [show ((sz : Int)).toNat = sz by omega, show ([V.int 5, V.int 49] : List V) = ([5, 49] : List Int).map V.int from rfl, flat_map]
  have S3 := (Same.refl H2).upd nb3 (o := .lst (((List.replicate sz [5, 49]).flatten : List Int).map V.int))
  have hb3 := upd_same (H := H2) (a := b3) (o := .lst (((List.replicate sz [5, 49]).flatten : List Int).map V.int))
  generalize upd H2 b3 (.lst (((List.replicate sz [5, 49]).flatten : List Int).map V.int)) = H3 at S3 hb3 ⊢
  have fl := flat_len (l := [5, 49]) rfl sz
  walk_at "sts"
  refine r_addL (S3 _ _ (S2 _ _ hb1)) hb3 (by rw [List.length_map, fl]; simp; omega) fun b4 nb4 => ?_
  walk_at "sts"
  rw [show ([V.int 4, V.int 4] : List V) ++ ((List.replicate sz [5, 49]).flatten : List Int).map V.int = (([4, 4] : List Int) ++ (List.replicate sz [5, 49]).flatten).map V.int from by rw [List.map_append]; rfl]
  have S4 := (Same.refl H3).upd nb4 (o := .lst ((([4, 4] : List Int) ++ (List.replicate sz [5, 49]).flatten).map V.int))
  have hb4 := upd_same (H := H3) (a := b4) (o := .lst ((([4, 4] : List Int) ++ (List.replicate sz [5, 49]).flatten).map V.int))
  generalize upd H3 b4 (.lst ((([4, 4] : List Int) ++ (List.replicate sz [5, 49]).flatten).map V.int)) = H4 at S4 hb4 ⊢
  walk_at "sts"
  refine r_newO rfl fun b5 H5 _ S5 hb5 => ?_
  walk_at "sts"
  refine r_mulL hb5 (by omega) (by omega) (by simp; omega) fun b6 nb6 => ?_
  walk_at "sts"
  rw [show ((3 : Int)).toNat = 3 from rfl, show ([V.int 24, V.int 24, V.int 49] : List V) = ([24, 24, 49] : List Int).map V.int from rfl, flat_map]
  have S6 := (Same.refl H5).upd nb6 (o := .lst (((List.replicate 3 [24, 24, 49]).flatten : List Int).map V.int))
  have hb6 := upd_same (H := H5) (a := b6) (o := .lst (((List.replicate 3 [24, 24, 49]).flatten : List Int).map V.int))
  generalize upd H5 b6 (.lst (((List.replicate 3 [24, 24, 49]).flatten : List Int).map V.int)) = H6 at S6 hb6 ⊢
  walk_at "sts"
  refine r_addL (S6 _ _ (S5 _ _ hb4)) hb6 (by rw [List.length_map, List.length_map, List.length_append, fl]; simp; omega) fun b7 nb7 => ?_
  walk_at "sts"
  rw [← List.map_append, show ([4, 4] : List Int) ++ (List.replicate sz [5, 49]).flatten ++ (List.replicate 3 [24, 24, 49]).flatten = nb sz from rfl]
  have S7 := (Same.refl H6).upd nb7 (o := .lst ((nb sz).map V.int))
  have hb7 := upd_same (H := H6) (a := b7) (o := .lst ((nb sz).map V.int))
  generalize upd H6 b7 (.lst ((nb sz).map V.int)) = H7 at S7 hb7 ⊢
  have U7 := S1.trans (S2.trans (S3.trans (S4.trans (S5.trans (S6.trans S7)))))
  walk_at "sts"
  refine ⟨n, b7, nb sz, rfl, hb7, by rw [nb_len]; omega, fun x hx => nb_mem hx, fun dr ds H8 ndr S8 hdr hD => ?_⟩
  walk_at "sts"
  have dl : ds.length = 2 + 2 * sz + 9 := by rw [hD.1, nb_len]
  have U8 := U7.trans S8
  obtain ⟨z0, ez0, lz0⟩ := hD.get (i := 0) (b := 4) rfl
  obtain ⟨z1, ez1, lz1⟩ := hD.get (i := 1) (b := 4) rfl
  have at0 : (ds.map V.int)[0]? = some (.int (z0 : Int)) := by
    rw [List.getElem?_map, List.getElem?_eq_getElem (by omega)]
    rw [List.getD_eq_getElem?_getD, List.getElem?_eq_getElem (by omega)] at ez0
    exact congrArg (fun x => some (V.int x)) ez0
  have at1 : (ds.map V.int)[1]? = some (.int (z1 : Int)) := by
    rw [List.getElem?_map, List.getElem?_eq_getElem (by omega)]
    rw [List.getD_eq_getElem?_getD, List.getElem?_eq_getElem (by omega)] at ez1
    exact congrArg (fun x => some (V.int x)) ez1
  refine r_ixL (SqL.of hdr) (atI_nat (j := 0) at0) ?_
  walk_at "sts"
  refine iteD (fun h => ?_) (fun h => ?_)
  · clear h
    walk_at "sts"
    refine iteD (fun h => ?_) (fun h => ?_)
    · clear h
      walk_at "sts"
      refine ⟨n / 4, rfl, fun qq ys H9 L nq S9 hq hL gL lL => ?_⟩
      walk_at "sts"
      exact q qq ys H9 L (Same.back U8 nq) (U8.trans S9) hq hL gL (.inl lL)
    · clear h
      walk_at "sts"
      refine ⟨n + 307, rfl, fun qq ys H9 L nq S9 hq hL gL lL => ?_⟩
      walk_at "sts"
      exact q qq ys H9 L (Same.back U8 nq) (U8.trans S9) hq hL gL (.inl lL)
  clear h
  walk_at "sts"
  intro d nd
  have nd0 := Same.back U8 nd
  have S9 := (Same.refl H8).upd nd (o := .dT [])
  have hd9 := upd_same (H := H8) (a := d) (o := .dT [])
  generalize upd H8 d (.dT []) = H9 at S9 hd9 ⊢
  have U9 := U8.trans S9
  have hdr9 := S9 _ _ hdr
  have drd : dr ≠ d := gNe nd hdr
  walk_at "sts"
  refine ⟨_, rfl, by omega, by omega, ?_⟩
  rw [show ((sz : Int)).toNat = sz by omega]
  refine for_range (n := sz) (fun k σ G => Same H G ∧ G dr = some (.lst (ds.map V.int)) ∧ (∃ M, G d = some (.dT (dZ (zM M))) ∧ Cst M ∧ M.length ≤ k) ∧ ∃ x6 x7 x8, σ = [some (.int n), some (.ref a), some (.int (sz : Int)), some (.ref dr), none, some (.ref d), x6, x7, x8, none, none]) ⟨U9, hdr9, ⟨[], hd9, Cst.nil, Nat.le_refl _⟩, _, _, _, rfl⟩ ?_ ?_
  · rintro k σ G hk ⟨s, hdrG, ⟨M, hdG, hM, hMl⟩, x6, x7, x8, rfl⟩
    rw [Int.zero_add]
    obtain ⟨w0, ew0, lw0⟩ := hD.get ((nb_a hk (j := 0) (by omega)).trans rfl)
    obtain ⟨w1, ew1, lw1⟩ := hD.get ((nb_a hk (j := 1) (by omega)).trans rfl)
    have hcut := cut_at (ds := ds) (a := 2 + 2 * k) (n := 2) (by omega)
    rw [show (List.range 2).map (fun j => V.int (ds.getD (2 + 2 * k + j) 0)) = [.int (w0 : Int), .int (w1 : Int)] from by
      rw [show List.range 2 = [0, 1] from rfl]
      simp only [List.map_cons, List.map_nil]
      rw [ew0, ew1]] at hcut
    have hkA : k < A'.length := by omega
    obtain ⟨v, hv, b, rfl, hb⟩ := (hA.same s).of (List.getElem?_eq_getElem hkA)
    have ok := gA.ok _ (List.getElem_mem hkA)
    generalize A'[k] = p at hb ok
    walk_at "sts"
    refine r_slXL hdrG fun sl G2 nsl s2 hsl => ?_
    walk_at "sts"
    rw [show (2 : Int) + 2 * (k : Int) = ((2 + 2 * k : Nat) : Int) by omega, show (4 : Int) + 2 * (k : Int) = ((2 + 2 * k + 2 : Nat) : Int) by omega, hcut] at hsl
    refine r_gseqL (SqL.of hsl) rfl ?_
    replace hb := s2 _ _ hb
    replace hb : G2 b = some (.tup [.int (p.1 : Int), .int (p.2.1 : Int), .int (p.2.2 : Int)]) := hb
    have ha2 := s2 _ _ (s _ _ ha)
    walk_at "sts"
    refine iteD (fun h => ?_) (fun h => ?_)
    · clear h
      walk_at "sts"
      refine r_ixL (SqL.of ha2) (atI_nat hv) ?_
      walk_at "sts"
      refine r_slXT hb fun t G3 s3 ht => ?_
      walk_at "sts"
      have s23 := s2.trans s3
      obtain ⟨M', eM, hM', lM'⟩ := hM.putM (c := w1) (s := p.2) ⟨by omega, ok.2.1, ok.2.2⟩
      refine r_setT (k := kp p.2) (s23 _ _ hdG) ht (by rw [zM_len]; omega) ?_
      rw [eM]
      exact ⟨Same.put (s.trans s23) nd0, by rw [upd_ne drd]; exact s23 _ _ hdrG, ⟨M', upd_same, hM', by omega⟩, _, _, _, rfl⟩
    · clear h
      walk_at "sts"
      refine iteD (fun h => ?_) (fun h => ?_)
      · clear h
        walk_at "sts"
        refine r_ixL (SqL.of ha2) (atI_nat hv) ?_
        walk_at "sts"
        refine r_ixL (SqL.of ha2) (atI_nat hv) ?_
        walk_at "sts"
        refine r_slXT hb fun t G3 s3 ht => ?_
        walk_at "sts"
        have s23 := s2.trans s3
        obtain ⟨M', eM, hM', lM'⟩ := hM.putM (c := p.1) (s := p.2) ok
        refine r_setT (k := kp p.2) (s23 _ _ hdG) ht (by rw [zM_len]; omega) ?_
        rw [eM]
        exact ⟨Same.put (s.trans s23) nd0, by rw [upd_ne drd]; exact s23 _ _ hdrG, ⟨M', upd_same, hM', by omega⟩, _, _, _, rfl⟩
      · walk_at "sts"
        exact ⟨s.trans s2, s2 _ _ hdrG, ⟨M, s2 _ _ hdG, hM, by omega⟩, _, _, _, rfl⟩
  rintro σ HA ⟨SA, hdrA, ⟨M0, hdA, hM0, hMl0⟩, x6, x7, x8, rfl⟩
  walk_at "sts"
  refine r_ixL (SqL.of hdrA) (atI_nat (j := 1) at1) ?_
  walk_at "sts"
  refine ⟨_, rfl, by omega, by omega, ?_⟩
  rw [show ((z1 : Int)).toNat = z1 by omega]
  refine for_range (n := z1) (fun k σ G => Same H G ∧ G dr = some (.lst (ds.map V.int)) ∧ (∃ M, G d = some (.dT (dZ (zM M))) ∧ Cst M ∧ M.length ≤ sz + k) ∧ ∃ x6 x8 x9 x10, σ = [some (.int n), some (.ref a), some (.int (sz : Int)), some (.ref dr), none, some (.ref d), x6, x7, x8, x9, x10]) ⟨SA, hdrA, ⟨M0, hdA, hM0, hMl0⟩, _, _, _, _, rfl⟩ ?_ ?_
  · rintro k σ G hk ⟨s, hdrG, ⟨M, hdG, hM, hMl⟩, x6, x8, x9, x10, rfl⟩
    rw [Int.zero_add]
    have hk3 : k < 3 := by omega
    obtain ⟨w0, ew0, lw0⟩ := hD.get ((nb_b hk3 (j := 0) (by omega)).trans rfl)
    obtain ⟨w1, ew1, lw1⟩ := hD.get ((nb_b hk3 (j := 1) (by omega)).trans rfl)
    obtain ⟨w2, ew2, lw2⟩ := hD.get ((nb_b hk3 (j := 2) (by omega)).trans rfl)
    have hcut := cut_at (ds := ds) (a := 2 + 2 * sz + 3 * k) (n := 3) (by omega)
    rw [show (List.range 3).map (fun j => V.int (ds.getD (2 + 2 * sz + 3 * k + j) 0)) = [.int (w0 : Int), .int (w1 : Int), .int (w2 : Int)] from by
      rw [show List.range 3 = [0, 1, 2] from rfl]
      simp only [List.map_cons, List.map_nil]
      rw [ew0, ew1, ew2]] at hcut
    walk_at "sts"
    refine r_slXL hdrG fun sl G2 nsl s2 hsl => ?_
    walk_at "sts"
    rw [show (2 : Int) + 2 * (sz : Int) + 3 * (k : Int) = ((2 + 2 * sz + 3 * k : Nat) : Int) by omega, show (5 : Int) + 2 * (sz : Int) + 3 * (k : Int) = ((2 + 2 * sz + 3 * k + 3 : Nat) : Int) by omega, hcut] at hsl
    refine r_gseqL (SqL.of hsl) rfl ?_
    walk_at "sts"
    obtain ⟨e, ee, he1, he2⟩ : ∃ e : Nat, (w0 : Int) + 1 + (w1 : Int) % (24 - (w0 : Int)) = (e : Int) ∧ w0 < e ∧ e ≤ 24 := by
      have a1 := Int.emod_nonneg (w1 : Int) (show (24 - (w0 : Int)) ≠ 0 by omega)
      have a2 := Int.emod_lt_of_pos (w1 : Int) (show 0 < (24 - (w0 : Int)) by omega)
      exact ⟨((w0 : Int) + 1 + (w1 : Int) % (24 - (w0 : Int))).toNat, by omega, by omega, by omega⟩
    rw [ee]
    refine r_newO rfl fun t G3 nt s3 ht => ?_
    walk_at "sts"
    have s23 := s2.trans s3
    obtain ⟨M', eM, hM', lM'⟩ := hM.putM (c := w2) (s := (w0, e)) ⟨by omega, he1, he2⟩
    refine r_setT (k := kp (w0, e)) (s23 _ _ hdG) ht (by rw [zM_len]; omega) ?_
    rw [eM]
    exact ⟨Same.put (s.trans s23) nd0, by rw [upd_ne drd]; exact s23 _ _ hdrG, ⟨M', upd_same, hM', by omega⟩, _, _, _, _, rfl⟩
  rintro σ HB ⟨SB, _, ⟨M, hdB, hM, hMl⟩, x6', x8', x9, x10, rfl⟩
  walk_at "sts"
  refine ⟨d, _, rfl, hdB, fun ob => ?_⟩
  have SC := Same.put (o := .frz ob (.dT (dZ (zM M)))) SB nd0
  have hdC := upd_same (H := HB) (a := d) (o := .frz ob (.dT (dZ (zM M))))
  generalize upd HB d (.frz ob (.dT (dZ (zM M)))) = HC at SC hdC ⊢
  refine comp_dT (fun i ys G => Same H G ∧ G d = some (.frz ob (.dT (dZ (zM M)))) ∧ R3 G ys (M.take i)) (by rw [zM_len]; omega) ⟨SC, hdC, R3.nil⟩ ?_ ?_ ?_ ?_
  · rintro i ys G ⟨_, _, h⟩
    rw [h.1, List.length_take]; omega
  · rintro i ys G ⟨_, h, _⟩
    exact h
  · rintro i ys G k v b hk hb ⟨s, hdG, hY⟩
    obtain ⟨p, hp, rfl⟩ := zM_at hk
    have hb' : G b = some (.tup [.int (p.2.1 : Int), .int (p.2.2 : Int)]) := hb
    walk_at "sts"
    refine ⟨KeepSt.set rfl, ?_⟩
    walk_at "sts"
    refine ⟨d, .int (p.1 : Int), rfl, .inr ⟨_, kp p.2, b, .inr ⟨ob, hdG⟩, rfl, hb, (zM_val hM hp).symm⟩, ?_⟩
    walk_at "sts"
    refine r_newO rfl fun t2 G3 nt2 s3 ht2 => ?_
    walk_at "sts"
    refine ⟨s.trans s3, s3 _ _ hdG, ?_⟩
    rw [List.take_add_one, hp]
    exact (hY.same s3).push ⟨t2, rfl, ht2⟩
  rintro ys G D HD ⟨sD, _, hY⟩ nD sD' hD'
  rw [zM_len, List.take_length] at hY
  try walk_at "sts"
  refine sort_R3 hD' (hY.same sD') (by omega) fun qq zs HE L nq SE hq hL pL pwL => ?_
  try walk_at "sts"
  exact q qq zs HE L (Same.back (sD.trans sD') nq) (sD.trans (sD'.trans SE)) hq hL (hM.good (by omega) pL pwL) (.inr (by rw [pL.length_eq]; omega))
end

section
variable {P : Program} {w : World} {K : PySem.W.Frag} {mg : Str → Option Value} {base : Heap}
theorem kz4b : (defScope s_law_led).names.lookup ("news_of" : Str) = some NameKind.globalImplicit := by decide +kernel
theorem kz4c : (defScope s_law_led).names.lookup ("_law_behind" : Str) = some NameKind.local := by decide +kernel
theorem kz4d : (defScope s_law_led).names.lookup ("_law_ahead" : Str) = some NameKind.local := by decide +kernel
theorem kz4e : (defScope s_law_led).names.lookup ("_law_due" : Str) = some NameKind.local := by decide +kernel
theorem kz4f : (defScope s_law_led).names.lookup ("followed" : Str) = some NameKind.globalImplicit := by decide +kernel
theorem kz4g : (defScope s_law_led).names.lookup ("_law_news_here" : Str) = some NameKind.local := by decide +kernel
theorem kz4h : (defScope s_law_led).names.lookup ("_law_handed" : Str) = some NameKind.local := by decide +kernel
theorem kz4i : (defScope s_law_led).names.lookup ("_law_found" : Str) = some NameKind.local := by decide +kernel
theorem kz4j : (defScope s_law_led).names.lookup ("_law_told" : Str) = some NameKind.local := by decide +kernel
theorem kz4k : (defScope s_law_led).names.lookup ("_law_tuples" : Str) = some NameKind.globalImplicit := by decide +kernel
theorem kz4l : (defScope s_law_led).names.lookup ("list" : Str) = some NameKind.globalImplicit := by decide +kernel
theorem kz4m : (defScope s_law_led).names.lookup ("_law_news_kind" : Str) = some NameKind.globalImplicit := by decide +kernel
theorem kz4n : (defScope s_law_led).names.lookup ("_law_news" : Str) = some NameKind.globalImplicit := by decide +kernel
theorem tpD_sh (ts : List (List Int)) : PySem.SeqAt.shaped (tpD ts) = true := lay_shaped (lay_tp ts) (by omega)
noncomputable def twoD (A B : List P3) : PyData := .list [tpD (A.map i3), tpD (B.map i3)]
theorem twoD_sh (A B : List P3) : PySem.SeqAt.shaped (twoD A B) = true := by
  refine lay_shaped (n := 3) (lay_list (n := 2) fun d hd => ?_) (by omega)
  simp only [List.mem_cons, List.mem_nil_iff, or_false] at hd
  rcases hd with rfl | rfl <;> exact lay_tp _
theorem twoD_dr {H : Hp} {g a b : Addr} {us ws : List V} {A B : List P3} (hg : H g = some (.lst [.ref a, .ref b])) (ha : H a = some (.lst us)) (hA : R3 H us A) (hb : H b = some (.lst ws)) (hB : R3 H ws B) : DR H (twoD A B) (.ref g) :=
  DR_list.mpr ⟨g, _, rfl, hg, DRs_cons.mpr ⟨_, _, rfl, hA.rt.dr ha, DRs_cons.mpr ⟨_, _, rfl, hB.rt.dr hb, DRs_nil.mpr rfl⟩⟩⟩
noncomputable def spLed (K : PySem.W.Frag) : Sp := fun vs H Q _ => ∃ (a b : Addr) (us ws : List V) (A B : List P3), vs = [.ref a, .ref b] ∧ H a = some (.lst us) ∧ R3 H us A ∧ Good A ∧ H b = some (.lst ws) ∧ R3 H ws B ∧ Good B ∧ ∀ H', Same H H' → Q (.bl true) H'
theorem sc_law_led : FnScope ["_law_ahead", "_law_behind", "_law_due", "_law_handed", "_law_found", "_law_news_here", "_law_told"] ["_law_ahead", "_law_behind"] (defScope s_law_led) := ⟨rfl, rfl, rfl, by decide +kernel, rfl, by decide +kernel, by decide +kernel⟩
theorem h_law_led (T : Txt K mg) : Has P w K mg base 9 "_law_led" ["_law_ahead", "_law_behind"] (spLed K) := by
  have h_law_news := h_law_news (P := P) (w := w) (base := base) T
  have h_news_of := h_news_of (P := P) (w := w) (base := base) T
  have h_law_news_kind := h_law_news_kind (P := P) (w := w) (base := base) T
  have h_followed := h_followed (P := P) (w := w) (base := base) T
  have h_law_tuples := h_law_tuples (P := P) (w := w) (base := base) T
  refine hasJ T.d_law_led sc_law_led (fun _ _ _ _ _ _ us hl => L2.usN2 (fun _ _ => rfl) us hl) ?_ fun f cdv A outer s H vs Q E hr h => ?_
  · rintro vs H Q E ⟨a, b, us, ws, A', B, rfl, _⟩; rfl
  obtain ⟨a, b, us, ws, A', B, rfl, ha, hA, gA, hb, hB, gB, q⟩ := h
  have hu := hr.units0
  have hu64 := hr.units
  refine ⟨_, (jb_cons (js_set (i := 2) sc_law_led.nd rfl (Or.inl kz4e) (j_call h_law_news (hr.mono (by decide)) (glF kz4n) (ja_cons (j_vL 0 kz4d) (ja_cons (j_vL 1 kz4c) ja_nil)) (by decide +kernel)) rfl) (jb_cons (js_set (i := 3) sc_law_led.nd rfl (Or.inl kz4h) (j_lst (ja_cons (j_callTy (call_listK (K := K) rfl rfl) (glF kz4l) T.b_list bt_list (ja_cons (j_vL 0 kz4d) ja_nil) (by decide +kernel) (by decide +kernel)) (ja_cons (j_callTy (call_listK (K := K) rfl rfl) (glF kz4l) T.b_list bt_list (ja_cons (j_vL 1 kz4c) ja_nil) (by decide +kernel) (by decide +kernel)) ja_nil))) rfl) (jb_cons (js_set (i := 4) sc_law_led.nd rfl (Or.inl kz4i) (j_call h_news_of (hr.mono (by decide)) (glF kz4b) (ja_cons (j_ix (K := K) rfl (j_vL 3 kz4h) j_int) (ja_cons (j_ix (K := K) rfl (j_vL 3 kz4h) j_int) ja_nil)) (by decide +kernel)) rfl) (jb_cons (js_if (jw_pt (jw_or (jt_not (jt_val (j_call h_law_news_kind (hr.mono (by decide)) (glF kz4m) (ja_cons (j_vL 4 kz4i) ja_nil) (by decide +kernel)))) (jw_or (jt_cmp (op_neX (K := K) rfl hu64) (j_vL 4 kz4i) (j_vL 2 kz4e) (by first | exact nomark _ | with_unfolding_all rfl)) (jw_or1 (jt_cmp (op_neX (K := K) rfl hu64) (j_vL 3 kz4h) (j_lst (ja_cons (j_vL 0 kz4d) (ja_cons (j_vL 1 kz4c) ja_nil))) (by first | exact nomark _ | with_unfolding_all rfl)))))) (jb_one (js_ret j_bl)) jb_nil) (jb_cons (js_set (i := 5) sc_law_led.nd rfl (Or.inl kz4g) (j_tup (ja_cons (j_callTy (call_listK (K := K) rfl rfl) (glF kz4l) T.b_list bt_list (ja_cons (j_ix (K := K) rfl (j_vL 2 kz4e) j_int) ja_nil) (by decide +kernel) (by decide +kernel)) (ja_cons (j_callTy (call_listK (K := K) rfl rfl) (glF kz4l) T.b_list bt_list (ja_cons (j_ix (K := K) rfl (j_vL 2 kz4e) j_int) ja_nil) (by decide +kernel) (by decide +kernel)) (ja_cons (j_callTy (call_listK (K := K) rfl rfl) (glF kz4l) T.b_list bt_list (ja_cons (j_ix (K := K) rfl (j_vL 2 kz4e) j_int) ja_nil) (by decide +kernel) (by decide +kernel)) ja_nil)))) rfl) (jb_cons (js_set (i := 6) sc_law_led.nd rfl (Or.inl kz4j) (j_call h_followed (hr.mono (by decide)) (glF kz4f) (ja_cons (j_ix (K := K) rfl (j_vL 3 kz4h) j_int) (ja_cons (j_vL 5 kz4g) ja_nil)) (by decide +kernel)) rfl) (jb_cons (js_if (jw_pt (jw_or (jt_not (jt_val (j_call h_law_tuples (hr.mono (by decide)) (glF kz4k) (ja_cons (j_vL 6 kz4j) (ja_cons j_int ja_nil)) (by decide +kernel)))) (jw_or (jt_cmp (op_neX (K := K) rfl hu64) (j_vL 6 kz4j) (j_vL 1 kz4c) (by first | exact nomark _ | with_unfolding_all rfl)) (jw_or (jt_cmp (op_neX (K := K) rfl hu64) (j_vL 5 kz4g) (j_vL 2 kz4e) (by first | exact nomark _ | with_unfolding_all rfl)) (jw_or1 (jt_cmp (op_neX (K := K) rfl hu64) (j_vL 3 kz4h) (j_lst (ja_cons (j_vL 0 kz4d) (ja_cons (j_vL 1 kz4c) ja_nil))) (by first | exact nomark _ | with_unfolding_all rfl))))))) (jb_one (js_ret j_bl)) jb_nil) (jb_cons (js_expr (j_meth (K := K) rfl PySem.F.plainAttrs_list PySem.F.slot_list_append PySem.F.type_list_append mt_append (j_vL 6 kz4j) (ja_cons (j_tup (ja_cons j_int (ja_cons j_int (ja_cons j_int ja_nil)))) ja_nil))) (jb_cons (js_expr (j_meth (K := K) rfl PySem.F.plainAttrs_list PySem.F.slot_list_append PySem.F.type_list_append mt_append (j_ix (K := K) rfl (j_vL 4 kz4i) j_int) (ja_cons (j_tup (ja_cons j_int (ja_cons j_int (ja_cons j_int ja_nil)))) ja_nil))) (jb_cons (js_expr (j_meth0 (K := K) rfl PySem.F.plainAttrs_list PySem.F.slot_list_clear PySem.F.type_list_clear mt_clear (j_ix (K := K) rfl (j_vL 4 kz4i) j_int))) (jb_one (js_ret (j_and (j_cmp (op_eqE (K := K) rfl hu64) (j_call h_followed (hr.mono (by decide)) (glF kz4f) (ja_cons (j_ix (K := K) rfl (j_vL 3 kz4h) j_int) (ja_cons (j_vL 5 kz4g) ja_nil)) (by decide +kernel)) (j_vL 1 kz4c) (by first | exact nomark _ | with_unfolding_all rfl)) (j_one (j_cmp (op_eqE (K := K) rfl hu64) (j_call h_news_of (hr.mono (by decide)) (glF kz4b) (ja_cons (j_vL 0 kz4d) (ja_cons (j_vL 1 kz4c) ja_nil)) (by decide +kernel)) (j_vL 2 kz4e) (by first | exact nomark _ | with_unfolding_all rfl)))))))))))))))), ?_⟩
  walk_at "sts"
  have hs : 20000 ≤ sizeLine := by decide
  have lA := gA.le
  have lB := gB.le
  have hwl := hB.1
  refine ⟨a, b, us, ws, A', B, rfl, ha, hA, gA, hb, hB, gB, fun du H1 ndu S1 hdu => ?_⟩
  walk_at "sts"
  refine r_listL (SqL.of (S1 _ _ ha)) fun a2 na2 => ?_
  walk_at "sts"
  have S2 := (Same.refl H1).upd na2 (o := .lst us)
  have ha2 := upd_same (H := H1) (a := a2) (o := .lst us)
  generalize upd H1 a2 (.lst us) = H2 at S2 ha2 ⊢
  walk_at "sts"
  refine r_listL (SqL.of (S2 _ _ (S1 _ _ hb))) fun b2 nb2 => ?_
  walk_at "sts"
  have S3 := (Same.refl H2).upd nb2 (o := .lst ws)
  have hb2 := upd_same (H := H2) (a := b2) (o := .lst ws)
  generalize upd H2 b2 (.lst ws) = H3 at S3 hb2 ⊢
  walk_at "sts"
  refine r_newO rfl fun hh H4 nhh S4 hhh => ?_
  walk_at "sts"
  have U4 := S1.trans (S2.trans (S3.trans S4))
  have ha4 := S4 _ _ (S3 _ _ ha2)
  have hb4 := S4 _ _ hb2
  have hA4 := hA.same U4
  have hB4 := hB.same U4
  have hdu4 := hdu.same (S2.trans (S3.trans S4))
  have haa := U4 _ _ ha
  have hbb := U4 _ _ hb
  refine ⟨a2, b2, us, ws, A', B, rfl, ha4, hA4, gA, hb4, hB4, gB, fun n c l m cs ls ms H5 nn S5 z1 z2 z3 z4 z5 z6 z7 nc nm cm => ?_⟩
  walk_at "sts"
  have hNf : Nw H5 n A' B := ⟨c, l, m, cs, ls, ms, z1, z2, z3, z4, z5, z6, z7⟩
  refine ⟨n, A', B, rfl, hNf, lA, lB, fun H6 S6 => ?_⟩
  walk_at "sts"
  have V6 := S5.trans S6
  refine r_neSame (hNf.same S6).dr (hdu4.same V6).dr (nwD_sh _ _) ?_
  walk_at "sts"
  refine r_newO rfl fun e1 H7 _ S7 he1 => ?_
  walk_at "sts"
  have V7 := V6.trans S7
  refine r_neSame (twoD_dr (V7 _ _ hhh) (V7 _ _ ha4) (hA4.same V7) (V7 _ _ hb4) (hB4.same V7)) (twoD_dr he1 (V7 _ _ haa) (hA4.same V7) (V7 _ _ hbb) (hB4.same V7)) (twoD_sh _ _) ?_
  obtain ⟨dc, dl, dm, dcs, dls, dms, y1, y2, y3, y4, y5, y6, y7⟩ := hdu4.same V7
  have hc7 := S7 _ _ (S6 _ _ z2)
  have hm7 := S7 _ _ (S6 _ _ z6)
  walk_at "sts"
  refine r_listL (SqL.of y2) fun p1 np1 => ?_
  walk_at "sts"
  have S8 := (Same.refl H7).upd np1 (o := .lst dcs)
  have hp1 := upd_same (H := H7) (a := p1) (o := .lst dcs)
  generalize upd H7 p1 (.lst dcs) = H8 at S8 hp1 ⊢
  have y18 := S8 _ _ y1
  walk_at "sts"
  refine r_listL (SqL.of (S8 _ _ y4)) fun p2 np2 => ?_
  walk_at "sts"
  have S9 := (Same.refl H8).upd np2 (o := .lst dls)
  have hp2 := upd_same (H := H8) (a := p2) (o := .lst dls)
  generalize upd H8 p2 (.lst dls) = H9 at S9 hp2 ⊢
  have y19 := S9 _ _ y18
  walk_at "sts"
  refine r_listL (SqL.of (S9 _ _ (S8 _ _ y6))) fun p3 np3 => ?_
  walk_at "sts"
  have S10 := (Same.refl H9).upd np3 (o := .lst dms)
  have hp3 := upd_same (H := H9) (a := p3) (o := .lst dms)
  generalize upd H9 p3 (.lst dms) = H10 at S10 hp3 ⊢
  walk_at "sts"
  refine r_newO rfl fun n2 H11 nn2 S11 hn2 => ?_
  walk_at "sts"
  have W11 := S8.trans (S9.trans (S10.trans S11))
  have V11 := V7.trans W11
  have c1 : p1 ≠ c := fun z => gNe np1 hc7 z.symm
  have c2 : p2 ≠ c := fun z => gNe np2 (S8 _ _ hc7) z.symm
  have c3' : p3 ≠ c := fun z => gNe np3 (S9 _ _ (S8 _ _ hc7)) z.symm
  have m1 : p1 ≠ m := fun z => gNe np1 hm7 z.symm
  have m2 : p2 ≠ m := fun z => gNe np2 (S8 _ _ hm7) z.symm
  have m3 : p3 ≠ m := fun z => gNe np3 (S9 _ _ (S8 _ _ hm7)) z.symm
  have hp1' := S11 _ _ (S10 _ _ (S9 _ _ hp1))
  have hp2' := S11 _ _ (S10 _ _ hp2)
  have hp3' := S11 _ _ hp3
  have x3 := y3.same W11
  have x5 := y5.same W11
  have x7 := y7.same W11
  have hN2 : Nw H11 n2 A' B := ⟨p1, p2, p3, dcs, dls, dms, hn2, hp1', x3, hp2', x5, hp3', x7⟩
  have hhh11 := V11 _ _ hhh
  walk_at "sts"
  refine ⟨a2, n2, us, A', B, rfl, V11 _ _ ha4, hA4.same V11, gA, gB, hN2, fun t ts H12 nt S12 ht hT => ?_⟩
  walk_at "sts"
  refine ⟨t, ts, _, 3, rfl, ht, hT.rt, i3s_len _, by omega, by rw [List.length_map]; omega, fun H13 S13 => ?_⟩
  walk_at "sts"
  have V13 := S12.trans S13
  have X13 := V11.trans V13
  refine r_neSame ((hT.same S13).rt.dr (S13 _ _ ht)) ((hB4.same X13).rt.dr (X13 _ _ hbb)) (tpD_sh _) ?_
  walk_at "sts"
  refine r_neSame (hN2.same V13).dr (hdu4.same X13).dr (nwD_sh _ _) ?_
  walk_at "sts"
  refine r_newO rfl fun e2 H14 _ S14 he2 => ?_
  walk_at "sts"
  have X14 := X13.trans S14
  refine r_neSame (twoD_dr (X14 _ _ hhh) (X14 _ _ ha4) (hA4.same X14) (X14 _ _ hb4) (hB4.same X14)) (twoD_dr he2 (X14 _ _ haa) (hA4.same X14) (X14 _ _ hbb) (hB4.same X14)) (twoD_sh _ _) ?_
  walk_at "sts"
  have hts := hT.1
  refine ⟨.inl ⟨rfl, _, SqL.of (S14 _ _ (S13 _ _ ht))⟩, ?_⟩
  walk_at "sts"
  refine r_newO rfl fun u1 H15 _ S15 hu1 => ?_
  walk_at "sts"
  refine r_append (S15 _ _ (S14 _ _ (S13 _ _ ht))) (by omega) ?_
  have S16 := Same.put (o := .lst (ts ++ [.ref u1])) (V13.trans (S14.trans S15)) nt
  generalize upd H15 t (.lst (ts ++ [.ref u1])) = H16 at S16 ⊢
  have z16 := S16 _ _ (W11 _ _ (S7 _ _ (S6 _ _ z1)))
  have hc16 := S16 _ _ (W11 _ _ hc7)
  have hm16 := S16 _ _ (W11 _ _ hm7)
  have hcl : cs.length ≤ 1000 := by rw [z3.1]; have := nam_len B A'; omega
  walk_at "sts"
  refine ⟨.inl ⟨rfl, _, SqL.of hc16⟩, ?_⟩
  walk_at "sts"
  refine r_newO rfl fun u2 H17 _ S17 hu2 => ?_
  walk_at "sts"
  refine r_append (S17 _ _ hc16) (by omega) ?_
  have Y17 := S16.trans S17
  have V17 := V11.trans Y17
  have cl : ∀ xs, H17 c ≠ some (.tup xs) := notTup (S17 _ _ hc16)
  have S18 := Same.put (o := .lst (cs ++ [.ref u2])) V17 nc
  have hn18 : upd H17 c (.lst (cs ++ [.ref u2])) n = some (.tup [.ref c, .ref l, .ref m]) := by rw [upd_ne (fun z => by rw [z, hc16] at z16; cases z16)]; exact S17 _ _ z16
  have hm18 : upd H17 c (.lst (cs ++ [.ref u2])) m = some (.lst ms) := by rw [upd_ne (Ne.symm cm)]; exact S17 _ _ hm16
  have hn2' : upd H17 c (.lst (cs ++ [.ref u2])) n2 = some (.tup [.ref p1, .ref p2, .ref p3]) := by rw [upd_ne (fun z => cl _ (by rw [← z]; exact Y17 _ _ hn2))]; exact Y17 _ _ hn2
  have k1 : upd H17 c (.lst (cs ++ [.ref u2])) p1 = some (.lst dcs) := by rw [upd_ne c1]; exact Y17 _ _ hp1'
  have k2 : upd H17 c (.lst (cs ++ [.ref u2])) p2 = some (.lst dls) := by rw [upd_ne c2]; exact Y17 _ _ hp2'
  have k3 : upd H17 c (.lst (cs ++ [.ref u2])) p3 = some (.lst dms) := by rw [upd_ne c3']; exact Y17 _ _ hp3'
  have r3 := (x3.same Y17).put (o := .lst (cs ++ [.ref u2])) cl
  have r5 := (x5.same Y17).put (o := .lst (cs ++ [.ref u2])) cl
  have r7 := (x7.same Y17).put (o := .lst (cs ++ [.ref u2])) cl
  generalize upd H17 c (.lst (cs ++ [.ref u2])) = H18 at S18 hn18 hm18 hn2' k1 k2 k3 r3 r5 r7 ⊢
  walk_at "sts"
  refine ⟨.inl ⟨rfl, _, SqL.of hm18⟩, ?_⟩
  walk_at "sts"
  refine ⟨m, _, rfl, rfl, hm18, ?_⟩
  have ml : ∀ xs, H18 m ≠ some (.tup xs) := notTup hm18
  have S19 := Same.put (o := .lst []) S18 nm
  have hN3 : Nw (upd H18 m (.lst [])) n2 A' B := ⟨p1, p2, p3, dcs, dls, dms, by rw [upd_ne (fun z => ml _ (by rw [← z]; exact hn2'))]; exact hn2', by rw [upd_ne m1]; exact k1, r3.put ml, by rw [upd_ne m2]; exact k2, r5.put ml, by rw [upd_ne m3]; exact k3, r7.put ml⟩
  generalize upd H18 m (.lst []) = H19 at S19 hN3 ⊢
  have hhh19 := S19 _ _ hhh
  walk_at "sts"
  refine ⟨a2, n2, us, A', B, rfl, S19 _ _ ha4, hA4.same S19, gA, gB, hN3, fun t2 ts2 H20 nt2 S20 ht2 hT2 => ?_⟩
  walk_at "sts"
  have X20 := S19.trans S20
  refine .inl (.inl (r_eqSame (hT2.rt.dr ht2) ((hB4.same X20).rt.dr (X20 _ _ hbb)) (tpD_sh _) ?_))
  walk_at "sts"
  refine ⟨a, b, us, ws, A', B, rfl, X20 _ _ haa, hA4.same X20, gA, X20 _ _ hbb, hB4.same X20, gB, fun n4 c4 l4 m4 cs4 ls4 ms4 H21 nn4 S21 t1 t2 t3 t4 t5 t6 t7 _ _ _ => ?_⟩
  walk_at "sts"
  have X21 := X20.trans S21
  refine .inl (.inl (r_eqSame (Nw.dr ⟨c4, l4, m4, cs4, ls4, ms4, t1, t2, t3, t4, t5, t6, t7⟩) (hdu4.same X21).dr (nwD_sh _ _) ?_))
  exact q _ (U4.trans X21)
end

section
variable {P : Program} {w : World} {K : PySem.W.Frag} {mg : Str → Option Value} {base : Heap}
theorem kz4o : (defScope s_law).names.lookup ("_law_script" : Str) = some NameKind.local := by decide +kernel
theorem kz4p : (defScope s_law).names.lookup ("_law_cell_here" : Str) = some NameKind.local := by decide +kernel
theorem kz4q : (defScope s_law).names.lookup ("_law_ahead" : Str) = some NameKind.local := by decide +kernel
theorem kz4r : (defScope s_law).names.lookup ("_law_behind" : Str) = some NameKind.local := by decide +kernel
theorem kz4s : (defScope s_law).names.lookup ("_law_heard" : Str) = some NameKind.local := by decide +kernel
theorem kz4t : (defScope s_law).names.lookup ("followed" : Str) = some NameKind.globalImplicit := by decide +kernel
theorem kz4u : (defScope s_law).names.lookup ("news_of" : Str) = some NameKind.globalImplicit := by decide +kernel
theorem kz4v : (defScope s_law).names.lookup ("_law_led" : Str) = some NameKind.globalImplicit := by decide +kernel
theorem kz4w : (defScope s_law).names.lookup ("is_ranked" : Str) = some NameKind.globalImplicit := by decide +kernel
theorem kz4x : (defScope s_law).names.lookup ("_law_next" : Str) = some NameKind.globalImplicit := by decide +kernel
theorem kz4y : (defScope s_law).names.lookup ("list" : Str) = some NameKind.globalImplicit := by decide +kernel
theorem kz4z : (defScope s_law).names.lookup ("_law_list" : Str) = some NameKind.globalImplicit := by decide +kernel
theorem kz50 : (defScope s_law).names.lookup ("_law_cell" : Str) = some NameKind.globalImplicit := by decide +kernel
theorem cut12 {xs : List V} : (cutV xs (some ((1 : Nat) : Int)) (some ((13 : Nat) : Int))).length ≤ 12 := by
  unfold cutV
  rw [HT.sIx_nat, HT.sIx_nat, List.length_take]
  omega
theorem cut_sub {xs : List V} {lo hi : Option Int} {v : V} (h : v ∈ cutV xs lo hi) : v ∈ xs := by
  unfold cutV at h
  exact List.mem_of_mem_drop (List.mem_of_mem_take h)
theorem Good.nil : Good [] := ⟨(fun p hp => nomatch hp), List.nodup_nil, (fun i p q e => by simp at e), by simp⟩
noncomputable def spLaw (K : PySem.W.Frag) : Sp := fun vs H Q _ => ∃ (a : Addr) (ns : List Int), vs = [.ref a] ∧ SqL K H a (ns.map V.int) ∧ ns.length ≤ 63 ∧ ∀ H', Q (.bl true) H'
theorem sc_law : FnScope ["_law_script", "_law_ahead", "_law_heard", "_law_cell_here", "_law_behind"] ["_law_script"] (defScope s_law) := ⟨rfl, rfl, rfl, by decide +kernel, rfl, by decide +kernel, by decide +kernel⟩
theorem ok_law (T : Txt K mg) {f0 : Addr} {fd0 : FuncData} (F0 : Fun K "law" "law" s_law f0 fd0) : FnOk P w K mg base CX0 10 f0 fd0 ["_law_script"] (spLaw K) := by
  have h_law_list := h_law_list (P := P) (w := w) (base := base) T
  have h_law_cell := h_law_cell (P := P) (w := w) (base := base) T
  have h_is_ranked := h_is_ranked (P := P) (w := w) (base := base) T
  have h_law_led := h_law_led (P := P) (w := w) (base := base) T
  have h_law_next := h_law_next (P := P) (w := w) (base := base) T
  have h_followed := h_followed (P := P) (w := w) (base := base) T
  have h_news_of := h_news_of (P := P) (w := w) (base := base) T
  refine okJ F0 sc_law ?_ fun f cdv A outer s H vs Q E hr h => ?_
  · rintro vs H Q E ⟨sc, ns, rfl, _⟩; rfl
  obtain ⟨sc, ns, rfl, hS, hlen, q⟩ := h
  have hu := hr.units0
  have hu64 := hr.units
  refine ⟨_, (jb_cons (js_set (i := 1) sc_law.nd rfl (Or.inl kz4q) (j_call h_law_list (hr.mono (by decide)) (glF kz4z) (ja_cons (j_call h_law_cell (hr.mono (by decide)) (glF kz50) (ja_cons (j_vL 0 kz4o) (ja_cons j_int ja_nil)) (by decide +kernel)) ja_nil) (by decide +kernel)) rfl) (jb_cons (js_set (i := 2) sc_law.nd rfl (Or.inl kz4s) (j_callTy (call_listK (K := K) rfl rfl) (glF kz4y) T.b_list bt_list (ja_cons (j_vL 1 kz4q) ja_nil) (by decide +kernel) (by decide +kernel)) rfl) (jb_cons (js_if (jw_pt (jw_or (jt_cmp op_isNotA (j_call h_is_ranked (hr.mono (by decide)) (glF kz4w) (ja_cons (j_vL 1 kz4q) ja_nil) (by decide +kernel)) j_bl (by first | exact nomark _ | with_unfolding_all rfl)) (jw_or (jt_not (jt_val (j_call h_law_led (hr.mono (by decide)) (glF kz4v) (ja_cons (j_vL 1 kz4q) (ja_cons (j_vL 1 kz4q) ja_nil)) (by decide +kernel)))) (jw_or1 (jt_not (jt_val (j_call h_law_led (hr.mono (by decide)) (glF kz4v) (ja_cons (j_lst ja_nil) (ja_cons (j_vL 1 kz4q) ja_nil)) (by decide +kernel)))))))) (jb_one (js_ret j_bl)) jb_nil) (jb_cons (js_for PassesOwn.never rfl (ji_seq (K := K) rfl (j_slice (sl_seqX (K := K) rfl) (j_vL 0 kz4o) (jo_some j_int) (jo_some j_int))) (jg_name (i := 3) sc_law.nd rfl (Or.inl kz4p) rfl) (jb_cons (js_set (i := 4) sc_law.nd rfl (Or.inl kz4r) (j_call h_law_next (hr.mono (by decide)) (glF kz4x) (ja_cons (j_vL 3 kz4p) (ja_cons (j_vL 1 kz4q) ja_nil)) (by decide +kernel)) rfl) (jb_cons (js_if (jw_pt (jw_or (jt_cmp op_isNotA (j_call h_is_ranked (hr.mono (by decide)) (glF kz4w) (ja_cons (j_vL 4 kz4r) ja_nil) (by decide +kernel)) j_bl (by first | exact nomark _ | with_unfolding_all rfl)) (jw_or (jt_not (jt_val (j_call h_law_led (hr.mono (by decide)) (glF kz4v) (ja_cons (j_vL 1 kz4q) (ja_cons (j_vL 4 kz4r) ja_nil)) (by decide +kernel)))) (jw_or1 (jt_not (jt_val (j_call h_law_led (hr.mono (by decide)) (glF kz4v) (ja_cons (j_vL 4 kz4r) (ja_cons (j_vL 1 kz4q) ja_nil)) (by decide +kernel)))))))) (jb_one (js_ret j_bl)) jb_nil) (jb_cons (js_set (i := 2) sc_law.nd rfl (Or.inl kz4s) (j_call h_followed (hr.mono (by decide)) (glF kz4t) (ja_cons (j_vL 2 kz4s) (ja_cons (j_call h_news_of (hr.mono (by decide)) (glF kz4u) (ja_cons (j_vL 1 kz4q) (ja_cons (j_vL 4 kz4r) ja_nil)) (by decide +kernel)) ja_nil)) (by decide +kernel)) rfl) (jb_cons (js_if (jt_cmp (op_neX (K := K) rfl hu64) (j_vL 2 kz4s) (j_vL 4 kz4r) (by first | exact nomark _ | with_unfolding_all rfl)) (jb_one (js_ret j_bl)) jb_nil) (jb_one (js_set (i := 1) sc_law.nd rfl (Or.inl kz4q) (j_vL 4 kz4r) rfl))))))) (jb_one (js_ret j_bl)))))), ?_⟩
  walk_at "sts"
  have hs : 20000 ≤ sizeLine := by decide
  refine ⟨sc, ns, 0, rfl, hS, fun c0 => ?_⟩
  walk_at "sts"
  refine ⟨c0, rfl, fun a us H1 A' na S1 ha hA gA lA => ?_⟩
  walk_at "sts"
  refine r_listL (SqL.of ha) fun h nh => ?_
  walk_at "sts"
  have S2 := (Same.refl H1).upd nh (o := .lst us)
  have hh := upd_same (H := H1) (a := h) (o := .lst us)
  generalize upd H1 h (.lst us) = H2 at S2 hh ⊢
  have ha2 := S2 _ _ ha
  have hA2 := hA.same S2
  walk_at "sts"
  refine ⟨a, us, A', rfl, ha2, hA2, gA, fun H3 S3 => ?_⟩
  walk_at "sts"
  rw [show (!(true == true)) = false from rfl]
  walk_at "sts"
  refine ⟨a, a, us, us, A', A', rfl, S3 _ _ ha2, hA2.same S3, gA, S3 _ _ ha2, hA2.same S3, gA, fun H4 S4 => ?_⟩
  walk_at "sts"
  have V4 := S3.trans S4
  refine r_newO rfl fun e0 H5 _ S5 he0 => ?_
  walk_at "sts"
  have V5 := V4.trans S5
  refine ⟨e0, a, [], us, [], A', rfl, he0, R3.nil, Good.nil, V5 _ _ ha2, hA2.same V5, gA, fun H6 S6 => ?_⟩
  walk_at "sts"
  have V6 := V5.trans S6
  have U6 := S1.trans (S2.trans V6)
  refine .inl (r_slL (U6.seq hS) fun sl nsl => ?_)
  have S7 := (Same.refl H6).upd nsl (o := .lst (cutV (ns.map V.int) (some 1) (some 13)))
  have hsl := upd_same (H := H6) (a := sl) (o := .lst (cutV (ns.map V.int) (some 1) (some 13)))
  generalize upd H6 sl (.lst (cutV (ns.map V.int) (some 1) (some 13))) = H7 at S7 hsl ⊢
  have V7 := V6.trans S7
  have lc : (cutV (ns.map V.int) (some 1) (some 13)).length ≤ 12 := cut12
  refine .inl ⟨sl, rfl, ⟨_, SqL.of hsl⟩, ?_⟩
  refine for_list (xs := cutV (ns.map V.int) (some 1) (some 13)) (fun k σ G => Same H7 G ∧ ∃ (a h : Addr) (us hs : List V) (A : List P3) (x3 x4 : Option V), σ = [some (.ref sc), some (.ref a), some (.ref h), x3, x4] ∧ G a = some (.lst us) ∧ R3 G us A ∧ Good A ∧ A.length ≤ 41 + 3 * k ∧ G h = some (.lst hs) ∧ R3 G hs A)
    ⟨Same.refl H7, a, h, us, us, A', _, _, rfl, V7 _ _ ha2, hA2.same V7, gA, by omega, V7 _ _ hh, hA2.same V7⟩ (fun i σ G _ h => SqL.of (h.1 _ _ hsl)) ?_ ?_
  · rintro k v σ G hv ⟨s, a, h, us, hs', A, x3, x4, rfl, ha, hA, gA, lA, hh, hHs⟩
    have hk := (List.getElem?_eq_some_iff.mp hv).1
    obtain ⟨n, _, rfl⟩ := List.mem_map.mp (cut_sub (List.mem_of_getElem? hv))
    walk_at "sts"
    refine ⟨n, a, us, A, rfl, ha, hA, gA, by omega, fun b ws G2 B nb s2 hb hB gB lB => ?_⟩
    walk_at "sts"
    refine ⟨b, ws, B, rfl, hb, hB, gB, fun G3 s3 => ?_⟩
    walk_at "sts"
    rw [show (!(true == true)) = false from rfl]
    walk_at "sts"
    have s23 := s2.trans s3
    refine ⟨a, b, us, ws, A, B, rfl, s23 _ _ ha, hA.same s23, gA, s3 _ _ hb, hB.same s3, gB, fun G4 s4 => ?_⟩
    walk_at "sts"
    have s24 := s23.trans s4
    have s34 := s3.trans s4
    refine ⟨b, a, ws, us, B, A, rfl, s34 _ _ hb, hB.same s34, gB, s24 _ _ ha, hA.same s24, gA, fun G5 s5 => ?_⟩
    walk_at "sts"
    have s25 := s24.trans s5
    have s35 := s34.trans s5
    refine ⟨a, b, us, ws, A, B, rfl, s25 _ _ ha, hA.same s25, gA, s35 _ _ hb, hB.same s35, gB, fun n c l m cs ls ms G6 nn s6 t1 t2 t3 t4 t5 t6 t7 _ _ _ => ?_⟩
    walk_at "sts"
    have s26 := s25.trans s6
    have s36 := s35.trans s6
    refine ⟨h, n, hs', A, B, rfl, s26 _ _ hh, hHs.same s26, gA, gB, ⟨c, l, m, cs, ls, ms, t1, t2, t3, t4, t5, t6, t7⟩, fun h2 hs2 G7 nh2 s7 hh2 hHs2 => ?_⟩
    walk_at "sts"
    have s37 := s36.trans s7
    refine r_neSame (hHs2.rt.dr hh2) ((hB.same s37).rt.dr (s37 _ _ hb)) (tpD_sh _) ?_
    walk_at "sts"
    exact ⟨s.trans (s26.trans s7), b, h2, ws, hs2, B, _, _, rfl, s37 _ _ hb, hB.same s37, gB, by omega, hh2, hHs2⟩
  · rintro σ G ⟨s, a, h, us, hs', A, x3, x4, rfl, ha, hA, gA, lA, hh, hHs⟩
    walk_at "sts"
    exact q _
end

end My
noncomputable def PySem.W.Fast.tw6247521354973220357 : Nat := 0
noncomputable def PySem.W.Fast.tw15556809857331084725 : Nat := 0
noncomputable def PySem.W.Fast.tw8348525827968717934 : Nat := 0
noncomputable def PySem.W.Fast.tw6185121293524031124 : Nat := 0
noncomputable def PySem.W.Fast.tw11626782880513463699 : Nat := 0
noncomputable def PySem.W.Fast.tw11352786456594579755 : Nat := 0
noncomputable def PySem.W.Fast.tw12117671919898034734 : Nat := 0
noncomputable def PySem.W.Fast.tw14476692922328171290 : Nat := 0
noncomputable def PySem.W.Fast.tw3473301832990034108 : Nat := 0
noncomputable def PySem.W.Fast.tw13564886374790381855 : Nat := 0
noncomputable def PySem.W.Fast.tw10820279151622327297 : Nat := 0
noncomputable def PySem.W.Fast.tw9802422673629683772 : Nat := 0
noncomputable def PySem.W.Fast.tw9389403866387484993 : Nat := 0
noncomputable def PySem.W.Fast.tw4273781738624968955 : Nat := 0
noncomputable def PySem.W.Fast.tw10959564521533902708 : Nat := 0
noncomputable def PySem.W.Fast.tw5913369395048861731 : Nat := 0
noncomputable def PySem.W.Fast.tw9163212384445337596 : Nat := 0
noncomputable def PySem.W.Fast.tw3227698601496772518 : Nat := 0
noncomputable def PySem.W.Fast.tw5493966346457577629 : Nat := 0
noncomputable def PySem.W.Fast.tw12320451200249275476 : Nat := 0
noncomputable def PySem.W.Fast.tw541293048787659020 : Nat := 0
noncomputable def PySem.W.Fast.tw6409897618205690363 : Nat := 0
noncomputable def PySem.W.Fast.tw13872618640548167210 : Nat := 0
noncomputable def PySem.W.Fast.tw1240440307179328909 : Nat := 0
noncomputable def PySem.W.Fast.tw8625943163462655630 : Nat := 0
noncomputable def PySem.W.Fast.tw4153264851255484393 : Nat := 0
noncomputable def PySem.W.Fast.tw13530792301996657191 : Nat := 0
noncomputable def PySem.W.Fast.tw13286014195584891764 : Nat := 0
noncomputable def PySem.W.Fast.tw5621061004170915744 : Nat := 0
noncomputable def PySem.W.Fast.tw1372234124683093654 : Nat := 0
noncomputable def PySem.W.Fast.tw7849338033930934131 : Nat := 0
noncomputable def PySem.W.Fast.tw14305919761007098983 : Nat := 0
noncomputable def PySem.W.Fast.tw15794611604530585537 : Nat := 0
noncomputable def PySem.W.Fast.tw16350182410851858025 : Nat := 0
noncomputable def PySem.W.Fast.tw6681265029719502394 : Nat := 0
noncomputable def PySem.W.Fast.tw10146305901834922506 : Nat := 0
noncomputable def PySem.W.Fast.tw10674268009982417405 : Nat := 0
noncomputable def PySem.W.Fast.tw618101208660286965 : Nat := 0
noncomputable def PySem.W.Fast.tw16885269209052727555 : Nat := 0
noncomputable def PySem.W.Fast.tw16196090883848467207 : Nat := 0
noncomputable def PySem.W.Fast.tw9977748861152558582 : Nat := 0
noncomputable def PySem.W.Fast.tw15341510235762457130 : Nat := 0
noncomputable def PySem.W.Fast.tw17793229588498658045 : Nat := 0
noncomputable def PySem.W.Fast.tw16182375107629264858 : Nat := 0
noncomputable def PySem.W.Fast.tw15459851228026508217 : Nat := 0
noncomputable def PySem.W.Fast.tw7358680695407429841 : Nat := 0
noncomputable def PySem.W.Fast.tw15836807291404773899 : Nat := 0
noncomputable def PySem.W.Fast.tw10150316645334995446 : Nat := 0
noncomputable def PySem.W.Fast.tw8960718166691308178 : Nat := 0
noncomputable def PySem.W.Fast.tw2306721294243719181 : Nat := 0
noncomputable def PySem.W.Fast.tw16232024631868426688 : Nat := 0
noncomputable def PySem.W.Fast.tw5203983114053449209 : Nat := 0
noncomputable def PySem.W.Fast.tw11803116461986809867 : Nat := 0
noncomputable def PySem.W.Fast.tw810497344458756351 : Nat := 0
noncomputable def PySem.W.Fast.tw15812738284882322836 : Nat := 0
noncomputable def PySem.W.Fast.tw3595204758912918673 : Nat := 0
noncomputable def PySem.W.Fast.tw13320267046049521972 : Nat := 0
noncomputable def PySem.W.Fast.tw1992876208020486299 : Nat := 0
noncomputable def PySem.W.Fast.tw11152330995516831118 : Nat := 0
noncomputable def PySem.W.Fast.tw3292725731434066541 : Nat := 0
noncomputable def PySem.W.Fast.tw1470528379880182216 : Nat := 0
noncomputable def PySem.W.Fast.tw6112308767367777048 : Nat := 0
noncomputable def PySem.W.Fast.tw2982952358605906873 : Nat := 0
noncomputable def PySem.W.Fast.tw3963209865772285632 : Nat := 0
noncomputable def PySem.W.Fast.tw7488319928527320482 : Nat := 0
noncomputable def PySem.W.Fast.tw2086560253020357570 : Nat := 0
noncomputable def PySem.W.Fast.tw4734824674558149716 : Nat := 0
noncomputable def PySem.W.Fast.tw2152241406867579144 : Nat := 0
noncomputable def PySem.W.Fast.tw17041606691983299081 : Nat := 0
noncomputable def PySem.W.Fast.tw5178435871782964436 : Nat := 0
noncomputable def PySem.W.Fast.tw2525408269299616860 : Nat := 0
noncomputable def PySem.W.Fast.tw2446115217880241720 : Nat := 0
noncomputable def PySem.W.Fast.tw17180230108331538075 : Nat := 0
noncomputable def PySem.W.Fast.tw15999268631248690645 : Nat := 0
noncomputable def PySem.W.Fast.tw4713839599604801123 : Nat := 0
noncomputable def PySem.W.Fast.tw6446571821115343519 : Nat := 0
noncomputable def PySem.W.Fast.tw7136499789524220086 : Nat := 0
noncomputable def PySem.W.Fast.tw6574764042071704779 : Nat := 0
noncomputable def PySem.W.Fast.tw12164328623068941360 : Nat := 0
noncomputable def PySem.W.Fast.tw1175234735618707926 : Nat := 0
noncomputable def PySem.W.Fast.tw2291308398259853753 : Nat := 0
noncomputable def PySem.W.Fast.tw11942127819837021017 : Nat := 0
noncomputable def PySem.W.Fast.tw1767285781305092449 : Nat := 0
noncomputable def PySem.W.Fast.tw8456964787754605259 : Nat := 0
noncomputable def PySem.W.Fast.tw1643986035662117613 : Nat := 0
noncomputable def PySem.W.Fast.tw11477990320181077190 : Nat := 0
noncomputable def PySem.W.Fast.tw65244302875130970 : Nat := 0
noncomputable def PySem.W.Fast.tw8075445295487134538 : Nat := 0
noncomputable def PySem.W.Fast.tw9624504309572035106 : Nat := 0
noncomputable def PySem.W.Fast.tw16384831146825083838 : Nat := 0
noncomputable def PySem.W.Fast.tw5692127277296440900 : Nat := 0
noncomputable def PySem.W.Fast.tw17909822715818363537 : Nat := 0
noncomputable def PySem.W.Fast.tw14313153930500254976 : Nat := 0
noncomputable def PySem.W.Fast.tw780325833873889494 : Nat := 0
noncomputable def PySem.W.Fast.tw9401622860452486820 : Nat := 0
noncomputable def PySem.W.Fast.tw3631726847122663486 : Nat := 0
noncomputable def PySem.W.Fast.tw7476028965517397716 : Nat := 0
noncomputable def PySem.W.Fast.tw8679151338578418780 : Nat := 0
noncomputable def PySem.W.Fast.tw3327091276130590993 : Nat := 0
noncomputable def PySem.W.Fast.tw15440183093475053171 : Nat := 0
noncomputable def PySem.W.Fast.tw3611500492255154701 : Nat := 0
noncomputable def PySem.W.Fast.tw17481539394390009932 : Nat := 0
noncomputable def PySem.W.Fast.tw13981270513796756972 : Nat := 0
noncomputable def PySem.W.Fast.tw8228027156323929941 : Nat := 0
noncomputable def PySem.W.Fast.tw7436736156616927834 : Nat := 0
noncomputable def PySem.W.Fast.tw668298834849268055 : Nat := 0
noncomputable def PySem.W.Fast.tw14427813439539134898 : Nat := 0
noncomputable def PySem.W.Fast.tw10961309556385621115 : Nat := 0
noncomputable def PySem.W.Fast.tw8467166030171054125 : Nat := 0
noncomputable def PySem.W.Fast.tw9952234470743405705 : Nat := 0
noncomputable def PySem.W.Fast.tw13243235591751303891 : Nat := 0
noncomputable def PySem.W.Fast.tw10150512975321036189 : Nat := 0
noncomputable def PySem.W.Fast.tw11082890505839814222 : Nat := 0
noncomputable def PySem.W.Fast.tw6161386557890899934 : Nat := 0
noncomputable def PySem.W.Fast.tw7352258845570995498 : Nat := 0
noncomputable def PySem.W.Fast.tw8383957837088268159 : Nat := 0
noncomputable def PySem.W.Fast.tw15908396262925396625 : Nat := 0
noncomputable def PySem.W.Fast.tw16150485040950099833 : Nat := 0
noncomputable def PySem.W.Fast.tw3397441639209418487 : Nat := 0
noncomputable def PySem.W.Fast.tw14841275172340128830 : Nat := 0
noncomputable def PySem.W.Fast.tw17060358501305408612 : Nat := 0
noncomputable def PySem.W.Fast.tw11183745809941960967 : Nat := 0
noncomputable def PySem.W.Fast.tw2883763721969455078 : Nat := 0
noncomputable def PySem.W.Fast.tw7145814594391240689 : Nat := 0
noncomputable def PySem.W.Fast.tw11995943350762837825 : Nat := 0
noncomputable def PySem.W.Fast.tw3557809412215601044 : Nat := 0
noncomputable def PySem.W.Fast.tw16348417514292380063 : Nat := 0
noncomputable def PySem.W.Fast.tw9322321986891753533 : Nat := 0
noncomputable def PySem.W.Fast.tw12080777547160201467 : Nat := 0
noncomputable def PySem.W.Fast.tw5572596127797696542 : Nat := 0
noncomputable def PySem.W.Fast.tw8449913699345463370 : Nat := 0
noncomputable def PySem.W.Fast.tw12129020472282095770 : Nat := 0
noncomputable def PySem.W.Fast.tw17155451617845591389 : Nat := 0
noncomputable def PySem.W.Fast.tw17193643082610695487 : Nat := 0
noncomputable def PySem.W.Fast.tw12625459150017140326 : Nat := 0
noncomputable def PySem.W.Fast.tw1491259001506908850 : Nat := 0
noncomputable def PySem.W.Fast.tw1280517276803325664 : Nat := 0
noncomputable def PySem.W.Fast.tw6863975226313783746 : Nat := 0
noncomputable def PySem.W.Fast.tw8124716303421024370 : Nat := 0
noncomputable def PySem.W.Fast.tw17645889771254752985 : Nat := 0
noncomputable def PySem.W.Fast.tw11041806758275149084 : Nat := 0
noncomputable def PySem.W.Fast.tw10694631787904838557 : Nat := 0
noncomputable def PySem.W.Fast.tw9372857271103092700 : Nat := 0
noncomputable def PySem.W.Fast.tw8655065052522650377 : Nat := 0
noncomputable def PySem.W.Fast.tw14762835475640740724 : Nat := 0
noncomputable def PySem.W.Fast.tw7623353021124071136 : Nat := 0
noncomputable def PySem.W.Fast.tw4689982670365687435 : Nat := 0
noncomputable def PySem.W.Fast.tw2647212949588391793 : Nat := 0
noncomputable def PySem.W.Fast.tw14292180829100062047 : Nat := 0
noncomputable def PySem.W.Fast.tw18408615916958114444 : Nat := 0
noncomputable def PySem.W.Fast.tw12511566160143674143 : Nat := 0
noncomputable def PySem.W.Fast.tw16037134625584979523 : Nat := 0
noncomputable def PySem.W.Fast.tw15735144857198745795 : Nat := 0
noncomputable def PySem.W.Fast.tw5842348478274269767 : Nat := 0
noncomputable def PySem.W.Fast.tw8066635375529955544 : Nat := 0
noncomputable def PySem.W.Fast.tw3233658185337486983 : Nat := 0
noncomputable def PySem.W.Fast.tw13810508512793548425 : Nat := 0
noncomputable def PySem.W.Fast.tw14463950229893558424 : Nat := 0
noncomputable def PySem.W.Fast.tw3109398006008111780 : Nat := 0
noncomputable def PySem.W.Fast.tw1023558140468632882 : Nat := 0
noncomputable def PySem.W.Fast.tw5800247740105471875 : Nat := 0
noncomputable def PySem.W.Fast.tw12421011148565140669 : Nat := 0
noncomputable def PySem.W.Fast.tw9343266987565126583 : Nat := 0
noncomputable def PySem.W.Fast.tw16877667211171393599 : Nat := 0
noncomputable def PySem.W.Fast.tw13784106484917242950 : Nat := 0
noncomputable def PySem.W.Fast.tw6070113649998442037 : Nat := 0
noncomputable def PySem.W.Fast.tw14464203632591874316 : Nat := 0
noncomputable def PySem.W.Fast.tw9733920899019668191 : Nat := 0
noncomputable def PySem.W.Fast.tw12734048532919835188 : Nat := 0
noncomputable def PySem.W.Fast.tw619828229434136393 : Nat := 0
noncomputable def PySem.W.Fast.tw15067424961862922858 : Nat := 0
noncomputable def PySem.W.Fast.tw11209039628053865009 : Nat := 0
noncomputable def PySem.W.Fast.tw7373261876726524671 : Nat := 0
noncomputable def PySem.W.Fast.tw6816928982811907023 : Nat := 0
noncomputable def PySem.W.Fast.tw12293586941008298567 : Nat := 0
noncomputable def PySem.W.Fast.tw428057638442253040 : Nat := 0
noncomputable def PySem.W.Fast.tw6657361049108052378 : Nat := 0
noncomputable def PySem.W.Fast.tw7109030972307836949 : Nat := 0
noncomputable def PySem.W.Fast.tw9318374131291640544 : Nat := 0
noncomputable def PySem.W.Fast.tw14852688359113444826 : Nat := 0
noncomputable def PySem.W.Fast.tw4031413508005807587 : Nat := 0
noncomputable def PySem.W.Fast.tw12757639130873838252 : Nat := 0
noncomputable def PySem.W.Fast.tw16317811536250669904 : Nat := 0
noncomputable def PySem.W.Fast.tw8822229265092636487 : Nat := 0
noncomputable def PySem.W.Fast.tw4326377825405576101 : Nat := 0
noncomputable def PySem.W.Fast.tw180474258441952752 : Nat := 0
noncomputable def PySem.W.Fast.tw10242602126449383021 : Nat := 0
noncomputable def PySem.W.Fast.tw10613100425573348797 : Nat := 0
noncomputable def PySem.W.Fast.tw6525847096590900068 : Nat := 0
noncomputable def PySem.W.Fast.tw10217139165233781509 : Nat := 0
noncomputable def PySem.W.Fast.tw10410945101205170383 : Nat := 0
noncomputable def PySem.W.Fast.tw17971589076038513440 : Nat := 0
noncomputable def PySem.W.Fast.tw16967857411112464942 : Nat := 0
noncomputable def PySem.W.Fast.tw11527706309074900397 : Nat := 0
noncomputable def PySem.W.Fast.tw7983789703762257392 : Nat := 0
noncomputable def PySem.W.Fast.tw1837001088016445632 : Nat := 0
noncomputable def PySem.W.Fast.tw7602187906431246265 : Nat := 0
noncomputable def PySem.W.Fast.tw3423328896079871062 : Nat := 0
noncomputable def PySem.W.Fast.tw11259709150143291438 : Nat := 0
noncomputable def PySem.W.Fast.tw11921646792690418432 : Nat := 0
noncomputable def PySem.W.Fast.tw13771672149769245634 : Nat := 0
noncomputable def PySem.W.Fast.tw1689902428673618116 : Nat := 0
noncomputable def PySem.W.Fast.tw2937900309621895765 : Nat := 0
noncomputable def PySem.W.Fast.tw2417455099063152225 : Nat := 0
noncomputable def PySem.W.Fast.tw4291275482992148375 : Nat := 0
noncomputable def PySem.W.Fast.tw6411360739367681693 : Nat := 0
noncomputable def PySem.W.Fast.tw2247188316003557448 : Nat := 0
noncomputable def PySem.W.Fast.tw17316933521073825029 : Nat := 0
noncomputable def PySem.W.Fast.tw8491362047141985267 : Nat := 0
noncomputable def PySem.W.Fast.tw6795476652050178312 : Nat := 0
noncomputable def PySem.W.Fast.tw10020046521888122085 : Nat := 0
noncomputable def PySem.W.Fast.tw16594579715803031836 : Nat := 0
open PySem PySem.W PyProof.Rows
set_option maxRecDepth 100000 in
set_option maxHeartbeats 0 in
theorem PySem.Challenge.cw_panethread_k68_news_of_lists_holds : PySem.Challenge.rw_panethread_k68_news_of_lists.Holds := by
  w_on; o_law; k_head; (case hw => w_witness2)
  k_fill
  refine L2.walkJ (l := PySem.Challenge.rw_panethread_k68_news_of_lists) (st := My.s_law) (k := 10) (x := "_law_script") (sp := My.spLaw) rfl rfl rfl ⟨rfl, by decide, by decide, rfl⟩ (fun w h Y => PySem.W.kIn_of Y) (fun _ _ _ _ _ _ us hl => L2.usN1 (fun _ => rfl) us hl) ?F (fun K H a ns hl hS => ⟨a, ns, rfl, hS, hl, fun _ => rfl⟩)
  case F =>
    intro w mg h KX G
    have b_all : mg "all" = none := by
      refine' PySem.W.mg_none_of KX G ?a
      (case a => k_is)
    have b_bool : mg "bool" = none := by
      refine' PySem.W.mg_none_of KX G ?a
      (case a => k_is)
    have b_enumerate : mg "enumerate" = none := by
      refine' PySem.W.mg_none_of KX G ?a
      (case a => k_is)
    have b_int : mg "int" = none := by
      refine' PySem.W.mg_none_of KX G ?a
      (case a => k_is)
    have b_isinstance : mg "isinstance" = none := by
      refine' PySem.W.mg_none_of KX G ?a
      (case a => k_is)
    have b_len : mg "len" = none := by
      refine' PySem.W.mg_none_of KX G ?a
      (case a => k_is)
    have b_list : mg "list" = none := by
      refine' PySem.W.mg_none_of KX G ?a
      (case a => k_is)
    have b_range : mg "range" = none := by
      refine' PySem.W.mg_none_of KX G ?a
      (case a => k_is)
    have b_sorted : mg "sorted" = none := by
      refine' PySem.W.mg_none_of KX G ?a
      (case a => k_is)
    have b_tuple : mg "tuple" = none := by
      refine' PySem.W.mg_none_of KX G ?a
      (case a => k_is)
    have c_MOST_COST : ∃ t, mg "MOST_COST" = some (.int 48 t) := by
      refine' L2.const_mk KX G ?a ?h
      (case a => k_is); (case h => exact ⟨_, by with_unfolding_all rfl⟩)
    have c_MOST_LETTERS : ∃ t, mg "MOST_LETTERS" = some (.int 24 t) := by
      refine' L2.const_mk KX G ?a ?h
      (case a => k_is); (case h => exact ⟨_, by with_unfolding_all rfl⟩)
    have d_is_number : L2.Def (L2.KOf KX) mg "is_number" My.s_is_number := by
      dsimp only [L2.KOf]
      refine' L2.def_mk KX G ?a ?l ?c ?k
      (case a => k_is); (case l => k_is); (case c => k_is); (case k => k_is)
    have d_is_within : L2.Def (L2.KOf KX) mg "is_within" My.s_is_within := by
      dsimp only [L2.KOf]
      refine' L2.def_mk KX G ?a ?l ?c ?k
      (case a => k_is); (case l => k_is); (case c => k_is); (case k => k_is)
    have d_is_span : L2.Def (L2.KOf KX) mg "is_span" My.s_is_span := by
      dsimp only [L2.KOf]
      refine' L2.def_mk KX G ?a ?l ?c ?k
      (case a => k_is); (case l => k_is); (case c => k_is); (case k => k_is)
    have d_are_numbers : L2.Def (L2.KOf KX) mg "are_numbers" My.s_are_numbers := by
      dsimp only [L2.KOf]
      refine' L2.def_mk KX G ?a ?l ?c ?k
      (case a => k_is); (case l => k_is); (case c => k_is); (case k => k_is)
    have d_is_priced : L2.Def (L2.KOf KX) mg "is_priced" My.s_is_priced := by
      dsimp only [L2.KOf]
      refine' L2.def_mk KX G ?a ?l ?c ?k
      (case a => k_is); (case l => k_is); (case c => k_is); (case k => k_is)
    have d_span_of : L2.Def (L2.KOf KX) mg "span_of" My.s_span_of := by
      dsimp only [L2.KOf]
      refine' L2.def_mk KX G ?a ?l ?c ?k
      (case a => k_is); (case l => k_is); (case c => k_is); (case k => k_is)
    have d_ranks_of : L2.Def (L2.KOf KX) mg "ranks_of" My.s_ranks_of := by
      dsimp only [L2.KOf]
      refine' L2.def_mk KX G ?a ?l ?c ?k
      (case a => k_is); (case l => k_is); (case c => k_is); (case k => k_is)
    have d_is_ranked : L2.Def (L2.KOf KX) mg "is_ranked" My.s_is_ranked := by
      dsimp only [L2.KOf]
      refine' L2.def_mk KX G ?a ?l ?c ?k
      (case a => k_is); (case l => k_is); (case c => k_is); (case k => k_is)
    have d_need_ranked : L2.Def (L2.KOf KX) mg "need_ranked" My.s_need_ranked := by
      dsimp only [L2.KOf]
      refine' L2.def_mk KX G ?a ?l ?c ?k
      (case a => k_is); (case l => k_is); (case c => k_is); (case k => k_is)
    have d_not_among : L2.Def (L2.KOf KX) mg "not_among" My.s_not_among := by
      dsimp only [L2.KOf]
      refine' L2.def_mk KX G ?a ?l ?c ?k
      (case a => k_is); (case l => k_is); (case c => k_is); (case k => k_is)
    have d_moved_between : L2.Def (L2.KOf KX) mg "moved_between" My.s_moved_between := by
      dsimp only [L2.KOf]
      refine' L2.def_mk KX G ?a ?l ?c ?k
      (case a => k_is); (case l => k_is); (case c => k_is); (case k => k_is)
    have d_news_of : L2.Def (L2.KOf KX) mg "news_of" My.s_news_of := by
      dsimp only [L2.KOf]
      refine' L2.def_mk KX G ?a ?l ?c ?k
      (case a => k_is); (case l => k_is); (case c => k_is); (case k => k_is)
    have d_are_all_numbers : L2.Def (L2.KOf KX) mg "are_all_numbers" My.s_are_all_numbers := by
      dsimp only [L2.KOf]
      refine' L2.def_mk KX G ?a ?l ?c ?k
      (case a => k_is); (case l => k_is); (case c => k_is); (case k => k_is)
    have d_are_news : L2.Def (L2.KOf KX) mg "are_news" My.s_are_news := by
      dsimp only [L2.KOf]
      refine' L2.def_mk KX G ?a ?l ?c ?k
      (case a => k_is); (case l => k_is); (case c => k_is); (case k => k_is)
    have d_told_behind : L2.Def (L2.KOf KX) mg "told_behind" My.s_told_behind := by
      dsimp only [L2.KOf]
      refine' L2.def_mk KX G ?a ?l ?c ?k
      (case a => k_is); (case l => k_is); (case c => k_is); (case k => k_is)
    have d_followed : L2.Def (L2.KOf KX) mg "followed" My.s_followed := by
      dsimp only [L2.KOf]
      refine' L2.def_mk KX G ?a ?l ?c ?k
      (case a => k_is); (case l => k_is); (case c => k_is); (case k => k_is)
    have d_law_cell : L2.Def (L2.KOf KX) mg "_law_cell" My.s_law_cell := by
      dsimp only [L2.KOf]
      refine' L2.def_mk KX G ?a ?l ?c ?k
      (case a => k_is); (case l => k_is); (case c => k_is); (case k => k_is)
    have d_law_drawn : L2.Def (L2.KOf KX) mg "_law_drawn" My.s_law_drawn := by
      dsimp only [L2.KOf]
      refine' L2.def_mk KX G ?a ?l ?c ?k
      (case a => k_is); (case l => k_is); (case c => k_is); (case k => k_is)
    have d_law_tuples : L2.Def (L2.KOf KX) mg "_law_tuples" My.s_law_tuples := by
      dsimp only [L2.KOf]
      refine' L2.def_mk KX G ?a ?l ?c ?k
      (case a => k_is); (case l => k_is); (case c => k_is); (case k => k_is)
    have d_law_news_kind : L2.Def (L2.KOf KX) mg "_law_news_kind" My.s_law_news_kind := by
      dsimp only [L2.KOf]
      refine' L2.def_mk KX G ?a ?l ?c ?k
      (case a => k_is); (case l => k_is); (case c => k_is); (case k => k_is)
    have d_law_ranks : L2.Def (L2.KOf KX) mg "_law_ranks" My.s_law_ranks := by
      dsimp only [L2.KOf]
      refine' L2.def_mk KX G ?a ?l ?c ?k
      (case a => k_is); (case l => k_is); (case c => k_is); (case k => k_is)
    have d_law_news : L2.Def (L2.KOf KX) mg "_law_news" My.s_law_news := by
      dsimp only [L2.KOf]
      refine' L2.def_mk KX G ?a ?l ?c ?k
      (case a => k_is); (case l => k_is); (case c => k_is); (case k => k_is)
    have d_law_list : L2.Def (L2.KOf KX) mg "_law_list" My.s_law_list := by
      dsimp only [L2.KOf]
      refine' L2.def_mk KX G ?a ?l ?c ?k
      (case a => k_is); (case l => k_is); (case c => k_is); (case k => k_is)
    have d_law_next : L2.Def (L2.KOf KX) mg "_law_next" My.s_law_next := by
      dsimp only [L2.KOf]
      refine' L2.def_mk KX G ?a ?l ?c ?k
      (case a => k_is); (case l => k_is); (case c => k_is); (case k => k_is)
    have d_law_led : L2.Def (L2.KOf KX) mg "_law_led" My.s_law_led := by
      dsimp only [L2.KOf]
      refine' L2.def_mk KX G ?a ?l ?c ?k
      (case a => k_is); (case l => k_is); (case c => k_is); (case k => k_is)
    have d_law : L2.Def (L2.KOf KX) mg "law" My.s_law := by
      dsimp only [L2.KOf]
      refine' L2.def_mk KX G ?a ?l ?c ?k
      (case a => k_is); (case l => k_is); (case c => k_is); (case k => k_is)
    have x_NoNear : L2.XTxt (L2.KOf KX) mg "NoNear" ["found"] "NoNear.__init__" My.i_NoNear := by
      dsimp only [L2.KOf]
      refine' L2.xt_mk KX G ?a ?b ?kp ?na ?i ?t ?l ?c ?k
      (case a => k_is); (case b => kernel_rfl); (case kp => k_is); (case na => kernel_rfl); (case i => k_is); (case t => k_is); (case l => k_is); (case c => k_is); (case k => k_is)
    have x_NoTold : L2.XTxt (L2.KOf KX) mg "NoTold" ["found"] "NoTold.__init__" My.i_NoTold := by
      dsimp only [L2.KOf]
      refine' L2.xt_mk KX G ?a ?b ?kp ?na ?i ?t ?l ?c ?k
      (case a => k_is); (case b => kernel_rfl); (case kp => k_is); (case na => kernel_rfl); (case i => k_is); (case t => k_is); (case l => k_is); (case c => k_is); (case k => k_is)
    exact ⟨d_law, fun base f fd F => My.ok_law ⟨b_all, b_bool, b_enumerate, b_int, b_isinstance, b_len, b_list, b_range, b_sorted, b_tuple, c_MOST_COST, c_MOST_LETTERS, d_is_number, d_is_within, d_is_span, d_are_numbers, d_is_priced, d_span_of, d_ranks_of, d_is_ranked, d_need_ranked, d_not_among, d_moved_between, d_news_of, d_are_all_numbers, d_are_news, d_told_behind, d_followed, d_law_cell, d_law_drawn, d_law_tuples, d_law_news_kind, d_law_ranks, d_law_news, d_law_list, d_law_next, d_law_led, d_law, x_NoNear, x_NoTold⟩ F⟩
