import PyProof.Rows.All
import Wide.All
import OpenK.AllK
import Wide.FinOn
import Lean
import PyProof.EqAt
import PyProof.EqKinds
import PyProof.TupleCall
import PyProof.ReprRoads
import KE.KSortTup
import PySem.Challenge.RW_panethread_k63_changes_after_changes
-- CHANGE: your row's module here, as the last of these rows
set_option compiler.extract_closed false
set_option Elab.async false
set_option linter.all false
set_option maxRecDepth 100000
namespace L2
@[elab_as_elim] theorem usN1 {p : List PySem.Value → Prop} (h : ∀ a0 : PySem.Value, p [a0]) (us : List PySem.Value) (hl : us.length = 1) : p us := by
  rcases us with _ | ⟨a0, us0⟩
  · cases hl
  rcases us0 with _ | ⟨b, us⟩
  · exact h a0
  · cases hl
@[elab_as_elim] theorem usN2 {p : List PySem.Value → Prop} (h : ∀ a0 a1 : PySem.Value, p [a0, a1]) (us : List PySem.Value) (hl : us.length = 2) : p us := by
  rcases us with _ | ⟨a0, us0⟩
  · cases hl
  rcases us0 with _ | ⟨a1, us1⟩
  · cases hl
  rcases us1 with _ | ⟨b, us⟩
  · exact h a0 a1
  · cases hl
@[elab_as_elim] theorem usN3 {p : List PySem.Value → Prop} (h : ∀ a0 a1 a2 : PySem.Value, p [a0, a1, a2]) (us : List PySem.Value) (hl : us.length = 3) : p us := by
  rcases us with _ | ⟨a0, us0⟩
  · cases hl
  rcases us0 with _ | ⟨a1, us1⟩
  · cases hl
  rcases us1 with _ | ⟨a2, us2⟩
  · cases hl
  rcases us2 with _ | ⟨b, us⟩
  · exact h a0 a1 a2
  · cases hl
theorem auto1 (h : True := by first | exact .inl rfl | exact .inr rfl | assumption) : True := h
theorem auto2 (h : True := by decide) : True := h
theorem auto3 (h : True := by intro _; rfl) : True := h
theorem auto4 (h : True := by rfl) : True := h
theorem auto5 (h : True := by with_unfolding_all rfl) : True := h
theorem auto6 (h : True := by decide +kernel) : True := h
open PySem PySem.Spec PyProof.Rows

noncomputable abbrev Key := Sum Int Str
noncomputable def keyIs : Key → Value → Bool
  | .inl k, v => Value.isInt k v
  | .inr x, v => Value.isStrOf x v
noncomputable def keyH (w : World) : Key → Int
  | .inl k => hashInt k
  | .inr x => hashStr w x
theorem keyIs_shape : ∀ {k : Key} {v : Value}, keyIs k v = true → (∃ i t, k = Sum.inl i ∧ v = Value.int i t) ∨ (∃ x t, k = Sum.inr x ∧ v = Value.str x t)
  | .inl i, v, h => by
    obtain ⟨t, e⟩ := Value.isInt_shape (k := i) (v := v) h
    exact .inl ⟨i, t, rfl, e⟩
  | .inr x, v, h => by
    obtain ⟨t, e⟩ := Value.isStrOf_shape (x := x) (v := v) h
    exact .inr ⟨x, t, rfl, e⟩
theorem key_ll (a b : Int) : decide ((Sum.inl a : Key) = Sum.inl b) = (a == b) := by
  by_cases e : a = b
  · subst e; simp
  · have h : ¬ (Sum.inl a : Key) = Sum.inl b := fun q => e (Sum.inl.inj q)
    rw [decide_eq_false h]
    exact (beq_eq_false_iff_ne.mpr e).symm
theorem key_rr (a b : Str) : decide ((Sum.inr a : Key) = Sum.inr b) = decide (a = b) := by
  by_cases e : a = b
  · subst e; simp
  · have h : ¬ (Sum.inr a : Key) = Sum.inr b := fun q => e (Sum.inr.inj q)
    rw [decide_eq_false h, decide_eq_false e]
theorem key_lr (a : Int) (b : Str) : decide ((Sum.inl a : Key) = Sum.inr b) = false := decide_eq_false (fun q => nomatch q)
theorem key_rl (a : Str) (b : Int) : decide ((Sum.inr a : Key) = Sum.inl b) = false := decide_eq_false (fun q => nomatch q)

noncomputable def mixKind (prog : Program) (w : World) : PySem.KeyKind prog w Key where
  is := keyIs
  hash := keyH w
  inj := fun v a b ha hb => by
    rcases keyIs_shape ha with ⟨i, t, rfl, rfl⟩ | ⟨x, t, rfl, rfl⟩
    · rcases keyIs_shape hb with ⟨j, u, rfl, e⟩ | ⟨y, u, rfl, e⟩
      · injection e with e1 _; rw [e1]
      · exact nomatch e
    · rcases keyIs_shape hb with ⟨j, u, rfl, e⟩ | ⟨y, u, rfl, e⟩
      · exact nomatch e
      · injection e with e1 _; rw [e1]
  byValue := fun k v h => by
    rcases keyIs_shape h with ⟨i, t, rfl, rfl⟩ | ⟨x, t, rfl, rfl⟩ <;> rfl
  pyHash := fun hv h => by
    rcases keyIs_shape hv with ⟨i, t, rfl, rfl⟩ | ⟨x, t, rfl, rfl⟩
    · exact wpAny_pyHash_int h
    · exact wpAny_pyHash_str h
  eqBool := fun hu hv h => by
    rcases keyIs_shape hu with ⟨i, t, rfl, rfl⟩ | ⟨x, t, rfl, rfl⟩
    · rcases keyIs_shape hv with ⟨j, u, rfl, rfl⟩ | ⟨y, u, rfl, rfl⟩
      · rw [key_ll] at h; exact wpAny_eqBool_int h
      · rw [key_lr] at h; exact SeqAt.EqAt.int_str i t y u _ _ _ _ h
    · rcases keyIs_shape hv with ⟨j, u, rfl, rfl⟩ | ⟨y, u, rfl, rfl⟩
      · rw [key_rl] at h; exact SeqAt.EqAt.str_int x t j u _ _ _ _ h
      · rw [key_rr] at h; exact wpAny_eqBool_str h
  «strs» := fun k x t v h => by
    rcases keyIs_shape h with ⟨i, u, rfl, e⟩ | ⟨y, u, rfl, e⟩
    · exact nomatch e
    · injection e with e1 _
      subst e1
      cases v <;> rfl

end L2

namespace L2
open PySem PySem.Spec PyProof.Rows

inductive V where
  | non | bl (b : Bool) | int (i : Int) | str (x : Str) | byt (b : Array UInt8) | flt (b : UInt64) | ref (a : Addr) | ty (n : String)
  deriving DecidableEq

noncomputable def RelV : V → Value → Prop
  | .non, u => u = Value.none
  | .bl b, u => u = Value.bool b
  | .int i, u => ∃ t, u = Value.int i t
  | .str x, u => ∃ t, u = Value.str x t
  | .byt b, u => ∃ t, u = Value.bytes b t
  | .flt b, u => ∃ t, u = Value.float b t
  | .ref a, u => u = Value.ref a
  | .ty n, u => u = Value.type n

noncomputable abbrev Vals : List V → List Value → Prop := Paired RelV
theorem Vals.length {xs : List V} {us : List Value} (r : Vals xs us) : xs.length = us.length := Paired.length r
theorem Vals.get : ∀ {xs : List V} {us : List Value} {i : Nat} {x : V}, Vals xs us → xs[i]? = some x → ∃ u, us[i]? = some u ∧ RelV x u
  | _, _, _, _, .nil, e => by simp at e
  | _, _, 0, _, .cons r _, e => by simp at e; subst e; exact ⟨_, rfl, r⟩
  | _, _, i + 1, x, .cons _ t, e => by
    obtain ⟨u, h1, h2⟩ := Vals.get (i := i) (x := x) t (by simpa using e)
    exact ⟨u, by simpa using h1, h2⟩
theorem Vals.append : ∀ {xs ys : List V} {us ws : List Value}, Vals xs us → Vals ys ws → Vals (xs ++ ys) (us ++ ws)
  | _, _, _, _, .nil, s => s
  | _, _, _, _, .cons r t, s => .cons r (Vals.append t s)
theorem Vals.take : ∀ {xs : List V} {us : List Value} (n : Nat), Vals xs us → Vals (xs.take n) (us.take n)
  | _, _, 0, _ => .nil
  | _, _, _ + 1, .nil => .nil
  | _, _, n + 1, .cons r t => .cons r (Vals.take n t)
theorem Vals.drop : ∀ {xs : List V} {us : List Value} (n : Nat), Vals xs us → Vals (xs.drop n) (us.drop n)
  | _, _, 0, r => r
  | _, _, _ + 1, .nil => .nil
  | _, _, n + 1, .cons _ t => Vals.drop n t
noncomputable def RelO : Option V → Option Value → Prop
  | some v, some u => RelV v u
  | none, none => True
  | _, _ => False
noncomputable def KV {κ : Type} : List (κ × V) → List (κ × Value) → Prop := Paired fun (p : κ × V) (q : κ × Value) => p.1 = q.1 ∧ RelV p.2 q.2

noncomputable def kV : Key → V
  | .inl i => .int i
  | .inr x => .str x

inductive HO where
  /-- a list -/
  | lst (xs : List V)
  /-- a tuple (never changes) -/
  | tup (xs : List V)
  /-- a dict whose keys are ints and texts; one whose keys are tuples of ints and texts (the empty one is both) -/
  | dK (kvs : List (Key × V)) | dT (kvs : List (List Key × V))
  /-- a set of ints: its members, its size -/
  | set (S : Int → Bool) (n : Nat)
  /-- an instance of the class at C, its dict at dx, its attributes -/
  | ins (C dx : Addr) (fs : List (Str × V))
  /-- the dict of the instance at x -/
  | own (x : Addr)
  /-- the dict of an exception -/
  | xd (fs : List (Str × V))
  /-- a bound method, f of x -/
  | met (f x : Addr)
  /-- a range object lo, lo + 1, .. below hi -/
  | rng (lo hi : Int)
  /-- a thing that is known to the object (the script; a dict while a loop walks it): read, never written while it is so -/
  | frz (o : Obj) (u : HO)
  /-- a code object's table -/
  | tbl (ps : Array Value)
  /-- any other thing, by what is true of its one object (a def of one's own: SetO a S n := HO.ext fun h => ..) -/
  | ext (φ : Heap → Prop)

noncomputable abbrev Hp := Addr → Option HO
noncomputable def upd (H : Hp) (a : Addr) (o : HO) : Hp := fun b => if b = a then some o else H b
theorem upd_same {H : Hp} {a : Addr} {o : HO} : upd H a o a = some o := by unfold upd; rw [if_pos rfl]
theorem upd_ne {H : Hp} {a b : Addr} {o : HO} (h : b ≠ a) : upd H a o b = H b := by unfold upd; rw [if_neg h]
theorem upd_upd {H : Hp} {a : Addr} {o u : HO} : upd (upd H a o) a u = upd H a u := by
  funext b; unfold upd; split <;> rfl
theorem ne_of_none {H : Hp} {a b : Addr} {o : HO} (h : H a = some o) (h' : H b = none) : a ≠ b := by
  intro e; subst e; rw [h] at h'; cases h'

section
variable (P : Program) (w : World)
noncomputable def ObjOk (H : Hp) (h : Heap) (a : Addr) : HO → Prop
  | .lst xs => xs.length ≤ sizeLine ∧ ∃ (its : List Value) (n : Nat), Vals xs its ∧ h.get? a = some { cls := .type "list", data := .seq its.toArray n }
  | .tup xs => xs.length ≤ sizeLine ∧ ∃ its : List Value, Vals xs its ∧ IsTup h a its.toArray
  | .dK kvs => kvs.length ≤ sizeLine ∧ (a == sysModules) = false ∧ ∃ vs, KV kvs vs ∧ h.DictOf (mixKind P w) a vs
  | .dT kvs => kvs.length ≤ sizeLine ∧ (a == sysModules) = false ∧ ∃ xs : List (List Key × Addr × Value),
      Paired (fun (p : List Key × V) (q : List Key × Addr × Value) => p.1 = q.1 ∧ H q.2.1 = some (.tup (p.1.map kV)) ∧ RelV p.2 q.2.2) kvs xs ∧
      ∃ o es ep, h.get? a = some o ∧ o.ExactDict ∧ o.data = .dict es ep ∧ es.toList = xs.map (entryOfKey (tupleKind (mixKind P w))) ∧ (xs.map (·.1)).Nodup
  | .set S n => h.SetOf (intKind P w) a S n
  | .ins C dx fs => H dx = some (.own a) ∧ fs.length ≤ 1000 ∧ dx ≠ a ∧ h.get? a = some (PySem.W.instObj C dx) ∧
      ∃ mA, h.Ns1 dx mA ∧ (∀ f, RelO (fs.lookup f) (mA f)) ∧ PySem.Within mA (fs.map (·.1))
  | .own _ => ∃ o, h.get? a = some o
  | .xd fs => ∃ mA, h.Ns1 a mA ∧ ∀ f, RelO (fs.lookup f) (mA f)
  | .rng lo hi => ∃ t u v, h.get? a = some { cls := .type "range", data := .fields #[.int lo t, .int hi u, .int 1 v] }
  | .frz o u => h.get? a = some o ∧ ObjOk H h a u
  | .tbl ps => h.get? a = some { cls := .none, data := .fields ps }
  | .met f x => h.get? a = some (PySem.W.methodObj (.ref f) (.ref x))
  | .ext φ => φ h ∧ (∃ o, h.get? a = some o) ∧ ∀ h1 h2 : Heap, φ h1 → (∀ o, h1.get? a = some o → h2.get? a = some o) → φ h2
noncomputable def HOk (H : Hp) (h : Heap) : Prop := ∀ a o, H a = some o → ObjOk P w H h a o
end

section
variable {P : Program} {w : World} {H H' : Hp} {h h' : Heap} {a : Addr} {o : HO}
theorem ObjOk.lt (x : ObjOk P w H h a o) : a < h.objs.size := by
  cases o with
  | lst xs => obtain ⟨_, _, _, _, e⟩ := x; exact Heap.lt_size e
  | tup xs => obtain ⟨_, _, _, p⟩ := x; exact p.lt
  | dK kvs => obtain ⟨_, _, _, _, o, _, _, e, _⟩ := x; exact Heap.lt_size e
  | dT kvs => obtain ⟨_, _, _, _, o, _, _, e, _⟩ := x; exact Heap.lt_size e
  | set S n => obtain ⟨o, _, _, _, e, _⟩ := x; exact Heap.lt_size e
  | ins C dx fs => obtain ⟨_, _, _, e, _⟩ := x; exact Heap.lt_size e
  | own y => obtain ⟨_, e⟩ := x; exact Heap.lt_size e
  | xd fs => obtain ⟨_, ⟨_, _, _, e, _⟩, _⟩ := x; exact Heap.lt_size e
  | rng lo hi => obtain ⟨_, _, _, e⟩ := x; exact Heap.lt_size e
  | frz ob u => obtain ⟨e, _⟩ := x; exact Heap.lt_size e
  | tbl ps => exact Heap.lt_size (show h.get? a = some _ from x)
  | met f y => exact Heap.lt_size (show h.get? a = some _ from x)
  | ext φ => obtain ⟨_, ⟨_, e⟩, _⟩ := x; exact Heap.lt_size e
theorem Paired.mapP {α β : Type} {F G : α → β → Prop} : ∀ {l₁ : List α} {l₂ : List β}, Paired F l₁ l₂ → (∀ a b, F a b → G a b) → Paired G l₁ l₂
  | _, _, .nil, _ => .nil
  | _, _, .cons r t, f => .cons (f _ _ r) (Paired.mapP t f)
theorem ObjOk.stay (x : ObjOk P w H h a o) (k : ∀ b u, (b = a ∨ H b = some (.own a)) → h.get? b = some u → h'.get? b = some u)
    (ho : ∀ b, H b = some (.own a) → H' b = some (.own a)) (ht : ∀ b xs, H b = some (.tup xs) → H' b = some (.tup xs)) : ObjOk P w H' h' a o := by
  induction o with
  | lst xs => obtain ⟨z, its, n, r, e⟩ := x; exact ⟨z, its, n, r, k _ _ (.inl rfl) e⟩
  | tup xs => obtain ⟨z, its, r, ob, e, c⟩ := x; exact ⟨z, its, r, ob, k _ _ (.inl rfl) e, c⟩
  | dK kvs => obtain ⟨z, y, vs, r, ob, es, ep, e, c⟩ := x; exact ⟨z, y, vs, r, ob, es, ep, k _ _ (.inl rfl) e, c⟩
  | dT kvs =>
    obtain ⟨z, y, xs, r, ob, es, ep, e, c⟩ := x
    exact ⟨z, y, xs, Paired.mapP r fun p q z => ⟨z.1, ht _ _ z.2.1, z.2.2⟩, ob, es, ep, k _ _ (.inl rfl) e, c⟩
  | set S n => obtain ⟨ob, es, ep, t, e, c⟩ := x; exact ⟨ob, es, ep, t, k _ _ (.inl rfl) e, c⟩
  | ins C dx fs =>
    obtain ⟨d, z, ne, e, mA, ⟨od, es, ep, e2, c⟩, r⟩ := x
    exact ⟨ho _ d, z, ne, k _ _ (.inl rfl) e, mA, ⟨od, es, ep, k _ _ (.inr d) e2, c⟩, r⟩
  | own y => obtain ⟨ob, e⟩ := x; exact ⟨ob, k _ _ (.inl rfl) e⟩
  | xd fs => obtain ⟨mA, ⟨od, es, ep, e, c⟩, r⟩ := x; exact ⟨mA, ⟨od, es, ep, k _ _ (.inl rfl) e, c⟩, r⟩
  | rng lo hi => obtain ⟨t, u, v, e⟩ := x; exact ⟨t, u, v, k _ _ (.inl rfl) e⟩
  | frz ob u ih => obtain ⟨e, q⟩ := x; exact ⟨k _ _ (.inl rfl) e, ih q⟩
  | tbl ps =>
    have e : h.get? a = some { cls := .none, data := .fields ps } := x
    show h'.get? a = some { cls := .none, data := .fields ps }
    exact k a _ (.inl rfl) e
  | met f y =>
    have e : h.get? a = some (PySem.W.methodObj (.ref f) (.ref y)) := x
    show h'.get? a = some (PySem.W.methodObj (.ref f) (.ref y))
    exact k a _ (.inl rfl) e
  | ext φ => obtain ⟨p, ⟨o, e⟩, st⟩ := x; exact ⟨st _ _ p fun o q => k _ _ (.inl rfl) q, ⟨o, k _ _ (.inl rfl) e⟩, st⟩
theorem HOk.lt (x : HOk P w H h) (e : H a = some o) : a < h.objs.size := (x a o e).lt
theorem HOk.fresh (x : HOk P w H h) (e : h.objs.size ≤ a) : H a = none := by
  cases q : H a with
  | none => rfl
  | some u => exact absurd (Nat.lt_of_lt_of_le (x.lt q) e) (Nat.lt_irrefl _)
theorem HOk.kept (x : HOk P w H h) (k : ∀ b u, h.get? b = some u → h'.get? b = some u) : HOk P w H h' := fun a o e =>
  (x a o e).stay (fun b u _ q => k b u q) (fun _ q => q) fun _ _ q => q
theorem HOk.laid (x : HOk P w H h) (k : ∀ b u, h.get? b = some u → h'.get? b = some u) (hp : h.objs.size ≤ a) (new : ObjOk P w (upd H a o) h' a o) : HOk P w (upd H a o) h' := fun b u e => by
  have hn := x.fresh hp
  by_cases hb : b = a
  · subst hb; rw [upd_same] at e; cases e; exact new
  · rw [upd_ne hb] at e
    exact (x b u e).stay (fun c v _ q => k c v q) (fun c q => by rw [upd_ne (ne_of_none q hn)]; exact q) fun c xs q => by rw [upd_ne (ne_of_none q hn)]; exact q
end

noncomputable def Rd (H : Hp) (a : Addr) (u : HO) : Prop := H a = some u ∨ ∃ o, H a = some (.frz o u)
theorem Rd.ok {P : Program} {w : World} {H : Hp} {h : Heap} {a : Addr} {u : HO} (r : Rd H a u) (x : HOk P w H h) : ObjOk P w H h a u := by
  rcases r with r | ⟨o, r⟩
  · exact x a u r
  · obtain ⟨_, q⟩ := x a _ r
    exact q
noncomputable def Mut : Option HO → Prop
  | some (.lst _) => True
  | some (.dK _) => True
  | some (.dT _) => True
  | some (.set _ _) => True
  | some (.ins _ _ _) => True
  | some (.ext _) => True
  | _ => False
section
variable {P : Program} {w : World} {H : Hp} {h h' : Heap} {x e : Addr} {o' : HO}
theorem HOk.write (ok : HOk P w H h) (mu : Mut (H x)) (he : e = x ∨ H e = some (.own x)) (k : ∀ b u, b ≠ e → h.get? b = some u → h'.get? b = some u) (heo : ∃ u, h'.get? e = some u)
    (new : ObjOk P w (upd H x o') h' x o') : HOk P w (upd H x o') h' := fun b u q => by
  have nown : ∀ c y, H c = some (.own y) → c ≠ x := fun c y r z => by subst z; rw [r] at mu; exact mu
  have ntup : ∀ c xs, H c = some (.tup xs) → c ≠ x := fun c xs r z => by subst z; rw [r] at mu; exact mu
  by_cases hb : b = x
  · subst hb; rw [upd_same] at q; cases q; exact new
  · rw [upd_ne hb] at q
    by_cases hbe : b = e
    · have q' : H b = some (.own x) := by
        rcases he with z | z
        · exact absurd (hbe.trans z) hb
        · rw [hbe]; exact z
      rw [q] at q'; cases q'
      obtain ⟨v, hv⟩ := heo
      exact ⟨v, by rw [hbe]; exact hv⟩
    · refine (ok b u q).stay (fun c v hc r => k c v ?_ r) (fun c r => by rw [upd_ne (nown c b r)]; exact r) fun c xs r => by rw [upd_ne (ntup c xs r)]; exact r
      rcases hc with rfl | hc
      · exact hbe
      · rintro rfl
        rcases he with z | z
        · exact nown c b hc z
        · rw [hc] at z; cases z; exact hb rfl
end

structure Un (fs ex : List Addr) (H H' : Hp) (h h' : Heap) : Prop where
  keep : ∀ b o, h.get? b = some o → H b = none → b ∉ fs → b ∉ ex → h'.get? b = some o
  slot : ∀ b o, h.get? b = some o → H b = none → b ∈ fs → b ∉ ex → ∃ sl, h'.get? b = some { o with slots := sl }
  free : ∀ b o, h.get? b = some o → H b = none → b ∉ ex → H' b = none
  there : ∀ b o, h.get? b = some o → b ∉ ex → ∃ o', h'.get? b = some o'
  tups : ∀ b xs, H b = some (.tup xs) → H' b = some (.tup xs)
  frzs : ∀ b o u, H b = some (.frz o u) → H' b = some (.frz o u)
  tbls : ∀ b ps, H b = some (.tbl ps) → ∃ more, H' b = some (.tbl (ps ++ more))
section
variable {fs fs' ex ex' : List Addr} {H H1 H2 : Hp} {h h1 h2 h' : Heap} {a x e : Addr} {o : HO}
theorem Un.any (u : Un fs ex H H1 h h1) {b : Addr} {ob : Obj} (q : h.get? b = some ob) (n : H b = none) (hx : b ∉ ex) : ∃ sl, h1.get? b = some { ob with slots := sl } := by
  by_cases hb : b ∈ fs
  · exact u.slot b ob q n hb hx
  · exact ⟨ob.slots, u.keep b ob q n hb hx⟩
theorem Un.kept (k : ∀ b u, h.get? b = some u → h'.get? b = some u) : Un fs ex H H h h' :=
  ⟨fun b ob q _ _ _ => k b ob q, fun b ob q _ _ _ => ⟨ob.slots, k b ob q⟩, fun _ _ _ n _ => n, fun b ob q _ => ⟨ob, k b ob q⟩, fun _ _ q => q, fun _ _ _ q => q, fun _ ps q => ⟨#[], by rw [q]; simp⟩⟩
theorem Un.refl : Un fs ex H H h h := Un.kept fun _ _ q => q
theorem Un.laid (k : ∀ b u, h.get? b = some u → h'.get? b = some u) (hp : h.objs.size ≤ a) (hn : H a = none) : Un fs ex H (upd H a o) h h' where
  keep := fun b u q _ _ _ => k b u q
  slot := fun b u q _ _ _ => ⟨u.slots, k b u q⟩
  free := fun b u q n _ => by rw [upd_ne (Nat.ne_of_lt (Nat.lt_of_lt_of_le (Heap.lt_size q) hp))]; exact n
  there := fun b u q _ => ⟨u, k b u q⟩
  tups := fun b xs q => by rw [upd_ne (ne_of_none q hn)]; exact q
  frzs := fun b u xs q => by rw [upd_ne (ne_of_none q hn)]; exact q
  tbls := fun b ps q => ⟨#[], by rw [upd_ne (ne_of_none q hn), q]; simp⟩
theorem Un.write (mu : Mut (H x)) (he : e = x ∨ H e = some (.own x)) (k : ∀ b u, b ≠ e → h.get? b = some u → h'.get? b = some u) (heo : ∃ u, h'.get? e = some u) : Un fs ex H (upd H x o) h h' := by
  have hx : ∀ b, H b = none → b ≠ x := fun b n z => by subst z; rw [n] at mu; exact mu
  have hb : ∀ b, H b = none → b ≠ e := fun b n z => by
    subst z
    rcases he with r | r
    · exact hx b n r
    · rw [n] at r; cases r
  have hm : ∀ b u, H b = some u → ¬ Mut (some u) → b ≠ x := fun b u q nm z => by subst z; rw [q] at mu; exact nm mu
  refine ⟨fun b u q n _ _ => k b u (hb b n) q, fun b u q n _ _ => ⟨u.slots, k b u (hb b n) q⟩, fun b u q n _ => by rw [upd_ne (hx b n)]; exact n, fun b u q _ => ?_,
    fun b xs q => by rw [upd_ne (hm b _ q fun z => z)]; exact q, fun b u xs q => by rw [upd_ne (hm b _ q fun z => z)]; exact q, fun b ps q => ⟨#[], by rw [upd_ne (hm b _ q fun z => z), q]; simp⟩⟩
  by_cases hbe : b = e
  · subst hbe; exact heo
  · exact ⟨u, k b u hbe q⟩
end

noncomputable def trk (h : Heap) (H : Hp) : List Addr := (List.range h.objs.size).filter fun a => (H a).isSome
noncomputable def hidT (h : Heap) (H : Hp) : Heap := PySem.W.hideAll h (trk h H)
theorem hidT_size (h : Heap) (H : Hp) : (hidT h H).objs.size = h.objs.size := PySem.W.hideAll_size _ _
theorem hidT_get {h : Heap} {H : Hp} {b : Addr} {o : Obj} (e : h.get? b = some o) (n : H b = none) : (hidT h H).get? b = some o :=
  PySem.W.hideAll_get _ e fun hm => by
    have q : (H b).isSome = true := (List.mem_filter.mp hm).2
    rw [n] at q; simp at q
theorem of_hidT {h : Heap} {H : Hp} {b : Addr} {o : Obj} (e : (hidT h H).get? b = some o) : h.get? b = some o ∧ H b = none := by
  have e' : h.get? b = some o := PySem.W.of_hideAll (trk h H) e
  refine ⟨e', ?_⟩
  cases q : H b with
  | none => rfl
  | some x =>
    have hm : b ∈ trk h H := List.mem_filter.mpr ⟨List.mem_range.mpr (Heap.lt_size e'), by simp [q]⟩
    have z : (hidT h H).get? b = none := PySem.W.hideAll_none (trk h H) hm
    rw [z] at e; cases e

end L2

namespace L2
open PySem PySem.Spec PyProof.Rows

structure Mod (K : PySem.W.Frag) (mg : Str → Option Value) (base : Heap) : Prop where
  kin : K.In base
  glob : base.Ns mainGlobals mg
  blt : ∃ mb, base.Ns builtinsNs mb ∧ ∀ x : Str, x ≠ "__name__" → mb x = bootBuiltins x
  nolimit : base.NoLimit
  sysm : ∃ mm, base.Ns sysModules mm

structure Cx where
  prog : Program
  w : World
  K : PySem.W.Frag
  mg : Str → Option Value
  base : Heap
  A : Around
  N : List Str
  s₀ : Shared
  H₀ : Hp
  env : Env
  outer : List Env
  stack : List Env
  ex : List Addr
  fn : Str → Bool
  calm : Bool
  pn : List (Addr × Obj)
  xe : Value → Shared → Prop
noncomputable def frs (l : List Env) : List Addr := l.filterMap (·.frame)
noncomputable abbrev Cx.fs (X : Cx) : List Addr := frs X.outer

noncomputable def Vis (sc : Scope) (x : Str) : Prop := sc.names.lookup x = some .local ∨ sc.names.lookup x = some .cell ∨ sc.names.lookup x = some .free
noncomputable def Loc (sc : Scope) (x : Str) : Prop := sc.names.lookup x = some .local ∨ sc.names.lookup x = some .cell
noncomputable def Look (env : Env) (h : Heap) (m : Str → Option Value) (x : Str) (u : Value) : Prop :=
  (env.kindOf x = some .local ∧ m x = some u) ∨ ((env.kindOf x = some .cell ∨ env.kindOf x = some .free) ∧ ∃ c, env.cells.lookup x = some c ∧ h.IsCell c (some u))

structure Cx.Ok (X : Cx) : Prop where
  mod : Mod X.K X.mg X.base
  kind : X.env.scope.kind = .function
  glob : X.env.globals = mainGlobals
  blt : X.env.builtins = builtinsNs
  above : X.s₀.heap.objs.size ≤ X.env.locals
  inj : ∀ x y c, X.env.cells.lookup x = some c → X.env.cells.lookup y = some c → x = y
  has : ∀ x, (X.env.kindOf x = some .cell ∨ X.env.kindOf x = some .free) → ∃ c, X.env.cells.lookup x = some c
  cab : ∀ x c, X.fn x = true → X.env.cells.lookup x = some c → X.s₀.heap.objs.size ≤ c
  hd : X.calm = true → X.A.handled = none
  frames : X.A.frames = some X.stack
  stk : X.stack = X.outer ∨ (X.stack = X.env :: X.outer ∧ X.env.frame = some X.env.locals)
  exf : ∀ b ∈ X.ex, b ≠ X.env.locals ∧ ∀ x c, X.env.cells.lookup x = some c → c ≠ b
  bs : ∀ b o, X.base.get? b = some o → X.s₀.heap.get? b = some o ∧ X.H₀ b = none
  bsz : X.base.objs.size ≤ X.s₀.heap.objs.size
  noex : ∀ b o, X.base.get? b = some o → b ∉ X.ex
  exfs : ∀ b ∈ X.ex, b ∉ X.fs
  funs : X.s₀.heap.FunFrames X.base X.outer
  frf : ∀ b ∈ X.fs, X.H₀ b = none

structure Inv (X : Cx) (pins : List (Addr × Obj)) (σ : List (Option V)) (H : Hp) (s : Shared) : Prop where
  ok : X.Ok
  os : s.os = X.s₀.os
  bare : AllBare s.gens
  base : Un X.fs X.ex X.H₀ H X.s₀.heap s.heap
  loc : ∃ m, s.heap.Ns X.env.locals m ∧ ∀ (i : Nat) (x : Str) (v : V), X.N[i]? = some x → σ[i]? = some (some v) → Vis X.env.scope x → ∃ u, RelV v u ∧ Look X.env s.heap m x u
  cell : ∀ x c, X.env.cells.lookup x = some c → ∃ v, s.heap.IsCell c v
  free : H X.env.locals = none
  freeC : ∀ x c, X.env.cells.lookup x = some c → H c = none
  pin : ∀ p ∈ X.pn ++ pins, s.heap.get? p.1 = some p.2 ∧ H p.1 = none ∧ p.1 ≠ X.env.locals ∧ p.1 ∉ X.fs ∧ ∀ v, p.2.data ≠ .cell v
  hok : HOk X.prog X.w H s.heap
  len : σ.length = X.N.length

section
variable {X : Cx} {pins : List (Addr × Obj)} {σ : List (Option V)} {H H' : Hp} {s : Shared} {h' : Heap}

theorem Cx.Ok.nofr (ok : X.Ok) {b : Addr} {o : Obj} (e : X.base.get? b = some o) : b ∉ X.fs := fun hb => by
  have := (ok.funs.mem hb).1
  rw [e] at this; cases this
theorem Inv.bs (I : Inv X pins σ H s) : ∀ b o, X.base.get? b = some o → s.heap.get? b = some o ∧ H b = none := fun b o e =>
  ⟨I.base.keep b o (I.ok.bs b o e).1 (I.ok.bs b o e).2 (I.ok.nofr e) (I.ok.noex b o e), I.base.free b o (I.ok.bs b o e).1 (I.ok.bs b o e).2 (I.ok.noex b o e)⟩
theorem Inv.bk (I : Inv X pins σ H s) : ∀ b o, X.base.get? b = some o → s.heap.get? b = some o := fun b o e => (I.bs b o e).1
theorem Inv.mod (I : Inv X pins σ H s) : Mod X.K X.mg X.base := I.ok.mod
theorem Inv.kIn (I : Inv X pins σ H s) : X.K.In s.heap := I.ok.mod.kin.keeps I.bk
theorem Inv.lt (I : Inv X pins σ H s) : X.env.locals < s.heap.objs.size := let ⟨_, hn, _⟩ := I.loc; hn.lt
theorem Inv.sz (I : Inv X pins σ H s) : X.s₀.heap.objs.size ≤ s.heap.objs.size := Nat.le_trans I.ok.above (Nat.le_of_lt I.lt)
theorem Inv.nofs (I : Inv X pins σ H s) {a : Addr} (h : s.heap.objs.size ≤ a) : a ∉ X.fs := fun hb => by
  obtain ⟨_, o, ho, _⟩ := I.ok.funs.mem hb
  exact absurd (Nat.lt_of_lt_of_le (Heap.lt_size ho) (Nat.le_trans I.sz h)) (Nat.lt_irrefl _)
theorem Inv.cne (I : Inv X pins σ H s) : ∀ x c, X.env.cells.lookup x = some c → c ≠ X.env.locals := fun x c e z => by
  obtain ⟨v, o, ho, hd⟩ := I.cell x c e
  obtain ⟨m, ⟨o', es, ep, ho', hd', _⟩, _⟩ := I.loc
  rw [z, ho'] at ho; cases ho; rw [hd'] at hd; cases hd
theorem Inv.funs (I : Inv X pins σ H s) : s.heap.FunFrames X.base X.outer := by
  have all : ∀ (l : List Env), (∀ b ∈ frs l, b ∈ X.fs) → X.s₀.heap.FunFrames X.base l → s.heap.FunFrames X.base l := by
    intro l
    induction l with
    | nil => intro _ _; trivial
    | cons env r ih =>
      intro hs hl
      obtain ⟨hk, ⟨L, o, hf, hn, ho, hd⟩, hr⟩ := hl
      have hL : L ∈ X.fs := hs L (by unfold frs; rw [List.filterMap_cons, hf]; exact List.mem_cons_self)
      obtain ⟨sl, e⟩ := I.base.slot L o ho (I.ok.frf L hL) hL fun z => I.ok.exfs L z hL
      exact ⟨hk, ⟨L, _, hf, hn, e, hd⟩, ih (fun b hb => hs b (by unfold frs; rw [List.filterMap_cons, hf]; exact List.mem_cons_of_mem _ hb)) hr⟩
  exact all X.outer (fun _ hb => hb) I.ok.funs

theorem Inv.stack (I : Inv X pins σ H s) : s.heap.FunFrames X.base X.stack := by
  rcases I.ok.stk with e | ⟨e, hf⟩
  · rw [e]; exact I.funs
  · rw [e]
    obtain ⟨m, hn, _⟩ := I.loc
    refine .cons (by rw [I.ok.kind]; decide) hf hn ?_ I.funs
    exact Heap.get?_none_of_le (Nat.le_trans I.ok.bsz I.ok.above)
theorem Inv.stkSub (I : Inv X pins σ H s) : ∀ b ∈ frs X.stack, b ∈ X.env.locals :: X.fs := fun b hb => by
  rcases I.ok.stk with e | ⟨e, hf⟩
  · rw [e] at hb; exact List.mem_cons_of_mem _ hb
  · rw [e] at hb
    unfold frs at hb
    rw [List.filterMap_cons, hf] at hb
    exact hb
theorem Inv.stkFree (I : Inv X pins σ H s) : ∀ b ∈ frs X.stack, H b = none := fun b hb => by
  rcases List.mem_cons.mp (I.stkSub b hb) with e | hb
  · rw [e]; exact I.free
  · obtain ⟨_, o, ho, _⟩ := I.ok.funs.mem hb
    exact I.base.free b o ho (I.ok.frf b hb) fun z => I.ok.exfs b z hb

theorem Inv.step {g' : Array GenState} {t' : Nat} {d' : Drawn} {ch : List Addr} (I : Inv X pins σ H s)
    (hch : ∀ b ∈ ch, (b ∈ X.ex ∨ X.s₀.heap.objs.size ≤ b) ∧ b ≠ X.env.locals ∧ (∀ x c, X.env.cells.lookup x = some c → c ≠ b) ∧ ∀ p ∈ X.pn ++ pins, p.1 ≠ b)
    (keep : ∀ b o, b ≠ X.env.locals → b ∉ X.fs → b ∉ ch → s.heap.get? b = some o → H b = none → h'.get? b = some o)
    (slot : ∀ b o, b ≠ X.env.locals → b ∈ X.fs → b ∉ ch → s.heap.get? b = some o → H b = none → ∃ sl, h'.get? b = some { o with slots := sl }) (free : ∀ b o, b ∉ ch → s.heap.get? b = some o → H b = none → H' b = none)
    (there : ∀ b o, b ∉ ch → s.heap.get? b = some o → ∃ o', h'.get? b = some o')
    (tups : ∀ b xs, H b = some (.tup xs) → H' b = some (.tup xs)) (frzs : ∀ b o u, H b = some (.frz o u) → H' b = some (.frz o u)) (tbls : ∀ b ps, H b = some (.tbl ps) → ∃ more, H' b = some (.tbl (ps ++ more)))
    (ns : ∀ m, s.heap.Ns X.env.locals m → h'.Ns X.env.locals m) (hok : HOk X.prog X.w H' h') (hg : AllBare g') :
    Inv X pins σ H' { s with heap := h', gens := g', drawn := d', toks := t' } := by
  have neL : ∀ b o, X.s₀.heap.get? b = some o → b ≠ X.env.locals := fun b o e => Nat.ne_of_lt (Nat.lt_of_lt_of_le (Heap.lt_size e) I.ok.above)
  have neC : ∀ b o, X.s₀.heap.get? b = some o → b ∉ X.ex → b ∉ ch := fun b o e hx hb => by
    rcases (hch b hb).1 with z | z
    · exact hx z
    · exact absurd (Nat.lt_of_lt_of_le (Heap.lt_size e) z) (Nat.lt_irrefl _)
  have cellK : ∀ x c, X.env.cells.lookup x = some c → ∀ v, s.heap.IsCell c v → h'.IsCell c v := fun x c e v ⟨o, ho, hd⟩ => by
    have nch : c ∉ ch := fun z => (hch c z).2.2.1 x c e rfl
    by_cases hc : c ∈ X.fs
    · obtain ⟨sl, q⟩ := slot c o (I.cne x c e) hc nch ho (I.freeC x c e)
      exact ⟨_, q, hd⟩
    · exact ⟨o, keep c o (I.cne x c e) hc nch ho (I.freeC x c e), hd⟩
  refine ⟨I.ok, I.os, hg, ⟨fun b o e n hb hx => ?_, fun b o e n hb hx => ?_, fun b o e n hx => ?_, fun b o e hx => ?_, fun b xs e => tups b xs (I.base.tups b xs e), fun b o xs e => frzs b o xs (I.base.frzs b o xs e), fun b ps e => ?_⟩, ?_, fun x c e => ?_, ?_, fun x c e => ?_, fun p hp => ?_, hok, I.len⟩
  · exact keep b o (neL b o e) hb (neC b o e hx) (I.base.keep b o e n hb hx) (I.base.free b o e n hx)
  · obtain ⟨sl, e1⟩ := I.base.slot b o e n hb hx
    obtain ⟨sl', e2⟩ := slot b _ (neL b o e) hb (neC b o e hx) e1 (I.base.free b o e n hx)
    exact ⟨sl', e2⟩
  · obtain ⟨o', e1⟩ := I.base.there b o e hx
    exact free b o' (neC b o e hx) e1 (I.base.free b o e n hx)
  · obtain ⟨o', e1⟩ := I.base.there b o e hx
    exact there b o' (neC b o e hx) e1
  · obtain ⟨m1, e1⟩ := I.base.tbls b ps e
    obtain ⟨m2, e2⟩ := tbls b _ e1
    exact ⟨m1 ++ m2, by rw [e2, Array.append_assoc]⟩
  · obtain ⟨m, hn, hl⟩ := I.loc
    refine ⟨m, ns m hn, fun i x v e1 e2 e3 => ?_⟩
    obtain ⟨u, r, l⟩ := hl i x v e1 e2 e3
    refine ⟨u, r, ?_⟩
    rcases l with l | ⟨k, c, e, z⟩
    · exact .inl l
    · exact .inr ⟨k, c, e, cellK x c e _ z⟩
  · obtain ⟨v, z⟩ := I.cell x c e
    exact ⟨v, cellK x c e v z⟩
  · obtain ⟨m, ⟨o, _, _, ho, _⟩, _⟩ := I.loc
    exact free _ o (fun z => (hch _ z).2.1 rfl) ho I.free
  · obtain ⟨v, o, ho, hd⟩ := I.cell x c e
    exact free c o (fun z => (hch c z).2.2.1 x c e rfl) ho (I.freeC x c e)
  · obtain ⟨e, n, ne, nf, d⟩ := I.pin p hp
    have nch : p.1 ∉ ch := fun z => (hch p.1 z).2.2.2 p hp rfl
    exact ⟨keep p.1 p.2 ne nf nch e n, free p.1 p.2 nch e n, ne, nf, d⟩
theorem Inv.un {t' : Nat} (I : Inv X pins σ H s) (u : Un X.fs [] H H' s.heap h') (hok : HOk X.prog X.w H' h') : Inv X pins σ H' { s with heap := h', toks := t' } := by
  obtain ⟨m, ⟨o, es, ep, ho, r⟩, _⟩ := id I.loc
  obtain ⟨sl, hL⟩ := u.any ho I.free (by simp)
  exact I.step (g' := s.gens) (d' := s.drawn) (ch := []) (fun _ z => nomatch z) (fun b o _ hb _ e n => u.keep b o e n hb (by simp)) (fun b o _ hb _ e n => u.slot b o e n hb (by simp)) (fun b o _ e n => u.free b o e n (by simp)) (fun b o _ e => u.there b o e (by simp)) u.tups u.frzs u.tbls (fun m' hm => by
    obtain ⟨o', es', ep', ho', r'⟩ := hm
    rw [ho] at ho'; cases ho'
    exact ⟨_, es', ep', hL, r'⟩) hok I.bare
theorem Inv.call {g' : Array GenState} {t' : Nat} {d' : Drawn} {ch : List Addr} (I : Inv X pins σ H s) (u : Un (frs X.stack) ch H H' s.heap h') (hok : HOk X.prog X.w H' h') (hg : AllBare g')
    (hch : ∀ b ∈ ch, (b ∈ X.ex ∨ X.s₀.heap.objs.size ≤ b) ∧ b ≠ X.env.locals ∧ (∀ x c, X.env.cells.lookup x = some c → c ≠ b) ∧ ∀ p ∈ X.pn ++ pins, p.1 ≠ b) :
    Inv X pins σ H' { s with heap := h', gens := g', drawn := d', toks := t' } := by
  obtain ⟨m, ⟨o, es, ep, ho, r⟩, _⟩ := id I.loc
  obtain ⟨sl, hL⟩ := u.any ho I.free fun z => (hch _ z).2.1 rfl
  exact I.step (ch := ch) hch (fun b o hL hb hc e n => u.keep b o e n (fun z => (List.mem_cons.mp (I.stkSub b z)).elim hL hb) hc) (fun b o _ _ hc e n => u.any e n hc) (fun b o hc e n => u.free b o e n hc) (fun b o hc e => u.there b o e hc) u.tups u.frzs u.tbls (fun m' hm => by
    obtain ⟨o', es', ep', ho', r'⟩ := hm
    rw [ho] at ho'; cases ho'
    exact ⟨_, es', ep', hL, r'⟩) hok hg
theorem Inv.turned {t' : Nat} {it : Addr} (I : Inv X pins σ H s) (k : ∀ b o, b ≠ it → s.heap.get? b = some o → h'.get? b = some o) (hn : H it = none) (hL : it ≠ X.env.locals)
    (h1 : it ∈ X.ex ∨ X.s₀.heap.objs.size ≤ it) (h2 : ∀ x c, X.env.cells.lookup x = some c → c ≠ it) (h3 : ∀ p ∈ X.pn ++ pins, p.1 ≠ it) : Inv X pins σ H { s with heap := h', toks := t' } := by
  have nit : ∀ b u, H b = some u → b ≠ it := fun b u e z => by rw [z, hn] at e; cases e
  refine I.step (g' := s.gens) (d' := s.drawn) (ch := [it]) (fun b hb => ?_) (fun b o _ _ hc e _ => k b o (fun z => hc (by simp [z])) e) (fun b o _ _ hc e _ => ⟨o.slots, k b o (fun z => hc (by simp [z])) e⟩) (fun _ _ _ _ n => n)
    (fun b o hc e => ⟨o, k b o (fun z => hc (by simp [z])) e⟩) (fun _ _ e => e) (fun _ _ _ e => e) (fun b ps e => ⟨#[], by rw [e]; simp⟩) (fun m hm => ?_) (fun b u e => ?_) I.bare
  · have e : b = it := by simpa using hb
    subst e
    exact ⟨h1, hL, h2, h3⟩
  · obtain ⟨o, es, ep, ho, r⟩ := hm
    exact ⟨o, es, ep, k _ o (Ne.symm hL) ho, r⟩
  · refine (I.hok b u e).stay (fun c v hc q => k c v ?_ q) (fun _ q => q) fun _ _ q => q
    rcases hc with z | z
    · rw [z]; exact nit b u e
    · exact nit c _ z
theorem Inv.tok (I : Inv X pins σ H s) (t : Nat) : Inv X pins σ H { s with toks := t } := I.un (h' := s.heap) (t' := t) Un.refl I.hok
theorem Inv.kept {t' : Nat} (I : Inv X pins σ H s) (k : ∀ b u, s.heap.get? b = some u → h'.get? b = some u) : Inv X pins σ H { s with heap := h', toks := t' } := I.un (Un.kept k) (I.hok.kept k)
theorem Inv.laid {a : Addr} {o : HO} {t' : Nat} (I : Inv X pins σ H s) (k : ∀ b u, s.heap.get? b = some u → h'.get? b = some u) (hp : s.heap.objs.size ≤ a) (new : ObjOk X.prog X.w (upd H a o) h' a o) :
    Inv X pins σ (upd H a o) { s with heap := h', toks := t' } := I.un (Un.laid k hp (I.hok.fresh hp)) (I.hok.laid k hp new)
theorem Inv.write {x e : Addr} {o : HO} {t' : Nat} (I : Inv X pins σ H s) (mu : Mut (H x)) (he : e = x ∨ H e = some (.own x)) (k : ∀ b u, b ≠ e → s.heap.get? b = some u → h'.get? b = some u) (heo : ∃ u, h'.get? e = some u)
    (new : ObjOk X.prog X.w (upd H x o) h' x o) : Inv X pins σ (upd H x o) { s with heap := h', toks := t' } := I.un (Un.write mu he k heo) (I.hok.write mu he k heo new)
theorem Inv.weak {σ' : List (Option V)} (I : Inv X pins σ H s) (hl : σ'.length = σ.length) (w : ∀ (i : Nat) v, σ'[i]? = some (some v) → σ[i]? = some (some v)) : Inv X pins σ' H s :=
  ⟨I.ok, I.os, I.bare, I.base, let ⟨m, hn, hl'⟩ := I.loc; ⟨m, hn, fun i x v e1 e2 e3 => hl' i x v e1 (w i v e2) e3⟩, I.cell, I.free, I.freeC, I.pin, I.hok, hl.trans I.len⟩
theorem Inv.pins_of {pins' : List (Addr × Obj)} (I : Inv X pins σ H s) (h : ∀ p ∈ pins', s.heap.get? p.1 = some p.2 ∧ H p.1 = none ∧ p.1 ≠ X.env.locals ∧ p.1 ∉ X.fs ∧ ∀ v, p.2.data ≠ .cell v) : Inv X pins' σ H s :=
  ⟨I.ok, I.os, I.bare, I.base, I.loc, I.cell, I.free, I.freeC, fun p hp => (List.mem_append.mp hp).elim (fun z => I.pin p (List.mem_append_left _ z)) (h p), I.hok, I.len⟩

theorem nodup_ix {N : List Str} (hN : N.Nodup) {i j : Nat} {x : Str} (a : N[i]? = some x) (b : N[j]? = some x) : i = j := by
  obtain ⟨h1, e1⟩ := List.getElem?_eq_some_iff.mp a
  obtain ⟨h2, e2⟩ := List.getElem?_eq_some_iff.mp b
  exact (List.getElem_inj hN).mp (e1.trans e2.symm)

theorem store_ok2 {M : Model} {A : Around} {E : Value → Shared → Prop} {i : Nat} {x : Str} {v : V} {u : Value} {Q : Unit → Shared → Prop} (I : Inv X pins σ H s) (hN : X.N.Nodup) (hi : X.N[i]? = some x) (hx : Loc X.env.scope x) (r : RelV v u)
    (h : ∀ s', Inv X pins (σ.set i (some v)) H s' → (∃ a, Heap.SameBut a s.heap s'.heap ∧ (a = X.env.locals ∨ X.env.cells.lookup x = some a)) → Q () s') (hf : autoParam (X.fn x = true ∨ X.env.scope.names.lookup x = some .local) L2.auto1._auto_1) : wpAny M A (storeName X.env x u) Q E s := by
  obtain ⟨m, hn, hl⟩ := id I.loc
  have hcls : (X.env.scope.kind == .class || (X.env.scope.kind == .module && X.env.locals != X.env.globals)) = false := by rw [I.ok.kind]; rfl
  have hiσ : i < σ.length := by rw [I.len]; exact (List.getElem?_eq_some_iff.mp hi).1
  have cne := I.cne
  have tracked : ∀ {a : Addr} {h' : Heap}, (∃ o, s.heap.get? a = some o ∧ H a = none) → Heap.SameBut a s.heap h' → HOk X.prog X.w H h' := fun {a h'} ha hs b ob e => by
    obtain ⟨_, _, hfree⟩ := ha
    refine (I.hok b ob e).stay (fun c w' hc q => (hs.2 c ?_).trans q) (fun _ q => q) fun _ _ q => q
    rintro rfl
    rcases hc with rfl | hc
    · rw [hfree] at e; cases e
    · rw [hfree] at hc; cases hc
  rcases hx with hk | hk
  · refine wpAny_storeName_local hk hn (fun h' hn' hs => ?_) hcls
    obtain ⟨oL, _, _, hoL, _⟩ := id hn
    refine h _ ⟨I.ok, I.os, I.bare, ⟨fun b o e n hb hx => ?_, fun b o e n hb hx => ?_, I.base.free, fun b o e hx => ?_, I.base.tups, I.base.frzs, I.base.tbls⟩, ⟨_, hn', fun j y v' e1 e2 e3 => ?_⟩, fun y c e => ?_, I.free, I.freeC, fun p hp => ?_, tracked ⟨oL, hoL, I.free⟩ hs, by simpa using I.len⟩ ⟨_, hs, .inl rfl⟩
    · exact (hs.2 b (Nat.ne_of_lt (Nat.lt_of_lt_of_le (Heap.lt_size e) I.ok.above))).trans (I.base.keep b o e n hb hx)
    · obtain ⟨sl, e1⟩ := I.base.slot b o e n hb hx
      exact ⟨sl, (hs.2 b (Nat.ne_of_lt (Nat.lt_of_lt_of_le (Heap.lt_size e) I.ok.above))).trans e1⟩
    · obtain ⟨o', e1⟩ := I.base.there b o e hx
      exact ⟨o', (hs.2 b (Nat.ne_of_lt (Nat.lt_of_lt_of_le (Heap.lt_size e) I.ok.above))).trans e1⟩
    · by_cases hj : j = i
      · subst hj
        rw [hi] at e1; cases e1
        rw [List.getElem?_set_self hiσ] at e2
        cases e2
        exact ⟨u, r, .inl ⟨hk, by simp⟩⟩
      · rw [List.getElem?_set_ne (Ne.symm hj)] at e2
        obtain ⟨u', r', q⟩ := hl j y v' e1 e2 e3
        refine ⟨u', r', ?_⟩
        rcases q with ⟨k, e⟩ | ⟨k, c, e, z⟩
        · refine .inl ⟨k, ?_⟩
          have : y ≠ x := fun e => hj (nodup_ix hN e1 (e ▸ hi))
          simp [this, e]
        · exact .inr ⟨k, c, e, z.sameBut hs (cne y c e)⟩
    · obtain ⟨w', z⟩ := I.cell y c e
      exact ⟨w', z.sameBut hs (cne y c e)⟩
    · obtain ⟨e, n, ne, nf, d⟩ := I.pin p hp
      exact ⟨(hs.2 p.1 ne).trans e, n, ne, nf, d⟩
  · have hfn : X.fn x = true := by
      rcases hf with z | z
      · exact z
      · rw [z] at hk; cases hk
    obtain ⟨c, hc⟩ := I.ok.has x (.inl hk)
    obtain ⟨w', z⟩ := I.cell x c hc
    refine wpAny_storeName_cell I.ok.kind hk hc z (fun h' hc' hs => ?_)
    obtain ⟨oc, hoc, hocd⟩ := id z
    refine h { s with heap := h' } ⟨I.ok, I.os, I.bare, ⟨fun b o e n hb hx => ?_, fun b o e n hb hx => ?_, I.base.free, fun b o e hx => ?_, I.base.tups, I.base.frzs, I.base.tbls⟩, ⟨m, hn.sameBut hs (Ne.symm (cne x c hc)), fun j y v' e1 e2 e3 => ?_⟩, fun y c' e => ?_, I.free, I.freeC, fun p hp => ?_, tracked ⟨oc, hoc, I.freeC x c hc⟩ hs, by simpa using I.len⟩ ⟨c, hs, .inr hc⟩
    · exact (hs.2 b (Nat.ne_of_lt (Nat.lt_of_lt_of_le (Heap.lt_size e) (I.ok.cab x c hfn hc)))).trans (I.base.keep b o e n hb hx)
    · obtain ⟨sl, e1⟩ := I.base.slot b o e n hb hx
      exact ⟨sl, (hs.2 b (Nat.ne_of_lt (Nat.lt_of_lt_of_le (Heap.lt_size e) (I.ok.cab x c hfn hc)))).trans e1⟩
    · obtain ⟨o', e1⟩ := I.base.there b o e hx
      exact ⟨o', (hs.2 b (Nat.ne_of_lt (Nat.lt_of_lt_of_le (Heap.lt_size e) (I.ok.cab x c hfn hc)))).trans e1⟩
    · by_cases hj : j = i
      · subst hj
        rw [hi] at e1; cases e1
        rw [List.getElem?_set_self hiσ] at e2
        cases e2
        exact ⟨u, r, .inr ⟨.inl hk, c, hc, hc'⟩⟩
      · rw [List.getElem?_set_ne (Ne.symm hj)] at e2
        obtain ⟨u', r', q⟩ := hl j y v' e1 e2 e3
        refine ⟨u', r', ?_⟩
        rcases q with q | ⟨k, c', e, z'⟩
        · exact .inl q
        · refine .inr ⟨k, c', e, z'.sameBut hs ?_⟩
          rintro rfl
          exact hj (nodup_ix hN e1 (I.ok.inj _ _ _ e hc ▸ hi))
    · by_cases hcc : c' = c
      · subst hcc; exact ⟨_, hc'⟩
      · obtain ⟨w2, z2⟩ := I.cell y c' e
        exact ⟨w2, z2.sameBut hs hcc⟩
    · obtain ⟨e, n, ne, nf, d⟩ := I.pin p hp
      refine ⟨(hs.2 p.1 ?_).trans e, n, ne, nf, d⟩
      intro q
      rw [q, hoc] at e
      have q' : oc = p.2 := Option.some.inj e
      exact d w' (by rw [← q']; exact hocd)
theorem store_ok {M : Model} {A : Around} {E : Value → Shared → Prop} {i : Nat} {x : Str} {v : V} {u : Value} {Q : Unit → Shared → Prop} (I : Inv X pins σ H s) (hN : X.N.Nodup) (hi : X.N[i]? = some x) (hx : Loc X.env.scope x) (r : RelV v u)
    (h : ∀ s', Inv X pins (σ.set i (some v)) H s' → Q () s') (hf : autoParam (X.fn x = true ∨ X.env.scope.names.lookup x = some .local) L2.auto1._auto_1) : wpAny M A (storeName X.env x u) Q E s :=
  store_ok2 I hN hi hx r (fun s' I' _ => h s' I') hf
theorem Inv.call' {s' : Shared} {ch : List Addr} (I : Inv X pins σ H s) (ho : s'.os = s.os) (u : Un (frs X.stack) ch H H' s.heap s'.heap) (hok : HOk X.prog X.w H' s'.heap) (hg : AllBare s'.gens)
    (hch : ∀ b ∈ ch, (b ∈ X.ex ∨ X.s₀.heap.objs.size ≤ b) ∧ b ≠ X.env.locals ∧ (∀ x c, X.env.cells.lookup x = some c → c ≠ b) ∧ ∀ p ∈ X.pn ++ pins, p.1 ≠ b) : Inv X pins σ H' s' := by
  obtain ⟨h', g', d', t', o'⟩ := s'
  have e : o' = s.os := ho
  subst e
  exact I.call (g' := g') (t' := t') (d' := d') u hok hg hch
end

noncomputable abbrev XK := Value → Option Addr → Hp → Prop
noncomputable abbrev St := List (Option V)
noncomputable abbrev VK := V → Hp → Prop
noncomputable abbrev TE := St → Hp → VK → Prop
noncomputable abbrev TT := St → Hp → (Bool → Hp → Prop) → Prop
noncomputable abbrev TA := St → Hp → (List V → Hp → Prop) → Prop
structure Ends where
  nx : St → Hp → Prop
  rt : VK
  bk : St → Hp → Prop := fun _ _ => False
  ct : St → Hp → Prop := fun _ _ => False
noncomputable abbrev TS := Ends → St → Hp → Prop

noncomputable def EP (X : Cx) (pins : List (Addr × Obj)) (σ : St) (Q : VK) (u : Value) (s' : Shared) : Prop := ∃ v H', Inv X pins σ H' s' ∧ RelV v u ∧ Q v H'
noncomputable def TP (X : Cx) (pins : List (Addr × Obj)) (σ : St) (Q : Bool → Hp → Prop) (b : Bool) (s' : Shared) : Prop := ∃ H', Inv X pins σ H' s' ∧ Q b H'
noncomputable def AP (X : Cx) (pins : List (Addr × Obj)) (σ : St) (Q : List V → Hp → Prop) (us : List Value) (s' : Shared) : Prop := ∃ vs H', Inv X pins σ H' s' ∧ Vals vs us ∧ Q vs H'
noncomputable def SP (X : Cx) (pins : List (Addr × Obj)) (D : Ends) (f : Flow) (s' : Shared) : Prop :=
  match f with
  | .next => ∃ σ' H', Inv X pins σ' H' s' ∧ D.nx σ' H'
  | .brk => ∃ σ' H', Inv X pins σ' H' s' ∧ D.bk σ' H'
  | .cont => ∃ σ' H', Inv X pins σ' H' s' ∧ D.ct σ' H'
  | .ret u => ∃ v σ' H', Inv X pins σ' H' s' ∧ RelV v u ∧ D.rt v H'

noncomputable def PE (X : Cx) (e : Expr) (t : TE) : Prop :=
  ∀ (pins : List (Addr × Obj)) (s : Shared) (σ : St) (H : Hp) (Q : VK), Inv X pins σ H s → t σ H Q → wpAny (model X.prog X.w) X.A (eval e X.env) (EP X pins σ Q) X.xe s
noncomputable def PT (X : Cx) (e : Expr) (t : TT) : Prop :=
  ∀ (pins : List (Addr × Obj)) (s : Shared) (σ : St) (H : Hp) (Q : Bool → Hp → Prop), Inv X pins σ H s → t σ H Q → wpAny (model X.prog X.w) X.A (isTrue e X.env (eval e X.env)) (TP X pins σ Q) X.xe s
noncomputable def PW (X : Cx) (e : Expr) (t : TT) : Prop :=
  ∀ (whole : Sem Value) (pins : List (Addr × Obj)) (s : Shared) (σ : St) (H : Hp) (Q : Bool → Hp → Prop), Inv X pins σ H s → t σ H Q → wpAny (model X.prog X.w) X.A (isTrue e X.env whole) (TP X pins σ Q) X.xe s
theorem PW.pt {X : Cx} {e : Expr} {t : TT} (h : PW X e t) : PT X e t := h _
noncomputable def PA (X : Cx) (es : List Expr) (t : TA) : Prop :=
  ∀ (pos : Pos) (pins : List (Addr × Obj)) (s : Shared) (σ : St) (H : Hp) (Q : List V → Hp → Prop), Inv X pins σ H s → t σ H Q → wpAny (model X.prog X.w) X.A (spliced (backTo pos (starEach es X.env))) (AP X pins σ Q) X.xe s
noncomputable def PS (X : Cx) (st : Stmt) (t : TS) : Prop :=
  ∀ (pins : List (Addr × Obj)) (s : Shared) (σ : St) (H : Hp) (D : Ends), Inv X pins σ H s → t D σ H → wpAny (model X.prog X.w) X.A (exec st X.env) (SP X pins D) X.xe s
noncomputable def PSs (X : Cx) (st : List Stmt) (t : TS) : Prop :=
  ∀ (pins : List (Addr × Obj)) (s : Shared) (σ : St) (H : Hp) (D : Ends), Inv X pins σ H s → t D σ H → wpAny (model X.prog X.w) X.A (execs st X.env) (SP X pins D) X.xe s
theorem thn {α : Type} {t : Sem α} {Q Q' : α → Shared → Prop} {M : Model} {A : Around} {E : Value → Shared → Prop} {s : Shared} (h : wpAny M A t Q E s) (hQ : ∀ a s, Q a s → Q' a s) : wpAny M A t Q' E s := wpAny_mono h hQ fun _ _ x => x
end L2

namespace L2
open PySem PySem.Spec PyProof.Rows
section
variable {X : Cx}

noncomputable def tVar (i : Nat) : TE := fun σ H Q => ∃ v, σ[i]? = some (some v) ∧ Q v H
noncomputable def tC (v : V) : TE := fun _ H Q => Q v H
theorem pe_var {i : Nat} {x : Str} {pos : Pos} (hN : X.N[i]? = some x) (hv : Vis X.env.scope x) (hd : autoParam ((x == ("__debug__" : Str)) = false) L2.auto2._auto_1) (hcd : autoParam ((x == ("__classdict__" : Str)) = false) L2.auto2._auto_1) : PE X (.Name x pos) (tVar i) := by
  intro pins s σ H Q I h
  obtain ⟨v, e, h⟩ := h
  obtain ⟨m, hn, hl⟩ := I.loc
  obtain ⟨u, r, l⟩ := hl i x v hN e hv
  have fin : EP X pins σ Q u s := ⟨v, H, I, r, h⟩
  rcases l with ⟨hk, hm⟩ | ⟨hk, c, hc, hcell⟩
  · exact wpAny_Name (wpAny_loadName_local I.ok.kind hk hn hm fin) hd
  · rcases hk with hk | hk
    · exact wpAny_Name (wpAny_loadName_cell I.ok.kind hk hc hcell fin) hd
    · exact wpAny_Name (wpAny_loadName_free I.ok.kind hk hc hcell fin hcd) hd
theorem pe_int {i j pos} : PE X (.Constant (.int i) j pos) (tC (.int i)) := fun _ _ _ H _ I h => wpAny_Constant_int ⟨.int i, H, I.tok _, ⟨_, rfl⟩, h⟩
theorem pe_bl {b j pos} : PE X (.Constant (.bool b) j pos) (tC (.bl b)) := fun _ _ _ H _ I h => Constant_bool ⟨.bl b, H, I, rfl, h⟩
theorem pe_non {j pos} : PE X (.Constant .none j pos) (tC .non) := fun _ _ _ H _ I h => Constant_none ⟨.non, H, I, rfl, h⟩
theorem pe_str {x j pos} : PE X (.Constant (.str x) j pos) (tC (.str x)) := fun _ _ _ H _ I h => Calls.Constant_str ⟨.str x, H, I.tok _, ⟨_, rfl⟩, h⟩

noncomputable def Gl (X : Cx) (x : Str) : Prop := X.env.kindOf x = some .globalImplicit
theorem ld_glob {E : Value → Shared → Prop} {pins : List (Addr × Obj)} {s : Shared} {σ : St} {H : Hp} {x : Str} {u : Value} {pos : Pos} {Q : Value → Shared → Prop} (I : Inv X pins σ H s) (hg : Gl X x) (hm : X.mg x = some u) (h : Q u s)
    (hd : autoParam ((x == ("__debug__" : Str)) = false) L2.auto2._auto_1) : wpAny (model X.prog X.w) X.A (eval (.Name x pos) X.env) Q E s :=
  Calls.Name_function_global I.ok.kind hg (Calls.loadGlobal_global (by rw [I.ok.glob]; exact I.mod.glob.keeps I.bk) hm h) hd
theorem ld_blt {E : Value → Shared → Prop} {pins : List (Addr × Obj)} {s : Shared} {σ : St} {H : Hp} {x : Str} {u : Value} {pos : Pos} {Q : Value → Shared → Prop} (I : Inv X pins σ H s) (hg : Gl X x) (hm : X.mg x = none) (hv : bootBuiltins x = some u) (h : Q u s)
    (hn : autoParam (x ≠ "__name__") L2.auto2._auto_1) (hd : autoParam ((x == ("__debug__" : Str)) = false) L2.auto2._auto_1) : wpAny (model X.prog X.w) X.A (eval (.Name x pos) X.env) Q E s := by
  obtain ⟨mb, h1, h2⟩ := I.mod.blt
  exact Calls.Name_function_global I.ok.kind hg (Calls.loadGlobal_builtin (by rw [I.ok.glob]; exact I.mod.glob.keeps I.bk) hm (by rw [I.ok.blt]; exact h1.keeps I.bk) ((h2 x hn).trans hv) h) hd
theorem pe_glob {x : Str} {v : V} {u : Value} {pos : Pos} (hg : Gl X x) (hm : X.mg x = some u) (r : RelV v u) (hd : autoParam ((x == ("__debug__" : Str)) = false) L2.auto2._auto_1) : PE X (.Name x pos) (tC v) :=
  fun _ _ _ H _ I h => ld_glob I hg hm ⟨v, H, I, r, h⟩ hd
theorem pe_bltn {x : Str} {v : V} {u : Value} {pos : Pos} (hg : Gl X x) (hm : X.mg x = none) (hv : bootBuiltins x = some u) (r : RelV v u) (hn : autoParam (x ≠ "__name__") L2.auto2._auto_1) (hd : autoParam ((x == ("__debug__" : Str)) = false) L2.auto2._auto_1) : PE X (.Name x pos) (tC v) :=
  fun _ _ _ H _ I h => ld_blt I hg hm hv ⟨v, H, I, r, h⟩ hn hd

variable {a b : Expr} {ta tb : TE} {pos : Pos}
noncomputable def tB (t : TE) : TT := fun σ H Q => t σ H fun x H1 => ∃ c, x = .bl c ∧ Q c H1
theorem pt_val {e : Expr} {t : TE} (h : PE X e t) (he : autoParam (∀ whole, isTrue e X.env whole = (do let v ← whole; standAt e.pos; holding [v] (truthy v))) L2.auto3._auto_1) : PT X e (tB t) := by
  intro pins s σ H Q I hw
  refine isTrue_plain (thn (h pins s σ H _ I hw) fun v s1 qq0 => ?_) (he _)
  obtain ⟨x, H1, I1, r1, q1⟩ := qq0
  obtain ⟨d, rfl, q⟩ := q1
  cases r1
  exact wpAny_truthy_bool ⟨H1, I1, q⟩

variable {tA tB' : TT} {rest : List Expr}
noncomputable def tAnd (t u : TT) : TT := fun σ H Q => t σ H fun c H1 => if c = true then u σ H1 Q else Q false H1
noncomputable def tOr (t u : TT) : TT := fun σ H Q => t σ H fun c H1 => if c = true then Q true H1 else u σ H1 Q
noncomputable def tNot (t : TT) : TT := fun σ H Q => t σ H fun c H1 => Q (!c) H1
theorem pw_and1 (ha : PT X a tA) : PW X (.BoolOp .And [a] pos) tA := by
  intro wh pins s σ H Q I h
  refine isTrue_and (thn (ha pins s σ H Q I h) fun c s1 e => ?_)
  cases c with
  | true => exact isTrue_and_nil e
  | false => exact e
theorem pw_or1 (ha : PT X a tA) : PW X (.BoolOp .Or [a] pos) tA := by
  intro wh pins s σ H Q I h
  refine isTrue_or (thn (ha pins s σ H Q I h) fun c s1 e => ?_)
  cases c with
  | false => exact isTrue_or_nil e
  | true => exact e
theorem pw_and (ha : PT X a tA) (hb : PW X (.BoolOp .And (b :: rest) pos) tB') : PW X (.BoolOp .And (a :: b :: rest) pos) (tAnd tA tB') := by
  intro wh pins s σ H Q I h
  refine isTrue_and (thn (ha pins s σ H _ I h) fun c s1 qq0 => ?_)
  obtain ⟨H1, I1, q1⟩ := qq0
  cases c with
  | true => exact hb wh pins s1 σ H1 Q I1 q1
  | false => exact ⟨H1, I1, q1⟩
theorem pw_or (ha : PT X a tA) (hb : PW X (.BoolOp .Or (b :: rest) pos) tB') : PW X (.BoolOp .Or (a :: b :: rest) pos) (tOr tA tB') := by
  intro wh pins s σ H Q I h
  refine isTrue_or (thn (ha pins s σ H _ I h) fun c s1 qq0 => ?_)
  obtain ⟨H1, I1, q1⟩ := qq0
  cases c with
  | true => exact ⟨H1, I1, q1⟩
  | false => exact hb wh pins s1 σ H1 Q I1 q1
theorem pt_not (ha : PT X a tA) : PT X (.UnaryOp .Not a pos) (tNot tA) := by
  intro pins s σ H Q I h
  exact isTrue_not (ha pins s σ H (fun c H1 => Q (!c) H1) I h)
noncomputable def tAndV (ta tb : TE) : TE := fun σ H Q => ta σ H fun x H1 => ∃ c, x = .bl c ∧ if c = true then tb σ H1 Q else Q (.bl false) H1
noncomputable def tNotV (ta : TE) : TE := fun σ H Q => ta σ H fun x H1 => ∃ c, x = .bl c ∧ Q (.bl (!c)) H1
theorem pe_one {op} {t : TE} (h : PE X a t) : PE X (.BoolOp op [a] pos) t := fun pins s σ H Q I hw => BoolOp_one (h pins s σ H Q I hw)
theorem pe_and (ha : PE X a ta) (hb : PE X (.BoolOp .And (b :: rest) pos) tb) : PE X (.BoolOp .And (a :: b :: rest) pos) (tAndV ta tb) := by
  intro pins s σ H Q I h
  refine BoolOp_and (thn (ha pins s σ H _ I h) fun v s1 qq0 => ?_)
  obtain ⟨x, H1, I1, r1, q1⟩ := qq0
  obtain ⟨c, rfl, q1⟩ := q1
  cases r1
  refine wpAny_truthy_bool ?_
  cases c with
  | true => exact hb pins s1 σ H1 Q I1 q1
  | false => exact ⟨.bl false, H1, I1, rfl, q1⟩
theorem pe_not (ha : PE X a ta) : PE X (.UnaryOp .Not a pos) (tNotV ta) := by
  intro pins s σ H Q I h
  refine UnaryOp_ (thn (ha pins s σ H _ I h) fun v s1 qq0 => ?_)
  obtain ⟨x, H1, I1, r1, q1⟩ := qq0
  obtain ⟨c, rfl, q1⟩ := q1
  cases r1
  exact not_of (wpAny_truthy_bool ⟨.bl (!c), H1, I1, rfl, q1⟩)
noncomputable def tIf (t : TT) (ta tb : TE) : TE := fun σ H Q => t σ H fun c H1 => if c = true then ta σ H1 Q else tb σ H1 Q
theorem pe_ifExp {c : Expr} (hc : PT X c tA) (ha : PE X a ta) (hb : PE X b tb) : PE X (.IfExp c a b pos) (tIf tA ta tb) := by
  intro pins s σ H Q I h
  refine wpAny_IfExp (thn (hc pins s σ H _ I h) fun d s1 qq0 => ?_)
  obtain ⟨H1, I1, q1⟩ := qq0
  cases d with
  | true => exact ha pins s1 σ H1 Q I1 q1
  | false => exact hb pins s1 σ H1 Q I1 q1
end
end L2

namespace L2
open PySem PySem.Spec PyProof.Rows

noncomputable def SqL (K : PySem.W.Frag) (H : Hp) (a : Addr) (xs : List V) : Prop :=
  Rd H a (.lst xs) ∨
    ∃ (o : Obj) (its : Array Value) (n : Nat), K.lookup a = some o ∧ o.cls = .type "list" ∧ o.dict = none ∧ o.data = .seq its n ∧ its.size ≤ sizeLine ∧ Vals xs its.toList
noncomputable def SqT (K : PySem.W.Frag) (H : Hp) (a : Addr) (xs : List V) : Prop :=
  Rd H a (.tup xs) ∨
    ∃ (o : Obj) (its : Array Value) (n : Nat), K.lookup a = some o ∧ o.cls = .type "tuple" ∧ o.data = .seq its n ∧ its.size ≤ sizeLine ∧ Vals xs its.toList
noncomputable def absV : Value → Option V
  | .none => some .non
  | .bool b => some (.bl b)
  | .int i _ => some (.int i)
  | .str x _ => some (.str x)
  | .bytes b _ => some (.byt b)
  | .float b _ => some (.flt b)
  | .ref a => some (.ref a)
  | .type n => some (.ty n)
  | _ => none
theorem RelV.abs {x : V} {u : Value} (r : RelV x u) : absV u = some x := by
  cases x with
  | non => cases r; rfl
  | bl _ => cases r; rfl
  | int _ => obtain ⟨t, rfl⟩ := r; rfl
  | str _ => obtain ⟨t, rfl⟩ := r; rfl
  | byt _ => obtain ⟨t, rfl⟩ := r; rfl
  | flt _ => obtain ⟨t, rfl⟩ := r; rfl
  | ref _ => cases r; rfl
  | ty _ => cases r; rfl
theorem RelV.inj {x y : V} {u : Value} (r : RelV x u) (q : RelV y u) : x = y := Option.some.inj (r.abs.symm.trans q.abs)
theorem Vals.inj : ∀ {xs ys : List V} {us : List Value}, Vals xs us → Vals ys us → xs = ys
  | _, _, _, .nil, .nil => rfl
  | _, _, _, .cons r t, .cons r' t' => by rw [r.inj r', Vals.inj t t']
section
variable {X : Cx} {pins : List (Addr × Obj)} {σ : St} {H : Hp} {s : Shared} {a : Addr} {xs ys : List V}
theorem SqL.of {K : PySem.W.Frag} (h : H a = some (.lst xs)) : SqL K H a xs := .inl (.inl h)
theorem SqT.of {K : PySem.W.Frag} (h : H a = some (.tup xs)) : SqT K H a xs := .inl (.inl h)
theorem Inv.list (I : Inv X pins σ H s) (h : SqL X.K H a xs) : ∃ its : List Value, Vals xs its ∧ PlainL s.heap a its.toArray ∧ xs.length ≤ sizeLine := by
  rcases h with h | ⟨o, its, n, hk, hc, hd, hs, hz, r⟩
  · obtain ⟨z, its, n, r, e⟩ := h.ok I.hok
    exact ⟨its, r, ⟨_, n, e, rfl, rfl, rfl⟩, z⟩
  · refine ⟨its.toList, r, ⟨o, n, I.kIn a o hk, hc, hd, by simpa using hs⟩, ?_⟩
    have e := r.length
    simp only [Array.length_toList] at e
    omega
theorem Inv.tuple (I : Inv X pins σ H s) (h : SqT X.K H a xs) : ∃ its : List Value, Vals xs its ∧ IsTup s.heap a its.toArray ∧ xs.length ≤ sizeLine := by
  rcases h with h | ⟨o, its, n, hk, hc, hs, hz, r⟩
  · obtain ⟨z, its, r, p⟩ := h.ok I.hok
    exact ⟨its, r, p, z⟩
  · refine ⟨its.toList, r, ⟨o, I.kIn a o hk, hc, n, by simpa using hs⟩, ?_⟩
    have e := r.length
    simp only [Array.length_toList] at e
    omega
theorem Inv.list_inj (I : Inv X pins σ H s) (h : SqL X.K H a xs) (h' : SqL X.K H a ys) : xs = ys := by
  obtain ⟨its, r, ⟨o, n, e, _, _, d⟩, _⟩ := I.list h
  obtain ⟨its', r', ⟨o', n', e', _, _, d'⟩, _⟩ := I.list h'
  rw [e] at e'; cases e'
  rw [d] at d'
  injection d' with d1 _
  have : its = its' := by simpa using congrArg Array.toList d1
  subst this
  exact r.inj r'
theorem Inv.tuple_inj (I : Inv X pins σ H s) (h : SqT X.K H a xs) (h' : SqT X.K H a ys) : xs = ys := by
  obtain ⟨its, r, ⟨o, e, _, n, d⟩, _⟩ := I.tuple h
  obtain ⟨its', r', ⟨o', e', _, n', d'⟩, _⟩ := I.tuple h'
  rw [e] at e'; cases e'
  rw [d] at d'
  injection d' with d1 _
  have : its = its' := by simpa using congrArg Array.toList d1
  subst this
  exact r.inj r'
end

noncomputable abbrev Cx.wish (X : Cx) (E : Value → Shared → Prop) : Cx := { X with xe := E }
noncomputable abbrev Cx.nox (X : Cx) : Cx := X.wish fun _ _ => False
theorem Cx.Ok.wish {X : Cx} (ok : X.Ok) (E : Value → Shared → Prop) : (X.wish E).Ok :=
  ⟨ok.mod, ok.kind, ok.glob, ok.blt, ok.above, ok.inj, ok.has, ok.cab, ok.hd, ok.frames, ok.stk, ok.exf, ok.bs, ok.bsz, ok.noex, ok.exfs, ok.funs, ok.frf⟩
theorem Cx.Ok.unwish {X : Cx} {E : Value → Shared → Prop} (ok : (X.wish E).Ok) : X.Ok :=
  ⟨ok.mod, ok.kind, ok.glob, ok.blt, ok.above, ok.inj, ok.has, ok.cab, ok.hd, ok.frames, ok.stk, ok.exf, ok.bs, ok.bsz, ok.noex, ok.exfs, ok.funs, ok.frf⟩
section
variable {X : Cx} {pins : List (Addr × Obj)} {σ : St} {H : Hp} {s : Shared} {E : Value → Shared → Prop}
theorem Inv.wish (I : Inv X pins σ H s) (E : Value → Shared → Prop) : Inv (X.wish E) pins σ H s := ⟨I.ok.wish E, I.os, I.bare, I.base, I.loc, I.cell, I.free, I.freeC, I.pin, I.hok, I.len⟩
theorem Inv.unwish (I : Inv (X.wish E) pins σ H s) : Inv X pins σ H s := ⟨I.ok.unwish, I.os, I.bare, I.base, I.loc, I.cell, I.free, I.freeC, I.pin, I.hok, I.len⟩
theorem SP.unwish {D : Ends} {f : Flow} {s' : Shared} (h : SP (X.wish E) pins D f s') : SP X pins D f s' := by
  cases f with
  | next => obtain ⟨σ', H', I, q⟩ := h; exact ⟨σ', H', I.unwish, q⟩
  | brk => obtain ⟨σ', H', I, q⟩ := h; exact ⟨σ', H', I.unwish, q⟩
  | cont => obtain ⟨σ', H', I, q⟩ := h; exact ⟨σ', H', I.unwish, q⟩
  | ret u => obtain ⟨v, σ', H', I, r, q⟩ := h; exact ⟨v, σ', H', I.unwish, r, q⟩
theorem PSs.nox {st : List Stmt} {t : TS} (h : PSs X.nox st t) : PSs X st t := fun pins s σ H D I hw =>
  wpAny_mono (h pins s σ H D (I.wish _) hw) (fun _ _ q => q.unwish) fun _ _ z => False.elim z
end

section
variable {X : Cx} {st : Stmt} {rest : List Stmt} {t u : TS} {e : Expr} {te : TE} {pos : Pos}
noncomputable def tNext : TS := fun D σ H => D.nx σ H
noncomputable def tSeq (t u : TS) : TS := fun D σ H => t { D with nx := u D } σ H
theorem pss_nil : PSs X [] tNext := fun _ _ σ H _ I h => wpAny_execs_nil ⟨σ, H, I, h⟩
theorem pss_cons (h1 : PS X st t) (h2 : PSs X rest u) : PSs X (st :: rest) (tSeq t u) := by
  intro pins s σ H D I h
  refine wpAny_execs_cons (thn (h1 pins s σ H { D with nx := u D } I h) fun f s1 q => ?_)
  cases f with
  | next =>
    obtain ⟨σ', H', I', q⟩ := q
    exact h2 pins s1 σ' H' D I' q
  | ret v => exact q
  | brk => exact q
  | cont => exact q
theorem pss_one (h1 : PS X st t) : PSs X [st] t := by
  intro pins s σ H D I h
  refine wpAny_execs_cons (thn (h1 pins s σ H D I h) fun f s1 q => ?_)
  cases f with
  | next => exact wpAny_execs_nil q
  | ret v => exact q
  | brk => exact q
  | cont => exact q
theorem Inv.quiet {pins : List (Addr × Obj)} {σ : St} {H : Hp} {s : Shared} (I : Inv X pins σ H s) : interactive X.env = false := by simp [interactive, I.ok.kind]
noncomputable def tDrop (te : TE) : TS := fun D σ H => te σ H fun _ H1 => D.nx σ H1
theorem ps_expr (he : PE X e te) (hs : autoParam (swapsWith e none pos.line X.env = pure false) L2.auto4._auto_1) : PS X (.Expr e pos) (tDrop te) := by
  intro pins s σ H D I h
  exact wpAny_Expr_any (thn (he pins s σ H _ I h) fun v s1 ⟨x, H1, I1, r1, q1⟩ => ⟨σ, H1, I1, q1⟩) I.quiet hs
noncomputable def tRet (te : TE) : TS := fun D σ H => te σ H D.rt
theorem ps_ret (he : PE X e te) : PS X (.Return (some e) pos) (tRet te) := by
  intro pins s σ H D I h
  exact wpAny_Return_some (thn (he pins s σ H _ I h) fun v s1 ⟨x, H1, I1, r1, q1⟩ => ⟨x, σ, H1, I1, r1, q1⟩)
noncomputable def tIfS (c : TT) (t u : TS) : TS := fun D σ H => c σ H fun b H1 => if b = true then t D σ H1 else u D σ H1
theorem ps_if {c : Expr} {a b : List Stmt} {tc : TT} (hc : PT X c tc) (ha : PSs X a t) (hb : PSs X b u) : PS X (.If c a b pos) (tIfS tc t u) := by
  intro pins s σ H D I h
  refine wpAny_If (thn (hc pins s σ H _ I h) fun d s1 qq0 => ?_)
  obtain ⟨H1, I1, q1⟩ := qq0
  cases d with
  | true => exact ha pins s1 σ H1 D I1 q1
  | false => exact hb pins s1 σ H1 D I1 q1
end

noncomputable abbrev TG := V → St → Hp → (St → Hp → Prop) → Prop
noncomputable abbrev TGs := List V → St → Hp → (St → Hp → Prop) → Prop
noncomputable def PG (X : Cx) (target : Expr) (t : TG) : Prop :=
  ∀ (pins : List (Addr × Obj)) (s : Shared) (σ : St) (H : Hp) (v : V) (u : Value) (Q : St → Hp → Prop), Inv X pins σ H s → RelV v u → t v σ H Q →
    wpAny (model X.prog X.w) X.A (assign target X.env u) (fun _ s' => ∃ σ' H', Inv X pins σ' H' s' ∧ Q σ' H') X.xe s
noncomputable def PGs (X : Cx) (ts : List Expr) (t : TGs) : Prop :=
  ∀ (pins : List (Addr × Obj)) (s : Shared) (σ : St) (H : Hp) (vs : List V) (us : List Value) (Q : St → Hp → Prop), Inv X pins σ H s → Vals vs us → t vs σ H Q →
    wpAny (model X.prog X.w) X.A (assignInOrder ((assignEach ts X.env).map (·.2)) us) (fun _ s' => ∃ σ' H', Inv X pins σ' H' s' ∧ Q σ' H') X.xe s
section
variable {X : Cx} {pos : Pos}
noncomputable def gName (i : Nat) : TG := fun v σ H Q => Q (σ.set i (some v)) H
theorem pg_name {i : Nat} {x : Str} (hN : X.N.Nodup) (hi : X.N[i]? = some x) (hx : Loc X.env.scope x) (hf : autoParam (X.fn x = true ∨ X.env.scope.names.lookup x = some .local) L2.auto1._auto_1) : PG X (.Name x pos) (gName i) := by
  intro pins s σ H v u Q I r h
  exact wpAny_assign_Name (store_ok I hN hi hx r (fun s' I' => ⟨_, H, I', h⟩) hf)
noncomputable def gNil : TGs := fun vs σ H Q => vs = [] ∧ Q σ H
noncomputable def gCons (t : TG) (u : TGs) : TGs := fun vs σ H Q => ∃ v r, vs = v :: r ∧ t v σ H fun σ' H' => u r σ' H' Q
theorem pgs_nil : PGs X [] gNil := by
  intro pins s σ H vs us Q I r h
  obtain ⟨e, h⟩ := h
  subst e
  cases r
  exact assignInOrder_nil ⟨σ, H, I, h⟩
theorem pgs_cons {e : Expr} {es : List Expr} {t : TG} {u : TGs} (h1 : PG X e t) (h2 : PGs X es u)
    (hs : autoParam ((assignEach (e :: es) X.env).map (·.2) = assign e X.env :: (assignEach es X.env).map (·.2)) L2.auto4._auto_1) : PGs X (e :: es) (gCons t u) := by
  intro pins s σ H vs us Q I r h
  obtain ⟨v, vr, e1, h⟩ := h
  subst e1
  cases r with
  | cons r rr =>
    rw [hs]
    refine assignInOrder_cons (thn (h1 pins s σ H _ _ _ I r h) fun _ s1 qq0 => ?_)
    obtain ⟨σ1, H1, I1, q1⟩ := qq0
    exact h2 pins s1 σ1 H1 _ _ Q I1 rr q1
noncomputable def gTup (K : PySem.W.Frag) (n : Nat) (t : TGs) : TG := fun v σ H Q => ∃ a xs, v = .ref a ∧ SqT K H a xs ∧ xs.length = n ∧ t xs σ H Q
theorem pg_tup {es : List Expr} {k : Nat} {t : TGs} {n : Nat} (hc : X.calm = true) (h : PGs X es t)
    (hn : autoParam ((assignEach es X.env).length = n) L2.auto4._auto_1) (hst : autoParam ((assignEach es X.env).findIdx? (·.1) = none) L2.auto4._auto_1) : PG X (.Tuple es k pos) (gTup X.K n t) := by
  intro pins s σ H v u Q I r hw
  obtain ⟨a, xs, e1, hq, hl, hw⟩ := hw
  subst e1
  cases r
  obtain ⟨its, rv, ht, hz⟩ := I.tuple hq
  refine assign_Tuple_tuple (I.ok.hd hc) ht (by simp [hn, ← hl, rv.length]) hst fun h' hx => ?_
  have I1 : Inv X pins σ H { s with heap := h' } := I.kept (t' := s.toks) fun b o e => hx b o (Nat.ne_of_lt (Heap.lt_size e)) e
  exact h pins _ σ H xs _ Q I1 (by simpa using rv) hw
noncomputable def tAsg (te : TE) (g : TG) : TS := fun D σ H => te σ H fun x H1 => g x σ H1 D.nx
theorem ps_asg {tg e : Expr} {te : TE} {g : TG} (he : PE X e te) (hg : PG X tg g) (hs : autoParam (swapsWithSole [tg] e pos.line X.env = pure false) L2.auto4._auto_1) (hw : autoParam (swappedStores [tg] e X.env = pure none) L2.auto4._auto_1)
    (h1 : autoParam ((assignEach [tg] X.env).map (·.2) = [assign tg X.env]) L2.auto4._auto_1) : PS X (.Assign [tg] e pos) (tAsg te g) := by
  intro pins s σ H D I h
  refine wpAny_Assign_stores (thn (he pins s σ H _ I h) fun v s1 qq0 => ?_) hs hw
  obtain ⟨x, H1, I1, r1, q1⟩ := qq0
  rw [h1]
  exact thn (hg pins s1 σ H1 x v _ I1 r1 q1) fun _ s2 q => q
theorem ps_set {i : Nat} {x : Str} {e : Expr} {te : TE} {pos' : Pos} (hN : X.N.Nodup) (hi : X.N[i]? = some x) (hx : Loc X.env.scope x) (he : PE X e te) (hs : autoParam (swapsWith e (some (.Name x pos')) pos.line X.env = pure false) L2.auto4._auto_1) (hf : autoParam (X.fn x = true ∨ X.env.scope.names.lookup x = some .local) L2.auto1._auto_1) :
    PS X (.Assign [.Name x pos'] e pos) (tAsg te (gName i)) := by
  intro pins s σ H D I h
  refine wpAny_Assign_Name (thn (he pins s σ H _ I h) fun v s1 qq0 => ?_) hs
  obtain ⟨y, H1, I1, r1, q1⟩ := qq0
  exact store_ok I1 hN hi hx r1 (fun s2 I2 => ⟨_, H1, I2, q1⟩) hf
end

section
variable {X : Cx} {pos : Pos}
end

structure It where
  go : Nat → Hp → Prop
  yld : Nat → Hp → V → Hp → Prop
  stop : Nat → Hp → Prop
noncomputable def FpOk (X : Cx) (pins : List (Addr × Obj)) (H : Hp) (b : Addr) : Prop :=
  H b = none ∧ b ≠ X.env.locals ∧ b ∉ X.fs ∧ (b ∈ X.ex ∨ X.s₀.heap.objs.size ≤ b) ∧ (∀ x c, X.env.cells.lookup x = some c → c ≠ b) ∧ ∀ p ∈ X.pn ++ pins, p.1 ≠ b
theorem Inv.fpOk {X : Cx} {pins : List (Addr × Obj)} {σ : St} {H H' : Hp} {s : Shared} {b : Addr} (I : Inv X pins σ H s) (hb : s.heap.objs.size ≤ b) (hn : H' b = none) : FpOk X pins H' b := by
  refine ⟨hn, Nat.ne_of_gt (Nat.lt_of_lt_of_le I.lt hb), I.nofs hb, .inr (Nat.le_trans I.sz hb), fun x c e z => ?_, fun p hp z => ?_⟩
  · obtain ⟨v, q⟩ := I.cell x c e
    exact absurd (Nat.lt_of_lt_of_le q.lt (by rw [z]; exact hb)) (Nat.lt_irrefl _)
  · exact absurd (Nat.lt_of_lt_of_le (Heap.lt_size (I.pin p hp).1) (by rw [z]; exact hb)) (Nat.lt_irrefl _)
structure Turn (P : Program) (w : World) (K : PySem.W.Frag) (tg : Expr) (J : It) (fp : List Addr) (it : Addr) (tn : Nat → Heap → Prop) : Prop where
  mem : it ∈ fp
  obj : ∀ i h, tn i h → ∀ b ∈ fp, ∃ o, h.get? b = some o ∧ ∀ v, o.data ≠ .cell v
  keep : ∀ i h h', tn i h → (∀ b ∈ fp, ∀ o, h.get? b = some o → h'.get? b = some o) → tn i h'
  item : ∀ (X : Cx), X.prog = P → X.w = w → X.K = K → X.calm = true → ∀ (i : Nat) (pins : List (Addr × Obj)) (s : Shared) (σ : St) (H : Hp) (E : Value → Shared → Prop), Inv X pins σ H s → (∀ b ∈ fp, FpOk X pins H b) → tn i s.heap → J.go i H →
    wpAny (model P w) X.A (pyNext (.ref it)) (fun r s1 => ∃ u, r = some u ∧
      wpAny (model P w) X.A (letOwnedTupleGo tg (.ref it) u) (fun _ s2 => ∃ x H', Inv X pins σ H' s2 ∧ RelV x u ∧ J.yld i H x H' ∧ tn (i + 1) s2.heap ∧ ∀ b ∈ fp, H' b = none) E s1) E s
  done : ∀ (X : Cx), X.prog = P → X.w = w → X.K = K → X.calm = true → ∀ (i : Nat) (pins : List (Addr × Obj)) (s : Shared) (σ : St) (H : Hp) (E : Value → Shared → Prop), Inv X pins σ H s → (∀ b ∈ fp, FpOk X pins H b) → tn i s.heap → J.stop i H →
    wpAny (model P w) X.A (pyNext (.ref it)) (fun r s1 => r = none ∧ Inv X pins σ H s1) E s
  self : ∀ (A : Around) (i : Nat) (s : Shared) (Q : Value → Shared → Prop) (E : Value → Shared → Prop), tn i s.heap → Q (.ref it) s → wpAny (model P w) A (pyIter (.ref it)) Q E s
noncomputable abbrev TI := St → Hp → (It → Hp → Prop) → Prop
noncomputable def PIE (X : Cx) (pins : List (Addr × Obj)) (σ : St) (tg : Expr) (R : It → Hp → Prop) (itv : Value) (s2 : Shared) : Prop :=
  ∃ (it : Addr) (fp : List Addr) (tn : Nat → Heap → Prop) (J : It) (H' : Hp), itv = .ref it ∧ Inv X pins σ H' s2 ∧ Turn X.prog X.w X.K tg J fp it tn ∧ tn 0 s2.heap ∧ (∀ b ∈ fp, FpOk X pins H' b) ∧ R J H'
noncomputable def PI (X : Cx) (tg iter : Expr) (wi : TI) : Prop :=
  ∀ (pins : List (Addr × Obj)) (s : Shared) (σ : St) (H : Hp) (R : It → Hp → Prop), Inv X pins σ H s → wi σ H R →
    wpAny (model X.prog X.w) X.A (eval iter X.env) (fun v s1 => wpAny (model X.prog X.w) X.A (pyIter v) (PIE X pins σ tg R) X.xe s1) X.xe s

theorem go_of {M : Model} {A : Around} {E : Value → Shared → Prop} {s : Shared} {tg : Expr} {it : Addr} {u : Value} {o : Obj} {n : String} {vs : Array Value} {Q : Unit → Shared → Prop} (ho : s.heap.get? it = some o) (hc : o.cls = .type n) (hd : o.data = .fields vs)
    (hn : ["enumerate", "zip", "dict_itemiterator", "dict_reverseitemiterator", "odict_iterator", "itertools.zip_longest", "itertools.pairwise"].contains n = false) (hQ : Q () s) : wpAny M A (letOwnedTupleGo tg (.ref it) u) Q E s := by
  unfold letOwnedTupleGo
  cases tg <;> first
    | exact wpAny_pure hQ
    | (cases u <;> first
        | exact wpAny_pure hQ
        | (refine wpAny_bind (wpAny_load ho ?_)
           rw [hc, hd]
           show wpAny M A (if (["enumerate", "zip", "dict_itemiterator", "dict_reverseitemiterator", "odict_iterator", "itertools.zip_longest", "itertools.pairwise"].contains n && vs[0]? == some (rawInt _)) = true then _ else _) Q E s
           rw [if_neg (by intro h; rw [hn, Bool.false_and] at h; cases h)]
           exact wpAny_pure hQ))

noncomputable def Itl (K : PySem.W.Frag) (a : Addr) : It :=
  ⟨fun i H => ∃ xs x, SqL K H a xs ∧ xs[i]? = some x, fun i H x H' => H' = H ∧ ∀ xs, SqL K H a xs → xs[i]? = some x, fun i H => ∃ xs, SqL K H a xs ∧ xs.length ≤ i⟩
noncomputable def Itt (K : PySem.W.Frag) (a : Addr) : It :=
  ⟨fun i H => ∃ xs x, SqT K H a xs ∧ xs[i]? = some x, fun i H x H' => H' = H ∧ ∀ xs, SqT K H a xs → xs[i]? = some x, fun i H => ∃ xs, SqT K H a xs ∧ xs.length ≤ i⟩
noncomputable def Itr (lo : Int) (n : Nat) : It := ⟨fun i _ => i < n, fun i H x H' => H' = H ∧ x = .int (lo + i), fun i _ => n ≤ i⟩
theorem turn_list {P : Program} {w : World} {K : PySem.W.Frag} {tg : Expr} (a it : Addr) : Turn P w K tg (Itl K a) [it] it (fun i h => h.IsListIter it a i) where
  mem := by simp
  obj := fun i h st b hb => by
    have e : b = it := by simpa using hb
    subst e
    obtain ⟨o, e, c, d⟩ := st
    exact ⟨o, e, fun v z => by rw [d] at z; cases z⟩
  keep := fun i h h' st k => st.at fun o e => k it (by simp) o e
  item := by
    intro X hP hw hK hc i pins s σ H E I hf st hg
    subst hP hw hK
    obtain ⟨xs, x, hq, hx⟩ := hg
    obtain ⟨its, rv, p, hz⟩ := I.list hq
    obtain ⟨u, hu, ru⟩ := rv.get hx
    obtain ⟨f0, f1, f2, f3, f4, f5⟩ := hf it (by simp)
    refine wpAny_pyNext_list_item st p.isList (x := u) (by simpa using hu) fun h' st' sb => ?_
    have I1 : Inv X pins σ H { s with heap := h' } := I.turned (t' := s.toks) (fun b o hb e => (sb.2 b hb).trans e) f0 f1 f3 f4 f5
    obtain ⟨o, e, c, d⟩ := id st'
    exact ⟨u, rfl, go_of (s := { s with heap := h' }) e c d (by decide) ⟨x, H, I1, ru, ⟨rfl, fun ys hy => by rw [I.list_inj hy hq]; exact hx⟩, st', fun b hb => (hf b hb).1⟩⟩
  done := by
    intro X hP hw hK hc i pins s σ H E I hf st hg
    subst hP hw hK
    obtain ⟨xs, hq, hx⟩ := hg
    obtain ⟨its, rv, p, hz⟩ := I.list hq
    obtain ⟨f0, f1, f2, f3, f4, f5⟩ := hf it (by simp)
    have hl := rv.length
    exact wpAny_pyNext_list_end (I.ok.hd hc) st p.isList (by simp; omega) fun h' eb => ⟨rfl, I.turned (t' := s.toks) (fun b o hb e => eb b o hb e) f0 f1 f3 f4 f5⟩
  self := fun _ _ _ _ _ st h => wpAny_pyIter_listiter st h
theorem turn_tuple {P : Program} {w : World} {K : PySem.W.Frag} {tg : Expr} (a it : Addr) : Turn P w K tg (Itt K a) [it] it (fun i h => h.IsTupleIter it a i) where
  mem := by simp
  obj := fun i h st b hb => by
    have e : b = it := by simpa using hb
    subst e
    obtain ⟨o, e, c, d⟩ := st
    exact ⟨o, e, fun v z => by rw [d] at z; cases z⟩
  keep := fun i h h' st k => st.at fun o e => k it (by simp) o e
  item := by
    intro X hP hw hK hc i pins s σ H E I hf st hg
    subst hP hw hK
    obtain ⟨xs, x, hq, hx⟩ := hg
    obtain ⟨its, rv, p, hz⟩ := I.tuple hq
    obtain ⟨u, hu, ru⟩ := rv.get hx
    obtain ⟨f0, f1, f2, f3, f4, f5⟩ := hf it (by simp)
    refine wpAny_pyNext_tuple_item st (show s.heap.IsTuple a its.toArray from p) (x := u) (by simpa using hu) fun h' st' sb => ?_
    have I1 : Inv X pins σ H { s with heap := h' } := I.turned (t' := s.toks) (fun b o hb e => (sb.2 b hb).trans e) f0 f1 f3 f4 f5
    obtain ⟨o, e, c, d⟩ := id st'
    exact ⟨u, rfl, go_of (s := { s with heap := h' }) e c d (by decide) ⟨x, H, I1, ru, ⟨rfl, fun ys hy => by rw [I.tuple_inj hy hq]; exact hx⟩, st', fun b hb => (hf b hb).1⟩⟩
  done := by
    intro X hP hw hK hc i pins s σ H E I hf st hg
    subst hP hw hK
    obtain ⟨xs, hq, hx⟩ := hg
    obtain ⟨its, rv, p, hz⟩ := I.tuple hq
    obtain ⟨f0, f1, f2, f3, f4, f5⟩ := hf it (by simp)
    have hl := rv.length
    exact wpAny_pyNext_tuple_end (I.ok.hd hc) st (show s.heap.IsTuple a its.toArray from p) (by simp; omega) fun h' eb => ⟨rfl, I.turned (t' := s.toks) (fun b o hb e => eb b o hb e) f0 f1 f3 f4 f5⟩
  self := fun _ _ _ _ _ st h => wpAny_pyIter_tupleiter st h
theorem turn_range {P : Program} {w : World} {K : PySem.W.Frag} {tg : Expr} (it : Addr) (lo : Int) (n : Nat) : Turn P w K tg (Itr lo n) [it] it (fun i h => IsRangeIter h it (lo + (i : Nat) * 1) ((n : Int) - (i : Nat)) 1) where
  mem := by simp
  obj := fun i h st b hb => by
    have e : b = it := by simpa using hb
    subst e
    exact ⟨_, st, fun v z => by
      have z' : Data.fields _ = Data.cell v := z
      cases z'⟩
  keep := fun i h h' st k => k it (by simp) _ st
  item := by
    intro X hP hw hK hc i pins s σ H E I hf st hg
    subst hP hw hK
    obtain ⟨f0, f1, f2, f3, f4, f5⟩ := hf it (by simp)
    have W := Walks.range (prog := X.prog) (w := X.w) (I.ok.hd hc) it lo 1 n
    refine W.item i s _ _ hg st fun v h' tk hv st' kk => ?_
    obtain ⟨t, rfl⟩ := hv
    have I1 : Inv X pins σ H { s with heap := h', toks := tk } := I.turned (fun b o hb e => kk b o (by simpa using hb) e) f0 f1 f3 f4 f5
    refine ⟨_, rfl, go_of (s := { s with heap := h', toks := tk }) (n := "range_iterator") st' rfl rfl (by decide) ⟨.int (lo + i), H, I1, ⟨t, ?_⟩, ⟨rfl, rfl⟩, st', fun b hb => (hf b hb).1⟩⟩
    rw [Int.mul_one]
  done := by
    intro X hP hw hK hc i pins s σ H E I hf st hg
    subst hP hw hK
    obtain ⟨f0, f1, f2, f3, f4, f5⟩ := hf it (by simp)
    exact wpAny_pyNext_range_end (I.ok.hd hc) st (by have : n ≤ i := hg; omega) fun h' eb => ⟨rfl, I.turned (t' := s.toks) (fun b o hb e => eb b o hb e) f0 f1 f3 f4 f5⟩
  self := fun _ _ _ _ _ st h => wpAny_pyIter_rangeiter st h
end L2

namespace L2
open PySem PySem.Spec PyProof.Rows
section
variable {X : Cx} {tg : Expr}
theorem range_it {pins : List (Addr × Obj)} {σ : St} {H : Hp} {s : Shared} {R : It → Hp → Prop} {E : Value → Shared → Prop} {lo hi : Int} {t u v : Tok} {tk : Nat} (I : Inv X pins σ H s) (h1 : -(2 ^ 62) ≤ lo) (h2 : lo < 2 ^ 62) (h3 : -(2 ^ 62) ≤ hi) (h4 : hi < 2 ^ 62)
    (q : R (Itr lo (hi - lo).toNat) H) : wpAny (model X.prog X.w) X.A (pyIter (.ref s.heap.objs.size)) (PIE X pins σ tg R) E { s with heap := s.heap.push { cls := .type "range", data := .fields #[.int lo t, .int hi u, .int 1 v] }, toks := tk } := by
  refine wpAny_pyIter_range (IsRange.new ..) (small_one h1 h2 h3 h4) ?_
  have I1 : Inv X pins σ H { s with heap := s.heap.push { cls := .type "range", data := .fields #[.int lo t, .int hi u, .int 1 v] }, toks := tk } := I.kept fun b o e => Heap.get?_push_of_some _ e
  refine ⟨(s.heap.push { cls := .type "range", data := .fields #[.int lo t, .int hi u, .int 1 v] }).objs.size, [(s.heap.push { cls := .type "range", data := .fields #[.int lo t, .int hi u, .int 1 v] }).objs.size], _, _, H, rfl,
    I1.kept (t' := tk) fun b o e => Heap.get?_push_of_some _ e, turn_range _ lo (hi - lo).toNat, ?_, fun b hb => ?_, q⟩
  · have e1 : lo + ((0 : Nat) : Int) * 1 = lo := by simp
    have e2 : (((hi - lo).toNat : Nat) : Int) - ((0 : Nat) : Int) = Builtin.Range.rangeSize lo hi 1 := by rw [rangeSize_one]; split <;> omega
    show IsRangeIter _ _ (lo + ((0 : Nat) : Int) * 1) ((((hi - lo).toNat : Nat) : Int) - ((0 : Nat) : Int)) 1
    rw [e1, e2]
    exact Heap.get?_push_size _ rfl
  · have e : b = (s.heap.push { cls := .type "range", data := .fields #[.int lo t, .int hi u, .int 1 v] }).objs.size := by simpa using hb
    subst e
    exact I1.fpOk (Nat.le_refl _) (I1.hok.fresh (Nat.le_refl _))
noncomputable def iRng1 (ta : TA) : TI := fun σ H R => ta σ H fun vs H1 => ∃ j : Int, vs = [.int j] ∧ -(2 ^ 62) ≤ j ∧ j < 2 ^ 62 ∧ R (Itr 0 j.toNat) H1
theorem pi_range1 {a : Expr} {ta : TA} {p pos : Pos} (hg : Gl X "range") (hm : X.mg "range" = none) (ha : PA X [a] ta) (hs : autoParam (starEach [a] X.env = [(false, eval a X.env)]) L2.auto4._auto_1) : PI X tg (.Call (.Name "range" p) [a] [] pos) (iRng1 ta) := by
  intro pins s σ H R I h
  refine Call_ (ld_blt I hg hm boot_range (PyProof.Rows.callWith_type1 (thn (ha pos pins s σ H _ I h) fun us s1 ⟨vs, H1, I1, r1, q1⟩ => ?_) hs rfl))
  obtain ⟨j, e, q1, q2, q⟩ := q1
  subst e
  cases r1 with
  | cons r rr =>
    cases rr
    obtain ⟨t, rfl⟩ := r
    exact call_range_1 (range_it I1 (by omega) (by omega) q1 q2 (by simpa using q))
noncomputable def tFor (wi : TI) (g : TG) (tb : TS) : TS := fun D σ H => wi σ H fun J H1 => ∃ W : Nat → Nat → St → Hp → Prop, (∃ m, W 0 m σ H1) ∧ ∀ i m σ H, W i m σ H →
  (J.stop i H ∧ D.nx σ H) ∨ (J.go i H ∧ ∃ N : St → Hp → Prop, (∀ σ' H', N σ' H' → ∃ m', m' < m ∧ W (i + 1) m' σ' H') ∧ ∀ x H', J.yld i H x H' → g x σ H' fun σ2 H2 => tb { D with nx := N, ct := N, bk := D.nx } σ2 H2)
noncomputable def pinsAt (fp : List Addr) (h : Heap) : List (Addr × Obj) := fp.filterMap fun b => (h.get? b).map fun o => (b, o)
theorem mem_pinsAt {fp : List Addr} {h : Heap} {b : Addr} {o : Obj} (hb : b ∈ fp) (e : h.get? b = some o) : (b, o) ∈ pinsAt fp h := List.mem_filterMap.mpr ⟨b, hb, by rw [e]; rfl⟩
theorem of_pinsAt {fp : List Addr} {h : Heap} {p : Addr × Obj} (hp : p ∈ pinsAt fp h) : p.1 ∈ fp ∧ h.get? p.1 = some p.2 := by
  obtain ⟨b, hb, e⟩ := List.mem_filterMap.mp hp
  cases q : h.get? b with
  | none => rw [q] at e; cases e
  | some o =>
    rw [q] at e
    have e' : (b, o) = p := Option.some.inj e
    subst e'
    exact ⟨hb, q⟩
theorem Inv.pinned {pins : List (Addr × Obj)} {σ : St} {H : Hp} {s : Shared} {fp : List Addr} (I : Inv X pins σ H s) (hf : ∀ b ∈ fp, FpOk X pins H b) (ho : ∀ b ∈ fp, ∃ o, s.heap.get? b = some o ∧ ∀ v, o.data ≠ .cell v) : Inv X (pins ++ pinsAt fp s.heap) σ H s :=
  I.pins_of fun p hp => (List.mem_append.mp hp).elim (fun z => I.pin p (List.mem_append_right _ z)) fun z => by
    obtain ⟨hb, e⟩ := of_pinsAt z
    obtain ⟨f0, f1, f2, _⟩ := hf p.1 hb
    obtain ⟨o, e', d⟩ := ho p.1 hb
    rw [e] at e'; cases e'
    exact ⟨e, f0, f1, f2, d⟩
theorem Inv.unpinned {pins pl : List (Addr × Obj)} {σ : St} {H : Hp} {s : Shared} (I : Inv X (pins ++ pl) σ H s) : Inv X pins σ H s := I.pins_of fun p hp => I.pin p (List.mem_append_right _ (List.mem_append_left _ hp))
theorem ps_for {iter : Expr} {body : List Stmt} {wi : TI} {g : TG} {tb : TS} {pos : Pos} (hp : PassesOwn (model X.prog X.w) X.A X.env X.xe) (hc : X.calm = true) (hi : PI X tg iter wi) (hg : PG X tg g) (hb : PSs X body tb)
    (hs : autoParam (∀ x, foldedSetIterable iter X.env x = pure x) L2.auto3._auto_1) : PS X (.For tg iter body [] pos) (tFor wi g tb) := by
  intro pins s σ H D I h
  refine wpAny_For (thn (hi pins s σ H _ I h) fun v s1 h1 => thn h1 fun itv s2 h2 => ?_) hs
  obtain ⟨it, fp, tn, J, H2, e, I2, T, st2, f2, W, ⟨m0, w0⟩, turn⟩ := h2
  subst e
  -- what stays true of the iterator's objects through the loop
  have stat : ∀ {H' : Hp}, (∀ b ∈ fp, H' b = none) → ∀ b ∈ fp, FpOk X pins H' b := fun hn b hb => ⟨hn b hb, (f2 b hb).2⟩
  refine codeAny_forLoop_any (fun n s' => ∃ i σ' H', Inv X pins σ' H' s' ∧ tn i s'.heap ∧ (∀ b ∈ fp, H' b = none) ∧ W i n σ' H') ?_ m0 ⟨0, σ, H2, I2, st2, fun b hb => (f2 b hb).1, w0⟩
  rintro n s3 ⟨i, σ3, H3, I3, st3, fr3, w3⟩
  rcases turn i n σ3 H3 w3 with ⟨stop, qn⟩ | ⟨go, N, hN, step⟩
  · refine wpAny_passesOwn hp (thn (T.done X rfl rfl rfl hc i pins s3 σ3 H3 X.xe I3 (stat fr3) st3 stop) fun r s4 qq0 => ?_)
    obtain ⟨hr, I4⟩ := qq0
    subst hr
    exact wpAny_execs_nil ⟨σ3, H3, I4, qn⟩
  · refine wpAny_passesOwn hp (thn (T.item X rfl rfl rfl hc i pins s3 σ3 H3 X.xe I3 (stat fr3) st3 go) fun r s4 qq0 => ?_)
    obtain ⟨u, hr, h4⟩ := qq0
    subst hr
    refine wpAny_passesOwn hp (thn h4 fun _ s5 qq0 => ?_)
    obtain ⟨x, H5, I5, r5, y5, st5, fr5⟩ := qq0
    have I5' := I5.pinned (stat fr5) (T.obj _ _ st5)
    refine wpAny_passesOwn hp (thn (hg _ s5 σ3 H5 x u _ I5' r5 (step x H5 y5)) fun _ s6 qq0 => ?_)
    obtain ⟨σ6, H6, I6, q6⟩ := qq0
    refine wpAny_passesOwn hp (thn (hb _ s6 σ6 H6 _ I6 q6) fun f s7 q7 => ?_)
    have again : ∀ {σ7 : St} {H7 : Hp}, Inv X (pins ++ pinsAt fp s5.heap) σ7 H7 s7 → N σ7 H7 → ∃ m, m < n ∧ ∃ i σ' H', Inv X pins σ' H' s7 ∧ tn i s7.heap ∧ (∀ b ∈ fp, H' b = none) ∧ W i m σ' H' := fun {σ7 H7} I7 n7 => by
      obtain ⟨m', hm, w7⟩ := hN σ7 H7 n7
      refine ⟨m', hm, i + 1, σ7, H7, I7.unpinned, T.keep _ _ _ st5 fun b hb o e => (I7.pin (b, o) (List.mem_append_right _ (List.mem_append_right _ (mem_pinsAt hb e)))).1, fun b hb => ?_, w7⟩
      obtain ⟨o, e, d⟩ := T.obj _ _ st5 b hb
      exact (I7.pin (b, o) (List.mem_append_right _ (List.mem_append_right _ (mem_pinsAt hb e)))).2.1
    cases f with
    | next => obtain ⟨σ7, H7, I7, n7⟩ := q7; exact again I7 n7
    | cont => obtain ⟨σ7, H7, I7, n7⟩ := q7; exact again I7 n7
    | brk => obtain ⟨σ7, H7, I7, q7⟩ := q7; exact ⟨σ7, H7, I7.unpinned, q7⟩
    | ret v => obtain ⟨x7, σ7, H7, I7, r7, q7⟩ := q7; exact ⟨x7, σ7, H7, I7.unpinned, r7, q7⟩
end

theorem for_list {K : PySem.W.Frag} {a : Addr} {xs : List V} {g : TG} {tb : TS} {D : Ends} {σ : St} {H : Hp} (Pv : Nat → St → Hp → Prop) (h0 : Pv 0 σ H) (hl : ∀ i σ H, i ≤ xs.length → Pv i σ H → SqL K H a xs)
    (hs : ∀ i x σ H, xs[i]? = some x → Pv i σ H → g x σ H fun σ2 H2 => tb { D with nx := Pv (i + 1), ct := Pv (i + 1), bk := D.nx } σ2 H2) (hd : ∀ σ H, Pv xs.length σ H → D.nx σ H) :
    ∃ W : Nat → Nat → St → Hp → Prop, (∃ m, W 0 m σ H) ∧ ∀ i m σ H, W i m σ H →
      ((Itl K a).stop i H ∧ D.nx σ H) ∨ ((Itl K a).go i H ∧ ∃ N : St → Hp → Prop, (∀ σ' H', N σ' H' → ∃ m', m' < m ∧ W (i + 1) m' σ' H') ∧ ∀ x H', (Itl K a).yld i H x H' → g x σ H' fun σ2 H2 => tb { D with nx := N, ct := N, bk := D.nx } σ2 H2) := by
  refine ⟨fun i m σ H => m = xs.length - i ∧ i ≤ xs.length ∧ Pv i σ H, ⟨xs.length, by simp, Nat.zero_le _, h0⟩, ?_⟩
  rintro i m σ H ⟨rfl, hi, p⟩
  have q := hl i σ H hi p
  by_cases hlt : i < xs.length
  · refine .inr ⟨⟨xs, xs[i], q, by simp [hlt]⟩, Pv (i + 1), fun σ' H' p' => ⟨xs.length - (i + 1), by omega, rfl, hlt, p'⟩, fun x H' y => ?_⟩
    obtain ⟨e, y⟩ := y
    subst e
    exact hs i x σ _ (y xs q) p
  · have e : i = xs.length := by omega
    subst e
    exact .inl ⟨⟨xs, q, Nat.le_refl _⟩, hd σ H p⟩
theorem for_range {lo : Int} {n : Nat} {g : TG} {tb : TS} {D : Ends} {σ : St} {H : Hp} (Pv : Nat → St → Hp → Prop) (h0 : Pv 0 σ H)
    (hs : ∀ i σ H, i < n → Pv i σ H → g (.int (lo + i)) σ H fun σ2 H2 => tb { D with nx := Pv (i + 1), ct := Pv (i + 1), bk := D.nx } σ2 H2) (hd : ∀ σ H, Pv n σ H → D.nx σ H) :
    ∃ W : Nat → Nat → St → Hp → Prop, (∃ m, W 0 m σ H) ∧ ∀ i m σ H, W i m σ H →
      ((Itr lo n).stop i H ∧ D.nx σ H) ∨ ((Itr lo n).go i H ∧ ∃ N : St → Hp → Prop, (∀ σ' H', N σ' H' → ∃ m', m' < m ∧ W (i + 1) m' σ' H') ∧ ∀ x H', (Itr lo n).yld i H x H' → g x σ H' fun σ2 H2 => tb { D with nx := N, ct := N, bk := D.nx } σ2 H2) := by
  refine ⟨fun i m σ H => m = n - i ∧ i ≤ n ∧ Pv i σ H, ⟨n, by simp, Nat.zero_le _, h0⟩, ?_⟩
  rintro i m σ H ⟨rfl, hi, p⟩
  by_cases hlt : i < n
  · refine .inr ⟨hlt, Pv (i + 1), fun σ' H' p' => ⟨n - (i + 1), by omega, rfl, hlt, p'⟩, fun x H' y => ?_⟩
    obtain ⟨e, y⟩ := y
    subst e y
    exact hs i σ _ hlt p
  · have e : i = n := by omega
    subst e
    exact .inl ⟨Nat.le_refl _, hd σ H p⟩
end L2

namespace L2
open PySem PySem.Spec PyProof.Rows

noncomputable abbrev R2 := V → V → Hp → VK → Prop
noncomputable def OpR (X : Cx) (f : Value → Value → Sem Value) (r : R2) : Prop :=
  ∀ (pins : List (Addr × Obj)) (s : Shared) (σ : St) (H : Hp) (x y : V) (v u : Value) (Q : VK), Inv X pins σ H s → RelV x v → RelV y u → r x y H Q →
    wpAny (model X.prog X.w) X.A (f v u) (EP X pins σ Q) X.xe s
noncomputable def UnR (X : Cx) (f : Value → Sem Value) (r : V → Hp → VK → Prop) : Prop :=
  ∀ (pins : List (Addr × Obj)) (s : Shared) (σ : St) (H : Hp) (x : V) (v : Value) (Q : VK), Inv X pins σ H s → RelV x v → r x H Q →
    wpAny (model X.prog X.w) X.A (f v) (EP X pins σ Q) X.xe s
noncomputable def CallR (X : Cx) (f : Value) (r : List V → Hp → VK → Prop) : Prop :=
  ∀ (pins : List (Addr × Obj)) (s : Shared) (σ : St) (H : Hp) (xs : List V) (us : List Value) (Q : VK), Inv X pins σ H s → Vals xs us → r xs H Q →
    wpAny (model X.prog X.w) X.A (call f us) (EP X pins σ Q) X.xe s
noncomputable def tOp (r : R2) (ta tb : TE) : TE := fun σ H Q => ta σ H fun x H1 => tb σ H1 fun y H2 => r x y H2 Q
noncomputable def tUn (r : V → Hp → VK → Prop) (ta : TE) : TE := fun σ H Q => ta σ H fun x H1 => r x H1 Q
noncomputable def rI (C : Int → Int → Prop) (g : Int → Int → V) : R2 := fun x y H Q => ∃ i j, x = .int i ∧ y = .int j ∧ C i j ∧ Q (g i j) H
noncomputable def rI0 (g : Int → Int → V) : R2 := fun x y H Q => ∃ i j, x = .int i ∧ y = .int j ∧ Q (g i j) H
noncomputable def rU (g : Int → V) : V → Hp → VK → Prop := fun x H Q => ∃ i, x = .int i ∧ Q (g i) H

section
variable {X : Cx} {a b c : Expr} {ta tb tc : TE} {pos : Pos}

theorem binT (ha : PE X a ta) (hb : PE X b tb) {pins : List (Addr × Obj)} {s : Shared} {σ : St} {H : Hp} {R : V → V → Hp → Prop} (I : Inv X pins σ H s)
    (h : ta σ H fun x H1 => tb σ H1 fun y H2 => R x y H2) {Q : Value → Shared → Prop} {f : Value → Value → Sem Value}
    (hf : ∀ v u s2 x y H2, Inv X pins σ H2 s2 → RelV x v → RelV y u → R x y H2 → wpAny (model X.prog X.w) X.A (f v u) Q X.xe s2) :
    wpAny (model X.prog X.w) X.A (eval a X.env) (fun v s₁ => wpAny (model X.prog X.w) X.A (eval b X.env) (fun u s₂ => wpAny (model X.prog X.w) X.A (f v u) Q X.xe s₂) X.xe s₁) X.xe s := by
  refine thn (ha pins s σ H _ I h) fun v s1 qq0 => ?_
  obtain ⟨x, H1, I1, r1, q1⟩ := qq0
  refine thn (hb pins s1 σ H1 _ I1 q1) fun u s2 qq0 => ?_
  obtain ⟨y, H2, I2, r2, q2⟩ := qq0
  exact hf v u s2 x y H2 I2 r1 r2 q2

theorem pe_op {op : Operator} {r : R2} (ho : OpR X (binaryOp op) r) (ha : PE X a ta) (hb : PE X b tb) : PE X (.BinOp a op b pos) (tOp r ta tb) := by
  intro pins s σ H Q I h
  exact wpAny_BinOp (binT ha hb I h fun v u s2 x y H2 I2 rx ry q => ho pins s2 σ H2 x y v u Q I2 rx ry q)
theorem pe_un {op : UnaryOp} {r : V → Hp → VK → Prop} (ho : UnR X (unaryOp op) r) (ha : PE X a ta) : PE X (.UnaryOp op a pos) (tUn r ta) := by
  intro pins s σ H Q I h
  exact UnaryOp_ (thn (ha pins s σ H _ I h) fun v s1 ⟨x, H1, I1, r1, q1⟩ => ho pins s1 σ H1 x v Q I1 r1 q1)
theorem opI {f : Value → Value → Sem Value} {C : Int → Int → Prop} {g : Int → Int → Int}
    (rule : ∀ (i j : Int) (t u : Tok) (s : Shared) (Q : Value → Shared → Prop) (E : Value → Shared → Prop), C i j → Q (.int (g i j) s.toks) { s with toks := s.toks + 1 } → wpAny (model X.prog X.w) X.A (f (.int i t) (.int j u)) Q E s) :
    OpR X f (rI C fun i j => .int (g i j)) := by
  intro pins s σ H x y v u Q I rx ry h
  obtain ⟨i, j, rfl, rfl, hc, q⟩ := h
  obtain ⟨t, rfl⟩ := rx
  obtain ⟨t', rfl⟩ := ry
  exact rule i j t t' s _ _ hc ⟨.int (g i j), H, I.tok _, ⟨_, rfl⟩, q⟩
theorem opI0 {f : Value → Value → Sem Value} {g : Int → Int → Int}
    (rule : ∀ (i j : Int) (t u : Tok) (s : Shared) (Q : Value → Shared → Prop) (E : Value → Shared → Prop), Q (.int (g i j) s.toks) { s with toks := s.toks + 1 } → wpAny (model X.prog X.w) X.A (f (.int i t) (.int j u)) Q E s) :
    OpR X f (rI0 fun i j => .int (g i j)) := by
  intro pins s σ H x y v u Q I rx ry h
  obtain ⟨i, j, rfl, rfl, q⟩ := h
  obtain ⟨t, rfl⟩ := rx
  obtain ⟨t', rfl⟩ := ry
  exact rule i j t t' s _ _ ⟨.int (g i j), H, I.tok _, ⟨_, rfl⟩, q⟩
theorem opB0 {f : Value → Value → Sem Value} {g : Int → Int → Bool}
    (rule : ∀ (i j : Int) (t u : Tok) (s : Shared) (Q : Value → Shared → Prop) (E : Value → Shared → Prop), Q (.bool (g i j)) s → wpAny (model X.prog X.w) X.A (f (.int i t) (.int j u)) Q E s) :
    OpR X f (rI0 fun i j => .bl (g i j)) := by
  intro pins s σ H x y v u Q I rx ry h
  obtain ⟨i, j, rfl, rfl, q⟩ := h
  obtain ⟨t, rfl⟩ := rx
  obtain ⟨t', rfl⟩ := ry
  exact rule i j t t' s _ _ ⟨.bl (g i j), H, I, rfl, q⟩

noncomputable def CDiv (i j : Int) : Prop := 0 < j ∧ j < 1073741824
noncomputable def CPow (i j : Int) : Prop := 0 ≤ j ∧ j ≤ 1000000 ∧ i.natAbs < 2 ^ 64
noncomputable def CMul (i j : Int) : Prop := (-(2 ^ 64) < i ∧ i < 2 ^ 64) ∨ (-(2 ^ 64) < j ∧ j < 2 ^ 64)
theorem CMul.ok {i j : Int} (h : CMul i j) : IntMulOk i j := by
  rcases h with ⟨h1, h2⟩ | ⟨h1, h2⟩
  · exact .of_left (intBits_le_64 h1 h2)
  · exact .of_right (intBits_le_64 h1 h2)
theorem op_add : OpR X (binaryOp .Add) (rI0 fun i j => .int (i + j)) := opI0 fun _ _ _ _ _ _ _ q => add_int q
theorem op_sub : OpR X (binaryOp .Sub) (rI0 fun i j => .int (i - j)) := opI0 fun _ _ _ _ _ _ _ q => sub_int q
theorem op_mul : OpR X (binaryOp .Mult) (rI CMul fun i j => .int (i * j)) := opI fun _ _ _ _ _ _ _ hc q => mul_int q hc.ok
theorem op_fdiv : OpR X (binaryOp .FloorDiv) (rI CDiv fun i j => .int (i / j)) := opI fun i j _ _ _ _ _ hc q => by
  have h1 : (0 : Int) < j := hc.1
  have h2 : j < 1073741824 := hc.2
  exact floordiv_int (by omega) (by rw [Int.fdiv_eq_ediv_of_nonneg i (by omega)]; exact q) (.inl (PyProof.noPylong_small (by omega)))
theorem op_mod : OpR X (binaryOp .Mod) (rI (fun _ j => 0 < j) fun i j => .int (i % j)) := opI fun i j _ _ _ _ _ hc q => by
  have h1 : (0 : Int) < j := hc
  exact mod_int' (by omega) (by rw [Int.fmod_eq_emod_of_nonneg i (by omega)]; exact q)
theorem op_pow : OpR X (binaryOp .Pow) (rI CPow fun i j => .int (i ^ j.toNat)) := opI fun _ _ _ _ _ _ _ hc q => pow_int_small hc.1 hc.2.1 hc.2.2 q
theorem unI {f : Value → Sem Value} {g : Int → Int}
    (rule : ∀ (i : Int) (t : Tok) (s : Shared) (Q : Value → Shared → Prop) (E : Value → Shared → Prop), Q (.int (g i) s.toks) { s with toks := s.toks + 1 } → wpAny (model X.prog X.w) X.A (f (.int i t)) Q E s) :
    UnR X f (rU fun i => .int (g i)) := by
  intro pins s σ H x v Q I rx h
  obtain ⟨i, rfl, q⟩ := h
  obtain ⟨t, rfl⟩ := rx
  exact rule i t s _ _ ⟨.int (g i), H, I.tok _, ⟨_, rfl⟩, q⟩
theorem un_neg : UnR X (unaryOp .USub) (rU fun i => .int (-i)) := unI fun _ _ _ _ _ q => neg_int q
end

noncomputable def scal : V → V → Bool
  | .non, .non => true | .non, .int _ => true | .int _, .non => true | .non, .bl _ => true | .bl _, .non => true | .non, .str _ => true | .str _, .non => true
  | .int _, .int _ => true | .bl _, .bl _ => true | .str _, .str _ => true | .byt _, .byt _ => true
  | .int _, .str _ => true | .str _, .int _ => true | .bl _, .str _ => true | .str _, .bl _ => true
  | _, _ => false
noncomputable def rEq : R2 := fun x y H Q => scal x y = true ∧ Q (.bl (decide (x = y))) H
noncomputable def rNe : R2 := fun x y H Q => scal x y = true ∧ Q (.bl (!decide (x = y))) H

theorem dec_int {i j : Int} : decide (V.int i = V.int j) = (i == j) := by
  rw [Bool.eq_iff_iff]
  simp
theorem dec_bl {i j : Bool} : decide (V.bl i = V.bl j) = (i == j) := by
  rw [Bool.eq_iff_iff]
  simp
theorem dec_str {i j : Str} : decide (V.str i = V.str j) = (i == j) := by
  rw [Bool.eq_iff_iff]
  simp
theorem dec_byt {i j : Array UInt8} : decide (V.byt i = V.byt j) = (i.toList == j.toList) := by
  rw [Bool.eq_iff_iff]
  cases i
  cases j
  simp

section
variable {X : Cx} {a b c : Expr} {ta tb tc : TE} {pos : Pos}
theorem fin_bl {pins : List (Addr × Obj)} {σ : St} {H : Hp} {s : Shared} {Q : VK} {k k' : Bool} (I : Inv X pins σ H s) (q : Q (.bl k) H) (e : k = k') : EP X pins σ Q (.bool k') s := by
  subst e
  exact ⟨.bl k, H, I, rfl, q⟩
theorem op_eq : OpR X (compareOp .Eq) rEq := by
  intro pins s σ H x y v u Q I rx ry h
  obtain ⟨hs, q⟩ := h
  cases x with
  | non =>
    cases rx
    cases y with
    | non => cases ry; exact PySem.EqNone.eq_none_none (fin_bl I q (by simp))
    | bl j => cases ry; exact PySem.EqNone.eq_none_bool (fin_bl I q (by simp))
    | int j => obtain ⟨t', rfl⟩ := ry; exact PySem.EqNone.eq_none_int (fin_bl I q (by simp))
    | str j => obtain ⟨t', rfl⟩ := ry; exact PySem.EqNone.eq_none_str (fin_bl I q (by simp))
    | _ => exact absurd (show false = true from hs) Bool.false_ne_true
  | bl i =>
    cases rx
    cases y with
    | non => cases ry; exact PySem.EqNone.eq_bool_none (fin_bl I q (by simp))
    | bl j => cases ry; exact eq_bool (fin_bl I q dec_bl)
    | str j => obtain ⟨t', rfl⟩ := ry; exact PySem.EqMixed.eq_bool_str (fin_bl I q (by simp))
    | _ => exact absurd (show false = true from hs) Bool.false_ne_true
  | int i =>
    obtain ⟨t, rfl⟩ := rx
    cases y with
    | non => cases ry; exact PySem.EqNone.eq_int_none (fin_bl I q (by simp))
    | int j => obtain ⟨t', rfl⟩ := ry; exact eq_int (fin_bl I q dec_int)
    | str j => obtain ⟨t', rfl⟩ := ry; exact PySem.EqMixed.eq_int_str (fin_bl I q (by simp))
    | _ => exact absurd (show false = true from hs) Bool.false_ne_true
  | str i =>
    obtain ⟨t, rfl⟩ := rx
    cases y with
    | non => cases ry; exact PySem.EqNone.eq_str_none (fin_bl I q (by simp))
    | bl j => cases ry; exact PySem.EqMixed.eq_str_bool (fin_bl I q (by simp))
    | int j => obtain ⟨t', rfl⟩ := ry; exact PySem.EqMixed.eq_str_int (fin_bl I q (by simp))
    | str j => obtain ⟨t', rfl⟩ := ry; exact eq_str (fin_bl I q dec_str)
    | _ => exact absurd (show false = true from hs) Bool.false_ne_true
  | byt i =>
    obtain ⟨t, rfl⟩ := rx
    cases y with
    | byt j => obtain ⟨t', rfl⟩ := ry; exact PySem.W.eq_bytes (fin_bl I q dec_byt)
    | _ => exact absurd (show false = true from hs) Bool.false_ne_true
  | _ => cases y <;> exact absurd (show false = true from hs) Bool.false_ne_true
theorem op_ne : OpR X (compareOp .NotEq) rNe := by
  intro pins s σ H x y v u Q I rx ry h
  obtain ⟨hs, q⟩ := h
  cases x with
  | non =>
    cases rx
    cases y with
    | non => cases ry; exact PySem.EqNone.ne_none_none (fin_bl I q (by simp))
    | bl j => cases ry; exact PySem.EqNone.ne_none_bool (fin_bl I q (by simp))
    | int j => obtain ⟨t', rfl⟩ := ry; exact PySem.EqNone.ne_none_int (fin_bl I q (by simp))
    | str j => obtain ⟨t', rfl⟩ := ry; exact PySem.EqNone.ne_none_str (fin_bl I q (by simp))
    | _ => exact absurd (show false = true from hs) Bool.false_ne_true
  | bl i =>
    cases rx
    cases y with
    | non => cases ry; exact PySem.EqNone.ne_bool_none (fin_bl I q (by simp))
    | bl j => cases ry; exact ne_bool (fin_bl I q (congrArg not dec_bl))
    | str j => obtain ⟨t', rfl⟩ := ry; exact PySem.EqMixed.ne_bool_str (fin_bl I q (by simp))
    | _ => exact absurd (show false = true from hs) Bool.false_ne_true
  | int i =>
    obtain ⟨t, rfl⟩ := rx
    cases y with
    | non => cases ry; exact PySem.EqNone.ne_int_none (fin_bl I q (by simp))
    | int j => obtain ⟨t', rfl⟩ := ry; exact ne_int (fin_bl I q (congrArg not dec_int))
    | str j => obtain ⟨t', rfl⟩ := ry; exact PySem.EqMixed.ne_int_str (fin_bl I q (by simp))
    | _ => exact absurd (show false = true from hs) Bool.false_ne_true
  | str i =>
    obtain ⟨t, rfl⟩ := rx
    cases y with
    | non => cases ry; exact PySem.EqNone.ne_str_none (fin_bl I q (by simp))
    | bl j => cases ry; exact PySem.EqMixed.ne_str_bool (fin_bl I q (by simp))
    | int j => obtain ⟨t', rfl⟩ := ry; exact PySem.EqMixed.ne_str_int (fin_bl I q (by simp))
    | str j => obtain ⟨t', rfl⟩ := ry; exact ne_str (fin_bl I q (congrArg not dec_str))
    | _ => exact absurd (show false = true from hs) Bool.false_ne_true
  | byt i =>
    obtain ⟨t, rfl⟩ := rx
    cases y with
    | byt j => obtain ⟨t', rfl⟩ := ry; exact PySem.W.ne_bytes (fin_bl I q (congrArg not dec_byt))
    | _ => exact absurd (show false = true from hs) Bool.false_ne_true
  | _ => cases y <;> exact absurd (show false = true from hs) Bool.false_ne_true

theorem op_lt : OpR X (compareOp .Lt) (rI0 fun i j => .bl (decide (i < j))) := opB0 fun _ _ _ _ _ _ _ q => lt_int q
theorem op_le : OpR X (compareOp .LtE) (rI0 fun i j => .bl (decide (i ≤ j))) := opB0 fun _ _ _ _ _ _ _ q => le_int q
theorem op_gt : OpR X (compareOp .Gt) (rI0 fun i j => .bl (decide (j < i))) := opB0 fun _ _ _ _ _ _ _ q => gt_int q
theorem op_ge : OpR X (compareOp .GtE) (rI0 fun i j => .bl (decide (j ≤ i))) := opB0 fun _ _ _ _ _ _ _ q => ge_int q
theorem op_in_str : OpR X (compareOp .In) (fun x y H Q => ∃ i j, x = .str i ∧ y = .str j ∧ Q (.bl (!(Builtin.Str.occurrences j i 0 j.length 1).isEmpty)) H) := by
  intro pins s σ H x y v u Q I rx ry h
  obtain ⟨i, j, rfl, rfl, q⟩ := h
  obtain ⟨t, rfl⟩ := rx
  obtain ⟨t', rfl⟩ := ry
  exact in_str (fin_bl I q rfl)

theorem OpR.or {f : Value → Value → Sem Value} {r r' : R2} (h : OpR X f r) (h' : OpR X f r') : OpR X f (fun x y H Q => r x y H Q ∨ r' x y H Q) := by
  intro pins s σ H x y v u Q I rx ry q
  rcases q with q | q
  · exact h pins s σ H x y v u Q I rx ry q
  · exact h' pins s σ H x y v u Q I rx ry q

theorem nomark (b : Expr) {op : CmpOp} (h : autoParam (op ≠ .In) L2.auto2._auto_1) (h2 : autoParam (op ≠ .NotIn) L2.auto2._auto_1) : behindInMarks op b = false := by
  have e1 : (op == CmpOp.In) = false := by cases op <;> first | rfl | exact absurd rfl h
  have e2 : (op == CmpOp.NotIn) = false := by cases op <;> first | rfl | exact absurd rfl h2
  cases b <;> simp [behindInMarks, e1, e2]
theorem pe_cmpR {op : CmpOp} {r : R2} (ho : OpR X (compareOp op) r) (ha : PE X a ta) (hb : PE X b tb) (hm : behindInMarks op b = false) : PE X (.Compare a [op] [b] pos) (tOp r ta tb) := by
  intro pins s σ H Q I h
  exact wpAny_Compare1 (binT ha hb I h fun v u s2 x y H2 I2 rx ry q => ho pins s2 σ H2 x y v u Q I2 rx ry q) hm
noncomputable def tTest (t : TE) : TT := fun σ H Q => t σ H fun x H' => ∃ k, x = .bl k ∧ Q k H'
theorem pt_cmpR {op : CmpOp} {r : R2} (ho : OpR X (compareOp op) r) (ha : PE X a ta) (hb : PE X b tb) (hm : behindInMarks op b = false) : PT X (.Compare a [op] [b] pos) (tTest (tOp r ta tb)) := by
  intro pins s σ H Q I h
  refine wpAny_isTrue_Compare1 (thn (ha pins s σ H _ I h) fun v s1 ⟨x, H1, I1, r1, q1⟩ => thn (hb pins s1 σ H1 _ I1 q1) fun u s2 ⟨y, H2, I2, r2, q2⟩ =>
    thn (ho pins s2 σ H2 x y v u _ I2 r1 r2 q2) fun c s3 ⟨z, H3, I3, r3, k, e, q3⟩ => ?_) hm
  subst e
  cases r3
  exact wpAny_truthy_bool ⟨H3, I3, q3⟩
noncomputable def tChain (r r' : R2) (ta tb tc : TE) : TE := fun σ H Q => ta σ H fun x H1 => tb σ H1 fun y H2 => r x y H2 fun z H3 => ∃ k, z = .bl k ∧
  (if k = true then tc σ H3 fun w' H4 => r' y w' H4 Q else Q (.bl false) H3)
theorem pt_chain {op op' : CmpOp} {r r' : R2} (ho : OpR X (compareOp op) r) (ho' : OpR X (compareOp op') r') (ha : PE X a ta) (hb : PE X b tb) (hc : PE X c tc)
    (hm : autoParam (lastMarks [op, op'] [b, c] = false) L2.auto5._auto_1) : PT X (.Compare a [op, op'] [b, c] pos) (tTest (tChain r r' ta tb tc)) := by
  intro pins s σ H Q I h
  refine isTrue_chain (thn (ha pins s σ H _ I h) fun v s1 ⟨x, H1, I1, r1, q1⟩ => test_link (thn (hb pins s1 σ H1 _ I1 q1) fun u s2 ⟨y, H2, I2, r2, q2⟩ =>
    thn (ho pins s2 σ H2 x y v u _ I2 r1 r2 q2) fun d s3 ⟨z, H3, I3, r3, k, e, q3⟩ => ?_)) hm
  subst e
  cases r3
  refine wpAny_truthy_bool ?_
  cases k with
  | false =>
    obtain ⟨k', e', q'⟩ := q3
    cases e'
    exact ite_ff ⟨H3, I3, q'⟩
  | true =>
    refine ite_tt (test_last (thn (hc pins s3 σ H3 _ I3 q3) fun w' s4 ⟨z', H4, I4, r4, q4⟩ => thn (ho' pins s4 σ H4 y z' u w' _ I4 r2 r4 q4) fun d' s5 qq0 => ?_))
    obtain ⟨z2, H5, I5, r5, k2, e2, q5⟩ := qq0
    subst e2
    cases r5
    exact wpAny_truthy_bool ⟨H5, I5, q5⟩

theorem line63 : (sizeLine : Nat) < 2 ^ 63 := by rw [sizeLine_eq]; decide
theorem op_add_str : OpR X (binaryOp .Add) (fun x y H Q => ∃ i j, x = .str i ∧ y = .str j ∧ i.length + j.length ≤ sizeLine ∧ Q (.str (i ++ j)) H) := by
  intro pins s σ H x y v u Q I rx ry h
  obtain ⟨i, j, rfl, rfl, hz, q⟩ := h
  obtain ⟨t, rfl⟩ := rx
  obtain ⟨t', rfl⟩ := ry
  exact add_str (fun t' tk => ⟨.str (i ++ j), H, I.tok _, ⟨_, rfl⟩, q⟩) hz
theorem vals1 {x : V} {us : List Value} (r : Vals [x] us) : ∃ u, us = [u] ∧ RelV x u := by
  cases r with
  | cons r1 r2 => cases r2; exact ⟨_, rfl, r1⟩
theorem vals2 {x y : V} {us : List Value} (r : Vals [x, y] us) : ∃ u w', us = [u, w'] ∧ RelV x u ∧ RelV y w' := by
  cases r with
  | cons r1 r2 =>
    cases r2 with
    | cons r3 r4 => cases r4; exact ⟨_, _, rfl, r1, r3⟩
theorem call_ord : CallR X (.builtin "ord") (fun xs H Q => ∃ x, xs = [.str x] ∧ x.length = 1 ∧ Q (.int (x.cps.getD 0 0 : Nat)) H) := by
  intro pins s σ H xs us Q I r h
  obtain ⟨x, rfl, hz, q⟩ := h
  obtain ⟨u, rfl, t, rfl⟩ := vals1 r
  exact ord_of_one hz ⟨.int _, H, I.tok _, ⟨_, rfl⟩, q⟩
noncomputable def LenV (K : PySem.W.Frag) (x : V) (H : Hp) (n : Nat) : Prop :=
  match x with
  | .str y => y.length ≤ sizeLine ∧ n = y.length
  | .byt y => y.size ≤ sizeLine ∧ n = y.size
  | .ref p => (∃ xs, SqL K H p xs ∧ n = xs.length) ∨ ∃ xs, SqT K H p xs ∧ n = xs.length
  | _ => False
theorem call_len : CallR X (.builtin "len") (fun xs H Q => ∃ x n, xs = [x] ∧ LenV X.K x H n ∧ Q (.int n) H) := by
  intro pins s σ H xs us Q I r h
  obtain ⟨x, n, rfl, e, q⟩ := h
  obtain ⟨u, rfl, rx⟩ := vals1 r
  have hl := line63
  have hs : sizeLine = 16777216 := sizeLine_eq
  cases x with
  | str y =>
    obtain ⟨t, rfl⟩ := rx
    obtain ⟨hy, e'⟩ : y.length ≤ sizeLine ∧ n = y.length := e
    subst e'
    exact len_str (by omega) ⟨.int _, H, I.tok _, ⟨_, rfl⟩, q⟩
  | byt y =>
    obtain ⟨t, rfl⟩ := rx
    obtain ⟨hy, e'⟩ : y.size ≤ sizeLine ∧ n = y.size := e
    subst e'
    exact PySem.W.len_bytes (by omega) ⟨.int _, H, I.tok _, ⟨_, rfl⟩, q⟩
  | ref p =>
    cases rx
    have e' : (∃ xs, SqL X.K H p xs ∧ n = xs.length) ∨ ∃ xs, SqT X.K H p xs ∧ n = xs.length := e
    rcases e' with ⟨xs, hx, e'⟩ | ⟨xs, hx, e'⟩
    · subst e'
      obtain ⟨its, r', pl, hz⟩ := I.list hx
      have hlen := r'.length
      exact Calls.call_len_list pl.isList (by simp only [List.size_toArray]; omega) ⟨.int xs.length, H, I.tok _, ⟨_, by simp only [List.size_toArray]; rw [hlen]⟩, q⟩
    · subst e'
      obtain ⟨its, r', pl, hz⟩ := I.tuple hx
      have hlen := r'.length
      exact len_tuple pl (by simp only [List.size_toArray]; omega) ⟨.int xs.length, H, I.tok _, ⟨_, by simp only [List.size_toArray]; rw [hlen]⟩, q⟩
  | _ => exact (show False from e).elim
end
end L2

namespace L2
open PySem PySem.Spec PyProof.Rows

structure ObjM (h : Heap) (x dx C : Addr) (mA : Str → Option Value) : Prop where
  obj : h.get? x = some (PySem.W.instObj C dx)
  ns : h.Ns1 dx mA
  ne : dx ≠ x

theorem lookIn_ns {h : Heap} {dx : Addr} {mA : Str → Option Value} (n : h.Ns1 dx mA) : ∃ od, h.get? dx = some od ∧ ∀ name, PySem.W.lookIn name od = some (mA name) := by
  obtain ⟨o, es, ep, ho, hd, hk, _, hm⟩ := n
  refine ⟨o, ho, fun name => ?_⟩
  have e := hm name
  unfold nsFind findBy at e
  rw [← Array.find?_toList] at e
  unfold PySem.W.lookIn
  rw [hd]
  dsimp only
  split
  · rename_i y q
    rw [q] at e
    exact congrArg some e
  · rename_i q
    rw [q] at e
    have a : es.toList.any (·.refKey) = false := by
      rw [List.any_eq_false]
      intro y hy
      obtain ⟨z, t, hkey⟩ := hk y (Array.mem_toList_iff.mp hy)
      simp [DictEntry.refKey, hkey]
    have a' : ¬ es.toList.any (·.refKey) = true := by rw [a]; exact Bool.false_ne_true
    rw [if_neg a']
    exact congrArg some e

theorem ObjM.look {h : Heap} {x dx C : Addr} {mA : Str → Option Value} (I : ObjM h x dx C mA) : ∃ od, PySem.W.InstAt h x (PySem.W.instObj C dx) C (some od) ∧ ∀ name, PySem.W.lookIn name od = some (mA name) :=
  let ⟨od, ho, hl⟩ := lookIn_ns I.ns
  ⟨od, ⟨I.obj, rfl, rfl, ho⟩, hl⟩

section
variable {prog : Program} {w : World} {A : Around} {E : Value → Shared → Prop} {s : Shared} {K : PySem.W.Frag} {x dx C f : Addr} {mA : Str → Option Value} {name : Str} {v : Value}

end

noncomputable def putF (f : Str) (v : V) : List (Str × V) → List (Str × V)
  | [] => [(f, v)]
  | (g, x) :: r => if g = f then (g, v) :: r else (g, x) :: putF f v r
theorem lookup_putF (f g : Str) (v : V) : ∀ fs : List (Str × V), (putF f v fs).lookup g = if g = f then some v else fs.lookup g
  | [] => by
    show List.lookup g [(f, v)] = _
    by_cases h : g = f
    · have hb : (g == f) = true := beq_iff_eq.mpr h
      simp only [List.lookup, hb, if_pos h]
    · have hb : (g == f) = false := beq_eq_false_iff_ne.mpr h
      simp only [List.lookup, hb, if_neg h]
  | (k, x) :: r => by
    have ih := lookup_putF f g v r
    rw [show putF f v ((k, x) :: r) = (if k = f then (k, v) :: r else (k, x) :: putF f v r) from rfl]
    by_cases hk : k = f
    · rw [if_pos hk]
      by_cases h : g = k
      · have hb : (g == k) = true := beq_iff_eq.mpr h
        simp only [List.lookup, hb, if_pos (h.trans hk)]
      · have hb : (g == k) = false := beq_eq_false_iff_ne.mpr h
        simp only [List.lookup, hb, if_neg (fun e : g = f => h (e.trans hk.symm))]
    · rw [if_neg hk]
      by_cases h : g = k
      · have hb : (g == k) = true := beq_iff_eq.mpr h
        simp only [List.lookup, hb, if_neg (fun e : g = f => hk (h.symm.trans e))]
      · have hb : (g == k) = false := beq_eq_false_iff_ne.mpr h
        simp only [List.lookup, hb]
        exact ih
theorem RelO.some_of {v : V} {o : Option Value} (r : RelO (some v) o) : ∃ u, o = some u ∧ RelV v u := by
  cases o with
  | none => exact (show False from r).elim
  | some u => exact ⟨u, rfl, r⟩
theorem RelO.none_of {o : Option Value} (r : RelO none o) : o = none := by
  cases o with
  | none => rfl
  | some u => exact (show False from r).elim
theorem handed_of {v : V} {u : Value} (r : RelV v u) : PySem.W.handedIn u = true := by
  cases v with
  | non => cases (show u = Value.none from r); rfl
  | bl b => cases (show u = Value.bool b from r); rfl
  | int i => obtain ⟨t, e⟩ := (show ∃ t, u = Value.int i t from r); cases e; rfl
  | str x => obtain ⟨t, e⟩ := (show ∃ t, u = Value.str x t from r); cases e; rfl
  | byt b => obtain ⟨t, e⟩ := (show ∃ t, u = Value.bytes b t from r); cases e; rfl
  | flt b => obtain ⟨t, e⟩ := (show ∃ t, u = Value.float b t from r); cases e; rfl
  | ref a => cases (show u = Value.ref a from r); rfl
  | ty n => cases (show u = Value.type n from r); rfl

section
variable {P : Program} {w : World} {H H' : Hp} {h h' : Heap} {a C dx : Addr} {fs fs' : List (Str × V)}
theorem ins_get (hok : HOk P w H h) (e : H a = some (.ins C dx fs)) : ∃ mA, ObjM h a dx C mA ∧ (∀ f, RelO (fs.lookup f) (mA f)) ∧ PySem.Within mA (fs.map (·.1)) ∧ fs.length ≤ 1000 ∧ H dx = some (.own a) := by
  obtain ⟨d, z, ne, ob, mA, n, r, q⟩ := (show ObjOk P w H h a (.ins C dx fs) from hok a _ e)
  exact ⟨mA, ⟨ob, n, ne⟩, r, q, z, d⟩
end

structure Cls (K : PySem.W.Frag) (C : Addr) : Prop where
  pg : PySem.W.plainGet K C Str.empty = true
  hd : PySem.W.hasDictIn K C = true
  po : PySem.W.plainOver K C = true
  sa : PySem.W.findIn K (.ref C) "__setattr__" = some (some (.builtin "object.__setattr__"))
theorem Cls.get {K : PySem.W.Frag} {C : Addr} (c : Cls K C) (f : Str) : PySem.W.plainGet K C f = true := c.pg
noncomputable def NoAttr (K : PySem.W.Frag) (C : Addr) (f : Str) : Prop := PySem.W.findIn K (.ref C) f = some none
structure Con (K : PySem.W.Frag) (C : Addr) (f : Str) (v : V) (u : Value) : Prop where
  at_ : PySem.W.findIn K (.ref C) f = some (some u)
  rel : RelV v u
  get : PySem.W.specialIn K u "__get__" = some none
  cp : PySem.W.copiedNames.contains f = false
structure Meth (K : PySem.W.Frag) (C : Addr) (m : Str) (f : Addr) : Prop where
  at_ : PySem.W.findIn K (.ref C) m = some (some (.ref f))
  fn : PySem.W.isFn K (.ref f) = true
  kp : PySem.W.keepIn K (.ref f) = true

section
variable {X : Cx} {pins : List (Addr × Obj)} {σ : St} {H : Hp} {s : Shared} {a C dx : Addr} {fs : List (Str × V)} {f : Str} {v : V} {A : Around} {E : Value → Shared → Prop}

theorem attr_of {prog : Program} {w : World} {env : Env} {e : Expr} {f : Str} {pos : Pos} {s : Shared} {Q : Value → Shared → Prop} (hb : attributeBase e f env (eval e env) = eval e env)
    (h : wpAny (model prog w) A (eval e env) (fun o s₁ => wpAny (model prog w) A (getAttr o f true) Q E s₁) E s) : wpAny (model prog w) A (eval (.Attribute e f pos) env) Q E s :=
  Attribute_any_ h (by rw [arm_eval_Attribute, hb])
end

section
variable {X : Cx} {o e value : Expr} {f : Str} {pos pos' tpos : Pos} {ta tv : TE}
end

section
variable {X : Cx} {pins : List (Addr × Obj)} {σ : St} {H : Hp} {s : Shared} {A : Around} {E : Value → Shared → Prop} {Q : Value → Shared → Prop} {c : Value} {b : Bool}
inductive TyOf (K : PySem.W.Frag) (H : Hp) : V → Value → Prop where
  | non : TyOf K H .non (.type "NoneType")
  | bl (x : Bool) : TyOf K H (.bl x) (.type "bool")
  | int (i : Int) : TyOf K H (.int i) (.type "int")
  | str (x : Str) : TyOf K H (.str x) (.type "str")
  | flt (x : UInt64) : TyOf K H (.flt x) (.type "float")
  | lst {a : Addr} {xs : List V} (e : H a = some (.lst xs)) : TyOf K H (.ref a) (.type "list")
  | frz {a : Addr} {o : Obj} {xs : List V} (e : H a = some (.frz o (.lst xs))) : TyOf K H (.ref a) (.type "list")
  | tup {a : Addr} {xs : List V} (e : H a = some (.tup xs)) : TyOf K H (.ref a) (.type "tuple")
  | dK {a : Addr} {kvs : List (Key × V)} (e : H a = some (.dK kvs)) : TyOf K H (.ref a) (.type "dict")
  | dT {a : Addr} {kvs : List (List Key × V)} (e : H a = some (.dT kvs)) : TyOf K H (.ref a) (.type "dict")
  | ins {a C dx : Addr} {fs : List (Str × V)} (e : H a = some (.ins C dx fs)) (cl : Cls K C) (ha : PySem.W.findIn K (.ref C) "__class__" = some (some (.builtin "object.__class__")))
      (hn : PySem.W.specialIn K (.builtin "object.__class__") "__get__" = some (some (.builtin "getset_descriptor.__get__"))) (htk : PySem.W.takesIn K (.builtin "object.__class__") = some true)
      (hm : PySem.W.mroIn K C (.type "object") = some true) : TyOf K H (.ref a) (.ref C)
theorem isinst_ok {x : V} {u t : Value} (I : Inv X pins σ H s) (rx : RelV x u) (ty : TyOf X.K H x t) (e : PySem.W.kitOne X.K t c = some b) (h : ∀ tk, Q (.bool b) { s with toks := tk }) :
    wpAny (model X.prog X.w) A (call (.builtin "isinstance") [u, c]) Q E s := by
  cases ty with
  | non => cases (show u = Value.none from rx); exact PySem.W.kia_one PySem.W.kitx_none I.kIn True.intro e (fun z => nomatch z) h
  | bl y => cases (show u = Value.bool y from rx); exact PySem.W.kia_one PySem.W.kitx_bool I.kIn True.intro e (fun z => nomatch z) h
  | int i => obtain ⟨t, q⟩ := (show ∃ t, u = Value.int i t from rx); cases q; exact PySem.W.kia_one PySem.W.kitx_int I.kIn True.intro e (fun z => nomatch z) h
  | str y => obtain ⟨t, q⟩ := (show ∃ t, u = Value.str y t from rx); cases q; exact PySem.W.kia_one PySem.W.kitx_str I.kIn True.intro e (fun z => nomatch z) h
  | flt y => obtain ⟨t, q⟩ := (show ∃ t, u = Value.float y t from rx); cases q; exact PySem.W.kia_one PySem.W.kitx_float I.kIn True.intro e (fun z => nomatch z) h
  | @lst a xs ea =>
    cases (show u = Value.ref a from rx)
    obtain ⟨_, _, n, _, h1⟩ := (show ObjOk X.prog X.w H s.heap a (.lst xs) from I.hok a _ ea)
    exact PySem.W.kia_one PySem.W.kitx_list I.kIn ⟨_, h1, rfl⟩ e (fun z => nomatch z) h
  | @frz a ob xs ea =>
    cases (show u = Value.ref a from rx)
    obtain ⟨_, _, _, n, _, h1⟩ := (show ObjOk X.prog X.w H s.heap a (.frz ob (.lst xs)) from I.hok a _ ea)
    exact PySem.W.kia_one PySem.W.kitx_list I.kIn ⟨_, h1, rfl⟩ e (fun z => nomatch z) h
  | @tup a xs ea =>
    cases (show u = Value.ref a from rx)
    obtain ⟨_, _, _, p⟩ := (show ObjOk X.prog X.w H s.heap a (.tup xs) from I.hok a _ ea)
    obtain ⟨o, h1, h2, _⟩ := p
    exact PySem.W.kia_one PySem.W.kitx_tuple I.kIn ⟨o, h1, h2⟩ e (fun z => nomatch z) h
  | @dK a kvs ea =>
    cases (show u = Value.ref a from rx)
    obtain ⟨_, _, vs, _, p⟩ := (show ObjOk X.prog X.w H s.heap a (.dK kvs) from I.hok a _ ea)
    obtain ⟨o, es, ep, h1, h2, _⟩ := p
    exact PySem.W.kia_one PySem.W.kitx_dict I.kIn ⟨o, h1, h2.1⟩ e (fun z => nomatch z) h
  | @dT a kvs ea =>
    cases (show u = Value.ref a from rx)
    obtain ⟨_, _, xs, _, o, es, ep, h1, h2, _⟩ := (show ObjOk X.prog X.w H s.heap a (.dT kvs) from I.hok a _ ea)
    exact PySem.W.kia_one PySem.W.kitx_dict I.kIn ⟨o, h1, h2.1⟩ e (fun z => nomatch z) h
  | @ins a C dx fs ea cl ha hn htk hm =>
    cases (show u = Value.ref a from rx)
    obtain ⟨mA, O, _⟩ := ins_get I.hok ea
    obtain ⟨od, J, _⟩ := O.look
    exact PySem.W.kia_one (PySem.W.kitx_own (cl.get _) cl.hd ha hn htk hm) I.kIn J e (fun z => nomatch z) h
end
end L2

namespace L2
open PySem PySem.Spec PyProof.Rows

structure Room (k : Nat) (A : Around) : Prop where
  hd : A.handled = none
  dp : A.depth + 3 * k + 5 < recursionLimit
  un : A.units + 16 * k + 200 < cLine
  gd : A.guards = some []
theorem Room.mono {j k : Nat} {A : Around} (r : Room k A) (h : j ≤ k) : Room j A := ⟨r.hd, by have := r.dp; omega, by have := r.un; omega, r.gd⟩
theorem Room.deeper {k : Nat} {A : Around} (r : Room (k + 1) A) (env : Env) : Room k (A.deeper env) :=
  ⟨r.hd, by have := r.dp; show A.depth + 1 + 3 * k + 5 < _; omega, by have := r.un; show A.units + 3 + 16 * k + 200 < _; omega, r.gd⟩
theorem make_depth {A : Around} {C : Addr} {us : List Value} {kw : List (Str × Value)} : (A.under (.builtin "type.__call__" ⟨.ref C :: us, kw⟩)).depth = A.depth + 1 := by
  first | rfl | simp [Around.under, Code.weight, Code.isCreation, Code.isGuard, Code.isCaller, Code.frames, Code.isFrame, guardIds]
theorem make_units {A : Around} {C : Addr} {us : List Value} {kw : List (Str × Value)} : (A.under (.builtin "type.__call__" ⟨.ref C :: us, kw⟩)).units = A.units + 1 := by
  first | rfl | simp [Around.under, Code.cUnits, Code.frames, Code.isFrame]
theorem make_guards {A : Around} {C : Addr} {us : List Value} {kw : List (Str × Value)} : (A.under (.builtin "type.__call__" ⟨.ref C :: us, kw⟩)).guards = pushGuards [] A.guards := by
  first | rfl | simp [Around.under, Code.guards, Code.isGuard, guardIds]
theorem Room.make {k : Nat} {A : Around} (r : Room (k + 1) A) (C : Addr) (us : List Value) (kw : List (Str × Value)) : Room k (A.under (.builtin "type.__call__" ⟨.ref C :: us, kw⟩)) :=
  ⟨r.hd, by have := r.dp; rw [make_depth]; omega, by have := r.un; rw [make_units]; omega, (make_guards.trans (by rw [r.gd]; rfl))⟩
theorem Room.depth {k : Nat} {A : Around} (r : Room k A) : A.depth < recursionLimit := by have := r.dp; omega
theorem Room.units {k : Nat} {A : Around} (r : Room k A) : A.units + 64 < cLine := by have := r.un; omega
theorem Room.units0 {k : Nat} {A : Around} (r : Room k A) : A.units < cLine := by have := r.un; omega

noncomputable def tNil : TA := fun _ H Q => Q [] H
noncomputable def tCons (ta : TE) (tr : TA) : TA := fun σ H Q => ta σ H fun x H1 => tr σ H1 fun xs H2 => Q (x :: xs) H2
section
variable {X : Cx} {e : Expr} {es : List Expr} {te : TE} {t : TA} {pos : Pos}
theorem pa_nil : PA X [] tNil := fun _ _ _ _ H Q I h => Calls.spliced_nil ⟨[], H, I, .nil, h⟩
theorem pa_cons (ha : PE X e te) (hr : PA X es t) (hs : autoParam (starEach (e :: es) X.env = (false, eval e X.env) :: starEach es X.env) L2.auto4._auto_1) : PA X (e :: es) (tCons te t) := by
  intro pos pins s σ H Q I h
  rw [hs]
  show wpAny _ _ (spliced ((false, eval e X.env) :: backTo pos (starEach es X.env))) _ _ s
  refine Calls.spliced_cons (thn (ha pins s σ H _ I h) fun u s1 qq0 => ?_)
  obtain ⟨x, H1, I1, r1, q1⟩ := qq0
  exact thn (hr pos pins s1 σ H1 _ I1 q1) fun us s2 ⟨xs, H2, I2, r2, q2⟩ => ⟨x :: xs, H2, I2, .cons r1 r2, q2⟩

noncomputable def tTup (t : TA) : TE := fun σ H Q => t σ H fun xs H1 => xs.length ≤ sizeLine ∧ ∀ p, H1 p = none → Q (.ref p) (upd H1 p (.tup xs))
noncomputable def tLst (t : TA) : TE := fun σ H Q => t σ H fun xs H1 => xs.length ≤ sizeLine ∧ ∀ p, H1 p = none → Q (.ref p) (upd H1 p (.lst xs))
theorem pe_tup {x1} (h : PA X es t) : PE X (.Tuple es x1 pos) (tTup t) := by
  intro pins s σ H Q I hq
  refine wpAny_Tuple_spliced (thn (h pos pins s σ H _ I hq) fun us s1 ⟨xs, H1, I1, r, z, q⟩ => ⟨by rw [← r.length]; exact z, ?_⟩)
  have hf : H1 s1.heap.objs.size = none := I1.hok.fresh (Nat.le_refl _)
  refine ⟨.ref s1.heap.objs.size, upd H1 s1.heap.objs.size (.tup xs), I1.laid (t' := s1.toks) (fun b u e => Heap.get?_push_of_some _ e) (Nat.le_refl _) ?_, rfl, q _ hf⟩
  exact ⟨z, us, r, ⟨_, Heap.get?_push_size _ rfl, rfl, _, rfl⟩⟩
theorem pe_lst (h : PA X es t) : PE X (.List es pos) (tLst t) := by
  intro pins s σ H Q I hq
  refine wpAny_List_spliced (thn (h pos pins s σ H _ I hq) fun us s1 ⟨xs, H1, I1, r, z, q⟩ => ⟨by rw [← r.length]; exact z, ?_⟩)
  have hf : H1 s1.heap.objs.size = none := I1.hok.fresh (Nat.le_refl _)
  refine ⟨.ref s1.heap.objs.size, upd H1 s1.heap.objs.size (.lst xs), I1.laid (t' := s1.toks) (fun b u e => Heap.get?_push_of_some _ e) (Nat.le_refl _) ?_, rfl, q _ hf⟩
  exact ⟨z, us, 0, r, Heap.get?_push_size _ rfl⟩
end

noncomputable abbrev Sp := List V → Hp → VK → XK → Prop
noncomputable abbrev CXT := List Env → Hp → Shared → XK → Value → Shared → Prop

structure Env0 (P : Program) (w : World) (K : PySem.W.Frag) (mg : Str → Option Value) (base : Heap) (A : Around) (outer : List Env) (s : Shared) (H : Hp) : Prop where
  frames : A.frames = some outer
  mod : Mod K mg base
  bs : ∀ b o, base.get? b = some o → s.heap.get? b = some o ∧ H b = none
  bsz : base.objs.size ≤ s.heap.objs.size
  funs : s.heap.FunFrames base outer
  frf : ∀ b ∈ frs outer, H b = none
  hok : HOk P w H s.heap
  bare : AllBare s.gens
noncomputable def CE (outer : List Env) (P : Program) (w : World) (H : Hp) (s : Shared) (Q : VK) (u : Value) (s' : Shared) : Prop :=
  ∃ v H', s'.os = s.os ∧ AllBare s'.gens ∧ Un (frs outer) [] H H' s.heap s'.heap ∧ HOk P w H' s'.heap ∧ RelV v u ∧ Q v H'
noncomputable def CR (CX : CXT) (outer : List Env) (P : Program) (w : World) (H : Hp) (s : Shared) (Q : VK) (E : XK) (r : Result) (s' : Shared) : Prop :=
  match r with
  | .ok (.ret u) => CE outer P w H s Q u s'
  | .ok _ => False
  | .error e => CX outer H s E e s'
structure FnOk (P : Program) (w : World) (K : PySem.W.Frag) (mg : Str → Option Value) (base : Heap) (CX : CXT) (k : Nat) (f : Addr) (fd : FuncData) (ps : List Str) (sp : Sp) : Prop where
  len : ∀ vs H Q E, sp vs H Q E → vs.length = ps.length
  run : ∀ (A : Around) (outer : List Env) (s : Shared) (H : Hp) (args : Args) (us : List Value) (vs : List V) (Q : VK) (E : XK), Room k A → Env0 P w K mg base A outer s H → BindsTo s fd args (ps.zip us) → Vals vs us → sp vs H Q E →
    codeAny (model P w) A (.call (.ref f) args) (CR CX outer P w H s Q E) s
theorem Env0.make {P : Program} {w : World} {K : PySem.W.Frag} {mg : Str → Option Value} {base : Heap} {A : Around} {outer : List Env} {s : Shared} {H : Hp} (e : Env0 P w K mg base A outer s H) (C : Addr) (us : List Value) (kw : List (Str × Value)) :
    Env0 P w K mg base (A.under (.builtin "type.__call__" ⟨.ref C :: us, kw⟩)) outer s H := ⟨by first | exact e.frames | (simpa [Around.under, Code.envs, Code.isFrame, pushEnvs] using e.frames), e.mod, e.bs, e.bsz, e.funs, e.frf, e.hok, e.bare⟩
section
variable {X : Cx} {pins : List (Addr × Obj)} {σ : St} {H : Hp} {s s' : Shared}
theorem Inv.env0 (I : Inv X pins σ H s) : Env0 X.prog X.w X.K X.mg X.base X.A X.stack s H :=
  ⟨I.ok.frames, I.ok.mod, I.bs, Nat.le_trans I.ok.bsz I.sz, I.stack, I.stkFree, I.hok, I.bare⟩
theorem Inv.after {Q : VK} {u : Value} (I : Inv X pins σ H s) (h : CE X.stack X.prog X.w H s Q u s') : EP X pins σ Q u s' := by
  obtain ⟨v, H', os, bare, un, hok, r, q⟩ := h
  obtain ⟨hh, g, d, t, os'⟩ := s'
  obtain rfl : os' = s.os := os
  exact ⟨v, H', I.call (h' := hh) (g' := g) (d' := d) (t' := t) (ch := []) un hok bare (fun b z => absurd z (by simp)), r, q⟩
end

noncomputable def tCall (sp : Sp) (dvs : List V) (E : XK) (t : TA) : TE := fun σ H Q => t σ H fun vs H1 => sp (vs ++ dvs) H1 Q E
noncomputable def Binds (K : PySem.W.Frag) (fd : FuncData) (ps : List Str) (ds : List Value) : Prop :=
  ∀ (s : Shared) (us : List Value), K.In s.heap → (us ++ ds).length = ps.length → BindsTo s fd ⟨us, []⟩ (ps.zip (us ++ ds))
theorem Binds.all {K : PySem.W.Frag} {fd : FuncData} {ps : List Str} (h : ∀ us : List Value, us.length = ps.length → bindArgs fd ⟨us, []⟩ = pure (ps.zip us)) : Binds K fd ps [] := fun s us _ hl => by
  rw [List.append_nil] at hl ⊢
  exact .of_eq (h us hl)

noncomputable def Passes (CX : CXT) (X : Cx) (E : XK) : Prop := ∀ (pins : List (Addr × Obj)) (σ : St) (H : Hp) (s : Shared) (e : Value) (s' : Shared), Inv X pins σ H s → CX X.stack H s E e s' → X.xe e s'

section
variable {X : Cx} {CX : CXT} {k : Nat} {f C : Addr} {fd : FuncData} {ps : List Str} {sp : Sp} {dvs : List V} {ds : List Value} {E : XK} {x m : Str} {p pos apos : Pos} {e o : Expr} {es : List Expr} {ta : TE} {t : TA}

theorem run_fn {pins : List (Addr × Obj)} {σ : St} {H : Hp} {s : Shared} {Q : VK} {us : List Value} {vs : List V} (F : FnOk X.prog X.w X.K X.mg X.base CX k f fd ps sp) (hr : Room k X.A) (hb : Binds X.K fd ps ds) (hd : Vals dvs ds) (hx : Passes CX X E)
    (I : Inv X pins σ H s) (r : Vals vs us) (h : sp (vs ++ dvs) H Q E) : wpAny (model X.prog X.w) X.A (call (.ref f) us) (EP X pins σ Q) X.xe s := by
  have r2 : Vals (vs ++ dvs) (us ++ ds) := r.append hd
  have hl : (us ++ ds).length = ps.length := by rw [← r2.length]; exact F.len _ _ _ _ h
  refine wpAny_call (codeAny_mono (F.run X.A X.stack s H ⟨us, []⟩ (us ++ ds) (vs ++ dvs) Q E hr I.env0 (hb s us I.kIn hl) r2 h) fun r s' hq => ?_)
  cases r with
  | error e => exact hx pins σ H s e s' I hq
  | ok fl =>
    cases fl with
    | ret u => exact I.after hq
    | next => exact False.elim hq
    | brk => exact False.elim hq
    | cont => exact False.elim hq

theorem pe_call (F : FnOk X.prog X.w X.K X.mg X.base CX k f fd ps sp) (hr : Room k X.A) (hg : Gl X x) (hm : X.mg x = some (.ref f)) (hk : PySem.W.keepIn X.K (.ref f) = true) (hb : Binds X.K fd ps ds) (hd : Vals dvs ds) (hx : Passes CX X E)
    (ha : PA X (e :: es) t) (hdb : autoParam ((x == ("__debug__" : Str)) = false) L2.auto2._auto_1) (he : autoParam (starEach (e :: es) X.env = (false, eval e X.env) :: starEach es X.env) L2.auto4._auto_1) (hpl : autoParam ((backTo pos (starEach es X.env)).any (·.1) = false) L2.auto4._auto_1) :
    PE X (.Call (.Name x p) (e :: es) [] pos) (tCall sp dvs E t) := by
  intro pins s σ H Q I h
  refine wpAny_Call_Name_kw (ld_glob I hg hm ?_ hdb)
  refine PySem.W.callWith_K (h₀ := X.base) I.ok.mod.kin hk (thn (ha pos pins s σ H _ I h) fun us s1 ⟨vs, H1, I1, r, q⟩ => ⟨I1.kIn, ?_⟩) he hpl
  exact run_fn F hr hb hd hx I1 r q
structure Mk (K : PySem.W.Frag) (C f : Addr) : Prop where
  makes : PySem.W.makesIn K C = true
  init : PySem.W.findIn K (.ref C) "__init__" = some (some (.ref f))
  fn : PySem.W.isFn K (.ref f) = true
  kp : PySem.W.keepIn K (.ref C) = true

end

section
variable {X : Cx} {CX : CXT} {k : Nat} {f C : Addr} {fd : FuncData} {ps ks : List Str} {sp : Sp} {E : XK} {x m : Str} {p pos apos kpos : Pos} {e o : Expr} {es : List Expr} {kws : List Keyword} {te ta : TE} {t tk : TA} {nm : Option Str}
structure KBinds (K : PySem.W.Frag) (fd : FuncData) (ps ks : List Str) (g : List Value → List Value → List Value) (gV : List V → List V → List V) : Prop where
  to : ∀ (s : Shared) (us ws : List Value), K.In s.heap → (g us ws).length = ps.length → BindsTo s fd ⟨us, ks.zip ws⟩ (ps.zip (g us ws))
  rel : ∀ {vs : List V} {us : List Value} {zs : List V} {ws : List Value}, Vals vs us → Vals zs ws → Vals (gV vs zs) (g us ws)
variable {g : List Value → List Value → List Value} {gV : List V → List V → List V}
end

structure FnScope (N P : List Str) (sc : Scope) : Prop where
  kind : sc.kind = .function
  co : sc.isCoroutine = false
  gen : sc.isGenerator = false
  nd : N.Nodup
  pre : N.take P.length = P
  par : ∀ x ∈ P, sc.names.lookup x = some .local ∨ sc.names.lookup x = some .cell
  nofree : ∀ y ∈ sc.names, y.2 ≠ .free

theorem bindL_out {kindOf : Str → Option NameKind} {x : Str} : ∀ {binds : List (Str × Value)} {m : Str → Option Value}, (∀ v, (x, v) ∉ binds) → bindL kindOf binds m x = m x
  | [], _, _ => rfl
  | (n, v) :: r, m, h => by
    unfold bindL
    rw [bindL_out fun w hw => h w (List.mem_cons_of_mem _ hw)]
    split
    · have : x ≠ n := by rintro rfl; exact h v List.mem_cons_self
      simp [this]
    · rfl
theorem bindC_out {kindOf : Str → Option NameKind} {x : Str} : ∀ {binds : List (Str × Value)} {m : Str → Option Value}, (∀ v, (x, v) ∉ binds) → bindC kindOf binds m x = m x
  | [], _, _ => rfl
  | (n, v) :: r, m, h => by
    unfold bindC
    rw [bindC_out fun w hw => h w (List.mem_cons_of_mem _ hw)]
    split
    · rfl
    · have : x ≠ n := by rintro rfl; exact h v List.mem_cons_self
      simp [this]
theorem bindL_get {kindOf : Str → Option NameKind} {x : Str} {v : Value} : ∀ {P : List Str} {vs : List Value} {i : Nat} {m : Str → Option Value}, P.Nodup → P[i]? = some x → vs[i]? = some v → kindOf x = some .local →
    bindL kindOf (P.zip vs) m x = some v
  | [], _, _, _, _, h, _, _ => by simp at h
  | _ :: _, [], _, _, _, _, h, _ => by simp at h
  | p :: P, w :: vs, 0, m, nd, h1, h2, hk => by
    simp at h1 h2; subst h1; subst h2
    show bindL kindOf ((p, w) :: P.zip vs) m p = _
    unfold bindL
    rw [bindL_out fun v hv => (List.nodup_cons.mp nd).1 (List.of_mem_zip hv).1, if_pos hk]
    simp
  | p :: P, w :: vs, i + 1, m, nd, h1, h2, hk => by
    show bindL kindOf ((p, w) :: P.zip vs) m x = _
    unfold bindL
    exact bindL_get (i := i) (List.nodup_cons.mp nd).2 (by simpa using h1) (by simpa using h2) hk
theorem bindC_get {kindOf : Str → Option NameKind} {x : Str} {v : Value} : ∀ {P : List Str} {vs : List Value} {i : Nat} {m : Str → Option Value}, P.Nodup → P[i]? = some x → vs[i]? = some v → kindOf x ≠ some .local →
    bindC kindOf (P.zip vs) m x = some v
  | [], _, _, _, _, h, _, _ => by simp at h
  | _ :: _, [], _, _, _, _, h, _ => by simp at h
  | p :: P, w :: vs, 0, m, nd, h1, h2, hk => by
    simp at h1 h2; subst h1; subst h2
    show bindC kindOf ((p, w) :: P.zip vs) m p = _
    unfold bindC
    rw [bindC_out fun v hv => (List.nodup_cons.mp nd).1 (List.of_mem_zip hv).1, if_neg hk]
    simp
  | p :: P, w :: vs, i + 1, m, nd, h1, h2, hk => by
    show bindC kindOf ((p, w) :: P.zip vs) m x = _
    unfold bindC
    exact bindC_get (i := i) (List.nodup_cons.mp nd).2 (by simpa using h1) (by simpa using h2) hk

noncomputable def start (N : List Str) (vs : List V) : St := vs.map some ++ List.replicate (N.length - vs.length) none

noncomputable def cxOf (CX : CXT) (P : Program) (w : World) (K : PySem.W.Frag) (mg : Str → Option Value) (base : Heap) (N : List Str) (qual : Str) (scope : Scope) (f : Addr) (cd : Value) (A : Around) (outer : List Env) (s : Shared) (H : Hp) (E : XK) : Cx where
  prog := P
  w := w
  K := K
  mg := mg
  base := base
  A := A.deeper (envOfC qual scope s.heap.objs.size f cd)
  N := N
  s₀ := s
  H₀ := H
  env := envOfC qual scope s.heap.objs.size f cd
  outer := outer
  stack := envOfC qual scope s.heap.objs.size f cd :: outer
  ex := []
  calm := true
  fn := fun _ => true
  pn := []
  xe := fun e s' => wpAny (model P w) (A.deeper (envOfC qual scope s.heap.objs.size f cd)) (leaving (envOfC qual scope s.heap.objs.size f cd) e) (fun _ s'' => CX outer H s E e s'') (fun e' s'' => CX outer H s E e' s'') s'

theorem cell_has {sc : Scope} {n : Nat} {x : Str} (h : sc.names.lookup x = some .cell) : ∃ c, (cellsFrom n sc.names []).lookup x = some c := by
  have q := PySem.W.cellsFrom_some sc.names n [] (.inl h)
  exact Option.isSome_iff_exists.mp q

theorem inv_start {CX : CXT} {P : Program} {w : World} {K : PySem.W.Frag} {mg : Str → Option Value} {base : Heap} {N ps : List Str} {qual : Str} {scope : Scope} {f : Addr} {cd : Value} {A : Around} {outer : List Env} {s s1 : Shared} {H : Hp} {E : XK} {us : List Value} {vs : List V}
    (S : FnScope N ps scope) (hd : A.handled = none) (e0 : Env0 P w K mg base A outer s H) (hl : vs.length = ps.length) (r : Vals vs us)
    (x : InCallC s s.heap.objs.size (bindL (envOfC qual scope s.heap.objs.size f cd).kindOf (ps.zip us) fun _ => none) (cellsFrom (s.heap.objs.size + 1) scope.names []) (bindC (envOfC qual scope s.heap.objs.size f cd).kindOf (ps.zip us) fun _ => none) s1) :
    Inv (cxOf CX P w K mg base N qual scope f cd A outer s H E) [] (start N vs) H s1 := by
  have hpl : ps.length ≤ N.length := by have := congrArg List.length S.pre; rw [List.length_take] at this; omega
  obtain ⟨h1, tk, rfl, hk⟩ := x.done
  have noA : ∀ b : Addr, b ∉ (cxOf CX P w K mg base N qual scope f cd A outer s H E).ex := fun b z => absurd (show b ∈ ([] : List Addr) from z) (by simp)
  refine ⟨⟨e0.mod, S.kind, rfl, rfl, Nat.le_refl _, fun y z c h1 h2 => ?_, fun y hy => ?_, fun y c _ h => ?_, fun _ => hd, Around.frames_deeper e0.frames, .inr ⟨rfl, rfl⟩, fun b z => absurd z (noA b), e0.bs, e0.bsz, fun b _ _ => noA b, fun b z => absurd z (noA b), e0.funs, e0.frf⟩,
    rfl, e0.bare, Un.kept hk, ⟨_, x.toInCall.ns, fun i y v h1 h2 h3 => ?_⟩, fun y c h => ⟨_, x.cell y c h⟩, e0.hok.fresh (Nat.le_refl _), fun y c h => ?_, fun p hp => absurd (show p ∈ ([] : List (Addr × Obj)) from hp) (by simp), e0.hok.kept hk, ?_⟩
  · exact name_of_addr x.apart (PySem.mem_of_lookup h1) (PySem.mem_of_lookup h2)
  · have hy : scope.names.lookup y = some .cell ∨ scope.names.lookup y = some .free := hy
    rcases hy with hy | hy
    · exact cell_has hy
    · exact absurd rfl (S.nofree _ (PySem.mem_of_lookup hy))
  · exact Nat.le_of_lt (x.above y c (PySem.mem_of_lookup h))
  · have hi : i < vs.length := by
      unfold start at h2
      by_cases hi : i < vs.length
      · exact hi
      · rw [List.getElem?_append_right (by simpa using hi)] at h2
        rw [List.getElem?_replicate] at h2
        split at h2 <;> cases h2
    have ha : vs[i]? = some v := by
      unfold start at h2
      rw [List.getElem?_append_left (by simpa using hi), List.getElem?_map] at h2
      cases e : vs[i]? with
      | none => rw [e] at h2; cases h2
      | some a => rw [e] at h2; cases h2; rfl
    obtain ⟨u, hu, rv⟩ := r.get ha
    have hp : ps[i]? = some y := by
      rw [← S.pre, List.getElem?_take_of_lt (by omega)]; exact h1
    have ndP : ps.Nodup := by rw [← S.pre]; exact S.nd.sublist (List.take_sublist _ _)
    refine ⟨u, rv, ?_⟩
    rcases S.par y (List.mem_of_getElem? hp) with k | k
    · exact .inl ⟨k, bindL_get ndP hp hu k⟩
    · obtain ⟨c, e⟩ := cell_has (n := s.heap.objs.size + 1) k
      refine .inr ⟨.inl k, c, e, ?_⟩
      have q := x.cell y c e
      rw [bindC_get ndP hp hu (by show scope.names.lookup y ≠ _; rw [k]; decide)] at q
      exact q
  · exact e0.hok.fresh (Nat.le_of_lt (x.above y c (PySem.mem_of_lookup h)))
  · unfold start
    show _ = N.length
    rw [List.length_append, List.length_map, List.length_replicate]
    omega

theorem fn_of {CX : CXT} {P : Program} {w : World} {K : PySem.W.Frag} {mg : Str → Option Value} {base : Heap} {k : Nat} {f : Addr} {name qual : Str} {params : Arguments} {body : List Stmt} {scope : Scope} {dV kV doc pm cdv ct oc : Value} {an od : Option Addr}
    {osl : Array (Option Value)} {N ps : List Str} {sp : Sp} (lk : K.lookup f = some ⟨oc, od, .func (PySem.W.fnOf name qual params body scope dV kV doc pm an cdv ct), osl⟩) (hcd : PySem.W.codeIn K cdv qual = true) (S : FnScope N ps scope)
    (len : ∀ vs H Q E, sp vs H Q E → vs.length = ps.length)
    (hbody : ∀ (A : Around) (outer : List Env) (s : Shared) (H : Hp) (vs : List V) (Q : VK) (E : XK), Room k (A.deeper (envOfC qual scope s.heap.objs.size f cdv)) → sp vs H Q E →
      ∃ t, PSs (cxOf CX P w K mg base N qual scope f cdv A outer s H E) body t ∧ t { nx := fun _ H' => Q .non H', rt := Q } (start N vs) H) :
    FnOk P w K mg base CX (k + 1) f (PySem.W.fnOf name qual params body scope dV kV doc pm an cdv ct) ps sp := by
  refine ⟨len, fun A outer s H args us vs Q E hr e0 hb r hsp => ?_⟩
  have hl := len _ _ _ _ hsp
  have KX : K.In s.heap := e0.mod.kin.keeps fun b o e => (e0.bs b o e).1
  have lim : s.heap.NoLimit := e0.mod.nolimit.keeps fun b o e => (e0.bs b o e).1
  have hkind : ∀ y ∈ ps.zip us, scope.names.lookup y.1 = some .local ∨ (scope.names.lookup y.1 = some .cell ∧ ((cellsFrom (s.heap.objs.size + 1) scope.names []).lookup y.1).isSome = true) := fun ⟨n, v⟩ hy => by
    rcases S.par n (List.of_mem_zip hy).1 with q | q
    · exact .inl q
    · exact .inr ⟨q, PySem.W.cellsFrom_some _ _ _ (.inl q)⟩
  refine codeAny_call_function hr.depth (KX _ _ lk) rfl S.co S.gen rfl (PySem.W.codeRec_of KX hcd) (hb _ _ _ _ ?_)
  refine wpAny_newFunctionEnv_cells S.kind hkind fun env he s1 x => ?_
  subst he
  refine ⟨lim.keeps x.toInCall.keep, codeAny_func ?_⟩
  obtain ⟨t, ht, hq⟩ := hbody A outer s H vs Q E (hr.deeper _) hsp
  have I : Inv (cxOf CX P w K mg base N qual scope f cdv A outer s H E) [] (start N vs) H s1 := inv_start S hr.hd e0 hl r x
  refine wpAny_mono (ht [] s1 (start N vs) H _ I hq) (fun fl s' hs => ?_) fun e s' hs => hs
  have fin : ∀ {σ' : St} {H' : Hp} {v : V} {u : Value}, Inv (cxOf CX P w K mg base N qual scope f cdv A outer s H E) [] σ' H' s' → RelV v u → Q v H' → CE outer P w H s Q u s' :=
    fun {σ' H' v u} J rv q => ⟨v, H', J.os, J.bare, J.base, J.hok, rv, q⟩
  cases fl with
  | ret u =>
    obtain ⟨v, σ', H', J, rv, q⟩ := hs
    exact fin J rv q
  | next =>
    obtain ⟨σ', H', J, q⟩ := hs
    exact fin (v := V.non) (u := Value.none) J rfl q
  | brk =>
    obtain ⟨_, _, _, q⟩ := hs
    exact False.elim q
  | cont =>
    obtain ⟨_, _, _, q⟩ := hs
    exact False.elim q
end L2

namespace L2
open PySem PySem.Spec PyProof.Rows
section
variable {X : Cx} {x : Str} {p pos : Pos} {e : Expr} {es : List Expr} {t : TA} {id T : String} {r : List V → Hp → VK → Prop}

noncomputable def tCB (r : List V → Hp → VK → Prop) (t : TA) : TE := fun σ H Q => t σ H fun vs H1 => r vs H1 Q
theorem pe_callB (hc : CallR X (.builtin id) r) (hg : Gl X x) (hm : X.mg x = none) (hv : bootBuiltins x = some (.builtin id)) (ha : PA X (e :: es) t) (hn : autoParam (x ≠ "__name__") L2.auto2._auto_1) (hdb : autoParam ((x == ("__debug__" : Str)) = false) L2.auto2._auto_1)
    (he : autoParam (starEach (e :: es) X.env = (false, eval e X.env) :: starEach es X.env) L2.auto4._auto_1) (hpl : autoParam ((backTo pos (starEach es X.env)).any (·.1) = false) L2.auto4._auto_1) : PE X (.Call (.Name x p) (e :: es) [] pos) (tCB r t) := by
  intro pins s σ H Q I h
  refine wpAny_Call_Name_kw (ld_blt I hg hm hv ?_ hn hdb)
  exact PyProof.Rows.callWith_builtin1 (thn (ha pos pins s σ H _ I h) fun us s1 ⟨vs, H1, I1, r1, q1⟩ => hc pins s1 σ H1 vs us Q I1 r1 q1) he hpl
theorem pe_callTy (hc : CallR X (.type T) r) (hg : Gl X x) (hm : X.mg x = none) (hv : bootBuiltins x = some (.type T)) (ha : PA X (e :: es) t) (hn : autoParam (x ≠ "__name__") L2.auto2._auto_1) (hdb : autoParam ((x == ("__debug__" : Str)) = false) L2.auto2._auto_1)
    (he : autoParam (starEach (e :: es) X.env = (false, eval e X.env) :: starEach es X.env) L2.auto4._auto_1) (hpl : autoParam ((backTo pos (starEach es X.env)).any (·.1) = false) L2.auto4._auto_1) : PE X (.Call (.Name x p) (e :: es) [] pos) (tCB r t) := by
  intro pins s σ H Q I h
  refine wpAny_Call_Name_kw (ld_blt I hg hm hv ?_ hn hdb)
  exact PyProof.Rows.callWith_type1 (thn (ha pos pins s σ H _ I h) fun us s1 ⟨vs, H1, I1, r1, q1⟩ => hc pins s1 σ H1 vs us Q I1 r1 q1) he hpl
end
end L2

namespace HT
open PySem PyProof.Rows

section
open PySem.SeqAt
open PySem.AutoSeq1 (wpAny_loadPart')
open PySem.MeetsSeq PySem.MeetsSeq2 PySem.MeetsSeq3

end

section
variable {prog : Program} {w : World} {A : Around} {E : Value → Shared → Prop} {s : Shared}

noncomputable def sIx (n d : Nat) : Option Int → Nat
  | none => d
  | some v => if v < 0 then (v + (n : Int)).toNat else min v.toNat n
theorem sIx_none (n d : Nat) : sIx n d none = d := rfl
theorem sIx_nat (n d k : Nat) : sIx n d (some (k : Int)) = min k n := by
  show (if (k : Int) < 0 then ((k : Int) + (n : Int)).toNat else min (k : Int).toNat n) = min k n
  rw [if_neg (by omega), Int.toNat_natCast]
theorem sIx_le (n d : Nat) (hd : d ≤ n) (o : Option Int) : sIx n d o ≤ n := by
  cases o with
  | none => exact hd
  | some v =>
    show (if v < 0 then (v + (n : Int)).toNat else min v.toNat n) ≤ n
    by_cases hv : v < 0
    · rw [if_pos hv]; omega
    · rw [if_neg hv]; exact Nat.min_le_right _ _
theorem clip_eq (v : Int) (n d : Nat) : (if v < 0 then max (v + (n : Int)) 0 else min v (n : Int)) = ((sIx n d (some v) : Nat) : Int) := by
  show (if v < 0 then max (v + (n : Int)) 0 else min v (n : Int)) = (((if v < 0 then (v + (n : Int)).toNat else min v.toNat n) : Nat) : Int)
  by_cases hv : v < 0
  · simp only [if_pos hv]; omega
  · simp only [if_neg hv]; omega
theorem adjust_gen (lo hi : Option Int) (n : Nat) : Builtin.Slice.sliceAdjust lo hi 1 (n : Int) = (((sIx n 0 lo : Nat) : Int), ((sIx n n hi : Nat) : Int)) := by
  have h1 : ¬ ((1 : Int) < 0) := by omega
  unfold Builtin.Slice.sliceAdjust
  simp only [h1, if_false]
  refine Prod.ext ?_ ?_
  · cases lo with
    | none => rfl
    | some v => exact clip_eq v n 0
  · cases hi with
    | none => rfl
    | some v => exact clip_eq v n n
theorem places_gen (i j : Nat) : Builtin.Slice.slicePlaces (i : Int) (j : Int) 1 = j - i := by
  unfold Builtin.Slice.slicePlaces
  have h1 : (1 : Int) > 0 := by omega
  simp only [h1, if_true, Int.ediv_one]
  split <;> omega
theorem slicePart_ {v : Value} {o : Option Int} {Q : Option Int → Shared → Prop} (p : IsPart v o) (h : Q o s) : wpAny (model prog w) A (Builtin.Slice.slicePartIndex v) Q E s := by
  cases p with
  | none => exact slicePart_none h
  | int i t => exact slicePart_int h
theorem sliceApplied_gen {sl : Addr} {vl vu : Value} {lo hi : Option Int} {n : Nat} {Q : Int × Int × Nat → Shared → Prop} (hs : s.heap.IsSliceOf sl vl vu .none) (pl : IsPart vl lo) (pu : IsPart vu hi)
    (h : Q (((sIx n 0 lo : Nat) : Int), 1, sIx n n hi - sIx n 0 lo) s) : wpAny (model prog w) A (Builtin.Slice.sliceApplied (.ref sl) (pure (n : Int))) Q E s := by
  obtain ⟨os, hos, hcs, hds⟩ := id hs
  unfold Builtin.Slice.sliceApplied Builtin.Slice.sliceFields
  refine wpAny_bind (wpAny_bind (wpAny_field hos hds (x := vl) rfl (wpAny_bind (wpAny_field hos hds (x := vu) rfl (wpAny_bind (wpAny_field hos hds (x := .none) rfl (wpAny_pure ?_)))))))
  refine wpAny_bind (slicePart_none ?_)
  show wpAny _ _ (if ((1 : Int) == 0) = true then _ else _) _ _ s
  rw [if_neg (by decide)]
  refine wpAny_bind (slicePart_ pl (wpAny_bind (slicePart_ pu (wpAny_bind (wpAny_pure ?_)))))
  show wpAny _ _ (match Builtin.Slice.sliceAdjust lo hi 1 (n : Int) with | (lo, hi) => pure (lo, (1 : Int), Builtin.Slice.slicePlaces lo hi 1)) _ _ s
  rw [adjust_gen lo hi n]
  show wpAny _ _ (pure (((sIx n 0 lo : Nat) : Int), (1 : Int), Builtin.Slice.slicePlaces ((sIx n 0 lo : Nat) : Int) ((sIx n n hi : Nat) : Int) 1)) _ _ s
  rw [places_gen]
  exact wpAny_pure h
theorem pick_gen (xs : Array Value) (i k : Nat) : ((List.range k).filterMap fun (m : Nat) => xs[((i : Int) + (m : Int) * 1).toNat]?).toArray = ((xs.toList.drop i).take k).toArray := by
  have e : (fun (m : Nat) => xs[((i : Int) + (m : Int) * 1).toNat]?) = fun m => xs[i + m]? := by
    funext m
    have : ((i : Int) + (m : Int) * 1).toNat = i + m := by omega
    rw [this]
  rw [e]
  have := pick_run xs i k
  rw [List.filterMap_map] at this
  have e2 : ((fun x => xs[x]?) ∘ fun x => i + x) = fun m => xs[i + m]? := rfl
  rw [e2] at this
  rw [this]

theorem getItem_tuple_cut {t sl : Addr} {items : Array Value} {vl vu : Value} {lo hi : Option Int} {Q : Value → Shared → Prop} (ht : IsTup s.heap t items) (hs : s.heap.IsSliceOf sl vl vu .none) (pl : IsPart vl lo) (pu : IsPart vu hi)
    (hw : ¬ (sIx items.size 0 lo = 0 ∧ sIx items.size items.size hi = items.size))
    (h : Q (.ref s.heap.objs.size) { s with heap := s.heap.push { cls := .type "tuple", data := .seq ((items.toList.drop (sIx items.size 0 lo)).take (sIx items.size items.size hi - sIx items.size 0 lo)).toArray } })
    (hsz : items.size ≤ sizeLine) : wpAny (model prog w) A (getItem (.ref t) (.ref sl)) Q E s := by
  have htake : sizeOk (.seq ((items.toList.drop (sIx items.size 0 lo)).take (sIx items.size items.size hi - sIx items.size 0 lo)).toArray) := by
    show ((items.toList.drop (sIx items.size 0 lo)).take (sIx items.size items.size hi - sIx items.size 0 lo)).toArray.size ≤ sizeLine
    rw [List.size_toArray, List.length_take, List.length_drop, Array.length_toList]
    omega
  have hj : sIx items.size items.size hi ≤ items.size := sIx_le _ _ (Nat.le_refl _) hi
  obtain ⟨os, hos, hcs, hds⟩ := id hs
  have hTs : s.TypeIs (.ref sl) "slice" := ⟨os, hos, hcs⟩
  unfold getItem
  try with_reducible refine wpAny_holding ?_
  first | refine wpAny_bind (wpAny_pure ?_) | skip
  refine wpAny_bind (wpAny_sequenceKey ht.typeIs (by decide) ?_)
  refine wpAny_bind (wpAny_callSpecial?_slot (name := Str.ofString "__getitem__") ht.typeIs PyProof.Rows.slot_tuple_getitem
    (wpAny_call_entry PyProof.Rows.slot_tuple_getitem ht.typeIs entry_tuple_getitem ?_ (args_tuple_getitem _ _)))
  show wpAny _ _ (Builtin.Tuple.tupleItemsOf (.ref t) >>= _) _ _ s
  refine wpAny_bind (tupleItemsOf_ ht ?_)
  refine wpAny_bind (wpAny_typeOf hTs ?_)
  rw [if_pos (by decide)]
  refine wpAny_bind (sliceApplied_gen hs pl pu ?_)
  have hno : ¬ ((((sIx items.size 0 lo : Nat) : Int) == 0 && (1 : Int) == 1 && (sIx items.size items.size hi - sIx items.size 0 lo) == items.size) = true) := by
    intro q
    rw [Bool.and_eq_true, Bool.and_eq_true] at q
    have q1 : ((sIx items.size 0 lo : Nat) : Int) = 0 := eq_of_beq q.1.1
    have q2 : sIx items.size items.size hi - sIx items.size 0 lo = items.size := eq_of_beq q.2
    exact hw ⟨by omega, by omega⟩
  show wpAny _ _ (if (((sIx items.size 0 lo : Nat) : Int) == 0 && (1 : Int) == 1 && (sIx items.size items.size hi - sIx items.size 0 lo) == items.size) = true then _ else _) _ _ s
  rw [if_neg hno, pick_gen]
  first
    | exact wpAny_bind (m := Builtin.Tuple.tupleExact _) (wpAny_newObj_type (wpAny_pure ⟨_, rfl, wpAny_pure h⟩) htake)
    | exact wpAny_bind (m := Builtin.Tuple.tupleExact _) (wpAny_newObj_type (wpAny_bind (wpAny_pure (wpAny_pure ⟨_, rfl, wpAny_pure h⟩))) htake)
    | exact wpAny_bind (wpAny_bind (m := Builtin.Tuple.tupleExact _) (wpAny_newObj_type (wpAny_pure (wpAny_pure ⟨_, rfl, wpAny_pure h⟩)) htake))
    | exact wpAny_bind (wpAny_bind (m := Builtin.Tuple.tupleExact _) (wpAny_newObj_type (wpAny_pure ⟨_, rfl, wpAny_pure h⟩) htake))
end
end HT

namespace L2
open PySem PySem.Spec PyProof.Rows

noncomputable abbrev TO := St → Hp → (Option Int → Hp → Prop) → Prop
noncomputable def PO (X : Cx) (e : Option Expr) (t : TO) : Prop :=
  ∀ (pins : List (Addr × Obj)) (s : Shared) (σ : St) (H : Hp) (Q : Option Int → Hp → Prop), Inv X pins σ H s → t σ H Q →
    wpAny (model X.prog X.w) X.A (evalPart e X.env) (fun u s' => ∃ o H', Inv X pins σ H' s' ∧ IsPart u o ∧ Q o H') X.xe s
noncomputable def tNoPart : TO := fun _ H Q => Q none H
noncomputable def tPart (t : TE) : TO := fun σ H Q => t σ H fun x H1 => ∃ i, x = .int i ∧ Q (some i) H1

theorem intsAre_of {ns : List Int} : ∀ {us : List Value}, Vals (ns.map V.int) us → IntsAre us ns := by
  induction ns with
  | nil => intro us r; rw [List.map_nil] at r; cases r; exact .nil
  | cons n ns ih =>
    intro us r
    rw [List.map_cons] at r
    cases r with
    | cons r1 r2 =>
      obtain ⟨t, e⟩ := r1
      subst e
      exact .cons n t (ih r2)

section
variable {X : Cx} {e : Expr} {te : TE} {lo hi : Option Expr} {tl th : TO} {pos p2 : Pos}

theorem po_none : PO X none tNoPart := by
  intro pins s σ H Q I h
  rw [evalPart_none]
  exact wpAny_pure ⟨none, H, I, .none, h⟩
theorem po_some (h : PE X e te) : PO X (some e) (tPart te) := by
  intro pins s σ H Q I hw
  rw [evalPart_some]
  refine thn (h pins s σ H _ I hw) fun u s1 qq0 => ?_
  obtain ⟨x, H1, I1, r1, q1⟩ := qq0
  obtain ⟨i, rfl, q⟩ := q1
  obtain ⟨t, rfl⟩ := r1
  exact ⟨some i, H1, I1, .int i t, q⟩

noncomputable def SlR (X : Cx) (r : V → Option Int → Option Int → Hp → VK → Prop) : Prop :=
  ∀ (pins : List (Addr × Obj)) (s : Shared) (σ : St) (H : Hp) (x : V) (v vl vu : Value) (lo hi : Option Int) (sl : Addr) (Q : VK), Inv X pins σ H s → RelV x v → s.heap.IsSliceOf sl vl vu .none → IsPart vl lo → IsPart vu hi → r x lo hi H Q →
    ∃ T id, typeLookup (.type T) "__getitem__" = pure (some (.builtin id)) ∧ s.TypeIs v T ∧ wpAny (model X.prog X.w) X.A (getItem v (.ref sl)) (EP X pins σ Q) X.xe s
theorem SlR.or {r r' : V → Option Int → Option Int → Hp → VK → Prop} (h : SlR X r) (h' : SlR X r') : SlR X (fun x lo hi H Q => r x lo hi H Q ∨ r' x lo hi H Q) := by
  intro pins s σ H x v vl vu lo hi sl Q I rx hs pl pu q
  rcases q with q | q
  · exact h pins s σ H x v vl vu lo hi sl Q I rx hs pl pu q
  · exact h' pins s σ H x v vl vu lo hi sl Q I rx hs pl pu q
noncomputable def tSl (r : V → Option Int → Option Int → Hp → VK → Prop) (te : TE) (tl th : TO) : TE := fun σ H Q => te σ H fun x H1 => tl σ H1 fun l H2 => th σ H2 fun u H3 => r x l u H3 Q
theorem pe_slice {r : V → Option Int → Option Int → Hp → VK → Prop} (hr : SlR X r) (he : PE X e te) (hl : PO X lo tl) (hu : PO X hi th) : PE X (.Subscript e (.Slice lo hi none p2) pos) (tSl r te tl th) := by
  intro pins s σ H Q I h
  refine Subscript_ (thn (he pins s σ H _ I h) fun v s1 qq0 => ?_)
  obtain ⟨x, H1, I1, r1, q1⟩ := qq0
  refine wpAny_Slice (thn (hl pins s1 σ H1 _ I1 q1) fun vl s2 ⟨l, H2, I2, pl, q2⟩ => thn (hu pins s2 σ H2 _ I2 q2) fun vu s3 qq0 => ?_)
  obtain ⟨u, H3, I3, pu, q3⟩ := qq0
  rw [evalPart_none]
  refine wpAny_pure ?_
  have I4 : Inv X pins σ H3 { s3 with heap := s3.heap.push { cls := .type "slice", data := .fields #[vl, vu, .none] } } := I3.kept (t' := s3.toks) fun b ob q => Heap.get?_push_of_some _ q
  obtain ⟨T, id, hT, ht, hg⟩ := hr pins { s3 with heap := s3.heap.push { cls := .type "slice", data := .fields #[vl, vu, .none] } } σ H3 x v vl vu l u s3.heap.objs.size Q I4 r1 (Heap.IsSliceOf.new ..) pl pu q3
  show wpAny (model X.prog X.w) X.A (subscriptTail e (.Slice lo hi none p2) v (.ref s3.heap.objs.size)) (EP X pins σ Q) X.xe { s3 with heap := s3.heap.push { cls := .type "slice", data := .fields #[vl, vu, .none] } }
  exact tail_any (ops := [.ref s3.heap.objs.size, v]) ht hT hg (by with_unfolding_all rfl)

noncomputable def cutV (xs : List V) (lo hi : Option Int) : List V := (xs.drop (HT.sIx xs.length 0 lo)).take (HT.sIx xs.length xs.length hi - HT.sIx xs.length 0 lo)
theorem cutV_length (xs : List V) (lo hi : Option Int) : (cutV xs lo hi).length ≤ xs.length := by
  unfold cutV
  rw [List.length_take, List.length_drop]
  omega
noncomputable def rSlT (K : PySem.W.Frag) : V → Option Int → Option Int → Hp → VK → Prop := fun x lo hi H Q => ∃ a xs, x = .ref a ∧ SqT K H a xs ∧
  ¬ (HT.sIx xs.length 0 lo = 0 ∧ HT.sIx xs.length xs.length hi = xs.length) ∧ ∀ p, H p = none → Q (.ref p) (upd H p (.tup (cutV xs lo hi)))
theorem sl_tup : SlR X (rSlT X.K) := by
  intro pins s σ H x v vl vu lo hi sl Q I rx hs pl pu h
  obtain ⟨a, xs, rfl, hx, hw, q⟩ := h
  cases rx
  obtain ⟨its, r, ht, hz⟩ := I.tuple hx
  have hlen : its.toArray.size = xs.length := by rw [List.size_toArray]; exact r.length.symm
  refine ⟨"tuple", _, PyProof.Rows.slot_tuple_getitem.lookup, ht.typeIs, ?_⟩
  refine HT.getItem_tuple_cut ht hs pl pu (by rw [hlen]; exact hw) ?_ (by rw [hlen]; exact hz)
  rw [hlen]
  refine ⟨.ref s.heap.objs.size, _, I.laid (t' := s.toks) (o := .tup (cutV xs lo hi)) (fun b ob q => Heap.get?_push_of_some _ q) (Nat.le_refl _) ?_, rfl, q _ (I.hok.fresh (Nat.le_refl _))⟩
  exact ⟨Nat.le_trans (cutV_length xs lo hi) hz, _, (r.drop (HT.sIx xs.length 0 lo)).take (HT.sIx xs.length xs.length hi - HT.sIx xs.length 0 lo), IsTup.new _ _⟩

end
end L2

namespace L2
open PySem PySem.Spec PyProof.Rows

noncomputable def ixN (n : Nat) (i : Int) : Option Nat := if 0 ≤ i then (if i < n then some i.toNat else none) else if -(n : Int) ≤ i then some (i + n).toNat else none
noncomputable def atI {α : Type} (xs : List α) (i : Int) : Option α := (ixN xs.length i).bind fun j => xs[j]?
theorem ixN_seq {n : Nat} {i : Int} {j : Nat} (h : ixN n i = some j) : seqIndex? i n = some j ∧ j < n ∧ -(n : Int) ≤ i ∧ i < n := by
  unfold ixN at h
  by_cases h0 : 0 ≤ i
  · rw [if_pos h0] at h
    by_cases h1 : i < n
    · rw [if_pos h1] at h
      have e : i.toNat = j := Option.some.inj h
      exact ⟨by rw [seqIndex_of h0 h1, e], by omega, by omega, h1⟩
    · rw [if_neg h1] at h; cases h
  · rw [if_neg h0] at h
    by_cases h1 : -(n : Int) ≤ i
    · rw [if_pos h1] at h
      have e : (i + n).toNat = j := Option.some.inj h
      exact ⟨by rw [seqIndex_neg (by omega) h1, e], by omega, h1, by omega⟩
    · rw [if_neg h1] at h; cases h
theorem atI_get {α : Type} {xs : List α} {i : Int} {v : α} (h : atI xs i = some v) : ∃ j, seqIndex? i xs.length = some j ∧ xs[j]? = some v ∧ j < xs.length ∧ -(xs.length : Int) ≤ i ∧ i < xs.length := by
  unfold atI at h
  cases e : ixN xs.length i with
  | none => rw [e] at h; cases h
  | some j =>
    rw [e] at h
    obtain ⟨h1, h2, h3, h4⟩ := ixN_seq e
    exact ⟨j, h1, h, h2, h3, h4⟩
theorem atI_nat {α : Type} {xs : List α} {j : Nat} {v : α} (h : xs[j]? = some v) : atI xs (j : Int) = some v := by
  have hj : j < xs.length := (List.getElem?_eq_some_iff.mp h).1
  have e : ixN xs.length (j : Int) = some j := by
    unfold ixN
    rw [if_pos (by omega), if_pos (by omega)]; simp
  unfold atI; rw [e]; exact h
theorem atI_last {α : Type} (xs : List α) (v : α) : atI (xs ++ [v]) (-1) = some v := by
  have hl : (xs ++ [v]).length = xs.length + 1 := by simp
  have e : ixN (xs ++ [v]).length (-1) = some xs.length := by
    unfold ixN
    rw [hl, if_neg (by decide), if_pos (by omega)]
    congr 1
    omega
  unfold atI
  rw [e]
  show (xs ++ [v])[xs.length]? = some v
  simp

noncomputable def PlainIx (b : Expr) : Prop := ∀ o i, subscripted b false o i = operate [o, i] (getItem o i)
noncomputable def IxR (X : Cx) (r : R2) : Prop :=
  ∀ (value slice : Expr) (pins : List (Addr × Obj)) (s : Shared) (σ : St) (H : Hp) (x y : V) (v u : Value) (Q : VK), Inv X pins σ H s → RelV x v → RelV y u → r x y H Q →
    subscripted slice false v u = operate [v, u] (getItem v u) → wpAny (model X.prog X.w) X.A (subscriptTail value slice v u) (EP X pins σ Q) X.xe s
noncomputable def MtR (X : Cx) (id : String) (r : V → List V → Hp → VK → Prop) : Prop :=
  ∀ (pins : List (Addr × Obj)) (s : Shared) (σ : St) (H : Hp) (x : V) (xs : List V) (v : Value) (us : List Value) (Q : VK), Inv X pins σ H s → RelV x v → Vals xs us → r x xs H Q →
    wpAny (model X.prog X.w) X.A (call (.builtin id) (v :: us)) (EP X pins σ Q) X.xe s
section
variable {X : Cx} {a b : Expr} {ta tb : TE} {pos : Pos}
theorem IxR.or {r r' : R2} (h : IxR X r) (h' : IxR X r') : IxR X (fun x y H Q => r x y H Q ∨ r' x y H Q) := by
  intro value slice pins s σ H x y v u Q I rx ry q hs
  rcases q with q | q
  · exact h value slice pins s σ H x y v u Q I rx ry q hs
  · exact h' value slice pins s σ H x y v u Q I rx ry q hs
theorem pe_ix {r : R2} (hr : IxR X r) (ha : PE X a ta) (hb : PE X b tb) (hs : PlainIx b) : PE X (.Subscript a b pos) (tOp r ta tb) := by
  intro pins s σ H Q I h
  exact Subscript_ (binT ha hb I h fun v u s2 x y H2 I2 rx ry q => hr a b pins s2 σ H2 x y v u Q I2 rx ry q (hs _ _))

noncomputable def rIxL (K : PySem.W.Frag) : R2 := fun x y H Q => ∃ p xs i v, x = .ref p ∧ y = .int i ∧ SqL K H p xs ∧ atI xs i = some v ∧ Q v H
noncomputable def rIxT (K : PySem.W.Frag) : R2 := fun x y H Q => ∃ p xs i v, x = .ref p ∧ y = .int i ∧ SqT K H p xs ∧ atI xs i = some v ∧ Q v H
noncomputable def rIxS : R2 := fun x y H Q => ∃ z i c, x = .str z ∧ y = .int i ∧ z.length ≤ sizeLine ∧ atI z.cps.toList i = some c ∧ Q (.str ⟨#[c]⟩) H
theorem ix_list : IxR X (rIxL X.K) := by
  intro value slice pins s σ H x y v u Q I rx ry h hs
  obtain ⟨p, xs, i, z, rfl, rfl, hq, he, q⟩ := h
  cases rx
  obtain ⟨t, rfl⟩ := ry
  obtain ⟨its, r, pl, hz⟩ := I.list hq
  obtain ⟨j, h1, h2, h3, h4, h5⟩ := atI_get he
  obtain ⟨w, ew, rw'⟩ := r.get h2
  have hl := r.length
  have hn := line63
  have fin : EP X pins σ Q w s := ⟨z, H, I, rw', q⟩
  by_cases h0 : 0 ≤ i
  · have hj : i.toNat = j := by
      rw [seqIndex_of h0 h5] at h1
      exact Option.some.inj h1
    exact item_listR pl.isList h0 (by omega) (by rw [hj]; simpa using ew) fin hs
  · have hj : (i + (its.toArray.size : Int)).toNat = j := by
      rw [seqIndex_neg (by omega) h4] at h1
      rw [List.size_toArray, ← hl]
      exact Option.some.inj h1
    exact subscriptTail_builtinR (x := w) pl.isList.typeIs slot_list_getitem.lookup
      (wpAny_getItem_list_neg (Q := fun r s' => r = w ∧ EP X pins σ Q r s') pl.isList (by omega) (by rw [List.size_toArray] <;> omega) (by omega) (by rw [hj]; simpa using ew) ⟨rfl, fin⟩) hs
theorem ix_tup : IxR X (rIxT X.K) := by
  intro value slice pins s σ H x y v u Q I rx ry h hs
  obtain ⟨p, xs, i, z, rfl, rfl, hq, he, q⟩ := h
  cases rx
  obtain ⟨t, rfl⟩ := ry
  obtain ⟨its, r, pl, hz⟩ := I.tuple hq
  obtain ⟨j, h1, h2, h3, h4, h5⟩ := atI_get he
  obtain ⟨w, ew, rw'⟩ := r.get h2
  have hl := r.length
  have hn := line63
  have fin : EP X pins σ Q w s := ⟨z, H, I, rw', q⟩
  exact subscriptTail_builtinR (x := w) pl.typeIs slot_tuple_getitem.lookup
    (getItem_tuple (j := j) (Q := fun r s' => r = w ∧ EP X pins σ Q r s') pl (by omega) (by omega) (by rw [List.size_toArray, ← hl]; exact h1) (by simpa using ew) ⟨rfl, fin⟩) hs
theorem ix_str : IxR X rIxS := by
  intro value slice pins s σ H x y v u Q I rx ry h hs
  obtain ⟨z, i, c, rfl, rfl, hz, he, q⟩ := h
  obtain ⟨t, rfl⟩ := rx
  obtain ⟨t', rfl⟩ := ry
  obtain ⟨j, h1, h2, h3, h4, h5⟩ := atI_get he
  have hl : z.cps.toList.length = z.length := by simp [Str.length]
  rw [hl] at h1 h4 h5
  have hn := line63
  exact tail_any (typeIs_str s z t) slot_str_getitem.lookup (getItem_str (c := c) (by
    have e1 : decide (i < -(2 ^ 63 : Int)) = false := decide_eq_false (by omega)
    have e2 : decide (i ≥ 2 ^ 63) = false := decide_eq_false (by omega)
    rw [e1, e2, Bool.or_false]) (by rw [h1]; simpa using h2) ⟨.str ⟨#[c]⟩, H, I.tok _, ⟨_, rfl⟩, q⟩) hs
noncomputable def rIx (K : PySem.W.Frag) : R2 := fun x y H Q => rIxL K x y H Q ∨ rIxT K x y H Q ∨ rIxS x y H Q
theorem ix_seq : IxR X (rIx X.K) := ix_list.or (ix_tup.or ix_str)

theorem slice_bounds (lo hi : Option Int) (n : Nat) : (sliceBounds lo hi none n).1 = ((HT.sIx n 0 lo : Nat) : Int) ∧ (sliceBounds lo hi none n).2.1 = ((HT.sIx n n hi : Nat) : Int) ∧ (sliceBounds lo hi none n).2.2 = 1 := by
  refine ⟨?_, ?_, rfl⟩
  · cases lo with
    | none => simp [sliceBounds, HT.sIx]
    | some i =>
      simp only [sliceBounds, HT.sIx, Option.getD_none, show (1 : Int) > 0 by decide, if_true]
      by_cases h : i < 0
      · simp only [h, if_true] <;> omega
      · simp only [h, if_false] <;> omega
  · cases hi with
    | none => simp [sliceBounds, HT.sIx]
    | some i =>
      simp only [sliceBounds, HT.sIx, Option.getD_none, show (1 : Int) > 0 by decide, if_true]
      by_cases h : i < 0
      · simp only [h, if_true] <;> omega
      · simp only [h, if_false] <;> omega
theorem slicePick_cut (its : List Value) (lo hi : Option Int) : slicePick its.toArray lo hi none = ((its.drop (HT.sIx its.length 0 lo)).take (HT.sIx its.length its.length hi - HT.sIx its.length 0 lo)).toArray := by
  obtain ⟨h1, h2, h3⟩ := slice_bounds lo hi its.toArray.size
  unfold slicePick
  rw [h1, h2, h3]
  simp only [sliceRange_one, pick_run, List.size_toArray] <;> rfl
noncomputable def rSlL (K : PySem.W.Frag) : V → Option Int → Option Int → Hp → VK → Prop := fun x lo hi H Q => ∃ a xs, x = .ref a ∧ SqL K H a xs ∧ ∀ p, H p = none → Q (.ref p) (upd H p (.lst (cutV xs lo hi)))
theorem sl_list : SlR X (rSlL X.K) := by
  intro pins s σ H x v vl vu lo hi sl Q I rx hs pl pu h
  obtain ⟨a, xs, rfl, hx, q⟩ := h
  cases rx
  obtain ⟨its, r, ht, hz⟩ := I.list hx
  have hlen := r.length
  refine ⟨"list", _, slot_list_getitem.lookup, ht.isList.typeIs, ?_⟩
  refine wpAny_getItem_list_slice ht.isList hs pl pu .none (by simp) ?_ (by rw [List.size_toArray] <;> omega)
  rw [slicePick_cut, ← hlen]
  refine ⟨.ref s.heap.objs.size, _, I.laid (t' := s.toks) (o := .lst (cutV xs lo hi)) (fun b ob q => Heap.get?_push_of_some _ q) (Nat.le_refl _) ?_, rfl, q _ (I.hok.fresh (Nat.le_refl _))⟩
  exact ⟨Nat.le_trans (cutV_length xs lo hi) hz, _, 0, (r.drop (HT.sIx xs.length 0 lo)).take (HT.sIx xs.length xs.length hi - HT.sIx xs.length 0 lo), Heap.get?_push_size _ rfl⟩

noncomputable def flatV : V → Bool
  | .non => true
  | .bl _ => true
  | .int _ => true
  | .str _ => true
  | _ => false
noncomputable def eqV : V → V → Bool
  | .non, .non => true
  | .bl a, .bl b => a == b
  | .bl a, .int b => (if a then 1 else 0) == b
  | .int a, .bl b => a == (if b then 1 else 0)
  | .int a, .int b => a == b
  | .str a, .str b => a == b
  | _, _ => false
theorem eqAt_V {A : Around} {s : Shared} {y x : V} {u v : Value} (ry : RelV y u) (rx : RelV x v) (fy : flatV y = true) (fx : flatV x = true) : SeqAt.EqAt A s u v (eqV y x) := by
  cases y with
  | non =>
    cases ry
    cases x with
    | non => cases rx; exact SeqAt.EqAt.same _
    | bl b => cases rx; exact SeqAt.EqAt.none_bool b
    | int b => obtain ⟨t, rfl⟩ := rx; exact SeqAt.EqAt.none_int b t
    | str b => obtain ⟨t, rfl⟩ := rx; exact SeqAt.EqAt.none_str b t
    | _ => exact absurd (show false = true from fx) Bool.false_ne_true
  | bl a =>
    cases ry
    cases x with
    | non => cases rx; exact SeqAt.EqAt.bool_none a
    | bl b => cases rx; exact SeqAt.EqAt.bool_bool a b
    | int b => obtain ⟨t, rfl⟩ := rx; exact SeqAt.EqAt.bool_int a b t
    | str b => obtain ⟨t, rfl⟩ := rx; exact SeqAt.EqAt.bool_str a b t
    | _ => exact absurd (show false = true from fx) Bool.false_ne_true
  | int a =>
    obtain ⟨t', rfl⟩ := ry
    cases x with
    | non => cases rx; exact SeqAt.EqAt.int_none a t'
    | bl b => cases rx; exact SeqAt.EqAt.int_bool a t' b
    | int b => obtain ⟨t, rfl⟩ := rx; exact SeqAt.EqAt.int_int a t' b t
    | str b => obtain ⟨t, rfl⟩ := rx; exact SeqAt.EqAt.int_str a t' b t
    | _ => exact absurd (show false = true from fx) Bool.false_ne_true
  | str a =>
    obtain ⟨t', rfl⟩ := ry
    cases x with
    | non => cases rx; exact SeqAt.EqAt.str_none a t'
    | bl b => cases rx; exact SeqAt.EqAt.str_bool a t' b
    | int b => obtain ⟨t, rfl⟩ := rx; exact SeqAt.EqAt.str_int a t' b t
    | str b => obtain ⟨t, rfl⟩ := rx; exact SeqAt.EqAt.str_str a t' b t
    | _ => exact absurd (show false = true from fx) Bool.false_ne_true
  | _ => exact absurd (show false = true from fy) Bool.false_ne_true
noncomputable def eqU (x : V) (u : Value) : Bool := match u with
  | .none => eqV .non x
  | .bool b => eqV (.bl b) x
  | .int i _ => eqV (.int i) x
  | .str z _ => eqV (.str z) x
  | _ => false
theorem eqU_of {x y : V} {u : Value} (r : RelV y u) (f : flatV y = true) : eqU x u = eqV y x := by
  cases y with
  | non => cases r; rfl
  | bl b => cases r; rfl
  | int i => obtain ⟨t, rfl⟩ := r; rfl
  | str z => obtain ⟨t, rfl⟩ := r; rfl
  | _ => exact absurd (show false = true from f) Bool.false_ne_true
theorem any_eqU {x : V} : ∀ {xs : List V} {us : List Value}, Vals xs us → xs.all flatV = true → us.any (eqU x) = xs.any fun y => eqV y x
  | _, _, .nil, _ => rfl
  | y :: xs, u :: us, .cons r t, f => by
    rw [List.all_cons, Bool.and_eq_true] at f
    rw [List.any_cons, List.any_cons, eqU_of r f.1, any_eqU t f.2]
theorem mem_eqAt {A : Around} {s : Shared} {x : V} {v : Value} (rx : RelV x v) (fx : flatV x = true) : ∀ {xs : List V} {us : List Value}, Vals xs us → xs.all flatV = true → ∀ u ∈ us, SeqAt.EqAt A s u v (eqU x u)
  | _, _, .nil, _ => fun u hu => by cases hu
  | y :: xs, u :: us, .cons r t, f => fun u' hu => by
    rw [List.all_cons, Bool.and_eq_true] at f
    rcases List.mem_cons.mp hu with rfl | hu
    · rw [eqU_of r f.1]; exact eqAt_V r rx f.1 fx
    · exact mem_eqAt rx fx t f.2 u' hu
noncomputable def inV (x : V) (xs : List V) : Bool := xs.any fun y => eqV y x
noncomputable def rIn (K : PySem.W.Frag) (neg : Bool) : R2 := fun x y H Q => ∃ p xs, y = .ref p ∧ (SqL K H p xs ∨ SqT K H p xs) ∧ flatV x = true ∧ xs.all flatV = true ∧ Q (.bl (if neg then !inV x xs else inV x xs)) H
theorem op_in_seq : OpR X (compareOp .In) (rIn X.K false) := by
  intro pins s σ H x y v u Q I rx ry h
  obtain ⟨p, xs, rfl, hq, fx, fs, q⟩ := h
  cases ry
  rcases hq with hq | hq
  · obtain ⟨its, r, pl, hz⟩ := I.list hq
    refine SeqAt.in_listAt (eqU x) pl.isList (fun w hw => mem_eqAt rx fx r fs w (by simpa using hw)) ⟨.bl _, H, I, rfl, ?_⟩
    rw [show its.toArray.any (eqU x) = its.any (eqU x) by simp, any_eqU r fs]
    exact q
  · obtain ⟨its, r, pl, hz⟩ := I.tuple hq
    refine SeqAt.in_tupleAt (eqU x) pl (fun w hw => mem_eqAt rx fx r fs w (by simpa using hw)) ⟨.bl _, H, I, rfl, ?_⟩
    rw [show its.toArray.any (eqU x) = its.any (eqU x) by simp, any_eqU r fs]
    exact q
theorem CallR.or {f : Value} {r r' : List V → Hp → VK → Prop} (h : CallR X f r) (h' : CallR X f r') : CallR X f (fun xs H Q => r xs H Q ∨ r' xs H Q) := by
  intro pins s σ H xs us Q I rs q
  rcases q with q | q
  · exact h pins s σ H xs us Q I rs q
  · exact h' pins s σ H xs us Q I rs q
theorem call_list_of : CallR X (.type "list") (fun xs H Q => ∃ p ys, xs = [.ref p] ∧ (SqL X.K H p ys ∨ SqT X.K H p ys) ∧ ∀ l, H l = none → Q (.ref l) (upd H l (.lst ys))) := by
  intro pins s σ H xs us Q I r h
  obtain ⟨p, ys, rfl, hq, q⟩ := h
  obtain ⟨u, rfl, rx⟩ := vals1 r
  cases rx
  have fin : ∀ (its : List Value), Vals ys its → ys.length ≤ sizeLine → ∀ (h' : Heap) (c' : Nat), (∀ b o', s.heap.get? b = some o' → h'.get? b = some o') →
      h'.get? s.heap.objs.size = some { cls := .type "list", dict := none, data := .seq its.toArray c', slots := #[] } → EP X pins σ Q (.ref s.heap.objs.size) { s with heap := h' } := fun its r' hz h' c' kp e =>
    ⟨.ref s.heap.objs.size, _, I.laid (t' := s.toks) kp (Nat.le_refl _) (show ObjOk X.prog X.w _ h' _ (.lst ys) from ⟨hz, its, c', r', e⟩), rfl, q _ (I.hok.fresh (Nat.le_refl _))⟩
  rcases hq with hq | hq
  · obtain ⟨its, r', pl, hz⟩ := I.list hq
    have hlen := r'.length
    obtain ⟨o, ho, hc, n, hd⟩ := pl.isList
    exact call_list_seq p (.inl rfl) ho hc hd (fun h' c' kp e => fin its r' hz h' c' kp e) (by simp only [List.size_toArray] <;> omega)
  · obtain ⟨its, r', pl, hz⟩ := I.tuple hq
    have hlen := r'.length
    obtain ⟨o, ho, hc, n, hd⟩ := pl
    exact call_list_seq p (.inr rfl) ho hc hd (fun h' c' kp e => fin its r' hz h' c' kp e) (by simp only [List.size_toArray] <;> omega)
theorem call_tuple_of : CallR X (.type "tuple") (fun xs H Q => ∃ p ys, xs = [.ref p] ∧ ((SqL X.K H p ys ∧ ∀ l, H l = none → Q (.ref l) (upd H l (.tup ys))) ∨ (SqT X.K H p ys ∧ Q (.ref p) H))) := by
  intro pins s σ H xs us Q I r h
  obtain ⟨p, ys, rfl, h⟩ := h
  obtain ⟨u, rfl, rx⟩ := vals1 r
  cases rx
  rcases h with ⟨hq, q⟩ | ⟨hq, q⟩
  · obtain ⟨its, r', pl, hz⟩ := I.list hq
    have hlen := r'.length
    refine call_tuple_list pl.isList (fun h' kp => ?_) (by simp only [List.size_toArray] <;> omega)
    have I1 : Inv X pins σ H { s with heap := h' } := I.kept (t' := s.toks) kp
    have I2 : Inv X pins σ (upd H h'.objs.size (.tup ys)) { s with heap := h'.push { cls := .type "tuple", data := .seq its.toArray } } :=
      I1.laid (t' := s.toks) (fun b o e => Heap.get?_push_of_some _ e) (Nat.le_refl _) (show ObjOk X.prog X.w _ _ _ (.tup ys) from ⟨hz, its, r', IsTup.new _ _⟩)
    exact ⟨.ref h'.objs.size, _, I2, rfl, q _ (I1.hok.fresh (Nat.le_refl _))⟩
  · obtain ⟨its, r', pl, hz⟩ := I.tuple hq
    exact call_tuple_same pl ⟨.ref p, H, I, rfl, q⟩

noncomputable def tyV (K : PySem.W.Frag) (T : String) (x : V) (H : Hp) : Prop := match x with
  | .str _ => T = "str"
  | .int _ => T = "int"
  | .ref p => (T = "list" ∧ ∃ xs, SqL K H p xs) ∨ (T = "tuple" ∧ ∃ o, K.lookup p = some o ∧ o.cls = .type "tuple" ∧ o.dict = none) ∨
      (T = "dict" ∧ ((∃ kvs, H p = some (.dK kvs)) ∨ ∃ kvs, H p = some (.dT kvs))) ∨ (T = "set" ∧ ∃ S n, H p = some (.set S n))
  | _ => False
theorem tyV_is {pins : List (Addr × Obj)} {σ : St} {H : Hp} {s : Shared} {T : String} {x : V} {v : Value} (I : Inv X pins σ H s) (r : RelV x v) (ty : tyV X.K T x H) :
    s.TypeIs v T ∧ ∀ a, v = .ref a → ∃ ob, s.heap.get? a = some ob ∧ ob.dict = none := by
  cases x with
  | str z =>
    obtain ⟨t, rfl⟩ := r
    cases (show T = "str" from ty)
    exact ⟨typeIs_str s z t, fun _ e => nomatch e⟩
  | int i =>
    obtain ⟨t, rfl⟩ := r
    cases (show T = "int" from ty)
    exact ⟨typeIs_int s i t, fun _ e => nomatch e⟩
  | ref p =>
    cases r
    rcases ty with ⟨rfl, xs, hq⟩ | ⟨rfl, o, hk, hc, hd⟩ | ⟨rfl, hk⟩ | ⟨rfl, S, n, hk⟩
    · obtain ⟨its, _, pl, _⟩ := I.list hq
      refine ⟨pl.isList.typeIs, fun a e => ?_⟩
      cases e
      obtain ⟨o, n, e, c, hd, _⟩ := pl
      exact ⟨o, e, hd⟩
    · refine ⟨⟨o, I.kIn p o hk, hc⟩, fun a e => ?_⟩
      cases e
      exact ⟨o, I.kIn _ o hk, hd⟩
    · have z : ∃ o, s.heap.get? p = some o ∧ o.ExactDict := by
        rcases hk with ⟨kvs, hk⟩ | ⟨kvs, hk⟩
        · obtain ⟨_, _, _, _, o, _, _, e, ex, _⟩ := I.hok p _ hk
          exact ⟨o, e, ex⟩
        · obtain ⟨_, _, _, _, o, _, _, e, ex, _⟩ := I.hok p _ hk
          exact ⟨o, e, ex⟩
      obtain ⟨o, e, ex⟩ := z
      refine ⟨⟨o, e, ex.1⟩, fun a e2 => ?_⟩
      cases e2
      exact ⟨o, e, ex.2.1⟩
    · obtain ⟨o, _, _, _, e, ex, _⟩ := I.hok p _ hk
      refine ⟨⟨o, e, ex.1⟩, fun a e2 => ?_⟩
      cases e2
      exact ⟨o, e, ex.2.1⟩
  | _ => exact False.elim ty
noncomputable def tBM (K : PySem.W.Frag) (T : String) (r : V → List V → Hp → VK → Prop) (to : TE) (t : TA) : TE := fun σ H Q => to σ H fun x H1 => tyV K T x H1 ∧ t σ H1 fun xs H2 => r x xs H2 Q
variable {o e : Expr} {es : List Expr} {to : TE} {t : TA} {name : Str} {apos cpos : Pos} {T id : String} {r : V → List V → Hp → VK → Prop}
theorem pe_bm (pa : PlainAttrs T) (slot : Slot T name id) (hty : typeOf (.builtin id) = pure (.type "method_descriptor")) (hm : MtR X id r) (ho : PE X o to) (ha : PA X (e :: es) t)
    (hbase : autoParam (attributeBase o name X.env (eval o X.env) = eval o X.env) L2.auto4._auto_1)
    (hfew : ((backTo cpos (starEach (e :: es) X.env)).all (fun x => !x.1) && (backToKw cpos (keywordEach [] X.env)).all (fun x => x.1.isSome)
      && decide ((e :: es).length + ([] : List Keyword).length + (if ([] : List Keyword).isEmpty then 0 else 1) < 30)) = true := by rfl)
    (hline : autoParam ((apos.endLine == cpos.line) = true) L2.auto4._auto_1) (hs : autoParam (starEach (e :: es) X.env = (false, eval e X.env) :: starEach es X.env) L2.auto4._auto_1) (hplain : autoParam ((backTo cpos (starEach es X.env)).any (·.1) = false) L2.auto4._auto_1) :
    PE X (.Call (.Attribute o name apos) (e :: es) [] cpos) (tBM X.K T r to t) := by
  intro pins s σ H Q I h
  refine wpAny_Call_method_late hbase hfew hline rfl (thn (ho pins s σ H _ I h) fun v s1 qq0 => ?_)
  obtain ⟨x, H1, I1, r1, ty, q1⟩ := qq0
  obtain ⟨h1, h2⟩ := tyV_is I1 r1 ty
  refine ⟨T, id, pa, slot, hty, h1, h2, ?_⟩
  have hA := ha cpos pins s1 σ H1 _ I1 q1
  rw [hs] at hA ⊢
  refine Calls.callWith_builtin (by show (false || (backTo cpos (starEach es X.env)).any (·.1)) = false; rw [hplain] <;> rfl) (Calls.evalArgs_plain ?_)
  exact thn hA fun us s2 ⟨vs, H2, I2, r2, q2⟩ => hm pins s2 σ H2 x vs v us Q I2 r1 r2 q2
end
end L2

namespace L2
open PySem PySem.Spec PyProof.Rows

noncomputable def MtM (X : Cx) (id : String) (r : V → List V → Hp → VK → Prop) : Prop :=
  ∀ (pins : List (Addr × Obj)) (s : Shared) (σ : St) (H : Hp) (x : V) (xs : List V) (v : Value) (us : List Value) (Q : VK), Inv X pins σ H s → RelV x v → Vals xs us → r x xs H Q →
    wpAny (model X.prog X.w) X.A (call (.builtin id) (v :: us)) (EP X pins σ Q) X.xe s

theorem Vals.one : ∀ {x : V} {us : List Value}, Vals [x] us → ∃ u, us = [u] ∧ RelV x u
  | _, _, .cons r .nil => ⟨_, rfl, r⟩
theorem Vals.rep {xs : List V} {us : List Value} (h : Vals xs us) : ∀ k : Nat, Vals (List.replicate k xs).flatten (List.replicate k us).flatten
  | 0 => .nil
  | k + 1 => by
    rw [List.replicate_succ, List.replicate_succ, List.flatten_cons, List.flatten_cons]
    exact Vals.append h (Vals.rep h k)
theorem foldl_rep (its : List Value) : ∀ (k : Nat) (acc : List Value),
    List.foldl (fun x1 x2 => x1 ++ x2) acc.toArray (List.replicate k its.toArray) = (acc ++ (List.replicate k its).flatten).toArray
  | 0, acc => by simp
  | k + 1, acc => by
    have e : acc.toArray ++ its.toArray = (acc ++ its).toArray := by simp
    have e2 : (acc ++ its) ++ (List.replicate k its).flatten = acc ++ (List.replicate (k + 1) its).flatten := by
      rw [List.replicate_succ, List.flatten_cons, List.append_assoc]
    rw [← e2, ← foldl_rep its k (acc ++ its), ← e, List.replicate_succ, List.foldl_cons]

section
variable {X : Cx} {pins : List (Addr × Obj)} {σ : St} {H : Hp} {s : Shared} {l b : Addr} {xs ys zs : List V}

theorem Inv.lset {its its' : List Value} {n : Nat} {f : Array Value → Array Value} {t' : Nat} (I : Inv X pins σ H s) (hH : H l = some (.lst xs))
    (e : s.heap.get? l = some { cls := .type "list", data := .seq its.toArray n }) (hf : f its.toArray = its'.toArray) (hv : Vals ys its') (hz : ys.length ≤ sizeLine) :
    Inv X pins σ (upd H l (.lst ys)) { s with heap := s.heap.update l (Obj.mapSeq f), toks := t' } := by
  have q := PySem.IsL.update e f
  rw [hf] at q
  refine I.write (x := l) (e := l) (by rw [hH]; exact trivial) (.inl rfl) (fun b' u hb hu => (Heap.get?_update_other s.heap (Obj.mapSeq f) (Ne.symm hb)).trans hu) ⟨_, q⟩ ?_
  exact ⟨hz, its', _, hv, q⟩
theorem Inv.lnew {its : List Value} {t' : Nat} (I : Inv X pins σ H s) (hv : Vals ys its) (hz : ys.length ≤ sizeLine) :
    Inv X pins σ (upd H s.heap.objs.size (.lst ys)) { s with heap := s.heap.push { cls := .type "list", data := .seq its.toArray }, toks := t' } :=
  I.laid (fun _ _ q => Heap.get?_push_of_some _ q) (Nat.le_refl _) ⟨hz, its, 0, hv, Heap.get?_push_size _ rfl⟩
theorem Inv.fresh (I : Inv X pins σ H s) : H s.heap.objs.size = none := I.hok.fresh (Nat.le_refl _)
theorem Inv.lstM (I : Inv X pins σ H s) (hH : H l = some (.lst xs)) : xs.length ≤ sizeLine ∧ ∃ (its : List Value) (n : Nat), Vals xs its ∧ xs.length = its.length ∧ s.heap.get? l = some { cls := .type "list", data := .seq its.toArray n } := by
  obtain ⟨z, its, n, r, e⟩ := I.hok l _ hH
  exact ⟨z, its, n, r, r.length, e⟩

theorem notLongL {n : Nat} (h : n ≤ sizeLine) : Builtin.List.listTooLong n = false := by
  unfold Builtin.List.listTooLong
  exact decide_eq_false (by omega)
end

section
variable {X : Cx}

noncomputable def rAppend : V → List V → Hp → VK → Prop := fun x vs H Q => ∃ l xs y, x = .ref l ∧ vs = [y] ∧ H l = some (.lst xs) ∧ xs.length < sizeLine ∧ Q .non (upd H l (.lst (xs ++ [y])))
theorem mt_append : MtM X "list.append" rAppend := by
  intro pins s σ H x vs v us Q I rx rv h
  obtain ⟨l, xs, y, rfl, rfl, hH, hz, q⟩ := h
  cases rx
  obtain ⟨u, rfl, ru⟩ := rv.one
  obtain ⟨z, its, n, r, hl, e⟩ := I.lstM hH
  refine call_meets F.slot_list_append ⟨_, e, rfl⟩ F.entry_list_append (F.args_list_append_2 _ _) (PySem.list_append l its.toArray n u (by rw [List.size_toArray]; omega)) ⟨e, ?_⟩
  refine ⟨.non, _, I.lset (its' := its ++ [u]) hH e (by simp) (r.append (.cons ru .nil)) ?_, rfl, q⟩
  rw [List.length_append, List.length_singleton]
  omega

noncomputable def rExtend : V → List V → Hp → VK → Prop := fun x vs H Q => ∃ l b xs zs, x = .ref l ∧ vs = [.ref b] ∧ H l = some (.lst xs) ∧ H b = some (.lst zs) ∧ xs.length + zs.length ≤ sizeLine ∧ Q .non (upd H l (.lst (xs ++ zs)))
theorem mt_extend : MtM X "list.extend" rExtend := by
  intro pins s σ H x vs v us Q I rx rv h
  obtain ⟨l, b, xs, zs, rfl, rfl, hH, hB, hz, q⟩ := h
  cases rx
  obtain ⟨u, rfl, ru⟩ := rv.one
  cases ru
  obtain ⟨z, its, n, r, hl, e⟩ := I.lstM hH
  obtain ⟨z2, its2, n2, r2, hl2, e2⟩ := I.lstM hB
  have hsz : its.toArray.size + its2.toArray.size ≤ sizeLine := by rw [List.size_toArray, List.size_toArray]; omega
  have hlong : ¬ (!its.toArray.isEmpty && Builtin.List.listTooLong (its.toArray.size + its2.toArray.size)) = true := by
    rw [notLongL hsz, Bool.and_false]
    exact Bool.false_ne_true
  refine call_meets F.slot_list_extend ⟨_, e, rfl⟩ F.entry_list_extend (F.args_list_extend_2 _ _)
    (AutoSeq1.list_extend_list_list_0 l its.toArray n b its2.toArray n2 hlong (by rw [List.size_toArray]; omega) (by omega)) ⟨e, e2, ?_⟩
  refine ⟨.non, _, I.lset (its' := its ++ its2) hH e (by simp) (r.append r2) ?_, rfl, q⟩
  rw [List.length_append]
  omega

noncomputable def rCat : R2 := fun x y H Q => ∃ l b xs zs, x = .ref l ∧ y = .ref b ∧ H l = some (.lst xs) ∧ H b = some (.lst zs) ∧ xs.length + zs.length ≤ sizeLine ∧ ∀ p, H p = none → Q (.ref p) (upd H p (.lst (xs ++ zs)))
theorem op_cat : OpR X (binaryOp .Add) rCat := by
  intro pins s σ H x y v u Q I rx ry h
  obtain ⟨l, b, xs, zs, rfl, rfl, hH, hB, hz, q⟩ := h
  cases rx
  cases ry
  obtain ⟨z, its, n, r, hl, e⟩ := I.lstM hH
  obtain ⟨z2, its2, n2, r2, hl2, e2⟩ := I.lstM hB
  refine PySem.P.add_list e e2 ?_ (by rw [List.size_toArray, List.size_toArray]; omega)
  have ea : its.toArray ++ its2.toArray = (its ++ its2).toArray := by simp
  rw [ea]
  exact ⟨.ref _, _, I.lnew (t' := s.toks) (r.append r2) (by rw [List.length_append]; omega), rfl, q _ I.fresh⟩
noncomputable def rRep : R2 := fun x y H Q => ∃ l k xs, x = .ref l ∧ y = .int k ∧ H l = some (.lst xs) ∧ -(2 ^ 63) ≤ k ∧ k < 2 ^ 63 ∧ xs.length * k.toNat ≤ sizeLine ∧
  ∀ p, H p = none → Q (.ref p) (upd H p (.lst (List.replicate k.toNat xs).flatten))
theorem len_rep {α : Type} (xs : List α) (k : Nat) : (List.replicate k xs).flatten.length = k * xs.length := by
  induction k with
  | zero => simp
  | succ k ih => rw [List.replicate_succ, List.flatten_cons, List.length_append, ih, Nat.succ_mul, Nat.add_comm]
theorem op_rep : OpR X (binaryOp .Mult) rRep := by
  intro pins s σ H x y v u Q I rx ry h
  obtain ⟨l, k, xs, rfl, rfl, hH, h1, h2, hz, q⟩ := h
  cases rx
  obtain ⟨t, rfl⟩ := ry
  obtain ⟨z, its, n, r, hl, e⟩ := I.lstM hH
  have hlen : its.toArray.size * k.toNat ≤ sizeLine := by rw [List.size_toArray, ← hl]; exact hz
  have hcap : ¬ its.toArray.size * k.toNat > (2 ^ 63 - 1) / 8 := by
    have : (sizeLine : Nat) ≤ (2 ^ 63 - 1) / 8 := by decide
    omega
  have hfit : ¬ (!Builtin.List.listFitsIndex k) = true := by
    rw [fitsIndex_both h1 h2]
    exact Bool.false_ne_true
  have hlong : ¬ Builtin.List.listTooLong (its.toArray.size * k.toNat) = true := by
    rw [notLongL hlen]
    exact Bool.false_ne_true
  have hnew : List.foldl (fun x1 x2 => x1 ++ x2) #[] (List.replicate (if its.toArray.isEmpty = true then 0 else k.toNat) its.toArray) = (List.replicate k.toNat its).flatten.toArray := by
    have f0 : ∀ m : Nat, List.foldl (fun x1 x2 => x1 ++ x2) #[] (List.replicate m its.toArray) = (List.replicate m its).flatten.toArray := fun m => by
      have := foldl_rep its m []
      rw [List.nil_append] at this
      exact this
    rw [f0]
    cases its with
    | nil => simp
    | cons a r' => rw [if_neg (by simp)]
  refine wpAny_binaryOp_repeat_ref (T := "list") (U := "int") (by decide) ⟨_, e, rfl⟩ (fun s' => typeIs_int s' k t) noFill_list_mul F.fills_int_mul F.slot_int_rmul repeat_list F.slot_int_index.lookup
    (call_meets F.slot_int_rmul (typeIs_int s k t) F.entry_int_rmul (F.args_int_rmul_2 _ _) (int___rmul___int_list k t l its.toArray n)
      ⟨e, rfl, ⟨_, e, rfl⟩, call_meets F.slot_list_mul ⟨_, e, rfl⟩ F.entry_list_mul (F.args_list_mul_2 _ _) (AutoListH.list___mul___list_int_3 l its.toArray n k t hfit hcap hlong) ⟨e, ?_⟩⟩)
  rw [hnew]
  exact ⟨.ref _, _, I.lnew (t' := s.toks) (r.rep k.toNat) (by rw [len_rep, Nat.mul_comm]; exact hz), rfl, q _ I.fresh⟩

end

section
variable {prog : Program} {w : World} {A : Around} {E : Value → Shared → Prop} {s : Shared}
end

section
variable {X : Cx}
end
end L2

namespace Att
open PySem PySem.W PySem.Calls PyProof.Rows

theorem ints_of_wellAll {P : Params} {h : Heap} : ∀ (ns : List Int) (vs : List Value), WellAll P h vs (ns.map WData.int) → IntsAre vs ns := by
  intro ns
  induction ns with
  | nil =>
    intro vs w
    rw [List.map_nil] at w
    cases w
    exact .nil
  | cons n ns ih =>
    intro vs w
    rw [List.map_cons] at w
    cases w with
    | cons a b =>
      cases a
      exact .cons _ _ (ih _ b)

theorem script_of {l : OpenLaw} {n : Nat} (hn : l.most = some n) {P : Params} {h : Heap} {args : List WData} {vals : List Value}
    (hpre : l.row.toRowW.claim.pre args = true) (hwl : WellAll P h vals args) :
    ∃ a vs ns, vals = [Value.ref a] ∧ args = [WData.list (ns.map WData.int)] ∧ h.get? a = some { cls := .type "list", data := .seq vs.toArray } ∧ IntsAre vs ns ∧ ns.length ≤ n := by
  have hsh : WShape.hasAll [] args [.list .int] = true := (pre_splitW hpre).1
  have hc : l.pre.holds [] { args := args } = true := (pre_splitW hpre).2
  obtain ⟨d, r, rfl, h1, h2⟩ := hasAllW_cons hsh
  obtain rfl := hasAllW_nil h2
  obtain ⟨xs, rfl, h3⟩ := hasW_list h1
  obtain ⟨ns, rfl⟩ := items_int h3
  have hlen : ns.length ≤ n := by
    unfold OpenLaw.pre at hc
    have h4 : (WTm.not (.lt (.lit (.int (n : Int))) (.len (.arg 0)))).holds [] { args := [.list (ns.map .int)] } = true := by
      have h4 := (holds_andW hc).1
      rw [hn] at h4
      exact h4
    have h5 := condW_of h4 (w_not (w_lt w_lit (w_len_list (w_arg rfl))))
    rw [List.length_map] at h5
    refine Nat.le_of_not_lt fun q => ?_
    have q' : (n : Int) < ((ns.length : Nat) : Int) := by omega
    first
      | (rw [decide_eq_true q'] at h5; exact absurd h5 (by decide))
      | (simp at h5; omega)
  cases hwl with
  | cons w1 w2 =>
    cases w2
    cases w1 with
    | list ho hall => exact ⟨_, _, ns, rfl, rfl, ho, ints_of_wellAll ns _ hall, hlen⟩

theorem post_true (l : OpenLaw) (args : List WData) : l.row.toRowW.claim.post args (.bool true) args = true :=
  postW_of (r := l.row.toRowW) (X := (true == true))
    (show WShape.has [] (.bool true) .bool = true by first | rfl | decide | simp [WShape.has, WShape.arms, WShape.armsAll])
    (show (WTm.eq .res (.lit (.bool true))).value [] { args := args, res := some (.bool true), after := args } = some (.bool (true == true)) from w_eq_bool (w_res rfl) w_lit) rfl

theorem attach_call {l : OpenLaw} {n : Nat} {q : Program} {loose : List Str} {XP : (Str → Option Value) → Heap → Prop} {YP : World → Heap → Prop} {d : DefRec}
    (hn : l.most = some n) (hdf : d.params.defaults = [])
    (call : ∀ (w : World) (s₀ s₁ : Shared) (mg mb : Str → Option Value) (fa : Addr) (o : Obj) (pm cd doc : Value) (a : Addr) (vs : List Value) (ns : List Int),
      Ground q loose [] XP w s₀ mg mb s₁.heap → YP w s₁.heap →
      s₁.heap.get? fa = some o → o.data = .func (docDef d.name d.params d.body d.scope pm cd doc) → s₁.heap.CodeRec cd d.name → mg d.name = some (.ref fa) →
      s₁.heap.get? a = some { cls := .type "list", data := .seq vs.toArray } → IntsAre vs ns → ns.length ≤ n → s₁.gens = #[] →
      codeAny (model l.prog w) callerA (.call (.ref fa) ⟨[.ref a], []⟩) (fun r s' => r = .ok (.ret (.bool true)) ∧ OldK s₁.heap s'.heap ∧ s'.os = s₁.os ∧ AllBare s'.gens) s₁) :
    WalkO q loose XP YP l.row.toRowW d [] (fun f vs => PySem.call f vs) := by
  intro w s₀ s₁ mg mb G Y fa o pm cd doc dV kV ho hd hcd hD hmg hg args vals as hpre hlay hrd hwl hlo
  obtain rfl : dV = .none := Dflts.none hD hdf
  obtain rfl : kV = .none := Dflts.noKw hD
  obtain ⟨a, vs, ns, rfl, rfl, hobj, hints, hlen⟩ := script_of hn hpre hwl
  refine enter_call (codeAny_mono (call w s₀ s₁ mg mb fa o pm cd doc a vs ns G Y ho (fd_plain hd) hcd hmg hobj hints hlen hg) fun r s' hq => ?_)
  obtain ⟨rfl, h2, h3, h4⟩ := hq
  exact ⟨.inl ⟨.bool true, .bool true, [], rfl, fun _ => rfl, .bool true, post_true l _, fun _ => ⟨List.Pairwise.nil, fun _ hm => (nomatch hm)⟩⟩, h2, h3, h4⟩

section
variable {prog : Program} {w : World} {A : Around} {E : Value → Shared → Prop} {s : Shared} {K : Frag}

end
end Att

namespace L2
open PySem PySem.Spec PyProof.Rows

theorem vals_ints : ∀ {vs : List Value} {ns : List Int}, IntsAre vs ns → Vals (ns.map V.int) vs
  | _, _, .nil => .nil
  | _, _, .cons n t h => .cons ⟨t, rfl⟩ (vals_ints h)

noncomputable def Only (H : Hp) : Prop := ∀ b, H b = none ∨ ∃ o xs, H b = some (.frz o (.lst xs))

theorem law_call {P : Program} {w : World} {K : PySem.W.Frag} {mg mb : Str → Option Value} {CX : CXT} {k : Nat} {fa a : Addr} {fd : FuncData} {x : Str} {sp : Sp} {s₁ : Shared} {vs : List Value} {ns : List Int}
    (KX : K.In s₁.heap) (hns : s₁.heap.Ns mainGlobals mg) (hb : s₁.heap.Ns builtinsNs mb) (hbb : ∀ x : Str, x ≠ "__name__" → mb x = bootBuiltins x) (hlim : s₁.heap.NoLimit) (hsm : ∃ mm, s₁.heap.Ns sysModules mm) (hg : s₁.gens = #[])
    (ha : s₁.heap.get? a = some { cls := .type "list", data := .seq vs.toArray }) (hi : IntsAre vs ns) (hl : ns.length ≤ sizeLine) (hr : Room k callerA)
    (F : ∀ base : Heap, K.In base → base.Ns mainGlobals mg → FnOk P w K mg base CX k fa fd [x] sp) (hbind : ∀ (s : Shared) (u : Value), BindsTo s fd ⟨[u], []⟩ [(x, u)])
    (hsp : ∀ H : Hp, Only H → SqL K H a (ns.map V.int) → sp [.ref a] H (fun v _ => v = .bl true) fun _ _ _ => False)
    (hCX : ∀ H e s', CX [] H s₁ (fun _ _ _ => False) e s' → False) :
    codeAny (model P w) callerA (.call (.ref fa) ⟨[.ref a], []⟩) (fun r s' => r = .ok (.ret (.bool true)) ∧ OldK s₁.heap s'.heap ∧ s'.os = s₁.os ∧ AllBare s'.gens) s₁ := by
  have rv := vals_ints hi
  have lenV := hi.length
  -- from an abstract heap in which nothing but the script may be tracked
  have core : ∀ H : Hp, Only H → SqL K H a (ns.map V.int) → HOk P w H s₁.heap → (∀ b, H b ≠ none → b = a) → (H a ≠ none → K.lookup a = none) →
      codeAny (model P w) callerA (.call (.ref fa) ⟨[.ref a], []⟩) (fun r s' => r = .ok (.ret (.bool true)) ∧ OldK s₁.heap s'.heap ∧ s'.os = s₁.os ∧ AllBare s'.gens) s₁ := by
    intro H hO hS hok hA hK
    have base_of : ∀ {b : Addr} {o : Obj}, s₁.heap.get? b = some o → H b = none → (hidT s₁.heap H).get? b = some o := fun e n => hidT_get e n
    have noA : ∀ {b : Addr} {o : Obj} {es : Array DictEntry} {ep : Nat}, s₁.heap.get? b = some o → o.data = .dict es ep → H b = none := fun {b o es ep} e d => by
      cases q : H b with
      | none => rfl
      | some u =>
        have e' : b = a := hA b (by rw [q]; simp)
        subst e'
        rw [ha] at e; cases e
        have d' : Data.seq vs.toArray _ = Data.dict es ep := d
        cases d'
    have nsK : ∀ {b : Addr} {m : Str → Option Value}, s₁.heap.Ns b m → (hidT s₁.heap H).Ns b m := fun {b m} ⟨o, es, ep, e, d, r⟩ => ⟨o, es, ep, base_of e (noA e d), d, r⟩
    have hKb : K.In (hidT s₁.heap H) := fun b o e => base_of (KX b o e) (by
      cases q : H b with
      | none => rfl
      | some u =>
        have e' : b = a := hA b (by rw [q]; simp)
        subst e'
        rw [hK (by rw [q]; simp)] at e; cases e)
    have hM : Mod K mg (hidT s₁.heap H) := ⟨hKb, nsK hns, ⟨mb, nsK hb, hbb⟩, (let ⟨mc, h1, h2⟩ := hlim; ⟨mc, nsK h1, h2⟩), let ⟨mm, h1⟩ := hsm; ⟨mm, nsK h1⟩⟩
    have e0 : Env0 P w K mg (hidT s₁.heap H) callerA [] s₁ H := ⟨rfl, hM, fun b o e => of_hidT e, Nat.le_of_eq (hidT_size _ _), trivial, fun b hb => absurd (show b ∈ ([] : List Addr) from hb) (by simp), hok, .of_eq hg⟩
    refine codeAny_mono ((F _ hKb (nsK hns)).run callerA [] s₁ H ⟨[.ref a], []⟩ [.ref a] [.ref a] _ _ hr e0 (hbind s₁ (.ref a)) (.cons rfl .nil) (hsp H hO hS)) fun r s' h => ?_
    cases r with
    | error e => exact (hCX H e s' h).elim
    | ok fl =>
      cases fl with
      | next => exact False.elim h
      | brk => exact False.elim h
      | cont => exact False.elim h
      | ret u =>
        obtain ⟨v, H', os, bare, un, hok', r', q⟩ := h
        have q' : v = .bl true := q
        subst q'
        obtain rfl : u = Value.bool true := r'
        refine ⟨rfl, OldK.of_keep fun b o e => ?_, os, bare⟩
        cases q : H b with
        | none => exact un.keep b o e q (by intro z; exact absurd (show b ∈ ([] : List Addr) from z) (by simp)) (by simp)
        | some u =>
          rcases hO b with z | ⟨ob, xs, z⟩
          · rw [q] at z; cases z
          · have z2 := un.frzs b ob _ z
            obtain ⟨e1, _⟩ := hok b _ z
            obtain ⟨e2, _⟩ := hok' b _ z2
            rw [e] at e1; cases e1
            exact e2
  cases hk : K.lookup a with
  | some o =>
    -- the script is one of the module's own objects
    have e := KX a o hk
    rw [ha] at e
    cases e
    refine core (fun _ => none) (fun _ => .inl rfl) (.inr ⟨_, vs.toArray, _, hk, rfl, rfl, rfl, by rw [List.size_toArray, lenV]; exact hl, by simpa using rv⟩) (fun b u z => by have z' : (none : Option HO) = some u := z; cases z') (fun b z => absurd rfl z) fun z => absurd rfl z
  | none =>
    refine core (fun b => if b = a then some (.frz { cls := .type "list", data := .seq vs.toArray } (.lst (ns.map V.int))) else none) (fun b => ?_) (.inl (.inr ⟨{ cls := .type "list", data := .seq vs.toArray }, if_pos rfl⟩)) (fun b u z => ?_) (fun b z => ?_) fun _ => hk
    · by_cases hb : b = a
      · exact .inr ⟨_, _, if_pos hb⟩
      · exact .inl (if_neg hb)
    · by_cases hb : b = a
      · have z' := (if_pos hb).symm.trans z
        cases z'
        subst hb
        exact ⟨ha, by rw [List.length_map]; exact hl, vs, _, rv, ha⟩
      · have z' := (if_neg hb).symm.trans z
        cases z'
    · by_cases hb : b = a
      · exact hb
      · exact absurd (if_neg hb) z
end L2

namespace L2
open PySem PySem.Spec PyProof.Rows

noncomputable abbrev KOf {K : PySem.W.Frag} {h : Heap} (_ : K.In h) : PySem.W.Frag := K

theorem walk_of {l : PySem.W.OpenLaw} {n k : Nat} {q : Program} {loose : List Str} {XP : (Str → Option Value) → Heap → Prop} {YP : World → Heap → Prop} {d : DefRec} {K : Params → PySem.W.Frag} {CX : World → CXT} {sp : World → Sp} {x : Str}
    (hn : l.most = some n) (hn2 : n ≤ sizeLine) (hdf : d.params.defaults = []) (hr : Room k callerA)
    (hY : ∀ (w : World) (h : Heap), YP w h → (K w.params).In h)
    (F : ∀ (w : World) (mg : Str → Option Value) (fa : Addr) (h : Heap), (K w.params).In h → h.Ns mainGlobals mg → mg d.name = some (.ref fa) →
      ∃ fd : FuncData, (∀ (s : Shared) (u : Value), BindsTo s fd ⟨[u], []⟩ [(x, u)]) ∧
        ∀ base : Heap, (K w.params).In base → base.Ns mainGlobals mg → FnOk l.prog w (K w.params) mg base (CX w) k fa fd [x] (sp w))
    (hsp : ∀ (w : World) (H : Hp) (a : Addr) (ns : List Int), ns.length ≤ n → Only H → SqL (K w.params) H a (ns.map V.int) → sp w [.ref a] H (fun v _ => v = .bl true) fun _ _ _ => False)
    (hCX : ∀ (w : World) (H : Hp) (s : Shared) (e : Value) (s' : Shared), CX w [] H s (fun _ _ _ => False) e s' → False) (him : importsNone q = true) :
    PySem.W.WalkO q loose XP YP l.row.toRowW d [] (fun f vs => PySem.call f vs) := by
  refine Att.attach_call hn hdf fun w s₀ s₁ mg mb fa o pm cd doc a vs ns G Y ho hd hcd hmg hobj hints hlen hg => ?_
  have KX := hY w _ Y
  obtain ⟨fd, hb, hF⟩ := F w mg fa _ KX G.T.g hmg
  exact law_call KX G.T.g G.T.b G.T.builtins G.T.nolimit (let ⟨mm, h1, _⟩ := (G.T.seer him).mods; ⟨mm, h1⟩) hg hobj hints (Nat.le_trans hlen hn2) hr hF hb (fun H hO hS => hsp w H a ns hlen hO hS) fun H e s' => hCX w H s₁ e s'
end L2


namespace L2
open PySem PySem.Spec PyProof.Rows

noncomputable def defArgs (s : Stmt) : Arguments := match s with
  | .FunctionDef _ a _ _ _ _ _ _ _ _ => a
  | _ => { posonlyargs := [], args := [], vararg := none, kwonlyargs := [], kw_defaults := [], kwarg := none, defaults := [] }
noncomputable def defBody (s : Stmt) : List Stmt := match s with
  | .FunctionDef _ _ b _ _ _ _ _ _ _ => b
  | _ => []
noncomputable def defScope (s : Stmt) : Scope := match s with
  | .FunctionDef _ _ _ _ _ _ sc _ _ _ => sc
  | _ => { kind := .function, names := [], isGenerator := false, isCoroutine := false }

noncomputable abbrev CX0 : CXT := fun _ _ _ _ _ _ => False
noncomputable abbrev E0 : XK := fun _ _ _ => False
theorem pass0 {X : Cx} : Passes CX0 X E0 := fun _ _ _ _ _ _ _ h => h.elim

structure Fun (K : PySem.W.Frag) (x qual : Str) (st : Stmt) (f : Addr) (fd : FuncData) : Prop where
  ex : ∃ (oc : Value) (od : Option Addr) (kV doc pm : Value) (an : Option Addr) (cdv ct : Value) (osl : Array (Option Value)),
    fd = PySem.W.fnOf x qual (defArgs st) (defBody st) (defScope st) .none kV doc pm an cdv ct ∧ K.lookup f = some ⟨oc, od, .func fd, osl⟩ ∧ PySem.W.codeIn K cdv qual = true
  kp : PySem.W.keepIn K (.ref f) = true
section
variable {P : Program} {w : World} {K : PySem.W.Frag} {mg : Str → Option Value} {base : Heap}
theorem Fun.ok {x qual : Str} {st : Stmt} {f : Addr} {fd : FuncData} {N ps : List Str} {k : Nat} {sp : Sp} (F : Fun K x qual st f fd) (S : FnScope N ps (defScope st)) (len : ∀ vs H Q E, sp vs H Q E → vs.length = ps.length)
    (hbody : ∀ (cdv : Value) (A : Around) (outer : List Env) (s : Shared) (H : Hp) (vs : List V) (Q : VK) (E : XK), Room k (A.deeper (envOfC qual (defScope st) s.heap.objs.size f cdv)) → sp vs H Q E →
      ∃ t, PSs (cxOf CX0 P w K mg base N qual (defScope st) f cdv A outer s H E).nox (defBody st) t ∧ t { nx := fun _ H' => Q .non H', rt := Q } (start N vs) H) : FnOk P w K mg base CX0 (k + 1) f fd ps sp := by
  obtain ⟨oc, od, kV, doc, pm, an, cdv, ct, osl, rfl, lk, hcd⟩ := F.ex
  refine fn_of lk hcd S len fun A outer s H vs Q E hr hsp => ?_
  obtain ⟨t, h, q⟩ := hbody cdv A outer s H vs Q E hr hsp
  exact ⟨t, h.nox, q⟩
theorem Fun.binds {x qual : Str} {st : Stmt} {f : Addr} {fd : FuncData} {ps : List Str} (F : Fun K x qual st f fd)
    (h : ∀ (kV doc pm : Value) (an : Option Addr) (cdv ct : Value) (us : List Value), us.length = ps.length → bindArgs (PySem.W.fnOf x qual (defArgs st) (defBody st) (defScope st) .none kV doc pm an cdv ct) ⟨us, []⟩ = pure (ps.zip us)) : Binds K fd ps [] := by
  obtain ⟨oc, od, kV, doc, pm, an, cdv, ct, osl, rfl, lk, hcd⟩ := F.ex
  exact .all (h kV doc pm an cdv ct)
theorem fun_mk {x qual : Str} {st : Stmt} {f : Addr} {oc : Value} {od an : Option Addr} {osl : Array (Option Value)} {kV doc pm cdv ct : Value} (l : K.lookup f = some ⟨oc, od, .func (PySem.W.fnOf x qual (defArgs st) (defBody st) (defScope st) .none kV doc pm an cdv ct), osl⟩)
    (c : PySem.W.codeIn K cdv qual = true) (k : PySem.W.keepIn K (.ref f) = true) : Fun K x qual st f (PySem.W.fnOf x qual (defArgs st) (defBody st) (defScope st) .none kV doc pm an cdv ct) := ⟨⟨oc, od, kV, doc, pm, an, cdv, ct, osl, rfl, l, c⟩, k⟩
end
section
variable {X : Cx}
end

theorem iteF {A B : Prop} (h : B) : if false = true then A else B := by
  rw [if_neg Bool.false_ne_true]
  exact h
theorem iteT {A B : Prop} (h : A) : if true = true then A else B := by
  rw [if_pos rfl]
  exact h
noncomputable def Same (H H' : Hp) : Prop := ∀ b o, H b = some o → H' b = some o
theorem Same.refl (H : Hp) : Same H H := fun _ _ h => h
theorem Same.trans {H H1 H2 : Hp} (a : Same H H1) (b : Same H1 H2) : Same H H2 := fun c o h => b c o (a c o h)
end L2

set_option maxHeartbeats 4000000
namespace L2
open PySem PySem.Spec PyProof.Rows

noncomputable def clOf (env : Env) : List (Str × NameKind) → List (Str × Addr) → List (Str × Addr)
  | [], acc => acc
  | (n, k) :: r, acc => clOf env r (if k == .free then (match env.cells.lookup n with | some c => (n, c) :: acc | none => acc) else acc)
theorem clOf_mem {env : Env} : ∀ {names : List (Str × NameKind)} {acc : List (Str × Addr)}, (∀ x c, (x, c) ∈ acc → env.cells.lookup x = some c) → ∀ x c, (x, c) ∈ clOf env names acc → env.cells.lookup x = some c
  | [], _, h, x, c, m => h x c m
  | (n, k) :: r, acc, h, x, c, m => by
    refine clOf_mem (names := r) ?_ x c m
    intro y d hm
    cases hk : (k == NameKind.free) with
    | false => rw [hk] at hm; exact h y d hm
    | true =>
      rw [hk] at hm
      simp only [if_true] at hm
      cases e : env.cells.lookup n with
      | none => rw [e] at hm; exact h y d hm
      | some c' =>
        rw [e] at hm
        rcases List.mem_cons.mp hm with z | z
        · cases z; exact e
        · exact h y d z
theorem clOf_sub {env : Env} : ∀ {names : List (Str × NameKind)} {acc : List (Str × Addr)} {p : Str × Addr}, p ∈ acc → p ∈ clOf env names acc
  | [], _, _, h => h
  | (n, k) :: r, acc, p, h => by
    refine clOf_sub (names := r) ?_
    split
    · split
      · exact List.mem_cons_of_mem _ h
      · exact h
    · exact h
theorem clOf_has {env : Env} {x : Str} {c : Addr} (e : env.cells.lookup x = some c) : ∀ {names : List (Str × NameKind)} {acc : List (Str × Addr)}, (x, NameKind.free) ∈ names → (x, c) ∈ clOf env names acc
  | [], _, h => by simp at h
  | (n, k) :: r, acc, h => by
    rcases List.mem_cons.mp h with z | z
    · cases z
      refine clOf_sub (names := r) ?_
      rw [e]
      simp
    · exact clOf_has e (names := r) z
theorem lookup_of_all {l : List (Str × Addr)} {x : Str} {c : Addr} (hm : (x, c) ∈ l) (ha : ∀ d, (x, d) ∈ l → d = c) : l.lookup x = some c := by
  induction l with
  | nil => simp at hm
  | cons p r ih =>
    obtain ⟨n, d⟩ := p
    by_cases e : x = n
    · subst e
      have : d = c := ha d (by simp)
      subst this
      simp [List.lookup_cons]
    · have hb : (x == n) = false := by simpa using e
      rw [List.lookup_cons, hb]
      refine ih ?_ fun d' h' => ha d' (List.mem_cons_of_mem _ h')
      rcases List.mem_cons.mp hm with z | z
      · cases z; exact absurd rfl e
      · exact z
theorem clOf_lookup {env : Env} {names : List (Str × NameKind)} {x : Str} {c : Addr} (e : env.cells.lookup x = some c) (h : (x, NameKind.free) ∈ names) : (clOf env names []).lookup x = some c :=
  lookup_of_all (clOf_has e h) fun d hd => by
    have q := clOf_mem (names := names) (acc := []) (env := env) (by simp) x d hd
    rw [e] at q
    exact (Option.some.inj q).symm
theorem clOf_some {env : Env} {names : List (Str × NameKind)} {x : Str} {c : Addr} (e : (clOf env names []).lookup x = some c) : env.cells.lookup x = some c :=
  clOf_mem (names := names) (acc := []) (env := env) (by simp) x c (PySem.mem_of_lookup e)

theorem closure_eq {env : Env} : ∀ (names : List (Str × NameKind)) (acc : List (Str × Addr)), (∀ x ∈ names, x.2 = NameKind.free → ∃ c, env.cells.lookup x.1 = some c) →
    (forIn (m := Sem) names acc fun x r => match x with
      | (name, kind) => if (kind == NameKind.free) = true then do let c ← cellOf env name; pure (ForInStep.yield ((name, c) :: r)) else pure (ForInStep.yield r)) = pure (clOf env names acc)
  | [], acc, _ => rfl
  | (n, k) :: r, acc, h => by
    rw [List.forIn_cons]
    cases hk : (k == NameKind.free) with
    | false =>
      simp only [hk, Bool.false_eq_true, if_false, pure_bind, clOf]
      exact closure_eq r acc fun x hx => h x (List.mem_cons_of_mem _ hx)
    | true =>
      obtain ⟨c, e⟩ := h (n, k) List.mem_cons_self (by simpa using hk)
      simp only [hk, if_true, pure_bind, clOf, cellOf, e]
      exact closure_eq r ((n, c) :: acc) fun x hx => h x (List.mem_cons_of_mem _ hx)
theorem closureFor_cl {scope : Scope} {env : Env} (h : ∀ x ∈ scope.names, x.2 = NameKind.free → ∃ c, env.cells.lookup x.1 = some c) : closureFor scope env = pure (clOf env scope.names []) := by
  unfold closureFor
  have := closure_eq (env := env) scope.names [] h
  simp only [this, pure_bind]

theorem comp_loop {prog : Program} {w : World} {A : Around} {R : Result → Shared → Prop} {s : Shared} {elt target iter : Expr} {ifs : List Expr} {scope : Scope} {pos : Pos} {it acc : Value} {env : Env} (I : Nat → Shared → Prop)
    (turn : ∀ n s, I n s → wpAny (model prog w) A (pyNext it) (fun r s₁ => match r with
      | none => R (.ok .next) s₁
      | some v => wpAny (model prog w) A (letOwnedTupleGo target it v) (fun _ s₁' => wpAny (model prog w) A (assign target env v) (fun _ s₂ =>
          wpAny (model prog w) A (forIn ifs true fun c r => if r = true then do let ok ← isTrue c env (eval c env); pure (ForInStep.yield ok) else pure (ForInStep.yield r)) (fun ok s₃ =>
            if ok = true then wpAny (model prog w) A (eval elt env) (fun x s₄ =>
              wpAny (model prog w) A (call (.builtin "list.append") [acc, x]) (fun _ s₅ => ∃ m, m < n ∧ I m s₅) (fun _ _ => False) s₄) (fun _ _ => False) s₃
            else ∃ m, m < n ∧ I m s₃) (fun _ _ => False) s₂) (fun _ _ => False) s₁') (fun _ _ => False) s₁) (fun _ _ => False) s)
    (n : Nat) (h : I n s) :
    codeAny (model prog w) A (.compLoop (.ListComp elt [⟨target, iter, ifs, 0⟩] scope pos) 0 it acc env) R s := by
  refine codeAny_loop rfl I (fun n s hI => ?_) n h
  show wpAny _ A ((compTurn (.ListComp elt [⟨target, iter, ifs, 0⟩] scope pos) 0 it acc env).onRaise (fun x => do noteFrame x env; theTreesLotGoes x)) _ _ s
  refine wpAny_noted ?_
  rw [compTurn_list]
  refine wpAny_bind (wpAny_standAt (wpAny_bind (wpAny_mono (turn n s hI) (fun r s₁ h₁ => ?_) fun _ _ h' => h'.elim)))
  cases r with
  | none => exact wpAny_pure h₁
  | some v =>
    refine wpAny_bind (wpAny_mono h₁ (fun _ s₁' h₁' => ?_) fun _ _ h' => h'.elim)
    refine wpAny_bind (wpAny_mono h₁' (fun _ s₂ h₂ => wpAny_bind (wpAny_mono h₂ (fun ok s₃ h₃ => ?_) fun _ _ h' => h'.elim)) fun _ _ h' => h'.elim)
    cases ok with
    | false => exact wpAny_pure ⟨rfl, h₃⟩
    | true =>
      exact wpAny_bind (wpAny_bind (wpAny_mono h₃ (fun x s₄ h₄ => wpAny_bind (wpAny_mono h₄ (fun _ s₅ h₅ => wpAny_pure (wpAny_pure ⟨rfl, h₅⟩)) fun _ _ h' => h'.elim)) fun _ _ h' => h'.elim))
end L2

namespace L2
open PySem PySem.Spec PyProof.Rows

noncomputable def cxC (X : Cx) (N' : List Str) (scope : Scope) (C : Addr) (s₀ : Shared) (H₀ : Hp) (ex : List Addr) : Cx :=
  { X with N := N', s₀ := s₀, H₀ := H₀, env := compEnvC scope (clOf X.env scope.names []) C X.env, outer := X.stack, ex := ex, fn := fun _ => false, pn := [], xe := fun _ _ => False }
noncomputable def subSt (sub : List (Option Nat)) (σ : St) : St := sub.map fun o => o.bind fun j => (σ[j]?).join
structure SubOk (N : List Str) (sc : Scope) (N' : List Str) (scope : Scope) (sub : List (Option Nat)) : Prop where
  kind : scope.kind = .function
  nocell : ∀ x ∈ scope.names, x.2 ≠ .cell
  loc : ∀ x ∈ scope.names, x.2 = .local → scope.names.lookup x.1 = some .local
  free : ∀ x ∈ scope.names, x.2 = .free → sc.names.lookup x.1 = some .cell ∨ sc.names.lookup x.1 = some .free
  len : sub.length = N'.length
  at_ : ∀ (i j : Nat) (x : Str), sub[i]? = some (some j) → N'[i]? = some x → N[j]? = some x ∧ (x, NameKind.free) ∈ scope.names ∧ scope.names.lookup x = some .free
noncomputable def subOkB (N : List Str) (sc : Scope) (N' : List Str) (scope : Scope) (sub : List (Option Nat)) : Bool :=
  decide (scope.kind = .function) && scope.names.all (fun x => decide (x.2 ≠ .cell)) && scope.names.all (fun x => decide (x.2 = .local → scope.names.lookup x.1 = some .local)) &&
  scope.names.all (fun x => decide (x.2 = .free → sc.names.lookup x.1 = some .cell ∨ sc.names.lookup x.1 = some .free)) && decide (sub.length = N'.length) &&
  (List.range sub.length).all fun i => match sub[i]?, N'[i]? with
    | some (some j), some x => decide (N[j]? = some x ∧ (x, NameKind.free) ∈ scope.names ∧ scope.names.lookup x = some .free)
    | _, _ => true
theorem subOk_of {N : List Str} {sc : Scope} {N' : List Str} {scope : Scope} {sub : List (Option Nat)} (h : subOkB N sc N' scope sub = true) : SubOk N sc N' scope sub := by
  simp only [subOkB, Bool.and_eq_true, decide_eq_true_eq, List.all_eq_true] at h
  obtain ⟨⟨⟨⟨⟨h1, h2⟩, h3⟩, h4⟩, h5⟩, h6⟩ := h
  refine ⟨h1, h2, h3, h4, h5, fun i j x e1 e2 => ?_⟩
  have hi : i < sub.length := (List.getElem?_eq_some_iff.mp e1).1
  have q := h6 i (List.mem_range.mpr hi)
  rw [e1, e2] at q
  simpa using q

noncomputable def tTrue : TT := fun _ H Q => Q true H
noncomputable def PIfs (X : Cx) (ifs : List Expr) (t : TT) : Prop :=
  ∀ (pins : List (Addr × Obj)) (s : Shared) (σ : St) (H : Hp) (Q : Bool → Hp → Prop), Inv X pins σ H s → t σ H Q →
    wpAny (model X.prog X.w) X.A (forIn ifs true fun c r => if r = true then do let ok ← isTrue c X.env (eval c X.env); pure (ForInStep.yield ok) else pure (ForInStep.yield r)) (TP X pins σ Q) X.xe s
theorem pifs_nil {X : Cx} : PIfs X [] tTrue := fun _ _ _ H _ I h => wpAny_tests_nil ⟨H, I, h⟩
theorem pifs_one {X : Cx} {c : Expr} {t : TT} (hc : PT X c t) : PIfs X [c] t := fun pins s σ H Q I h => wpAny_tests_one (hc pins s σ H Q I h)

noncomputable def KeepSt (σ σ' : St) : Prop := σ'.length = σ.length ∧ ∀ (i : Nat) (v : V), σ[i]? = some (some v) → σ'[i]? = some (some v)
theorem KeepSt.set {σ : St} {i : Nat} {v : V} (h : σ[i]? = some none) : KeepSt σ (σ.set i (some v)) := by
  refine ⟨by simp, fun j u e => ?_⟩
  by_cases hj : i = j
  · subst hj; rw [h] at e; cases e
  · rw [List.getElem?_set_ne hj]; exact e
noncomputable def tComp (sub : List (Option Nat)) (wi : TI) (g : TG) (tt : TT) (te : TE) : TE := fun σ H Q => wi σ H fun J H1 => ∃ W : Nat → Nat → List V → Hp → Prop, (∃ m, W 0 m [] H1) ∧ ∀ i m ys H, W i m ys H →
  (J.stop i H ∧ ys.length ≤ sizeLine ∧ ∀ D, H D = none → Q (.ref D) (upd H D (.lst ys))) ∨
  (J.go i H ∧ ys.length < sizeLine ∧ ∃ N : List V → Hp → Prop, (∀ ys' H', N ys' H' → ∃ m', m' < m ∧ W (i + 1) m' ys' H') ∧
    ∀ x H', J.yld i H x H' → g x (subSt sub σ) H' fun σ2 H2 => KeepSt (subSt sub σ) σ2 ∧ tt σ2 H2 fun b H3 => if b = true then te σ2 H3 fun y H4 => N (ys ++ [y]) H4 else N ys H3)

theorem relabel_free {scope : Scope} {env : Env} {x : Str} (hx : scope.names.lookup x = some .free) : (relabel scope env).names.lookup x = some .cell ∨ (relabel scope env).names.lookup x = some .free := by
  have : ∀ names : List (Str × NameKind), names.lookup x = some .free →
    (names.map fun (n, k) => if (k == NameKind.free && env.scope.kind == .function && env.kindOf n == some .cell) then (n, NameKind.cell) else (n, k)).lookup x = some .cell ∨
    (names.map fun (n, k) => if (k == NameKind.free && env.scope.kind == .function && env.kindOf n == some .cell) then (n, NameKind.cell) else (n, k)).lookup x = some .free := by
    intro names
    induction names with
    | nil => intro h; simp at h
    | cons p r ih =>
      obtain ⟨n, k⟩ := p
      intro h
      by_cases e : x = n
      · subst e
        have hk : k = .free := by simpa [List.lookup_cons] using h
        subst hk
        by_cases hc : ((NameKind.free == NameKind.free && env.scope.kind == .function && env.kindOf x == some .cell) = true)
        · left; simp only [List.map_cons]; rw [if_pos hc]; simp [List.lookup_cons]
        · right; simp only [List.map_cons]; rw [if_neg hc]; simp [List.lookup_cons]
      · have hb : (x == n) = false := by simpa using e
        rw [List.lookup_cons, hb] at h
        have q := ih h
        simp only [List.map_cons]
        split <;> (rw [List.lookup_cons, hb]; exact q)
  exact this scope.names hx
theorem relabel_back {scope : Scope} {env : Env} {x : Str} (hn : ∀ y ∈ scope.names, y.2 ≠ .cell) (h : (relabel scope env).names.lookup x = some .cell ∨ (relabel scope env).names.lookup x = some .free) : (x, NameKind.free) ∈ scope.names := by
  have key : ∀ k, (k = NameKind.cell ∨ k = NameKind.free) → (relabel scope env).names.lookup x = some k → (x, NameKind.free) ∈ scope.names := by
    intro k hk hl
    have hm := PySem.mem_of_lookup hl
    unfold relabel at hm
    obtain ⟨⟨n, k'⟩, hm1, hm2⟩ := List.mem_map.mp hm
    dsimp only at hm2
    by_cases hc : (k' == NameKind.free && env.scope.kind == .function && env.kindOf n == some .cell) = true
    · rw [if_pos hc] at hm2
      cases hm2
      simp only [Bool.and_eq_true, beq_iff_eq] at hc
      rw [← hc.1.1]; exact hm1
    · rw [if_neg hc] at hm2
      cases hm2
      rcases hk with hk | hk
      · subst hk; exact absurd rfl (hn _ hm1)
      · subst hk; exact hm1
  rcases h with h | h
  · exact key _ (.inl rfl) h
  · exact key _ (.inr rfl) h

section
variable {X : Cx} {tg iter elt : Expr} {ifs : List Expr} {scope : Scope} {pos : Pos} {N' : List Str} {sub : List (Option Nat)} {wi : TI} {g : TG} {tt : TT} {te : TE}

theorem inv_block {pins : List (Addr × Obj)} {σ : St} {H : Hp} {s : Shared} {fp : List Addr} {D : Addr} {h' : Heap} {tk : Nat} {N : List Str} {sc : Scope} (S : SubOk N sc N' scope sub) (hN : X.N = N) (hsc : X.env.scope = sc) (I : Inv X pins σ H s) (hf : ∀ b ∈ fp, FpOk X pins H b) (hfo : ∀ b ∈ fp, b < s.heap.objs.size)
    (hD : D < s.heap.objs.size) (fD : FpOk X pins H D) (hns : h'.Ns s.heap.objs.size fun _ => none) (hk : ∀ b o, s.heap.get? b = some o → h'.get? b = some o) :
    Inv (cxC X N' scope s.heap.objs.size s H (D :: fp)) [] (subSt sub σ) H { s with heap := h', toks := tk } := by
  have hex : ∀ b ∈ D :: fp, FpOk X pins H b ∧ b < s.heap.objs.size := fun b hb => by
    rcases List.mem_cons.mp hb with rfl | z
    · exact ⟨fD, hD⟩
    · exact ⟨hf b z, hfo b z⟩
  refine ⟨⟨I.ok.mod, S.kind, I.ok.glob, I.ok.blt, Nat.le_refl _, fun x y c h1 h2 => I.ok.inj x y c (clOf_some h1) (clOf_some h2), fun x hx => ?_, fun x c hx _ => (nomatch hx), I.ok.hd, I.ok.frames, .inl rfl, fun b hb => ?_, I.bs, Nat.le_trans I.ok.bsz I.sz, fun b o e hb => ?_, fun b hb => ?_, I.stack, I.stkFree⟩,
    rfl, I.bare, Un.kept hk, ⟨_, hns, fun i x v h1 h2 h3 => ?_⟩, fun x c h => ?_, I.hok.fresh (Nat.le_refl _), fun x c h => I.freeC x c (clOf_some h), fun p hp => (nomatch hp), I.hok.kept hk, ?_⟩
  · have hx' : (x, NameKind.free) ∈ scope.names := relabel_back S.nocell hx
    obtain ⟨c, e⟩ := I.ok.has x (by have := S.free _ hx' rfl; rw [← hsc] at this; exact this)
    exact ⟨c, clOf_lookup e hx'⟩
  · obtain ⟨⟨f0, f1, f2, f3, f4, f5⟩, hlt⟩ := hex b hb
    exact ⟨Nat.ne_of_lt hlt, fun x c h => f4 x c (clOf_some h)⟩
  · obtain ⟨⟨f0, f1, f2, f3, f4, f5⟩, hlt⟩ := hex b hb
    rcases f3 with z | z
    · exact I.ok.noex b o e z
    · exact absurd (Nat.lt_of_lt_of_le (Heap.lt_size (I.ok.bs b o e).1) z) (Nat.lt_irrefl _)
  · obtain ⟨⟨f0, f1, f2, f3, f4, f5⟩, hlt⟩ := hex b hb
    intro z
    rcases List.mem_cons.mp (I.stkSub b z) with z | z
    · exact f1 z
    · exact f2 z
  · have hs : ∃ j, sub[i]? = some (some j) ∧ σ[j]? = some (some v) := by
      unfold subSt at h2
      rw [List.getElem?_map] at h2
      cases e : sub[i]? with
      | none => rw [e] at h2; cases h2
      | some o =>
        rw [e] at h2
        cases o with
        | none => cases h2
        | some j =>
          refine ⟨j, rfl, ?_⟩
          have h3 : (σ[j]?).join = some v := Option.some.inj h2
          cases e2 : σ[j]? with
          | none => rw [e2] at h3; cases h3
          | some z => rw [e2] at h3; cases z with
            | none => cases h3
            | some z => cases h3; rfl
    obtain ⟨j, e1, e2⟩ := hs
    obtain ⟨g1, g2, g3⟩ := S.at_ i j x e1 h1
    rw [← hN] at g1
    obtain ⟨m, hn, hl⟩ := I.loc
    have hkf : X.env.kindOf x = some .cell ∨ X.env.kindOf x = some .free := by have := S.free _ g2 rfl; rw [← hsc] at this; exact this
    have hvis : Vis X.env.scope x := by
      rcases hkf with z | z
      · exact .inr (.inl z)
      · exact .inr (.inr z)
    obtain ⟨u, r, l⟩ := hl j x v g1 e2 hvis
    refine ⟨u, r, .inr ⟨relabel_free g3, ?_⟩⟩
    rcases l with ⟨k, _⟩ | ⟨_, c, e, o, ho, hd⟩
    · have k' : X.env.kindOf x = some .local := k
      rcases hkf with z | z <;> (rw [k'] at z; cases z)
    · exact ⟨c, clOf_lookup e g2, o, hk _ _ ho, hd⟩
  · obtain ⟨v, o, ho, hd⟩ := I.cell x c (clOf_some h)
    exact ⟨v, o, hk _ _ ho, hd⟩
  · show (subSt sub σ).length = N'.length
    unfold subSt
    rw [List.length_map]
    exact S.len

theorem pe_comp {N : List Str} {sc : Scope} (S : SubOk N sc N' scope sub) (hc : X.calm = true) (hN : X.N = N) (hsc : X.env.scope = sc) (hi : PI X tg iter wi)
    (hg : ∀ (C : Addr) (s₀ : Shared) (H₀ : Hp) (ex : List Addr), PG (cxC X N' scope C s₀ H₀ ex) tg g)
    (ht : ∀ (C : Addr) (s₀ : Shared) (H₀ : Hp) (ex : List Addr), PIfs (cxC X N' scope C s₀ H₀ ex) ifs tt)
    (he : ∀ (C : Addr) (s₀ : Shared) (H₀ : Hp) (ex : List Addr), PE (cxC X N' scope C s₀ H₀ ex) elt te)
    (hs : autoParam (∀ x, foldedSetIterable iter X.env x = pure x) L2.auto3._auto_1) :
    PE X (.ListComp elt [⟨tg, iter, ifs, 0⟩] scope pos) (tComp sub wi g tt te) := by
  intro pins s σ H Q I h
  rw [eval_ListComp]
  have hcl : ∀ x ∈ scope.names, x.2 = NameKind.free → ∃ c, X.env.cells.lookup x.1 = some c := fun x hx hk => I.ok.has x.1 (by have := S.free x hx hk; rw [← hsc] at this; exact this)
  refine wpAny_comprehension_free (use := none) rfl hs (closureFor_cl hcl) S.kind S.loc ?_
  refine thn (hi pins s σ H _ I h) fun v s1 h1 => thn h1 fun itv s2 h2 => ?_
  obtain ⟨it, fp, tn, J, H2, e, I2, T, st2, f2, W, ⟨m0, w0⟩, turn⟩ := h2
  subst e
  refine wpAny_newObj_type (wpAny_newFunctionEnv S.nocell (by intro y hy; simp at hy) (fun h₁ hns₁ hsb₁ => ?_) S.kind)
  dsimp only at hns₁ hsb₁ ⊢
  generalize hs3 : ({ s2 with heap := s2.heap.push { cls := .type "list", dict := none, data := .seq ([] : List Value).toArray } } : Shared) = s3
  have e3 : s2.heap.push { cls := .type "list", dict := none, data := .seq ([] : List Value).toArray } = s3.heap := by rw [← hs3]
  rw [e3] at hns₁ hsb₁ ⊢
  have hD3 : s3.heap.get? s2.heap.objs.size = some { cls := .type "list", dict := none, data := .seq ([] : List Value).toArray } := by rw [← e3]; exact Heap.get?_push_size _ rfl
  have I3 : Inv X pins σ H2 s3 := by
    rw [← hs3]
    exact I2.kept (t' := s2.toks) fun b o e => Heap.get?_push_of_some _ e
  have k23 : ∀ b o, s2.heap.get? b = some o → s3.heap.get? b = some o := fun b o e => by rw [← e3]; exact Heap.get?_push_of_some _ e
  have hsz : s3.heap.objs.size = s2.heap.objs.size + 1 := by rw [← e3, Heap.size_push]
  have hk31 : ∀ b o, s3.heap.get? b = some o → h₁.get? b = some o := fun b o e => hsb₁.extBut b o (Nat.ne_of_lt (Heap.lt_size e)) (Heap.get?_push_of_some _ e)
  have hDn : H2 s2.heap.objs.size = none := I2.hok.fresh (Nat.le_refl _)
  have fD : FpOk X pins H2 s2.heap.objs.size := I2.fpOk (Nat.le_refl _) hDn
  have hfo : ∀ b ∈ fp, b < s2.heap.objs.size := fun b hb => let ⟨o, e, _⟩ := T.obj _ _ st2 b hb; Heap.lt_size e
  have hDfp : s2.heap.objs.size ∉ fp := fun z => absurd (hfo _ z) (Nat.lt_irrefl _)
  have I4 := inv_block (tk := s3.toks + ([] : List (Str × Value)).length) S hN hsc I3 f2 (fun b hb => by rw [hsz]; exact Nat.lt_succ_of_lt (hfo b hb)) (D := s2.heap.objs.size) (by rw [hsz]; exact Nat.lt_succ_self _) fD hns₁ hk31
  -- facts of the block
  have stat : ∀ {H' : Hp} {ob : Obj}, (∀ b ∈ fp, H' b = none) → ∀ b ∈ fp, FpOk (cxC X N' scope s3.heap.objs.size s3 H2 (s2.heap.objs.size :: fp)) [(s2.heap.objs.size, ob)] H' b := fun {H' ob} hn b hb => by
    obtain ⟨q1, q2⟩ := I4.ok.exf b (List.mem_cons_of_mem _ hb)
    refine ⟨hn b hb, q1, I4.ok.exfs b (List.mem_cons_of_mem _ hb), .inl (List.mem_cons_of_mem _ hb), q2, fun p hp z => ?_⟩
    have hp' : p = (s2.heap.objs.size, ob) := by simpa [cxC] using hp
    subst hp'
    have z' : s2.heap.objs.size = b := z
    exact hDfp (by rw [z']; exact hb)
  generalize hXC : cxC X N' scope s3.heap.objs.size s3 H2 (s2.heap.objs.size :: fp) = XC at I4 stat
  have eP : XC.prog = X.prog := by rw [← hXC]; rfl
  have eW : XC.w = X.w := by rw [← hXC]; rfl
  have eK : XC.K = X.K := by rw [← hXC]; rfl
  have eA : XC.A = X.A := by rw [← hXC]; rfl
  have eE : XC.env = compEnvC scope (clOf X.env scope.names []) s3.heap.objs.size X.env := by rw [← hXC]; rfl
  have eC : XC.calm = true := by rw [← hXC]; exact hc
  have eX : XC.xe = fun _ _ => False := by rw [← hXC]; rfl
  have eH : XC.H₀ = H2 := by rw [← hXC]; rfl
  have eS : XC.s₀ = s3 := by rw [← hXC]; rfl
  have eF : XC.fs = frs X.stack := by rw [← hXC]; rfl
  have eEx : XC.ex = s2.heap.objs.size :: fp := by rw [← hXC]; rfl
  have ePn : XC.pn = [] := by rw [← hXC]; rfl
  have hgC : PG XC tg g := by rw [← hXC]; exact hg _ _ _ _
  have htC : PIfs XC ifs tt := by rw [← hXC]; exact ht _ _ _ _
  have heC : PE XC elt te := by rw [← hXC]; exact he _ _ _ _
  have pinD : ∀ {σ' : St} {H' : Hp} {s' : Shared} {ob : Obj}, Inv XC [] σ' H' s' → H' s2.heap.objs.size = none → s'.heap.get? s2.heap.objs.size = some ob → (∀ v, ob.data ≠ .cell v) → Inv XC [(s2.heap.objs.size, ob)] σ' H' s' := fun {σ' H' s' ob} J hn hg hd =>
    J.pins_of fun p hp => by
      have hp' : p = (s2.heap.objs.size, ob) := by simpa using hp
      subst hp'
      refine ⟨hg, hn, (J.ok.exf _ (by rw [eEx]; exact List.mem_cons_self)).1, J.ok.exfs _ (by rw [eEx]; exact List.mem_cons_self), hd⟩
  have loop : codeAny (model X.prog X.w) X.A (.compLoop (.ListComp elt [⟨tg, iter, ifs, 0⟩] scope pos) 0 (.ref it) (.ref s2.heap.objs.size) (compEnvC scope (clOf X.env scope.names []) s3.heap.objs.size X.env))
      (compPost (model X.prog X.w) X.A X.xe none (EP X pins σ Q) (.ref s2.heap.objs.size) s3.heap.objs.size) { s3 with heap := h₁, toks := s3.toks + ([] : List (Str × Value)).length } := by
    refine comp_loop (fun n s' => ∃ (i : Nat) (ys : List V) (its : List Value) (nn : Nat) (H' : Hp), Inv XC [] (subSt sub σ) H' s' ∧ tn i s'.heap ∧ (∀ b ∈ fp, H' b = none) ∧ H' s2.heap.objs.size = none ∧
      s'.heap.get? s2.heap.objs.size = some { cls := .type "list", data := .seq its.toArray nn } ∧ Vals ys its ∧ W i n ys H') ?_ m0
      ⟨0, [], [], _, H2, I4, T.keep _ _ _ st2 fun b _ o e => hk31 b o (k23 b o e), fun b hb => (f2 b hb).1, hDn, hk31 _ _ hD3, .nil, w0⟩
    rintro n s4 ⟨i, ys, its, nn, H4, J4, st4, fr4, dn4, dg4, rv4, w4⟩
    have P4 := pinD J4 dn4 dg4 (fun v z => by cases z)
    rcases turn i n ys H4 w4 with ⟨stop, hyl, qn⟩ | ⟨go, hyl, N, hN, step⟩
    · have hdone := T.done XC eP eW eK eC i _ s4 _ H4 (fun _ _ => False) P4 (stat fr4) st4 stop
      rw [eA] at hdone
      refine wpAny_mono hdone (fun r s5 ⟨hr, I5⟩ => ?_) fun _ _ z => z
      subst hr
      -- the end
      obtain ⟨m, hn, _⟩ := id I5.loc
      have hCe : XC.env.locals = s3.heap.objs.size := by rw [eE]; rfl
      rw [hCe] at hn
      refine ⟨m, hn, fun h6 hs6 => ?_⟩
      have hDg := (I5.pin (s2.heap.objs.size, _) (by rw [ePn]; exact List.mem_cons_self)).1
      have hDne : s2.heap.objs.size ≠ s3.heap.objs.size := by rw [hsz]; exact Nat.ne_of_lt (Nat.lt_succ_self _)
      have hHC : H4 s3.heap.objs.size = none := by have := I5.free; rw [hCe] at this; exact this
      have k56 : ∀ b o, b ≠ s3.heap.objs.size → s5.heap.get? b = some o → h6.get? b = some o := fun b o hb e => hs6.extBut b o hb e
      have un := I5.base
      rw [eF, eEx, eH, eS] at un
      have nC : ∀ b o, s3.heap.get? b = some o → b ≠ s3.heap.objs.size := fun b o e => Nat.ne_of_lt (Heap.lt_size e)
      have hok6 : HOk X.prog X.w (upd H4 s2.heap.objs.size (.lst ys)) h6 := by
        have h5 := I5.hok
        rw [eP, eW] at h5
        have trk : ∀ b u, H4 b = some u → b ≠ s3.heap.objs.size := fun b u e z => by rw [z, hHC] at e; cases e
        intro b u e
        by_cases hb : b = s2.heap.objs.size
        · subst hb
          rw [upd_same] at e; cases e
          exact ⟨hyl, its, nn, rv4, k56 _ _ hDne hDg⟩
        · rw [upd_ne hb] at e
          have nD : ∀ c u, H4 c = some u → c ≠ s2.heap.objs.size := fun c u e z => by rw [z, dn4] at e; cases e
          refine (h5 b u e).stay (fun c v hc' q => k56 c v ?_ q) (fun c q => by rw [upd_ne (nD c _ q)]; exact q) fun c xs q => by rw [upd_ne (nD c _ q)]; exact q
          rcases hc' with z | z
          · rw [z]; exact trk b u e
          · exact trk c _ z
      have nD2 : ∀ c u, H4 c = some u → c ≠ s2.heap.objs.size := fun c u e z => by rw [z, dn4] at e; cases e
      have un6 : Un (frs X.stack) (s2.heap.objs.size :: fp) H2 (upd H4 s2.heap.objs.size (.lst ys)) s3.heap h6 :=
        ⟨fun b o e nn' hb hx => k56 b o (nC b o e) (un.keep b o e nn' hb hx), fun b o e nn' hb hx => let ⟨sl, q⟩ := un.slot b o e nn' hb hx; ⟨sl, k56 b _ (nC b o e) q⟩,
          fun b o e nn' hx => by rw [upd_ne (fun z => hx (by rw [z]; exact List.mem_cons_self))]; exact un.free b o e nn' hx,
          fun b o e hx => let ⟨o', q⟩ := un.there b o e hx; ⟨o', k56 b o' (nC b o e) q⟩,
          fun b xs e => by have q := un.tups b xs e; rw [upd_ne (nD2 b _ q)]; exact q,
          fun b o u e => by have q := un.frzs b o u e; rw [upd_ne (nD2 b _ q)]; exact q,
          fun b ps e => let ⟨more, q⟩ := un.tbls b ps e; ⟨more, by rw [upd_ne (nD2 b _ q)]; exact q⟩⟩
      have I6 : Inv X pins σ (upd H4 s2.heap.objs.size (.lst ys)) { s5 with heap := h6 } := by
        refine I3.call' (s' := { s5 with heap := h6 }) (ch := s2.heap.objs.size :: fp) ?_ un6 hok6 I5.bare fun b hb => ?_
        · show s5.os = s3.os
          have := I5.os
          rw [eS] at this
          exact this
        · have q : FpOk X pins H2 b := by
            rcases List.mem_cons.mp hb with rfl | z
            · exact fD
            · exact f2 b z
          obtain ⟨f0, f1, f2', f3, f4, f5⟩ := q
          exact ⟨f3, f1, f4, f5⟩
      exact ⟨.ref s2.heap.objs.size, _, I6, rfl, qn _ dn4⟩
    · have hitem := T.item XC eP eW eK eC i _ s4 _ H4 (fun _ _ => False) P4 (stat fr4) st4 go
      rw [eA] at hitem
      refine wpAny_mono hitem (fun r s5 ⟨u, hr, h5⟩ => ?_) fun _ _ z => z
      subst hr
      dsimp only
      refine wpAny_mono h5 (fun _ s6 ⟨x, H6, I6, r6, y6, st6, fr6⟩ => ?_) fun _ _ z => z
      have P6 := I6.pinned (stat fr6) (T.obj _ _ st6)
      rw [← eE, ← eP, ← eW, ← eA]
      refine wpAny_mono (hgC _ s6 _ H6 x u _ P6 r6 (step x H6 y6)) (fun _ s7 ⟨σ7, H7, I7, kp7, q7⟩ => ?_) fun _ _ z => by rw [eX] at z; exact z
      refine wpAny_mono (htC _ s7 σ7 H7 _ I7 q7) (fun ok s8 ⟨H8, I8, q8⟩ => ?_) fun _ _ z => by rw [eX] at z; exact z
      -- back to the turn's start
      have fin : ∀ {H9 : Hp} {s9 : Shared}, Inv XC ([(s2.heap.objs.size, ({ cls := .type "list", data := .seq its.toArray nn } : Obj))] ++ pinsAt fp s6.heap) σ7 H9 s9 → Inv XC [] (subSt sub σ) H9 s9 ∧ tn (i + 1) s9.heap ∧ (∀ b ∈ fp, H9 b = none) ∧ H9 s2.heap.objs.size = none ∧
          s9.heap.get? s2.heap.objs.size = some { cls := .type "list", data := .seq its.toArray nn } := fun {H9 s9} J => by
        have pD := J.pin (s2.heap.objs.size, ({ cls := .type "list", data := .seq its.toArray nn } : Obj)) (by rw [ePn]; simp)
        have pF : ∀ b ∈ fp, ∀ o, s6.heap.get? b = some o → s9.heap.get? b = some o ∧ H9 b = none := fun b hb o e => by
          have q := J.pin (b, o) (by rw [ePn]; exact List.mem_append_right _ (List.mem_append_right _ (mem_pinsAt hb e)))
          exact ⟨q.1, q.2.1⟩
        refine ⟨?_, T.keep _ _ _ st6 fun b hb o e => (pF b hb o e).1, fun b hb => ?_, pD.2.1, pD.1⟩
        · have J0 : Inv XC [] σ7 H9 s9 := J.pins_of fun p hp => nomatch hp
          exact J0.weak kp7.1.symm fun j v e => kp7.2 j v e
        · obtain ⟨o, e, _⟩ := T.obj _ _ st6 b hb
          exact (pF b hb o e).2
      cases ok with
      | false =>
        rw [if_neg (by simp)]
        rw [if_neg (by simp)] at q8
        obtain ⟨m', hm, w8⟩ := hN _ _ q8
        obtain ⟨a1, a2, a3, a4, a5⟩ := fin I8
        exact ⟨m', hm, i + 1, ys, its, nn, H8, a1, a2, a3, a4, a5, rv4, w8⟩
      | true =>
        rw [if_pos rfl]
        rw [if_pos rfl] at q8
        refine wpAny_mono (heC _ s8 σ7 H8 _ I8 q8) (fun xv s9 ⟨y, H9, I9, r9, n9⟩ => ?_) fun _ _ z => by rw [eX] at z; exact z
        obtain ⟨m', hm, w9⟩ := hN _ _ n9
        obtain ⟨a1, a2, a3, a4, a5⟩ := fin I9
        refine wpAny_list_append_plain (items := its.toArray) ⟨nn, a5⟩ (fun h' ⟨n', hp'⟩ sb => ?_) (by simp; rw [← rv4.length]; omega)
        obtain ⟨q1, q2⟩ := I4.ok.exf s2.heap.objs.size (by rw [eEx]; exact List.mem_cons_self)
        have a1' : Inv XC [] (subSt sub σ) H9 { s9 with heap := h' } := a1.turned (t' := s9.toks) (fun b o hb e => (sb.2 b hb).trans e) a4 q1 (.inl (by rw [eEx]; exact List.mem_cons_self)) q2 (fun p hp => by rw [ePn] at hp; exact nomatch hp)
        refine ⟨m', hm, i + 1, ys ++ [y], its ++ [xv], n', H9, a1', T.keep _ _ _ a2 fun b hb o e => (sb.2 b (fun z => hDfp (by rw [← z]; exact hb))).trans e, a3, a4, ?_, rv4.append (.cons r9 .nil), w9⟩
        rw [hp']
        simp
  subst hs3
  exact codeAny_compStart_list loop (T.self _ 0 _ _ _ (T.keep _ _ _ st2 fun b _ o e => hk31 b o (k23 b o e)) loop)
end

noncomputable abbrev CompR (sub : List (Option Nat)) (g : TG) (tt : TT) (te : TE) (σ : St) (Q : VK) (J : It) (H1 : Hp) : Prop := ∃ W : Nat → Nat → List V → Hp → Prop, (∃ m, W 0 m [] H1) ∧ ∀ i m ys H, W i m ys H →
  (J.stop i H ∧ ys.length ≤ sizeLine ∧ ∀ D, H D = none → Q (.ref D) (upd H D (.lst ys))) ∨
  (J.go i H ∧ ys.length < sizeLine ∧ ∃ N : List V → Hp → Prop, (∀ ys' H', N ys' H' → ∃ m', m' < m ∧ W (i + 1) m' ys' H') ∧
    ∀ x H', J.yld i H x H' → g x (subSt sub σ) H' fun σ2 H2 => KeepSt (subSt sub σ) σ2 ∧ tt σ2 H2 fun b H3 => if b = true then te σ2 H3 fun y H4 => N (ys ++ [y]) H4 else N ys H3)
theorem comp_by {sub : List (Option Nat)} {g : TG} {tt : TT} {te : TE} {σ : St} {Q : VK} {J : It} {H : Hp} {n : Nat} (Pv : Nat → List V → Hp → Prop) (hn : n ≤ sizeLine) (h0 : Pv 0 [] H) (hl : ∀ i ys H, Pv i ys H → ys.length ≤ i)
    (hgo : ∀ i ys H, i < n → Pv i ys H → J.go i H) (hstop : ∀ ys H, Pv n ys H → J.stop n H)
    (hs : ∀ i ys H x H', i < n → Pv i ys H → J.yld i H x H' → g x (subSt sub σ) H' fun σ2 H2 => KeepSt (subSt sub σ) σ2 ∧ tt σ2 H2 fun b H3 => if b = true then te σ2 H3 fun y H4 => Pv (i + 1) (ys ++ [y]) H4 else Pv (i + 1) ys H3)
    (hd : ∀ ys H, Pv n ys H → ∀ D, H D = none → Q (.ref D) (upd H D (.lst ys))) : CompR sub g tt te σ Q J H := by
  refine ⟨fun i m ys H => m = n - i ∧ i ≤ n ∧ Pv i ys H, ⟨n, by simp, Nat.zero_le _, h0⟩, ?_⟩
  rintro i m ys H ⟨rfl, hi, p⟩
  have hl' := hl i ys H p
  by_cases hlt : i < n
  · exact .inr ⟨hgo i ys H hlt p, by omega, fun ys' H' => Pv (i + 1) ys' H', fun ys' H' p' => ⟨n - (i + 1), by omega, rfl, hlt, p'⟩, fun x H' y => hs i ys H x H' hlt p y⟩
  · have e : i = n := by omega
    subst e
    exact .inl ⟨hstop ys H p, by omega, hd ys H p⟩
end L2

namespace L2
open PySem PySem.Spec PyProof.Rows

section
variable {κ : Type} [DecidableEq κ]
end


section
variable {P : Program} {w : World} {H : Hp} {h : Heap} {a : Addr}
end

section
variable {X : Cx} {pins : List (Addr × Obj)} {σ : St} {H : Hp} {s : Shared} {a : Addr} {y v : V} {u r : Value} {o : Option V} {A : Around} {E : Value → Shared → Prop}

end

section
variable {X : Cx} {pins : List (Addr × Obj)} {σ : St} {H : Hp} {s : Shared} {a : Addr} {kvs : List (Key × V)} {k : Key} {u : Value} {A : Around} {E : Value → Shared → Prop}
end


section
variable {X : Cx} {o i e value : Expr} {pos pos' tpos : Pos} {td ty tv : TE}
end


section
variable {X : Cx} {pos : Pos}
end

noncomputable def tPairs : List (TE × TE) → St → Hp → (List (V × V) → Hp → Prop) → Prop
  | [], _, H, Q => Q [] H
  | (tk, tv) :: r, σ, H, Q => tk σ H fun x H1 => tv σ H1 fun y H2 => tPairs r σ H2 fun ps H3 => Q ((x, y) :: ps) H3
noncomputable abbrev VV : List (V × V) → List (Value × Value) → Prop := Paired fun p q => RelV p.1 q.1 ∧ RelV p.2 q.2
noncomputable def PPs (X : Cx) (pos : Pos) (keys : List (Option Expr)) (values : List Expr) (trs : List (TE × TE)) : Prop :=
  ∀ (pins : List (Addr × Obj)) (s : Shared) (σ : St) (H : Hp) (Q : List (V × V) → Hp → Prop), Inv X pins σ H s → tPairs trs σ H Q →
    wpAny (model X.prog X.w) X.A (evalPairs (pairTrees keys values X.env pos)) (fun vs s' => ∃ ps H', Inv X pins σ H' s' ∧ VV ps vs ∧ Q ps H') X.xe s
structure M1 (X : Cx) (o : Expr) (m : Str) (apos : Pos) (e : Expr) (cpos : Pos) : Prop where
  base : attributeBase o m X.env (eval o X.env) = eval o X.env
  few : ((backTo cpos (starEach [e] X.env)).all (fun x => !x.1) && (backToKw cpos (keywordEach [] X.env)).all (fun x => x.1.isSome)
    && decide (([e] : List Expr).length + ([] : List Keyword).length + (if ([] : List Keyword).isEmpty then 0 else 1) < 30)) = true
  line : (apos.endLine == cpos.line) = true
  trees : backTo cpos (starEach [e] X.env) = [(false, eval e X.env)]
structure M2 (X : Cx) (o : Expr) (m : Str) (apos : Pos) (e f : Expr) (cpos : Pos) : Prop where
  base : attributeBase o m X.env (eval o X.env) = eval o X.env
  few : ((backTo cpos (starEach [e, f] X.env)).all (fun x => !x.1) && (backToKw cpos (keywordEach [] X.env)).all (fun x => x.1.isSome)
    && decide (([e, f] : List Expr).length + ([] : List Keyword).length + (if ([] : List Keyword).isEmpty then 0 else 1) < 30)) = true
  line : (apos.endLine == cpos.line) = true
  trees : backTo cpos (starEach [e, f] X.env) = [(false, eval e X.env), (false, eval f X.env)]

section
variable {X : Cx} {pins : List (Addr × Obj)} {σ : St} {H : Hp} {s : Shared} {a : Addr} {y d : V} {u r : Value} {o : Option V} {A : Around} {E : Value → Shared → Prop}
end

section
variable {X : Cx} {o e f : Expr} {apos cpos : Pos} {td ty tx : TE}
end

section
variable {X : Cx} {pins : List (Addr × Obj)} {σ : St} {H : Hp} {s : Shared} {a : Addr} {kvs : List (Key × V)} {A : Around} {E : Value → Shared → Prop}
end


section
variable {X : Cx} {pins : List (Addr × Obj)} {σ : St} {H : Hp} {s : Shared} {a : Addr} {y : V} {u : Value} {A : Around} {E : Value → Shared → Prop}
end
end L2

namespace L2
open PySem PySem.Spec PyProof.Rows
section
variable {X : Cx}
section
variable {κ : Type} [DecidableEq κ]
end
end
end L2

namespace L2
open PySem PySem.Spec PyProof.Rows

noncomputable def Its (x : Str) : It := ⟨fun i _ => i < x.cps.size, fun i H v H' => H' = H ∧ ∃ c, x.cps[i]? = some c ∧ v = .str ⟨#[c]⟩, fun i _ => i = x.cps.size⟩
theorem turn_str {P : Program} {w : World} {K : PySem.W.Frag} {tg : Expr} (it : Addr) (x : Str) (t : Tok) (ty : String)
    (hty : ["enumerate", "zip", "dict_itemiterator", "dict_reverseitemiterator", "odict_iterator", "itertools.zip_longest", "itertools.pairwise"].contains ty = false)
    (W : ∀ A : Around, A.handled = none → Walks P w A it [it] [it] x.cps.size (SignAt x) fun i h => h.IsStrIter it ty x t i)
    (hself : ∀ (A : Around) (i : Nat) (s : Shared) (Q : Value → Shared → Prop) (E : Value → Shared → Prop), s.heap.IsStrIter it ty x t i → Q (.ref it) s → wpAny (model P w) A (pyIter (.ref it)) Q E s) : Turn P w K tg (Its x) [it] it (fun i h => h.IsStrIter it ty x t i) where
  mem := by simp
  obj := fun i h st b hb => by
    have e : b = it := by simpa using hb
    subst e
    obtain ⟨o, e, c, d⟩ := st
    exact ⟨o, e, fun v z => by rw [d] at z; cases z⟩
  keep := fun i h h' st k => by
    obtain ⟨o, e, r⟩ := st
    exact ⟨o, k it (by simp) o e, r⟩
  item := by
    intro X hP hw hK hc i pins s σ H E I hf st hg
    subst hP hw hK
    obtain ⟨f0, f1, f2, f3, f4, f5⟩ := hf it (by simp)
    refine (W X.A (I.ok.hd hc)).item i s _ _ hg st fun v h' tk hv st' kk => ?_
    obtain ⟨c, u, e1, rfl⟩ := hv
    have I1 : Inv X pins σ H { s with heap := h', toks := tk } := I.turned (fun b o hb e => kk b o (by simpa using hb) e) f0 f1 f3 f4 f5
    obtain ⟨o, e, cl, d⟩ := id st'
    exact ⟨_, rfl, go_of (s := { s with heap := h', toks := tk }) e cl d hty ⟨.str ⟨#[c]⟩, H, I1, ⟨u, rfl⟩, ⟨rfl, c, e1, rfl⟩, st', fun b hb => (hf b hb).1⟩⟩
  done := by
    intro X hP hw hK hc i pins s σ H E I hf st hg
    subst hP hw hK
    obtain ⟨f0, f1, f2, f3, f4, f5⟩ := hf it (by simp)
    have hg : i = x.cps.size := hg
    subst hg
    exact (W X.A (I.ok.hd hc)).done s _ _ st fun h' tk kk => ⟨rfl, I.turned (fun b o hb e => kk b o (by simpa using hb) e) f0 f1 f3 f4 f5⟩
  self := hself
section
variable {X : Cx}
theorem all_range {bs : List Bool} : (List.range bs.length).all (fun i => bs.getD i false) = bs.all id := by
  rw [Bool.eq_iff_iff]
  simp only [List.all_eq_true, List.mem_range]
  constructor
  · intro h b hb
    obtain ⟨i, hi, e⟩ := List.mem_iff_getElem.mp hb
    have := h i hi
    rw [List.getD_eq_getElem?_getD, List.getElem?_eq_getElem hi] at this
    simp only [Option.getD_some] at this
    rw [← e]; exact this
  · intro h i hi
    rw [List.getD_eq_getElem?_getD, List.getElem?_eq_getElem hi]
    exact h _ (List.getElem_mem hi)
theorem vals_bl_get : ∀ {bs : List Bool} {us : List Value} {i : Nat} {v : Value}, Vals (bs.map V.bl) us → us[i]? = some v → v = .bool (bs.getD i false)
  | [], _, i, v, .nil, e => by simp at e
  | b :: bs, _, 0, v, .cons r t, e => by simp at e; subst e; exact r
  | b :: bs, _, i + 1, v, .cons r t, e => by
    simp at e
    have := vals_bl_get (bs := bs) t e
    simpa using this
noncomputable def rAll : List V → Hp → VK → Prop := fun xs H Q => ∃ (p : Addr) (bs : List Bool), xs = [.ref p] ∧ H p = some (.lst (bs.map V.bl)) ∧ Q (.bl (bs.all id)) H
theorem call_all (hc : X.calm = true) : CallR X (.builtin "all") rAll := by
  intro pins s σ H xs us Q I r h
  obtain ⟨p, bs, rfl, hp, q⟩ := h
  obtain ⟨u, rfl, ru⟩ := vals1 r
  cases ru
  obtain ⟨hz, its, n, rv, e⟩ := I.hok p _ hp
  refine call_all_walk (wpAny_pyIter_list (items := its.toArray) ⟨_, e, rfl, n, rfl⟩ ?_)
  refine ⟨s.heap.objs.size, _, _, _, _, _, fun i => bs.getD i false, rfl, Walks.list (A := X.A.in1) (I.ok.hd hc) s.heap.objs.size p (Nat.ne_of_lt (Heap.lt_size e)) its.toArray, ⟨⟨_, Heap.get?_push_size _ rfl, rfl, rfl⟩, ⟨_, Heap.get?_push_of_some _ e, rfl, n, rfl⟩⟩, ?_, fun h' tk hk => ?_⟩
  · intro i v s' Q' E' hv hq
    have := vals_bl_get rv (by simpa using hv)
    subst this
    exact wpAny_truthy_bool hq
  · have hl : its.toArray.size = bs.length := by have := rv.length; simpa using this.symm
    rw [hl, all_range]
    refine ⟨.bl _, H, ?_, rfl, q⟩
    exact I.kept fun b o e => hk b o (by simp; exact Nat.ne_of_lt (Heap.lt_size e)) (Heap.get?_push_of_some _ e)
theorem strsAre_of : ∀ {ys : List Str} {us : List Value}, Vals (ys.map V.str) us → StrsAre us ys
  | [], _, .nil => .nil
  | y :: ys, _, .cons r t => by
    obtain ⟨k, e⟩ := (show ∃ t, _ = Value.str y t from r)
    subst e
    exact .cons y k (strsAre_of t)
noncomputable def rJoin : V → List V → Hp → VK → Prop := fun x xs H Q => ∃ (sep : Str) (p : Addr) (ys : List Str), x = .str sep ∧ xs = [.ref p] ∧ H p = some (.lst (ys.map V.str)) ∧ (ys.map (·.length)).sum + ys.length * sep.length ≤ 16777216 ∧ Q (.str (Txt.join sep ys)) H
theorem mt_join : MtR X "str.join" rJoin := by
  intro pins s σ H x xs v us Q I rx r h
  obtain ⟨sep, p, ys, rfl, rfl, hp, hz, q⟩ := h
  obtain ⟨u, rfl, ru⟩ := vals1 r
  cases ru
  obtain ⟨t, rfl⟩ := rx
  obtain ⟨hz', its, n, rv, e⟩ := I.hok p _ hp
  exact join_list (items := its.toArray) ⟨_, e, rfl, n, rfl⟩ (by simpa using strsAre_of rv) hz fun t' k => ⟨.str _, H, I.tok _, ⟨_, rfl⟩, q⟩
noncomputable def rSlS : V → Option Int → Option Int → Hp → VK → Prop := fun v lo hi H Q => ∃ x, v = .str x ∧ x.length ≤ sizeLine ∧ Q (.str (Txt.slice x lo hi)) H
theorem sl_str : SlR X rSlS := by
  intro pins s σ H x v vl vu lo hi sl Q I rx hs pl pu h
  obtain ⟨z, rfl, hz, q⟩ := h
  obtain ⟨t, rfl⟩ := rx
  refine ⟨"str", _, F.slot_str_getitem.lookup, typeIs_str _ _ _, ?_⟩
  have fin : ∀ (t' k : Nat), EP X pins σ Q (.str (Txt.slice z lo hi) t') { s with toks := k } := fun t' k => ⟨.str _, H, I.tok _, ⟨_, rfl⟩, q⟩
  have sz := Nat.le_trans (Txt.slice_le z lo hi) hz
  obtain ⟨o, ho, hc, hd⟩ := hs
  cases pl with
  | none =>
    cases pu with
    | none => exact wpAny_getItem_str_slice (l := none) (u := none) (st := none) ⟨o, ho, hc, hd⟩ rfl (post_val_or_str ⟨sz, fin⟩)
    | int j tj => exact wpAny_getItem_str_slice (l := none) (u := some (j, tj)) (st := none) ⟨o, ho, hc, hd⟩ rfl (post_val_or_str ⟨sz, fin⟩)
  | int i ti =>
    cases pu with
    | none => exact wpAny_getItem_str_slice (l := some (i, ti)) (u := none) (st := none) ⟨o, ho, hc, hd⟩ rfl (post_val_or_str ⟨sz, fin⟩)
    | int j tj => exact wpAny_getItem_str_slice (l := some (i, ti)) (u := some (j, tj)) (st := none) ⟨o, ho, hc, hd⟩ rfl (post_val_or_str ⟨sz, fin⟩)
noncomputable def rMulS : R2 := fun x y H Q => ∃ i n, x = .str i ∧ y = .int n ∧ MulOk i n ∧ Q (.str (Txt.mul i n)) H
theorem op_mul_str : OpR X (binaryOp .Mult) rMulS := by
  intro pins s σ H x y v u Q I rx ry h
  obtain ⟨i, n, rfl, rfl, hk, q⟩ := h
  obtain ⟨t, rfl⟩ := rx
  obtain ⟨t', rfl⟩ := ry
  exact SB.mul hk fun t' k => ⟨.str _, H, I.tok _, ⟨_, rfl⟩, q⟩
noncomputable def sgn (x : Str) : List V := x.cps.toList.map fun c => V.str ⟨#[c]⟩
theorem items_sgn {x : Str} {acc : Array Value} (h : ItemsOf (SignAt x) acc x.cps.size) : Vals (sgn x) acc.toList := by
  obtain ⟨h1, h2⟩ := h
  have key : ∀ (l : List Nat) (a : List Value), l.length = a.length → (∀ (j : Nat) (v : Value), a[j]? = some v → ∃ (c : Nat) (u : Tok), l[j]? = some c ∧ v = Value.str ⟨#[c]⟩ u) → Vals (l.map fun c => V.str ⟨#[c]⟩) a := by
    intro l
    induction l with
    | nil => intro a hl _; cases a with
      | nil => exact .nil
      | cons _ _ => simp at hl
    | cons c l ih =>
      intro a hl hh
      cases a with
      | nil => simp at hl
      | cons v a =>
        obtain ⟨c', u, e1, e2⟩ := hh 0 v (by simp)
        simp at e1; subst e1
        refine .cons ⟨u, e2⟩ (ih a (by simpa using hl) fun j v' e => ?_)
        obtain ⟨c', u, e1, e2⟩ := hh (j + 1) v' (by simpa using e)
        exact ⟨c', u, by simpa using e1, e2⟩
  refine key x.cps.toList acc.toList (by simp [h1]) fun j v e => ?_
  obtain ⟨c, u, e1, e2⟩ := h2 j v (by simpa using e)
  exact ⟨c, u, by simpa using e1, e2⟩
theorem call_list_S (hc : X.calm = true) : CallR X (.type "list") (fun xs H Q => ∃ x, xs = [.str x] ∧ x.cps.size ≤ sizeLine ∧ ∀ p, H p = none → Q (.ref p) (upd H p (.lst (sgn x)))) := by
  intro pins s σ H xs us Q I r h
  obtain ⟨x, rfl, hz, q⟩ := h
  obtain ⟨u, rfl, t, rfl⟩ := vals1 r
  refine call_list_str (I.ok.hd hc) x t (hn := hz) fun h' tk acc' c' hk hS hacc => ?_
  refine ⟨.ref s.heap.objs.size, _, I.laid (o := .lst (sgn x)) hk (Nat.le_refl _) ⟨by simp [sgn]; exact hz, acc'.toList, c', items_sgn hacc, by simpa using hS⟩, rfl, q _ I.fresh⟩
theorem call_tuple_S (hc : X.calm = true) : CallR X (.type "tuple") (fun xs H Q => ∃ x, xs = [.str x] ∧ x.cps.size ≤ sizeLine ∧ ∀ p, H p = none → Q (.ref p) (upd H p (.tup (sgn x)))) := by
  intro pins s σ H xs us Q I r h
  obtain ⟨x, rfl, hz, q⟩ := h
  obtain ⟨u, rfl, t, rfl⟩ := vals1 r
  refine call_tuple_str (I.ok.hd hc) x t (hsz := hz) fun h' tk acc hk hacc => ?_
  have J : Inv X pins σ H { s with heap := h', toks := tk } := I.kept hk
  refine ⟨.ref h'.objs.size, _, J.laid (t' := tk) (o := .tup (sgn x)) (fun b o e => Heap.get?_push_of_some _ e) (Nat.le_refl _) ⟨by simp [sgn]; exact hz, acc.toList, items_sgn hacc, ⟨_, Heap.get?_push_size _ rfl, rfl, 0, by simp⟩⟩, rfl, q _ J.fresh⟩
noncomputable def rIsi (K : PySem.W.Frag) : List V → Hp → VK → Prop := fun xs H Q => ∃ x T t b, xs = [x, .ty T] ∧ TyOf K H x t ∧ PySem.W.kitOne K t (.type T) = some b ∧ Q (.bl b) H
theorem call_isi : CallR X (.builtin "isinstance") (rIsi X.K) := by
  intro pins s σ H xs us Q I r h
  obtain ⟨x, T, t, b, rfl, ty, e, q⟩ := h
  obtain ⟨u, v, rfl, ru, rv⟩ := vals2 r
  cases rv
  exact isinst_ok I ru ty e fun tk => ⟨.bl b, H, I.tok _, rfl, q⟩

noncomputable def eqVs : List V → List V → Bool
  | [], [] => true
  | x :: xs, y :: ys => eqV x y && eqVs xs ys
  | _, _ => false
theorem eqVs_range : ∀ (xs ys : List V), xs.length = ys.length → (List.range xs.length).all (fun j => eqV (xs.getD j .non) (ys.getD j .non)) = eqVs xs ys
  | [], [], _ => rfl
  | x :: xs, y :: ys, h => by
    have ih := eqVs_range xs ys (by simpa using h)
    rw [List.length_cons, List.range_succ_eq_map, List.all_cons, List.all_map]
    simp only [eqVs]
    rw [← ih]
    rfl
  | [], y :: ys, h => by simp at h
  | x :: xs, [], h => by simp at h
theorem eqVs_len : ∀ {xs ys : List V}, xs.length ≠ ys.length → eqVs xs ys = false
  | [], [], h => absurd rfl h
  | [], y :: ys, _ => rfl
  | x :: xs, [], _ => rfl
  | x :: xs, y :: ys, h => by simp [eqVs, eqVs_len (xs := xs) (ys := ys) (by simpa using h)]
noncomputable def rEqL (K : PySem.W.Frag) (neg : Bool) : R2 := fun x y H Q => ∃ a b xs ys, x = .ref a ∧ y = .ref b ∧ SqL K H a xs ∧ SqL K H b ys ∧ xs.all flatV = true ∧ ys.all flatV = true ∧ Q (.bl (if neg then !eqVs xs ys else eqVs xs ys)) H
theorem op_eq_lst (hu : X.A.units < cLine) : OpR X (compareOp .Eq) (rEqL X.K false) := by
  intro pins s σ H x y v u Q I rx ry h
  obtain ⟨a, b, xs, ys, rfl, rfl, ha, hb, fx, fy, q⟩ := h
  cases rx
  cases ry
  obtain ⟨its, r1, p1, z1⟩ := I.list ha
  obtain ⟨jts, r2, p2, z2⟩ := I.list hb
  have l1 : its.toArray.size = xs.length := by simpa using r1.length.symm
  have l2 : jts.toArray.size = ys.length := by simpa using r2.length.symm
  by_cases hl : xs.length = ys.length
  · refine SeqAt.eq_listAt (e := fun j => eqV (xs.getD j .non) (ys.getD j .non)) p1.isList p2.isList (by rw [l1, l2]; exact hl) hu (fun j h1 h2 => ?_) ?_
    · have h1' : j < xs.length := by omega
      have h2' : j < ys.length := by omega
      obtain ⟨u1, e1, q1⟩ := r1.get (List.getElem?_eq_getElem h1')
      obtain ⟨u2, e2, q2⟩ := r2.get (List.getElem?_eq_getElem h2')
      have e1' : its.toArray[j] = u1 := by
        have := List.getElem?_eq_some_iff.mp e1
        obtain ⟨_, z⟩ := this
        simpa using z
      have e2' : jts.toArray[j] = u2 := by
        have := List.getElem?_eq_some_iff.mp e2
        obtain ⟨_, z⟩ := this
        simpa using z
      rw [e1', e2']
      have g1 : xs.getD j .non = xs[j] := by rw [List.getD_eq_getElem?_getD, List.getElem?_eq_getElem h1']; rfl
      have g2 : ys.getD j .non = ys[j] := by rw [List.getD_eq_getElem?_getD, List.getElem?_eq_getElem h2']; rfl
      show SeqAt.EqAt X.A.in1 s u1 u2 (eqV (xs.getD j .non) (ys.getD j .non))
      rw [g1, g2]
      exact eqAt_V q1 q2 (List.all_eq_true.mp fx _ (List.getElem_mem h1')) (List.all_eq_true.mp fy _ (List.getElem_mem h2'))
    · rw [l1, eqVs_range xs ys hl]
      exact ⟨.bl _, H, I, rfl, q⟩
  · refine SeqAt.eq_list_lengthsAt p1.isList p2.isList (by rw [l1, l2]; simpa using hl) hu ?_
    rw [if_neg (by simp), eqVs_len hl] at q
    exact ⟨.bl false, H, I, rfl, q⟩
end
end L2

namespace L2
open PySem PySem.Spec PyProof.Rows

noncomputable def Def (K : PySem.W.Frag) (mg : Str → Option Value) (x : Str) (st : Stmt) : Prop := ∃ f fd, Fun K x x st f fd ∧ mg x = some (.ref f)
theorem def_mk {K : PySem.W.Frag} {mg : Str → Option Value} {h : Heap} (X : K.In h) (G : h.Ns mainGlobals mg) {x : Str} {st : Stmt} {f : Addr} {oc : Value} {od an : Option Addr} {osl : Array (Option Value)} {kV doc pm cdv ct : Value}
    (a : PySem.W.nsIn K mainGlobals x = some (some (.ref f)))
    (l : K.lookup f = some ⟨oc, od, .func (PySem.W.fnOf x x (defArgs st) (defBody st) (defScope st) .none kV doc pm an cdv ct), osl⟩)
    (c : PySem.W.codeIn K cdv x = true) (k : PySem.W.keepIn K (.ref f) = true) : Def K mg x st := ⟨f, _, fun_mk l c k, PySem.W.mg_of X G a⟩
noncomputable def Has (P : Program) (w : World) (K : PySem.W.Frag) (mg : Str → Option Value) (base : Heap) (k : Nat) (x : Str) (ps : List Str) (sp : Sp) : Prop :=
  ∃ f fd, mg x = some (.ref f) ∧ PySem.W.keepIn K (.ref f) = true ∧ Binds K fd ps [] ∧ FnOk P w K mg base CX0 k f fd ps sp
section
variable {P : Program} {w : World} {K : PySem.W.Frag} {mg : Str → Option Value} {base : Heap}
theorem has_of {x : Str} {st : Stmt} {N ps : List Str} {k : Nat} {sp : Sp} (D : Def K mg x st) (S : FnScope N ps (defScope st))
    (hb : ∀ (kV doc pm : Value) (an : Option Addr) (cdv ct : Value) (us : List Value), us.length = ps.length → bindArgs (PySem.W.fnOf x x (defArgs st) (defBody st) (defScope st) .none kV doc pm an cdv ct) ⟨us, []⟩ = pure (ps.zip us))
    (len : ∀ vs H Q E, sp vs H Q E → vs.length = ps.length)
    (hbody : ∀ (f : Addr) (cdv : Value) (A : Around) (outer : List Env) (s : Shared) (H : Hp) (vs : List V) (Q : VK) (E : XK), Room k (A.deeper (envOfC x (defScope st) s.heap.objs.size f cdv)) → sp vs H Q E →
      ∃ t, PSs (cxOf CX0 P w K mg base N x (defScope st) f cdv A outer s H E).nox (defBody st) t ∧ t { nx := fun _ H' => Q .non H', rt := Q } (start N vs) H) : Has P w K mg base (k + 1) x ps sp := by
  obtain ⟨f, fd, F, hm⟩ := D
  exact ⟨f, fd, hm, F.kp, F.binds hb, F.ok S len fun cdv A outer s H vs Q E hr h => hbody f cdv A outer s H vs Q E hr h⟩
end
section
variable {X : Cx}
theorem pe_callH {k : Nat} {x : Str} {ps : List Str} {sp : Sp} {p pos : Pos} {e : Expr} {es : List Expr} {t : TA} (F : Has X.prog X.w X.K X.mg X.base k x ps sp) (hr : Room k X.A) (hg : Gl X x)
    (ha : PA X (e :: es) t) (hdb : autoParam ((x == ("__debug__" : Str)) = false) L2.auto2._auto_1) (he : autoParam (starEach (e :: es) X.env = (false, eval e X.env) :: starEach es X.env) L2.auto4._auto_1) (hpl : autoParam ((backTo pos (starEach es X.env)).any (·.1) = false) L2.auto4._auto_1) :
    PE X (.Call (.Name x p) (e :: es) [] pos) (tCall sp [] E0 t) := by
  obtain ⟨f, fd, a, b, c, d⟩ := F
  exact pe_call d hr hg a b c .nil pass0 ha hdb he hpl
noncomputable def rAddA : R2 := fun x y H Q => (∃ i j, x = .int i ∧ y = .int j ∧ Q (.int (i + j)) H) ∨ (∃ i j, x = .str i ∧ y = .str j ∧ i.length + j.length ≤ sizeLine ∧ Q (.str (i ++ j)) H) ∨ rCat x y H Q
theorem op_addA : OpR X (binaryOp .Add) rAddA := op_add.or (op_add_str.or op_cat)
noncomputable def rMulA : R2 := fun x y H Q => (∃ i j, x = .int i ∧ y = .int j ∧ CMul i j ∧ Q (.int (i * j)) H) ∨ rMulS x y H Q ∨ rRep x y H Q
theorem op_mulA : OpR X (binaryOp .Mult) rMulA := op_mul.or (op_mul_str.or op_rep)
theorem glob_str {x : Str} {z : Str} {pos : Pos} (hg : Gl X x) (hm : ∃ t, X.mg x = some (.str z t)) (hd : autoParam ((x == ("__debug__" : Str)) = false) L2.auto2._auto_1) : PE X (.Name x pos) (tC (.str z)) :=
  let ⟨t, e⟩ := hm; pe_glob hg e ⟨t, rfl⟩ hd
theorem glob_int {x : Str} {z : Int} {pos : Pos} (hg : Gl X x) (hm : ∃ t, X.mg x = some (.int z t)) (hd : autoParam ((x == ("__debug__" : Str)) = false) L2.auto2._auto_1) : PE X (.Name x pos) (tC (.int z)) :=
  let ⟨t, e⟩ := hm; pe_glob hg e ⟨t, rfl⟩ hd
theorem pe_ty {x : Str} {T : String} {pos : Pos} (hg : Gl X x) (hm : X.mg x = none) (hv : bootBuiltins x = some (.type T)) (hn : autoParam (x ≠ "__name__") L2.auto2._auto_1) (hd : autoParam ((x == ("__debug__" : Str)) = false) L2.auto2._auto_1) : PE X (.Name x pos) (tC (.ty T)) :=
  pe_bltn hg hm hv rfl hn hd
noncomputable def rInA (K : PySem.W.Frag) : R2 := fun x y H Q => (∃ i j, x = .str i ∧ y = .str j ∧ Q (.bl (!(Builtin.Str.occurrences j i 0 j.length 1).isEmpty)) H) ∨ rIn K false x y H Q
theorem op_inA : OpR X (compareOp .In) (rInA X.K) := op_in_str.or op_in_seq
noncomputable def rEqA (K : PySem.W.Frag) : R2 := fun x y H Q => rEq x y H Q ∨ rEqL K false x y H Q
theorem op_eqA (hu : X.A.units < cLine) : OpR X (compareOp .Eq) (rEqA X.K) := op_eq.or (op_eq_lst hu)
noncomputable def rSl (K : PySem.W.Frag) : V → Option Int → Option Int → Hp → VK → Prop := fun x lo hi H Q => rSlL K x lo hi H Q ∨ rSlT K x lo hi H Q ∨ rSlS x lo hi H Q
theorem sl_seq : SlR X (rSl X.K) := sl_list.or (sl_tup.or sl_str)
noncomputable def iSeq (K : PySem.W.Frag) (tl : TE) : TI := fun σ H R => tl σ H fun x H1 => (∃ a, x = .ref a ∧ (∃ xs, SqL K H1 a xs) ∧ R (Itl K a) H1) ∨ (∃ a, x = .ref a ∧ (∃ xs, SqT K H1 a xs) ∧ R (Itt K a) H1) ∨ (∃ z, x = .str z ∧ R (Its z) H1)
theorem pi_seq {tg l : Expr} {tl : TE} (hl : PE X l tl) : PI X tg l (iSeq X.K tl) := by
  intro pins s σ H R I h
  refine thn (hl pins s σ H _ I h) fun v s1 qq0 => ?_
  obtain ⟨x, H1, I1, r1, q1⟩ := qq0
  rcases q1 with ⟨a, rfl, ⟨xs, hq⟩, q⟩ | ⟨a, rfl, ⟨xs, hq⟩, q⟩ | ⟨z, rfl, q⟩
  · cases r1
    obtain ⟨its, rv, p, hz⟩ := I1.list hq
    refine wpAny_pyIter_list p.isList ?_
    refine ⟨s1.heap.objs.size, [s1.heap.objs.size], _, _, H1, rfl, I1.kept (t' := s1.toks) fun b o e => Heap.get?_push_of_some _ e, turn_list a _, ⟨_, Heap.get?_push_size _ rfl, rfl, rfl⟩, fun b hb => ?_, q⟩
    have e : b = s1.heap.objs.size := by simpa using hb
    subst e
    exact I1.fpOk (Nat.le_refl _) (I1.hok.fresh (Nat.le_refl _))
  · cases r1
    obtain ⟨its, rv, p, hz⟩ := I1.tuple hq
    refine wpAny_pyIter_tuple (show s1.heap.IsTuple a its.toArray from p) ?_
    refine ⟨s1.heap.objs.size, [s1.heap.objs.size], _, _, H1, rfl, I1.kept (t' := s1.toks) fun b o e => Heap.get?_push_of_some _ e, turn_tuple a _, ⟨_, Heap.get?_push_size _ rfl, rfl, rfl⟩, fun b hb => ?_, q⟩
    have e : b = s1.heap.objs.size := by simpa using hb
    subst e
    exact I1.fpOk (Nat.le_refl _) (I1.hok.fresh (Nat.le_refl _))
  · obtain ⟨t, rfl⟩ := r1
    have fin : ∀ (ty : String) (T : Turn X.prog X.w X.K tg (Its z) [s1.heap.objs.size] s1.heap.objs.size (fun i h => h.IsStrIter s1.heap.objs.size ty z t i)) (o : Obj), (s1.heap.push o).IsStrIter s1.heap.objs.size ty z t 0 → PIE X pins σ tg R (.ref s1.heap.objs.size) { s1 with heap := s1.heap.push o } :=
      fun ty T o st => ⟨s1.heap.objs.size, [s1.heap.objs.size], _, _, H1, rfl, I1.kept (t' := s1.toks) fun b o e => Heap.get?_push_of_some _ e, T, st, fun b hb => by
        have e : b = s1.heap.objs.size := by simpa using hb
        subst e
        exact I1.fpOk (Nat.le_refl _) (I1.hok.fresh (Nat.le_refl _)), q⟩
    cases ha : z.cps.all (· < 128)
    · exact wpAny_pyIter_wide ha (fin "str_iterator" (turn_str _ z t _ (by decide) (fun A' hA => Walks.strWide hA _ z t) fun A i s Q E st h => wpAny_pyIter_striter_wide st h) _ ⟨_, Heap.get?_push_size _ rfl, rfl, rfl⟩)
    · exact wpAny_pyIter_ascii ha (fin "str_ascii_iterator" (turn_str _ z t _ (by decide) (fun A' hA => Walks.strAscii hA _ z t) fun A i s Q E st h => wpAny_pyIter_striter_ascii st h) _ ⟨_, Heap.get?_push_size _ rfl, rfl, rfl⟩)
end
section
variable {X : Cx} {K : PySem.W.Frag}
theorem ix_seqK (hK : X.K = K) : IxR X (rIx K) := hK ▸ ix_seq
theorem op_inK (hK : X.K = K) : OpR X (compareOp .In) (rInA K) := hK ▸ op_inA
theorem op_eqK (hK : X.K = K) (hu : X.A.units < cLine) : OpR X (compareOp .Eq) (rEqA K) := hK ▸ op_eqA hu
theorem sl_seqK (hK : X.K = K) : SlR X (rSl K) := hK ▸ sl_seq
theorem pi_seqK {tg l : Expr} {tl : TE} (hK : X.K = K) (hl : PE X l tl) : PI X tg l (iSeq K tl) := hK ▸ pi_seq hl
noncomputable def rLen (K : PySem.W.Frag) : List V → Hp → VK → Prop := fun xs H Q => ∃ x n, xs = [x] ∧ LenV K x H n ∧ Q (.int n) H
theorem call_lenK (hK : X.K = K) : CallR X (.builtin "len") (rLen K) := hK ▸ call_len
theorem call_isiK (hK : X.K = K) : CallR X (.builtin "isinstance") (rIsi K) := hK ▸ call_isi
noncomputable def rListA (K : PySem.W.Frag) : List V → Hp → VK → Prop := fun xs H Q => (∃ p ys, xs = [.ref p] ∧ (SqL K H p ys ∨ SqT K H p ys) ∧ ∀ l, H l = none → Q (.ref l) (upd H l (.lst ys))) ∨ (∃ x, xs = [.str x] ∧ x.cps.size ≤ sizeLine ∧ ∀ p, H p = none → Q (.ref p) (upd H p (.lst (sgn x))))
theorem call_listK (hK : X.K = K) (hc : X.calm = true) : CallR X (.type "list") (rListA K) := hK ▸ call_list_of.or (call_list_S hc)
noncomputable def rTupA (K : PySem.W.Frag) : List V → Hp → VK → Prop := fun xs H Q => (∃ p ys, xs = [.ref p] ∧ ((SqL K H p ys ∧ ∀ l, H l = none → Q (.ref l) (upd H l (.tup ys))) ∨ (SqT K H p ys ∧ Q (.ref p) H))) ∨ (∃ x, xs = [.str x] ∧ x.cps.size ≤ sizeLine ∧ ∀ p, H p = none → Q (.ref p) (upd H p (.tup (sgn x))))
theorem call_tupleK (hK : X.K = K) (hc : X.calm = true) : CallR X (.type "tuple") (rTupA K) := hK ▸ call_tuple_of.or (call_tuple_S hc)
variable {o e : Expr} {es : List Expr} {to : TE} {t : TA} {name : Str} {apos cpos : Pos} {T id : String} {r : V → List V → Hp → VK → Prop}
theorem pe_bmK (hK : X.K = K) (pa : PlainAttrs T) (slot : Slot T name id) (hty : typeOf (.builtin id) = pure (.type "method_descriptor")) (hm : MtR X id r) (ho : PE X o to) (ha : PA X (e :: es) t)
    (hbase : autoParam (attributeBase o name X.env (eval o X.env) = eval o X.env) L2.auto4._auto_1)
    (hfew : ((backTo cpos (starEach (e :: es) X.env)).all (fun x => !x.1) && (backToKw cpos (keywordEach [] X.env)).all (fun x => x.1.isSome)
      && decide ((e :: es).length + ([] : List Keyword).length + (if ([] : List Keyword).isEmpty then 0 else 1) < 30)) = true := by rfl)
    (hline : autoParam ((apos.endLine == cpos.line) = true) L2.auto4._auto_1) (hs : autoParam (starEach (e :: es) X.env = (false, eval e X.env) :: starEach es X.env) L2.auto4._auto_1) (hplain : autoParam ((backTo cpos (starEach es X.env)).any (·.1) = false) L2.auto4._auto_1) :
    PE X (.Call (.Attribute o name apos) (e :: es) [] cpos) (tBM K T r to t) := by
  subst hK; exact pe_bm pa slot hty hm ho ha hbase hfew hline hs hplain
theorem pg_tupK {ts : List Expr} {k : Nat} {gs : TGs} {n : Nat} {pos : Pos} (hK : X.K = K) (hc : X.calm = true) (h : PGs X ts gs)
    (hn : autoParam ((assignEach ts X.env).length = n) L2.auto4._auto_1) (hst : autoParam ((assignEach ts X.env).findIdx? (·.1) = none) L2.auto4._auto_1) : PG X (.Tuple ts k pos) (gTup K n gs) := by
  subst hK; exact pg_tup hc h hn hst
end
section
variable {X : Cx} {sc scope : Scope} {N' : List Str} {C : Addr} {s₀ : Shared} {H₀ : Hp} {ex : List Addr} {x : Str} {pos : Pos}
theorem pvL (i : Nat) (h : sc.names.lookup x = some .local) (hN : autoParam (X.N[i]? = some x) L2.auto4._auto_1) (hsc : autoParam (X.env.scope = sc) L2.auto4._auto_1) (hd : autoParam ((x == ("__debug__" : Str)) = false) L2.auto6._auto_1) (hcd : autoParam ((x == ("__classdict__" : Str)) = false) L2.auto6._auto_1) :
    PE X (.Name x pos) (tVar i) := pe_var hN (.inl (by rw [hsc]; exact h)) hd hcd
theorem pvBL (i : Nat) (h : scope.names.lookup x = some .local) (hN : autoParam (N'[i]? = some x) L2.auto4._auto_1) (hd : autoParam ((x == ("__debug__" : Str)) = false) L2.auto6._auto_1) (hcd : autoParam ((x == ("__classdict__" : Str)) = false) L2.auto6._auto_1) :
    PE (cxC X N' scope C s₀ H₀ ex) (.Name x pos) (tVar i) := pe_var hN (.inl (lookup_relabel_local h)) hd hcd
theorem pvBF (i : Nat) (h : scope.names.lookup x = some .free) (hN : autoParam (N'[i]? = some x) L2.auto4._auto_1) (hd : autoParam ((x == ("__debug__" : Str)) = false) L2.auto6._auto_1) (hcd : autoParam ((x == ("__classdict__" : Str)) = false) L2.auto6._auto_1) :
    PE (cxC X N' scope C s₀ H₀ ex) (.Name x pos) (tVar i) := pe_var hN (by
      rcases relabel_free (env := X.env) h with z | z
      · exact .inr (.inl z)
      · exact .inr (.inr z)) hd hcd
theorem glF (h : sc.names.lookup x = some .globalImplicit) (hsc : autoParam (X.env.scope = sc) L2.auto4._auto_1) : Gl X x := by
  show X.env.scope.names.lookup x = _
  rw [hsc]; exact h
theorem lookup_relabel_glob {env : Env} : ∀ {names : List (Str × NameKind)} {x : Str}, names.lookup x = some .globalImplicit →
    (names.map fun (n, k) => if (k == NameKind.free && env.scope.kind == .function && env.kindOf n == some .cell) then (n, NameKind.cell) else (n, k)).lookup x = some .globalImplicit
  | [], _, h => by simp at h
  | (n, k) :: r, x, h => by
    have ih := @lookup_relabel_glob env r x
    show List.lookup x ((if (k == NameKind.free && env.scope.kind == .function && env.kindOf n == some .cell) = true then (n, NameKind.cell) else (n, k)) :: _) = _
    cases hx : x == n with
    | true =>
      simp only [List.lookup_cons, hx] at h
      cases h
      simp [List.lookup_cons, hx]
    | false =>
      simp only [List.lookup_cons, hx] at h
      by_cases hc : (k == NameKind.free && env.scope.kind == .function && env.kindOf n == some .cell) = true
      · rw [if_pos hc]; simp only [List.lookup_cons, hx]; exact ih h
      · rw [if_neg hc]; simp only [List.lookup_cons, hx]; exact ih h
theorem glB (h : scope.names.lookup x = some .globalImplicit) : Gl (cxC X N' scope C s₀ H₀ ex) x := lookup_relabel_glob h
theorem pgB (i : Nat) (h : scope.names.lookup x = some .local) (hN : N'.Nodup) (hi : autoParam (N'[i]? = some x) L2.auto4._auto_1) : PG (cxC X N' scope C s₀ H₀ ex) (.Name x pos) (gName i) :=
  pg_name hN hi (.inl (lookup_relabel_local h)) (.inr (lookup_relabel_local h))
end
noncomputable def notComp : Expr → Bool
  | .ListComp .. => false | .SetComp .. => false | .DictComp .. => false | _ => true
theorem sw_no {value : Expr} {target : Option Expr} {line : Nat} {env : Env} (h : notComp value = true) : swapsWith value target line env = pure false := by
  cases value <;> first | rfl | cases h
noncomputable def notSlice : Expr → Bool
  | .Slice .. => false | _ => true
theorem pix {b : Expr} (h : notSlice b = true) : PlainIx b := by
  intro o i
  cases b <;> first | rfl | cases h
noncomputable def notSet : Expr → Bool
  | .Set .. => false | _ => true
theorem fs_no {e : Expr} {env : Env} (h : notSet e = true) : ∀ x, foldedSetIterable e env x = pure x := by
  intro x
  cases e <;> first | rfl | cases h
noncomputable def notStar : Expr → Bool
  | .Starred .. => false | _ => true
theorem se_cons {e : Expr} {es : List Expr} {env : Env} (h : notStar e = true) : starEach (e :: es) env = (false, eval e env) :: starEach es env := by
  cases e <;> first | rfl | cases h
theorem se_any {env : Env} {pos : Pos} : ∀ {es : List Expr}, es.all notStar = true → (backTo pos (starEach es env)).any (·.1) = false
  | [], _ => rfl
  | e :: es, h => by
    simp only [List.all_cons, Bool.and_eq_true] at h
    rw [se_cons h.1]
    show (false || (backTo pos (starEach es env)).any (·.1)) = false
    rw [se_any h.2]; rfl
theorem se_all {env : Env} {pos : Pos} : ∀ {es : List Expr}, es.all notStar = true → (backTo pos (starEach es env)).all (fun x => !x.1) = true
  | [], _ => rfl
  | e :: es, h => by
    simp only [List.all_cons, Bool.and_eq_true] at h
    rw [se_cons h.1]
    show (true && (backTo pos (starEach es env)).all (fun x => !x.1)) = true
    rw [se_all h.2]; rfl
section
variable {X : Cx} {K : PySem.W.Frag} {e : Expr} {es : List Expr} {te : TE} {t : TA} {pos p : Pos}
theorem paC (ha : PE X e te) (hr : PA X es t) (h : autoParam (notStar e = true) L2.auto4._auto_1) : PA X (e :: es) (tCons te t) := pa_cons ha hr (se_cons h)
theorem callH {k : Nat} {x : Str} {ps : List Str} {sp : Sp} (F : Has X.prog X.w X.K X.mg X.base k x ps sp) (hr : Room k X.A) (hg : Gl X x) (ha : PA X (e :: es) t) (hdb : (x == ("__debug__" : Str)) = false) (h : autoParam ((e :: es).all notStar = true) L2.auto4._auto_1) :
    PE X (.Call (.Name x p) (e :: es) [] pos) (tCall sp [] E0 t) := by
  simp only [List.all_cons, Bool.and_eq_true] at h
  exact pe_callH F hr hg ha hdb (se_cons h.1) (se_any h.2)
theorem callB {x : Str} {id : String} {r : List V → Hp → VK → Prop} (hc : CallR X (.builtin id) r) (hg : Gl X x) (hm : X.mg x = none) (hv : bootBuiltins x = some (.builtin id)) (ha : PA X (e :: es) t) (hn : x ≠ "__name__") (hdb : (x == ("__debug__" : Str)) = false) (h : autoParam ((e :: es).all notStar = true) L2.auto4._auto_1) :
    PE X (.Call (.Name x p) (e :: es) [] pos) (tCB r t) := by
  simp only [List.all_cons, Bool.and_eq_true] at h
  exact pe_callB hc hg hm hv ha hn hdb (se_cons h.1) (se_any h.2)
theorem callTy {x : Str} {T : String} {r : List V → Hp → VK → Prop} (hc : CallR X (.type T) r) (hg : Gl X x) (hm : X.mg x = none) (hv : bootBuiltins x = some (.type T)) (ha : PA X (e :: es) t) (hn : x ≠ "__name__") (hdb : (x == ("__debug__" : Str)) = false) (h : autoParam ((e :: es).all notStar = true) L2.auto4._auto_1) :
    PE X (.Call (.Name x p) (e :: es) [] pos) (tCB r t) := by
  simp only [List.all_cons, Bool.and_eq_true] at h
  exact pe_callTy hc hg hm hv ha hn hdb (se_cons h.1) (se_any h.2)
noncomputable def notCall : Expr → Bool
  | .Call .. => false | _ => true
theorem ab_no {o : Expr} {f : Str} {env : Env} {w : Sem Value} (h : notCall o = true) : attributeBase o f env w = w := by
  cases o <;> first | rfl | cases h
theorem methK {o : Expr} {to : TE} {name : Str} {apos cpos : Pos} {T id : String} {r : V → List V → Hp → VK → Prop} (hK : X.K = K) (pa : PlainAttrs T) (slot : Slot T name id) (hty : typeOf (.builtin id) = pure (.type "method_descriptor")) (hm : MtR X id r) (ho : PE X o to) (ha : PA X (e :: es) t)
    (hbase : autoParam (notCall o = true) L2.auto4._auto_1) (hl : autoParam (es.length < 20) L2.auto2._auto_1) (hline : autoParam ((apos.endLine == cpos.line) = true) L2.auto4._auto_1) (h : autoParam ((e :: es).all notStar = true) L2.auto4._auto_1) :
    PE X (.Call (.Attribute o name apos) (e :: es) [] cpos) (tBM K T r to t) := by
  have hA := se_all (env := X.env) (pos := cpos) h
  simp only [List.all_cons, Bool.and_eq_true] at h
  refine pe_bmK hK pa slot hty hm ho ha (ab_no hbase) ?_ hline (se_cons h.1) (se_any h.2)
  rw [hA]
  have : (e :: es).length + ([] : List Keyword).length + (if ([] : List Keyword).isEmpty then 0 else 1) < 30 := by simp; omega
  rw [decide_eq_true this]; rfl
theorem psSet {i : Nat} {x : Str} {pos' : Pos} (hN : X.N.Nodup) (hi : X.N[i]? = some x) (hx : Loc X.env.scope x) (he : PE X e te) (hf : X.fn x = true) (h : autoParam (notComp e = true) L2.auto4._auto_1) : PS X (.Assign [.Name x pos'] e pos) (tAsg te (gName i)) :=
  ps_set hN hi hx he (sw_no h) (.inl hf)
theorem psExpr (he : PE X e te) (h : autoParam (notComp e = true) L2.auto4._auto_1) : PS X (.Expr e pos) (tDrop te) := ps_expr he (sw_no h)
theorem ixE {a b : Expr} {ta tb : TE} (hK : X.K = K) (ha : PE X a ta) (hb : PE X b tb) (h : autoParam (notSlice b = true) L2.auto4._auto_1) : PE X (.Subscript a b pos) (tOp (rIx K) ta tb) := pe_ix (ix_seqK hK) ha hb (pix h)
theorem psFor {tg iter : Expr} {body : List Stmt} {wi : TI} {g : TG} {tb : TS} (hp : PassesOwn (model X.prog X.w) X.A X.env X.xe) (hc : X.calm = true) (hi : PI X tg iter wi) (hg : PG X tg g) (hb : PSs X body tb) (h : autoParam (notSet iter = true) L2.auto4._auto_1) : PS X (.For tg iter body [] pos) (tFor wi g tb) :=
  ps_for hp hc hi hg hb (fs_no h)
end
section
variable {X : Cx} {tg iter elt : Expr} {ifs : List Expr} {scope : Scope} {pos : Pos} {N' : List Str} {sub : List (Option Nat)} {wi : TI} {g : TG} {tt : TT} {te : TE} {N : List Str} {sc : Scope}
theorem compE (S : SubOk N sc N' scope sub) (hc : X.calm = true) (hN : X.N = N) (hsc : X.env.scope = sc) (hi : PI X tg iter wi)
    (hg : ∀ (C : Addr) (s₀ : Shared) (H₀ : Hp) (ex : List Addr), PG (cxC X N' scope C s₀ H₀ ex) tg g)
    (ht : ∀ (C : Addr) (s₀ : Shared) (H₀ : Hp) (ex : List Addr), PIfs (cxC X N' scope C s₀ H₀ ex) ifs tt)
    (he : ∀ (C : Addr) (s₀ : Shared) (H₀ : Hp) (ex : List Addr), PE (cxC X N' scope C s₀ H₀ ex) elt te) (h : autoParam (notSet iter = true) L2.auto4._auto_1) :
    PE X (.ListComp elt [⟨tg, iter, ifs, 0⟩] scope pos) (tComp sub wi g tt te) := pe_comp S hc hN hsc hi hg ht he (fs_no h)
end
theorem bt_len : bootBuiltins "len" = some (.builtin "len") := by decide +kernel
theorem bt_isinstance : bootBuiltins "isinstance" = some (.builtin "isinstance") := by decide +kernel
theorem bt_all : bootBuiltins "all" = some (.builtin "all") := by decide +kernel
theorem bt_list : bootBuiltins "list" = some (.type "list") := by decide +kernel
theorem bt_tuple : bootBuiltins "tuple" = some (.type "tuple") := by decide +kernel
theorem bt_str : bootBuiltins "str" = some (.type "str") := by decide +kernel
theorem bt_enumerate : bootBuiltins "enumerate" = some (.type "enumerate") := by decide +kernel
theorem bt_zip : bootBuiltins "zip" = some (.type "zip") := by decide +kernel
theorem iteD {c A B : Prop} [Decidable c] (h1 : c → A) (h2 : ¬ c → B) : if decide c = true then A else B := by
  by_cases h : c
  · rw [if_pos (decide_eq_true h)]; exact h1 h
  · rw [if_neg (by rw [decide_eq_false h]; exact Bool.false_ne_true)]; exact h2 h
theorem atI_int {α : Type} {xs : List α} {k : Int} {v : α} (h0 : 0 ≤ k) (h : xs[k.toNat]? = some v) : atI xs k = some v := by
  have e : ((k.toNat : Nat) : Int) = k := by omega
  rw [← e]
  exact atI_nat h
end L2

namespace L2
open PySem PySem.Spec PyProof.Rows
section
variable {σ : St} {H : Hp} {D : Ends} {ta tb te tc : TE} {tt tu : TT} {Q : VK} {t u : TS} {g : TG}
theorem r_seq (h : t { D with nx := u D } σ H) : tSeq t u D σ H := h
theorem r_next (h : D.nx σ H) : tNext D σ H := h
theorem r_asg (h : te σ H fun x H1 => g x σ H1 D.nx) : tAsg te g D σ H := h
theorem r_name {i : Nat} {v : V} {R : St → Hp → Prop} (h : R (σ.set i (some v)) H) : gName i v σ H R := h
theorem r_ret (h : te σ H D.rt) : tRet te D σ H := h
theorem r_drop (h : te σ H fun _ H1 => D.nx σ H1) : tDrop te D σ H := h
theorem r_if (h : tt σ H fun b H1 => if b = true then t D σ H1 else u D σ H1) : tIfS tt t u D σ H := h
theorem r_test {R : Bool → Hp → Prop} (h : te σ H fun x H1 => ∃ k, x = .bl k ∧ R k H1) : tTest te σ H R := h
theorem r_tb {R : Bool → Hp → Prop} (h : te σ H fun x H1 => ∃ k, x = .bl k ∧ R k H1) : tB te σ H R := h
theorem r_not {R : Bool → Hp → Prop} (h : tt σ H fun c H1 => R (!c) H1) : tNot tt σ H R := h
theorem r_and {R : Bool → Hp → Prop} (h : tt σ H fun c H1 => if c = true then tu σ H1 R else R false H1) : tAnd tt tu σ H R := h
theorem r_or {R : Bool → Hp → Prop} (h : tt σ H fun c H1 => if c = true then R true H1 else tu σ H1 R) : tOr tt tu σ H R := h
theorem r_andV (h : ta σ H fun x H1 => ∃ c, x = .bl c ∧ if c = true then tb σ H1 Q else Q (.bl false) H1) : tAndV ta tb σ H Q := h
theorem r_notV (h : ta σ H fun x H1 => ∃ c, x = .bl c ∧ Q (.bl (!c)) H1) : tNotV ta σ H Q := h
theorem r_ifE (h : tt σ H fun c H1 => if c = true then ta σ H1 Q else tb σ H1 Q) : tIf tt ta tb σ H Q := h
theorem r_var {i : Nat} {v : V} (e : σ[i]? = some (some v)) (h : Q v H) : tVar i σ H Q := ⟨v, e, h⟩
theorem r_C {v : V} (h : Q v H) : tC v σ H Q := h
theorem r_op {r : R2} (h : ta σ H fun x H1 => tb σ H1 fun y H2 => r x y H2 Q) : tOp r ta tb σ H Q := h
theorem r_un {r : V → Hp → VK → Prop} (h : ta σ H fun x H1 => r x H1 Q) : tUn r ta σ H Q := h
theorem r_cb {r : List V → Hp → VK → Prop} {a : TA} (h : a σ H fun vs H1 => r vs H1 Q) : tCB r a σ H Q := h
theorem r_cons {a : TA} {R : List V → Hp → Prop} (h : te σ H fun x H1 => a σ H1 fun xs H2 => R (x :: xs) H2) : tCons te a σ H R := h
theorem r_nil {R : List V → Hp → Prop} (h : R [] H) : tNil σ H R := h
theorem r_call {sp : Sp} {E : XK} {a : TA} (h : a σ H fun vs H1 => sp vs H1 Q E) : tCall sp [] E a σ H Q := by
  unfold tCall
  simpa only [List.append_nil] using h
theorem r_tup {a : TA} (h : a σ H fun xs H1 => xs.length ≤ sizeLine ∧ ∀ p, H1 p = none → Q (.ref p) (upd H1 p (.tup xs))) : tTup a σ H Q := h
theorem r_lst {a : TA} (h : a σ H fun xs H1 => xs.length ≤ sizeLine ∧ ∀ p, H1 p = none → Q (.ref p) (upd H1 p (.lst xs))) : tLst a σ H Q := h
theorem r_bm {K : PySem.W.Frag} {T : String} {r : V → List V → Hp → VK → Prop} {a : TA} (h : te σ H fun x H1 => tyV K T x H1 ∧ a σ H1 fun xs H2 => r x xs H2 Q) : tBM K T r te a σ H Q := h
theorem r_sl {r : V → Option Int → Option Int → Hp → VK → Prop} {tl th : TO} (h : te σ H fun x H1 => tl σ H1 fun l H2 => th σ H2 fun u H3 => r x l u H3 Q) : tSl r te tl th σ H Q := h
theorem r_nop {R : Option Int → Hp → Prop} (h : R none H) : tNoPart σ H R := h
theorem r_part {R : Option Int → Hp → Prop} (h : te σ H fun x H1 => ∃ i, x = .int i ∧ R (some i) H1) : tPart te σ H R := h
theorem r_true {R : Bool → Hp → Prop} (h : R true H) : tTrue σ H R := h
theorem r_rng1 {a : TA} {R : It → Hp → Prop} (h : a σ H fun vs H1 => ∃ j : Int, vs = [.int j] ∧ -(2 ^ 62) ≤ j ∧ j < 2 ^ 62 ∧ R (Itr 0 j.toNat) H1) : iRng1 a σ H R := h
theorem r_iseq {K : PySem.W.Frag} {R : It → Hp → Prop} (h : te σ H fun x H1 => (∃ a, x = .ref a ∧ (∃ xs, SqL K H1 a xs) ∧ R (Itl K a) H1) ∨ (∃ a, x = .ref a ∧ (∃ xs, SqT K H1 a xs) ∧ R (Itt K a) H1) ∨ (∃ z, x = .str z ∧ R (Its z) H1)) : iSeq K te σ H R := h
theorem r_comp {sub : List (Option Nat)} {wi : TI} (h : wi σ H fun J H1 => CompR sub g tt te σ Q J H1) : tComp sub wi g tt te σ H Q := h
theorem r_for {wi : TI} {tbd : TS} (h : wi σ H fun J H1 => ∃ W : Nat → Nat → St → Hp → Prop, (∃ m, W 0 m σ H1) ∧ ∀ i m σ H, W i m σ H →
  (J.stop i H ∧ D.nx σ H) ∨ (J.go i H ∧ ∃ N : St → Hp → Prop, (∀ σ' H', N σ' H' → ∃ m', m' < m ∧ W (i + 1) m' σ' H') ∧ ∀ x H', J.yld i H x H' → g x σ H' fun σ2 H2 => tbd { D with nx := N, ct := N, bk := D.nx } σ2 H2)) : tFor wi g tbd D σ H := h
variable {i j : Int} {x y : Str} {f : Int → Int → V} {C : Int → Int → Prop} {K : PySem.W.Frag}
theorem r_i0 (h : Q (f i j) H) : rI0 f (.int i) (.int j) H Q := ⟨_, _, rfl, rfl, h⟩
theorem r_i (c : C i j) (h : Q (f i j) H) : rI C f (.int i) (.int j) H Q := ⟨_, _, rfl, rfl, c, h⟩
theorem r_addI (h : Q (.int (i + j)) H) : rAddA (.int i) (.int j) H Q := .inl ⟨_, _, rfl, rfl, h⟩
theorem r_addS (c : x.length + y.length ≤ sizeLine) (h : Q (.str (x ++ y)) H) : rAddA (.str x) (.str y) H Q := .inr (.inl ⟨_, _, rfl, rfl, c, h⟩)
theorem r_addL {a b : Addr} {xs ys : List V} (ha : H a = some (.lst xs)) (hb : H b = some (.lst ys)) (c : xs.length + ys.length ≤ sizeLine) (h : ∀ p, H p = none → Q (.ref p) (upd H p (.lst (xs ++ ys)))) : rAddA (.ref a) (.ref b) H Q :=
  .inr (.inr ⟨a, b, xs, ys, rfl, rfl, ha, hb, c, h⟩)
theorem r_mulI (c : CMul i j) (h : Q (.int (i * j)) H) : rMulA (.int i) (.int j) H Q := .inl ⟨_, _, rfl, rfl, c, h⟩
theorem r_ixL {p : Addr} {xs : List V} {v : V} (s : SqL K H p xs) (e : atI xs i = some v) (h : Q v H) : rIx K (.ref p) (.int i) H Q := .inl ⟨p, xs, i, v, rfl, rfl, s, e, h⟩
theorem r_ixT {p : Addr} {xs : List V} {v : V} (s : SqT K H p xs) (e : atI xs i = some v) (h : Q v H) : rIx K (.ref p) (.int i) H Q := .inr (.inl ⟨p, xs, i, v, rfl, rfl, s, e, h⟩)
theorem r_ixS {c : Nat} (s : x.length ≤ sizeLine) (e : atI x.cps.toList i = some c) (h : Q (.str ⟨#[c]⟩) H) : rIx K (.str x) (.int i) H Q := .inr (.inr ⟨x, i, c, rfl, rfl, s, e, h⟩)
theorem r_inS (h : Q (.bl (!(Builtin.Str.occurrences y x 0 y.length 1).isEmpty)) H) : rInA K (.str x) (.str y) H Q := .inl ⟨_, _, rfl, rfl, h⟩
theorem r_bl {b : Bool} {R : Bool → Prop} (h : R b) : ∃ k, V.bl b = .bl k ∧ R k := ⟨b, rfl, h⟩
theorem r_intE {n : Int} {R : Int → Prop} (h : R n) : ∃ k, V.int n = .int k ∧ R k := ⟨n, rfl, h⟩
end
theorem Same.upd {H H' : Hp} {p : Addr} {o : HO} (s : Same H H') (hn : H' p = none) : Same H (upd H' p o) := fun b u e => by
  have q := s b u e
  rw [upd_ne (fun z => by rw [z, hn] at q; cases q)]
  exact q
end L2

namespace L2
open PySem PySem.Spec PyProof.Rows
theorem upd_old {H : Hp} {q b : Addr} {o u : HO} (hq : H q = none) (hb : H b = some u) : upd H q o b = some u := by
  rw [upd_ne (fun z => by rw [z, hq] at hb; cases hb)]; exact hb
theorem glued_join (sep : Str) (ys : List Str) : Txt.join sep ys = Str.join sep ys := by
  show Builtin.Str.glued sep ys = Str.join sep ys
  exact PySem.StrLaws.glued_eq_join sep ys
theorem join_cps (ys : List Str) : (Txt.join (Str.ofString "") ys).cps.toList = (ys.map fun y => y.cps.toList).flatten := by
  rw [glued_join]
  have e0 : (Str.ofString "").cps = #[] := by decide +kernel
  have key : ∀ ys : List Str, (Str.join (Str.ofString "") ys).cps.toList = (ys.map fun y => y.cps.toList).flatten := by
    intro ys
    induction ys with
    | nil => rfl
    | cons y r ih =>
      cases r with
      | nil => simp [Str.join]
      | cons z r =>
        show ((y ++ Str.ofString "") ++ Str.join (Str.ofString "") (z :: r)).cps.toList = _
        rw [Str.cps_append, Str.cps_append, e0]
        simp only [Array.append_empty, Array.toList_append, ih, List.map_cons, List.flatten_cons]
  exact key ys
theorem len_cps (x : Str) : x.length = x.cps.toList.length := by simp [Str.length]
theorem len1 (c : Nat) : (⟨#[c]⟩ : Str).length = 1 := by simp [Str.length]
section
variable {H : Hp} {Q : VK} {K : PySem.W.Frag}
theorem r_lenL {p : Addr} {xs : List V} (s : SqL K H p xs) (h : Q (.int xs.length) H) : rLen K [V.ref p] H Q := ⟨_, _, rfl, .inl ⟨_, s, rfl⟩, h⟩
theorem r_lenT {p : Addr} {xs : List V} (s : SqT K H p xs) (h : Q (.int xs.length) H) : rLen K [V.ref p] H Q := ⟨_, _, rfl, .inr ⟨_, s, rfl⟩, h⟩
theorem r_lenS {z : Str} (s : z.length ≤ sizeLine) (h : Q (.int z.length) H) : rLen K [V.str z] H Q := ⟨_, _, rfl, ⟨s, rfl⟩, h⟩
theorem r_isi {x : V} {T : String} {t : Value} {b : Bool} (ty : TyOf K H x t) (e : PySem.W.kitOne K t (.type T) = some b) (h : Q (.bl b) H) : rIsi K [x, .ty T] H Q := ⟨x, T, t, b, rfl, ty, e, h⟩
theorem r_join {sep : Str} {p : Addr} {ys : List Str} (hp : H p = some (.lst (ys.map V.str))) (hz : (ys.map (·.length)).sum + ys.length * sep.length ≤ 16777216) (h : Q (.str (Txt.join sep ys)) H) : rJoin (.str sep) [.ref p] H Q := ⟨sep, p, ys, rfl, rfl, hp, hz, h⟩
theorem r_slS {x : Str} {lo hi : Option Int} (hz : x.length ≤ sizeLine) (h : Q (.str (Txt.slice x lo hi)) H) : rSl K (.str x) lo hi H Q := .inr (.inr ⟨x, rfl, hz, h⟩)
theorem r_slL {p : Addr} {xs : List V} {lo hi : Option Int} (s : SqL K H p xs) (h : ∀ q, H q = none → Q (.ref q) (upd H q (.lst (cutV xs lo hi)))) : rSl K (.ref p) lo hi H Q := .inl ⟨p, xs, rfl, s, h⟩
end
section
variable {σ : St} {H : Hp} {Q : VK}
theorem r_listL {K : PySem.W.Frag} {a : Addr} {xs : List V} (s : SqL K H a xs) (h : ∀ p, H p = none → Q (.ref p) (upd H p (.lst xs))) : rListA K [.ref a] H Q := .inl ⟨a, xs, rfl, .inl s, h⟩
end
theorem TyOf.mono {K : PySem.W.Frag} {H H' : Hp} {v : V} {T : String} (h : TyOf K H v (.type T)) (s : ∀ b o, H b = some o → v = .ref b → H' b = some o) : TyOf K H' v (.type T) := by
  generalize e : (Value.type T) = t at h
  cases h with
  | non => exact .non
  | bl x => exact .bl x
  | int i => exact .int i
  | str x => exact .str x
  | flt x => exact .flt x
  | lst z => exact .lst (s _ _ z rfl)
  | frz z => exact .frz (s _ _ z rfl)
  | tup z => exact .tup (s _ _ z rfl)
  | dK z => exact .dK (s _ _ z rfl)
  | dT z => exact .dT (s _ _ z rfl)
  | ins => cases e
theorem comp_str {sub : List (Option Nat)} {g : TG} {tt : TT} {te : TE} {σ : St} {Q : VK} {H : Hp} {z : Str} (Pv : Nat → List V → Hp → Prop) (hn : z.cps.size ≤ sizeLine) (h0 : Pv 0 [] H) (hl : ∀ i ys H, Pv i ys H → ys.length ≤ i)
    (hs : ∀ i ys H c, z.cps.toList[i]? = some c → Pv i ys H → g (.str ⟨#[c]⟩) (subSt sub σ) H fun σ2 H2 => KeepSt (subSt sub σ) σ2 ∧ tt σ2 H2 fun b H3 => if b = true then te σ2 H3 fun y H4 => Pv (i + 1) (ys ++ [y]) H4 else Pv (i + 1) ys H3)
    (hd : ∀ ys H, Pv z.cps.size ys H → ∀ D, H D = none → Q (.ref D) (upd H D (.lst ys))) : CompR sub g tt te σ Q (Its z) H :=
  comp_by (n := z.cps.size) Pv hn h0 hl (fun i ys H hi _ => hi) (fun ys H _ => rfl) (fun i ys H x H' hi p y => by
    obtain ⟨e1, c, e2, e3⟩ := y
    subst e1 e3
    exact hs i ys _ c (by simpa using e2) p) hd
theorem comp_list {sub : List (Option Nat)} {g : TG} {tt : TT} {te : TE} {σ : St} {Q : VK} {H : Hp} {K : PySem.W.Frag} {a : Addr} {xs : List V} (Pv : Nat → List V → Hp → Prop) (hn : xs.length ≤ sizeLine) (h0 : Pv 0 [] H) (hl : ∀ i ys H, Pv i ys H → ys.length ≤ i)
    (hq : ∀ i ys H, Pv i ys H → SqL K H a xs)
    (hs : ∀ i ys H x, xs[i]? = some x → Pv i ys H → g x (subSt sub σ) H fun σ2 H2 => KeepSt (subSt sub σ) σ2 ∧ tt σ2 H2 fun b H3 => if b = true then te σ2 H3 fun y H4 => Pv (i + 1) (ys ++ [y]) H4 else Pv (i + 1) ys H3)
    (hd : ∀ ys H, Pv xs.length ys H → ∀ D, H D = none → Q (.ref D) (upd H D (.lst ys))) : CompR sub g tt te σ Q (Itl K a) H :=
  comp_by (n := xs.length) Pv hn h0 hl (fun i ys H hi p => ⟨xs, xs[i], hq i ys H p, List.getElem?_eq_getElem hi⟩) (fun ys H p => ⟨xs, hq _ ys H p, Nat.le_refl _⟩) (fun i ys H x H' hi p y => by
    obtain ⟨e1, e2⟩ := y
    subst e1
    exact hs i ys _ x (e2 xs (hq i ys _ p)) p) hd
end L2

namespace L2
open PySem PySem.Spec PyProof.Rows
structure JE (X : Cx) (e : Expr) (t : TE) : Prop where
  run : PE X e t
structure JT (X : Cx) (e : Expr) (t : TT) : Prop where
  run : PT X e t
structure JW (X : Cx) (e : Expr) (t : TT) : Prop where
  run : PW X e t
structure JA (X : Cx) (es : List Expr) (t : TA) : Prop where
  run : PA X es t
structure JS (X : Cx) (s : Stmt) (t : TS) : Prop where
  run : PS X s t
structure JB (X : Cx) (s : List Stmt) (t : TS) : Prop where
  run : PSs X s t
structure JI (X : Cx) (tg iter : Expr) (t : TI) : Prop where
  run : PI X tg iter t
structure JG (X : Cx) (tg : Expr) (t : TG) : Prop where
  run : PG X tg t
structure JGs (X : Cx) (tg : List Expr) (t : TGs) : Prop where
  run : PGs X tg t
structure JO (X : Cx) (e : Option Expr) (t : TO) : Prop where
  run : PO X e t
structure JPs (X : Cx) (pos : Pos) (keys : List (Option Expr)) (values : List Expr) (t : List (TE × TE)) : Prop where
  run : PPs X pos keys values t
structure JIfs (X : Cx) (ifs : List Expr) (t : TT) : Prop where
  run : PIfs X ifs t
section
variable {X : Cx} {K : PySem.W.Frag} {sc scope : Scope} {N' : List Str} {C : Addr} {s₀ : Shared} {H₀ : Hp} {ex : List Addr} {x : Str} {pos p p2 pos' apos cpos tpos : Pos} {a b c e o : Expr} {es : List Expr} {ta tb tc te to ti : TE} {t : TA} {tA tB' tt : TT} {rest : List Expr}
theorem j_vL (i : Nat) (h : sc.names.lookup x = some .local) (hN : autoParam (X.N[i]? = some x) L2.auto4._auto_1) (hsc : autoParam (X.env.scope = sc) L2.auto4._auto_1) (hd : autoParam ((x == ("__debug__" : Str)) = false) L2.auto6._auto_1) (hcd : autoParam ((x == ("__classdict__" : Str)) = false) L2.auto6._auto_1) : JE X (.Name x pos) (tVar i) := ⟨pvL i h hN hsc hd hcd⟩
theorem j_vBL (i : Nat) (h : scope.names.lookup x = some .local) (hN : autoParam (N'[i]? = some x) L2.auto4._auto_1) (hd : autoParam ((x == ("__debug__" : Str)) = false) L2.auto6._auto_1) (hcd : autoParam ((x == ("__classdict__" : Str)) = false) L2.auto6._auto_1) : JE (cxC X N' scope C s₀ H₀ ex) (.Name x pos) (tVar i) := ⟨pvBL i h hN hd hcd⟩
theorem j_vBF (i : Nat) (h : scope.names.lookup x = some .free) (hN : autoParam (N'[i]? = some x) L2.auto4._auto_1) (hd : autoParam ((x == ("__debug__" : Str)) = false) L2.auto6._auto_1) (hcd : autoParam ((x == ("__classdict__" : Str)) = false) L2.auto6._auto_1) : JE (cxC X N' scope C s₀ H₀ ex) (.Name x pos) (tVar i) := ⟨pvBF i h hN hd hcd⟩
theorem j_int {i j} : JE X (.Constant (.int i) j pos) (tC (.int i)) := ⟨pe_int⟩
theorem j_bl {i j} : JE X (.Constant (.bool i) j pos) (tC (.bl i)) := ⟨pe_bl⟩
theorem j_non {j} : JE X (.Constant .none j pos) (tC .non) := ⟨pe_non⟩
theorem j_str {i j} : JE X (.Constant (.str i) j pos) (tC (.str i)) := ⟨pe_str⟩
theorem j_gstr {z : Str} (hg : Gl X x) (hm : ∃ t, X.mg x = some (.str z t)) (hd : (x == ("__debug__" : Str)) = false) : JE X (.Name x pos) (tC (.str z)) := ⟨glob_str hg hm hd⟩
theorem j_gint {z : Int} (hg : Gl X x) (hm : ∃ t, X.mg x = some (.int z t)) (hd : (x == ("__debug__" : Str)) = false) : JE X (.Name x pos) (tC (.int z)) := ⟨glob_int hg hm hd⟩
theorem j_ty {T : String} (hg : Gl X x) (hm : X.mg x = none) (hv : bootBuiltins x = some (.type T)) (hn : x ≠ "__name__") (hd : (x == ("__debug__" : Str)) = false) : JE X (.Name x pos) (tC (.ty T)) := ⟨pe_ty hg hm hv hn hd⟩
theorem j_op {op : Operator} {r : R2} (ho : OpR X (binaryOp op) r) (ha : JE X a ta) (hb : JE X b tb) : JE X (.BinOp a op b pos) (tOp r ta tb) := ⟨pe_op ho ha.run hb.run⟩
theorem j_un {op : UnaryOp} {r : V → Hp → VK → Prop} (ho : UnR X (unaryOp op) r) (ha : JE X a ta) : JE X (.UnaryOp op a pos) (tUn r ta) := ⟨pe_un ho ha.run⟩
theorem j_cmp {op : CmpOp} {r : R2} (ho : OpR X (compareOp op) r) (ha : JE X a ta) (hb : JE X b tb) (hm : behindInMarks op b = false) : JE X (.Compare a [op] [b] pos) (tOp r ta tb) := ⟨pe_cmpR ho ha.run hb.run hm⟩
theorem jt_cmp {op : CmpOp} {r : R2} (ho : OpR X (compareOp op) r) (ha : JE X a ta) (hb : JE X b tb) (hm : behindInMarks op b = false) : JT X (.Compare a [op] [b] pos) (tTest (tOp r ta tb)) := ⟨pt_cmpR ho ha.run hb.run hm⟩
theorem jw_and1 (ha : JT X a tA) : JW X (.BoolOp .And [a] pos) tA := ⟨pw_and1 ha.run⟩
theorem jw_or1 (ha : JT X a tA) : JW X (.BoolOp .Or [a] pos) tA := ⟨pw_or1 ha.run⟩
theorem jw_and (ha : JT X a tA) (hb : JW X (.BoolOp .And (b :: rest) pos) tB') : JW X (.BoolOp .And (a :: b :: rest) pos) (tAnd tA tB') := ⟨pw_and ha.run hb.run⟩
theorem jw_or (ha : JT X a tA) (hb : JW X (.BoolOp .Or (b :: rest) pos) tB') : JW X (.BoolOp .Or (a :: b :: rest) pos) (tOr tA tB') := ⟨pw_or ha.run hb.run⟩
theorem jw_pt (h : JW X e tt) : JT X e tt := ⟨h.run.pt⟩
theorem jt_not (ha : JT X a tA) : JT X (.UnaryOp .Not a pos) (tNot tA) := ⟨pt_not ha.run⟩
noncomputable def plainT : Expr → Bool
  | .BoolOp .. => false | .UnaryOp .. => false | .Compare .. => false | .IfExp .. => false | _ => true
theorem jt_val (h : JE X e te) (hp : autoParam (plainT e = true) L2.auto4._auto_1) : JT X e (tB te) := ⟨pt_val h.run (by
  intro whole
  cases e <;> first | rfl | cases hp)⟩
theorem j_one {op} (h : JE X a te) : JE X (.BoolOp op [a] pos) te := ⟨pe_one h.run⟩
theorem j_and (ha : JE X a ta) (hb : JE X (.BoolOp .And (b :: rest) pos) tb) : JE X (.BoolOp .And (a :: b :: rest) pos) (tAndV ta tb) := ⟨pe_and ha.run hb.run⟩
theorem j_not (ha : JE X a ta) : JE X (.UnaryOp .Not a pos) (tNotV ta) := ⟨pe_not ha.run⟩
theorem j_if (hc : JT X c tA) (ha : JE X a ta) (hb : JE X b tb) : JE X (.IfExp c a b pos) (tIf tA ta tb) := ⟨pe_ifExp hc.run ha.run hb.run⟩
theorem j_tup {x1} (h : JA X es t) : JE X (.Tuple es x1 pos) (tTup t) := ⟨pe_tup h.run⟩
theorem j_lst (h : JA X es t) : JE X (.List es pos) (tLst t) := ⟨pe_lst h.run⟩
theorem ja_nil : JA X [] tNil := ⟨pa_nil⟩
theorem ja_cons (ha : JE X e te) (hr : JA X es t) (h : autoParam (notStar e = true) L2.auto4._auto_1) : JA X (e :: es) (tCons te t) := ⟨paC ha.run hr.run h⟩
theorem jo_none : JO X none tNoPart := ⟨po_none⟩
theorem jo_some (h : JE X e te) : JO X (some e) (tPart te) := ⟨po_some h.run⟩
theorem j_slice {r : V → Option Int → Option Int → Hp → VK → Prop} {lo hi : Option Expr} {tl th : TO} (hr : SlR X r) (he : JE X e te) (hl : JO X lo tl) (hu : JO X hi th) : JE X (.Subscript e (.Slice lo hi none p2) pos) (tSl r te tl th) := ⟨pe_slice hr he.run hl.run hu.run⟩
theorem j_ix (hK : X.K = K) (ha : JE X a ta) (hb : JE X b tb) (h : autoParam (notSlice b = true) L2.auto4._auto_1) : JE X (.Subscript a b pos) (tOp (rIx K) ta tb) := ⟨ixE hK ha.run hb.run h⟩
theorem j_call {k : Nat} {ps : List Str} {sp : Sp} (F : Has X.prog X.w X.K X.mg X.base k x ps sp) (hr : Room k X.A) (hg : Gl X x) (ha : JA X (e :: es) t) (hdb : (x == ("__debug__" : Str)) = false) (h : autoParam ((e :: es).all notStar = true) L2.auto4._auto_1) :
    JE X (.Call (.Name x p) (e :: es) [] pos) (tCall sp [] E0 t) := ⟨callH F hr hg ha.run hdb h⟩
theorem j_callB {id : String} {r : List V → Hp → VK → Prop} (hc : CallR X (.builtin id) r) (hg : Gl X x) (hm : X.mg x = none) (hv : bootBuiltins x = some (.builtin id)) (ha : JA X (e :: es) t) (hn : x ≠ "__name__") (hdb : (x == ("__debug__" : Str)) = false) (h : autoParam ((e :: es).all notStar = true) L2.auto4._auto_1) :
    JE X (.Call (.Name x p) (e :: es) [] pos) (tCB r t) := ⟨callB hc hg hm hv ha.run hn hdb h⟩
theorem j_callTy {T : String} {r : List V → Hp → VK → Prop} (hc : CallR X (.type T) r) (hg : Gl X x) (hm : X.mg x = none) (hv : bootBuiltins x = some (.type T)) (ha : JA X (e :: es) t) (hn : x ≠ "__name__") (hdb : (x == ("__debug__" : Str)) = false) (h : autoParam ((e :: es).all notStar = true) L2.auto4._auto_1) :
    JE X (.Call (.Name x p) (e :: es) [] pos) (tCB r t) := ⟨callTy hc hg hm hv ha.run hn hdb h⟩
theorem j_meth {name : Str} {T id : String} {r : V → List V → Hp → VK → Prop} (hK : X.K = K) (pa : PlainAttrs T) (slot : Slot T name id) (hty : typeOf (.builtin id) = pure (.type "method_descriptor")) (hm : MtR X id r) (ho : JE X o to) (ha : JA X (e :: es) t)
    (hbase : autoParam (notCall o = true) L2.auto4._auto_1) (hl : autoParam (es.length < 20) L2.auto2._auto_1) (hline : autoParam ((apos.endLine == cpos.line) = true) L2.auto4._auto_1) (h : autoParam ((e :: es).all notStar = true) L2.auto4._auto_1) : JE X (.Call (.Attribute o name apos) (e :: es) [] cpos) (tBM K T r to t) := ⟨methK hK pa slot hty hm ho.run ha.run hbase hl hline h⟩
theorem jif_nil : JIfs X [] tTrue := ⟨pifs_nil⟩
theorem jif_one (hc : JT X c tt) : JIfs X [c] tt := ⟨pifs_one hc.run⟩
variable {tg iter elt : Expr} {ifs : List Expr} {sub : List (Option Nat)} {wi : TI} {g : TG} {N : List Str}
theorem ji_range1 {ta : TA} (hg : Gl X "range") (hm : X.mg "range" = none) (ha : JA X [a] ta) (h : autoParam (notStar a = true) L2.auto4._auto_1) : JI X tg (.Call (.Name "range" p) [a] [] pos) (iRng1 ta) := ⟨pi_range1 hg hm ha.run (se_cons h)⟩
theorem ji_seq (hK : X.K = K) (hl : JE X e te) : JI X tg e (iSeq K te) := ⟨pi_seqK hK hl.run⟩
theorem jg_name {i : Nat} (hN : X.N.Nodup) (hi : X.N[i]? = some x) (hx : Loc X.env.scope x) (hf : X.fn x = true) : JG X (.Name x pos) (gName i) := ⟨pg_name hN hi hx (.inl hf)⟩
theorem jg_B (i : Nat) (h : scope.names.lookup x = some .local) (hN : N'.Nodup) (hi : autoParam (N'[i]? = some x) L2.auto4._auto_1) : JG (cxC X N' scope C s₀ H₀ ex) (.Name x pos) (gName i) := ⟨pgB i h hN hi⟩
theorem jgs_nil : JGs X [] gNil := ⟨pgs_nil⟩
theorem jgs_cons {gs : TGs} (h1 : JG X e g) (h2 : JGs X es gs) (hs : autoParam ((assignEach (e :: es) X.env).map (·.2) = assign e X.env :: (assignEach es X.env).map (·.2)) L2.auto4._auto_1) : JGs X (e :: es) (gCons g gs) := ⟨pgs_cons h1.run h2.run hs⟩
theorem jg_tup {ts : List Expr} {k : Nat} {gs : TGs} {n : Nat} (hK : X.K = K) (hc : X.calm = true) (h : JGs X ts gs) (hn : autoParam ((assignEach ts X.env).length = n) L2.auto4._auto_1) (hst : autoParam ((assignEach ts X.env).findIdx? (·.1) = none) L2.auto4._auto_1) : JG X (.Tuple ts k pos) (gTup K n gs) := ⟨pg_tupK hK hc h.run hn hst⟩
theorem j_comp (S : SubOk N sc N' scope sub) (hc : X.calm = true) (hN : X.N = N) (hsc : X.env.scope = sc) (hi : JI X tg iter wi)
    (hg : ∀ (C : Addr) (s₀ : Shared) (H₀ : Hp) (ex : List Addr), JG (cxC X N' scope C s₀ H₀ ex) tg g)
    (ht : ∀ (C : Addr) (s₀ : Shared) (H₀ : Hp) (ex : List Addr), JIfs (cxC X N' scope C s₀ H₀ ex) ifs tt)
    (he : ∀ (C : Addr) (s₀ : Shared) (H₀ : Hp) (ex : List Addr), JE (cxC X N' scope C s₀ H₀ ex) elt te) (h : autoParam (notSet iter = true) L2.auto4._auto_1) :
    JE X (.ListComp elt [⟨tg, iter, ifs, 0⟩] scope pos) (tComp sub wi g tt te) := ⟨compE S hc hN hsc hi.run (fun C s₀ H₀ ex => (hg C s₀ H₀ ex).run) (fun C s₀ H₀ ex => (ht C s₀ H₀ ex).run) (fun C s₀ H₀ ex => (he C s₀ H₀ ex).run) h⟩
variable {st : Stmt} {sts : List Stmt} {u v : TS}
theorem js_set {i : Nat} (hN : X.N.Nodup) (hi : X.N[i]? = some x) (hx : Loc X.env.scope x) (he : JE X e te) (hf : X.fn x = true) (h : autoParam (notComp e = true) L2.auto4._auto_1) : JS X (.Assign [.Name x pos'] e pos) (tAsg te (gName i)) := ⟨psSet hN hi hx he.run hf h⟩
theorem js_ret (he : JE X e te) : JS X (.Return (some e) pos) (tRet te) := ⟨ps_ret he.run⟩
theorem js_expr (he : JE X e te) (h : autoParam (notComp e = true) L2.auto4._auto_1) : JS X (.Expr e pos) (tDrop te) := ⟨psExpr he.run h⟩
theorem js_if {sa sb : List Stmt} (hc : JT X c tt) (ha : JB X sa u) (hb : JB X sb v) : JS X (.If c sa sb pos) (tIfS tt u v) := ⟨ps_if hc.run ha.run hb.run⟩
theorem js_for {body : List Stmt} (hp : PassesOwn (model X.prog X.w) X.A X.env X.xe) (hc : X.calm = true) (hi : JI X tg iter wi) (hg : JG X tg g) (hb : JB X body u) (h : autoParam (notSet iter = true) L2.auto4._auto_1) : JS X (.For tg iter body [] pos) (tFor wi g u) := ⟨psFor hp hc hi.run hg.run hb.run h⟩
theorem jb_nil : JB X [] tNext := ⟨pss_nil⟩
theorem jb_one (h : JS X st u) : JB X [st] u := ⟨pss_one h.run⟩
theorem jb_cons (h : JS X st u) (h2 : JB X sts v) : JB X (st :: sts) (tSeq u v) := ⟨pss_cons h.run h2.run⟩
end
section
variable {P : Program} {w : World} {K : PySem.W.Frag} {mg : Str → Option Value} {base : Heap}
theorem hasJ {x : Str} {st : Stmt} {N ps : List Str} {k : Nat} {sp : Sp} (D : Def K mg x st) (S : FnScope N ps (defScope st))
    (hb : ∀ (kV doc pm : Value) (an : Option Addr) (cdv ct : Value) (us : List Value), us.length = ps.length → bindArgs (PySem.W.fnOf x x (defArgs st) (defBody st) (defScope st) .none kV doc pm an cdv ct) ⟨us, []⟩ = pure (ps.zip us))
    (len : ∀ vs H Q E, sp vs H Q E → vs.length = ps.length)
    (hbody : ∀ (f : Addr) (cdv : Value) (A : Around) (outer : List Env) (s : Shared) (H : Hp) (vs : List V) (Q : VK) (E : XK), Room k (A.deeper (envOfC x (defScope st) s.heap.objs.size f cdv)) → sp vs H Q E →
      ∃ t, JB (cxOf CX0 P w K mg base N x (defScope st) f cdv A outer s H E).nox (defBody st) t ∧ t { nx := fun _ H' => Q .non H', rt := Q } (start N vs) H) : Has P w K mg base (k + 1) x ps sp :=
  has_of D S hb len fun f cdv A outer s H vs Q E hr h => let ⟨t, j, q⟩ := hbody f cdv A outer s H vs Q E hr h; ⟨t, j.run, q⟩
theorem okJ {x : Str} {st : Stmt} {N ps : List Str} {k : Nat} {sp : Sp} {f : Addr} {fd : FuncData} (F : Fun K x x st f fd) (S : FnScope N ps (defScope st)) (len : ∀ vs H Q E, sp vs H Q E → vs.length = ps.length)
    (hbody : ∀ (f : Addr) (cdv : Value) (A : Around) (outer : List Env) (s : Shared) (H : Hp) (vs : List V) (Q : VK) (E : XK), Room k (A.deeper (envOfC x (defScope st) s.heap.objs.size f cdv)) → sp vs H Q E →
      ∃ t, JB (cxOf CX0 P w K mg base N x (defScope st) f cdv A outer s H E).nox (defBody st) t ∧ t { nx := fun _ H' => Q .non H', rt := Q } (start N vs) H) : FnOk P w K mg base CX0 (k + 1) f fd ps sp :=
  F.ok S len fun cdv A outer s H vs Q E hr h => let ⟨t, j, q⟩ := hbody f cdv A outer s H vs Q E hr h; ⟨t, j.run, q⟩
end
theorem const_mk {K : PySem.W.Frag} {mg : Str → Option Value} {h : Heap} (X : K.In h) (G : h.Ns mainGlobals mg) {x : Str} {v : Value} {f : Tok → Value} (a : PySem.W.nsIn K mainGlobals x = some (some v)) (e : ∃ t, v = f t) : ∃ t, mg x = some (f t) := by
  obtain ⟨t, rfl⟩ := e
  exact ⟨t, PySem.W.mg_of X G a⟩
theorem walkJ {l : PySem.W.OpenLaw} {q : Program} {loose : List Str} {XP : (Str → Option Value) → Heap → Prop} {YP : World → Heap → Prop} {d : DefRec} {K : Params → PySem.W.Frag} {st : Stmt} {k : Nat} {sp : PySem.W.Frag → Sp} {x : Str}
    (hn : l.most = some 63) (hdf : d.params.defaults = []) (hdn : d.name = "law") (hk : Room k callerA) (hY : ∀ (w : World) (h : Heap), YP w h → (K w.params).In h)
    (hb : ∀ (kV doc pm : Value) (an : Option Addr) (cdv ct : Value) (us : List Value), us.length = [x].length → bindArgs (PySem.W.fnOf "law" "law" (defArgs st) (defBody st) (defScope st) .none kV doc pm an cdv ct) ⟨us, []⟩ = pure ([x].zip us))
    (F : ∀ (w : World) (mg : Str → Option Value) (h : Heap), (K w.params).In h → h.Ns mainGlobals mg → Def (K w.params) mg "law" st ∧ ∀ (base : Heap) (f : Addr) (fd : FuncData), Fun (K w.params) "law" "law" st f fd → FnOk l.prog w (K w.params) mg base CX0 k f fd [x] (sp (K w.params)))
    (hsp : ∀ (K : PySem.W.Frag) (H : Hp) (a : Addr) (ns : List Int), ns.length ≤ 63 → SqL K H a (ns.map V.int) → sp K [.ref a] H (fun v _ => v = .bl true) fun _ _ _ => False) (him : autoParam (importsNone q = true) L2.auto6._auto_1) :
    PySem.W.WalkO q loose XP YP l.row.toRowW d [] (fun f vs => PySem.call f vs) :=
  L2.walk_of (n := 63) (k := k) (x := x) (CX := fun _ => CX0) (sp := fun w => sp (K w.params)) hn (by decide) hdf hk hY (fun w mg fa h X G e => by
    obtain ⟨⟨f, fd, Fn, hm⟩, ok⟩ := F w mg h X G
    rw [hdn, hm] at e
    have ef : f = fa := by injection (Option.some.inj e)
    subst ef
    refine ⟨fd, fun s u => ?_, fun base _ _ => ok base f fd Fn⟩
    obtain ⟨oc, od, kV, doc, pm, an, cdv, ct, osl, rfl, lk, hcd⟩ := Fn.ex
    exact .of_eq (hb kV doc pm an cdv ct [u] rfl)) (fun w H a ns hl _ hS => hsp _ H a ns hl hS) (fun _ _ _ _ _ z => z) him
end L2

namespace L2
open PySem PySem.Spec PyProof.Rows
end L2

namespace L2
open PySem PySem.Spec PyProof.Rows
section
variable {prog : Program} {w : World} {A : Around} {E : Value → Shared → Prop} {s : Shared}
theorem draw_listU {it l : Addr} {items : Array Value} (hne : l ≠ it) : ∀ (n i : Nat) (s : Shared) (Q : List Value → Shared → Prop), s.heap.IsListIter it l i → s.heap.IsList l items → i + n ≤ items.size →
    (∀ h', h'.IsListIter it l (i + n) → Heap.SameBut it s.heap h' → Q ((items.toList.drop i).take n) { s with heap := h' }) → wpAny (model prog w) A (draw (.ref it) n) Q E s
  | 0, i, s, Q, hit, _, _, hQ => by
    show wpAny _ _ (pure []) Q E s
    exact wpAny_pure (by simpa using hQ s.heap hit (Heap.SameBut.refl ..))
  | n + 1, i, s, Q, hit, ht, hle, hQ => by
    have hlt : i < items.size := by omega
    show wpAny _ _ (pyNext (.ref it) >>= _) Q E s
    refine wpAny_bind (wpAny_pyNext_list_item hit ht (x := items[i]) (by simp [hlt]) fun h₁ hit₁ hs₁ => ?_)
    refine wpAny_bind (wpAny_holding (draw_listU hne n (i + 1) _ _ hit₁ (ht.extBut hs₁.extBut hne) (by omega) fun h₂ hit₂ hs₂ => wpAny_pure ?_))
    have hd : items.toList.drop i = items[i] :: items.toList.drop (i + 1) := by simp [List.drop_eq_getElem_cons, hlt]
    have := hQ h₂ (by rw [show i + (n + 1) = i + 1 + n by omega]; exact hit₂) (hs₁.trans hs₂)
    rw [hd, List.take_succ_cons] at this
    exact this
theorem unpackItems_listU {l : Addr} {items : Array Value} {Q : List Value → Shared → Prop} (hh : A.handled = none) (ht : s.heap.IsList l items)
    (hQ : ∀ h', Heap.ExtBut s.heap.objs.size s.heap h' → Q items.toList { s with heap := h' }) : wpAny (model prog w) A (unpackItems (.ref l) items.size none) Q E s := by
  have hlt : l ≠ s.heap.objs.size := by obtain ⟨o, ho, _⟩ := ht; exact Nat.ne_of_lt (Heap.lt_size ho)
  unfold unpackItems
  refine wpAny_bind ?_
  · unfold notIterableAtAll
    refine wpAny_bind (wpAny_specialOf ht.typeIs slot_list_iter.lookup ?_)
    refine wpAny_pure ?_
    simp only [Bool.false_eq_true, if_false]
    refine wpAny_bind (wpAny_holding (wpAny_pyIter_list ht ?_))
    refine wpAny_bind (wpAny_holding (draw_listU hlt items.size 0 _ _ ⟨_, Heap.get?_push_size _ rfl, rfl, rfl⟩ (let ⟨o, ho, r⟩ := ht; ⟨o, Heap.get?_push_of_some _ ho, r⟩) (by omega) fun h₁ hit₁ hs₁ => ?_))
    have hall : List.take items.size (List.drop 0 items.toList) = items.toList := by
      rw [List.drop_zero]; exact List.take_of_length_le (by simp)
    rw [hall]
    rw [if_neg (by simp)]
    have ht₁ : h₁.IsList l items := by
      have : (s.heap.push { cls := .type "list_iterator", data := .fields #[.ref l, .int 0 0] }).IsList l items := let ⟨o, ho, r⟩ := ht; ⟨o, Heap.get?_push_of_some _ ho, r⟩
      exact this.extBut hs₁.extBut hlt
    refine wpAny_bind (wpAny_holding (wpAny_pyNext_list_end hh hit₁ ht₁ (by simp) fun h₂ he₂ => ?_))
    simp only [Option.isSome_none, Bool.false_eq_true, if_false]
    refine wpAny_pure (hQ h₂ fun b o hb e => he₂ b o hb (hs₁.extBut b o hb (Heap.get?_push_of_some _ e)))
theorem assign_Tuple_listU {env : Env} {elts : List Expr} {x1} {pos : Pos} {l : Addr} {items : Array Value} {Q : Unit → Shared → Prop} (hh : A.handled = none) (ht : s.heap.IsList l items)
    (hn : (assignEach elts env).length = items.size) (hstar : (assignEach elts env).findIdx? (·.1) = none)
    (h : ∀ h', Heap.ExtBut s.heap.objs.size s.heap h' → wpAny (model prog w) A (assignInOrder ((assignEach elts env).map (·.2)) items.toList) Q E { s with heap := h' }) :
    wpAny (model prog w) A (assign (.Tuple elts x1 pos) env (.ref l)) Q E s := by
  rw [assign_Tuple]
  refine wpAny_bind (wpAny_standAt ?_)
  unfold unpack
  rw [hn, hstar]
  exact wpAny_bind (wpAny_holding (unpackItems_listU hh ht h))
end
noncomputable def gSeqT (K : PySem.W.Frag) (n : Nat) (t : TGs) : TG := fun v σ H Q => ∃ a xs, v = .ref a ∧ (SqT K H a xs ∨ SqL K H a xs) ∧ xs.length = n ∧ t xs σ H Q
theorem jg_seqT {X : Cx} {K : PySem.W.Frag} {ts : List Expr} {k : Nat} {gs : TGs} {n : Nat} {pos : Pos} (hK : X.K = K) (hc : X.calm = true) (h : JGs X ts gs) (hn : autoParam ((assignEach ts X.env).length = n) L2.auto4._auto_1) (hst : autoParam ((assignEach ts X.env).findIdx? (·.1) = none) L2.auto4._auto_1) : JG X (.Tuple ts k pos) (gSeqT K n gs) := ⟨by
  subst hK
  intro pins s σ H v u Q I r hw
  obtain ⟨a, xs, e1, hq, hl, hw⟩ := hw
  subst e1
  cases r
  rcases hq with hq | hq
  · exact (pg_tup hc h.run hn hst) pins s σ H (.ref a) (.ref a) Q I (show RelV (.ref a) (Value.ref a) from rfl) ⟨a, xs, rfl, hq, hl, hw⟩
  · obtain ⟨its, rv, ht, hz⟩ := I.list hq
    refine assign_Tuple_listU (I.ok.hd hc) ht.isList (by simp [hn, ← hl, rv.length]) hst fun h' hx => ?_
    have I1 : Inv X pins σ H { s with heap := h' } := I.kept (t' := s.toks) fun b o e => hx b o (Nat.ne_of_lt (Heap.lt_size e)) e
    exact h.run pins _ σ H xs _ Q I1 (by simpa using rv) hw⟩
theorem js_asgT {X : Cx} {ts : List Expr} {k : Nat} {e : Expr} {te : TE} {g : TG} {pos pos' : Pos} (he : JE X e te) (hg : JG X (.Tuple ts k pos') g) (h : autoParam (notComp e = true) L2.auto4._auto_1) (h2 : autoParam ((match e with | .Tuple .. => false | _ => true) = true) L2.auto4._auto_1) : JS X (.Assign [.Tuple ts k pos'] e pos) (tAsg te g) :=
  ⟨ps_asg he.run hg.run (by show swapsWith e (some (.Tuple ts k pos')) pos.line X.env = pure false; exact sw_no h) (by cases e <;> first | rfl | cases h2) rfl⟩
noncomputable def rNeA (K : PySem.W.Frag) : R2 := fun x y H Q => rNe x y H Q ∨ ∃ (a b : Addr) (ns ms : List Int), x = .ref a ∧ y = .ref b ∧ SqL K H a (ns.map V.int) ∧ SqL K H b (ms.map V.int) ∧ Q (.bl (!decide (ns = ms))) H
theorem op_neK {X : Cx} {K : PySem.W.Frag} (hK : X.K = K) (hu : X.A.units + 64 < cLine) : OpR X (compareOp .NotEq) (rNeA K) := by
  subst hK
  intro pins s σ H x y v u Q I rx ry h
  rcases h with h | ⟨a, b, ns, ms, rfl, rfl, ha, hb, q⟩
  · exact op_ne pins s σ H x y v u Q I rx ry h
  · cases rx
    cases ry
    obtain ⟨its, r1, p1, z1⟩ := I.list ha
    obtain ⟨jts, r2, p2, z2⟩ := I.list hb
    exact PySem.W.ne_intsK p1.isList (intsAre_of r1) p2.isList (intsAre_of r2) hu ⟨.bl _, H, I, rfl, q⟩
section
variable {H : Hp} {Q : VK} {K : PySem.W.Frag} {σ : St}
theorem r_strE {x : Str} {R : Str → Prop} (h : R x) : ∃ y, [V.str x] = [.str y] ∧ R y := ⟨x, rfl, h⟩
theorem r_gtup {n : Nat} {gs : TGs} {p : Addr} {xs : List V} {R : St → Hp → Prop} (s : SqT K H p xs) (hl : xs.length = n) (h : gs xs σ H R) : gTup K n gs (.ref p) σ H R := ⟨p, xs, rfl, s, hl, h⟩
theorem r_gcons {t : TG} {u : TGs} {v : V} {vs : List V} {R : St → Hp → Prop} (h : t v σ H fun σ' H' => u vs σ' H' R) : gCons t u (v :: vs) σ H R := ⟨v, vs, rfl, h⟩
theorem r_gnil {R : St → Hp → Prop} (h : R σ H) : gNil [] σ H R := ⟨rfl, h⟩
theorem r_append {p : Addr} {xs : List V} {y : V} (hp : H p = some (.lst xs)) (c : xs.length < sizeLine) (h : Q .non (upd H p (.lst (xs ++ [y])))) : rAppend (.ref p) [y] H Q := ⟨p, xs, y, rfl, rfl, hp, c, h⟩
theorem r_u {f : Int → V} {i : Int} (h : Q (f i) H) : rU f (.int i) H Q := ⟨i, rfl, h⟩
theorem r_mulL {a : Addr} {xs : List V} {k : Int} (ha : H a = some (.lst xs)) (h0 : -(2 ^ 63) ≤ k) (h1 : k < 2 ^ 63) (hz : xs.length * k.toNat ≤ sizeLine) (h : ∀ p, H p = none → Q (.ref p) (upd H p (.lst (List.replicate k.toNat xs).flatten))) : rMulA (.ref a) (.int k) H Q :=
  .inr (.inr ⟨a, k, xs, rfl, rfl, ha, h0, h1, hz, h⟩)
theorem for_str {z : Str} {g : TG} {tb : TS} {D : Ends} {H : Hp} (Pv : Nat → St → Hp → Prop) (h0 : Pv 0 σ H)
    (hs : ∀ i σ H c, z.cps.toList[i]? = some c → Pv i σ H → g (.str ⟨#[c]⟩) σ H fun σ2 H2 => tb { D with nx := Pv (i + 1), ct := Pv (i + 1), bk := D.nx } σ2 H2) (hd : ∀ σ H, Pv z.length σ H → D.nx σ H) :
    ∃ W : Nat → Nat → St → Hp → Prop, (∃ m, W 0 m σ H) ∧ ∀ i m σ H, W i m σ H →
      ((Its z).stop i H ∧ D.nx σ H) ∨ ((Its z).go i H ∧ ∃ N : St → Hp → Prop, (∀ σ' H', N σ' H' → ∃ m', m' < m ∧ W (i + 1) m' σ' H') ∧ ∀ x H', (Its z).yld i H x H' → g x σ H' fun σ2 H2 => tb { D with nx := N, ct := N, bk := D.nx } σ2 H2) := by
  refine ⟨fun i m σ H => m = z.cps.size - i ∧ i ≤ z.cps.size ∧ Pv i σ H, ⟨z.cps.size, by simp, Nat.zero_le _, h0⟩, ?_⟩
  rintro i m σ H ⟨rfl, hi, p⟩
  by_cases hlt : i < z.cps.size
  · refine .inr ⟨hlt, Pv (i + 1), fun σ' H' p' => ⟨z.cps.size - (i + 1), by omega, rfl, hlt, p'⟩, fun x H' y => ?_⟩
    obtain ⟨e1, c, e2, e3⟩ := y
    subst e1 e3
    exact hs i σ _ c (by simpa using e2) p
  · have e : i = z.cps.size := by omega
    subst e
    exact .inl ⟨rfl, hd σ H p⟩
end
end L2

namespace L2
open PySem PySem.Spec PyProof.Rows
section
variable {X : Cx} {tg iter elt : Expr} {ifs : List Expr} {scope : Scope} {pos : Pos} {N' : List Str} {sub : List (Option Nat)} {wi : TI} {g : TG} {tt : TT} {te : TE}
end
section
variable {X : Cx} {tg iter elt : Expr} {ifs : List Expr} {scope : Scope} {pos : Pos} {N' : List Str} {sub : List (Option Nat)} {wi : TI} {g : TG} {tt : TT} {te : TE} {N : List Str} {sc : Scope}
end
end L2

namespace L2
open PySem PySem.Spec PyProof.Rows
section
variable {X : Cx} {pins : List (Addr × Obj)} {σ : St} {H : Hp} {s : Shared}
theorem Inv.newtup {wr : List Addr} {T : Addr} {vals : Array Value} {xs : List V} {h'' : Heap} {tk : Nat} (I : Inv X pins σ H s) (hf : ∀ b ∈ wr, FpOk X pins H b) (hT : s.heap.objs.size ≤ T)
    (kall : ∀ b o, b ∉ wr → s.heap.get? b = some o → h''.get? b = some o) (isT' : h''.IsTuple T vals) (hv : Vals xs vals.toList) (hx : xs.length ≤ sizeLine) : Inv X pins σ (upd H T (.tup xs)) { s with heap := h'', toks := tk } := by
  have hTn : H T = none := I.hok.fresh hT
  have nT : ∀ b o, s.heap.get? b = some o → b ≠ T := fun b o e => Nat.ne_of_lt (Nat.lt_of_lt_of_le (Heap.lt_size e) hT)
  have nTH : ∀ b u, H b = some u → b ≠ T := fun b u e z => by rw [z, hTn] at e; cases e
  have nW : ∀ b u, H b = some u → b ∉ wr := fun b u e hb => by rw [(hf b hb).1] at e; cases e
  refine I.step (g' := s.gens) (d' := s.drawn) (ch := wr) (fun b hb => ?_) (fun b o _ _ hc e _ => kall b o hc e) (fun b o _ _ hc e _ => ⟨o.slots, kall b o hc e⟩) (fun b o _ e hn => by rw [upd_ne (nT b o e)]; exact hn)
    (fun b o hc e => ⟨o, kall b o hc e⟩) (fun b ys e => by rw [upd_ne (nTH b _ e)]; exact e) (fun b o u e => by rw [upd_ne (nTH b _ e)]; exact e) (fun b ps e => ⟨#[], by rw [upd_ne (nTH b _ e), e]; simp⟩) (fun m hm => ?_) (fun b u e => ?_) I.bare
  · obtain ⟨f0, f1, f2, f3, f4, f5⟩ := hf b hb
    exact ⟨f3, f1, f4, f5⟩
  · obtain ⟨o, es, ep, ho, r⟩ := hm
    exact ⟨o, es, ep, kall _ o (fun hb => (hf _ hb).2.1 rfl) ho, r⟩
  · by_cases hb : b = T
    · subst hb
      rw [upd_same] at e; cases e
      obtain ⟨o, ho, hcl, nn, hd⟩ := isT'
      exact ⟨hx, vals.toList, hv, o, ho, hcl, nn, by simpa using hd⟩
    · rw [upd_ne hb] at e
      refine (I.hok b u e).stay (fun c v hc' q => kall c v ?_ q) (fun c q => by rw [upd_ne (nTH c _ q)]; exact q) fun c ys q => by rw [upd_ne (nTH c _ q)]; exact q
      rcases hc' with z | z
      · rw [z]; exact nW b u e
      · exact nW c _ z
theorem Inv.only {wr : List Addr} {h' : Heap} {tk : Nat} (I : Inv X pins σ H s) (hf : ∀ b ∈ wr, FpOk X pins H b) (kk : ∀ b o, b ∉ wr → s.heap.get? b = some o → h'.get? b = some o) : Inv X pins σ H { s with heap := h', toks := tk } := by
  have nW : ∀ b u, H b = some u → b ∉ wr := fun b u e hb => by rw [(hf b hb).1] at e; cases e
  refine I.step (g' := s.gens) (d' := s.drawn) (ch := wr) (fun b hb => ?_) (fun b o _ _ hc e _ => kk b o hc e) (fun b o _ _ hc e _ => ⟨o.slots, kk b o hc e⟩) (fun b o _ e hn => hn)
      (fun b o hc e => ⟨o, kk b o hc e⟩) (fun b ys e => e) (fun b o u e => e) (fun b ps e => ⟨#[], by rw [e]; simp⟩) (fun m hm => ?_) (fun b u e => ?_) I.bare
  · obtain ⟨f0, f1, f2, f3, f4, f5⟩ := hf b hb
    exact ⟨f3, f1, f4, f5⟩
  · obtain ⟨o, es, ep, ho, r⟩ := hm
    exact ⟨o, es, ep, kk _ o (fun hb => (hf _ hb).2.1 rfl) ho, r⟩
  · refine (I.hok b u e).stay (fun c v hc' q => kk c v ?_ q) (fun c q => q) fun c ys q => q
    rcases hc' with z | z
    · rw [z]; exact nW b u e
    · exact nW c _ z
end
end L2

namespace L2
open PySem PySem.Spec PyProof.Rows PySem.SeqAt
mutual
noncomputable def DR (H : Hp) : PyData → V → Prop
  | .none, v => v = .non
  | .bool b, v => v = .bl b
  | .int n, v => v = .int n
  | .str x, v => v = .str x
  | .list ds, v => ∃ a vs, v = .ref a ∧ H a = some (.lst vs) ∧ DRs H ds vs
  | .tuple ds, v => ∃ a vs, v = .ref a ∧ H a = some (.tup vs) ∧ DRs H ds vs
  | .dict _, _ => False
noncomputable def DRs (H : Hp) : List PyData → List V → Prop
  | [], vs => vs = []
  | d :: ds, vs => ∃ v r, vs = v :: r ∧ DR H d v ∧ DRs H ds r
end
mutual
theorem DR.same {H H' : Hp} (s : Same H H') : ∀ (d : PyData) (v : V), DR H d v → DR H' d v
  | .none, _, h => by rw [DR] at h ⊢; exact h
  | .bool _, _, h => by rw [DR] at h ⊢; exact h
  | .int _, _, h => by rw [DR] at h ⊢; exact h
  | .str _, _, h => by rw [DR] at h ⊢; exact h
  | .list ds, v, h => by rw [DR] at h ⊢; obtain ⟨a, vs, e, q, r⟩ := h; exact ⟨a, vs, e, s _ _ q, DRs.same s ds vs r⟩
  | .tuple ds, v, h => by rw [DR] at h ⊢; obtain ⟨a, vs, e, q, r⟩ := h; exact ⟨a, vs, e, s _ _ q, DRs.same s ds vs r⟩
  | .dict _, _, h => by rw [DR] at h; exact h.elim
theorem DRs.same {H H' : Hp} (s : Same H H') : ∀ (ds : List PyData) (vs : List V), DRs H ds vs → DRs H' ds vs
  | [], _, h => by rw [DRs] at h ⊢; exact h
  | d :: ds, vs, h => by rw [DRs] at h ⊢; obtain ⟨v, r, e, q, t⟩ := h; exact ⟨v, r, e, DR.same s d v q, DRs.same s ds r t⟩
end
theorem DR_str {H : Hp} {n : Str} {v : V} : DR H (.str n) v ↔ v = .str n := by rw [DR]
theorem DR_none {H : Hp} {v : V} : DR H .none v ↔ v = .non := by rw [DR]
theorem DR_list {H : Hp} {ds : List PyData} {v : V} : DR H (.list ds) v ↔ ∃ a vs, v = .ref a ∧ H a = some (.lst vs) ∧ DRs H ds vs := by rw [DR]
theorem DR_tuple {H : Hp} {ds : List PyData} {v : V} : DR H (.tuple ds) v ↔ ∃ a vs, v = .ref a ∧ H a = some (.tup vs) ∧ DRs H ds vs := by rw [DR]
theorem DRs_nil {H : Hp} {vs : List V} : DRs H [] vs ↔ vs = [] := by rw [DRs]
theorem DRs_cons {H : Hp} {d : PyData} {ds : List PyData} {vs : List V} : DRs H (d :: ds) vs ↔ ∃ v r, vs = v :: r ∧ DR H d v ∧ DRs H ds r := by rw [DRs]
theorem DRs_append {H : Hp} : ∀ {ds es : List PyData} {vs ws : List V}, DRs H ds vs → DRs H es ws → DRs H (ds ++ es) (vs ++ ws)
  | [], _, _, _, h, q => by rw [DRs_nil] at h; subst h; exact q
  | d :: ds, _, _, _, h, q => by
    rw [DRs_cons] at h
    obtain ⟨v, r, rfl, hd, hr⟩ := h
    exact DRs_cons.mpr ⟨v, r ++ _, rfl, hd, DRs_append hr q⟩
theorem DRs_one {H : Hp} {d : PyData} {v : V} (h : DR H d v) : DRs H [d] [v] := DRs_cons.mpr ⟨v, [], rfl, h, DRs_nil.mpr rfl⟩
theorem DRs_len {H : Hp} : ∀ {ds : List PyData} {vs : List V}, DRs H ds vs → vs.length = ds.length
  | [], _, h => by rw [DRs_nil] at h; subst h; rfl
  | d :: ds, _, h => by rw [DRs_cons] at h; obtain ⟨v, r, rfl, _, hr⟩ := h; simp [DRs_len hr]
theorem DRs_at {H : Hp} : ∀ {ds : List PyData} {vs : List V} {i : Nat} {d : PyData}, DRs H ds vs → ds[i]? = some d → ∃ v, vs[i]? = some v ∧ DR H d v
  | [], _, _, _, _, e => by simp at e
  | d :: ds, _, i, d', h, e => by
    rw [DRs_cons] at h
    obtain ⟨v, r, rfl, hd, hr⟩ := h
    cases i with
    | zero => simp at e; subst e; exact ⟨v, rfl, hd⟩
    | succ i => simp at e; obtain ⟨u, h1, h2⟩ := DRs_at hr e; exact ⟨u, by simpa using h1, h2⟩
mutual
theorem DR.reads {P : Program} {w : World} {H : Hp} {h : Heap} (ok : HOk P w H h) : ∀ (d : PyData) (v : V) (u : Value), DR H d v → RelV v u → ∃ as, Reads h u d as
  | .none, _, u, q, r => by rw [DR] at q; subst q; cases r; exact ⟨_, .none⟩
  | .bool b, _, u, q, r => by rw [DR] at q; subst q; cases r; exact ⟨_, .bool _⟩
  | .int n, _, u, q, r => by rw [DR] at q; subst q; obtain ⟨t, rfl⟩ := r; exact ⟨_, .int _ _⟩
  | .str n, _, u, q, r => by rw [DR] at q; subst q; obtain ⟨t, rfl⟩ := r; exact ⟨_, .str _ _⟩
  | .list ds, v, u, q, r => by
    rw [DR] at q
    obtain ⟨a, vs, rfl, e, t⟩ := q
    cases r
    obtain ⟨_, its, n, rv, g⟩ := ok a _ e
    obtain ⟨as, ra⟩ := DRs.reads ok ds vs its t rv
    exact ⟨_, .list g rfl rfl (by simpa using ra)⟩
  | .tuple ds, v, u, q, r => by
    rw [DR] at q
    obtain ⟨a, vs, rfl, e, t⟩ := q
    cases r
    obtain ⟨_, its, rv, g⟩ := ok a _ e
    obtain ⟨as, ra⟩ := DRs.reads ok ds vs its t rv
    obtain ⟨o, ho, hc, n, hd⟩ := g
    exact ⟨_, .tuple ho hc hd (by simpa using ra)⟩
  | .dict _, _, _, q, _ => by rw [DR] at q; exact q.elim
theorem DRs.reads {P : Program} {w : World} {H : Hp} {h : Heap} (ok : HOk P w H h) : ∀ (ds : List PyData) (vs : List V) (us : List Value), DRs H ds vs → Vals vs us → ∃ as, ReadsAll h us ds as
  | [], _, us, q, r => by rw [DRs] at q; subst q; cases r; exact ⟨_, .nil⟩
  | d :: ds, _, us, q, r => by
    rw [DRs] at q
    obtain ⟨v, r', rfl, q1, q2⟩ := q
    cases r with
    | cons a b =>
      obtain ⟨as, h1⟩ := DR.reads ok d v _ q1 a
      obtain ⟨bs, h2⟩ := DRs.reads ok ds r' _ q2 b
      exact ⟨_, .cons h1 h2⟩
end
noncomputable def rEqD : R2 := fun x y H Q => ∃ d e, DR H d x ∧ DR H e y ∧ shaped d = true ∧ shaped e = true ∧ Q (.bl (PyData.eqv d e)) H
noncomputable def rNeD : R2 := fun x y H Q => ∃ d e, DR H d x ∧ DR H e y ∧ shaped d = true ∧ shaped e = true ∧ Q (.bl (!PyData.eqv d e)) H
section
variable {X : Cx}
theorem op_eqD (hu : X.A.units + 64 < cLine) : OpR X (compareOp .Eq) rEqD := by
  intro pins s σ H x y v u Q I rx ry h
  obtain ⟨d, e, h1, h2, h3, h4, q⟩ := h
  obtain ⟨as, r1⟩ := DR.reads I.hok d x v h1 rx
  obtain ⟨bs, r2⟩ := DR.reads I.hok e y u h2 ry
  exact eq_dataH r1 r2 h3 h4 hu ⟨.bl _, H, I, rfl, q⟩
theorem op_neD (hu : X.A.units + 64 < cLine) : OpR X (compareOp .NotEq) rNeD := by
  intro pins s σ H x y v u Q I rx ry h
  obtain ⟨d, e, h1, h2, h3, h4, q⟩ := h
  obtain ⟨as, r1⟩ := DR.reads I.hok d x v h1 rx
  obtain ⟨bs, r2⟩ := DR.reads I.hok e y u h2 ry
  exact ne_dataH r1 r2 h3 h4 hu ⟨.bl _, H, I, rfl, q⟩
noncomputable def rEqB (K : PySem.W.Frag) : R2 := fun x y H Q => rEqA K x y H Q ∨ rEqD x y H Q
noncomputable def rNeB (K : PySem.W.Frag) : R2 := fun x y H Q => rNeA K x y H Q ∨ rNeD x y H Q
theorem op_eqX {K : PySem.W.Frag} (hK : X.K = K) (hu : X.A.units + 64 < cLine) : OpR X (compareOp .Eq) (rEqB K) := (op_eqK hK (Nat.lt_of_le_of_lt (Nat.le_add_right _ _) hu)).or (op_eqD hu)
theorem op_neX {K : PySem.W.Frag} (hK : X.K = K) (hu : X.A.units + 64 < cLine) : OpR X (compareOp .NotEq) (rNeB K) := (op_neK hK hu).or (op_neD hu)
end
section
variable {H : Hp} {Q : VK} {K : PySem.W.Frag} {σ : St}
theorem r_eqBI {i j : Int} (h : Q (.bl (decide (V.int i = V.int j))) H) : rEqB K (.int i) (.int j) H Q := .inl (.inl ⟨rfl, h⟩)
theorem r_eqBS {i j : Str} (h : Q (.bl (decide (V.str i = V.str j))) H) : rEqB K (.str i) (.str j) H Q := .inl (.inl ⟨rfl, h⟩)
theorem r_neBS {i j : Str} (h : Q (.bl (!decide (V.str i = V.str j))) H) : rNeB K (.str i) (.str j) H Q := .inl (.inl ⟨rfl, h⟩)
theorem r_eqSame {x y : V} {d : PyData} (h1 : DR H d x) (h2 : DR H d y) (hs : shaped d = true) (h : Q (.bl true) H) : rEqB K x y H Q :=
  .inr ⟨d, d, h1, h2, hs, hs, by rw [PySem.SeqAt.eqv_refl d (canLay_of_shaped hs)]; exact h⟩
theorem r_neSame {x y : V} {d : PyData} (h1 : DR H d x) (h2 : DR H d y) (hs : shaped d = true) (h : Q (.bl false) H) : rNeB K x y H Q :=
  .inr ⟨d, d, h1, h2, hs, hs, by rw [PySem.SeqAt.eqv_refl d (canLay_of_shaped hs)]; exact h⟩
end
end L2

namespace L2
open PySem PySem.Spec PyProof.Rows
section
variable {prog : Program} {w : World} {A : Around} {E : Value → Shared → Prop} {s : Shared}
end
end L2

namespace L2
open PySem PySem.Spec PyProof.Rows
section
variable {X : Cx} {K : PySem.W.Frag} {a b c e : Expr} {ta tb tc te : TE} {pos p p2 p3 : Pos}
theorem jt_chain {op op' : CmpOp} {r r' : R2} (ho : OpR X (compareOp op) r) (ho' : OpR X (compareOp op') r') (ha : JE X a ta) (hb : JE X b tb) (hc : JE X c tc) (hm : autoParam (lastMarks [op, op'] [b, c] = false) L2.auto5._auto_1) :
    JT X (.Compare a [op, op'] [b, c] pos) (tTest (tChain r r' ta tb tc)) := ⟨pt_chain ho ho' ha.run hb.run hc.run hm⟩
theorem arg1 {Q : List Value → Shared → Prop} {E : Value → Shared → Prop} {s : Shared} (hs : notStar e = true) (h : wpAny (model X.prog X.w) X.A (eval e X.env) (fun u s1 => Q [u] s1) E s) : wpAny (model X.prog X.w) X.A (spliced (backTo pos (starEach [e] X.env))) Q E s := by
  rw [se_cons hs]
  show wpAny _ _ (spliced ((false, eval e X.env) :: backTo pos (starEach [] X.env))) _ _ s
  exact Calls.spliced_cons (wpAny_mono h (fun u s1 q => Calls.spliced_nil q) fun _ _ z => z)
end
end L2

namespace L2
open PySem PySem.Spec PyProof.Rows
noncomputable def TbOk (h : Heap) (T : Addr) : Prop := ∃ oT ts, h.get? T = some oT ∧ oT.data = .fields ts ∧ 3 < ts.size
noncomputable def XObj (C : Addr) (dd : Option Addr) (vs : Array Value) : Obj := { cls := .ref C, dict := dd, data := .fields vs }
noncomputable def frA (l : List Env) : List Addr := l.filterMap (·.frame)
section
variable {M : Model} {A : Around} {E : Value → Shared → Prop}
theorem entry_new {base : Heap} {env : Env} {outer : List Env} {L x C : Addr} {dd : Option Addr} {vs : Array Value} {hd : Value} {had : Bool} {Q : Unit → Shared → Prop} {s : Shared}
    (fr : A.frames = some (env :: outer)) (ff : s.heap.FunFrames base (env :: outer)) (fL : env.frame = some L) (ex : s.heap.get? x = some (XObj C dd vs)) (sz : 1 < vs.size) (nx : x ∉ frA (env :: outer))
    (k : ∀ h' T, h'.get? x = some (XObj C dd (vs.setIfInBounds 1 (.ref T))) → s.heap.objs.size ≤ T → TbOk h' T → (∀ b o, b ≠ x → b ∉ frA (env :: outer) → s.heap.get? b = some o → h'.get? b = some o) →
      (∀ b o, b ≠ x → s.heap.get? b = some o → ∃ sl, h'.get? b = some { o with slots := sl }) → Q () { s with heap := h' }) :
    wpAny M A (do let c ← frameOf env; let pl ← entryPlaceOf L had; let t ← EntryCells.newEntry hd c .none (rawInt L) .none pl; setField (.ref x) 1 t) Q E s := by
  refine wpAny_bind (wpAny_frameOf_fun fr ff fL fun g1 so => ?_)
  refine wpAny_bind (wpAny_entryPlaceOf fun pl isp => ?_)
  unfold EntryCells.newEntry newFields
  refine wpAny_bind (wpAny_newObj_type ?_ (isp.sizeOk5 _ _ _ _ _))
  have x1 : g1.get? x = some (XObj C dd vs) := (so.2.1 x nx).trans ex
  have lts : ([hd, Value.ref L, .none, rawInt L, .none] ++ (if pl.isEmpty then List.replicate 6 Value.none else pl)).toArray.size > 3 := by
    simp only [List.size_toArray, List.length_append, List.length_cons, List.length_nil]; omega
  generalize ([hd, Value.ref L, .none, rawInt L, .none] ++ (if pl.isEmpty then List.replicate 6 Value.none else pl)).toArray = tv at lts
  have x2 : (g1.push { cls := .type "traceback", dict := none, data := .fields tv }).get? x = some (XObj C dd vs) := Heap.get?_push_of_some _ x1
  have nTx : g1.objs.size ≠ x := Nat.ne_of_gt (Heap.lt_size x1)
  have t2 : (g1.push { cls := .type "traceback", dict := none, data := .fields tv }).get? g1.objs.size = some { cls := .type "traceback", dict := none, data := .fields tv } := Heap.get?_push_size _ rfl
  have o2 : ∀ b o, g1.get? b = some o → (g1.push { cls := .type "traceback", dict := none, data := .fields tv }).get? b = some o := fun b o e => Heap.get?_push_of_some _ e
  refine wpAny_setField (vs := vs) x2 rfl sz ?_
  have e3 := Heap.get?_update_self (Obj.mapFields (·.setIfInBounds 1 (Value.ref g1.objs.size))) x2 rfl
  have ot : ∀ b, b ≠ x → ((g1.push { cls := .type "traceback", dict := none, data := .fields tv }).update x (Obj.mapFields (·.setIfInBounds 1 (Value.ref g1.objs.size)))).get? b = (g1.push { cls := .type "traceback", dict := none, data := .fields tv }).get? b := fun b hb => Heap.get?_update_other _ _ (Ne.symm hb)
  refine k _ g1.objs.size e3 (by rw [so.1]; exact Nat.le_refl _) ⟨_, tv, (ot _ nTx).trans t2, rfl, lts⟩ (fun b o hb hf e => ?_) (fun b o hb e => ?_)
  · rw [ot b hb]; exact o2 b o ((so.2.1 b hf).trans e)
  · obtain ⟨sl, q⟩ := so.2.2 b o e
    exact ⟨sl, by rw [ot b hb]; exact o2 b _ q⟩
structure NoteK (fs : List Addr) (x C : Addr) (dd : Option Addr) (hd : Option Addr) (h h' : Heap) (T : Addr) : Prop where
  obj : ∃ vs, h'.get? x = some (XObj C dd vs) ∧ vs[1]? = some (.ref T) ∧ vs[2]? = some .none
  tb : TbOk h' T
  ne : T ≠ x
  new : h.objs.size ≤ T ∨ hd = some T
  keep : ∀ b o, b ≠ x → some b ≠ hd → b ∉ fs → h.get? b = some o → h'.get? b = some o
  slot : ∀ b o, b ≠ x → some b ≠ hd → h.get? b = some o → ∃ sl, h'.get? b = some { o with slots := sl }
  tail : ∀ b o, hd = some b → h.get? b = some o → ∃ o', h'.get? b = some o'
theorem note1 {base : Heap} {env : Env} {outer : List Env} {L x C : Addr} {dd : Option Addr} {vs : Array Value} {Q : Unit → Shared → Prop} {s : Shared}
    (fr : A.frames = some (env :: outer)) (ff : s.heap.FunFrames base (env :: outer)) (fL : env.frame = some L) (ex : s.heap.get? x = some (XObj C dd vs)) (h1 : vs[1]? = some .none ∧ vs[2]? = some .none) (nx : x ∉ frA (env :: outer))
    (k : ∀ h' T, NoteK (frA (env :: outer)) x C dd none s.heap h' T → Q () { s with heap := h' }) : wpAny M A (noteFrame (.ref x) env) Q E s := by
  unfold noteFrame
  simp only [fL]
  refine wpAny_bind (wpAny_field ex rfl h1.1 ?_)
  rw [if_neg (by decide)]
  have sz : 1 < vs.size := (Array.getElem?_eq_some_iff.mp h1.1).1
  refine entry_new fr ff fL ex sz nx fun h' T a1 a2 a3 a4 a5 => k h' T ⟨⟨_, a1, by simp [sz], by rw [Array.getElem?_setIfInBounds_ne (by decide)]; exact h1.2⟩, a3, ?_, .inl a2, fun b o hb _ hf e => a4 b o hb hf e, fun b o hb _ e => a5 b o hb e, fun b o z => by cases z⟩
  exact Nat.ne_of_gt (Nat.lt_of_lt_of_le (Heap.lt_size ex) a2)
theorem note2 {base : Heap} {env : Env} {outer : List Env} {L x C T0 : Addr} {dd : Option Addr} {vs : Array Value} {Q : Unit → Shared → Prop} {s : Shared}
    (fr : A.frames = some (env :: outer)) (ff : s.heap.FunFrames base (env :: outer)) (fL : env.frame = some L) (ex : s.heap.get? x = some (XObj C dd vs)) (h1 : vs[1]? = some (.ref T0) ∧ vs[2]? = some .none) (t0 : TbOk s.heap T0) (ne : T0 ≠ x) (nx : x ∉ frA (env :: outer)) (nT : T0 ∉ frA (env :: outer))
    (k : ∀ h' T, NoteK (frA (env :: outer)) x C dd (some T0) s.heap h' T → Q () { s with heap := h' }) : wpAny M A (noteFrame (.ref x) env) Q E s := by
  obtain ⟨oT, ts, g, d, l3⟩ := id t0
  unfold noteFrame
  simp only [fL]
  refine wpAny_bind (wpAny_field ex rfl h1.1 ?_)
  rw [if_pos (show (Value.ref T0 != Value.none) = true from by simp)]
  refine wpAny_bind (wpAny_field g d (Array.getElem?_eq_getElem l3) ?_)
  by_cases q : (ts[3] == rawInt L) = true
  · rw [if_pos q]
    exact wpAny_pure (k _ T0 ⟨⟨vs, ex, h1⟩, t0, ne, .inr rfl, fun b o _ _ _ e => e, fun b o _ _ e => ⟨o.slots, e⟩, fun b o _ e => ⟨o, e⟩⟩)
  · rw [if_neg q]
    refine wpAny_bind (wpAny_setField g d l3 ?_)
    have tT := Heap.get?_update_self (Obj.mapFields (·.setIfInBounds 3 Value.none)) g (Obj.isFreed_of_fields (Obj.data_mapFields d _))
    have ot : ∀ b, b ≠ T0 → (s.heap.update T0 (Obj.mapFields (·.setIfInBounds 3 Value.none))).get? b = s.heap.get? b := fun b hb => Heap.get?_update_other _ _ (Ne.symm hb)
    have sz : 1 < vs.size := (Array.getElem?_eq_some_iff.mp h1.1).1
    have ff2 : (s.heap.update T0 (Obj.mapFields (·.setIfInBounds 3 Value.none))).FunFrames base (env :: outer) := ff.of_keeps fun b o hb hn => by
      refine ⟨o, (ot b (fun z => ?_)).trans hb, rfl⟩
      rw [z, g] at hb; cases hb; exact hn _ d
    refine entry_new (s := { s with heap := s.heap.update T0 (Obj.mapFields (·.setIfInBounds 3 Value.none)) }) fr ff2 fL ((ot x (Ne.symm ne)).trans ex) sz nx fun h' T a1 a2 a3 a4 a5 => k h' T ⟨⟨_, a1, by simp [sz], by rw [Array.getElem?_setIfInBounds_ne (by decide)]; exact h1.2⟩, a3, ?_, .inl (by rw [Heap.size_update] at a2; exact a2), fun b o hb h0 hf e => a4 b o hb hf ((ot b (fun z => h0 (by rw [z]))).trans e), fun b o hb h0 e => a5 b o hb ((ot b (fun z => h0 (by rw [z]))).trans e), fun b o hb e => ?_⟩
    · exact Nat.ne_of_gt (Nat.lt_of_lt_of_le (Heap.lt_size ex) (by rw [Heap.size_update] at a2; exact a2))
    · cases hb
      obtain ⟨sl, z⟩ := a5 T0 _ ne tT
      exact ⟨_, z⟩
theorem land1 {x C T0 : Addr} {dd : Option Addr} {vs : Array Value} {Q : Unit → Shared → Prop} {s : Shared} (ex : s.heap.get? x = some (XObj C dd vs)) (h1 : vs[1]? = some (.ref T0) ∧ vs[2]? = some .none) (t0 : TbOk s.heap T0) (ne : T0 ≠ x)
    (k : ∀ h', NoteK [] x C dd (some T0) s.heap h' T0 → Q () { s with heap := h' }) : wpAny M A (setFlight (.ref x) none) Q E s := by
  obtain ⟨oT, ts, g, d, l3⟩ := id t0
  unfold setFlight
  refine wpAny_bind (wpAny_field ex rfl h1.1 ?_)
  rw [if_pos (show (Value.ref T0 != Value.none) = true from by simp)]
  refine wpAny_setField g d l3 (k _ ?_)
  have d2 := Obj.data_mapFields d (·.setIfInBounds 3 ((none : Option Addr).elim Value.none fun f => rawInt f))
  have tT := Heap.get?_update_self (Obj.mapFields (·.setIfInBounds 3 ((none : Option Addr).elim Value.none fun f => rawInt f))) g (Obj.isFreed_of_fields d2)
  have ot : ∀ b, b ≠ T0 → (s.heap.update T0 (Obj.mapFields (·.setIfInBounds 3 ((none : Option Addr).elim Value.none fun f => rawInt f)))).get? b = s.heap.get? b := fun b hb => Heap.get?_update_other _ _ (Ne.symm hb)
  exact ⟨⟨vs, (ot x (Ne.symm ne)).trans ex, h1⟩, ⟨_, _, tT, d2, by simpa using l3⟩, ne, .inr rfl, fun b o _ h0 _ e => (ot b (fun z => h0 (by rw [z]))).trans e, fun b o _ h0 e => ⟨o.slots, (ot b (fun z => h0 (by rw [z]))).trans e⟩, fun b o hb e => by cases hb; exact ⟨_, tT⟩⟩
end
end L2

namespace L2
open PySem PySem.Spec PyProof.Rows
noncomputable def VEm : List Value := [.type "ValueError", .type "Exception", .type "BaseException", .type "object"]
noncomputable def xIn (K : PySem.W.Frag) (D : Addr) : Bool := match K.lookup D with
  | some ⟨.type "type", _, .cls cd, sl⟩ => (match cd.mro, sl.toList with
    | .ref E :: bm, [_, _, _, _, some (.builtin n), _] => E == D && n == "ValueError.__new__" && cd.hasDel == false && cd.hasDict && PySem.W.tailIn K VEm bm
    | _, _ => false)
  | _ => false
theorem xIn_of {K : PySem.W.Frag} {D : Addr} (q : xIn K D = true) : ∃ nm qn N bs bm sn sub ab col dd k0 k1 k2 k3 k5, K.lookup D = some (excClassObj nm qn D N bs bm true sn sub ab col dd k0 k1 k2 k3 k5 "ValueError.__new__") ∧ ∀ h, K.In h → OwnTail h VEm bm := by
  unfold xIn at q
  split at q
  · rename_i dd cd sl ho
    split at q
    · rename_i D' bm k0 k1 k2 k3 n k5 hm hs
      simp only [Bool.and_eq_true, beq_iff_eq] at q
      obtain ⟨⟨⟨⟨e1, e2⟩, e3⟩, e4⟩, e5⟩ := q
      subst e1 e2
      obtain ⟨nm, bs, mro, ns, qn, hd, sn, sub, ab, col, del⟩ := cd
      dsimp only at hm e3 e4
      subst hm e3 e4
      have hsl : sl = #[k0, k1, k2, k3, some (.builtin "ValueError.__new__"), k5] := by
        obtain ⟨l⟩ := sl
        dsimp only at hs
        rw [hs]
      subst hsl
      exact ⟨nm, qn, ns, bs, bm, sn, sub, ab, col, dd, k0, k1, k2, k3, k5, ho, fun h X => PySem.W.tail_of_in X e5⟩
    · cases q
  · cases q
section
variable {prog : Program} {w : World} {A : Around} {K : PySem.W.Frag} {D f : Addr} {E : Value → Shared → Prop}
theorem type_call_x {h : Heap} {g : Array GenState} {d : Drawn} {t : Nat} {os : OsState} {us : List Value} {Q : Fin → Shared → Prop} (X : K.In h) (hx : xIn K D = true)
    (hi : PySem.W.findIn K (.ref D) "__init__" = some (some (.ref f))) (hf : PySem.W.typeIn K (.ref f) = some (.type "function")) (hl : us.length ≤ sizeLine)
    (k : wpAny (model prog w) A (call (.ref f) (.ref (h.objs.size + 1) :: us)) (fun r s' => r = .none ∧ Q (.done (.ret (.ref (h.objs.size + 1)))) s') E
      ⟨(h.push { cls := .type "tuple", data := .seq us.toArray }).push (XObj D none #[.ref h.objs.size, .none, .none, .none, .bool false, .none]), g, d, t, os⟩) :
    wpAny (model prog w) A (Builtin.«type.__call__» ⟨.ref D :: us, []⟩) Q E ⟨h, g, d, t, os⟩ := by
  obtain ⟨nm, qn, N, bs, bm, sn, sub, ab, col, dd, k0, k1, k2, k3, k5, lk0, tl⟩ := xIn_of hx
  have T := tl h X
  have hD := X _ _ lk0
  have L3 := PySem.W.looks_findIn (M := model prog w) X hi
  have L4 := PySem.W.bind_fn (M := model prog w) X (.ref (h.objs.size + 1)) hf
  repeat (first | with_reducible refine wpAny_loadPart_at hD ?_ | with_reducible refine wpAny_madeBy_exc hD ?_ | wp_step)
  refine codeAny_call_builtin_code (Code.quiet_builtin _ F.excBase_ValueError.quiet) (wpAny_check_new_subT F.excBase_ValueError T hD (codeAny_exc_new_subT F.excBase_ValueError T hD ?_ hl))
  show wpAny _ _ _ _ _ _
  have keep : ∀ b o, h.get? b = some o → ((h.push { cls := .type "tuple", data := .seq us.toArray }).push (XObj D none #[.ref h.objs.size, .none, .none, .none, .bool false, .none])).get? b = some o := fun b o q => Heap.get?_push_of_some _ (Heap.get?_push_of_some _ q)
  have gx : ((h.push { cls := .type "tuple", data := .seq us.toArray }).push (XObj D none #[.ref h.objs.size, .none, .none, .none, .bool false, .none])).get? (h.objs.size + 1) = some (XObj D none #[.ref h.objs.size, .none, .none, .none, .bool false, .none]) := by
    have := Heap.get?_push_size (h.push { cls := .type "tuple", data := .seq us.toArray }) (o := XObj D none #[.ref h.objs.size, .none, .none, .none, .bool false, .none]) rfl
    rwa [Heap.size_push] at this
  have hD1 := keep _ _ hD
  have M3 := L3.keeps keep
  have M4 := L4.keeps keep
  have cD : (Value.ref D :: bm).contains (.ref D) = true := by simp
  unfold XObj at gx M3 M4 hD1 k
  unfold isInstance
  repeat (first | with_reducible refine wpAny_loadPart_at gx ?_ | (with_reducible refine wpAny_isSubtype_exc hD1 ?_; rw [cD]) | wp_step)
  show wpAny _ _ (typeLookup (.ref D) _) _ _ _
  refine M3.at ?_
  refine wpAny_holding (wpAny_bind (M4.at ?_))
  dsimp only
  refine wpAny_bind (wpAny_mono k (fun r s' hr => ?_) fun _ _ z => z)
  obtain ⟨rfl, z⟩ := hr
  wp_walk
  exact z
theorem call_x {s : Shared} {us : List Value} {Q : Value → Shared → Prop} (X : K.In s.heap) (hx : xIn K D = true)
    (hi : PySem.W.findIn K (.ref D) "__init__" = some (some (.ref f))) (hf : PySem.W.typeIn K (.ref f) = some (.type "function")) (hl : us.length ≤ sizeLine)
    (k : wpAny (model prog w) (A.under (.builtin "type.__call__" ⟨.ref D :: us, []⟩)) (call (.ref f) (.ref (s.heap.objs.size + 1) :: us)) (fun r s' => r = .none ∧ Q (.ref (s.heap.objs.size + 1)) s') E
      { s with heap := (s.heap.push { cls := .type "tuple", data := .seq us.toArray }).push (XObj D none #[.ref s.heap.objs.size, .none, .none, .none, .bool false, .none]) }) :
    wpAny (model prog w) A (call (.ref D) us) Q E s := by
  obtain ⟨h, g, d, t, os⟩ := s
  obtain ⟨nm, qn, N, bs, bm, sn, sub, ab, col, dd, k0, k1, k2, k3, k5, lk0, tl⟩ := xIn_of hx
  have hD := X _ _ lk0
  have f1 := tc_lookup
  have f2 := tc_bind (.ref D)
  have hT : (⟨h, g, d, t, os⟩ : Shared).TypeIs (.ref D) "type" := ⟨_, hD, rfl⟩
  refine wpAny_call (codeAny_of_tree ?_)
  show wpAny _ _ (callAny (.ref D) _) _ _ _
  repeat (any_goals (first | assumption | with_reducible refine wpAny_loadPart_at hD ?_ | wp_step))
  refine ⟨rfl, codeAny_call_builtin_at (Code.quiet_builtin _ (by decide +kernel)) entry_typeCall (wpAny_check_type_call_sub hD (type_call_x X hx hi hf hl ?_))⟩
  exact k
end
end L2

namespace L2
open PySem PySem.Spec PyProof.Rows
noncomputable def excO (x C dx : Addr) : HO := .ext fun h => ∃ vs, h.get? x = some (XObj C (some dx) vs) ∧ vs[2]? = some .none
noncomputable def excRaw (x C : Addr) : HO := .ext fun h => ∃ t, h.get? x = some (XObj C none #[.ref t, .none, .none, .none, .bool false, .none])
theorem excO_ok {P : Program} {w : World} {H : Hp} {h : Heap} {x C dx : Addr} {vs : Array Value} (e : h.get? x = some (XObj C (some dx) vs)) (h2 : vs[2]? = some .none) : ObjOk P w H h x (excO x C dx) :=
  ⟨⟨vs, e, h2⟩, ⟨_, e⟩, fun h1 h2 ⟨vs, e, z⟩ k => ⟨vs, k _ e, z⟩⟩
theorem excO_of {P : Program} {w : World} {H : Hp} {h : Heap} {x C dx : Addr} (ok : HOk P w H h) (e : H x = some (excO x C dx)) : ∃ vs, h.get? x = some (XObj C (some dx) vs) ∧ vs[2]? = some .none := (ok _ _ e).1
structure Head (X : Cx) (pins : List (Addr × Obj)) (H : Hp) (x C dx T : Addr) (h : Heap) : Prop where
  obj : ∃ vs, h.get? x = some (XObj C (some dx) vs) ∧ vs[1]? = some (.ref T) ∧ vs[2]? = some .none
  tb : TbOk h T
  fp : FpOk X pins H T
  tr : H x = some (excO x C dx)
theorem Head.ne {X : Cx} {pins : List (Addr × Obj)} {H : Hp} {x C dx T : Addr} {h : Heap} (a : Head X pins H x C dx T h) : T ≠ x := fun z => by
  have := a.fp.1
  rw [z, a.tr] at this; cases this
noncomputable def Fly (X : Cx) (pins : List (Addr × Obj)) (H : Hp) (x C dx : Addr) (h : Heap) : Prop :=
  H x = some (excO x C dx) ∧ ((∃ vs, h.get? x = some (XObj C (some dx) vs) ∧ vs[1]? = some .none ∧ vs[2]? = some .none) ∨ ∃ T, Head X pins H x C dx T h)
section
variable {X : Cx} {pins : List (Addr × Obj)} {σ : St} {H : Hp} {s : Shared} {x C dx : Addr} {h' : Heap} {T : Addr} {hd : Option Addr}
theorem Inv.noted {fs : List Addr} (I : Inv X pins σ H s) (hx : H x = some (excO x C dx)) (hh : ∀ b, hd = some b → FpOk X pins H b) (hf : ∀ b ∈ fs, b ∈ X.env.locals :: X.fs) (N : NoteK fs x C (some dx) hd s.heap h' T) : Inv X pins σ H { s with heap := h' } := by
  obtain ⟨m, ⟨oL, esL, epL, hoL, rL⟩, _⟩ := id I.loc
  have fsF : ∀ b ∈ fs, H b = none := fun b hb => by
    rcases List.mem_cons.mp (hf b hb) with e | hb
    · rw [e]; exact I.free
    · obtain ⟨_, o, ho, _⟩ := I.ok.funs.mem hb
      exact I.base.free b o ho (I.ok.frf b hb) fun z => I.ok.exfs b z hb
  have nx : ∀ b, H b = none → b ≠ x := fun b n z => by rw [z, hx] at n; cases n
  have hdF : ∀ b, hd = some b → H b = none := fun b e => (hh b e).1
  have mem : ∀ b, b ∉ hd.toList → some b ≠ hd := fun b nb z => nb (by rw [← z]; simp)
  refine I.step (g' := s.gens) (d' := s.drawn) (t' := s.toks) (ch := hd.toList) (fun b hb => ?_) (fun b o hL hb hc e n => ?_) (fun b o hL hb hc e n => ?_) (fun _ _ _ _ n => n) (fun b o hc e => ?_) (fun _ _ e => e) (fun _ _ _ e => e) (fun b ps e => ⟨#[], by rw [e]; simp⟩) (fun m hm => ?_) (fun b u e => ?_) I.bare
  · have e : hd = some b := by cases hd <;> simp_all
    obtain ⟨_, a2, _, a4, a5, a6⟩ := hh b e
    exact ⟨a4, a2, a5, a6⟩
  · refine N.keep b o (nx b n) (mem b hc) (fun z => ?_) e
    rcases List.mem_cons.mp (hf b z) with q | q
    · exact hL q
    · exact hb q
  · exact N.slot b o (nx b n) (mem b hc) e
  · by_cases q : b = x
    · obtain ⟨vs, z, _⟩ := N.obj
      exact ⟨_, by rw [q]; exact z⟩
    · obtain ⟨sl, z⟩ := N.slot b o q (mem b hc) e
      exact ⟨_, z⟩
  · obtain ⟨o, es, ep, ho, r⟩ := hm
    obtain ⟨sl, z⟩ := N.slot _ o (nx _ I.free) (fun q => (hh _ q.symm).2.1 rfl) ho
    exact ⟨_, es, ep, z, r⟩
  · by_cases q : b = x
    · subst q
      rw [hx] at e; cases e
      obtain ⟨vs, z, _, z2⟩ := N.obj
      exact excO_ok z z2
    · refine (I.hok b u e).stay (fun c v hc z => ?_) (fun _ q => q) fun _ _ q => q
      have tc : ∃ u, H c = some u := by
        rcases hc with rfl | hc
        · exact ⟨_, e⟩
        · exact ⟨_, hc⟩
      obtain ⟨uc, tc⟩ := tc
      refine N.keep c v (fun zz => ?_) (fun zz => ?_) (fun zz => ?_) z
      · rcases hc with rfl | hc
        · exact q zz
        · rw [zz, hx] at hc; cases hc
      · rw [hdF c zz.symm] at tc; cases tc
      · rw [fsF c zz] at tc; cases tc
theorem fly_note {A : Around} {E : Value → Shared → Prop} {Q : Unit → Shared → Prop} (I : Inv X pins σ H s) (hst : X.stack = X.env :: X.outer) (hfr : X.env.frame = some X.env.locals) (hA : A.frames = some X.stack) (F : Fly X pins H x C dx s.heap)
    (k : ∀ h' T, Inv X pins σ H { s with heap := h' } → Head X pins H x C dx T h' → Q () { s with heap := h' }) : wpAny (model X.prog X.w) A (noteFrame (.ref x) X.env) Q E s := by
  have ff : s.heap.FunFrames X.base (X.env :: X.outer) := hst ▸ I.stack
  have sub : ∀ b ∈ frA (X.env :: X.outer), b ∈ X.env.locals :: X.fs := fun b hb => I.stkSub b (by rw [hst]; exact hb)
  have nf : ∀ b u, H b = some u → b ∉ frA (X.env :: X.outer) := fun b u e z => by
    rw [I.stkFree b (by rw [hst]; exact z)] at e; cases e
  obtain ⟨hx, ⟨vs, e, h1⟩ | ⟨T0, hT⟩⟩ := F
  · refine note1 (hst ▸ hA) ff hfr e h1 (nf x _ hx) fun h' T N => ?_
    have J := I.noted hx (fun b z => by cases z) sub N
    refine k h' T J ⟨N.obj, N.tb, ?_, hx⟩
    have zT : s.heap.objs.size ≤ T := by rcases N.new with z | z; exact z; cases z
    exact I.fpOk zT (I.hok.fresh zT)
  · obtain ⟨vs, e, h1⟩ := hT.obj
    refine note2 (hst ▸ hA) ff hfr e h1 hT.tb hT.ne (nf x _ hx) (fun z => ?_) fun h' T N => ?_
    · rcases List.mem_cons.mp (sub T0 z) with q | q
      · exact hT.fp.2.1 q
      · exact hT.fp.2.2.1 q
    · have J := I.noted hx (fun b z => by cases z; exact hT.fp) sub N
      refine k h' T J ⟨N.obj, N.tb, ?_, hx⟩
      rcases N.new with z | z
      · exact I.fpOk z (I.hok.fresh z)
      · cases z; exact hT.fp
theorem fly_land {A : Around} {E : Value → Shared → Prop} {Q : Unit → Shared → Prop} (I : Inv X pins σ H s) (F : Head X pins H x C dx T s.heap)
    (k : ∀ h', Inv X pins σ H { s with heap := h' } → Head X pins H x C dx T h' → Q () { s with heap := h' }) : wpAny (model X.prog X.w) A (setFlight (.ref x) none) Q E s := by
  obtain ⟨vs, e, h1⟩ := F.obj
  refine land1 e h1 F.tb F.ne fun h' N => ?_
  exact k h' (I.noted F.tr (fun b z => by cases z; exact F.fp) (fun b z => absurd z (by simp)) N) ⟨N.obj, N.tb, F.fp, F.tr⟩
noncomputable def CX1 (P : Program) (w : World) : CXT := fun outer H s E e s' => ∃ x C dx T H', e = .ref x ∧ s'.os = s.os ∧ AllBare s'.gens ∧ Un (frs outer) [] H H' s.heap s'.heap ∧ HOk P w H' s'.heap ∧ H' x = some (excO x C dx) ∧ H' T = none ∧ s.heap.objs.size ≤ T ∧
  (∃ vs, s'.heap.get? x = some (XObj C (some dx) vs) ∧ vs[1]? = some (.ref T) ∧ vs[2]? = some .none) ∧ TbOk s'.heap T ∧ E (.ref C) (some x) H'
noncomputable def XE (X : Cx) (pins : List (Addr × Obj)) (R : St → XK) (e : Value) (s' : Shared) : Prop := ∃ x C dx σ H', e = .ref x ∧ Inv X pins σ H' s' ∧ Fly X pins H' x C dx s'.heap ∧ R σ (.ref C) (some x) H'
theorem xe_call {R : St → XK} {e : Value} {s' : Shared} (I : Inv X pins σ H s) (c : CX1 X.prog X.w X.stack H s (R σ) e s') : XE X pins R e s' := by
  obtain ⟨x, C, dx, T, H', rfl, os, bare, un, hok, tx, tT, zT, ob, tb, r⟩ := c
  obtain ⟨hh, g, d, t, os'⟩ := s'
  obtain rfl : os' = s.os := os
  have J := I.call (h' := hh) (g' := g) (d' := d) (t' := t) (ch := []) un hok bare (fun b z => absurd z (by simp))
  exact ⟨x, C, dx, σ, H', rfl, J, ⟨tx, .inr ⟨T, ob, tb, I.fpOk zT tT, tx⟩⟩, r⟩
noncomputable def PassX (X : Cx) (R : St → XK) : Prop := ∀ (pins : List (Addr × Obj)) (e : Value) (s' : Shared), XE X pins R e s' → X.xe e s'
end
theorem pass_def {P : Program} {w : World} {K : PySem.W.Frag} {mg : Str → Option Value} {base : Heap} {N : List Str} {qual : Str} {scope : Scope} {f : Addr} {cd : Value} {A : Around} {outer : List Env} {s : Shared} {H : Hp} {E : XK} :
    PassX (cxOf (CX1 P w) P w K mg base N qual scope f cd A outer s H E) (fun _ => E) := by
  rintro pins e s' ⟨x, C, dx, σ, H', he, I, F, r⟩
  subst he
  show wpAny _ _ (leaving _ _) _ _ _
  unfold leaving
  refine wpAny_bind (fly_note (X := cxOf (CX1 P w) P w K mg base N qual scope f cd A outer s H E) I rfl rfl I.ok.frames F fun h1 T J1 F1 => ?_)
  refine fly_land (X := cxOf (CX1 P w) P w K mg base N qual scope f cd A outer s H E) J1 F1 fun h2 J2 F2 => ?_
  refine ⟨x, C, dx, T, H', rfl, J2.os, J2.bare, J2.base, J2.hok, F2.tr, F2.fp.1, ?_, F2.obj, F2.tb, r⟩
  rcases F2.fp.2.2.2.1 with z | z
  · exact absurd (show T ∈ ([] : List Addr) from z) (by simp)
  · exact z
end L2

namespace L2
open PySem PySem.Spec PyProof.Rows
noncomputable def excD (d : Addr) (fs : List (Str × V)) : HO := .ext fun h => ∃ mA, h.Ns1 d mA ∧ ∀ f, RelO (fs.lookup f) (mA f)
theorem excD_ok {P : Program} {w : World} {H : Hp} {h : Heap} {d : Addr} {fs : List (Str × V)} {mA : Str → Option Value} (n : h.Ns1 d mA) (r : ∀ f, RelO (fs.lookup f) (mA f)) : ObjOk P w H h d (excD d fs) := by
  refine ⟨⟨mA, n, r⟩, let ⟨o, _, _, e, _⟩ := n; ⟨o, e⟩, fun h1 h2 ⟨m, n, r⟩ k => ⟨m, ?_, r⟩⟩
  obtain ⟨o, es, ep, e, q⟩ := n
  exact ⟨o, es, ep, k _ e, q⟩
theorem excD_of {P : Program} {w : World} {H : Hp} {h : Heap} {d : Addr} {fs : List (Str × V)} (ok : HOk P w H h) (e : H d = some (excD d fs)) : ∃ mA, h.Ns1 d mA ∧ ∀ f, RelO (fs.lookup f) (mA f) := (ok _ _ e).1
noncomputable def excNew (x C d : Addr) : HO := .ext fun h => ∃ t, h.get? x = some (XObj C (some d) #[.ref t, .none, .none, .none, .bool false, .none])
theorem excNew_ok {P : Program} {w : World} {H : Hp} {h : Heap} {x C d t : Addr} (e : h.get? x = some (XObj C (some d) #[.ref t, .none, .none, .none, .bool false, .none])) : ObjOk P w H h x (excNew x C d) :=
  ⟨⟨t, e⟩, ⟨_, e⟩, fun h1 h2 ⟨t, e⟩ k => ⟨t, k _ e⟩⟩
theorem excNew_of {P : Program} {w : World} {H : Hp} {h : Heap} {x C d : Addr} (ok : HOk P w H h) (e : H x = some (excNew x C d)) : ∃ t, h.get? x = some (XObj C (some d) #[.ref t, .none, .none, .none, .bool false, .none]) := (ok _ _ e).1
noncomputable def refsThen : List Value → Bool
  | [.type a, .type b, .type c, .type d] => a == "ValueError" && b == "Exception" && c == "BaseException" && d == "object"
  | .ref _ :: r => refsThen r
  | _ => false
theorem refsThen_ve {l : List Value} (e : refsThen l = true) : (∃ a r, l = .ref a :: r ∧ refsThen r = true) ∨ l = VEm := by
  unfold refsThen at e
  split at e
  · simp only [Bool.and_eq_true, beq_iff_eq] at e
    obtain ⟨⟨⟨rfl, rfl⟩, rfl⟩, rfl⟩ := e
    exact .inr rfl
  · exact .inl ⟨_, _, rfl, e⟩
  · cases e
theorem refuse_refs (self : Value) : ∀ (l : List Value), refsThen l = true → refuseLoop self "__setattr__" l = pure ()
  | [], e => by cases e
  | v :: r, e => by
    rcases refsThen_ve e with ⟨a, r', q, e'⟩ | q
    · cases q
      rw [refuseLoop_ref]
      exact refuse_refs self r e'
    · rw [q]
      exact F.store_ValueError.passes self
theorem refs_has : ∀ (l : List Value), refsThen l = true → l.contains (.type "object") = true ∧ l.contains (.type "BaseException") = true
  | [], e => by cases e
  | v :: r, e => by
    rcases refsThen_ve e with ⟨a, r', q, e'⟩ | q
    · cases q
      obtain ⟨h1, h2⟩ := refs_has r e'
      exact ⟨by rw [List.contains_cons, h1, Bool.or_true], by rw [List.contains_cons, h2, Bool.or_true]⟩
    · rw [q]
      decide
noncomputable def xcIn (K : PySem.W.Frag) (C : Addr) : Bool := xIn K C && (PySem.W.clsIn K C).any (fun cd => refsThen cd.mro && cd.hasDict) && PySem.W.findIn K (.ref C) "__setattr__" == some (some (.builtin "object.__setattr__")) &&
  PySem.W.findIn K (.ref C) "__getattribute__" == some (some (.builtin "BaseException.__getattribute__")) && PySem.W.findIn K (.ref C) "__getattr__" == some none
structure XCls (K : PySem.W.Frag) (C : Addr) : Prop where
  xi : xIn K C = true
  ov : ∃ cd, PySem.W.clsIn K C = some cd ∧ refsThen cd.mro = true ∧ cd.hasDict = true
  sa : PySem.W.findIn K (.ref C) "__setattr__" = some (some (.builtin "object.__setattr__"))
  ga : PySem.W.findIn K (.ref C) "__getattribute__" = some (some (.builtin "BaseException.__getattribute__"))
  gh : PySem.W.findIn K (.ref C) "__getattr__" = some none
theorem xcIn_of {K : PySem.W.Frag} {C : Addr} (h : xcIn K C = true) : XCls K C := by
  unfold xcIn at h
  simp only [Bool.and_eq_true, beq_iff_eq] at h
  obtain ⟨⟨⟨⟨h1, h2⟩, h3⟩, h4⟩, h5⟩ := h
  obtain ⟨cd, a, b⟩ := PySem.W.any_some h2
  simp only [Bool.and_eq_true] at b
  exact ⟨h1, ⟨cd, a, b.1, b.2⟩, h3, h4, h5⟩
theorem refs_ne {l : List Value} (e : refsThen l = true) : l.isEmpty = false := by
  cases l with
  | nil => cases e
  | cons _ _ => rfl
section
variable {prog : Program} {w : World} {A : Around} {s : Shared} {K : PySem.W.Frag} {x C : Addr} {R : Result → Shared → Prop}
theorem XCls.mro {c : Value} {b : Bool} (k : XCls K C) (h : ∀ cd, PySem.W.clsIn K C = some cd → refsThen cd.mro = true → cd.mro.contains c = b) : PySem.W.mroIn K C c = some b := by
  obtain ⟨cd, a, o, _⟩ := k.ov
  unfold PySem.W.mroIn
  rw [a, Option.bind_some, if_neg (by rw [refs_ne o]; decide), h cd a o]
theorem XCls.isObj (k : XCls K C) : PySem.W.mroIn K C (.type "object") = some true := k.mro fun cd _ o => (refs_has _ o).1
theorem XCls.isExc (k : XCls K C) : PySem.W.mroIn K C (.type "BaseException") = some true := k.mro fun cd _ o => (refs_has _ o).2
theorem osa_x {ox : Obj} {od : Option Obj} {name : Str} {tk : Tok} {v : Value} (X : K.In s.heap) (I : PySem.W.InstAt s.heap x ox C od) (c : XCls K C) (ht : NoAttr K C name)
    (h : wpAny (model prog w) A.in1 (Builtin.ObjectAttr.storeInOwnDict (.ref x) (.ref C) (.str name tk) name v false)
      (fun fin s' => match fin with | .done f => R (.ok f) s' | .again c' => c'.quiet = true ∧ codeAny (model prog w) A c' R s') (fun e s' => R (.error e) s') s) :
    codeAny (model prog w) A (.call (.builtin "object.__setattr__") ⟨[.ref x, .str name tk, v], []⟩) R s := by
  obtain ⟨cd, hc, ho, _⟩ := c.ov
  have sub : PySem.W.Looks (model prog w) s.heap (isInstance (.ref x) (.type "object")) true := I.type.andThen (PySem.W.looks_mroIn X c.isObj)
  refine codeAny_call_builtin F.store_object.slot.plain F.store_object.entry (@PySem.W.check_slot (model prog w) _ _ s "object.__setattr__" "object" "__setattr__" (.ref x) [.str name tk, v] [] _ F.store_object.kind F.store_object.split sub (F.store_object.args (.ref x) (.str name tk) v) ?_)
  have hm : PySem.W.Looks (model prog w) s.heap (mroOf (.ref C)) cd.mro := (PySem.W.looks_clsIn X hc).andThen .now
  have L3 : PySem.W.Looks (model prog w) s.heap (Builtin.ObjectAttr.storeTaker? none) none := .now
  rw [PySem.W.osa_eq, refuse_eq]
  refine wpAny_bind (wpAny_bind (I.type.here (wpAny_bind (hm.here ?_))))
  rw [refuse_refs _ _ ho]
  refine wpAny_pure (wpAny_bind (I.type.here (wpAny_bind ((PySem.W.looks_findIn X ht).here (wpAny_bind (L3.here ?_))))))
  exact h
end
theorem upd_swap {H : Hp} {d x : Addr} {a b c : HO} (n : d ≠ x) : upd (upd (upd H d a) x b) d c = upd (upd H x b) d c := by
  funext y
  unfold upd
  by_cases h : y = d
  · simp [h]
  · simp [h]
section
variable {X : Cx} {pins : List (Addr × Obj)} {σ : St} {H : Hp} {s : Shared} {x C d : Addr} {fs : List (Str × V)} {f : Str} {v y : V} {u : Value} {A : Around} {E : Value → Shared → Prop}
theorem setx0 {Q : Unit → Shared → Prop} (I : Inv X pins σ H s) (e : H x = some (excRaw x C)) (c : XCls X.K C) (n : NoAttr X.K C f) (ry : RelV y u)
    (h : ∀ s' d, H d = none → d ≠ x → Inv X pins σ (upd (upd H x (excNew x C d)) d (excD d [(f, y)])) s' → Q () s') : wpAny (model X.prog X.w) A (setAttr (.ref x) f u) Q E s := by
  obtain ⟨⟨t, hx⟩, -, -⟩ : ObjOk X.prog X.w H s.heap x (excRaw x C) := I.hok x _ e
  obtain ⟨cd, hc, ho, hd⟩ := c.ov
  have J : PySem.W.InstAt s.heap x (XObj C none #[.ref t, .none, .none, .none, .bool false, .none]) C none := ⟨hx, rfl, rfl, True.intro⟩
  refine PySem.W.set_plain I.kIn J c.sa (osa_x (s := { s with toks := s.toks + 1 }) I.kIn J c n ?_)
  refine wpAny_bind (wpAny_pure (wpAny_bind (wpAny_bind (wpAny_loadPart hx (wpAny_bind ((PySem.W.looks_clsIn (M := model X.prog X.w) I.kIn hc).here (s := { s with toks := s.toks + 1 }) ?_))))))
  rw [hd]
  have hp : s.heap.objs.size ≠ x := Nat.ne_of_gt (Heap.lt_size hx)
  have hx1 : (s.heap.push { cls := .type "dict", data := .dict #[] }).get? x = some (XObj C none #[.ref t, .none, .none, .none, .bool false, .none]) := Heap.get?_push_of_some _ hx
  have d1 : (s.heap.push { cls := .type "dict", data := .dict #[] }).get? s.heap.objs.size = some { cls := .type "dict", data := .dict #[] } := Heap.get?_push_size _ rfl
  have n1 : ∀ {hh : Heap}, hh.get? s.heap.objs.size = some { cls := .type "dict", data := .dict #[] } → hh.Ns1 s.heap.objs.size (fun _ => none) := fun q => Heap.Ns1.of_empty ⟨_, #[], _, q, rfl, fun e he => absurd he (by simp), fun _ => rfl⟩
  have I1 : Inv X pins σ (upd H s.heap.objs.size (excD s.heap.objs.size [])) { s with heap := s.heap.push { cls := .type "dict", data := .dict #[] }, toks := s.toks + 1 } :=
    I.laid (t' := s.toks + 1) (fun b o q => Heap.get?_push_of_some _ q) (Nat.le_refl _) (excD_ok (n1 d1) fun g => True.intro)
  refine wpAny_bind (wpAny_alloc' ?_)
  refine wpAny_bind (wpAny_update' hx1 ?_)
  have hx2 := Heap.get?_update_self (fun o : Obj => ({ o with dict := some s.heap.objs.size } : Obj)) hx1 rfl
  have ot : ∀ b, b ≠ x → ((s.heap.push { cls := .type "dict", data := .dict #[] }).update x fun o => { o with dict := some s.heap.objs.size }).get? b = (s.heap.push { cls := .type "dict", data := .dict #[] }).get? b := fun b hb => Heap.get?_update_other _ _ (Ne.symm hb)
  have e1 : upd H s.heap.objs.size (excD s.heap.objs.size []) x = some (excRaw x C) := (upd_ne (Ne.symm hp)).trans e
  have I2 : Inv X pins σ (upd (upd H s.heap.objs.size (excD s.heap.objs.size [])) x (excNew x C s.heap.objs.size)) { s with heap := (s.heap.push { cls := .type "dict", data := .dict #[] }).update x fun o => { o with dict := some s.heap.objs.size }, toks := s.toks + 1 } :=
    I1.write (t' := s.toks + 1) (x := x) (e := x) (by rw [e1]; exact True.intro) (.inl rfl) (fun b o hb q => (ot b hb).trans q) ⟨_, hx2⟩ (excNew_ok hx2)
  refine wpAny_pure (wpAny_bind (wpAny_pure (wpAny_bind ?_)))
  refine wpAny_nsSet1 (n1 ((ot _ hp).trans d1)) fun h' hn' hs => ?_
  obtain ⟨oD, esD, epD, hoD, hdD, hcD⟩ := hn'.count (PySem.Within.cons f u PySem.Within.nil)
  refine wpAny_bind (wpAny_lookBehind hoD (by rw [hdD]; exact pastItsLine_dict (Nat.le_trans hcD (by rw [List.length_cons, List.length_nil, sizeLine_eq]; omega))) ?_)
  refine wpAny_pure (h _ s.heap.objs.size (I.hok.fresh (Nat.le_refl _)) hp ?_)
  rw [← upd_swap (a := excD s.heap.objs.size []) hp]
  refine I2.write (x := s.heap.objs.size) (e := s.heap.objs.size) (by rw [upd_ne hp, upd_same]; exact True.intro) (.inl rfl) (fun b o hb q => (hs.2 b hb).trans q) ⟨_, hoD⟩ (excD_ok hn' fun g => ?_)
  by_cases q : g = f
  · have qb : (g == f) = true := beq_iff_eq.mpr q
    simp only [List.lookup, qb, if_pos q]
    exact ry
  · have qb : (g == f) = false := beq_eq_false_iff_ne.mpr q
    simp only [List.lookup, qb, if_neg q]
    exact True.intro
end
end L2

namespace L2
open PySem PySem.Spec PyProof.Rows
section
variable {X : Cx} {pins : List (Addr × Obj)} {σ : St} {H : Hp} {s : Shared} {x C d : Addr} {fs : List (Str × V)} {f : Str} {v y : V} {u : Value} {A : Around} {E : Value → Shared → Prop}
theorem excN_ne {h : Heap} {P : Program} {w : World} (ok : HOk P w H h) (e : H x = some (excNew x C d)) (e2 : H d = some (excD d fs)) : d ≠ x := fun z => by
  subst z
  obtain ⟨t, a⟩ := excNew_of ok e
  obtain ⟨mA, ⟨o, es, ep, b, q, _⟩, _⟩ := excD_of ok e2
  rw [a] at b; cases b; cases q
theorem setx1 {Q : Unit → Shared → Prop} (I : Inv X pins σ H s) (e : H x = some (excNew x C d)) (e2 : H d = some (excD d fs)) (hl : fs.length < 1000) (c : XCls X.K C) (n : NoAttr X.K C f) (ry : RelV y u)
    (h : ∀ s', Inv X pins σ (upd H d (excD d (putF f y fs))) s' → Q () s') : wpAny (model X.prog X.w) A (setAttr (.ref x) f u) Q E s := by
  have ne := excN_ne I.hok e e2
  obtain ⟨vs, hx⟩ := excNew_of I.hok e
  obtain ⟨mA, nA, rA⟩ := excD_of I.hok e2
  obtain ⟨cd, hc, ho, hd⟩ := c.ov
  have J : PySem.W.InstAt s.heap x (XObj C (some d) #[.ref vs, .none, .none, .none, .bool false, .none]) C (some (Classical.choose nA)) := ⟨hx, rfl, rfl, let ⟨_, _, q, _⟩ := Classical.choose_spec nA; q⟩
  refine PySem.W.set_plain I.kIn J c.sa (osa_x (s := { s with toks := s.toks + 1 }) I.kIn J c n ?_)
  refine wpAny_bind (wpAny_pure (wpAny_bind (wpAny_bind (wpAny_loadPart hx (wpAny_bind ((PySem.W.looks_clsIn (M := model X.prog X.w) I.kIn hc).here (s := { s with toks := s.toks + 1 }) ?_))))))
  rw [hd]
  refine wpAny_pure (a := some d) (wpAny_bind (wpAny_pure (wpAny_bind ?_)))
  refine wpAny_nsSet1 (s := { s with toks := s.toks + 1 }) nA fun h' hn' hs => ?_
  have wi : PySem.Within mA (fs.map (·.1)) := fun z hz => by
    have r := rA z
    cases q : fs.lookup z with
    | none => rw [q] at r; exact absurd (RelO.none_of r) hz
    | some a => exact List.mem_map.mpr ⟨(z, a), PySem.mem_of_lookup q, rfl⟩
  obtain ⟨oD, esD, epD, hoD, hdD, hcD⟩ := hn'.count (PySem.Within.cons f u wi)
  refine wpAny_bind (wpAny_lookBehind hoD (by rw [hdD]; exact pastItsLine_dict (Nat.le_trans hcD (by rw [List.length_cons, List.length_map, sizeLine_eq]; omega))) ?_)
  refine wpAny_pure (h _ ?_)
  refine I.write (x := d) (e := d) (by rw [e2]; exact True.intro) (.inl rfl) (fun b o hb q => (hs.2 b hb).trans q) ⟨_, hoD⟩ (excD_ok hn' fun g => ?_)
  rw [lookup_putF]
  by_cases q : g = f
  · rw [if_pos q, if_pos q]; exact ry
  · rw [if_neg q, if_neg q]; exact rA g
theorem getx {b : Bool} {Q : Value → Shared → Prop} (I : Inv X pins σ H s) (e : H x = some (excO x C d)) (e2 : H d = some (excD d fs)) (c : XCls X.K C) (n : NoAttr X.K C f) (l : fs.lookup f = some v)
    (h : ∀ u s', Inv X pins σ H s' → RelV v u → Q u s') : wpAny (model X.prog X.w) A (getAttr (.ref x) f b) Q E s := by
  obtain ⟨vs, hx, _⟩ := excO_of I.hok e
  obtain ⟨mA, nA, rA⟩ := excD_of I.hok e2
  obtain ⟨cd, hc, ho, hd⟩ := c.ov
  obtain ⟨od, hod, lk⟩ := lookIn_ns nA
  obtain ⟨u, hu, ru⟩ := RelO.some_of (v := v) (o := mA f) (by rw [← l]; exact rA f)
  have J : PySem.W.InstAt s.heap x (XObj C (some d) vs) C (some od) := ⟨hx, rfl, rfl, hod⟩
  have hf : PySem.W.findObj X.K C (some od) f = some (.value u) := PySem.W.findObj_own (by unfold PySem.W.hasDictIn; rw [hc]; exact hd) n rfl (by rw [lk, hu])
  have Z := h u { s with toks := s.toks + 1 } (I.tok _) ru
  have KI := I.kIn
  obtain ⟨hh, g, dr, t, os⟩ := s
  have L0 := J.type (M := model X.prog X.w)
  have L1 := PySem.W.looks_findIn (M := model X.prog X.w) KI c.ga
  have L2 := PySem.W.looks_findIn (M := model X.prog X.w) KI c.gh
  have L3 := PySem.W.looks_find (M := model X.prog X.w) KI J hf
  have sub : PySem.W.Looks (model X.prog X.w) hh (isInstance (.ref x) (.type "BaseException")) true := L0.andThen (PySem.W.looks_mroIn KI c.isExc)
  have hb0 : (onTheHeap (Value.ref C) && Value.builtin "BaseException.__getattribute__" == Value.builtin "object.__getattribute__") = false := by
    rw [show (Value.builtin "BaseException.__getattribute__" == Value.builtin "object.__getattribute__") = false from by decide +kernel, Bool.and_false]
  unfold getAttr getAttrBy
  refine wpAny_bind (wpAny_mkText (wpAny_holding (wpAny_bind (L0.at (wpAny_bind (L1.at ?_))))))
  dsimp only
  rw [hb0]
  rw [if_neg Bool.false_ne_true]
  unfold getAttrByItsOwn hookBefore
  refine wpAny_bind ?_
  rw [if_pos (show onTheHeap (Value.ref C) = true from rfl)]
  refine L2.at ?_
  refine wpAny_bind (wpAny_attempt (wpAny_holding ?_))
  have hb1 : (b && onTheHeap (Value.builtin "BaseException.__getattribute__")) = false := by cases b <;> rfl
  unfold callGetattribute
  rw [hb1, if_neg Bool.false_ne_true]
  unfold boundAndCalled
  refine wpAny_bind (wpAny_of_eq (F.attrBase_ValueError.ga.bind (.ref x)) ?_)
  refine wpAny_call (codeAny_call_builtin F.attrBase_ValueError.ga.plain F.entry_bexc_ga (@PySem.W.check_slot (model X.prog X.w) _ _ ⟨hh, g, dr, t + 1, os⟩ "BaseException.__getattribute__" "BaseException" "__getattribute__" (.ref x) [.str f t] [] _ (by decide +kernel) (by decide +kernel) sub (F.args_bexc_ga (.ref x) (.str f t)) ?_))
  refine wpAny_bind (wpAny_pure (wpAny_bind (wpAny_pure (wpAny_bind (L0.at (wpAny_bind (L3.at ?_)))))))
  refine wpAny_pure ?_
  show wpAny _ _ (handedOut u) _ _ _
  rw [PySem.W.handedOut_of (handed_of ru)]
  exact wpAny_pure Z
end
end L2

namespace L2
open PySem PySem.Spec PyProof.Rows
noncomputable def xclIn (K : PySem.W.Frag) (C : Addr) : Bool := xcIn K C && PySem.W.findIn K (.ref C) "__class__" == some (some (.builtin "object.__class__")) && PySem.W.specialIn K (.builtin "object.__class__") "__get__" == some (some (.builtin "getset_descriptor.__get__")) && PySem.W.takesIn K (.builtin "object.__class__") == some true
structure XCl (K : PySem.W.Frag) (C : Addr) : Prop where
  cls : XCls K C
  ca : PySem.W.findIn K (.ref C) "__class__" = some (some (.builtin "object.__class__"))
  cg : PySem.W.specialIn K (.builtin "object.__class__") "__get__" = some (some (.builtin "getset_descriptor.__get__"))
  ct : PySem.W.takesIn K (.builtin "object.__class__") = some true
theorem xclIn_of {K : PySem.W.Frag} {C : Addr} (h : xclIn K C = true) : XCl K C := by
  unfold xclIn at h
  simp only [Bool.and_eq_true, beq_iff_eq] at h
  exact ⟨xcIn_of h.1.1.1, h.1.1.2, h.1.2, h.2⟩
section
variable {prog : Program} {w : World} {A : Around} {E : Value → Shared → Prop} {s : Shared} {K : PySem.W.Frag} {x C : Addr} {ox od : Obj}
theorem exc_class {Q : Option Value → Shared → Prop} (c : XCl K C) (KI : K.In s.heap) (J : PySem.W.InstAt s.heap x ox C (some od)) (h : Q (some (.ref C)) { s with toks := s.toks + 1 }) : wpAny (model prog w) A (getAttr? (.ref x) "__class__") Q E s := by
  obtain ⟨cd, hc, ho, hd⟩ := c.cls.ov
  have hf : PySem.W.findObj K C (some od) "__class__" = some (.bind (.builtin "getset_descriptor.__get__") (.builtin "object.__class__")) := PySem.W.findObj_data (by rw [hc]; rfl) c.ca c.cg c.ct
  obtain ⟨hh, g, dr, t, os⟩ := s
  have L0 := J.type (M := model prog w)
  have L1 := PySem.W.looks_findIn (M := model prog w) KI c.cls.ga
  have L2 := PySem.W.looks_findIn (M := model prog w) KI c.cls.gh
  have L3 := PySem.W.looks_find (M := model prog w) KI J hf
  have sub : PySem.W.Looks (model prog w) hh (isInstance (.ref x) (.type "BaseException")) true := L0.andThen (PySem.W.looks_mroIn KI c.cls.isExc)
  have hb0 : (onTheHeap (Value.ref C) && Value.builtin "BaseException.__getattribute__" == Value.builtin "object.__getattribute__") = false := by
    rw [show (Value.builtin "BaseException.__getattribute__" == Value.builtin "object.__getattribute__") = false from by decide +kernel, Bool.and_false]
  unfold getAttr? getAttrBy? getAttrBy
  refine wpAny_bind (wpAny_mkText (wpAny_bind (wpAny_attempt (wpAny_holding (wpAny_bind (L0.at (wpAny_bind (L1.at ?_))))))))
  dsimp only
  rw [hb0, if_neg Bool.false_ne_true]
  unfold getAttrByItsOwn hookBefore
  refine wpAny_bind ?_
  rw [if_pos (show onTheHeap (Value.ref C) = true from rfl)]
  refine L2.at ?_
  refine wpAny_bind (wpAny_attempt (wpAny_holding ?_))
  unfold callGetattribute
  rw [if_neg (show ¬ ((false && onTheHeap (Value.builtin "BaseException.__getattribute__")) = true) from by decide)]
  unfold boundAndCalled
  refine wpAny_bind (wpAny_of_eq (F.attrBase_ValueError.ga.bind (.ref x)) ?_)
  refine wpAny_call (codeAny_call_builtin F.attrBase_ValueError.ga.plain F.entry_bexc_ga (@PySem.W.check_slot (model prog w) _ _ ⟨hh, g, dr, t + 1, os⟩ "BaseException.__getattribute__" "BaseException" "__getattribute__" (.ref x) [.str "__class__" t] [] _ (by decide +kernel) (by decide +kernel) sub (F.args_bexc_ga (.ref x) (.str "__class__" t)) ?_))
  refine wpAny_bind (wpAny_pure (wpAny_bind (wpAny_pure (wpAny_bind (L0.at (wpAny_bind (L3.at ?_)))))))
  show wpAny _ _ (holding [.builtin "object.__class__"] (call (.builtin "getset_descriptor.__get__") [.builtin "object.__class__", .ref x, .ref C]) >>= ret) _ _ _
  refine wpAny_bind (wpAny_holding (wpAny_call (PySem.W.class_get (s := ⟨hh, g, dr, t + 1, os⟩) KI J c.cls.isObj ?_)))
  refine wpAny_pure ?_
  show wpAny _ _ (handedOut (.ref C)) _ _ _
  rw [PySem.W.handedOut_of rfl]
  exact wpAny_pure (wpAny_pure h)
theorem kitx_exc (c : XCl K C) : PySem.W.KitX K (.ref x) (.ref C) (fun h => PySem.W.InstAt h x ox C (some od)) where
  ty := fun _ _ _ I => I.type
  it := fun _ _ X _ => by
    obtain ⟨cd, hc, _⟩ := c.cls.ov
    unfold PySem.W.clsIn at hc
    split at hc
    · rename_i a1 a2 a3 a4 ho
      intro A1 Q1 E1 s1 k q
      unfold isType loadHead
      exact wpAny_bind (wpAny_loadPart (k _ _ (X _ _ ho)) (wpAny_pure q))
    · cases hc
  ne := fun h tp dd its n sl X htp => by
    obtain ⟨cd, hc, _⟩ := c.cls.ov
    refine Bool.eq_false_iff.mpr fun q => ?_
    obtain rfl : C = tp := Value.ref.inj (beq_iff_eq.mp q)
    unfold PySem.W.clsIn at hc
    split at hc
    · rename_i a1 a2 a3 a4 ho
      cases (X _ _ ho).symm.trans htp
    · cases hc
  ca := fun X I k => exc_class c X I k
end
noncomputable def IsX (H : Hp) (x C : Addr) (fs : List (Str × V)) : Prop := ∃ d, H x = some (excO x C d) ∧ H d = some (excD d fs)
noncomputable def clV : V → Option Value
  | .ty T => some (.type T)
  | .ref C => some (.ref C)
  | _ => none
theorem clV_of {v : V} {u c : Value} (e : clV v = some c) (r : RelV v u) : u = c := by
  cases v <;> first | cases e; exact r | cases e
noncomputable def clVs : List V → Option (List Value)
  | [] => some []
  | v :: r => match clV v, clVs r with
    | some c, some l => some (c :: l)
    | _, _ => none
theorem clVs_of : ∀ {vs : List V} {us cs : List Value}, clVs vs = some cs → Vals vs us → us = cs
  | [], us, cs, e, r => by cases r; cases e; rfl
  | v :: vs, us, cs, e, r => by
    cases r with
    | cons r1 r2 =>
      unfold clVs at e
      split at e
      · rename_i c l h1 h2
        cases e
        rw [clV_of h1 r1, clVs_of h2 r2]
      · cases e
noncomputable def rIsiX (K : PySem.W.Frag) : List V → Hp → VK → Prop := fun xs H Q => ∃ x t b, (TyOf K H x t ∨ ∃ a C fs, x = .ref a ∧ IsX H a C fs ∧ XCl K C ∧ t = .ref C) ∧
  ((∃ v c, xs = [x, v] ∧ clV v = some c ∧ PySem.W.kitOne K t c = some b) ∨ (∃ p vs cs, xs = [x, .ref p] ∧ H p = some (.tup vs) ∧ clVs vs = some cs ∧ PySem.W.kitAny K t cs = some b)) ∧ Q (.bl b) H
section
variable {X : Cx} {pins : List (Addr × Obj)} {σ : St} {H : Hp} {s : Shared} {A : Around} {E : Value → Shared → Prop} {Q : Value → Shared → Prop} {c : Value} {b : Bool}
theorem kit_of {x : V} {u t : Value} (I : Inv X pins σ H s) (rx : RelV x u) (ty : TyOf X.K H x t ∨ ∃ a C fs, x = .ref a ∧ IsX H a C fs ∧ XCl X.K C ∧ t = .ref C) :
    ∃ φ : Heap → Prop, PySem.W.KitX X.K u t φ ∧ φ s.heap ∧ u ≠ .builtin "__main__.__loader__#opaque" := by
  rcases ty with ty | ⟨a, C, fs, rfl, ⟨d, e1, e2⟩, c, rfl⟩
  · cases ty with
    | non => cases (show u = Value.none from rx); exact ⟨_, PySem.W.kitx_none, True.intro, (fun z => nomatch z)⟩
    | bl y => cases (show u = Value.bool y from rx); exact ⟨_, PySem.W.kitx_bool, True.intro, (fun z => nomatch z)⟩
    | int i => obtain ⟨t, q⟩ := (show ∃ t, u = Value.int i t from rx); cases q; exact ⟨_, PySem.W.kitx_int, True.intro, (fun z => nomatch z)⟩
    | str y => obtain ⟨t, q⟩ := (show ∃ t, u = Value.str y t from rx); cases q; exact ⟨_, PySem.W.kitx_str, True.intro, (fun z => nomatch z)⟩
    | flt y => obtain ⟨t, q⟩ := (show ∃ t, u = Value.float y t from rx); cases q; exact ⟨_, PySem.W.kitx_float, True.intro, (fun z => nomatch z)⟩
    | @lst a xs ea =>
      cases (show u = Value.ref a from rx)
      obtain ⟨_, _, n, _, h1⟩ := (show ObjOk X.prog X.w H s.heap a (.lst xs) from I.hok a _ ea)
      exact ⟨_, PySem.W.kitx_list, ⟨_, h1, rfl⟩, (fun z => nomatch z)⟩
    | @frz a ob xs ea =>
      cases (show u = Value.ref a from rx)
      obtain ⟨_, _, _, n, _, h1⟩ := (show ObjOk X.prog X.w H s.heap a (.frz ob (.lst xs)) from I.hok a _ ea)
      exact ⟨_, PySem.W.kitx_list, ⟨_, h1, rfl⟩, (fun z => nomatch z)⟩
    | @tup a xs ea =>
      cases (show u = Value.ref a from rx)
      obtain ⟨_, _, _, p⟩ := (show ObjOk X.prog X.w H s.heap a (.tup xs) from I.hok a _ ea)
      obtain ⟨o, h1, h2, _⟩ := p
      exact ⟨_, PySem.W.kitx_tuple, ⟨o, h1, h2⟩, (fun z => nomatch z)⟩
    | @dK a kvs ea =>
      cases (show u = Value.ref a from rx)
      obtain ⟨_, _, vs, _, p⟩ := (show ObjOk X.prog X.w H s.heap a (.dK kvs) from I.hok a _ ea)
      obtain ⟨o, es, ep, h1, h2, _⟩ := p
      exact ⟨_, PySem.W.kitx_dict, ⟨o, h1, h2.1⟩, (fun z => nomatch z)⟩
    | @dT a kvs ea =>
      cases (show u = Value.ref a from rx)
      obtain ⟨_, _, xs, _, o, es, ep, h1, h2, _⟩ := (show ObjOk X.prog X.w H s.heap a (.dT kvs) from I.hok a _ ea)
      exact ⟨_, PySem.W.kitx_dict, ⟨o, h1, h2.1⟩, (fun z => nomatch z)⟩
    | @ins a C dx fs ea cl ha hn htk hm =>
      cases (show u = Value.ref a from rx)
      obtain ⟨mA, O, _⟩ := ins_get I.hok ea
      obtain ⟨od, J, _⟩ := O.look
      exact ⟨_, PySem.W.kitx_own (cl.get _) cl.hd ha hn htk hm, J, (fun z => nomatch z)⟩
  · cases (show u = Value.ref a from rx)
    obtain ⟨vs, hx, _⟩ := excO_of I.hok e1
    obtain ⟨mA, nA, rA⟩ := excD_of I.hok e2
    obtain ⟨od, hod, lk⟩ := lookIn_ns nA
    exact ⟨_, kitx_exc (ox := XObj C (some d) vs) (od := od) c, ⟨hx, rfl, rfl, hod⟩, (fun z => nomatch z)⟩
theorem call_isiX {K : PySem.W.Frag} (hK : X.K = K) : CallR X (.builtin "isinstance") (rIsiX K) := by
  subst hK
  intro pins s σ H xs us Q I r h
  obtain ⟨x, t, b, ty, w, q⟩ := h
  rcases w with ⟨v, c, rfl, ec, e⟩ | ⟨p, vs, cs, rfl, ep, ec, e⟩
  · obtain ⟨u, u2, rfl, ru, rv⟩ := vals2 r
    obtain rfl := clV_of ec rv
    obtain ⟨φ, Z, hφ, hne⟩ := kit_of I ru ty
    exact PySem.W.kia_one Z I.kIn hφ e hne fun tk => ⟨.bl b, H, I.tok _, rfl, q⟩
  · obtain ⟨u, u2, rfl, ru, rv⟩ := vals2 r
    cases (show u2 = Value.ref p from rv)
    obtain ⟨φ, Z, hφ, hne⟩ := kit_of I ru ty
    obtain ⟨_, its, rt, o, h1, h2, n, h3⟩ := (show ObjOk X.prog X.w H s.heap p (.tup vs) from I.hok p _ ep)
    obtain rfl := clVs_of ec rt
    obtain ⟨oc, odd, oda, osl⟩ := o
    dsimp only at h2 h3
    subst h2 h3
    exact PySem.W.kia_tup Z I.kIn hφ h1 e hne fun tk => ⟨.bl b, H, I.tok _, rfl, q⟩
end
end L2

namespace L2
open PySem PySem.Spec PyProof.Rows
noncomputable def HasX (P : Program) (w : World) (K : PySem.W.Frag) (mg : Str → Option Value) (base : Heap) (k : Nat) (x : Str) (ps : List Str) (sp : Sp) : Prop :=
  ∃ f fd, mg x = some (.ref f) ∧ PySem.W.keepIn K (.ref f) = true ∧ Binds K fd ps [] ∧ FnOk P w K mg base (CX1 P w) k f fd ps sp
noncomputable def tCallX (sp : Sp) (R : St → XK) (t : TA) : TE := fun σ H Q => t σ H fun vs H1 => sp vs H1 Q (R σ)
theorem passN {X : Cx} (h : ∀ (e : Value) (s : Shared), X.xe e s = False) : PassX X (fun _ _ _ _ => False) := fun _ _ _ ⟨_, _, _, _, _, _, _, _, z⟩ => z.elim
section
variable {X : Cx} {k : Nat} {f C : Addr} {fd : FuncData} {ps : List Str} {sp : Sp} {R : St → XK} {x : Str} {p pos : Pos} {e : Expr} {es : List Expr} {t : TA} {pins : List (Addr × Obj)} {σ : St} {H : Hp} {s : Shared} {Q : VK} {us : List Value} {vs : List V}
theorem run_fnX (F : FnOk X.prog X.w X.K X.mg X.base (CX1 X.prog X.w) k f fd ps sp) (hr : Room k X.A) (hb : Binds X.K fd ps []) (hx : PassX X R) (I : Inv X pins σ H s) (r : Vals vs us) (h : sp vs H Q (R σ)) :
    wpAny (model X.prog X.w) X.A (call (.ref f) us) (EP X pins σ Q) X.xe s := by
  have hl : (us ++ []).length = ps.length := by rw [List.append_nil, ← r.length]; exact F.len _ _ _ _ h
  have bd := hb s us I.kIn hl
  rw [List.append_nil] at bd
  refine wpAny_call (codeAny_mono (F.run X.A X.stack s H ⟨us, []⟩ us vs Q (R σ) hr I.env0 bd r h) fun rr s' hq => ?_)
  cases rr with
  | error e => exact hx pins e s' (xe_call I hq)
  | ok fl =>
    cases fl with
    | ret u => exact I.after hq
    | next => exact False.elim hq
    | brk => exact False.elim hq
    | cont => exact False.elim hq
theorem pe_callX (F : HasX X.prog X.w X.K X.mg X.base k x ps sp) (hr : Room k X.A) (hg : Gl X x) (hx : PassX X R) (ha : PA X (e :: es) t) (hdb : (x == ("__debug__" : Str)) = false)
    (he : starEach (e :: es) X.env = (false, eval e X.env) :: starEach es X.env) (hpl : (backTo pos (starEach es X.env)).any (·.1) = false) : PE X (.Call (.Name x p) (e :: es) [] pos) (tCallX sp R t) := by
  obtain ⟨f, fd, a, b, c, d⟩ := F
  intro pins s σ H Q I h
  refine wpAny_Call_Name_kw (ld_glob I hg a ?_ hdb)
  refine PySem.W.callWith_K (h₀ := X.base) I.ok.mod.kin b (thn (ha pos pins s σ H _ I h) fun us s1 ⟨vs, H1, I1, r, q⟩ => ⟨I1.kIn, ?_⟩) he hpl
  exact run_fnX d hr c hx I1 r q
noncomputable def sFldX (K : PySem.W.Frag) (ta tv : TE) (f : Str) : TS := fun D σ H => tv σ H fun y H1 => ta σ H1 fun x H2 => ∃ a C, x = .ref a ∧ XCls K C ∧ NoAttr K C f ∧
  ((H2 a = some (excRaw a C) ∧ ∀ d, H2 d = none → d ≠ a → D.nx σ (upd (upd H2 a (excNew a C d)) d (excD d [(f, y)]))) ∨
   (∃ d fs, H2 a = some (excNew a C d) ∧ H2 d = some (excD d fs) ∧ fs.length < 1000 ∧ D.nx σ (upd H2 d (excD d (putF f y fs)))))
theorem ps_fldX {o value : Expr} {ta tv : TE} {fn : Str} {pos' : Pos} (ha : PE X o ta) (hv : PE X value tv) (hs : swapsWith value (some (.Attribute o fn pos')) pos.line X.env = pure false) : PS X (.Assign [.Attribute o fn pos'] value pos) (sFldX X.K ta tv fn) := by
  intro pins s σ H D I h
  refine plainObj_wpAny_Assign_Attribute (thn (hv pins s σ H _ I h) fun u s1 ⟨y, H1, I1, ry, q⟩ => thn (ha pins s1 σ H1 _ I1 q) fun ov s2 qq0 => ?_) hs
  obtain ⟨x, H2, I2, rx, a, C, ex, c, n, q2⟩ := qq0
  subst ex
  obtain rfl : ov = Value.ref a := rx
  rcases q2 with ⟨e, q2⟩ | ⟨d, fs, e, e2, hl, q2⟩
  · exact setx0 I2 e c n ry fun s3 d z1 z2 I3 => ⟨σ, _, I3, q2 d z1 z2⟩
  · exact setx1 I2 e e2 hl c n ry fun s3 I3 => ⟨σ, _, I3, q2⟩
noncomputable def tFldX (K : PySem.W.Frag) (ta : TE) (f : Str) : TE := fun σ H Q => ta σ H fun x H1 => ∃ a C fs v, x = .ref a ∧ IsX H1 a C fs ∧ XCls K C ∧ NoAttr K C f ∧ fs.lookup f = some v ∧ Q v H1
theorem pe_fldX {ta : TE} {fn : Str} (he : PE X e ta) (hb : attributeBase e fn X.env (eval e X.env) = eval e X.env) : PE X (.Attribute e fn pos) (tFldX X.K ta fn) := by
  intro pins s σ H Q I h
  refine attr_of hb (thn (he pins s σ H _ I h) fun u s1 qq0 => ?_)
  obtain ⟨x, H1, I1, rx, a, C, fs, v, ex, ⟨d, e1, e2⟩, c, n, l, q⟩ := qq0
  subst ex
  obtain rfl : u = Value.ref a := rx
  exact getx I1 e1 e2 c n l fun u2 s2 I2 ru => ⟨v, H1, I2, ru, q⟩
noncomputable def spInit (C : Addr) (fl : List Str) : Sp := fun vs H Q E => ∃ x ws, vs = .ref x :: ws ∧ ws.length = fl.length ∧ H x = some (excRaw x C) ∧ ∀ d, H d = none → d ≠ x → Q .non (upd (upd H x (excNew x C d)) d (excD d (fl.zip ws)))
structure XMk (P : Program) (w : World) (K : PySem.W.Frag) (mg : Str → Option Value) (base : Heap) (k : Nat) (x : Str) (C : Addr) (fl : List Str) : Prop where
  at_ : mg x = some (.ref C)
  cl : XCl K C
  kp : PySem.W.keepIn K (.ref C) = true
  na : ∀ f ∈ fl, NoAttr K C f
  run : ∃ f fd ps, PySem.W.findIn K (.ref C) "__init__" = some (some (.ref f)) ∧ PySem.W.typeIn K (.ref f) = some (.type "function") ∧ Binds K fd ps [] ∧ FnOk P w K mg base CX0 k f fd ps (spInit C fl)
noncomputable def tRaise (C : Addr) (fl : List Str) (R : St → XK) (t : TA) : TS := fun _ σ H => t σ H fun vs H1 => vs.length = fl.length ∧ vs.length ≤ sizeLine ∧ ∀ x H2, Same H1 H2 → IsX H2 x C (fl.zip vs) → R σ (.ref C) (some x) H2
theorem made_x {Q : Value → Shared → Prop} {E : Value → Shared → Prop} {fl : List Str} (M : XMk X.prog X.w X.K X.mg X.base k x C fl) (hr : Room (k + 1) X.A) (I : Inv X pins σ H s) (r : Vals vs us) (hl : vs.length = fl.length) (hz : vs.length ≤ sizeLine)
    (q : ∀ a d s', H a = none → H d = none → d ≠ a → Inv X pins σ (upd (upd (upd H a (excRaw a C)) a (excNew a C d)) d (excD d (fl.zip vs))) s' → Q (.ref a) s') : wpAny (model X.prog X.w) X.A (call (.ref C) us) Q E s := by
  obtain ⟨f, fd, ps, hi, hf, hb, F⟩ := M.run
  refine call_x I.kIn M.cl.cls.xi hi hf (by rw [← r.length]; exact hz) ?_
  have I1 : Inv X pins σ H { s with heap := s.heap.push { cls := .type "tuple", data := .seq us.toArray } } := I.kept (t' := s.toks) fun b o e => Heap.get?_push_of_some _ e
  have sz1 : (s.heap.push { cls := .type "tuple", data := .seq us.toArray }).objs.size = s.heap.objs.size + 1 := Heap.size_push _ _
  have hfr : H (s.heap.objs.size + 1) = none := I.hok.fresh (Nat.le_succ _)
  have gx : ((s.heap.push { cls := .type "tuple", data := .seq us.toArray }).push (XObj C none #[.ref s.heap.objs.size, .none, .none, .none, .bool false, .none])).get? (s.heap.objs.size + 1) = some (XObj C none #[.ref s.heap.objs.size, .none, .none, .none, .bool false, .none]) := by
    rw [← sz1]; exact Heap.get?_push_size _ rfl
  have I2 : Inv X pins σ (upd H (s.heap.objs.size + 1) (excRaw (s.heap.objs.size + 1) C)) { s with heap := (s.heap.push { cls := .type "tuple", data := .seq us.toArray }).push (XObj C none #[.ref s.heap.objs.size, .none, .none, .none, .bool false, .none]) } :=
    I1.laid (t' := s.toks) (fun b o e => Heap.get?_push_of_some _ e) (by show (s.heap.push _).objs.size ≤ _; rw [sz1]; exact Nat.le_refl _) ⟨⟨_, gx⟩, ⟨_, gx⟩, fun h1 h2 ⟨t, z⟩ kk => ⟨t, kk _ z⟩⟩
  have r2 : Vals (V.ref (s.heap.objs.size + 1) :: vs) (Value.ref (s.heap.objs.size + 1) :: us) := .cons rfl r
  have sp0 : spInit C fl (V.ref (s.heap.objs.size + 1) :: vs) (upd H (s.heap.objs.size + 1) (excRaw (s.heap.objs.size + 1) C)) (fun v H2 => v = .non ∧ ∃ d, H d = none ∧ d ≠ s.heap.objs.size + 1 ∧ H2 = upd (upd (upd H (s.heap.objs.size + 1) (excRaw (s.heap.objs.size + 1) C)) (s.heap.objs.size + 1) (excNew (s.heap.objs.size + 1) C d)) d (excD d (fl.zip vs))) E0 :=
    ⟨_, _, rfl, hl, upd_same, fun d hd ne => ⟨rfl, d, by rw [upd_ne ne] at hd; exact hd, ne, rfl⟩⟩
  have hl2 : ((Value.ref (s.heap.objs.size + 1) :: us) ++ []).length = ps.length := by rw [List.append_nil, ← r2.length]; exact F.len _ _ _ _ sp0
  have bd := hb _ (Value.ref (s.heap.objs.size + 1) :: us) I2.kIn hl2
  rw [List.append_nil] at bd
  refine wpAny_call (codeAny_mono (F.run _ X.stack _ _ ⟨Value.ref (s.heap.objs.size + 1) :: us, []⟩ (Value.ref (s.heap.objs.size + 1) :: us) _ _ E0 (hr.make C us []) (I2.env0.make C us []) bd r2 sp0) fun rr s' hq => ?_)
  cases rr with
  | error e => exact False.elim hq
  | ok fl =>
    cases fl with
    | ret u =>
      obtain ⟨v, H', I3, rv, ev, d, hd, ne, eH⟩ := I2.after hq
      subst ev
      rw [eH] at I3
      exact ⟨rv, q _ d s' hfr hd ne I3⟩
    | next => exact False.elim hq
    | brk => exact False.elim hq
    | cont => exact False.elim hq
theorem thrown {env : Env} {C : Addr} {Q : Flow → Shared → Prop} {m : Sem Value} (hc : X.calm = true) (c : XCl X.K C) (hx : PassX X R)
    (h : wpAny (model X.prog X.w) X.A m (fun v s1 => ∃ x d H1, v = .ref x ∧ Inv X pins σ H1 s1 ∧ H1 x = some (excNew x C d) ∧ R σ (.ref C) (some x) (upd H1 x (excO x C d))) X.xe s) :
    wpAny (model X.prog X.w) X.A (raiseStmt env (some m) none) Q X.xe s := by
  obtain ⟨nm, qn, N, bs, bm, sn, sub, ab, col, dd, k0, k1, k2, k3, k5, lk0, tl⟩ := xIn_of c.cls.xi
  unfold raiseStmt
  refine wpAny_bind (thn h fun v s1 qq0 => ?_)
  obtain ⟨x, d, H1, ev, I1, e1, r1⟩ := qq0
  subst ev
  have KI := I1.kIn
  obtain ⟨t, he⟩ := excNew_of I1.hok e1
  have hh : X.A.handled = none := I1.ok.hd hc
  have hcB : (Value.ref C :: bm).contains (.type "BaseException") = true := by
    rw [List.contains_cons, (tl _ KI).hasType (show VEm.contains (.type "BaseException") = true from by decide)]; rfl
  have fin : X.xe (.ref x) s1 := by
    have I2 : Inv X pins σ (upd H1 x (excO x C d)) s1 := I1.write (t' := s1.toks) (x := x) (e := x) (h' := s1.heap) (by rw [e1]; exact True.intro) (.inl rfl) (fun b o _ z => z) ⟨_, he⟩ (excO_ok he rfl)
    exact hx pins _ s1 ⟨x, C, d, σ, _, rfl, I2, ⟨upd_same, .inl ⟨_, he, rfl, rfl⟩⟩, r1⟩
  have hD := KI _ _ lk0
  obtain ⟨hp, g, dr, tk, os⟩ := s1
  unfold XObj at he
  repeat (first | with_reducible refine wpAny_loadPart_at he ?_ | with_reducible refine wpAny_loadPart_at hD ?_ | (with_reducible refine wpAny_isSubtype_exc hD ?_; rw [hcB]) | wp_step)
  exact wpAny_raiseNew_none hh fin
end
end L2

namespace L2
open PySem PySem.Spec PyProof.Rows
section
variable {X : Cx} {k : Nat} {C : Addr} {R : St → XK} {x : Str} {p cpos pos : Pos} {e : Expr} {es : List Expr} {t : TA} {fl : List Str}
theorem raised_heap {H : Hp} {a d : Addr} {vs : List V} (ha : H a = none) (hd : H d = none) (ne : d ≠ a) : Same H (upd (upd (upd (upd H a (excRaw a C)) a (excNew a C d)) d (excD d (fl.zip vs))) a (excO a C d)) ∧
    IsX (upd (upd (upd (upd H a (excRaw a C)) a (excNew a C d)) d (excD d (fl.zip vs))) a (excO a C d)) a C (fl.zip vs) := by
  refine ⟨fun b o h => ?_, d, upd_same, by rw [upd_ne ne, upd_same]⟩
  have na : b ≠ a := fun z => by rw [z, ha] at h; cases h
  have nd : b ≠ d := fun z => by rw [z, hd] at h; cases h
  rw [upd_ne na, upd_ne nd, upd_ne na, upd_ne na]
  exact h
theorem ps_raise (M : XMk X.prog X.w X.K X.mg X.base k x C fl) (hr : Room (k + 1) X.A) (hc : X.calm = true) (hg : Gl X x) (hx : PassX X R) (ha : PA X (e :: es) t) (hdb : (x == ("__debug__" : Str)) = false)
    (he : starEach (e :: es) X.env = (false, eval e X.env) :: starEach es X.env) (hpl : (backTo cpos (starEach es X.env)).any (·.1) = false) : PS X (.Raise (some (.Call (.Name x p) (e :: es) [] cpos)) none pos) (tRaise C fl R t) := by
  intro pins s σ H D I h
  rw [arm_exec_Raise]
  refine wpAny_bind (wpAny_standAt (thrown (pins := pins) (σ := σ) (C := C) hc M.cl hx (wpAny_bind (thn (Q := fun v s1 => ∃ x d H1, v = .ref x ∧ Inv X pins σ H1 s1 ∧ H1 x = some (excNew x C d) ∧ R σ (.ref C) (some x) (upd H1 x (excO x C d))) ?_ fun v s3 h3 => wpAny_bind (wpAny_standAt (wpAny_pure h3))))))
  refine wpAny_Call_Name_kw (ld_glob I hg M.at_ ?_ hdb)
  refine PySem.W.callWith_K (h₀ := X.base) I.ok.mod.kin M.kp (thn (ha cpos pins s σ H _ I h) fun us s1 ⟨vs, H1, I1, r, hl, hz, q⟩ => ⟨I1.kIn, ?_⟩) he hpl
  refine made_x M hr I1 r hl hz fun a d s2 z1 z2 ne I2 => ⟨a, d, _, rfl, I2, ?_, ?_⟩
  · rw [upd_ne (Ne.symm ne), upd_same]
  · obtain ⟨w1, w2⟩ := raised_heap (C := C) (fl := fl) (vs := vs) z1 z2 ne
    exact q a _ w1 w2
theorem PS.nox {st : Stmt} {t : TS} (h : PS X.nox st t) : PS X st t := fun pins s σ H D I hw =>
  wpAny_mono (h pins s σ H D (I.wish _) hw) (fun _ _ q => q.unwish) fun _ _ z => False.elim z
end
section
variable {X : Cx} {pins : List (Addr × Obj)} {σ σ' : St} {H : Hp} {s : Shared} {h' : Heap}
theorem Inv.reloc {t' : Nat} (I : Inv X pins σ H s) (hs : Heap.SameBut X.env.locals s.heap h') (len : σ'.length = σ.length)
    (l : ∃ m', h'.Ns X.env.locals m' ∧ ∀ (i : Nat) (x : Str) (v : V), X.N[i]? = some x → σ'[i]? = some (some v) → Vis X.env.scope x → ∃ u, RelV v u ∧ Look X.env h' m' x u) : Inv X pins σ' H { s with heap := h', toks := t' } := by
  have cne := I.cne
  obtain ⟨mm, ⟨oL, _, _, hoL, _⟩, _⟩ := id I.loc
  have away : ∀ b o, X.s₀.heap.get? b = some o → b ≠ X.env.locals := fun b o e => Nat.ne_of_lt (Nat.lt_of_lt_of_le (Heap.lt_size e) I.ok.above)
  refine ⟨I.ok, I.os, I.bare, ⟨fun b o e n hb hx => (hs.2 b (away b o e)).trans (I.base.keep b o e n hb hx), fun b o e n hb hx => ?_, I.base.free, fun b o e hx => ?_, I.base.tups, I.base.frzs, I.base.tbls⟩, l, fun y c e => ?_, I.free, I.freeC, fun q hq => ?_, fun b ob e => ?_, len.trans I.len⟩
  · obtain ⟨sl, e1⟩ := I.base.slot b o e n hb hx
    exact ⟨sl, (hs.2 b (away b o e)).trans e1⟩
  · obtain ⟨o2, e1⟩ := I.base.there b o e hx
    exact ⟨o2, (hs.2 b (away b o e)).trans e1⟩
  · obtain ⟨w2, z⟩ := I.cell y c e
    exact ⟨w2, z.sameBut hs (cne y c e)⟩
  · obtain ⟨e, n, ne, nf, d⟩ := I.pin q hq
    exact ⟨(hs.2 q.1 ne).trans e, n, ne, nf, d⟩
  · refine (I.hok b ob e).stay (fun c w2 hc q => (hs.2 c ?_).trans q) (fun _ q => q) fun _ _ q => q
    rintro rfl
    rcases hc with rfl | hc
    · rw [I.free] at e; cases e
    · rw [I.free] at hc; cases hc
theorem name_goes {A : Around} {E : Value → Shared → Prop} {i : Nat} {n : Str} {pos : Pos} {Q : Unit → Shared → Prop} (I : Inv X pins σ H s) (hN : X.N.Nodup) (hi : X.N[i]? = some n) (hl : X.env.scope.names.lookup n = some .local)
    (h : ∀ s', Inv X pins (σ.set i none) H s' → Q () s') : wpAny (model X.prog X.w) A (do bindName X.env n .none; unbindBehindTheSuite X.env n pos) Q E s := by
  have hcls : (X.env.scope.kind == .class || (X.env.scope.kind == .module && X.env.locals != X.env.globals)) = false := by rw [I.ok.kind]; rfl
  have hk : X.env.kindOf n = some .local := hl
  refine wpAny_bind (wpAny_bindName (store_ok (v := .non) I hN hi (.inl hl) rfl (fun s1 I1 => ?_) (.inr hl)))
  obtain ⟨m1, hn1, hl1⟩ := id I1.loc
  have hiσ : i < σ.length := by rw [I.len]; exact (List.getElem?_eq_some_iff.mp hi).1
  obtain ⟨u1, ru1, lk1⟩ := hl1 i n .non hi (by rw [List.getElem?_set_self hiσ]) (.inl hl)
  have m1n : m1 n = some u1 := by
    rcases lk1 with ⟨_, z⟩ | ⟨z | z, _⟩
    · exact z
    · rw [hk] at z; cases z
    · rw [hk] at z; cases z
  unfold unbindBehindTheSuite
  refine wpAny_onRaise ?_
  unfold unbindName
  refine wpAny_bind (wpAny_point (wpAny_bind ?_))
  unfold deleteName
  simp only [hk, hcls]
  rw [if_neg (by decide)]
  refine wpAny_bind (wpAny_nsDel_keeps hn1 fun h2 v2 hn2 hs2 => ?_)
  rw [m1n]
  simp only [if_true, Option.isSome_some, Bool.not_true, Bool.false_eq_true, if_false]
  refine wpAny_pure (wpAny_point (h _ (I1.reloc (t' := s1.toks) hs2 (by rw [List.length_set, List.length_set]) ⟨_, hn2, fun j y v e1 e2 e3 => ?_⟩)))
  have hj : j ≠ i := fun z => by
    subst z
    rw [List.getElem?_set_self hiσ] at e2; cases e2
  rw [List.getElem?_set_ne (Ne.symm hj)] at e2
  obtain ⟨u, r, q⟩ := hl1 j y v e1 (by rw [List.getElem?_set_ne (Ne.symm hj)]; exact e2) e3
  refine ⟨u, r, ?_⟩
  rcases q with ⟨k, z⟩ | ⟨k, c, z1, z2⟩
  · have ny : y ≠ n := fun z => hj (nodup_ix hN e1 (z ▸ hi))
    exact .inl ⟨k, by show (if y = n then v2 else m1 y) = some u; rw [if_neg ny]; exact z⟩
  · exact .inr ⟨k, c, z1, z2.sameBut hs2 (I1.cne y c z1)⟩
end
end L2

namespace L2
open PySem PySem.Spec PyProof.Rows
noncomputable abbrev Cx.sui (X : Cx) (x : Addr) : Cx := { X with A := X.A.mark (some (.ref x)), calm := false, xe := fun _ _ => False }
noncomputable abbrev Cx.bod (X : Cx) (pins : List (Addr × Obj)) (R : St → XK) : Cx := { X with pn := X.pn ++ pins, xe := XE X pins R }
section
variable {X : Cx} {pins pins' : List (Addr × Obj)} {σ : St} {H : Hp} {s : Shared} {x C d T : Addr} {R : St → XK} {D : Ends}
theorem Inv.sui (I : Inv X pins σ H s) (x : Addr) : Inv (X.sui x) pins σ H s :=
  ⟨⟨I.ok.mod, I.ok.kind, I.ok.glob, I.ok.blt, I.ok.above, I.ok.inj, I.ok.has, I.ok.cab, fun h => absurd h Bool.false_ne_true, I.ok.frames, I.ok.stk, I.ok.exf, I.ok.bs, I.ok.bsz, I.ok.noex, I.ok.exfs, I.ok.funs, I.ok.frf⟩, I.os, I.bare, I.base, I.loc, I.cell, I.free, I.freeC, I.pin, I.hok, I.len⟩
theorem Inv.unsui (ok : X.Ok) (I : Inv (X.sui x) pins σ H s) : Inv X pins σ H s := ⟨ok, I.os, I.bare, I.base, I.loc, I.cell, I.free, I.freeC, I.pin, I.hok, I.len⟩
theorem Inv.bod (I : Inv X pins σ H s) (R : St → XK) : Inv (X.bod pins R) [] σ H s :=
  ⟨⟨I.ok.mod, I.ok.kind, I.ok.glob, I.ok.blt, I.ok.above, I.ok.inj, I.ok.has, I.ok.cab, I.ok.hd, I.ok.frames, I.ok.stk, I.ok.exf, I.ok.bs, I.ok.bsz, I.ok.noex, I.ok.exfs, I.ok.funs, I.ok.frf⟩, I.os, I.bare, I.base, I.loc, I.cell, I.free, I.freeC, fun p hp => I.pin p (by simpa using hp), I.hok, I.len⟩
theorem Inv.unbod (I : Inv (X.bod pins R) pins' σ H s) : Inv X pins σ H s :=
  ⟨⟨I.ok.mod, I.ok.kind, I.ok.glob, I.ok.blt, I.ok.above, I.ok.inj, I.ok.has, I.ok.cab, I.ok.hd, I.ok.frames, I.ok.stk, I.ok.exf, I.ok.bs, I.ok.bsz, I.ok.noex, I.ok.exfs, I.ok.funs, I.ok.frf⟩, I.os, I.bare, I.base, I.loc, I.cell, I.free, I.freeC, fun p hp => I.pin p (List.mem_append_left _ hp), I.hok, I.len⟩
theorem SP.unbod {f : Flow} (h : SP (X.bod pins R) pins' D f s) : SP X pins D f s := by
  cases f with
  | next => obtain ⟨σ', H', I, q⟩ := h; exact ⟨σ', H', I.unbod, q⟩
  | brk => obtain ⟨σ', H', I, q⟩ := h; exact ⟨σ', H', I.unbod, q⟩
  | cont => obtain ⟨σ', H', I, q⟩ := h; exact ⟨σ', H', I.unbod, q⟩
  | ret u => obtain ⟨v, σ', H', I, r, q⟩ := h; exact ⟨v, σ', H', I.unbod, r, q⟩
theorem SP.unsui (ok : X.Ok) {f : Flow} (h : SP (X.sui x) pins D f s) : SP X pins D f s := by
  cases f with
  | next => obtain ⟨σ', H', I, q⟩ := h; exact ⟨σ', H', I.unsui ok, q⟩
  | brk => obtain ⟨σ', H', I, q⟩ := h; exact ⟨σ', H', I.unsui ok, q⟩
  | cont => obtain ⟨σ', H', I, q⟩ := h; exact ⟨σ', H', I.unsui ok, q⟩
  | ret u => obtain ⟨v, σ', H', I, r, q⟩ := h; exact ⟨v, σ', H', I.unsui ok, r, q⟩
theorem pass_try : PassX (X.bod pins R) R := by
  rintro pins' e s' ⟨x, C, d, σ, H', he, I, ⟨tx, F⟩, r⟩
  refine ⟨x, C, d, σ, H', he, I.unbod, ⟨tx, ?_⟩, r⟩
  rcases F with F | ⟨T, F⟩
  · exact .inl F
  · obtain ⟨a1, a2, a3, a4, a5, a6⟩ := F.fp
    exact .inr ⟨T, F.obj, F.tb, ⟨a1, a2, a3, a4, a5, fun p hp => a6 p (List.mem_append_left _ hp)⟩, F.tr⟩
theorem exc_match {A : Around} {E : Value → Shared → Prop} {P : Addr} {b : Bool} {Q : Bool → Shared → Prop} {vs : Array Value} {M : Model} {K : PySem.W.Frag} (KI : K.In s.heap) (c : XCls K C) (cP : XCls K P) (e : s.heap.get? x = some (XObj C (some d) vs)) (hm : PySem.W.mroIn K C (.ref P) = some b) (h : Q b s) :
    wpAny M A (excMatches (.ref x) (.ref P)) Q E s := by
  obtain ⟨nm, qn, N, bs, bm, sn, sub, ab, col, dd, k0, k1, k2, k3, k5, lk, tl⟩ := xIn_of c.xi
  obtain ⟨nm', qn', N', bs', bm', sn', sub', ab', col', dd', k0', k1', k2', k3', k5', lk', tl'⟩ := xIn_of cP.xi
  have hC := KI _ _ lk
  have hP := KI _ _ lk'
  have hPB : (Value.ref P :: bm').contains (.type "BaseException") = true := by
    rw [List.contains_cons, (tl' _ KI).hasType (show VEm.contains (.type "BaseException") = true from by decide)]; rfl
  have hCP : (Value.ref C :: bm).contains (.ref P) = b := by
    unfold PySem.W.mroIn PySem.W.clsIn at hm
    rw [lk] at hm
    exact Option.some.inj hm
  have f := tc_notTuple
  obtain ⟨hp, g, dr, tk, os⟩ := s
  unfold XObj at e
  unfold excMatches
  by_cases hh : P = C
  · subst hh
    have hb : b = true := by rw [← hCP]; simp
    subst hb
    rw [lk] at lk'
    cases lk'
    repeat (first | with_reducible refine wpAny_loadPart_at e ?_ | with_reducible refine wpAny_loadPart_at hC ?_ | (with_reducible refine wpAny_isSubtype_exc hC ?_; first | rw [hPB] | rw [hCP]) | wp_step)
    exact h
  · repeat (first | with_reducible refine wpAny_loadPart_at e ?_ | with_reducible refine wpAny_loadPart_at hP ?_ | (with_reducible refine wpAny_isSubtype_exc hP ?_; rw [hPB]) | (with_reducible refine wpAny_isSubtype_exc hC ?_; rw [hCP]) | wp_step)
    cases b <;> (wp_walk; exact h)
noncomputable abbrev TH := Ends → St → Addr → Addr → Hp → Prop
noncomputable def PH (X : Cx) (hs : List ExceptHandler) (th : TH) : Prop := ∀ (pins : List (Addr × Obj)) (s : Shared) (σ : St) (H : Hp) (D : Ends) (x C d T : Addr), Inv X pins σ H s → Head X pins H x C d T s.heap → th D σ x C H →
  wpAny (model X.prog X.w) X.A (handleBy (.ref x) X.env hs) (SP X pins D) X.xe s
theorem ph_nil : PH X [] (fun _ _ _ _ _ => False) := fun _ _ _ _ _ _ _ _ _ _ _ h => h.elim
noncomputable def Ends.gone (D : Ends) (i : Nat) : Ends := { nx := fun σ H => D.nx (σ.set i none) H, rt := D.rt, bk := fun σ H => D.bk (σ.set i none) H, ct := fun σ H => D.ct (σ.set i none) H }
noncomputable def hAs (K : PySem.W.Frag) (P : Addr) (i : Nat) (ts : TS) (th : TH) : TH := fun D σ x C H => ∃ b, XCls K C ∧ PySem.W.mroIn K C (.ref P) = some b ∧ if b = true then ts (D.gone i) (σ.set i (some (.ref x))) H else th D σ x C H
noncomputable def hNo (K : PySem.W.Frag) (P : Addr) (ts : TS) (th : TH) : TH := fun D σ x C H => ∃ b, XCls K C ∧ PySem.W.mroIn K C (.ref P) = some b ∧ if b = true then ts D σ H else th D σ x C H
variable {nm n : Str} {P : Addr} {i : Nat} {p pos : Pos} {b0 : Stmt} {suite : List Stmt} {ts : TS} {th : TH} {hs : List ExceptHandler}
theorem ph_as (hg : Gl X nm) (hm : X.mg nm = some (.ref P)) (cP : XCls X.K P) (hdb : (nm == ("__debug__" : Str)) = false) (hN : X.N.Nodup) (hi : X.N[i]? = some n) (hl : X.env.scope.names.lookup n = some .local)
    (hsu : ∀ x, PSs (X.sui x) (b0 :: suite) ts) (hr : PH X hs th) : PH X (.ExceptHandler (some (.Name nm p)) (some n) (b0 :: suite) pos :: hs) (hAs X.K P i ts th) := by
  rintro pins s σ H D x C d T I F ⟨b, c, mb, q⟩
  obtain ⟨vs, ex, h1⟩ := F.obj
  refine wpAny_handleBy_cons (codeAny_handlers_test (ld_glob (I.sui x) hg hm ?_ hdb)) (fun z => nomatch z)
  refine exc_match I.kIn c cP ex mb ?_
  cases b with
  | false =>
    rw [if_neg Bool.false_ne_true] at q
    exact hr pins s σ H D x C d T I F q
  | true =>
    rw [if_pos rfl] at q
    refine codeAny_handlers_suite_as ?_
    refine fly_land I F fun h2 I2 F2 => ?_
    refine store_ok (X := X.sui x) (v := .ref x) (I2.sui x) hN hi (.inl hl) rfl (fun s3 I3 => ?_) (.inr hl)
    refine wpAny_mono (hsu x pins s3 _ H (D.gone i) I3 q) (fun f s4 w => ?_) fun _ _ z => False.elim z
    cases f with
    | next => obtain ⟨σ', H', J, r⟩ := w; exact name_goes (J.unsui I.ok) hN hi hl fun s5 I5 => ⟨_, H', I5, r⟩
    | brk => obtain ⟨σ', H', J, r⟩ := w; exact name_goes (J.unsui I.ok) hN hi hl fun s5 I5 => ⟨_, H', I5, r⟩
    | cont => obtain ⟨σ', H', J, r⟩ := w; exact name_goes (J.unsui I.ok) hN hi hl fun s5 I5 => ⟨_, H', I5, r⟩
    | ret u => obtain ⟨v, σ', H', J, rv, r⟩ := w; exact name_goes (J.unsui I.ok) hN hi hl fun s5 I5 => ⟨v, _, H', I5, rv, r⟩
theorem ph_no (hg : Gl X nm) (hm : X.mg nm = some (.ref P)) (cP : XCls X.K P) (hdb : (nm == ("__debug__" : Str)) = false) (hsu : ∀ x, PSs (X.sui x) (b0 :: suite) ts) (hr : PH X hs th) :
    PH X (.ExceptHandler (some (.Name nm p)) none (b0 :: suite) pos :: hs) (hNo X.K P ts th) := by
  rintro pins s σ H D x C d T I F ⟨b, c, mb, q⟩
  obtain ⟨vs, ex, h1⟩ := F.obj
  refine wpAny_handleBy_cons (codeAny_handlers_test (ld_glob (I.sui x) hg hm ?_ hdb)) (fun z => nomatch z)
  refine exc_match I.kIn c cP ex mb ?_
  cases b with
  | false =>
    rw [if_neg Bool.false_ne_true] at q
    exact hr pins s σ H D x C d T I F q
  | true =>
    rw [if_pos rfl] at q
    refine codeAny_handlers_suite ?_
    refine fly_land I F fun h2 I2 F2 => ?_
    exact wpAny_mono (hsu x pins _ _ H D (I2.sui x) q) (fun f s4 w => w.unsui I.ok) fun _ _ z => False.elim z
noncomputable def tTry (tb : (St → XK) → TS) (th : TH) : TS := fun D σ H => tb (fun σ' c x H' => ∃ C a, c = .ref C ∧ x = some a ∧ th D σ' a C H') D σ H
theorem ps_try {body : List Stmt} {h0 : ExceptHandler} {tb : (St → XK) → TS} (hst : X.stack = X.env :: X.outer) (hfr : X.env.frame = some X.env.locals) (hb : ∀ (pins : List (Addr × Obj)) (R : St → XK), PSs (X.bod pins R) body (tb R)) (hh : PH X (h0 :: hs) th) :
    PS X (.Try body (h0 :: hs) [] [] pos) (tTry tb th) := by
  intro pins s σ H D I h
  refine wpAny_Try_except (wpAny_mono (hb pins _ [] s σ H D (I.bod _) h) (fun f s1 q => ?_) fun e s1 q => ?_)
  · have q' := q.unbod
    cases f with
    | next => exact wpAny_execs_nil q'
    | brk => exact q'
    | cont => exact q'
    | ret u => exact q'
  · obtain ⟨x, C, d, σ', H', rfl, I1, F1, C', a', eC, ea, r⟩ := q
    cases eC
    cases ea
    refine fly_note I1 hst hfr I1.ok.frames F1 fun h2 T I2 F2 => ?_
    refine fly_land I2 F2 fun h3 I3 F3 => ?_
    exact hh pins _ σ' H' D x C d T I3 F3 r
end
end L2

namespace L2
open PySem PySem.Spec PyProof.Rows
noncomputable def clsA (mg : Str → Option Value) (x : Str) : Addr := match mg x with
  | some (.ref a) => a
  | _ => 0
theorem clsA_of {mg : Str → Option Value} {x : Str} {C : Addr} (h : mg x = some (.ref C)) : clsA mg x = C := by unfold clsA; rw [h]
structure CTxt (K : PySem.W.Frag) (mg : Str → Option Value) (x : Str) : Prop where
  at_ : mg x = some (.ref (clsA mg x))
  cl : XCl K (clsA mg x)
theorem ct_mk {K : PySem.W.Frag} {mg : Str → Option Value} {h : Heap} (X : K.In h) (G : h.Ns mainGlobals mg) {x : Str} {C : Addr} (a : PySem.W.nsIn K mainGlobals x = some (some (.ref C))) (b : xclIn K C = true) : CTxt K mg x := by
  have m := PySem.W.mg_of X G a
  have e := clsA_of m
  exact ⟨by rw [e]; exact m, by rw [e]; exact xclIn_of b⟩
structure XTxt (K : PySem.W.Frag) (mg : Str → Option Value) (x : Str) (fl : List Str) (qual : Str) (st : Stmt) : Prop where
  c : CTxt K mg x
  kp : PySem.W.keepIn K (.ref (clsA mg x)) = true
  na : ∀ f ∈ fl, NoAttr K (clsA mg x) f
  ini : ∃ f fd, PySem.W.findIn K (.ref (clsA mg x)) "__init__" = some (some (.ref f)) ∧ PySem.W.typeIn K (.ref f) = some (.type "function") ∧ Fun K "__init__" qual st f fd
noncomputable def noneOf (K : PySem.W.Frag) (C : Addr) (fl : List Str) : Bool := fl.all fun n => PySem.W.findIn K (.ref C) n == some none
theorem xt_mk {K : PySem.W.Frag} {mg : Str → Option Value} {h : Heap} (X : K.In h) (G : h.Ns mainGlobals mg) {x qual : Str} {C f : Addr} {fl : List Str} {st : Stmt} {oc : Value} {od an : Option Addr} {osl : Array (Option Value)} {kV doc pm cdv ct : Value}
    (a : PySem.W.nsIn K mainGlobals x = some (some (.ref C))) (b : xclIn K C = true) (kp : PySem.W.keepIn K (.ref C) = true) (na : noneOf K C fl = true)
    (i : PySem.W.findIn K (.ref C) "__init__" = some (some (.ref f))) (t : PySem.W.typeIn K (.ref f) = some (.type "function"))
    (l : K.lookup f = some ⟨oc, od, .func (PySem.W.fnOf "__init__" qual (defArgs st) (defBody st) (defScope st) .none kV doc pm an cdv ct), osl⟩) (c : PySem.W.codeIn K cdv qual = true) (k : PySem.W.keepIn K (.ref f) = true) : XTxt K mg x fl qual st := by
  have m := PySem.W.mg_of X G a
  have e := clsA_of m
  refine ⟨ct_mk X G a b, by rw [e]; exact kp, fun n hn => ?_, f, _, by rw [e]; exact i, t, fun_mk l c k⟩
  rw [e]
  have := List.all_eq_true.mp na n hn
  exact beq_iff_eq.mp this
structure Sub (K : PySem.W.Frag) (mg : Str → Option Value) (x y : Str) (b : Bool) : Prop where
  mro : PySem.W.mroIn K (clsA mg x) (.ref (clsA mg y)) = some b
  one : PySem.W.kitOne K (.ref (clsA mg x)) (.ref (clsA mg y)) = some b
theorem sub_mk {K : PySem.W.Frag} {mg : Str → Option Value} {h : Heap} (X : K.In h) (G : h.Ns mainGlobals mg) {x y : Str} {C P : Addr} {r : Bool} (a : PySem.W.nsIn K mainGlobals x = some (some (.ref C))) (b : PySem.W.nsIn K mainGlobals y = some (some (.ref P)))
    (m : PySem.W.mroIn K C (.ref P) = some r) (o : PySem.W.kitOne K (.ref C) (.ref P) = some r) : Sub K mg x y r := by
  have e := clsA_of (PySem.W.mg_of X G a)
  have e2 := clsA_of (PySem.W.mg_of X G b)
  exact ⟨by rw [e, e2]; exact m, by rw [e, e2]; exact o⟩
theorem subT_mk {K : PySem.W.Frag} {mg : Str → Option Value} {h : Heap} (X : K.In h) (G : h.Ns mainGlobals mg) {x : Str} {T : String} {C : Addr} {r : Bool} (a : PySem.W.nsIn K mainGlobals x = some (some (.ref C)))
    (o : PySem.W.kitOne K (.ref C) (.type T) = some r) : PySem.W.kitOne K (.ref (clsA mg x)) (.type T) = some r := by
  rw [clsA_of (PySem.W.mg_of X G a)]; exact o
structure JH (X : Cx) (hs : List ExceptHandler) (th : TH) : Prop where
  run : PH X hs th
section
variable {X : Cx} {K : PySem.W.Frag} {k : Nat} {x n fn : Str} {ps : List Str} {sp : Sp} {R : St → XK} {p pos cpos pos' : Pos} {e o value : Expr} {es : List Expr} {t : TA} {ta tv : TE} {st : Stmt} {u ts : TS} {th : TH} {hs : List ExceptHandler} {i : Nat}
theorem j_callX (F : HasX X.prog X.w X.K X.mg X.base k x ps sp) (hr : Room k X.A) (hg : Gl X x) (hx : PassX X R) (ha : JA X (e :: es) t) (hdb : (x == ("__debug__" : Str)) = false) (h : autoParam ((e :: es).all notStar = true) L2.auto4._auto_1) :
    JE X (.Call (.Name x p) (e :: es) [] pos) (tCallX sp R t) := by
  have h1 : notStar e = true := by simp only [List.all_cons, Bool.and_eq_true] at h; exact h.1
  have h2 : es.all notStar = true := by simp only [List.all_cons, Bool.and_eq_true] at h; exact h.2
  exact ⟨pe_callX F hr hg hx ha.run hdb (se_cons h1) (se_any h2)⟩
theorem js_nox (h : JS X.nox st u) : JS X st u := ⟨h.run.nox⟩
theorem j_cls {C : Addr} (hg : Gl X x) (hm : X.mg x = some (.ref C)) (hd : (x == ("__debug__" : Str)) = false) : JE X (.Name x pos) (tC (.ref C)) := ⟨pe_glob hg hm rfl hd⟩
theorem j_fldX (hK : X.K = K) (he : JE X e ta) (h : autoParam (notCall e = true) L2.auto4._auto_1) : JE X (.Attribute e fn pos) (tFldX K ta fn) := by
  subst hK
  exact ⟨pe_fldX he.run (by cases e <;> first | rfl | cases h)⟩
theorem js_fldX (hK : X.K = K) (ha : JE X o ta) (hv : JE X value tv) (h : autoParam (notComp value = true) L2.auto4._auto_1) : JS X (.Assign [.Attribute o fn pos'] value pos) (sFldX K ta tv fn) := by
  subst hK
  exact ⟨ps_fldX ha.run hv.run (sw_no h)⟩
theorem js_raise {fl : List Str} (M : XMk X.prog X.w X.K X.mg X.base k x (clsA X.mg x) fl) (hr : Room (k + 1) X.A) (hc : X.calm = true) (hg : Gl X x) (hx : PassX X R) (ha : JA X (e :: es) t) (hdb : (x == ("__debug__" : Str)) = false) (h : autoParam ((e :: es).all notStar = true) L2.auto4._auto_1) :
    JS X (.Raise (some (.Call (.Name x p) (e :: es) [] cpos)) none pos) (tRaise (clsA X.mg x) fl R t) := by
  have h1 : notStar e = true := by simp only [List.all_cons, Bool.and_eq_true] at h; exact h.1
  have h2 : es.all notStar = true := by simp only [List.all_cons, Bool.and_eq_true] at h; exact h.2
  exact ⟨ps_raise M hr hc hg hx ha.run hdb (se_cons h1) (se_any h2)⟩
theorem jh_nil : JH X [] (fun _ _ _ _ _ => False) := ⟨ph_nil⟩
theorem jh_as {b0 : Stmt} {suite : List Stmt} (hK : X.K = K) (c : CTxt K X.mg x) (hg : Gl X x) (hdb : (x == ("__debug__" : Str)) = false) (hN : X.N.Nodup) (hi : X.N[i]? = some n) (hl : X.env.scope.names.lookup n = some .local)
    (hsu : ∀ x, JB (X.sui x) (b0 :: suite) ts) (hr : JH X hs th) : JH X (.ExceptHandler (some (.Name x p)) (some n) (b0 :: suite) pos :: hs) (hAs K (clsA X.mg x) i ts th) := by
  subst hK
  exact ⟨ph_as hg c.at_ c.cl.cls hdb hN hi hl (fun x => (hsu x).run) hr.run⟩
theorem jh_no {b0 : Stmt} {suite : List Stmt} (hK : X.K = K) (c : CTxt K X.mg x) (hg : Gl X x) (hdb : (x == ("__debug__" : Str)) = false)
    (hsu : ∀ x, JB (X.sui x) (b0 :: suite) ts) (hr : JH X hs th) : JH X (.ExceptHandler (some (.Name x p)) none (b0 :: suite) pos :: hs) (hNo K (clsA X.mg x) ts th) := by
  subst hK
  exact ⟨ph_no hg c.at_ c.cl.cls hdb (fun x => (hsu x).run) hr.run⟩
theorem js_try {body : List Stmt} {h0 : ExceptHandler} {tb : (St → XK) → TS} (hst : X.stack = X.env :: X.outer) (hfr : X.env.frame = some X.env.locals) (hb : ∀ (pins : List (Addr × Obj)) (R : St → XK), JB (X.bod pins R) body (tb R)) (hh : JH X (h0 :: hs) th) :
    JS X (.Try body (h0 :: hs) [] [] pos) (tTry tb th) := ⟨ps_try hst hfr (fun pins R => (hb pins R).run) hh.run⟩
end
section
variable {P : Program} {w : World} {K : PySem.W.Frag} {mg : Str → Option Value} {base : Heap}
theorem hasJX {x : Str} {st : Stmt} {N ps : List Str} {k : Nat} {sp : Sp} (D : Def K mg x st) (S : FnScope N ps (defScope st))
    (hb : ∀ (kV doc pm : Value) (an : Option Addr) (cdv ct : Value) (us : List Value), us.length = ps.length → bindArgs (PySem.W.fnOf x x (defArgs st) (defBody st) (defScope st) .none kV doc pm an cdv ct) ⟨us, []⟩ = pure (ps.zip us))
    (len : ∀ vs H Q E, sp vs H Q E → vs.length = ps.length)
    (hbody : ∀ (f : Addr) (cdv : Value) (A : Around) (outer : List Env) (s : Shared) (H : Hp) (vs : List V) (Q : VK) (E : XK), Room k (A.deeper (envOfC x (defScope st) s.heap.objs.size f cdv)) → sp vs H Q E →
      ∃ t, JB (cxOf (CX1 P w) P w K mg base N x (defScope st) f cdv A outer s H E) (defBody st) t ∧ t { nx := fun _ H' => Q .non H', rt := Q } (start N vs) H) : HasX P w K mg base (k + 1) x ps sp := by
  obtain ⟨f, fd, F, hm⟩ := D
  refine ⟨f, fd, hm, F.kp, F.binds hb, ?_⟩
  obtain ⟨oc, od, kV, doc, pm, an, cdv, ct, osl, rfl, lk, hcd⟩ := F.ex
  exact fn_of lk hcd S len fun A outer s H vs Q E hr h => let ⟨t, j, q⟩ := hbody f cdv A outer s H vs Q E hr h; ⟨t, j.run, q⟩
theorem mkX {x qual : Str} {st : Stmt} {N ps : List Str} {fl : List Str} {k : Nat} (D : XTxt K mg x fl qual st) (S : FnScope N ps (defScope st))
    (hb : ∀ (kV doc pm : Value) (an : Option Addr) (cdv ct : Value) (us : List Value), us.length = ps.length → bindArgs (PySem.W.fnOf "__init__" qual (defArgs st) (defBody st) (defScope st) .none kV doc pm an cdv ct) ⟨us, []⟩ = pure (ps.zip us))
    (hl : ps.length = fl.length + 1)
    (hbody : ∀ (f : Addr) (cdv : Value) (A : Around) (outer : List Env) (s : Shared) (H : Hp) (vs : List V) (Q : VK) (E : XK), Room k (A.deeper (envOfC qual (defScope st) s.heap.objs.size f cdv)) → spInit (clsA mg x) fl vs H Q E →
      ∃ t, JB (cxOf CX0 P w K mg base N qual (defScope st) f cdv A outer s H E).nox (defBody st) t ∧ t { nx := fun _ H' => Q .non H', rt := Q } (start N vs) H) : XMk P w K mg base (k + 1) x (clsA mg x) fl := by
  obtain ⟨f, fd, a, b, F⟩ := D.ini
  refine ⟨D.c.at_, D.c.cl, D.kp, D.na, f, fd, ps, a, b, F.binds hb, F.ok S (fun vs H Q E h => ?_) fun cdv A outer s H vs Q E hr h => let ⟨t, j, q⟩ := hbody f cdv A outer s H vs Q E hr h; ⟨t, j.run, q⟩⟩
  obtain ⟨y, ws, rfl, hw, _⟩ := h
  rw [List.length_cons, hw, hl]
end
end L2

namespace L2
open PySem PySem.Spec PyProof.Rows
noncomputable def initOf : Stmt → Stmt
  | .ClassDef _ _ _ (s :: _) _ _ _ _ _ _ _ => s
  | s => s
section
variable {σ : St} {H : Hp} {D : Ends} {Q : VK} {sp : Sp} {R : St → XK} {a : TA} {K : PySem.W.Frag} {C P : Addr} {fl : List Str} {th : TH} {ts : TS} {i : Nat} {ta : TE} {f : Str}
theorem r_callX (h : a σ H fun vs H1 => sp vs H1 Q (R σ)) : tCallX sp R a σ H Q := h
theorem r_try {tb : (St → XK) → TS} (h : tb (fun σ' c x H' => ∃ C a, c = .ref C ∧ x = some a ∧ th D σ' a C H') D σ H) : tTry tb th D σ H := h
theorem r_raise (h : a σ H fun vs H1 => vs.length = fl.length ∧ vs.length ≤ sizeLine ∧ ∀ x H2, Same H1 H2 → IsX H2 x C (fl.zip vs) → R σ (.ref C) (some x) H2) : tRaise C fl R a D σ H := h
theorem r_fldX (h : ta σ H fun x H1 => ∃ a C fs v, x = .ref a ∧ IsX H1 a C fs ∧ XCls K C ∧ NoAttr K C f ∧ fs.lookup f = some v ∧ Q v H1) : tFldX K ta f σ H Q := h
theorem r_asT {x C : Addr} (c : XCls K C) (m : PySem.W.mroIn K C (.ref P) = some true) (h : ts (D.gone i) (σ.set i (some (.ref x))) H) : hAs K P i ts th D σ x C H := ⟨true, c, m, by rw [if_pos rfl]; exact h⟩
theorem r_gone (h : D.nx (σ.set i none) H) : (D.gone i).nx σ H := h
theorem r_isiE {x C : Addr} {v : V} {c : Value} {fs : List (Str × V)} {b : Bool} (ex : IsX H x C fs) (cl : XCl K C) (e : clV v = some c) (o : PySem.W.kitOne K (.ref C) c = some b) (h : Q (.bl b) H) : rIsiX K [.ref x, v] H Q :=
  ⟨.ref x, .ref C, b, .inr ⟨x, C, fs, rfl, ex, cl, rfl⟩, .inl ⟨v, c, rfl, e, o⟩, h⟩
theorem r_isiET {x C p : Addr} {vs : List V} {cs : List Value} {fs : List (Str × V)} {b : Bool} (ex : IsX H x C fs) (cl : XCl K C) (hp : H p = some (.tup vs)) (e : clVs vs = some cs) (o : PySem.W.kitAny K (.ref C) cs = some b) (h : Q (.bl b) H) : rIsiX K [.ref x, .ref p] H Q :=
  ⟨.ref x, .ref C, b, .inr ⟨x, C, fs, rfl, ex, cl, rfl⟩, .inr ⟨p, vs, cs, rfl, hp, e, o⟩, h⟩
theorem rd1 {f1 p0 p1 : Str} {vs : List V} {E : XK} (c : XCls K C) (n : NoAttr K C f1) (h : spInit C [f1] vs H Q E) : sFldX K (tVar 0) (tVar 1) f1 { nx := fun _ H' => Q .non H', rt := Q } (start [p0, p1] vs) H := by
  obtain ⟨x, ws, rfl, hw, hx, q⟩ := h
  match ws, hw with
  | [v], _ => exact ⟨v, rfl, .ref x, rfl, x, C, rfl, c, n, .inl ⟨hx, fun d hd ne => q d hd ne⟩⟩
theorem rd2 {f1 f2 p0 p1 p2 : Str} {vs : List V} {E : XK} (c : XCls K C) (n : NoAttr K C f1) (n2 : NoAttr K C f2) (ne : f1 ≠ f2) (h : spInit C [f1, f2] vs H Q E) :
    tSeq (sFldX K (tVar 0) (tVar 1) f1) (sFldX K (tVar 0) (tVar 2) f2) { nx := fun _ H' => Q .non H', rt := Q } (start [p0, p1, p2] vs) H := by
  obtain ⟨x, ws, rfl, hw, hx, q⟩ := h
  match ws, hw with
  | [v, u], _ =>
    refine ⟨v, rfl, .ref x, rfl, x, C, rfl, c, n, .inl ⟨hx, fun d hd nd => ?_⟩⟩
    refine ⟨u, rfl, .ref x, rfl, x, C, rfl, c, n2, .inr ⟨d, [(f1, v)], ?_, upd_same, by show 1 < 1000; decide, ?_⟩⟩
    · rw [upd_ne (Ne.symm nd), upd_same]
    · rw [upd_upd]
      have e : putF f2 u [(f1, v)] = [(f1, v), (f2, u)] := by
        show (if f1 = f2 then _ else _) = _
        rw [if_neg ne]
        rfl
      rw [e]
      exact q d hd nd
end
theorem IsX.same {H H' : Hp} {x C : Addr} {fs : List (Str × V)} (h : IsX H x C fs) (s : Same H H') : IsX H' x C fs := let ⟨d, a, b⟩ := h; ⟨d, s _ _ a, s _ _ b⟩
end L2

namespace L2
open PySem PySem.Spec PyProof.Rows
section
variable {X : Cx} {tg : Expr}
end
section
variable {σ : St} {H : Hp} {Q : VK}
end
section
variable {X : Cx} {e : Expr} {te : TE} {lo hi : Option Expr} {st : Expr} {tl th ts : TO} {pos p2 : Pos}
end
section
variable {σ : St} {H : Hp} {Q : VK} {te : TE}
end
noncomputable def rEqI (K : PySem.W.Frag) (neg : Bool) : R2 := fun x y H Q => ∃ a b xs, x = .ref a ∧ y = .ref b ∧ SqL K H a xs ∧ SqL K H b xs ∧ (∀ v ∈ xs, flatV v = true ∨ ∃ r, v = .ref r) ∧ Q (.bl (!neg)) H
theorem eqV_refl {v : V} (f : flatV v = true) : eqV v v = true := by
  cases v <;> first | (cases f; done) | rfl | (simp [eqV])
section
variable {X : Cx}
theorem op_eqI (hu : X.A.units < cLine) : OpR X (compareOp .Eq) (rEqI X.K false) := by
  intro pins s σ H x y v u Q I rx ry h
  obtain ⟨a, b, xs, rfl, rfl, ha, hb, fx, q⟩ := h
  cases rx
  cases ry
  obtain ⟨its, r1, p1, z1⟩ := I.list ha
  obtain ⟨jts, r2, p2, z2⟩ := I.list hb
  have l1 : its.toArray.size = xs.length := by simpa using r1.length.symm
  have l2 : jts.toArray.size = xs.length := by simpa using r2.length.symm
  refine SeqAt.eq_listAt (e := fun _ => true) p1.isList p2.isList (by rw [l1, l2]) hu (fun j h1 h2 => ?_) ?_
  · have hj : j < xs.length := by omega
    obtain ⟨u1, e1, q1⟩ := r1.get (List.getElem?_eq_getElem hj)
    obtain ⟨u2, e2, q2⟩ := r2.get (List.getElem?_eq_getElem hj)
    have f1 : its.toArray[j] = u1 := by
      obtain ⟨_, z⟩ := List.getElem?_eq_some_iff.mp e1
      simpa using z
    have f2 : jts.toArray[j] = u2 := by
      obtain ⟨_, z⟩ := List.getElem?_eq_some_iff.mp e2
      simpa using z
    rw [f1, f2]
    rcases fx _ (List.getElem_mem hj) with f | ⟨r, f⟩
    · rw [← eqV_refl f]
      exact eqAt_V q1 q2 f f
    · rw [f] at q1 q2
      cases (show u1 = Value.ref r from q1)
      cases (show u2 = Value.ref r from q2)
      exact SeqAt.EqAt.same _
  · have e : (List.range its.toArray.size).all (fun _ => true) = true := by simp
    rw [e]
    exact ⟨.bl true, H, I, rfl, q⟩
noncomputable def rEqC (K : PySem.W.Frag) : R2 := fun x y H Q => rEqB K x y H Q ∨ rEqI K false x y H Q
theorem op_eqC {K : PySem.W.Frag} (hK : X.K = K) (hu : X.A.units + 64 < cLine) : OpR X (compareOp .Eq) (rEqC K) := by
  subst hK
  exact (op_eqX rfl hu).or (op_eqI (Nat.lt_of_le_of_lt (Nat.le_add_right _ _) hu))
end
section
variable {H : Hp} {Q : VK} {K : PySem.W.Frag}
theorem r_eqCI {i j : Int} (h : Q (.bl (decide (V.int i = V.int j))) H) : rEqC K (.int i) (.int j) H Q := .inl (r_eqBI h)
theorem r_eqCS {i j : Str} (h : Q (.bl (decide (V.str i = V.str j))) H) : rEqC K (.str i) (.str j) H Q := .inl (r_eqBS h)
theorem r_eqId {a b : Addr} {xs : List V} (h1 : SqL K H a xs) (h2 : SqL K H b xs) (f : ∀ v ∈ xs, flatV v = true ∨ ∃ r, v = .ref r) (h : Q (.bl true) H) : rEqC K (.ref a) (.ref b) H Q := .inr ⟨a, b, xs, rfl, rfl, h1, h2, f, h⟩
end
end L2

namespace L2
open PySem PySem.Spec PyProof.Rows
open AutoSeq1 (wpAny_loadPart')
theorem dd_sub : isSubtype (.type "dict") (.type "dict") = pure true := by rw [isSubtype_type]; kernel_rfl
theorem dict_self {prog : Program} {w : World} {A : Around} {E : Value → Shared → Prop} {s : Shared} {Q : Value → Shared → Prop} {a : Addr} {o : Obj} {e : DictEntry} {ep : Nat} {k : Key} (ho : s.heap.get? a = some o) (hc : o.cls = .type "dict") (hd : o.data = .dict #[e] ep)
    (hkey : (mixKind prog w).is k e.key = true) (hh : e.hash = (mixKind prog w).hash k) (hsm : (a == sysModules) = false) (hu : A.units < cLine) (h : Q (.bool true) s) : wpAny (model prog w) A (compareOp .Eq (.ref a) (.ref a)) Q E s := by
  show wpAny _ _ (richCompare .Eq (.ref a) (.ref a)) _ _ _
  refine wpAny_richCompare_same_room ⟨o, ho, hc⟩ ⟨o, ho, hc⟩ F.slot_dict_eq (wpAny_call (codeAny_call_builtin F.slot_dict_eq.plain F.entry_dict_eq (F.slot_dict_eq.check _ _ _ _ _ _ _ _ ⟨o, ho, hc⟩ (F.args_dict_eq_2 _ _) ?_))) hu
  have ko : KeysOf (mixKind prog w) #[e] := fun x hx => by
    simp at hx
    subst hx
    exact ⟨k, hkey, hh⟩
  have f2 := dd_sub
  obtain ⟨hp, g, d, tk, os⟩ := s
  have hT : (⟨hp, g, d, tk, os⟩ : Shared).TypeIs (.ref a) "dict" := ⟨_, ho, hc⟩
  unfold Builtin.«dict.__eq__»
  wp_walk using wpAny_loadPart' ho
  have en : ∀ (Q : Array DictEntry → Shared → Prop) (E : Value → Shared → Prop), Q #[e] ⟨hp, g, d, tk, os⟩ → wpAny (model prog w) A.in1 (dictEntries a) Q E ⟨hp, g, d, tk, os⟩ := fun Q E q => by
    unfold dictEntries
    refine wpAny_bind (wpAny_loadPart ho ?_)
    simp only [hd]
    exact wpAny_pure q
  have eo : ∀ (Q : Nat → Shared → Prop) (E : Value → Shared → Prop), Q ep ⟨hp, g, d, tk, os⟩ → wpAny (model prog w) A.in1 (dictEpoch a) Q E ⟨hp, g, d, tk, os⟩ := fun Q E q => by
    unfold dictEpoch
    refine wpAny_bind (wpAny_loadPart ho ?_)
    simp only [hd]
    exact wpAny_pure q
  simp only [hd]
  refine wpAny_pure ?_
  refine wpAny_bind (en _ _ ?_)
  rw [if_neg (by simp)]
  refine wpAny_bind (eo _ _ ?_)
  refine wpAny_bind ?_
  rw [Std.Legacy.Range.forIn_eq_forIn_range']
  simp only [Std.Legacy.Range.size, Nat.sub_zero, Nat.add_sub_cancel, Nat.div_one]
  show wpAny _ _ (forIn [0] _ _) _ _ _
  rw [List.forIn_cons]
  refine wpAny_bind (wpAny_bind (en _ _ ?_))
  show wpAny _ _ (holding [e.key, e.val] _ >>= _) _ _ _
  refine wpAny_bind (wpAny_holding ?_)
  refine wpAny_bind (show wpAny (model prog w) A.in1 (dictFind a e.key e.hash) _ _ _ from ?_)
  rw [hh]
  refine wpAny_dictFind_of hkey ho hd ko ?_
  have fi : (#[e] : Array DictEntry).findIdx? (fun e => (mixKind prog w).is k e.key) = some 0 := by simp [hkey]
  rw [fi]
  refine wpAny_bind (en _ _ ?_)
  show wpAny _ _ (holding [e.val] (eqBool e.val e.val)) _ _ _
  refine wpAny_holding (SeqAt.EqAt.same e.val prog w _ _ ?_)
  rw [if_neg (by simp)]
  refine wpAny_bind (eo _ _ ?_)
  rw [if_neg (by simp)]
  refine wpAny_pure ?_
  show wpAny _ _ (forIn [] _ _) _ _ _
  rw [List.forIn_nil]
  refine wpAny_pure (wpAny_pure ?_)
  exact wpAny_pure ⟨(fun z => nomatch z), h⟩
section
variable {X : Cx}
noncomputable def rEqTI (K : PySem.W.Frag) : R2 := fun x y H Q => ∃ a b xs, x = .ref a ∧ y = .ref b ∧ SqT K H a xs ∧ SqT K H b xs ∧ (∀ v ∈ xs, flatV v = true ∨ ∃ r, v = .ref r) ∧ Q (.bl true) H
theorem op_eqTI (hu : X.A.units < cLine) : OpR X (compareOp .Eq) (rEqTI X.K) := by
  intro pins s σ H x y v u Q I rx ry h
  obtain ⟨a, b, xs, rfl, rfl, ha, hb, fx, q⟩ := h
  cases rx
  cases ry
  obtain ⟨its, r1, p1, z1⟩ := I.tuple ha
  obtain ⟨jts, r2, p2, z2⟩ := I.tuple hb
  have l1 : its.toArray.size = xs.length := by simpa using r1.length.symm
  have l2 : jts.toArray.size = xs.length := by simpa using r2.length.symm
  refine SeqAt.eq_tupleAt (e := fun _ => true) p1 p2 hu (fun j h1 h2 => ?_) ?_
  · have hj : j < xs.length := by omega
    obtain ⟨u1, e1, q1⟩ := r1.get (List.getElem?_eq_getElem hj)
    obtain ⟨u2, e2, q2⟩ := r2.get (List.getElem?_eq_getElem hj)
    have f1 : its.toArray[j] = u1 := by
      obtain ⟨_, z⟩ := List.getElem?_eq_some_iff.mp e1
      simpa using z
    have f2 : jts.toArray[j] = u2 := by
      obtain ⟨_, z⟩ := List.getElem?_eq_some_iff.mp e2
      simpa using z
    rw [f1, f2]
    rcases fx _ (List.getElem_mem hj) with f | ⟨r, f⟩
    · rw [← eqV_refl f]
      exact eqAt_V q1 q2 f f
    · rw [f] at q1 q2
      cases (show u1 = Value.ref r from q1)
      cases (show u2 = Value.ref r from q2)
      exact SeqAt.EqAt.same _
  · have e : ((List.range (min its.toArray.size jts.toArray.size)).all (fun _ => true) && its.toArray.size == jts.toArray.size) = true := by rw [l1, l2]; simp
    rw [e]
    exact ⟨.bl true, H, I, rfl, q⟩
noncomputable def rEqDI : R2 := fun x y H Q => ∃ a k v, x = .ref a ∧ y = .ref a ∧ H a = some (.dK [(k, v)]) ∧ Q (.bl true) H
theorem op_eqDI (hu : X.A.units < cLine) : OpR X (compareOp .Eq) rEqDI := by
  intro pins s σ H x y v u Q I rx ry h
  obtain ⟨a, k, z, rfl, rfl, ha, q⟩ := h
  cases rx
  cases ry
  obtain ⟨_, hsm, vs, kv, o, es, ep, h1, h2, h3, h4, h5, h6⟩ := (show ObjOk X.prog X.w H s.heap a (.dK [(k, z)]) from I.hok a _ ha)
  cases kv with
  | cons a1 a2 =>
    cases a2
    obtain ⟨l⟩ := es
    dsimp only at h5
    cases h5 with
    | @cons en _ _ _ p1 p2 p3 =>
      cases p3
      obtain ⟨k', b1, b2⟩ := h4 en (by simp)
      exact dict_self (e := en) h1 h2.1 h3 b1 b2 hsm hu ⟨.bl true, H, I, rfl, q⟩
noncomputable def rEqE (K : PySem.W.Frag) : R2 := fun x y H Q => rEqC K x y H Q ∨ rEqTI K x y H Q ∨ rEqDI x y H Q
theorem op_eqE {K : PySem.W.Frag} (hK : X.K = K) (hu : X.A.units + 64 < cLine) : OpR X (compareOp .Eq) (rEqE K) := by
  subst hK
  exact (op_eqC rfl hu).or ((op_eqTI (Nat.lt_of_le_of_lt (Nat.le_add_right _ _) hu)).or (op_eqDI (Nat.lt_of_le_of_lt (Nat.le_add_right _ _) hu)))
end
theorem comp_tup {sub : List (Option Nat)} {g : TG} {tt : TT} {te : TE} {σ : St} {Q : VK} {H : Hp} {K : PySem.W.Frag} {a : Addr} {xs : List V} (Pv : Nat → List V → Hp → Prop) (hn : xs.length ≤ sizeLine) (h0 : Pv 0 [] H) (hl : ∀ i ys H, Pv i ys H → ys.length ≤ i)
    (hq : ∀ i ys H, Pv i ys H → SqT K H a xs)
    (hs : ∀ i ys H x, xs[i]? = some x → Pv i ys H → g x (subSt sub σ) H fun σ2 H2 => KeepSt (subSt sub σ) σ2 ∧ tt σ2 H2 fun b H3 => if b = true then te σ2 H3 fun y H4 => Pv (i + 1) (ys ++ [y]) H4 else Pv (i + 1) ys H3)
    (hd : ∀ ys H, Pv xs.length ys H → ∀ D, H D = none → Q (.ref D) (upd H D (.lst ys))) : CompR sub g tt te σ Q (Itt K a) H :=
  comp_by (n := xs.length) Pv hn h0 hl (fun i ys H hi p => ⟨xs, xs[i], hq i ys H p, List.getElem?_eq_getElem hi⟩) (fun ys H p => ⟨xs, hq _ ys H p, Nat.le_refl _⟩) (fun i ys H x H' hi p y => by
    obtain ⟨rfl, e2⟩ := y
    exact hs i ys _ x (e2 xs (hq i ys _ p)) p) hd
section
variable {H : Hp} {Q : VK} {K : PySem.W.Frag}
theorem r_chain {σ : St} {r r' : R2} {ta tb tc : TE} (h : ta σ H fun x H1 => tb σ H1 fun y H2 => r x y H2 fun z H3 => ∃ k, z = .bl k ∧ if k = true then tc σ H3 fun w H4 => r' y w H4 Q else Q (.bl false) H3) : tChain r r' ta tb tc σ H Q := h
theorem r_eqEI {i j : Int} (h : Q (.bl (decide (V.int i = V.int j))) H) : rEqE K (.int i) (.int j) H Q := .inl (r_eqCI h)
theorem r_eqES {i j : Str} (h : Q (.bl (decide (V.str i = V.str j))) H) : rEqE K (.str i) (.str j) H Q := .inl (r_eqCS h)
end
end L2

namespace L2
open PySem PySem.Spec PyProof.Rows PySem.SeqAt
theorem strExt {a b : Str} (h : a.cps.toList = b.cps.toList) : a = b := by
  obtain ⟨⟨a⟩⟩ := a
  obtain ⟨⟨b⟩⟩ := b
  simp at h
  rw [h]
theorem cps_append (a b : Str) : (a ++ b).cps.toList = a.cps.toList ++ b.cps.toList := by
  show (a.cps ++ b.cps).toList = _
  rw [Array.toList_append]
theorem sliceIx (lo hi : Option Int) (n : Nat) : Builtin.Str.strSliceIndices lo hi 1 n = (List.range (HT.sIx n n hi - HT.sIx n 0 lo)).map fun k => HT.sIx n 0 lo + k := by
  have c : ∀ (i : Int) (d : Nat), max 0 (min (if i < 0 then i + (n : Int) else i) (n : Int)) = ((HT.sIx n d (some i) : Nat) : Int) := by
    intro i d
    rw [← HT.clip_eq]
    split <;> omega
  have key : ∀ a b : Nat, (List.range (if (a : Int) < (b : Int) then ((b : Int) - a + 1 - 1) / 1 else 0).toNat).map (fun k : Nat => ((a : Int) + 1 * (k : Int)).toNat) = (List.range (b - a)).map fun k => a + k := by
    intro a b
    have e3 : (if (a : Int) < (b : Int) then ((b : Int) - a + 1 - 1) / 1 else 0).toNat = b - a := by split <;> omega
    rw [e3]
    refine List.map_congr_left fun k _ => ?_
    omega
  unfold Builtin.Str.strSliceIndices sliceRange
  simp only [show (1 : Int) > 0 by decide, if_true]
  cases lo with
  | none =>
    cases hi with
    | none => exact key 0 n
    | some j => rw [← key, ← c j n]; rfl
  | some i =>
    cases hi with
    | none => rw [← key, ← c i 0]; rfl
    | some j => rw [← key, ← c i 0, ← c j n]
theorem fmMap {α β : Type} {f : α → Option β} {g : α → β} : ∀ (l : List α), (∀ k ∈ l, f k = some (g k)) → l.filterMap f = l.map g
  | [], _ => rfl
  | k :: l, h => by rw [List.filterMap_cons, h k (by simp), List.map_cons, fmMap l fun j hj => h j (List.mem_cons_of_mem _ hj)]
theorem pickRange (l : List Nat) (a m : Nat) (h : a + m ≤ l.length) : ((List.range m).map fun k => a + k).filterMap (fun i => l[i]?) = (l.drop a).take m := by
  rw [List.filterMap_map, fmMap (g := fun k => l.getD (a + k) 0)]
  · refine List.ext_getElem? fun i => ?_
    rw [List.getElem?_map, List.getElem?_take]
    by_cases hi : i < m
    · rw [if_pos hi, List.getElem?_range hi, List.getElem?_drop, List.getElem?_eq_getElem (by omega)]
      simp [List.getElem?_eq_getElem (show a + i < l.length by omega)]
    · rw [if_neg hi, List.getElem?_eq_none (by simp; omega)]; rfl
  · intro k hk
    have hk := List.mem_range.mp hk
    show l[a + k]? = _
    rw [List.getD_eq_getElem?_getD, List.getElem?_eq_getElem (by omega)]; rfl
theorem slice_cps (z : Str) (lo hi : Option Int) : (Txt.slice z lo hi).cps.toList = (z.cps.toList.drop (HT.sIx z.length 0 lo)).take (HT.sIx z.length z.length hi - HT.sIx z.length 0 lo) := by
  have hn : z.cps.toList.length = z.length := by simp [Str.length]
  have la := HT.sIx_le z.length 0 (Nat.zero_le _) lo
  have lb := HT.sIx_le z.length z.length (Nat.le_refl _) hi
  unfold Txt.slice
  rw [sliceIx]
  generalize HT.sIx z.length 0 lo = a at la ⊢
  generalize HT.sIx z.length z.length hi = b at lb ⊢
  split
  · rename_i h
    simp at h
    have ha : a = 0 := by
      rcases Nat.eq_zero_or_pos z.length with h0 | h0
      · omega
      · omega
    subst ha
    rw [List.drop_zero, List.take_of_length_le (by omega)]
  · show List.filterMap (fun x => z.cps[x]?) _ = _
    have e : (fun x : Nat => z.cps[x]?) = fun x => z.cps.toList[x]? := by funext x; simp
    rw [e]
    by_cases h : a ≤ b
    · exact pickRange _ a (b - a) (by omega)
    · rw [show b - a = 0 by omega]; simp
theorem slice_to (z : Str) (k : Nat) : (Txt.slice z none (some (k : Int))).cps.toList = z.cps.toList.take k := by
  rw [slice_cps, HT.sIx_none, HT.sIx_nat, List.drop_zero, Nat.sub_zero]
  have hn : z.cps.toList.length = z.length := by simp [Str.length]
  by_cases h : k ≤ z.length
  · rw [Nat.min_eq_left h]
  · rw [Nat.min_eq_right (by omega), List.take_of_length_le (by omega), List.take_of_length_le (by omega)]
theorem slice_from (z : Str) (k : Nat) : (Txt.slice z (some (k : Int)) none).cps.toList = z.cps.toList.drop k := by
  rw [slice_cps, HT.sIx_none, HT.sIx_nat]
  have hn : z.cps.toList.length = z.length := by simp [Str.length]
  by_cases h : k ≤ z.length
  · rw [Nat.min_eq_left h, List.take_of_length_le (by rw [List.length_drop]; omega)]
  · rw [Nat.min_eq_right (by omega), List.drop_eq_nil_of_le (by omega), List.drop_eq_nil_of_le (by omega)]; simp
theorem DRs_strs {H : Hp} : ∀ (ss : List Str), DRs H (ss.map PyData.str) (ss.map V.str)
  | [] => DRs_nil.mpr rfl
  | n :: ns => DRs_cons.mpr ⟨_, _, rfl, DR_str.mpr rfl, DRs_strs ns⟩
theorem strs_DRs {H : Hp} : ∀ {ss : List Str} {vs : List V}, DRs H (ss.map PyData.str) vs → vs = ss.map V.str
  | [], _, h => by rw [List.map_nil, DRs_nil] at h; exact h
  | s :: ss, _, h => by
    rw [List.map_cons, DRs_cons] at h
    obtain ⟨v, r, rfl, h1, h2⟩ := h
    rw [DR_str.mp h1, strs_DRs h2]; rfl
theorem layAll {n : Nat} : ∀ {ds : List PyData}, (∀ d ∈ ds, d.canLay0 = true ∧ d.depth ≤ n) → PyData.canLayAll0 ds = true ∧ PyData.depthAll ds ≤ n
  | [], _ => ⟨rfl, by simp [PyData.depthAll]⟩
  | d :: ds, h => by
    obtain ⟨a, b⟩ := layAll fun e he => h e (List.mem_cons_of_mem _ he)
    obtain ⟨c, e⟩ := h d (by simp)
    rw [PyData.canLayAll0, PyData.depthAll, a, c]
    exact ⟨rfl, by omega⟩
theorem lay_list {n : Nat} {ds : List PyData} (h : ∀ d ∈ ds, d.canLay0 = true ∧ d.depth ≤ n) : (PyData.list ds).canLay0 = true ∧ (PyData.list ds).depth ≤ n + 1 := by
  obtain ⟨a, b⟩ := layAll h
  rw [PyData.canLay0, PyData.depth]
  exact ⟨a, by omega⟩
theorem lay_tuple {n : Nat} {ds : List PyData} (h : ∀ d ∈ ds, d.canLay0 = true ∧ d.depth ≤ n) : (PyData.tuple ds).canLay0 = true ∧ (PyData.tuple ds).depth ≤ n + 1 := by
  obtain ⟨a, b⟩ := layAll h
  rw [PyData.canLay0, PyData.depth]
  exact ⟨a, by omega⟩
theorem lay_str {s : Str} (h : PyData.strOk s = true) : (PyData.str s).canLay0 = true ∧ (PyData.str s).depth ≤ 0 := by
  rw [PyData.canLay0, PyData.depth]
  exact ⟨h, Nat.le_refl _⟩
theorem lay_shaped {d : PyData} {n : Nat} (h : d.canLay0 = true ∧ d.depth ≤ n) (hn : n ≤ 64) : shaped d = true := by
  unfold shaped
  rw [h.1, decide_eq_true (by omega)]; rfl
theorem r_new {xs : List V} {H : Hp} {R : Addr → Prop} (c : Nat.ble xs.length 64 = true) (h : ∀ p, H p = none → R p) : xs.length ≤ sizeLine ∧ ∀ p, H p = none → R p :=
  ⟨Nat.le_trans (Nat.le_of_ble_eq_true c) (by decide), h⟩
theorem iteNT {A B : Prop} (h : A) : if (!false) = true then A else B := (if_pos (show (!false) = true from rfl)).mpr h
theorem iteNF {A B : Prop} (h : B) : if (!true) = true then A else B := by rw [if_neg (by simp)]; exact h
theorem r_cut {t u : TS} {D : Ends} {σ : St} {H : Hp} (M : St → Hp → Prop) (h1 : ∀ σ H, M σ H → u D σ H) (h2 : ∀ N, (∀ σ H, M σ H → N σ H) → t { D with nx := N } σ H) : tSeq t u D σ H := h2 _ h1
end L2

namespace L2
open PySem PySem.Spec PyProof.Rows PySem.SeqAt
open AutoSeq1 (wpAny_loadPart')
section
variable {X : Cx}
end
theorem dict_selfN {prog : Program} {w : World} {A : Around} {E : Value → Shared → Prop} {s : Shared} {Q : Value → Shared → Prop} {a : Addr} {o : Obj} {e : DictEntry} {ep : Nat} {k : Key} (ho : s.heap.get? a = some o) (hc : o.cls = .type "dict") (hd : o.data = .dict #[e] ep)
    (hkey : (mixKind prog w).is k e.key = true) (hh : e.hash = (mixKind prog w).hash k) (hsm : (a == sysModules) = false) (hu : A.units < cLine) (h : Q (.bool false) s) : wpAny (model prog w) A (compareOp .NotEq (.ref a) (.ref a)) Q E s := by
  show wpAny _ _ (richCompare .NotEq (.ref a) (.ref a)) _ _ _
  refine wpAny_richCompare_same_room ⟨o, ho, hc⟩ ⟨o, ho, hc⟩ F.slot_dict_ne (wpAny_call (codeAny_call_builtin F.slot_dict_ne.plain F.entry_dict_ne (F.slot_dict_ne.check _ _ _ _ _ _ _ _ ⟨o, ho, hc⟩ (F.args_dict_ne_2 _ _) ?_))) hu
  have ko : KeysOf (mixKind prog w) #[e] := fun x hx => by
    simp at hx
    subst hx
    exact ⟨k, hkey, hh⟩
  have f2 := dd_sub
  obtain ⟨hp, g, d, tk, os⟩ := s
  have hT : (⟨hp, g, d, tk, os⟩ : Shared).TypeIs (.ref a) "dict" := ⟨_, ho, hc⟩
  unfold Builtin.«dict.__ne__»
  wp_walk using wpAny_loadPart' ho
  have en : ∀ (Q : Array DictEntry → Shared → Prop) (E : Value → Shared → Prop), Q #[e] ⟨hp, g, d, tk, os⟩ → wpAny (model prog w) A.in1 (dictEntries a) Q E ⟨hp, g, d, tk, os⟩ := fun Q E q => by
    unfold dictEntries
    refine wpAny_bind (wpAny_loadPart ho ?_)
    simp only [hd]
    exact wpAny_pure q
  have eo : ∀ (Q : Nat → Shared → Prop) (E : Value → Shared → Prop), Q ep ⟨hp, g, d, tk, os⟩ → wpAny (model prog w) A.in1 (dictEpoch a) Q E ⟨hp, g, d, tk, os⟩ := fun Q E q => by
    unfold dictEpoch
    refine wpAny_bind (wpAny_loadPart ho ?_)
    simp only [hd]
    exact wpAny_pure q
  simp only [hd]
  refine wpAny_pure ?_
  refine wpAny_bind (en _ _ ?_)
  rw [if_neg (by simp)]
  refine wpAny_bind (eo _ _ ?_)
  refine wpAny_bind ?_
  rw [Std.Legacy.Range.forIn_eq_forIn_range']
  simp only [Std.Legacy.Range.size, Nat.sub_zero, Nat.add_sub_cancel, Nat.div_one]
  show wpAny _ _ (forIn [0] _ _) _ _ _
  rw [List.forIn_cons]
  refine wpAny_bind (wpAny_bind (en _ _ ?_))
  show wpAny _ _ (holding [e.key, e.val] _ >>= _) _ _ _
  refine wpAny_bind (wpAny_holding ?_)
  refine wpAny_bind (show wpAny (model prog w) A.in1 (dictFind a e.key e.hash) _ _ _ from ?_)
  rw [hh]
  refine wpAny_dictFind_of hkey ho hd ko ?_
  have fi : (#[e] : Array DictEntry).findIdx? (fun e => (mixKind prog w).is k e.key) = some 0 := by simp [hkey]
  rw [fi]
  refine wpAny_bind (en _ _ ?_)
  show wpAny _ _ (holding [e.val] (eqBool e.val e.val)) _ _ _
  refine wpAny_holding (SeqAt.EqAt.same e.val prog w _ _ ?_)
  rw [if_neg (by simp)]
  refine wpAny_bind (eo _ _ ?_)
  rw [if_neg (by simp)]
  refine wpAny_pure ?_
  show wpAny _ _ (forIn [] _ _) _ _ _
  rw [List.forIn_nil]
  refine wpAny_pure (wpAny_pure ?_)
  exact wpAny_pure ⟨(fun z => nomatch z), h⟩
theorem dict_selfN0 {prog : Program} {w : World} {A : Around} {E : Value → Shared → Prop} {s : Shared} {Q : Value → Shared → Prop} {a : Addr} {o : Obj} {ep : Nat} (ho : s.heap.get? a = some o) (hc : o.cls = .type "dict") (hd : o.data = .dict #[] ep)
    (hsm : (a == sysModules) = false) (hu : A.units < cLine) (h : Q (.bool false) s) : wpAny (model prog w) A (compareOp .NotEq (.ref a) (.ref a)) Q E s := by
  show wpAny _ _ (richCompare .NotEq (.ref a) (.ref a)) _ _ _
  refine wpAny_richCompare_same_room ⟨o, ho, hc⟩ ⟨o, ho, hc⟩ F.slot_dict_ne (wpAny_call (codeAny_call_builtin F.slot_dict_ne.plain F.entry_dict_ne (F.slot_dict_ne.check _ _ _ _ _ _ _ _ ⟨o, ho, hc⟩ (F.args_dict_ne_2 _ _) ?_))) hu
  have f2 := dd_sub
  obtain ⟨hp, g, d, tk, os⟩ := s
  have hT : (⟨hp, g, d, tk, os⟩ : Shared).TypeIs (.ref a) "dict" := ⟨_, ho, hc⟩
  unfold Builtin.«dict.__ne__»
  wp_walk using wpAny_loadPart' ho
  have en : ∀ (Q : Array DictEntry → Shared → Prop) (E : Value → Shared → Prop), Q #[] ⟨hp, g, d, tk, os⟩ → wpAny (model prog w) A.in1 (dictEntries a) Q E ⟨hp, g, d, tk, os⟩ := fun Q E q => by
    unfold dictEntries
    refine wpAny_bind (wpAny_loadPart ho ?_)
    simp only [hd]
    exact wpAny_pure q
  have eo : ∀ (Q : Nat → Shared → Prop) (E : Value → Shared → Prop), Q ep ⟨hp, g, d, tk, os⟩ → wpAny (model prog w) A.in1 (dictEpoch a) Q E ⟨hp, g, d, tk, os⟩ := fun Q E q => by
    unfold dictEpoch
    refine wpAny_bind (wpAny_loadPart ho ?_)
    simp only [hd]
    exact wpAny_pure q
  simp only [hd]
  refine wpAny_pure ?_
  refine wpAny_bind (en _ _ ?_)
  rw [if_neg (by simp)]
  refine wpAny_bind (eo _ _ ?_)
  refine wpAny_bind ?_
  rw [Std.Legacy.Range.forIn_eq_forIn_range']
  simp only [Std.Legacy.Range.size, Nat.sub_zero, Nat.add_sub_cancel, Nat.div_one]
  show wpAny _ _ (forIn [] _ _) _ _ _
  rw [List.forIn_nil]
  refine wpAny_pure (wpAny_pure ?_)
  exact wpAny_pure ⟨(fun z => nomatch z), h⟩
noncomputable def rNeDI : R2 := fun x y H Q => ∃ a kvs, x = .ref a ∧ y = .ref a ∧ H a = some (.dK kvs) ∧ kvs.length ≤ 1 ∧ Q (.bl false) H
section
variable {X : Cx}
theorem op_neDI (hu : X.A.units < cLine) : OpR X (compareOp .NotEq) rNeDI := by
  intro pins s σ H x y v u Q I rx ry h
  obtain ⟨a, kvs, rfl, rfl, ha, hl, q⟩ := h
  cases rx
  cases ry
  obtain ⟨_, hsm, vs, kv, o, es, ep, h1, h2, h3, h4, h5, h6⟩ := (show ObjOk X.prog X.w H s.heap a (.dK kvs) from I.hok a _ ha)
  match kvs, hl with
  | [], _ =>
    cases kv
    obtain ⟨l⟩ := es
    dsimp only at h5
    cases h5
    exact dict_selfN0 h1 h2.1 h3 hsm hu ⟨.bl false, H, I, rfl, q⟩
  | [(k, z)], _ =>
    cases kv with
    | cons a1 a2 =>
      cases a2
      obtain ⟨l⟩ := es
      dsimp only at h5
      cases h5 with
      | @cons en _ _ _ p1 p2 p3 =>
        cases p3
        obtain ⟨k', b1, b2⟩ := h4 en (by simp)
        exact dict_selfN (e := en) h1 h2.1 h3 b1 b2 hsm hu ⟨.bl false, H, I, rfl, q⟩
noncomputable def rNeE (K : PySem.W.Frag) : R2 := fun x y H Q => rNeB K x y H Q ∨ rNeDI x y H Q
theorem op_neE {K : PySem.W.Frag} (hK : X.K = K) (hu : X.A.units + 64 < cLine) : OpR X (compareOp .NotEq) (rNeE K) := (op_neX hK hu).or (op_neDI (Nat.lt_of_le_of_lt (Nat.le_add_right _ _) hu))
end
section
variable {H : Hp} {Q : VK} {K : PySem.W.Frag} {σ : St} {D : Ends}
theorem r_neES {i j : Str} (h : Q (.bl (!decide (V.str i = V.str j))) H) : rNeE K (.str i) (.str j) H Q := .inl (r_neBS h)
end
end L2

namespace L2
open PySem PySem.Spec PyProof.Rows
section
variable {X : Cx}
end
section
variable {σ : St} {H : Hp} {Q : VK} {D : Ends}
end
end L2

namespace L2
open PySem PySem.Spec PyProof.Rows
section
variable {X : Cx}
end
section
variable {X : Cx}
end
section
variable {σ : St} {H : Hp} {Q : VK} {K : PySem.W.Frag}
end
end L2

namespace L2
open PySem PySem.Spec PyProof.Rows
section
variable {X : Cx}
end
end L2

namespace L2
open PySem PySem.Spec PyProof.Rows
open PySem.Sem (wp)
open PySem.AutoSeq1 (wpAny_loadPart')
section
variable {prog : Program} {w : World} {A : Around} {E : Value → Shared → Prop} {s : Shared}
end
end L2

namespace L2
open PySem PySem.Spec PyProof.Rows
section
variable {K : PySem.W.Frag} {σ : St} {H : Hp}
end
noncomputable def pick3V (xs : List V) (lo hi : Option Int) (c : Int) : List V :=
  (sliceRange (sliceBounds lo hi (some c) xs.length).1 (sliceBounds lo hi (some c) xs.length).2.1 (sliceBounds lo hi (some c) xs.length).2.2).filterMap (xs[·]?)
theorem Vals.places {xs : List V} {us : List Value} (h : Vals xs us) : ∀ ps : List Nat, Vals (ps.filterMap (xs[·]?)) (ps.filterMap (us[·]?))
  | [] => .nil
  | p :: ps => by
    have ih := Vals.places h ps
    have hl := h.length
    rw [List.filterMap_cons, List.filterMap_cons]
    cases e : xs[p]? with
    | none =>
      have : us[p]? = none := by rw [List.getElem?_eq_none_iff] at e ⊢; omega
      rw [this]
      exact ih
    | some x =>
      obtain ⟨u, hu, r⟩ := h.get e
      rw [hu]
      exact .cons r ih
noncomputable def tSl3L (K : PySem.W.Frag) (te : TE) (tl th ts : TO) : TE := fun σ H Q => te σ H fun x H1 => tl σ H1 fun l H2 => th σ H2 fun u H3 => ts σ H3 fun c H4 => ∃ a xs c', x = .ref a ∧ c = some c' ∧ c' ≠ 0 ∧ SqL K H4 a xs ∧ (pick3V xs l u c').length ≤ sizeLine ∧ ∀ q, H4 q = none → Q (.ref q) (upd H4 q (.lst (pick3V xs l u c')))
section
variable {X : Cx} {e : Expr} {te : TE} {lo hi : Option Expr} {st : Expr} {tl th ts : TO} {pos p2 : Pos}
theorem j_slice3L {K : PySem.W.Frag} (hK : X.K = K) (he : JE X e te) (hl : JO X lo tl) (hu : JO X hi th) (hs : JO X (some st) ts) : JE X (.Subscript e (.Slice lo hi (some st) p2) pos) (tSl3L K te tl th ts) := ⟨by
  subst hK
  intro pins s σ H Q I h
  refine Subscript_ (thn (he.run pins s σ H _ I h) fun v s1 qq0 => ?_)
  obtain ⟨x, H1, I1, r1, q1⟩ := qq0
  refine wpAny_Slice (thn (hl.run pins s1 σ H1 _ I1 q1) fun vl s2 ⟨l, H2, I2, pl, q2⟩ => thn (hu.run pins s2 σ H2 _ I2 q2) fun vu s3 ⟨u, H3, I3, pu, q3⟩ => thn (hs.run pins s3 σ H3 _ I3 q3) fun vc s4 qq0 => ?_)
  obtain ⟨c, H4, I4, pc, q4⟩ := qq0
  obtain ⟨a, xs, c', rfl, rfl, hc0, hq, hz, q⟩ := q4
  cases r1
  have I5 : Inv X pins σ H4 { s4 with heap := s4.heap.push { cls := .type "slice", data := .fields #[vl, vu, vc] } } := I4.kept (t' := s4.toks) fun b ob q => Heap.get?_push_of_some _ q
  obtain ⟨its, rv, p, hz2⟩ := I5.list hq
  have hlen : its.toArray.size = xs.length := by rw [List.size_toArray]; exact rv.length.symm
  show wpAny (model X.prog X.w) X.A (subscriptTail e (.Slice lo hi (some st) p2) (.ref a) (.ref s4.heap.objs.size)) (EP X pins σ Q) X.xe _
  refine tail_any (T := "list") (ops := [.ref a, .ref s4.heap.objs.size]) p.isList.typeIs list_getitem_lookup ?_ (by with_unfolding_all rfl)
  refine wpAny_getItem_list_slice p.isList (Heap.IsSliceOf.new ..) pl pu pc (fun z => hc0 (Option.some.inj z)) ?_ (by rw [hlen]; exact hz2)
  refine ⟨.ref _, _, I5.laid (t' := s4.toks) (o := .lst (pick3V xs l u c')) (fun b ob q => Heap.get?_push_of_some _ q) (Nat.le_refl _) ?_, rfl, q _ (I5.hok.fresh (Nat.le_refl _))⟩
  have e1 : slicePick its.toArray l u (some c') = ((sliceRange (sliceBounds l u (some c') xs.length).1 (sliceBounds l u (some c') xs.length).2.1 (sliceBounds l u (some c') xs.length).2.2).filterMap (its[·]?)).toArray := by
    unfold slicePick
    rw [hlen]
    simp
  rw [e1]
  exact ⟨hz, _, 0, rv.places _, Heap.get?_push_size _ rfl⟩⟩
end
theorem r_sl3L {K : PySem.W.Frag} {σ : St} {H : Hp} {Q : VK} {te : TE} {tl th ts : TO} (h : te σ H fun x H1 => tl σ H1 fun l H2 => th σ H2 fun u H3 => ts σ H3 fun c H4 => ∃ a xs c', x = .ref a ∧ c = some c' ∧ c' ≠ 0 ∧ SqL K H4 a xs ∧ (pick3V xs l u c').length ≤ sizeLine ∧ ∀ q, H4 q = none → Q (.ref q) (upd H4 q (.lst (pick3V xs l u c')))) : tSl3L K te tl th ts σ H Q := h
end L2

namespace L2
open PySem PySem.Spec PyProof.Rows
end L2

namespace L2
open PySem PySem.Spec PyProof.Rows
open PySem.Sem (wp)
open PySem.AutoSeq1 (wpAny_loadPart')
section
variable {prog : Program} {w : World} {A : Around} {E : Value → Shared → Prop} {s : Shared}
end
end L2

namespace L2
open PySem PySem.Spec PyProof.Rows
section
variable {prog : Program} {w : World} {A : Around} {E : Value → Shared → Prop} {s : Shared}
end
end L2

namespace L2
open PySem PySem.Spec PyProof.Rows
section
variable {K : PySem.W.Frag} {σ : St} {H : Hp}
end
end L2

namespace L2
open PySem PySem.Spec PyProof.Rows
structure Sml (d : PyData) : Prop where
  sh : d.showable = true
  dp : d.depth ≤ 58
  lv : d.leavesShort 60 = true
  bk : d.bulk ≤ 10000
end L2

namespace L2
open PySem PySem.Spec PyProof.Rows
open PySem.Sem (wp)
section
variable {X : Cx} {pos : Pos} {σ : St} {H : Hp} {Q : VK} {K : PySem.W.Frag}
end
end L2

namespace L2
open PySem PySem.Spec PyProof.Rows
end L2

namespace L2
open PySem PySem.Spec PyProof.Rows
structure RoomU (k : Nat) (A : Around) : Prop where
  dp : A.depth + 3 * k + 5 < recursionLimit
  un : A.units + 16 * k + 200 < cLine
  gd : A.guards = some []
theorem RoomU.of {k : Nat} {A : Around} {v : Option Value} (r : Room k A) : RoomU k (A.mark v) := ⟨r.dp, r.un, r.gd⟩
theorem RoomU.deeper {k : Nat} {A : Around} (r : RoomU (k + 1) A) (env : Env) : RoomU k (A.deeper env) :=
  ⟨by have := r.dp; show A.depth + 1 + 3 * k + 5 < _; omega, by have := r.un; show A.units + 3 + 16 * k + 200 < _; omega, r.gd⟩
theorem RoomU.depth {k : Nat} {A : Around} (r : RoomU k A) : A.depth < recursionLimit := by have := r.dp; omega
theorem RoomU.units0 {k : Nat} {A : Around} (r : RoomU k A) : A.units < cLine := by have := r.un; omega
theorem RoomU.units {k : Nat} {A : Around} (r : RoomU k A) : A.units + 64 < cLine := by have := r.un; omega
noncomputable def cxU (P : Program) (w : World) (K : PySem.W.Frag) (mg : Str → Option Value) (base : Heap) (N : List Str) (qual : Str) (scope : Scope) (f : Addr) (cd : Value) (A : Around) (outer : List Env) (s : Shared) (H : Hp) (E : XK) : Cx :=
  { cxOf CX0 P w K mg base N qual scope f cd A outer s H E with calm := false, xe := fun _ _ => False }
theorem inv_startU {P : Program} {w : World} {K : PySem.W.Frag} {mg : Str → Option Value} {base : Heap} {N ps : List Str} {qual : Str} {scope : Scope} {f : Addr} {cd : Value} {A : Around} {outer : List Env} {s s1 : Shared} {H : Hp} {E : XK} {vs : List V} {us : List Value}
    (S : FnScope N ps scope) (e0 : Env0 P w K mg base A outer s H) (hl : vs.length = ps.length) (r : Vals vs us)
    (x : InCallC s s.heap.objs.size (bindL (envOfC qual scope s.heap.objs.size f cd).kindOf (ps.zip us) fun _ => none) (cellsFrom (s.heap.objs.size + 1) scope.names []) (bindC (envOfC qual scope s.heap.objs.size f cd).kindOf (ps.zip us) fun _ => none) s1) :
    Inv (cxU P w K mg base N qual scope f cd A outer s H E) [] (start N vs) H s1 := by
  have e1 : Env0 P w K mg base { A with handled := none } outer s H := ⟨e0.frames, e0.mod, e0.bs, e0.bsz, e0.funs, e0.frf, e0.hok, e0.bare⟩
  have I := inv_start (CX := CX0) (A := { A with handled := none }) (E := E) (f := f) (cd := cd) (qual := qual) S rfl e1 hl r x
  exact ⟨⟨I.ok.mod, I.ok.kind, I.ok.glob, I.ok.blt, I.ok.above, I.ok.inj, I.ok.has, I.ok.cab, fun z => (nomatch z), Around.frames_deeper e0.frames, I.ok.stk, I.ok.exf, I.ok.bs, I.ok.bsz, I.ok.noex, I.ok.exfs, I.ok.funs, I.ok.frf⟩,
    I.os, I.bare, I.base, I.loc, I.cell, I.free, I.freeC, I.pin, I.hok, I.len⟩
structure FnU (P : Program) (w : World) (K : PySem.W.Frag) (mg : Str → Option Value) (base : Heap) (k : Nat) (f : Addr) (fd : FuncData) (ps : List Str) (sp : Sp) : Prop where
  len : ∀ vs H Q E, sp vs H Q E → vs.length = ps.length
  run : ∀ (A : Around) (outer : List Env) (s : Shared) (H : Hp) (args : Args) (us : List Value) (vs : List V) (Q : VK) (E : XK), RoomU k A → Env0 P w K mg base A outer s H → BindsTo s fd args (ps.zip us) → Vals vs us → sp vs H Q E →
    codeAny (model P w) A (.call (.ref f) args) (CR CX0 outer P w H s Q E) s
end L2

namespace L2
open PySem PySem.Spec PyProof.Rows
section
variable {prog : Program} {w : World} {A : Around} {E : Value → Shared → Prop} {s : Shared} {K : PySem.W.Frag} {x C : Addr} {ox : Obj} {od : Option Obj}
end
section
variable {prog : Program} {w : World} {A : Around} {K : PySem.W.Frag} {D : Addr} {E : Value → Shared → Prop}
end
structure X0 (K : PySem.W.Frag) (mg : Str → Option Value) (x : Str) : Prop where
  c : CTxt K mg x
  ini : PySem.W.findIn K (.ref (clsA mg x)) "__init__" = some (some (.builtin "ValueError.__init__"))
  kp : PySem.W.keepIn K (.ref (clsA mg x)) = true
section
variable {X : Cx} {x : Str} {p pos : Pos} {e : Expr} {es : List Expr} {t : TA}
end
end L2

namespace L2
open PySem PySem.Spec PyProof.Rows
open PySem.Sem (wp)
structure ZApart (z TI TO i1 i2 : Addr) (fp1 fp2 : List Addr) : Prop where
  TIz : TI ≠ z
  TOz : TO ≠ z
  i1z : i1 ≠ z
  i2z : i2 ≠ z
  TITO : TI ≠ TO
  TIi1 : TI ≠ i1
  TIi2 : TI ≠ i2
  TOi1 : TO ≠ i1
  TOi2 : TO ≠ i2
  i12 : i1 ≠ i2
  f1 : ∀ b ∈ fp1, b ≠ z ∧ b ≠ TO ∧ b ≠ i2
  f2 : ∀ b ∈ fp2, b ≠ z ∧ b ≠ TO ∧ b ≠ i1
section
variable {prog : Program} {w : World} {A : Around} {E : Value → Shared → Prop} {s : Shared} {z TI TO i1 i2 : Addr} {fp1 fp2 : List Addr} {n1 n2 k1 k2 : Nat} {P1 P2 : Nat → Value → Prop} {St1 St2 : Nat → Heap → Prop} {a b : Value}
end
end L2

namespace L2
open PySem PySem.Spec PyProof.Rows
open PySem.Sem (wp)
section
variable {σ : St} {H : Hp} {K : PySem.W.Frag}
end
end L2

namespace L2
open PySem PySem.Spec PyProof.Rows
open PySem.Sem (wp)
open AutoSeq1 (wpAny_loadPart')
section
variable {X : Cx}
end
section
variable {H : Hp} {Q : VK} {K : PySem.W.Frag}
end
end L2

namespace L2
open PySem PySem.W PySem.Spec PyProof.Rows
section
variable {g : Nat → Int} {N : Nat}
end
end L2

namespace L2
open PySem PySem.W PySem.Spec PyProof.Rows
section
variable {prog : Program} {w : World} {A : Around} {E : Value → Shared → Prop} {s : Shared}
end
end L2

namespace L2
open PySem PySem.W PySem.Spec PyProof.Rows
section
variable {prog : Program} {w : World} {A : Around} {E : Value → Shared → Prop} {s : Shared}
end
section
variable {X : Cx}
end
section
variable {H : Hp} {Q : VK}
end
end L2

namespace L2
open PySem PySem.Spec PyProof.Rows
open PySem.Sem (wp)
noncomputable abbrev IsZipG (h : Heap) (z TI TO : Addr) (f0 f1 : Value) : Prop :=
  h.get? z = some { cls := .type "zip", dict := none, data := .fields #[f0, f1, .bool false, .ref TI, .ref TO], slots := #[] }
noncomputable def OwnV (f0 f1 : Value) : Prop := (f0 = .none ∨ ∃ a : Int, f0 = rawInt a) ∧ ∃ b, f1 = .bool b
section
variable {prog : Program} {w : World} {A : Around} {E : Value → Shared → Prop} {s : Shared} {z TI TO i1 i2 : Addr} {fp1 fp2 : List Addr} {n1 n2 k1 k2 : Nat} {P1 P2 : Nat → Value → Prop} {St1 St2 : Nat → Heap → Prop} {a b f0 f1 : Value}
theorem wpAny_alive {M : Model} {c : Addr} {Q : Option Obj → Shared → Prop} (h : Q (s.heap.get? c) s) : wpAny M A (loadIfAlive c) Q E s := fun Γ p _ => by
  unfold loadIfAlive
  rw [Sem.wp_loadIfAlive]
  simpa using h
theorem zip_free {Q : Bool → Shared → Prop} (hz : IsZipG s.heap z TI TO f0 f1) (ho : OwnV f0 f1)
    (h : ∀ (b : Bool) h' f1', IsZipG h' z TI TO f0 f1' → OwnV f0 f1' → Heap.SameBut z s.heap h' → Q b { s with heap := h' }) :
    wpAny (model prog w) A (Builtin.SmallTypes.ownedTupleIsFree (.ref z)) Q E s := by
  have rf : Heap.SameBut z s.heap s.heap := ⟨rfl, fun _ _ => rfl⟩
  obtain ⟨h0, b1, rfl⟩ := id ho
  unfold Builtin.SmallTypes.ownedTupleIsFree
  rcases h0 with rfl | ⟨c, rfl⟩
  · refine wpAny_bind (wpAny_field hz rfl (x := .none) rfl (wpAny_pure ?_))
    exact h true _ _ hz ho rf
  · refine wpAny_bind (wpAny_field hz rfl (x := rawInt c) rfl ?_)
    show wpAny _ _ (loadIfAlive c.toNat >>= _) _ _ _
    refine wpAny_bind (wpAny_alive ?_)
    cases hg : s.heap.get? c.toNat with
    | none => exact wpAny_pure (h true _ _ hz ho rf)
    | some o =>
      show wpAny _ _ (field (.ref z) 1 >>= _) _ _ _
      refine wpAny_bind (wpAny_field hz rfl (x := .bool b1) rfl ?_)
      cases b1 with
      | true => exact wpAny_pure (h false _ _ hz ho rf)
      | false =>
        show wpAny _ _ (setField (.ref z) 1 (.bool true) >>= _) _ _ _
        refine wpAny_bind (wpAny_setField_rec hz (by simp) fun g1 y1 e1 => ?_)
        exact wpAny_pure (h false _ _ y1 ⟨ho.1, _, rfl⟩ e1)
theorem zipG_item {Q : Value → Shared → Prop} (D1 : Draws prog w A i1 fp1 n1 P1 St1) (D2 : Draws prog w A i2 fp2 n2 P2 St2) (D : ZApart z TI TO i1 i2 fp1 fp2)
    (hz : IsZipG s.heap z TI TO f0 f1) (ho : OwnV f0 f1) (hTI : IsPair s.heap TI (.ref i1) (.ref i2)) (hTO : IsPair s.heap TO a b) (s1 : St1 k1 s.heap) (s2 : St2 k2 s.heap) (l1 : k1 < n1) (l2 : k2 < n2)
    (hQ : ∀ x y h' tk f0' f1' a' b', P1 k1 x → P2 k2 y → IsZipG h' z TI TO f0' f1' → OwnV f0' f1' → IsPair h' TO a' b' → St1 (k1 + 1) h' → St2 (k2 + 1) h' → IsPair h' s.heap.objs.size x y →
      (∀ c o, c ≠ z → c ≠ TO → c ≠ i1 → c ≠ i2 → s.heap.get? c = some o → h'.get? c = some o) → Q (.ref s.heap.objs.size) { s with heap := h', toks := tk }) :
    wpAny (model prog w) A (Builtin.«zip.__next__» ⟨[.ref z], []⟩) (fun fin s' => ∃ v, fin = .done (.ret v) ∧ Q v s') E s := by
  have sb : ∀ {x : Addr} {h h' : Heap}, Heap.SameBut x h h' → ∀ c o, c ≠ x → h.get? c = some o → h'.get? c = some o := fun g c o n e => g.extBut _ _ n e
  show wpAny _ _ (field (.ref z) 2 >>= _) _ _ _
  refine wpAny_bind (wpAny_field hz rfl (x := .bool false) rfl ?_)
  show wpAny _ _ (field (.ref z) 3 >>= _) _ _ _
  refine wpAny_bind (wpAny_field hz rfl (x := .ref TI) rfl (wpAny_bind (wpAny_seqItems hTI rfl ?_)))
  show wpAny _ _ (Builtin.SmallTypes.ownedTupleIsFree (.ref z) >>= _) _ _ _
  refine wpAny_bind (zip_free hz ho fun fr g0 f1' hz0 ho0 e0 => ?_)
  have hTO0 : IsPair g0 TO a b := sb e0 _ _ D.TOz hTO
  have s10 : St1 k1 g0 := D1.frame _ _ _ s1 fun c hc o e => sb e0 c o (D.f1 c hc).1 e
  have s20 : St2 k2 g0 := D2.frame _ _ _ s2 fun c hc o e => sb e0 c o (D.f2 c hc).1 e
  cases fr with
  | true =>
    simp only [if_true]
    refine wpAny_bind (wpAny_rule (wpAny_bind (wpAny_field hz0 rfl (x := .ref TO) rfl ?_)))
    refine wpAny_bind (wpAny_setField_rec hz0 (by simp) fun g1 y1 e1 => ?_)
    replace y1 : IsZipG g1 z TI TO .ellipsis f1' := y1
    refine wpAny_bind ?_
    simp only [List.zipIdx_cons, List.zipIdx_nil, List.forIn_cons, List.forIn_nil]
    refine wpAny_bind (wpAny_bind (wpAny_onRaise ?_))
    show wpAny _ _ (Builtin.SmallTypes.nextOf (.ref i1) >>= _) _ _ _
    have t1 : St1 k1 g1 := D1.frame _ _ _ s10 fun c hc o e => sb e1 c o (D.f1 c hc).1 e
    have t2 : St2 k2 g1 := D2.frame _ _ _ s20 fun c hc o e => sb e1 c o (D.f2 c hc).1 e
    refine wpAny_bind (D1.item k1 _ _ _ l1 t1 fun x g2 tk px u1 e2 => wpAny_pure ?_)
    have p2 : IsPair g2 TO a b := sb e2 _ _ D.TOi1 (sb e1 _ _ D.TOz hTO0)
    refine wpAny_bind (wpAny_seqItems p2 rfl (wpAny_bind (wpAny_updateSeq_pair p2 fun g3 p3 e3 => ?_)))
    replace p3 : IsPair g3 TO x b := p3
    refine wpAny_bind (wpAny_letGo (wpAny_pure ?_))
    refine wpAny_bind (wpAny_bind (wpAny_onRaise ?_))
    show wpAny _ _ (Builtin.SmallTypes.nextOf (.ref i2) >>= _) _ _ _
    have t3 : St2 k2 g3 := D2.frame _ _ _ t2 fun c hc o e => sb e3 c o (D.f2 c hc).2.1 (sb e2 c o (D.f2 c hc).2.2 e)
    refine wpAny_bind (D2.item k2 _ _ _ l2 t3 fun y g4 tk2 py u2 e4 => wpAny_pure ?_)
    have p4 : IsPair g4 TO x b := sb e4 _ _ D.TOi2 p3
    refine wpAny_bind (wpAny_seqItems p4 rfl (wpAny_bind (wpAny_updateSeq_pair p4 fun g5 p5 e5 => ?_)))
    replace p5 : IsPair g5 TO x y := p5
    refine wpAny_bind (wpAny_letGo (wpAny_pure (wpAny_pure ?_)))
    refine wpAny_bind (wpAny_seqItems p5 rfl (wpAny_bind (wpAny_newTuple ?_)))
    have sz : g5.objs.size = s.heap.objs.size := by rw [e5.1, e4.1, e3.1, e2.1, e1.1]; exact e0.1
    have z5 : IsZipG g5 z TI TO .ellipsis f1' := sb e5 _ _ D.TOz.symm (sb e4 _ _ D.i2z.symm (sb e3 _ _ D.TOz.symm (sb e2 _ _ D.i1z.symm y1)))
    have k5 : ∀ c o, c ≠ z → c ≠ TO → c ≠ i1 → c ≠ i2 → s.heap.get? c = some o → g5.get? c = some o := fun c o c1 c2 c3 c4 e =>
      sb e5 _ _ c2 (sb e4 _ _ c4 (sb e3 _ _ c2 (sb e2 _ _ c3 (sb e1 _ _ c1 (sb e0 _ _ c1 e)))))
    have v1 : St1 (k1 + 1) g5 := D1.frame _ _ _ u1 fun c hc o e => sb e5 c o (D.f1 c hc).2.1 (sb e4 c o (D.f1 c hc).2.2 (sb e3 c o (D.f1 c hc).2.1 e))
    have v2 : St2 (k2 + 1) g5 := D2.frame _ _ _ u2 fun c hc o e => sb e5 c o (D.f2 c hc).2.1 e
    have zlt : z < g5.objs.size := Heap.lt_size z5
    show wpAny _ _ (Builtin.SmallTypes.ownedTupleHandOut (.ref z) (.ref g5.objs.size) >>= _) _ _ _
    unfold Builtin.SmallTypes.ownedTupleHandOut
    have z6 : IsZipG (g5.push { cls := .type "tuple", data := .seq #[x, y] }) z TI TO .ellipsis f1' := Heap.get?_push_of_some _ z5
    refine wpAny_bind (wpAny_bind (wpAny_setField_rec z6 (by simp) fun g7 z7 e7 => ?_))
    replace z7 : IsZipG g7 z TI TO (rawInt g5.objs.size) f1' := z7
    refine wpAny_setField_rec z7 (by simp) fun g8 z8 e8 => ?_
    replace z8 : IsZipG g8 z TI TO (rawInt g5.objs.size) (.bool false) := z8
    have up : ∀ c o, c ≠ z → g5.get? c = some o → g8.get? c = some o := fun c o c1 e => sb e8 _ _ c1 (sb e7 _ _ c1 (Heap.get?_push_of_some _ e))
    have pT : IsPair g8 g5.objs.size x y := sb e8 _ _ (Nat.ne_of_gt zlt) (sb e7 _ _ (Nat.ne_of_gt zlt) (Heap.get?_push_size _ rfl))
    rw [sz] at z8 pT
    refine wpAny_pure ⟨_, rfl, ?_⟩
    show Q (.ref g5.objs.size) _
    rw [sz]
    exact hQ x y g8 _ _ _ _ _ px py z8 ⟨.inr ⟨_, rfl⟩, _, rfl⟩ (up _ _ D.TOz p5) (D1.frame _ _ _ v1 fun c hc o e => up c o (D.f1 c hc).1 e) (D2.frame _ _ _ v2 fun c hc o e => up c o (D.f2 c hc).1 e) pT fun c o c1 c2 c3 c4 e => up c o c1 (k5 c o c1 c2 c3 c4 e)
  | false =>
    simp only [Bool.false_eq_true, if_false]
    refine wpAny_bind ?_
    simp only [← Array.forIn_toList, List.forIn_cons, List.forIn_nil]
    refine wpAny_bind (wpAny_bind (wpAny_holding ?_))
    show wpAny _ _ (Builtin.SmallTypes.nextOf (.ref i1) >>= _) _ _ _
    refine wpAny_bind (D1.item k1 _ _ _ l1 s10 fun x g2 tk px u1 e2 => wpAny_pure ?_)
    refine wpAny_pure ?_
    refine wpAny_bind (wpAny_bind (wpAny_holding ?_))
    show wpAny _ _ (Builtin.SmallTypes.nextOf (.ref i2) >>= _) _ _ _
    have t3 : St2 k2 g2 := D2.frame _ _ _ s20 fun c hc o e => sb e2 c o (D.f2 c hc).2.2 e
    refine wpAny_bind (D2.item k2 _ _ _ l2 t3 fun y g4 tk2 py u2 e4 => wpAny_pure ?_)
    refine wpAny_pure (wpAny_pure ?_)
    refine wpAny_bind (wpAny_newTuple ?_ (show 2 ≤ sizeLine by decide))
    have sz : g4.objs.size = s.heap.objs.size := by rw [e4.1, e2.1]; exact e0.1
    have z4 : IsZipG g4 z TI TO f0 f1' := sb e4 _ _ D.i2z.symm (sb e2 _ _ D.i1z.symm hz0)
    have up : ∀ c o, g4.get? c = some o → (g4.push { cls := .type "tuple", data := .seq #[x, y] }).get? c = some o := fun c o e => Heap.get?_push_of_some _ e
    have pT : IsPair (g4.push { cls := .type "tuple", data := .seq #[x, y] }) g4.objs.size x y := Heap.get?_push_size _ rfl
    rw [sz] at pT
    refine wpAny_pure ⟨_, rfl, ?_⟩
    show Q (.ref g4.objs.size) _
    rw [sz]
    exact hQ x y _ _ _ _ _ _ px py (up _ _ z4) ho0 (up _ _ (sb e4 _ _ D.TOi2 (sb e2 _ _ D.TOi1 hTO0))) (D1.frame _ _ _ u1 fun c hc o e => up c o (sb e4 c o (D.f1 c hc).2.2 e)) (D2.frame _ _ _ u2 fun c hc o e => up c o e) pT
      fun c o c1 c2 c3 c4 e => up c o (sb e4 _ _ c4 (sb e2 _ _ c3 (sb e0 _ _ c1 e)))
theorem zipG_end {Q : Fin → Shared → Prop} (D1 : Draws prog w A i1 fp1 n1 P1 St1) (D : ZApart z TI TO i1 i2 fp1 fp2)
    (hz : IsZipG s.heap z TI TO f0 f1) (ho : OwnV f0 f1) (hTI : IsPair s.heap TI (.ref i1) (.ref i2)) (s1 : St1 n1 s.heap)
    (hE : ∀ h' e, (∀ c o, c ≠ z → c ≠ i1 → s.heap.get? c = some o → h'.get? c = some o) → (∃ o, h'.get? e = some o ∧ o.cls = .type "StopIteration") → E (.ref e) { s with heap := h' }) :
    wpAny (model prog w) A (Builtin.«zip.__next__» ⟨[.ref z], []⟩) Q E s := by
  have sb : ∀ {x : Addr} {h h' : Heap}, Heap.SameBut x h h' → ∀ c o, c ≠ x → h.get? c = some o → h'.get? c = some o := fun g c o n e => g.extBut _ _ n e
  show wpAny _ _ (field (.ref z) 2 >>= _) _ _ _
  refine wpAny_bind (wpAny_field hz rfl (x := .bool false) rfl ?_)
  show wpAny _ _ (field (.ref z) 3 >>= _) _ _ _
  refine wpAny_bind (wpAny_field hz rfl (x := .ref TI) rfl (wpAny_bind (wpAny_seqItems hTI rfl ?_)))
  show wpAny _ _ (Builtin.SmallTypes.ownedTupleIsFree (.ref z) >>= _) _ _ _
  refine wpAny_bind (zip_free hz ho fun fr g0 f1' hz0 ho0 e0 => ?_)
  have s10 : St1 n1 g0 := D1.frame _ _ _ s1 fun c hc o e => sb e0 c o (D.f1 c hc).1 e
  cases fr with
  | true =>
    simp only [if_true]
    refine wpAny_bind (wpAny_rule (wpAny_bind (wpAny_field hz0 rfl (x := .ref TO) rfl ?_)))
    refine wpAny_bind (wpAny_setField_rec hz0 (by simp) fun g1 y1 e1 => ?_)
    replace y1 : IsZipG g1 z TI TO .ellipsis f1' := y1
    refine wpAny_bind ?_
    simp only [List.zipIdx_cons, List.zipIdx_nil, List.forIn_cons, List.forIn_nil]
    refine wpAny_bind (wpAny_bind (wpAny_onRaise ?_))
    show wpAny _ _ (Builtin.SmallTypes.nextOf (.ref i1) >>= _) _ _ _
    have t1 : St1 n1 g1 := D1.frame _ _ _ s10 fun c hc o e => sb e1 c o (D.f1 c hc).1 e
    refine wpAny_bind (D1.done _ _ _ t1 fun g2 e e2 he => ?_)
    obtain ⟨oe, hoe, hce⟩ := he
    have y2 : IsZipG g2 z TI TO .ellipsis f1' := e2 _ _ D.i1z.symm y1
    have hez : e ≠ z := fun x => by subst x; rw [y2] at hoe; cases hoe; simp at hce
    exact wpAny_setField_rec y2 (by simp) fun g3 _ e3 => hE g3 e (fun c o c1 c3 x => sb e3 _ _ c1 (e2 _ _ c3 (sb e1 _ _ c1 (sb e0 _ _ c1 x)))) ⟨oe, sb e3 _ _ hez hoe, hce⟩
  | false =>
    simp only [Bool.false_eq_true, if_false]
    refine wpAny_bind ?_
    simp only [← Array.forIn_toList, List.forIn_cons, List.forIn_nil]
    refine wpAny_bind (wpAny_bind (wpAny_holding ?_))
    show wpAny _ _ (Builtin.SmallTypes.nextOf (.ref i1) >>= _) _ _ _
    refine wpAny_bind (D1.done _ _ _ s10 fun g2 e e2 he => ?_)
    exact hE g2 e (fun c o c1 c3 x => e2 _ _ c3 (sb e0 _ _ c1 x)) he
end
end L2

namespace L2
open PySem PySem.Spec PyProof.Rows
open PySem.Sem (wp)
open PySem.AutoSeq1 (wpAny_loadPart')
section
variable {prog : Program} {w : World} {A : Around} {E : Value → Shared → Prop} {s : Shared} {z TI TO i1 i2 e : Addr} {fp1 fp2 : List Addr} {n1 n2 k1 k2 : Nat} {P1 P2 : Nat → Value → Prop} {St1 St2 : Nat → Heap → Prop} {a b f0 f1 : Value}
theorem nextOf_zipG {Q : Value → Shared → Prop} (D1 : Draws prog w A.in1 i1 fp1 n1 P1 St1) (D2 : Draws prog w A.in1 i2 fp2 n2 P2 St2) (D : ZApart z TI TO i1 i2 fp1 fp2)
    (hz : IsZipG s.heap z TI TO f0 f1) (ho : OwnV f0 f1) (hTI : IsPair s.heap TI (.ref i1) (.ref i2)) (hTO : IsPair s.heap TO a b) (s1 : St1 k1 s.heap) (s2 : St2 k2 s.heap) (l1 : k1 < n1) (l2 : k2 < n2)
    (hQ : ∀ x y h' tk f0' f1' a' b', P1 k1 x → P2 k2 y → IsZipG h' z TI TO f0' f1' → OwnV f0' f1' → IsPair h' TO a' b' → St1 (k1 + 1) h' → St2 (k2 + 1) h' → IsPair h' s.heap.objs.size x y →
      (∀ c o, c ≠ z → c ≠ TO → c ≠ i1 → c ≠ i2 → s.heap.get? c = some o → h'.get? c = some o) → Q (.ref s.heap.objs.size) { s with heap := h', toks := tk }) :
    wpAny (model prog w) A (Builtin.SmallTypes.nextOf (.ref z)) Q E s := by
  have hT : s.TypeIs (.ref z) "zip" := ⟨_, hz, rfl⟩
  unfold Builtin.SmallTypes.nextOf
  refine wpAny_bind (wpAny_callSpecial?_slot (name := Str.ofString "__next__") hT F.slot_zip_next (wpAny_call_entry F.slot_zip_next hT F.entry_zip_next
    (zipG_item D1 D2 D hz ho hTI hTO s1 s2 l1 l2 fun x y h' tk f0' f1' a' b' p1 p2 p3 p4 p5 p6 p7 p8 p9 => wpAny_pure (hQ x y h' tk f0' f1' a' b' p1 p2 p3 p4 p5 p6 p7 p8 p9)) (F.args_zip_next_1 _)))
theorem nextOf_zipG_end {Q : Value → Shared → Prop} (D1 : Draws prog w A.in1 i1 fp1 n1 P1 St1) (D : ZApart z TI TO i1 i2 fp1 fp2)
    (hz : IsZipG s.heap z TI TO f0 f1) (ho : OwnV f0 f1) (hTI : IsPair s.heap TI (.ref i1) (.ref i2)) (s1 : St1 n1 s.heap)
    (hE : ∀ h' e, (∀ c o, c ≠ z → c ≠ i1 → s.heap.get? c = some o → h'.get? c = some o) → (∃ o, h'.get? e = some o ∧ o.cls = .type "StopIteration") → E (.ref e) { s with heap := h' }) :
    wpAny (model prog w) A (Builtin.SmallTypes.nextOf (.ref z)) Q E s := by
  have hT : s.TypeIs (.ref z) "zip" := ⟨_, hz, rfl⟩
  unfold Builtin.SmallTypes.nextOf
  exact wpAny_bind (wpAny_callSpecial?_slot (name := Str.ofString "__next__") hT F.slot_zip_next (wpAny_call_entry F.slot_zip_next hT F.entry_zip_next
    (zipG_end D1 D hz ho hTI s1 hE) (F.args_zip_next_1 _)))
theorem enumB {it : Addr} {i : Int} {old : Value} {R : Value → Heap → Prop} {Q : Value → Shared → Prop} (he : IsEnum s.heap e it i old)
    (hn : ∀ (Q' : Value → Shared → Prop), (∀ x h1 tk, R x h1 → IsEnum h1 e it i old → Q' x { s with heap := h1, toks := tk }) → wpAny (model prog w) A (Builtin.SmallTypes.nextOf (.ref it)) Q' E s)
    (hQ : ∀ x h1 tk h', R x h1 → IsEnumOut h' e it (i + 1) x h1.objs.size → h'.get? h1.objs.size = some { cls := .type "tuple", data := .seq #[.int i tk, x] } →
      (∀ c o, c ≠ e → h1.get? c = some o → h'.get? c = some o) → Q (.ref h1.objs.size) { s with heap := h', toks := tk + 1 }) :
    wpAny (model prog w) A (Builtin.«enumerate.__next__» ⟨[.ref e], []⟩) (fun fin s' => ∃ v, fin = .done (.ret v) ∧ Q v s') E s := by
  have sb : ∀ {x : Addr} {h h' : Heap}, Heap.SameBut x h h' → ∀ c o, c ≠ x → h.get? c = some o → h'.get? c = some o := fun g c o n e => g.extBut _ _ n e
  show wpAny _ _ (field (.ref e) 2 >>= _) _ _ _
  refine wpAny_bind (wpAny_field he rfl (x := .ref it) rfl (wpAny_bind (hn _ fun x h1 tk hR he1 => ?_)))
  show wpAny _ _ (field (.ref e) 3 >>= _) _ _ _
  refine wpAny_bind (wpAny_field he1 rfl (x := rawInt i) rfl ?_)
  show wpAny _ _ (field (.ref e) 4 >>= _) _ _ _
  refine wpAny_bind (wpAny_field he1 rfl (x := .none) rfl ?_)
  show wpAny _ _ (mkInt i >>= _) _ _ _
  refine wpAny_bind (wpAny_mkInt ?_)
  show wpAny _ _ (setField (.ref e) 3 (rawInt (i + 1)) >>= _) _ _ _
  refine wpAny_bind (wpAny_setField_rec he1 (by simp) fun h2 y2 e2 => ?_)
  replace y2 : IsEnum h2 e it (i + 1) old := y2
  show wpAny _ _ (setField (.ref e) 4 .none >>= _) _ _ _
  refine wpAny_bind (wpAny_setField_rec y2 (by simp) fun h3 y3 e3 => ?_)
  replace y3 : IsEnum h3 e it (i + 1) old := y3
  show wpAny _ _ (newTuple [.int i tk, x] >>= _) _ _ _
  refine wpAny_bind (wpAny_newTuple ?_ (show 2 ≤ sizeLine by decide))
  have sz : h3.objs.size = h1.objs.size := by rw [e3.1]; exact e2.1
  have elt : e < h1.objs.size := Heap.lt_size he1
  have y4 : IsEnum (h3.push { cls := .type "tuple", data := .seq #[.int i tk, x] }) e it (i + 1) old := Heap.get?_push_of_some _ y3
  have t4 : (h3.push { cls := .type "tuple", data := .seq #[.int i tk, x] }).get? h1.objs.size = some { cls := .type "tuple", data := .seq #[.int i tk, x] } := by rw [← sz]; exact Heap.get?_push_size _ rfl
  have k4 : ∀ c o, c ≠ e → h1.get? c = some o → (h3.push { cls := .type "tuple", data := .seq #[.int i tk, x] }).get? c = some o := fun c o n q => Heap.get?_push_of_some _ (sb e3 _ _ n (sb e2 _ _ n q))
  generalize hh : h3.push { cls := .type "tuple", data := .seq #[.int i tk, x] } = h4 at y4 t4 k4
  have hh' : h3.push { cls := .type "tuple", data := .seq ([.int i tk, x] : List Value).toArray } = h4 := hh
  try rw [hh']
  rw [sz]
  show wpAny _ _ (Builtin.SmallTypes.ownedTupleIsFree (.ref e) >>= _) _ _ ⟨h4, _, _, _, _⟩
  refine wpAny_bind ?_
  unfold Builtin.SmallTypes.ownedTupleIsFree
  refine wpAny_bind (wpAny_field y4 rfl (x := .none) rfl (wpAny_pure ?_))
  simp only [if_true]
  refine wpAny_bind (wpAny_rule (wpAny_bind (wpAny_field y4 rfl (x := old) rfl ?_)))
  refine wpAny_bind (wpAny_setField_rec y4 (by simp) fun h5 y5 e5 => ?_)
  replace y5 : IsEnum h5 e it (i + 1) x := y5
  show wpAny _ _ (Builtin.SmallTypes.ownedTupleHandOut (.ref e) (.ref h1.objs.size) >>= _) _ _ _
  unfold Builtin.SmallTypes.ownedTupleHandOut
  refine wpAny_bind (wpAny_bind (wpAny_setField_rec y5 (by simp) fun h6 y6 e6 => ?_))
  replace y6 : IsEnumOut h6 e it (i + 1) x h1.objs.size := y6
  refine wpAny_setField_rec y6 (by simp) fun h7 y7 e7 => ?_
  replace y7 : IsEnumOut h7 e it (i + 1) x h1.objs.size := y7
  refine wpAny_bind (wpAny_letGo (wpAny_pure ⟨_, rfl, hQ x h1 tk h7 hR y7 ?_ fun c o n q => ?_⟩))
  · exact sb e7 _ _ (Nat.ne_of_gt elt) (sb e6 _ _ (Nat.ne_of_gt elt) (sb e5 _ _ (Nat.ne_of_gt elt) t4))
  · exact sb e7 _ _ n (sb e6 _ _ n (sb e5 _ _ n (k4 c o n q)))
end
noncomputable def ItEZ (K : PySem.W.Frag) (a b : Addr) : It :=
  ⟨fun i H => ∃ xs ys x y, SqL K H a xs ∧ SqL K H b ys ∧ xs[i]? = some x ∧ ys[i]? = some y,
   fun i H v H' => ∃ Z T x y, H Z = none ∧ upd H Z (.tup [x, y]) T = none ∧ v = .ref T ∧ (∀ xs, SqL K H a xs → xs[i]? = some x) ∧ (∀ ys, SqL K H b ys → ys[i]? = some y) ∧ H' = upd (upd H Z (.tup [x, y])) T (.tup [.int i, .ref Z]),
   fun i H => ∃ xs, SqL K H a xs ∧ xs.length = i⟩
structure EApart (e z TI TO i1 i2 a b : Addr) : Prop where
  Z : ZApart z TI TO i1 i2 [i1, a] [i2, b]
  ez : e ≠ z
  eTI : e ≠ TI
  eTO : e ≠ TO
  ei1 : e ≠ i1
  ei2 : e ≠ i2
  a1 : a ≠ i1
  b2 : b ≠ i2
theorem turn_enumZ {P : Program} {w : World} {K : PySem.W.Frag} {elts : List Expr} {k : Nat} {pos : Pos} {e z TI TO i1 i2 a b : Addr} (D : EApart e z TI TO i1 i2 a b) :
    Turn P w K (.Tuple elts k pos) (ItEZ K a b) [e, z, TI, TO, i1, i2] e (fun i h => (∃ old, IsEnum h e z i old) ∧ (∃ f0 f1, IsZipG h z TI TO f0 f1 ∧ OwnV f0 f1) ∧ IsPair h TI (.ref i1) (.ref i2) ∧ (∃ c d, IsPair h TO c d) ∧ h.IsListIter i1 a i ∧ h.IsListIter i2 b i) where
  mem := by simp
  obj := fun i h st c hc => by
    obtain ⟨⟨_, he⟩, ⟨_, _, hz, _⟩, hTI, ⟨x, y, hTO⟩, ⟨o1, e1, c1, d1⟩, ⟨o2, e2, c2, d2⟩⟩ := st
    simp only [List.mem_cons, List.mem_nil_iff, or_false] at hc
    rcases hc with rfl | rfl | rfl | rfl | rfl | rfl
    · exact ⟨_, he, fun v z => by cases z⟩
    · exact ⟨_, hz, fun v z => by cases z⟩
    · exact ⟨_, hTI, fun v z => by cases z⟩
    · exact ⟨_, hTO, fun v z => by cases z⟩
    · exact ⟨_, e1, fun v z => by rw [d1] at z; cases z⟩
    · exact ⟨_, e2, fun v z => by rw [d2] at z; cases z⟩
  keep := fun i h h' st kk => by
    obtain ⟨⟨_, he⟩, ⟨_, _, hz, ow⟩, hTI, ⟨x, y, hTO⟩, h1, h2⟩ := st
    exact ⟨⟨_, kk e (by simp) _ he⟩, ⟨_, _, kk z (by simp) _ hz, ow⟩, kk TI (by simp) _ hTI, ⟨x, y, kk TO (by simp) _ hTO⟩, h1.at fun o e => kk i1 (by simp) o e, h2.at fun o e => kk i2 (by simp) o e⟩
  item := by
    intro X hP hw hK hc i pins s σ H E I hf st hg
    subst hP hw hK
    obtain ⟨⟨old, he⟩, ⟨f0, f1, hz, ow⟩, hTI, ⟨c, d, hTO⟩, h1, h2⟩ := st
    obtain ⟨xs, ys, x, y, hq, hq2, hx, hy⟩ := hg
    obtain ⟨its, rv, p, _⟩ := I.list hq
    obtain ⟨jts, rv2, p2, _⟩ := I.list hq2
    obtain ⟨u, hu, ru⟩ := rv.get hx
    obtain ⟨u2, hu2, ru2⟩ := rv2.get hy
    have hT : s.TypeIs (.ref e) "enumerate" := ⟨_, he, rfl⟩
    have hh : X.A.in1.in1.handled = none := I.ok.hd hc
    have lt : ∀ {c o}, s.heap.get? c = some o → s.heap.objs.size ≠ c := fun e => Nat.ne_of_gt (Heap.lt_size e)
    have l1 : i < its.toArray.size := by simpa using (List.getElem?_eq_some_iff.mp hu).1
    have l2 : i < jts.toArray.size := by simpa using (List.getElem?_eq_some_iff.mp hu2).1
    unfold pyNext
    refine wpAny_bind (wpAny_attempt (wpAny_callSpecial?_slot (name := Str.ofString "__next__") hT F.slot_enumerate_next
      (wpAny_call_entry F.slot_enumerate_next hT F.entry_enumerate_next
        (enumB (A := X.A.in1) (R := fun v h' => v = .ref s.heap.objs.size ∧ (∃ f0' f1', IsZipG h' z TI TO f0' f1' ∧ OwnV f0' f1') ∧ (∃ c' d', IsPair h' TO c' d') ∧ h'.IsListIter i1 a (i + 1) ∧ h'.IsListIter i2 b (i + 1) ∧ IsPair h' s.heap.objs.size u u2 ∧
            (∀ c o, c ≠ z → c ≠ TO → c ≠ i1 → c ≠ i2 → s.heap.get? c = some o → h'.get? c = some o)) he
          (fun Q' hQ' => nextOf_zipG (A := X.A.in1) (Draws.list hh i1 a D.a1 its.toArray) (Draws.list hh i2 b D.b2 jts.toArray) D.Z hz ow hTI hTO ⟨h1, p.isList⟩ ⟨h2, p2.isList⟩ l1 l2
            fun v1 v2 h' tk f0' f1' a' b' q1 q2 q3 q4 q5 q6 q7 q8 q9 => hQ' _ h' tk ⟨rfl, ⟨_, _, q3, q4⟩, ⟨_, _, q5⟩, q6.1, q7.1, by
              have e1 : v1 = u := by
                have h2 : its[i]? = some v1 := by simpa using q1
                rw [hu] at h2
                exact (Option.some.inj h2).symm
              have e2 : v2 = u2 := by
                have h2 : jts[i]? = some v2 := by simpa using q2
                rw [hu2] at h2
                exact (Option.some.inj h2).symm
              rw [← e1, ← e2]; exact q8, q9⟩ (q9 _ _ D.ez D.eTO D.ei1 D.ei2 he))
          fun v h' tk h'' hR a1 a2 a3 => wpAny_pure ?_) (F.args_enumerate_next_1 _))))
    obtain ⟨rfl, ⟨f0', f1', r1, r2⟩, ⟨c', d', r3⟩, r4, r5, r6, r7⟩ := hR
    refine ⟨_, rfl, wpAny_letOwnedTupleGo_enum a1 fun h3 b1 sb => ?_⟩
    have isZ : h'.IsTuple s.heap.objs.size #[u, u2] := ⟨_, r6, rfl, _, rfl⟩
    have k1 : ∀ c o, c ∉ [e, z, TI, TO, i1, i2] → s.heap.get? c = some o → h'.get? c = some o := fun c o hb q => by
      simp only [List.mem_cons, List.mem_nil_iff, or_false, not_or] at hb
      exact r7 c o hb.2.1 hb.2.2.2.1 hb.2.2.2.2.1 hb.2.2.2.2.2 q
    have hTn : H s.heap.objs.size = none := I.hok.fresh (Nat.le_refl _)
    have I1 := I.newtup (tk := tk) hf (Nat.le_refl _) k1 isZ (xs := [x, y]) (.cons ru (.cons ru2 .nil)) (by simp; decide)
    have neq : ∀ c ∈ [e, z, TI, TO, i1, i2], s.heap.objs.size ≠ c := fun c hc => by
      simp only [List.mem_cons, List.mem_nil_iff, or_false] at hc
      rcases hc with rfl | rfl | rfl | rfl | rfl | rfl
      · exact lt he
      · exact lt hz
      · exact lt hTI
      · exact lt hTO
      · obtain ⟨o, e, _⟩ := h1; exact lt e
      · obtain ⟨o, e, _⟩ := h2; exact lt e
    have hf1 : ∀ c ∈ [e, z, TI, TO, i1, i2], FpOk X pins (upd H s.heap.objs.size (.tup [x, y])) c := fun c hc => ⟨by rw [upd_ne (Ne.symm (neq c hc))]; exact (hf c hc).1, (hf c hc).2⟩
    have up : ∀ c o, c ≠ e → h'.get? c = some o → h3.get? c = some o := fun c o n q => sb.extBut _ _ n (a3 c o n q)
    have neqT : ∀ {c o}, h'.get? c = some o → h'.objs.size ≠ c := fun q => Nat.ne_of_gt (Heap.lt_size q)
    have elt : h'.objs.size ≠ e := neqT (r7 _ _ D.ez D.eTO D.ei1 D.ei2 he)
    have isT : h3.IsTuple h'.objs.size #[.int i tk, .ref s.heap.objs.size] := ⟨_, sb.extBut _ _ elt a2, rfl, _, rfl⟩
    have hTn2 : upd H s.heap.objs.size (.tup [x, y]) h'.objs.size = none := I1.hok.fresh (Nat.le_refl _)
    refine ⟨.ref h'.objs.size, _, I1.newtup (tk := tk + 1) hf1 (Nat.le_refl _) (fun c o hb q => by
      simp only [List.mem_cons, List.mem_nil_iff, or_false, not_or] at hb
      exact up c o hb.1 q) isT (xs := [.int i, .ref s.heap.objs.size]) (.cons ⟨_, rfl⟩ (.cons rfl .nil)) (by simp; decide), rfl, ⟨_, _, x, y, hTn, hTn2, rfl, fun zs hs => by rw [I.list_inj hs hq]; exact hx, fun zs hs => by rw [I.list_inj hs hq2]; exact hy, rfl⟩, ?_, fun c hc => ?_⟩
    · exact ⟨⟨_, b1⟩, ⟨_, _, up _ _ D.ez.symm r1, r2⟩, up _ _ D.eTI.symm (r7 _ _ D.Z.TIz D.Z.TITO D.Z.TIi1 D.Z.TIi2 hTI), ⟨_, _, up _ _ D.eTO.symm r3⟩, r4.at fun o q => up _ o D.ei1.symm q, r5.at fun o q => up _ o D.ei2.symm q⟩
    · have n2 : h'.objs.size ≠ c := by
        simp only [List.mem_cons, List.mem_nil_iff, or_false] at hc
        rcases hc with rfl | rfl | rfl | rfl | rfl | rfl
        · exact elt
        · exact neqT r1
        · exact neqT (r7 _ _ D.Z.TIz D.Z.TITO D.Z.TIi1 D.Z.TIi2 hTI)
        · exact neqT r3
        · obtain ⟨o, q, _⟩ := r4; exact neqT q
        · obtain ⟨o, q, _⟩ := r5; exact neqT q
      rw [upd_ne (Ne.symm n2)]
      exact (hf1 c hc).1
  done := by
    intro X hP hw hK hc i pins s σ H E I hf st hg
    subst hP hw hK
    obtain ⟨⟨old, he⟩, ⟨f0, f1, hz, ow⟩, hTI, ⟨c, d, hTO⟩, h1, h2⟩ := st
    obtain ⟨xs, hq, hx⟩ := hg
    obtain ⟨its, rv, p, _⟩ := I.list hq
    have l1 := rv.length
    have sz : its.toArray.size = i := by rw [List.size_toArray]; omega
    have hT : s.TypeIs (.ref e) "enumerate" := ⟨_, he, rfl⟩
    have hh : X.A.in1.in1.handled = none := I.ok.hd hc
    unfold pyNext
    refine wpAny_bind (wpAny_attempt (wpAny_callSpecial?_slot (name := Str.ofString "__next__") hT F.slot_enumerate_next
      (wpAny_call_entry F.slot_enumerate_next hT F.entry_enumerate_next ?_ (F.args_enumerate_next_1 _))))
    show wpAny _ _ (field (.ref e) 2 >>= _) _ _ _
    refine wpAny_bind (wpAny_field he rfl (x := .ref z) rfl ?_)
    refine wpAny_bind (nextOf_zipG_end (A := X.A.in1) (Draws.list hh i1 a D.a1 its.toArray) D.Z hz ow hTI (by rw [sz]; exact ⟨h1, p.isList⟩) fun h' x he' hx' => ?_)
    obtain ⟨o, ho, hc'⟩ := hx'
    refine wpAny_bind (wpAny_isInstance (T := "StopIteration") (b := true) ⟨o, ho, hc'⟩ isSubtype_stop ?_)
    refine wpAny_pure ⟨rfl, I.only (tk := s.toks) hf fun b o hb q => ?_⟩
    simp only [List.mem_cons, List.mem_nil_iff, or_false, not_or] at hb
    exact he' b o hb.2.1 hb.2.2.2.2.1 q
  self := fun _ _ _ _ _ st h => let ⟨⟨_, he⟩, _⟩ := st; wpAny_pyIter_enum he h
end L2

namespace L2
open PySem PySem.Spec PyProof.Rows
open PySem.Sem (wp)
open PySem.AutoSeq1 (wpAny_loadPart')
theorem meets_enumerate_newZ (z TI TO : Addr) :
    Meets (Builtin.«enumerate.__new__» ⟨[.type "enumerate", .ref z], []⟩) (fun _ R s => IsZip s.heap z TI TO .none ∧
      R (.ok (.ret (.ref s.heap.objs.size)))
        { s with heap := s.heap.push { cls := .type "enumerate", data := .fields #[.none, .bool false, .ref z, rawInt 0, .none, .none] } }) :=
  .of_wp fun prog w A R s h => by
    obtain ⟨hp, g, d, tk, os⟩ := s; obtain ⟨hl, h⟩ := h
    have hsub := sub_enumerate
    have hL : IsZip (Shared.heap ⟨hp, g, d, tk, os⟩) z TI TO .none := hl
    wp_walk using wpAny_loadPart' hl
    refine wpAny_stack_any fun st => wpAny_pure ?_
    split
    · rename_i c _ _ _ _ _
      cases (c == Value.type "enumerate")
      · wp_walk using wpAny_loadPart' hl, wpAny_pyIter_zip hL
        exact ⟨_, rfl, h⟩
      · wp_walk using wpAny_loadPart' hl, wpAny_pyIter_zip hL
        exact ⟨_, rfl, h⟩
    · wp_walk using wpAny_loadPart' hl, wpAny_pyIter_zip hL
      exact ⟨_, rfl, h⟩
theorem call_enumerate_zip {prog : Program} {w : World} {A : Around} {E : Value → Shared → Prop} {s : Shared} {z TI TO : Addr} {Q : Value → Shared → Prop} (hL : IsZip s.heap z TI TO .none)
    (h : ∀ h', IsEnum h' s.heap.objs.size z 0 .none → (∀ b o, s.heap.get? b = some o → h'.get? b = some o) → Q (.ref s.heap.objs.size) { s with heap := h' }) :
    wpAny (model prog w) A (call (.type "enumerate") [.ref z]) Q E s := by
  refine callType_new F.called_enumerate (by decide) (F.typeCall_enumerate_1 _) (F.newCall_enumerate_1 _) (fun obj => F.args_object_init_2 obj _) F.entry_enumerate_new
    (meets_enumerate_newZ z TI TO) ⟨hL, ?_⟩
  show _ ∧ _
  have he : IsEnum (s.heap.push { cls := .type "enumerate", data := .fields #[.none, .bool false, .ref z, rawInt 0, .none, .none] }) s.heap.objs.size z 0 .none := Heap.get?_push_size _ rfl
  exact ⟨⟨_, he, rfl⟩, h _ he fun b o x => Heap.get?_push_of_some _ x⟩
noncomputable def iEnumZip (K : PySem.W.Frag) (ta : TA) : TI := fun σ H R => ta σ H fun vs H1 => ∃ a b xs ys, vs = [.ref a, .ref b] ∧ SqL K H1 a xs ∧ SqL K H1 b ys ∧ R (ItEZ K a b) H1
theorem ji_enumZip {X : Cx} {K : PySem.W.Frag} {a b : Expr} {ta : TA} {elts : List Expr} {k : Nat} {tp p p2 p3 pos : Pos} (hK : X.K = K) (hg : Gl X "enumerate") (hm : X.mg "enumerate" = none) (hg2 : Gl X "zip") (hm2 : X.mg "zip" = none) (ha : JA X [a, b] ta) (h : autoParam (notStar a = true) L2.auto4._auto_1) (h2 : autoParam (notStar b = true) L2.auto4._auto_1) :
    JI X (.Tuple elts k tp) (.Call (.Name "enumerate" p) [.Call (.Name "zip" p2) [a, b] [] p3] [] pos) (iEnumZip K ta) := ⟨by
  subst hK
  intro pins s σ H R I hq
  refine Call_ (ld_blt I hg hm bt_enumerate (PyProof.Rows.callWith_type1 (arg1 rfl (wpAny_Call_Name_kw (ld_blt I hg2 hm2 bt_zip (PyProof.Rows.callWith_type1 (thn (ha.run p3 pins s σ H _ I hq) fun us s1 qq0 => ?_) (se_cons h) (by rw [se_cons h2]; rfl))))) rfl rfl))
  obtain ⟨vs, H1, I1, r1, q1⟩ := qq0
  obtain ⟨l1, l2, xs, ys, e, hl1, hl2, q⟩ := q1
  subst e
  obtain ⟨u, u2, rfl, e1, e2⟩ : ∃ u u2, us = [u, u2] ∧ RelV (.ref l1) u ∧ RelV (.ref l2) u2 := by
    cases r1 with
    | cons x r => cases r with
      | cons y r => cases r with
        | nil => exact ⟨_, _, rfl, x, y⟩
  cases e1
  cases e2
  obtain ⟨its, rv, p1, _⟩ := I1.list hl1
  obtain ⟨jts, rv2, p2, _⟩ := I1.list hl2
  have lt1 : l1 < s1.heap.objs.size := by obtain ⟨o, ho, _⟩ := p1.isList; exact Heap.lt_size ho
  have lt2 : l2 < s1.heap.objs.size := by obtain ⟨o, ho, _⟩ := p2.isList; exact Heap.lt_size ho
  refine call_zip_2 p1.isList p2.isList fun h' z1 z2 z3 z4 z5 z6 hk => ?_
  refine call_enumerate_zip z1 fun h2 y1 hk2 => ?_
  have J1 : Inv X pins σ H1 { s1 with heap := h2 } := I1.kept (t' := s1.toks) fun b o q => hk2 b o (hk b o q)
  rw [z6] at y1
  rw [z6]
  have D : EApart (s1.heap.objs.size + 5) (s1.heap.objs.size + 4) (s1.heap.objs.size + 2) (s1.heap.objs.size + 3) s1.heap.objs.size (s1.heap.objs.size + 1) l1 l2 := by
    have key : ∀ n a b : Nat, a < n → b < n → EApart (n + 5) (n + 4) (n + 2) (n + 3) n (n + 1) a b := fun n a b h1 h2 => by
      have k1 : ∀ c : Nat, (c = n ∨ c = a) → c ≠ n + 4 ∧ c ≠ n + 3 ∧ c ≠ n + 1 := fun c hc => by omega
      have k2 : ∀ c : Nat, (c = n + 1 ∨ c = b) → c ≠ n + 4 ∧ c ≠ n + 3 ∧ c ≠ n := fun c hc => by omega
      refine ⟨⟨?_, ?_, ?_, ?_, ?_, ?_, ?_, ?_, ?_, ?_, fun c hc => k1 c (by simpa only [List.mem_cons, List.mem_nil_iff, or_false] using hc), fun c hc => k2 c (by simpa only [List.mem_cons, List.mem_nil_iff, or_false] using hc)⟩, ?_, ?_, ?_, ?_, ?_, ?_, ?_⟩
      all_goals (show (_ : Nat) ≠ _; omega)
    exact key _ _ _ lt1 lt2
  refine wpAny_pyIter_enum y1 ?_
  refine ⟨s1.heap.objs.size + 5, _, _, _, H1, rfl, J1, turn_enumZ D, ⟨⟨_, y1⟩, ⟨_, _, hk2 _ _ z1, ⟨.inl rfl, _, rfl⟩⟩, hk2 _ _ z2, ⟨_, _, hk2 _ _ z3⟩, z4.at fun o q => hk2 _ o q, z5.at fun o q => hk2 _ o q⟩, fun b hb => ?_, q⟩
  have hb' : s1.heap.objs.size ≤ b := by
    simp only [List.mem_cons, List.mem_nil_iff, or_false] at hb
    have key : ∀ n c : Nat, (c = n + 5 ∨ c = n + 4 ∨ c = n + 2 ∨ c = n + 3 ∨ c = n ∨ c = n + 1) → n ≤ c := fun n c h => by omega
    exact key _ _ hb
  exact I1.fpOk hb' (I1.hok.fresh hb')⟩
section
variable {σ : St} {H : Hp} {K : PySem.W.Frag}
theorem r_enumZip {a : TA} {R : It → Hp → Prop} (h : a σ H fun vs H1 => ∃ a b xs ys, vs = [.ref a, .ref b] ∧ SqL K H1 a xs ∧ SqL K H1 b ys ∧ R (ItEZ K a b) H1) : iEnumZip K a σ H R := h
theorem for_enumZ {a b : Addr} {xs ys : List V} {g : TG} {tb : TS} {D : Ends} (Pv : Nat → St → Hp → Prop) (hl : xs.length = ys.length) (h0 : Pv 0 σ H) (hq : ∀ i σ H, i ≤ xs.length → Pv i σ H → SqL K H a xs ∧ SqL K H b ys)
    (hs : ∀ i σ H Z T x y, xs[i]? = some x → ys[i]? = some y → Pv i σ H → H Z = none → upd H Z (.tup [x, y]) T = none → g (.ref T) σ (upd (upd H Z (.tup [x, y])) T (.tup [.int i, .ref Z])) fun σ2 H2 => tb { D with nx := Pv (i + 1), ct := Pv (i + 1), bk := D.nx } σ2 H2) (hd : ∀ σ H, Pv xs.length σ H → D.nx σ H) :
    ∃ W : Nat → Nat → St → Hp → Prop, (∃ m, W 0 m σ H) ∧ ∀ i m σ H, W i m σ H →
      ((ItEZ K a b).stop i H ∧ D.nx σ H) ∨ ((ItEZ K a b).go i H ∧ ∃ N : St → Hp → Prop, (∀ σ' H', N σ' H' → ∃ m', m' < m ∧ W (i + 1) m' σ' H') ∧ ∀ z H', (ItEZ K a b).yld i H z H' → g z σ H' fun σ2 H2 => tb { D with nx := N, ct := N, bk := D.nx } σ2 H2) := by
  refine ⟨fun i m σ H => m = xs.length - i ∧ i ≤ xs.length ∧ Pv i σ H, ⟨xs.length, by simp, Nat.zero_le _, h0⟩, ?_⟩
  rintro i m σ H ⟨rfl, hi, p⟩
  obtain ⟨q1, q2⟩ := hq i σ H hi p
  by_cases hlt : i < xs.length
  · refine .inr ⟨⟨xs, ys, xs[i], ys[i]'(by omega), q1, q2, List.getElem?_eq_getElem hlt, List.getElem?_eq_getElem (by omega)⟩, Pv (i + 1), fun σ' H' p' => ⟨xs.length - (i + 1), by omega, rfl, hlt, p'⟩, fun z H' y => ?_⟩
    obtain ⟨Z, T, x, y, hZ, hT, e1, e2, e3, e4⟩ := y
    subst e1 e4
    exact hs i σ H Z T x y (e2 xs q1) (e3 ys q2) p hZ hT
  · have e : i = xs.length := by omega
    subst e
    exact .inl ⟨⟨xs, q1, rfl⟩, hd σ H p⟩
end
end L2

namespace L2
open PySem PySem.Spec PyProof.Rows
open PySem.Sem (wp)
theorem entry_unchain : entryFor table "proto.unchain" = some Builtin.«proto.unchain» := entryFor_of_fast (by kernel_rfl)
section
variable {prog : Program} {w : World} {A : Around} {E : Value → Shared → Prop} {s : Shared}
theorem wpAny_unchain {e x C : Addr} {dd : Option Addr} {vs : Array Value} {Q : Value → Shared → Prop} (hx : s.heap.get? x = some (XObj C dd vs)) (h2 : vs[2]? = some .none) (h : Q .none s) :
    wpAny (model prog w) A (runValue (.builtin "proto.unchain" ⟨[.ref e, .ref x, .ref x, .bool false], []⟩)) Q E s := by
  refine wpAny_runValue (codeAny_builtin entry_unchain ?_)
  show wpAny _ _ (field (.ref x) 2 >>= _) _ _ _
  refine wpAny_bind (wpAny_field hx rfl h2 ?_)
  exact wpAny_pure h
theorem pyNext_list_endH {it l x C : Addr} {dd : Option Addr} {vs : Array Value} {i : Nat} {items : Array Value} {Q : Option Value → Shared → Prop} (hh : A.handled = some (.ref x)) (hx : s.heap.get? x = some (XObj C dd vs)) (h2 : vs[2]? = some .none)
    (hit : s.heap.IsListIter it l i) (hl : s.heap.IsList l items) (hxx : items[i]? = none)
    (hQ : ∀ h', Heap.ExtBut it s.heap h' → Q none { s with heap := h' }) : wpAny (model prog w) A (pyNext (.ref it)) Q E s := by
  obtain ⟨o, ho, hc, hd⟩ := id hit
  obtain ⟨ol, hol, _, nl, hdl⟩ := hl
  have nxi : x ≠ it := fun z => by
    rw [z, ho] at hx
    have := Option.some.inj hx
    rw [this] at hc
    cases hc
  unfold pyNext
  refine wpAny_bind (wpAny_attempt (wpAny_callSpecial?_slot (name := Str.ofString "__next__") hit.typeIs slot_listiter_next
    (wpAny_call_entry slot_listiter_next hit.typeIs entry_listiter_next ?_ (args_listiter_next _))))
  show wpAny _ _ (field (.ref it) 0 >>= _) _ _ s
  refine wpAny_bind (wpAny_field ho hd (x := .ref l) rfl ?_)
  show wpAny _ _ (if (Value.ref l == Value.none) = true then _ else _) _ _ s
  rw [if_neg (show ¬ ((Value.ref l == Value.none) = true) from Bool.false_ne_true)]
  show wpAny _ _ (field (.ref it) 1 >>= _) _ _ s
  refine wpAny_bind (wpAny_field ho hd (x := .int i 0) rfl ?_)
  show wpAny _ _ (seqItems? (.ref l) >>= _) _ _ s
  refine wpAny_bind (wpAny_seqItems hol hdl ?_)
  simp only [Int.toNat_natCast, hxx]
  refine wpAny_bind (wpAny_rule (wpAny_bind (wpAny_setField ho hd (by simp) ?_)))
  show wpAny _ _ (newExc (.type "StopIteration") [] >>= _) _ _ _
  refine wpAny_bind ?_
  simp only [newExc, newTuple]
  refine wpAny_bind (wpAny_newObj_type ?_ (by size_fits))
  refine wpAny_bind (m := firstArgMember _ _) (wpAny_of_eq (a := Value.none) (by first | rfl | (simp only [firstArgMember]; rfl)) ?_)
  refine wpAny_newObj_type ?_ (by size_fits)
  have x1 := (Heap.get?_update_other (h := s.heap) (Obj.mapFields (·.setIfInBounds 0 Value.none)) (fun z : it = x => nxi z.symm)).trans hx
  simp only [raiseNew]
  refine wpAny_bind (wpAny_handled ?_)
  rw [show A.in1.handled = some (.ref x) from hh]
  have xlt : x < ((s.heap.update it (Obj.mapFields (·.setIfInBounds 0 Value.none))).push { cls := .type "tuple", data := .seq #[] }).objs.size := by
    rw [Heap.size_push]; exact Nat.lt_succ_of_lt (Heap.lt_size x1)
  have x2 : ∀ o, (((s.heap.update it (Obj.mapFields (·.setIfInBounds 0 Value.none))).push { cls := .type "tuple", data := .seq #[] }).push o).get? x = some (XObj C dd vs) := fun o => Heap.get?_push_of_some _ (Heap.get?_push_of_some _ x1)
  have eb : ∀ o, Heap.ExtBut it s.heap (((s.heap.update it (Obj.mapFields (·.setIfInBounds 0 Value.none))).push { cls := .type "tuple", data := .seq #[] }).push o) := fun o => (((Heap.SameBut.update ..).extBut.push _).push _)
  have zsz : s.heap.objs.size ≤ ((s.heap.update it (Obj.mapFields (·.setIfInBounds 0 Value.none))).push { cls := .type "tuple", data := .seq #[] }).objs.size := by rw [Heap.size_push, Heap.size_update]; exact Nat.le_succ _
  generalize (s.heap.update it (Obj.mapFields (·.setIfInBounds 0 Value.none))).push { cls := .type "tuple", data := .seq #[] } = g at xlt x2 eb zsz ⊢
  show wpAny _ _ (if (Value.ref x != Value.ref g.objs.size) = true then _ else _) _ _ _
  rw [if_pos (by simp; exact Nat.ne_of_lt xlt)]
  refine wpAny_bind (wpAny_holding (wpAny_unchain (x2 _) h2 ?_))
  refine wpAny_bind ?_
  unfold updateField
  refine wpAny_bind (wpAny_load (Heap.get?_push_size _ rfl) ?_)
  show wpAny _ _ (if 2 < _ then _ else _) _ _ _
  rw [if_pos (by simp; omega)]
  refine wpAny_update (Heap.get?_push_size _ rfl) (wpAny_throw ?_)
  refine wpAny_bind (wpAny_isInstance (T := "StopIteration") (b := true) ⟨_, Heap.get?_update_self _ (Heap.get?_push_size _ rfl) rfl, rfl⟩ isSubtype_stop ?_)
  refine wpAny_pure (hQ _ fun b o nb q => ?_)
  rw [Heap.get?_update_other _ _ (fun z => absurd (Heap.lt_size q) (by rw [← z]; exact Nat.not_lt.mpr zsz))]
  exact eb _ b o nb q
end
structure TurnU (P : Program) (w : World) (K : PySem.W.Frag) (tg : Expr) (J : It) (fp : List Addr) (it : Addr) (tn : Nat → Heap → Prop) (xh : Addr) : Prop where
  mem : it ∈ fp
  obj : ∀ i h, tn i h → ∀ b ∈ fp, ∃ o, h.get? b = some o ∧ ∀ v, o.data ≠ .cell v
  keep : ∀ i h h', tn i h → (∀ b ∈ fp, ∀ o, h.get? b = some o → h'.get? b = some o) → tn i h'
  item : ∀ (X : Cx), X.prog = P → X.w = w → X.K = K → X.A.handled = some (.ref xh) → ∀ (i : Nat) (pins : List (Addr × Obj)) (s : Shared) (σ : St) (H : Hp) (E : Value → Shared → Prop), Inv X pins σ H s → (∀ b ∈ fp, FpOk X pins H b) → tn i s.heap → J.go i H →
    wpAny (model P w) X.A (pyNext (.ref it)) (fun r s1 => ∃ u, r = some u ∧
      wpAny (model P w) X.A (letOwnedTupleGo tg (.ref it) u) (fun _ s2 => ∃ x H', Inv X pins σ H' s2 ∧ RelV x u ∧ J.yld i H x H' ∧ tn (i + 1) s2.heap ∧ ∀ b ∈ fp, H' b = none) E s1) E s
  done : ∀ (X : Cx), X.prog = P → X.w = w → X.K = K → X.A.handled = some (.ref xh) → ∀ (i : Nat) (pins : List (Addr × Obj)) (s : Shared) (σ : St) (H : Hp) (E : Value → Shared → Prop), Inv X pins σ H s → (∀ b ∈ fp, FpOk X pins H b) → tn i s.heap → J.stop i H →
    wpAny (model P w) X.A (pyNext (.ref it)) (fun r s1 => r = none ∧ Inv X pins σ H s1) E s
  self : ∀ (A : Around) (i : Nat) (s : Shared) (Q : Value → Shared → Prop) (E : Value → Shared → Prop), tn i s.heap → Q (.ref it) s → wpAny (model P w) A (pyIter (.ref it)) Q E s
noncomputable def ItlU (K : PySem.W.Frag) (a xh : Addr) : It := ⟨(Itl K a).go, (Itl K a).yld, fun i H => (∃ xs, SqL K H a xs ∧ xs.length ≤ i) ∧ ∃ C fs, IsX H xh C fs⟩
theorem turn_listU {P : Program} {w : World} {K : PySem.W.Frag} {tg : Expr} (a it xh : Addr) : TurnU P w K tg (ItlU K a xh) [it] it (fun i h => h.IsListIter it a i) xh where
  mem := by simp
  obj := (turn_list (P := P) (w := w) (K := K) (tg := tg) a it).obj
  keep := (turn_list (P := P) (w := w) (K := K) (tg := tg) a it).keep
  self := (turn_list (P := P) (w := w) (K := K) (tg := tg) a it).self
  item := by
    intro X hP hw hK hc i pins s σ H E I hf st hg
    subst hP hw hK
    obtain ⟨xs, x, hq, hx⟩ := hg
    obtain ⟨its, rv, p, hz⟩ := I.list hq
    obtain ⟨u, hu, ru⟩ := rv.get hx
    obtain ⟨f0, f1, f2, f3, f4, f5⟩ := hf it (by simp)
    refine wpAny_pyNext_list_item st p.isList (x := u) (by simpa using hu) fun h' st' sb => ?_
    have I1 : Inv X pins σ H { s with heap := h' } := I.turned (t' := s.toks) (fun b o hb e => (sb.2 b hb).trans e) f0 f1 f3 f4 f5
    obtain ⟨o, e, c, d⟩ := id st'
    exact ⟨u, rfl, go_of (s := { s with heap := h' }) e c d (by decide) ⟨x, H, I1, ru, ⟨rfl, fun ys hy => by rw [I.list_inj hy hq]; exact hx⟩, st', fun b hb => (hf b hb).1⟩⟩
  done := by
    intro X hP hw hK hc i pins s σ H E I hf st hg
    subst hP hw hK
    obtain ⟨⟨xs, hq, hx⟩, C, fs, d, e1, e2⟩ := hg
    obtain ⟨its, rv, p, hz⟩ := I.list hq
    obtain ⟨vs, hxo, h2⟩ := excO_of I.hok e1
    have l1 := rv.length
    refine pyNext_list_endH hc hxo h2 st p.isList (by simp; omega) fun h' he => ⟨rfl, I.only (tk := s.toks) hf fun b o hb q => he b o (by simpa using hb) q⟩
noncomputable def PIEU (X : Cx) (pins : List (Addr × Obj)) (σ : St) (tg : Expr) (R : It → Hp → Prop) (xh : Addr) (itv : Value) (s2 : Shared) : Prop :=
  ∃ (it : Addr) (fp : List Addr) (tn : Nat → Heap → Prop) (J : It) (H' : Hp), itv = .ref it ∧ Inv X pins σ H' s2 ∧ TurnU X.prog X.w X.K tg J fp it tn xh ∧ tn 0 s2.heap ∧ (∀ b ∈ fp, FpOk X pins H' b) ∧ R J H'
noncomputable def PIU (X : Cx) (tg iter : Expr) (wi : TI) (xh : Addr) : Prop :=
  ∀ (pins : List (Addr × Obj)) (s : Shared) (σ : St) (H : Hp) (R : It → Hp → Prop), Inv X pins σ H s → wi σ H R →
    wpAny (model X.prog X.w) X.A (eval iter X.env) (fun v s1 => wpAny (model X.prog X.w) X.A (pyIter v) (PIEU X pins σ tg R xh) X.xe s1) X.xe s
noncomputable def iListU (K : PySem.W.Frag) (xh : Addr) (tl : TE) : TI := fun σ H R => tl σ H fun x H1 => ∃ a, x = .ref a ∧ (∃ xs, SqL K H1 a xs) ∧ R (ItlU K a xh) H1
theorem pi_listU {X : Cx} {tg l : Expr} {tl : TE} {xh : Addr} (hl : PE X l tl) : PIU X tg l (iListU X.K xh tl) xh := by
  intro pins s σ H R I h
  refine thn (hl pins s σ H _ I h) fun v s1 qq0 => ?_
  obtain ⟨x, H1, I1, r1, q1⟩ := qq0
  obtain ⟨a, e, ⟨xs, hq⟩, q⟩ := q1
  subst e
  cases r1
  obtain ⟨its, rv, p, hz⟩ := I1.list hq
  refine wpAny_pyIter_list p.isList ?_
  refine ⟨s1.heap.objs.size, [s1.heap.objs.size], _, _, H1, rfl, I1.kept (t' := s1.toks) fun b o e => Heap.get?_push_of_some _ e, turn_listU a _ xh, ⟨_, Heap.get?_push_size _ rfl, rfl, rfl⟩, fun b hb => ?_, q⟩
  have e : b = s1.heap.objs.size := by simpa using hb
  subst e
  exact I1.fpOk (Nat.le_refl _) (I1.hok.fresh (Nat.le_refl _))
section
variable {X : Cx} {tg iter elt : Expr} {ifs : List Expr} {scope : Scope} {pos : Pos} {N' : List Str} {sub : List (Option Nat)} {wi : TI} {g : TG} {tt : TT} {te : TE}
theorem pe_compU {xh : Addr} {N : List Str} {sc : Scope} (S : SubOk N sc N' scope sub) (hc : X.A.handled = some (.ref xh)) (hN : X.N = N) (hsc : X.env.scope = sc) (hi : PIU X tg iter wi xh)
    (hg : ∀ (C : Addr) (s₀ : Shared) (H₀ : Hp) (ex : List Addr), PG (cxC X N' scope C s₀ H₀ ex) tg g)
    (ht : ∀ (C : Addr) (s₀ : Shared) (H₀ : Hp) (ex : List Addr), PIfs (cxC X N' scope C s₀ H₀ ex) ifs tt)
    (he : ∀ (C : Addr) (s₀ : Shared) (H₀ : Hp) (ex : List Addr), PE (cxC X N' scope C s₀ H₀ ex) elt te)
    (hs : autoParam (∀ x, foldedSetIterable iter X.env x = pure x) L2.auto3._auto_1) :
    PE X (.ListComp elt [⟨tg, iter, ifs, 0⟩] scope pos) (tComp sub wi g tt te) := by
  intro pins s σ H Q I h
  rw [eval_ListComp]
  have hcl : ∀ x ∈ scope.names, x.2 = NameKind.free → ∃ c, X.env.cells.lookup x.1 = some c := fun x hx hk => I.ok.has x.1 (by have := S.free x hx hk; rw [← hsc] at this; exact this)
  refine wpAny_comprehension_free (use := none) rfl hs (closureFor_cl hcl) S.kind S.loc ?_
  refine thn (hi pins s σ H _ I h) fun v s1 h1 => thn h1 fun itv s2 h2 => ?_
  obtain ⟨it, fp, tn, J, H2, e, I2, T, st2, f2, W, ⟨m0, w0⟩, turn⟩ := h2
  subst e
  refine wpAny_newObj_type (wpAny_newFunctionEnv S.nocell (by intro y hy; simp at hy) (fun h₁ hns₁ hsb₁ => ?_) S.kind)
  dsimp only at hns₁ hsb₁ ⊢
  generalize hs3 : ({ s2 with heap := s2.heap.push { cls := .type "list", dict := none, data := .seq ([] : List Value).toArray } } : Shared) = s3
  have e3 : s2.heap.push { cls := .type "list", dict := none, data := .seq ([] : List Value).toArray } = s3.heap := by rw [← hs3]
  rw [e3] at hns₁ hsb₁ ⊢
  have hD3 : s3.heap.get? s2.heap.objs.size = some { cls := .type "list", dict := none, data := .seq ([] : List Value).toArray } := by rw [← e3]; exact Heap.get?_push_size _ rfl
  have I3 : Inv X pins σ H2 s3 := by
    rw [← hs3]
    exact I2.kept (t' := s2.toks) fun b o e => Heap.get?_push_of_some _ e
  have k23 : ∀ b o, s2.heap.get? b = some o → s3.heap.get? b = some o := fun b o e => by rw [← e3]; exact Heap.get?_push_of_some _ e
  have hsz : s3.heap.objs.size = s2.heap.objs.size + 1 := by rw [← e3, Heap.size_push]
  have hk31 : ∀ b o, s3.heap.get? b = some o → h₁.get? b = some o := fun b o e => hsb₁.extBut b o (Nat.ne_of_lt (Heap.lt_size e)) (Heap.get?_push_of_some _ e)
  have hDn : H2 s2.heap.objs.size = none := I2.hok.fresh (Nat.le_refl _)
  have fD : FpOk X pins H2 s2.heap.objs.size := I2.fpOk (Nat.le_refl _) hDn
  have hfo : ∀ b ∈ fp, b < s2.heap.objs.size := fun b hb => let ⟨o, e, _⟩ := T.obj _ _ st2 b hb; Heap.lt_size e
  have hDfp : s2.heap.objs.size ∉ fp := fun z => absurd (hfo _ z) (Nat.lt_irrefl _)
  have I4 := inv_block (tk := s3.toks + ([] : List (Str × Value)).length) S hN hsc I3 f2 (fun b hb => by rw [hsz]; exact Nat.lt_succ_of_lt (hfo b hb)) (D := s2.heap.objs.size) (by rw [hsz]; exact Nat.lt_succ_self _) fD hns₁ hk31
  -- facts of the block
  have stat : ∀ {H' : Hp} {ob : Obj}, (∀ b ∈ fp, H' b = none) → ∀ b ∈ fp, FpOk (cxC X N' scope s3.heap.objs.size s3 H2 (s2.heap.objs.size :: fp)) [(s2.heap.objs.size, ob)] H' b := fun {H' ob} hn b hb => by
    obtain ⟨q1, q2⟩ := I4.ok.exf b (List.mem_cons_of_mem _ hb)
    refine ⟨hn b hb, q1, I4.ok.exfs b (List.mem_cons_of_mem _ hb), .inl (List.mem_cons_of_mem _ hb), q2, fun p hp z => ?_⟩
    have hp' : p = (s2.heap.objs.size, ob) := by simpa [cxC] using hp
    subst hp'
    have z' : s2.heap.objs.size = b := z
    exact hDfp (by rw [z']; exact hb)
  generalize hXC : cxC X N' scope s3.heap.objs.size s3 H2 (s2.heap.objs.size :: fp) = XC at I4 stat
  have eP : XC.prog = X.prog := by rw [← hXC]; rfl
  have eW : XC.w = X.w := by rw [← hXC]; rfl
  have eK : XC.K = X.K := by rw [← hXC]; rfl
  have eA : XC.A = X.A := by rw [← hXC]; rfl
  have eE : XC.env = compEnvC scope (clOf X.env scope.names []) s3.heap.objs.size X.env := by rw [← hXC]; rfl
  have eC : XC.A.handled = some (.ref xh) := by rw [← hXC]; exact hc
  have eX : XC.xe = fun _ _ => False := by rw [← hXC]; rfl
  have eH : XC.H₀ = H2 := by rw [← hXC]; rfl
  have eS : XC.s₀ = s3 := by rw [← hXC]; rfl
  have eF : XC.fs = frs X.stack := by rw [← hXC]; rfl
  have eEx : XC.ex = s2.heap.objs.size :: fp := by rw [← hXC]; rfl
  have ePn : XC.pn = [] := by rw [← hXC]; rfl
  have hgC : PG XC tg g := by rw [← hXC]; exact hg _ _ _ _
  have htC : PIfs XC ifs tt := by rw [← hXC]; exact ht _ _ _ _
  have heC : PE XC elt te := by rw [← hXC]; exact he _ _ _ _
  have pinD : ∀ {σ' : St} {H' : Hp} {s' : Shared} {ob : Obj}, Inv XC [] σ' H' s' → H' s2.heap.objs.size = none → s'.heap.get? s2.heap.objs.size = some ob → (∀ v, ob.data ≠ .cell v) → Inv XC [(s2.heap.objs.size, ob)] σ' H' s' := fun {σ' H' s' ob} J hn hg hd =>
    J.pins_of fun p hp => by
      have hp' : p = (s2.heap.objs.size, ob) := by simpa using hp
      subst hp'
      refine ⟨hg, hn, (J.ok.exf _ (by rw [eEx]; exact List.mem_cons_self)).1, J.ok.exfs _ (by rw [eEx]; exact List.mem_cons_self), hd⟩
  have loop : codeAny (model X.prog X.w) X.A (.compLoop (.ListComp elt [⟨tg, iter, ifs, 0⟩] scope pos) 0 (.ref it) (.ref s2.heap.objs.size) (compEnvC scope (clOf X.env scope.names []) s3.heap.objs.size X.env))
      (compPost (model X.prog X.w) X.A X.xe none (EP X pins σ Q) (.ref s2.heap.objs.size) s3.heap.objs.size) { s3 with heap := h₁, toks := s3.toks + ([] : List (Str × Value)).length } := by
    refine comp_loop (fun n s' => ∃ (i : Nat) (ys : List V) (its : List Value) (nn : Nat) (H' : Hp), Inv XC [] (subSt sub σ) H' s' ∧ tn i s'.heap ∧ (∀ b ∈ fp, H' b = none) ∧ H' s2.heap.objs.size = none ∧
      s'.heap.get? s2.heap.objs.size = some { cls := .type "list", data := .seq its.toArray nn } ∧ Vals ys its ∧ W i n ys H') ?_ m0
      ⟨0, [], [], _, H2, I4, T.keep _ _ _ st2 fun b _ o e => hk31 b o (k23 b o e), fun b hb => (f2 b hb).1, hDn, hk31 _ _ hD3, .nil, w0⟩
    rintro n s4 ⟨i, ys, its, nn, H4, J4, st4, fr4, dn4, dg4, rv4, w4⟩
    have P4 := pinD J4 dn4 dg4 (fun v z => by cases z)
    rcases turn i n ys H4 w4 with ⟨stop, hyl, qn⟩ | ⟨go, hyl, N, hN, step⟩
    · have hdone := T.done XC eP eW eK eC i _ s4 _ H4 (fun _ _ => False) P4 (stat fr4) st4 stop
      rw [eA] at hdone
      refine wpAny_mono hdone (fun r s5 ⟨hr, I5⟩ => ?_) fun _ _ z => z
      subst hr
      -- the end
      obtain ⟨m, hn, _⟩ := id I5.loc
      have hCe : XC.env.locals = s3.heap.objs.size := by rw [eE]; rfl
      rw [hCe] at hn
      refine ⟨m, hn, fun h6 hs6 => ?_⟩
      have hDg := (I5.pin (s2.heap.objs.size, _) (by rw [ePn]; exact List.mem_cons_self)).1
      have hDne : s2.heap.objs.size ≠ s3.heap.objs.size := by rw [hsz]; exact Nat.ne_of_lt (Nat.lt_succ_self _)
      have hHC : H4 s3.heap.objs.size = none := by have := I5.free; rw [hCe] at this; exact this
      have k56 : ∀ b o, b ≠ s3.heap.objs.size → s5.heap.get? b = some o → h6.get? b = some o := fun b o hb e => hs6.extBut b o hb e
      have un := I5.base
      rw [eF, eEx, eH, eS] at un
      have nC : ∀ b o, s3.heap.get? b = some o → b ≠ s3.heap.objs.size := fun b o e => Nat.ne_of_lt (Heap.lt_size e)
      have hok6 : HOk X.prog X.w (upd H4 s2.heap.objs.size (.lst ys)) h6 := by
        have h5 := I5.hok
        rw [eP, eW] at h5
        have trk : ∀ b u, H4 b = some u → b ≠ s3.heap.objs.size := fun b u e z => by rw [z, hHC] at e; cases e
        intro b u e
        by_cases hb : b = s2.heap.objs.size
        · subst hb
          rw [upd_same] at e; cases e
          exact ⟨hyl, its, nn, rv4, k56 _ _ hDne hDg⟩
        · rw [upd_ne hb] at e
          have nD : ∀ c u, H4 c = some u → c ≠ s2.heap.objs.size := fun c u e z => by rw [z, dn4] at e; cases e
          refine (h5 b u e).stay (fun c v hc' q => k56 c v ?_ q) (fun c q => by rw [upd_ne (nD c _ q)]; exact q) fun c xs q => by rw [upd_ne (nD c _ q)]; exact q
          rcases hc' with z | z
          · rw [z]; exact trk b u e
          · exact trk c _ z
      have nD2 : ∀ c u, H4 c = some u → c ≠ s2.heap.objs.size := fun c u e z => by rw [z, dn4] at e; cases e
      have un6 : Un (frs X.stack) (s2.heap.objs.size :: fp) H2 (upd H4 s2.heap.objs.size (.lst ys)) s3.heap h6 :=
        ⟨fun b o e nn' hb hx => k56 b o (nC b o e) (un.keep b o e nn' hb hx), fun b o e nn' hb hx => let ⟨sl, q⟩ := un.slot b o e nn' hb hx; ⟨sl, k56 b _ (nC b o e) q⟩,
          fun b o e nn' hx => by rw [upd_ne (fun z => hx (by rw [z]; exact List.mem_cons_self))]; exact un.free b o e nn' hx,
          fun b o e hx => let ⟨o', q⟩ := un.there b o e hx; ⟨o', k56 b o' (nC b o e) q⟩,
          fun b xs e => by have q := un.tups b xs e; rw [upd_ne (nD2 b _ q)]; exact q,
          fun b o u e => by have q := un.frzs b o u e; rw [upd_ne (nD2 b _ q)]; exact q,
          fun b ps e => let ⟨more, q⟩ := un.tbls b ps e; ⟨more, by rw [upd_ne (nD2 b _ q)]; exact q⟩⟩
      have I6 : Inv X pins σ (upd H4 s2.heap.objs.size (.lst ys)) { s5 with heap := h6 } := by
        refine I3.call' (s' := { s5 with heap := h6 }) (ch := s2.heap.objs.size :: fp) ?_ un6 hok6 I5.bare fun b hb => ?_
        · show s5.os = s3.os
          have := I5.os
          rw [eS] at this
          exact this
        · have q : FpOk X pins H2 b := by
            rcases List.mem_cons.mp hb with rfl | z
            · exact fD
            · exact f2 b z
          obtain ⟨f0, f1, f2', f3, f4, f5⟩ := q
          exact ⟨f3, f1, f4, f5⟩
      exact ⟨.ref s2.heap.objs.size, _, I6, rfl, qn _ dn4⟩
    · have hitem := T.item XC eP eW eK eC i _ s4 _ H4 (fun _ _ => False) P4 (stat fr4) st4 go
      rw [eA] at hitem
      refine wpAny_mono hitem (fun r s5 ⟨u, hr, h5⟩ => ?_) fun _ _ z => z
      subst hr
      dsimp only
      refine wpAny_mono h5 (fun _ s6 ⟨x, H6, I6, r6, y6, st6, fr6⟩ => ?_) fun _ _ z => z
      have P6 := I6.pinned (stat fr6) (T.obj _ _ st6)
      rw [← eE, ← eP, ← eW, ← eA]
      refine wpAny_mono (hgC _ s6 _ H6 x u _ P6 r6 (step x H6 y6)) (fun _ s7 ⟨σ7, H7, I7, kp7, q7⟩ => ?_) fun _ _ z => by rw [eX] at z; exact z
      refine wpAny_mono (htC _ s7 σ7 H7 _ I7 q7) (fun ok s8 ⟨H8, I8, q8⟩ => ?_) fun _ _ z => by rw [eX] at z; exact z
      -- back to the turn's start
      have fin : ∀ {H9 : Hp} {s9 : Shared}, Inv XC ([(s2.heap.objs.size, ({ cls := .type "list", data := .seq its.toArray nn } : Obj))] ++ pinsAt fp s6.heap) σ7 H9 s9 → Inv XC [] (subSt sub σ) H9 s9 ∧ tn (i + 1) s9.heap ∧ (∀ b ∈ fp, H9 b = none) ∧ H9 s2.heap.objs.size = none ∧
          s9.heap.get? s2.heap.objs.size = some { cls := .type "list", data := .seq its.toArray nn } := fun {H9 s9} J => by
        have pD := J.pin (s2.heap.objs.size, ({ cls := .type "list", data := .seq its.toArray nn } : Obj)) (by rw [ePn]; simp)
        have pF : ∀ b ∈ fp, ∀ o, s6.heap.get? b = some o → s9.heap.get? b = some o ∧ H9 b = none := fun b hb o e => by
          have q := J.pin (b, o) (by rw [ePn]; exact List.mem_append_right _ (List.mem_append_right _ (mem_pinsAt hb e)))
          exact ⟨q.1, q.2.1⟩
        refine ⟨?_, T.keep _ _ _ st6 fun b hb o e => (pF b hb o e).1, fun b hb => ?_, pD.2.1, pD.1⟩
        · have J0 : Inv XC [] σ7 H9 s9 := J.pins_of fun p hp => nomatch hp
          exact J0.weak kp7.1.symm fun j v e => kp7.2 j v e
        · obtain ⟨o, e, _⟩ := T.obj _ _ st6 b hb
          exact (pF b hb o e).2
      cases ok with
      | false =>
        rw [if_neg (by simp)]
        rw [if_neg (by simp)] at q8
        obtain ⟨m', hm, w8⟩ := hN _ _ q8
        obtain ⟨a1, a2, a3, a4, a5⟩ := fin I8
        exact ⟨m', hm, i + 1, ys, its, nn, H8, a1, a2, a3, a4, a5, rv4, w8⟩
      | true =>
        rw [if_pos rfl]
        rw [if_pos rfl] at q8
        refine wpAny_mono (heC _ s8 σ7 H8 _ I8 q8) (fun xv s9 ⟨y, H9, I9, r9, n9⟩ => ?_) fun _ _ z => by rw [eX] at z; exact z
        obtain ⟨m', hm, w9⟩ := hN _ _ n9
        obtain ⟨a1, a2, a3, a4, a5⟩ := fin I9
        refine wpAny_list_append_plain (items := its.toArray) ⟨nn, a5⟩ (fun h' ⟨n', hp'⟩ sb => ?_) (by simp; rw [← rv4.length]; omega)
        obtain ⟨q1, q2⟩ := I4.ok.exf s2.heap.objs.size (by rw [eEx]; exact List.mem_cons_self)
        have a1' : Inv XC [] (subSt sub σ) H9 { s9 with heap := h' } := a1.turned (t' := s9.toks) (fun b o hb e => (sb.2 b hb).trans e) a4 q1 (.inl (by rw [eEx]; exact List.mem_cons_self)) q2 (fun p hp => by rw [ePn] at hp; exact nomatch hp)
        refine ⟨m', hm, i + 1, ys ++ [y], its ++ [xv], n', H9, a1', T.keep _ _ _ a2 fun b hb o e => (sb.2 b (fun z => hDfp (by rw [← z]; exact hb))).trans e, a3, a4, ?_, rv4.append (.cons r9 .nil), w9⟩
        rw [hp']
        simp
  subst hs3
  exact codeAny_compStart_list loop (T.self _ 0 _ _ _ (T.keep _ _ _ st2 fun b _ o e => hk31 b o (k23 b o e)) loop)
end
structure FnV (P : Program) (w : World) (K : PySem.W.Frag) (mg : Str → Option Value) (base : Heap) (k : Nat) (f : Addr) (fd : FuncData) (ps : List Str) (sp : Addr → Sp) : Prop where
  len : ∀ xh vs H Q E, sp xh vs H Q E → vs.length = ps.length
  run : ∀ (A : Around) (outer : List Env) (s : Shared) (H : Hp) (args : Args) (us : List Value) (vs : List V) (Q : VK) (E : XK) (xh : Addr), A.handled = some (.ref xh) → RoomU k A → Env0 P w K mg base A outer s H → BindsTo s fd args (ps.zip us) → Vals vs us → sp xh vs H Q E →
    codeAny (model P w) A (.call (.ref f) args) (CR CX0 outer P w H s Q E) s
theorem fn_ofV {P : Program} {w : World} {K : PySem.W.Frag} {mg : Str → Option Value} {base : Heap} {k : Nat} {f : Addr} {name qual : Str} {params : Arguments} {body : List Stmt} {scope : Scope} {dV kV doc pm cdv ct oc : Value} {an od : Option Addr}
    {osl : Array (Option Value)} {N ps : List Str} {sp : Addr → Sp} (lk : K.lookup f = some ⟨oc, od, .func (PySem.W.fnOf name qual params body scope dV kV doc pm an cdv ct), osl⟩) (hcd : PySem.W.codeIn K cdv qual = true) (S : FnScope N ps scope)
    (len : ∀ xh vs H Q E, sp xh vs H Q E → vs.length = ps.length)
    (hbody : ∀ (A : Around) (outer : List Env) (s : Shared) (H : Hp) (vs : List V) (Q : VK) (E : XK) (xh : Addr), A.handled = some (.ref xh) → RoomU k (A.deeper (envOfC qual scope s.heap.objs.size f cdv)) → sp xh vs H Q E →
      ∃ t, PSs (cxU P w K mg base N qual scope f cdv A outer s H E) body t ∧ t { nx := fun _ H' => Q .non H', rt := Q } (start N vs) H) :
    FnV P w K mg base (k + 1) f (PySem.W.fnOf name qual params body scope dV kV doc pm an cdv ct) ps sp := by
  refine ⟨len, fun A outer s H args us vs Q E xh hh hr e0 hb r hsp => ?_⟩
  have hl := len _ _ _ _ _ hsp
  have KX : K.In s.heap := e0.mod.kin.keeps fun b o e => (e0.bs b o e).1
  have lim : s.heap.NoLimit := e0.mod.nolimit.keeps fun b o e => (e0.bs b o e).1
  have hkind : ∀ y ∈ ps.zip us, scope.names.lookup y.1 = some .local ∨ (scope.names.lookup y.1 = some .cell ∧ ((cellsFrom (s.heap.objs.size + 1) scope.names []).lookup y.1).isSome = true) := fun ⟨n, v⟩ hy => by
    rcases S.par n (List.of_mem_zip hy).1 with q | q
    · exact .inl q
    · exact .inr ⟨q, PySem.W.cellsFrom_some _ _ _ (.inl q)⟩
  refine codeAny_call_function hr.depth (KX _ _ lk) rfl S.co S.gen rfl (PySem.W.codeRec_of KX hcd) (hb _ _ _ _ ?_)
  refine wpAny_newFunctionEnv_cells S.kind hkind fun env he s1 x => ?_
  subst he
  refine ⟨lim.keeps x.toInCall.keep, codeAny_func ?_⟩
  obtain ⟨t, ht, hq⟩ := hbody A outer s H vs Q E xh hh (hr.deeper _) hsp
  have I : Inv (cxU P w K mg base N qual scope f cdv A outer s H E) [] (start N vs) H s1 := inv_startU S e0 hl r x
  refine wpAny_mono (ht [] s1 (start N vs) H _ I hq) (fun fl s' hs => ?_) fun e s' hs => False.elim hs
  have fin : ∀ {σ' : St} {H' : Hp} {v : V} {u : Value}, Inv (cxU P w K mg base N qual scope f cdv A outer s H E) [] σ' H' s' → RelV v u → Q v H' → CE outer P w H s Q u s' :=
    fun {σ' H' v u} J rv q => ⟨v, H', J.os, J.bare, J.base, J.hok, rv, q⟩
  cases fl with
  | ret u =>
    obtain ⟨v, σ', H', J, rv, q⟩ := hs
    exact fin J rv q
  | next =>
    obtain ⟨σ', H', J, q⟩ := hs
    exact fin (v := V.non) (u := Value.none) J rfl q
  | brk =>
    obtain ⟨_, _, _, q⟩ := hs
    exact False.elim q
  | cont =>
    obtain ⟨_, _, _, q⟩ := hs
    exact False.elim q
noncomputable def HasV (P : Program) (w : World) (K : PySem.W.Frag) (mg : Str → Option Value) (base : Heap) (k : Nat) (x : Str) (ps : List Str) (sp : Addr → Sp) : Prop :=
  ∃ f fd, mg x = some (.ref f) ∧ PySem.W.keepIn K (.ref f) = true ∧ Binds K fd ps [] ∧ FnV P w K mg base k f fd ps sp
theorem hasJV {P : Program} {w : World} {K : PySem.W.Frag} {mg : Str → Option Value} {base : Heap} {x : Str} {st : Stmt} {N ps : List Str} {k : Nat} {sp : Addr → Sp} (D : Def K mg x st) (S : FnScope N ps (defScope st))
    (hb : ∀ (kV doc pm : Value) (an : Option Addr) (cdv ct : Value) (us : List Value), us.length = ps.length → bindArgs (PySem.W.fnOf x x (defArgs st) (defBody st) (defScope st) .none kV doc pm an cdv ct) ⟨us, []⟩ = pure (ps.zip us))
    (len : ∀ xh vs H Q E, sp xh vs H Q E → vs.length = ps.length)
    (hbody : ∀ (f : Addr) (cdv : Value) (A : Around) (outer : List Env) (s : Shared) (H : Hp) (vs : List V) (Q : VK) (E : XK) (xh : Addr), A.handled = some (.ref xh) → RoomU k (A.deeper (envOfC x (defScope st) s.heap.objs.size f cdv)) → sp xh vs H Q E →
      ∃ t, JB (cxU P w K mg base N x (defScope st) f cdv A outer s H E) (defBody st) t ∧ t { nx := fun _ H' => Q .non H', rt := Q } (start N vs) H) : HasV P w K mg base (k + 1) x ps sp := by
  obtain ⟨f, fd, F, hm⟩ := D
  refine ⟨f, fd, hm, F.kp, F.binds hb, ?_⟩
  obtain ⟨oc, od, kV, doc, pm, an, cdv, ct, osl, rfl, lk, hcd⟩ := F.ex
  exact fn_ofV lk hcd S len fun A outer s H vs Q E xh hh hr h => let ⟨t, j, q⟩ := hbody f cdv A outer s H vs Q E xh hh hr h; ⟨t, j.run, q⟩
theorem run_fnV {X : Cx} {k : Nat} {f : Addr} {fd : FuncData} {ps : List Str} {sp : Addr → Sp} {pins : List (Addr × Obj)} {σ : St} {H : Hp} {s : Shared} {Q : VK} {us : List Value} {vs : List V} {xh : Addr} (hh : X.A.handled = some (.ref xh)) (F : FnV X.prog X.w X.K X.mg X.base k f fd ps sp) (hr : RoomU k X.A) (hb : Binds X.K fd ps [])
    (I : Inv X pins σ H s) (r : Vals vs us) (h : sp xh vs H Q E0) : wpAny (model X.prog X.w) X.A (call (.ref f) us) (EP X pins σ Q) X.xe s := by
  have hl : us.length = ps.length := by rw [← r.length]; exact F.len _ _ _ _ _ h
  have hb' := hb s us I.kIn (by simpa using hl)
  rw [List.append_nil] at hb'
  refine wpAny_call (codeAny_mono (F.run X.A X.stack s H ⟨us, []⟩ us vs Q E0 xh hh hr I.env0 hb' r h) fun r s' hq => ?_)
  cases r with
  | error e => exact pass0 pins σ H s e s' I hq
  | ok fl =>
    cases fl with
    | ret u => exact I.after hq
    | next => exact False.elim hq
    | brk => exact False.elim hq
    | cont => exact False.elim hq
theorem j_callV {X : Cx} {k : Nat} {x : Str} {ps : List Str} {sp : Addr → Sp} {p pos : Pos} {e : Expr} {es : List Expr} {t : TA} {xh : Addr} (hh : X.A.handled = some (.ref xh)) (F : HasV X.prog X.w X.K X.mg X.base k x ps sp) (hr : RoomU k X.A) (hg : Gl X x) (ha : JA X (e :: es) t) (hdb : (x == ("__debug__" : Str)) = false) (h : autoParam ((e :: es).all notStar = true) L2.auto4._auto_1) :
    JE X (.Call (.Name x p) (e :: es) [] pos) (tCall (sp xh) [] E0 t) := ⟨by
  obtain ⟨f, fd, a, b, c, d⟩ := F
  simp only [List.all_cons, Bool.and_eq_true] at h
  intro pins s σ H Q I hq
  refine wpAny_Call_Name_kw (ld_glob I hg a ?_ hdb)
  have hq' : t σ H fun vs H1 => sp xh vs H1 Q E0 := by simpa [tCall] using hq
  refine PySem.W.callWith_K (h₀ := X.base) I.ok.mod.kin b (thn (ha.run pos pins s σ H _ I hq') fun us s1 ⟨vs, H1, I1, r, q⟩ => ⟨I1.kIn, ?_⟩) (se_cons h.1) (se_any h.2)
  exact run_fnV hh d hr c I1 r q⟩

theorem r_listU {K : PySem.W.Frag} {xh : Addr} {tl : TE} {σ : St} {H : Hp} {R : It → Hp → Prop} (h : tl σ H fun x H1 => ∃ a, x = .ref a ∧ (∃ xs, SqL K H1 a xs) ∧ R (ItlU K a xh) H1) : iListU K xh tl σ H R := h
theorem comp_listU {sub : List (Option Nat)} {g : TG} {tt : TT} {te : TE} {σ : St} {Q : VK} {H : Hp} {K : PySem.W.Frag} {a xh : Addr} {xs : List V} (Pv : Nat → List V → Hp → Prop) (hn : xs.length ≤ sizeLine) (h0 : Pv 0 [] H) (hl : ∀ i ys H, Pv i ys H → ys.length ≤ i)
    (hq : ∀ i ys H, Pv i ys H → SqL K H a xs) (hx : ∀ ys H, Pv xs.length ys H → ∃ C fs, IsX H xh C fs)
    (hs : ∀ i ys H x, xs[i]? = some x → Pv i ys H → g x (subSt sub σ) H fun σ2 H2 => KeepSt (subSt sub σ) σ2 ∧ tt σ2 H2 fun b H3 => if b = true then te σ2 H3 fun y H4 => Pv (i + 1) (ys ++ [y]) H4 else Pv (i + 1) ys H3)
    (hd : ∀ ys H, Pv xs.length ys H → ∀ D, H D = none → Q (.ref D) (upd H D (.lst ys))) : CompR sub g tt te σ Q (ItlU K a xh) H :=
  comp_by (n := xs.length) Pv hn h0 hl (fun i ys H hi p => ⟨xs, xs[i], hq i ys H p, List.getElem?_eq_getElem hi⟩) (fun ys H p => ⟨⟨xs, hq _ ys H p, Nat.le_refl _⟩, hx ys H p⟩) (fun i ys H x H' hi p y => by
    obtain ⟨e1, e2⟩ := y
    subst e1
    exact hs i ys _ x (e2 xs (hq i ys _ p)) p) hd
end L2

namespace L2
open PySem PySem.Spec PyProof.Rows
noncomputable def hAsX (K : PySem.W.Frag) (P : Addr) (i : Nat) (ts : Addr → TS) (th : TH) : TH := fun D σ x C H => ∃ b, XCls K C ∧ PySem.W.mroIn K C (.ref P) = some b ∧ if b = true then ts x (D.gone i) (σ.set i (some (.ref x))) H else th D σ x C H
section
variable {X : Cx} {nm n : Str} {P : Addr} {i : Nat} {p pos : Pos} {b0 : Stmt} {suite : List Stmt} {ts : Addr → TS} {th : TH} {hs : List ExceptHandler}
theorem ph_asX (hg : Gl X nm) (hm : X.mg nm = some (.ref P)) (cP : XCls X.K P) (hdb : (nm == ("__debug__" : Str)) = false) (hN : X.N.Nodup) (hi : X.N[i]? = some n) (hl : X.env.scope.names.lookup n = some .local)
    (hsu : ∀ x, PSs (X.sui x) (b0 :: suite) (ts x)) (hr : PH X hs th) : PH X (.ExceptHandler (some (.Name nm p)) (some n) (b0 :: suite) pos :: hs) (hAsX X.K P i ts th) := by
  rintro pins s σ H D x C d T I F ⟨b, c, mb, q⟩
  obtain ⟨vs, ex, h1⟩ := F.obj
  refine wpAny_handleBy_cons (codeAny_handlers_test (ld_glob (I.sui x) hg hm ?_ hdb)) (fun z => nomatch z)
  refine exc_match I.kIn c cP ex mb ?_
  cases b with
  | false =>
    rw [if_neg Bool.false_ne_true] at q
    exact hr pins s σ H D x C d T I F q
  | true =>
    rw [if_pos rfl] at q
    refine codeAny_handlers_suite_as ?_
    refine fly_land I F fun h2 I2 F2 => ?_
    refine store_ok (X := X.sui x) (v := .ref x) (I2.sui x) hN hi (.inl hl) rfl (fun s3 I3 => ?_) (.inr hl)
    refine wpAny_mono (hsu x pins s3 _ H (D.gone i) I3 q) (fun f s4 w => ?_) fun _ _ z => False.elim z
    cases f with
    | next => obtain ⟨σ', H', J, r⟩ := w; exact name_goes (J.unsui I.ok) hN hi hl fun s5 I5 => ⟨_, H', I5, r⟩
    | brk => obtain ⟨σ', H', J, r⟩ := w; exact name_goes (J.unsui I.ok) hN hi hl fun s5 I5 => ⟨_, H', I5, r⟩
    | cont => obtain ⟨σ', H', J, r⟩ := w; exact name_goes (J.unsui I.ok) hN hi hl fun s5 I5 => ⟨_, H', I5, r⟩
    | ret u => obtain ⟨v, σ', H', J, rv, r⟩ := w; exact name_goes (J.unsui I.ok) hN hi hl fun s5 I5 => ⟨v, _, H', I5, rv, r⟩
variable {K : PySem.W.Frag} {x : Str}
theorem jh_asX (hK : X.K = K) (c : CTxt K X.mg x) (hg : Gl X x) (hdb : (x == ("__debug__" : Str)) = false) (hN : X.N.Nodup) (hi : X.N[i]? = some n) (hl : X.env.scope.names.lookup n = some .local)
    (hsu : ∀ x, JB (X.sui x) (b0 :: suite) (ts x)) (hr : JH X hs th) : JH X (.ExceptHandler (some (.Name x p)) (some n) (b0 :: suite) pos :: hs) (hAsX K (clsA X.mg x) i ts th) := by
  subst hK
  exact ⟨ph_asX hg c.at_ c.cl.cls hdb hN hi hl (fun x => (hsu x).run) hr.run⟩
theorem r_asX {K : PySem.W.Frag} {σ : St} {H : Hp} {D : Ends} {x C : Addr} (c : XCls K C) (m : PySem.W.mroIn K C (.ref P) = some true) (h : ts x (D.gone i) (σ.set i (some (.ref x))) H) : hAsX K P i ts th D σ x C H := ⟨true, c, m, by rw [if_pos rfl]; exact h⟩
end
end L2

namespace L2
open PySem PySem.Spec PyProof.Rows
section
variable {K : PySem.W.Frag} {σ : St} {H : Hp}
end
section
variable {X : Cx}
end
section
variable {K : PySem.W.Frag} {H : Hp} {Q : VK}
end
end L2

namespace My
open PySem L2
noncomputable def top (i : Nat) : Stmt := PySem.Challenge.pw_panethread_k63_changes_after_changes.main.body.getD i (.Pass ⟨0, 0, 0, 0⟩)
noncomputable abbrev s_is_letter : Stmt := top 7
noncomputable abbrev s_is_change : Stmt := top 14
noncomputable abbrev s_is_changes : Stmt := top 15
noncomputable abbrev s_need_changes : Stmt := top 16
noncomputable abbrev s_old_letter : Stmt := top 17
noncomputable abbrev s_new_letter : Stmt := top 18
noncomputable abbrev s_old_row : Stmt := top 19
noncomputable abbrev s_new_row : Stmt := top 20
noncomputable abbrev s_change_of : Stmt := top 21
noncomputable abbrev s_paid : Stmt := top 22
noncomputable abbrev s_loose_groups : Stmt := top 23
noncomputable abbrev s_bound : Stmt := top 24
noncomputable abbrev s_come_together : Stmt := top 25
noncomputable abbrev s_after : Stmt := top 26
noncomputable abbrev s_law_cell_at : Stmt := top 28
noncomputable abbrev s_law_great : Stmt := top 29
noncomputable abbrev s_law_letter : Stmt := top 30
noncomputable abbrev s_law_row : Stmt := top 31
noncomputable abbrev s_law_list : Stmt := top 32
noncomputable abbrev s_law_new : Stmt := top 33
noncomputable abbrev s_law_old : Stmt := top 34
noncomputable abbrev s_law_split : Stmt := top 35
noncomputable abbrev s_law_met : Stmt := top 36
noncomputable abbrev s_law_after : Stmt := top 37
noncomputable abbrev s_law_pays : Stmt := top 38
noncomputable abbrev s_law_too_long : Stmt := top 39
noncomputable abbrev s_law_unlike : Stmt := top 40
noncomputable abbrev s_law_no_changes : Stmt := top 41
noncomputable abbrev s_law_told : Stmt := top 42
noncomputable abbrev s_law_with_itself : Stmt := top 43
noncomputable abbrev s_law_there_and_back : Stmt := top 44
noncomputable abbrev s_law_moved_by_one : Stmt := top 45
noncomputable abbrev s_law_very_thing : Stmt := top 46
noncomputable abbrev s_law_refused : Stmt := top 47
noncomputable abbrev s_law : Stmt := top 48
noncomputable abbrev i_Unlike : Stmt := initOf (top 2)
noncomputable abbrev i_TooLong : Stmt := initOf (top 3)
noncomputable abbrev i_NoChanges : Stmt := initOf (top 4)
local macro_rules | `(tactic| walk_at "sts") => `(tactic| (with_reducible repeat (first | refine r_op ?_ | refine iteT ?_ | refine iteF ?_ | refine iteNT ?_ | refine iteNF ?_ | refine r_var (by with_unfolding_all rfl) ?_ | refine r_C ?_ | refine r_i0 ?_ | refine r_addI ?_ | refine r_cons ?_ | refine r_nil ?_ | refine r_seq ?_ | refine r_asg ?_ | refine r_name ?_ | refine r_ret ?_ | refine r_next ?_ | refine r_if ?_ | refine r_test ?_ | refine r_bl ?_ | refine r_cb ?_ | refine r_call ?_ | refine r_tb ?_ | refine r_not ?_ | refine r_and ?_ | refine r_or ?_ | refine r_andV ?_ | refine r_notV ?_ | refine r_ifE ?_ | refine r_drop ?_ | refine r_un ?_ | refine r_tup ?_ | refine r_lst ?_ | refine r_bm ?_ | refine r_sl ?_ | refine r_nop ?_ | refine r_part ?_ | refine r_true ?_ | refine r_rng1 ?_ | refine r_iseq ?_ | refine r_comp ?_ | refine r_for ?_ | refine r_u ?_ | refine r_strE ?_ | refine r_gcons ?_ | refine r_gnil ?_ | refine r_gtup (SqT.of (by first | assumption | exact upd_same)) (by rfl) ?_ | refine r_callX ?_ | refine r_chain ?_ | refine r_gone ?_ | refine r_try ?_ | refine r_raise ?_ | refine r_fldX ?_ | refine r_eqCI ?_ | refine r_eqCS ?_ | refine r_eqEI ?_ | refine r_eqES ?_ | refine r_eqBI ?_ | refine r_eqBS ?_ | refine r_neBS ?_ | refine r_inS ?_ | refine r_intE ?_ | refine r_i (by with_unfolding_all first | assumption | omega | (dsimp only <;> omega) | exact ⟨by omega, by omega⟩ | exact .inl ⟨by omega, by omega⟩ | exact .inr ⟨by omega, by omega⟩ | exact ⟨by decide, by decide, by decide⟩) ?_ | refine r_mulI (by with_unfolding_all first | assumption | omega | (dsimp only <;> omega) | exact ⟨by omega, by omega⟩ | exact .inl ⟨by omega, by omega⟩ | exact .inr ⟨by omega, by omega⟩ | exact ⟨by decide, by decide, by decide⟩) ?_ | refine r_ixL (SqL.of (by first | assumption | exact upd_same)) (by with_unfolding_all rfl) ?_ | refine r_ixT (SqT.of (by first | assumption | exact upd_same)) (by with_unfolding_all rfl) ?_)))
local macro_rules | `(tactic| walk_at "stn") => `(tactic| (with_reducible repeat (first | refine r_op ?_ | refine iteT ?_ | refine iteF ?_ | refine iteNT ?_ | refine iteNF ?_ | refine r_var (by with_unfolding_all rfl) ?_ | refine r_C ?_ | refine r_i0 ?_ | refine r_addI ?_ | refine r_cons ?_ | refine r_nil ?_ | refine r_asg ?_ | refine r_name ?_ | refine r_ret ?_ | refine r_next ?_ | refine r_if ?_ | refine r_test ?_ | refine r_bl ?_ | refine r_cb ?_ | refine r_call ?_ | refine r_tb ?_ | refine r_not ?_ | refine r_and ?_ | refine r_or ?_ | refine r_andV ?_ | refine r_notV ?_ | refine r_ifE ?_ | refine r_drop ?_ | refine r_un ?_ | refine r_tup ?_ | refine r_lst ?_ | refine r_bm ?_ | refine r_sl ?_ | refine r_nop ?_ | refine r_part ?_ | refine r_true ?_ | refine r_rng1 ?_ | refine r_iseq ?_ | refine r_comp ?_ | refine r_for ?_ | refine r_u ?_ | refine r_strE ?_ | refine r_gcons ?_ | refine r_gnil ?_ | refine r_gtup (SqT.of (by first | assumption | exact upd_same)) (by rfl) ?_ | refine r_callX ?_ | refine r_chain ?_ | refine r_gone ?_ | refine r_try ?_ | refine r_raise ?_ | refine r_fldX ?_ | refine r_eqCI ?_ | refine r_eqCS ?_ | refine r_eqEI ?_ | refine r_eqES ?_ | refine r_eqBI ?_ | refine r_eqBS ?_ | refine r_neBS ?_ | refine r_inS ?_ | refine r_intE ?_ | refine r_i (by with_unfolding_all first | assumption | omega | (dsimp only <;> omega) | exact ⟨by omega, by omega⟩ | exact .inl ⟨by omega, by omega⟩ | exact .inr ⟨by omega, by omega⟩ | exact ⟨by decide, by decide, by decide⟩) ?_ | refine r_mulI (by with_unfolding_all first | assumption | omega | (dsimp only <;> omega) | exact ⟨by omega, by omega⟩ | exact .inl ⟨by omega, by omega⟩ | exact .inr ⟨by omega, by omega⟩ | exact ⟨by decide, by decide, by decide⟩) ?_ | refine r_ixL (SqL.of (by first | assumption | exact upd_same)) (by with_unfolding_all rfl) ?_ | refine r_ixT (SqT.of (by first | assumption | exact upd_same)) (by with_unfolding_all rfl) ?_)))
noncomputable def LETT : Str := Str.ofString "abcdefghijklmnopqrstuvwxyz"
noncomputable def inL (z : Str) : Bool := !(Builtin.Str.occurrences LETT z 0 LETT.length 1).isEmpty
noncomputable def isL (v : V) : Bool := match v with
  | .str z => decide (z.length = 1) && inL z
  | _ => false
noncomputable def Thing (K : PySem.W.Frag) (H : Hp) (v : V) : Prop := (∃ z, v = .str z ∧ z.length ≤ 5000) ∨ ∃ T, TyOf K H v (.type T) ∧ PySem.W.kitOne K (.type T) (.type "str") = some false
theorem Thing.same {K : PySem.W.Frag} {H H' : Hp} {v : V} (h : Thing K H v) (s : Same H H') : Thing K H' v := by
  rcases h with h | ⟨T, a, c⟩
  · exact .inl h
  · exact .inr ⟨T, a.mono fun b o e _ => s b o e, c⟩
structure ItT (K : PySem.W.Frag) (H : Hp) (xs : List V) : Prop where
  few : xs.length ≤ 10
  all : ∀ x ∈ xs, Thing K H x
  hd : ∀ x, xs[0]? = some x → flatV x = true
  hd3 : xs.length = 3 → ∃ s, xs[0]? = some (.str s)
noncomputable def chgB (xs : List V) : Bool := decide (2 ≤ xs.length ∧ xs.length ≤ 3) && ((xs.drop 1).all isL && (if xs.length = 2 then inV (xs.getD 0 .non) [.str (Str.ofString "keep"), .str (Str.ofString "out"), .str (Str.ofString "in")]
  else decide (xs.getD 0 .non = .str (Str.ofString "change")) && !decide (xs.getD 1 .non = xs.getD 2 .non)))
noncomputable def Ch (K : PySem.W.Frag) (H : Hp) (v : V) (b : Bool) : Prop := (∃ t xs, v = .ref t ∧ H t = some (.tup xs) ∧ ItT K H xs ∧ b = chgB xs) ∨ ∃ ty, TyOf K H v (.type ty) ∧ PySem.W.kitOne K (.type ty) (.type "tuple") = some false ∧ b = false
theorem Ch.same {K : PySem.W.Frag} {H H' : Hp} {v : V} {b : Bool} (h : Ch K H v b) (s : Same H H') : Ch K H' v b := by
  rcases h with ⟨t, xs, e, h1, h2, h3⟩ | ⟨ty, a, c, d⟩
  · exact .inl ⟨t, xs, e, s _ _ h1, ⟨h2.few, fun x hx => (h2.all x hx).same s, h2.hd, h2.hd3⟩, h3⟩
  · exact .inr ⟨ty, a.mono fun b o e _ => s b o e, c, d⟩
structure Txt (K : PySem.W.Frag) (mg : Str → Option Value) : Prop where
  b_ValueError : mg "ValueError" = none
  b_all : mg "all" = none
  b_enumerate : mg "enumerate" = none
  b_isinstance : mg "isinstance" = none
  b_len : mg "len" = none
  b_list : mg "list" = none
  b_ord : mg "ord" = none
  b_range : mg "range" = none
  b_str : mg "str" = none
  b_tuple : mg "tuple" = none
  b_zip : mg "zip" = none
  c_CHANGE : ∃ t, mg "CHANGE" = some (.str "change" t)
  c_IN : ∃ t, mg "IN" = some (.str "in" t)
  c_KEEP : ∃ t, mg "KEEP" = some (.str "keep" t)
  c_LETTERS : ∃ t, mg "LETTERS" = some (.str "abcdefghijklmnopqrstuvwxyz" t)
  c_MOST_CHANGES : ∃ t, mg "MOST_CHANGES" = some (.int 48 t)
  c_OUT : ∃ t, mg "OUT" = some (.str "out" t)
  d_is_letter : Def K mg "is_letter" s_is_letter
  d_is_change : Def K mg "is_change" s_is_change
  d_is_changes : Def K mg "is_changes" s_is_changes
  d_need_changes : Def K mg "need_changes" s_need_changes
  d_old_letter : Def K mg "old_letter" s_old_letter
  d_new_letter : Def K mg "new_letter" s_new_letter
  d_old_row : Def K mg "old_row" s_old_row
  d_new_row : Def K mg "new_row" s_new_row
  d_change_of : Def K mg "change_of" s_change_of
  d_paid : Def K mg "paid" s_paid
  d_loose_groups : Def K mg "loose_groups" s_loose_groups
  d_bound : Def K mg "bound" s_bound
  d_come_together : Def K mg "come_together" s_come_together
  d_after : Def K mg "after" s_after
  d_law_cell_at : Def K mg "_law_cell_at" s_law_cell_at
  d_law_great : Def K mg "_law_great" s_law_great
  d_law_letter : Def K mg "_law_letter" s_law_letter
  d_law_row : Def K mg "_law_row" s_law_row
  d_law_list : Def K mg "_law_list" s_law_list
  d_law_new : Def K mg "_law_new" s_law_new
  d_law_old : Def K mg "_law_old" s_law_old
  d_law_split : Def K mg "_law_split" s_law_split
  d_law_met : Def K mg "_law_met" s_law_met
  d_law_after : Def K mg "_law_after" s_law_after
  d_law_pays : Def K mg "_law_pays" s_law_pays
  d_law_too_long : Def K mg "_law_too_long" s_law_too_long
  d_law_unlike : Def K mg "_law_unlike" s_law_unlike
  d_law_no_changes : Def K mg "_law_no_changes" s_law_no_changes
  d_law_told : Def K mg "_law_told" s_law_told
  d_law_with_itself : Def K mg "_law_with_itself" s_law_with_itself
  d_law_there_and_back : Def K mg "_law_there_and_back" s_law_there_and_back
  d_law_moved_by_one : Def K mg "_law_moved_by_one" s_law_moved_by_one
  d_law_very_thing : Def K mg "_law_very_thing" s_law_very_thing
  d_law_refused : Def K mg "_law_refused" s_law_refused
  d_law : Def K mg "law" s_law
  x_PaneError : CTxt K mg "PaneError"
  x_Unlike : XTxt K mg "Unlike" ["one", "other"] "Unlike.__init__" i_Unlike
  x_TooLong : XTxt K mg "TooLong" ["found"] "TooLong.__init__" i_TooLong
  x_NoChanges : XTxt K mg "NoChanges" ["found"] "NoChanges.__init__" i_NoChanges
  u_Unlike_PaneError : Sub K mg "Unlike" "PaneError" true
  u_Unlike_Unlike : Sub K mg "Unlike" "Unlike" true
  u_Unlike_TooLong : Sub K mg "Unlike" "TooLong" false
  u_Unlike_NoChanges : Sub K mg "Unlike" "NoChanges" false
  u_TooLong_PaneError : Sub K mg "TooLong" "PaneError" true
  u_TooLong_Unlike : Sub K mg "TooLong" "Unlike" false
  u_TooLong_TooLong : Sub K mg "TooLong" "TooLong" true
  u_TooLong_NoChanges : Sub K mg "TooLong" "NoChanges" false
  u_NoChanges_PaneError : Sub K mg "NoChanges" "PaneError" true
  u_NoChanges_Unlike : Sub K mg "NoChanges" "Unlike" false
  u_NoChanges_TooLong : Sub K mg "NoChanges" "TooLong" false
  u_NoChanges_NoChanges : Sub K mg "NoChanges" "NoChanges" true
  v_Unlike : PySem.W.kitOne K (.ref (clsA mg "Unlike")) (.type "ValueError") = some true
  v_TooLong : PySem.W.kitOne K (.ref (clsA mg "TooLong")) (.type "ValueError") = some true
  v_NoChanges : PySem.W.kitOne K (.ref (clsA mg "NoChanges")) (.type "ValueError") = some true
section
variable {P : Program} {w : World} {K : PySem.W.Frag} {mg : Str → Option Value} {base : Heap}
theorem nd_is_change_0 : (["letter"] : List Str).Nodup := by decide +kernel
theorem nd_is_changes_1 : (["change"] : List Str).Nodup := by decide +kernel
theorem k_is_letter_thing : (defScope s_is_letter).names.lookup ("thing" : Str) = some NameKind.local := by decide +kernel
theorem k_is_letter_LETTERS : (defScope s_is_letter).names.lookup ("LETTERS" : Str) = some NameKind.globalImplicit := by decide +kernel
theorem k_is_letter_len : (defScope s_is_letter).names.lookup ("len" : Str) = some NameKind.globalImplicit := by decide +kernel
theorem k_is_letter_isinstance : (defScope s_is_letter).names.lookup ("isinstance" : Str) = some NameKind.globalImplicit := by decide +kernel
theorem k_is_letter_str : (defScope s_is_letter).names.lookup ("str" : Str) = some NameKind.globalImplicit := by decide +kernel
theorem k_is_change_thing : (defScope s_is_change).names.lookup ("thing" : Str) = some NameKind.local := by decide +kernel
theorem k_is_change_CHANGE : (defScope s_is_change).names.lookup ("CHANGE" : Str) = some NameKind.globalImplicit := by decide +kernel
theorem k_is_change_len : (defScope s_is_change).names.lookup ("len" : Str) = some NameKind.globalImplicit := by decide +kernel
theorem k_is_change_IN : (defScope s_is_change).names.lookup ("IN" : Str) = some NameKind.globalImplicit := by decide +kernel
theorem k_is_change_OUT : (defScope s_is_change).names.lookup ("OUT" : Str) = some NameKind.globalImplicit := by decide +kernel
theorem k_is_change_KEEP : (defScope s_is_change).names.lookup ("KEEP" : Str) = some NameKind.globalImplicit := by decide +kernel
theorem k_is_change_all : (defScope s_is_change).names.lookup ("all" : Str) = some NameKind.globalImplicit := by decide +kernel
theorem k_is_change_isinstance : (defScope s_is_change).names.lookup ("isinstance" : Str) = some NameKind.globalImplicit := by decide +kernel
theorem k_is_change_tuple : (defScope s_is_change).names.lookup ("tuple" : Str) = some NameKind.globalImplicit := by decide +kernel
theorem k_is_changes_all : (defScope s_is_changes).names.lookup ("all" : Str) = some NameKind.globalImplicit := by decide +kernel
theorem k_is_changes_thing : (defScope s_is_changes).names.lookup ("thing" : Str) = some NameKind.local := by decide +kernel
theorem k_is_changes_len : (defScope s_is_changes).names.lookup ("len" : Str) = some NameKind.globalImplicit := by decide +kernel
theorem k_is_changes_MOST_CHANGES : (defScope s_is_changes).names.lookup ("MOST_CHANGES" : Str) = some NameKind.globalImplicit := by decide +kernel
theorem k_is_changes_isinstance : (defScope s_is_changes).names.lookup ("isinstance" : Str) = some NameKind.globalImplicit := by decide +kernel
theorem k_is_changes_list : (defScope s_is_changes).names.lookup ("list" : Str) = some NameKind.globalImplicit := by decide +kernel
theorem k_need_changes_is_changes : (defScope s_need_changes).names.lookup ("is_changes" : Str) = some NameKind.globalImplicit := by decide +kernel
theorem k_need_changes_thing : (defScope s_need_changes).names.lookup ("thing" : Str) = some NameKind.local := by decide +kernel
theorem k_need_changes_NoChanges : (defScope s_need_changes).names.lookup ("NoChanges" : Str) = some NameKind.globalImplicit := by decide +kernel
theorem ki_NoChanges_self : (defScope i_NoChanges).names.lookup ("self" : Str) = some NameKind.local := by decide +kernel
theorem ki_NoChanges_found : (defScope i_NoChanges).names.lookup ("found" : Str) = some NameKind.local := by decide +kernel
theorem sci_NoChanges : FnScope ["self", "found"] ["self", "found"] (defScope i_NoChanges) := ⟨rfl, rfl, rfl, by decide +kernel, rfl, by decide +kernel, by decide +kernel⟩
theorem mk_NoChanges (T : Txt K mg) : XMk P w K mg base 1 "NoChanges" (clsA mg "NoChanges") ["found"] := mkX T.x_NoChanges sci_NoChanges (fun _ _ _ _ _ _ us hl => L2.usN2 (fun _ _ => rfl) us hl) rfl fun f cdv A outer s H vs Q E hr h => ⟨_, (jb_one (js_fldX (K := K) rfl (j_vL 0 ki_NoChanges_self) (j_vL 1 ki_NoChanges_found))), rd1 T.x_NoChanges.c.cl.cls (T.x_NoChanges.na _ (by simp)) h⟩
noncomputable def spLetter (K : PySem.W.Frag) : Sp := fun vs H Q _ => ∃ v : V, vs = [v] ∧ Thing K H v ∧ Q (.bl (isL v)) H
theorem sc_is_letter : FnScope ["thing"] ["thing"] (defScope s_is_letter) := ⟨rfl, rfl, rfl, by decide +kernel, rfl, by decide +kernel, by decide +kernel⟩
theorem h_is_letter (T : Txt K mg) : Has P w K mg base 1 "is_letter" ["thing"] (spLetter K) := by
  refine hasJ T.d_is_letter sc_is_letter (fun _ _ _ _ _ _ us hl => L2.usN1 (fun _ => rfl) us hl) ?_ fun f cdv A outer s H vs Q E hr h => ?_
  · rintro vs H Q E ⟨v, rfl, _⟩; rfl
  obtain ⟨v, rfl, hT, q⟩ := h
  have hu := hr.units0
  have hu64 := hr.units
  refine ⟨_, (jb_one (js_ret (j_and (j_callB (call_isiK (K := K) rfl) (glF k_is_letter_isinstance) T.b_isinstance bt_isinstance (ja_cons (j_vL 0 k_is_letter_thing) (ja_cons (j_ty (glF k_is_letter_str) T.b_str bt_str (by decide +kernel) (by decide +kernel)) ja_nil)) (by decide +kernel) (by decide +kernel)) (j_and (j_cmp (op_eqE (K := K) rfl hu64) (j_callB (call_lenK (K := K) rfl) (glF k_is_letter_len) T.b_len bt_len (ja_cons (j_vL 0 k_is_letter_thing) ja_nil) (by decide +kernel) (by decide +kernel)) j_int (by first | exact nomark _ | with_unfolding_all rfl)) (j_one (j_cmp (op_inK (K := K) rfl) (j_vL 0 k_is_letter_thing) (j_gstr (glF k_is_letter_LETTERS) T.c_LETTERS (by decide +kernel)) (by first | exact nomark _ | with_unfolding_all rfl))))))), ?_⟩
  walk_at "sts"
  rcases hT with ⟨z, rfl, hz⟩ | ⟨ty, hty, hk⟩
  · have hz1 : z.length ≤ sizeLine := Nat.le_trans hz (by decide)
    refine r_isi (.str z) rfl ?_
    walk_at "sts"
    try with_reducible refine iteT ?_
    walk_at "sts"
    refine r_lenS hz1 ?_
    walk_at "sts"
    refine iteD (fun h1 => ?_) (fun h1 => ?_)
    · walk_at "sts"
      have e : isL (.str z) = inL z := by
        unfold isL
        dsimp only
        rw [decide_eq_true (by have := V.int.inj h1; omega), Bool.true_and]
      rw [e] at q
      exact q
    · have e : isL (.str z) = false := by
        unfold isL
        dsimp only
        rw [decide_eq_false (fun h => h1 (by rw [h]; rfl)), Bool.false_and]
      rw [e] at q
      exact q
  · refine r_isi hty hk ?_
    walk_at "sts"
    try with_reducible refine iteF ?_
    have e : isL v = false := by
      cases v with
      | str z =>
        cases hty
        have : PySem.W.kitOne K (.type "str") (.type "str") = some true := rfl
        rw [this] at hk; cases hk
      | _ => rfl
    rw [e] at q
    exact q
noncomputable def spChange (K : PySem.W.Frag) : Sp := fun vs H Q _ => ∃ (v : V) (b : Bool), vs = [v] ∧ Ch K H v b ∧ ∀ H', Same H H' → Q (.bl b) H'
theorem sc_is_change : FnScope ["thing"] ["thing"] (defScope s_is_change) := ⟨rfl, rfl, rfl, by decide +kernel, rfl, by decide +kernel, by decide +kernel⟩
theorem h_is_change (T : Txt K mg) : Has P w K mg base 2 "is_change" ["thing"] (spChange K) := by
  have h_is_letter := h_is_letter (P := P) (w := w) (base := base) T
  refine hasJ T.d_is_change sc_is_change (fun _ _ _ _ _ _ us hl => L2.usN1 (fun _ => rfl) us hl) ?_ fun f cdv A outer s H vs Q E hr h => ?_
  · rintro vs H Q E ⟨v, b, rfl, _⟩; rfl
  obtain ⟨v, b, rfl, hC, q⟩ := h
  have hu := hr.units0
  have hu64 := hr.units
  refine ⟨_, (jb_cons (js_if (jw_pt (jw_or (jt_not (jt_val (j_callB (call_isiK (K := K) rfl) (glF k_is_change_isinstance) T.b_isinstance bt_isinstance (ja_cons (j_vL 0 k_is_change_thing) (ja_cons (j_ty (glF k_is_change_tuple) T.b_tuple bt_tuple (by decide +kernel) (by decide +kernel)) ja_nil)) (by decide +kernel) (by decide +kernel)))) (jw_or1 (jt_not (jt_chain op_le op_le j_int (j_callB (call_lenK (K := K) rfl) (glF k_is_change_len) T.b_len bt_len (ja_cons (j_vL 0 k_is_change_thing) ja_nil) (by decide +kernel) (by decide +kernel)) j_int))))) (jb_one (js_ret j_bl)) jb_nil) (jb_cons (js_if (jt_not (jt_val (j_callB (call_all rfl) (glF k_is_change_all) T.b_all bt_all (ja_cons (j_comp (sub := [none]) (subOk_of (N := ["thing"]) (sc := defScope s_is_change) (N' := ["letter"]) (by decide +kernel)) rfl rfl rfl (ji_seq (K := K) rfl (j_slice (sl_seqK (K := K) rfl) (j_vL 0 k_is_change_thing) (jo_some j_int) jo_none)) (fun C s₀ H₀ ex => (jg_B 0 (by decide +kernel) nd_is_change_0)) (fun C s₀ H₀ ex => jif_nil) (fun C s₀ H₀ ex => (j_call h_is_letter (hr.mono (by decide)) (glB (by decide +kernel)) (ja_cons (j_vBL 0 (by decide +kernel)) ja_nil) (by decide +kernel)))) ja_nil) (by decide +kernel) (by decide +kernel)))) (jb_one (js_ret j_bl)) jb_nil) (jb_cons (js_if (jt_cmp (op_eqE (K := K) rfl hu64) (j_callB (call_lenK (K := K) rfl) (glF k_is_change_len) T.b_len bt_len (ja_cons (j_vL 0 k_is_change_thing) ja_nil) (by decide +kernel) (by decide +kernel)) j_int (by first | exact nomark _ | with_unfolding_all rfl)) (jb_one (js_ret (j_cmp (op_inK (K := K) rfl) (j_ix (K := K) rfl (j_vL 0 k_is_change_thing) j_int) (j_tup (ja_cons (j_gstr (glF k_is_change_KEEP) T.c_KEEP (by decide +kernel)) (ja_cons (j_gstr (glF k_is_change_OUT) T.c_OUT (by decide +kernel)) (ja_cons (j_gstr (glF k_is_change_IN) T.c_IN (by decide +kernel)) ja_nil)))) (by first | exact nomark _ | with_unfolding_all rfl)))) jb_nil) (jb_one (js_ret (j_and (j_cmp (op_eqE (K := K) rfl hu64) (j_ix (K := K) rfl (j_vL 0 k_is_change_thing) j_int) (j_gstr (glF k_is_change_CHANGE) T.c_CHANGE (by decide +kernel)) (by first | exact nomark _ | with_unfolding_all rfl)) (j_one (j_cmp (op_neX (K := K) rfl hu64) (j_ix (K := K) rfl (j_vL 0 k_is_change_thing) j_int) (j_ix (K := K) rfl (j_vL 0 k_is_change_thing) j_int) (by first | exact nomark _ | with_unfolding_all rfl))))))))), ?_⟩
  walk_at "sts"
  rcases hC with ⟨t, xs, rfl, ht, hI, rfl⟩ | ⟨ty, hty, hk, rfl⟩
  · refine r_isi (.tup ht) rfl ?_
    walk_at "sts"
    try with_reducible refine iteF ?_
    walk_at "sts"
    refine r_lenT (SqT.of ht) ?_
    walk_at "sts"
    have hI1 := hI.few
    have s1 : HT.sIx xs.length 0 (some 1) = min 1 xs.length := by unfold HT.sIx; simp
    have s2 : HT.sIx xs.length xs.length none = xs.length := rfl
    have ec : cutV xs (some 1) none = xs.drop 1 := by
      unfold cutV
      rw [s1, s2]
      by_cases h0 : xs.length = 0
      · have : xs = [] := List.eq_nil_of_length_eq_zero h0
        subst this; rfl
      · rw [show min 1 xs.length = 1 by omega]
        exact List.take_of_length_le (by simp)
    by_cases hl : 2 ≤ xs.length ∧ xs.length ≤ 3
    · rw [decide_eq_true (show (2 : Int) ≤ (xs.length : Int) by omega)]
      try with_reducible refine iteT ?_
      walk_at "sts"
      rw [decide_eq_true (show (xs.length : Int) ≤ 3 by omega)]
      try with_reducible refine iteF ?_
      walk_at "sts"
      refine .inr (.inl ⟨t, xs, rfl, SqT.of ht, by rw [s1]; omega, fun p np => ?_⟩)
      rw [ec]
      have ht1 : upd H p (.tup (xs.drop 1)) t = some (.tup xs) := upd_old np ht
      have S1 : Same H (upd H p (.tup (xs.drop 1))) := (Same.refl H).upd np
      refine .inr (.inl ⟨p, rfl, ⟨_, SqT.of upd_same⟩, ?_⟩)
      refine comp_tup (xs := xs.drop 1) (fun i us H' => H' = upd H p (.tup (xs.drop 1)) ∧ us = (((xs.drop 1).take i).map isL).map V.bl) (Nat.le_trans (show (xs.drop 1).length ≤ 1000 by simp; omega) (by decide)) ⟨rfl, rfl⟩ ?_ ?_ ?_ ?_
      · rintro i us H' ⟨rfl, rfl⟩
        simp; omega
      · rintro i us H' ⟨rfl, rfl⟩
        exact SqT.of upd_same
      · rintro i us H' x hx ⟨rfl, rfl⟩
        walk_at "sts"
        refine ⟨KeepSt.set rfl, ?_⟩
        walk_at "sts"
        try with_reducible refine iteT ?_
        walk_at "sts"
        refine ⟨x, rfl, (hI.all x (List.mem_of_mem_drop (List.mem_of_getElem? hx))).same S1, rfl, ?_⟩
        rw [List.take_add_one, hx]
        simp
      · rintro us H' ⟨rfl, rfl⟩ D hD
        have e1 : (xs.drop 1).take (xs.drop 1).length = xs.drop 1 := List.take_length
        rw [e1]
        have ht2 := upd_old (o := .lst (((xs.drop 1).map isL).map V.bl)) hD ht1
        have S2 : Same H (upd (upd H p (.tup (xs.drop 1))) D (.lst (((xs.drop 1).map isL).map V.bl))) := S1.upd hD
        walk_at "sts"
        refine ⟨D, _, rfl, upd_same, ?_⟩
        have e2 : ((xs.drop 1).map isL).all id = (xs.drop 1).all isL := by rw [List.all_map]; rfl
        rw [e2]
        have eB : chgB xs = ((xs.drop 1).all isL && (if xs.length = 2 then inV (xs.getD 0 .non) [.str (Str.ofString "keep"), .str (Str.ofString "out"), .str (Str.ofString "in")]
            else decide (xs.getD 0 .non = .str (Str.ofString "change")) && !decide (xs.getD 1 .non = xs.getD 2 .non))) := by
          unfold chgB
          rw [decide_eq_true hl, Bool.true_and]
        cases ha : (xs.drop 1).all isL with
        | false =>
          walk_at "sts"
          try with_reducible refine iteT ?_
          walk_at "sts"
          have q' := q _ S2
          rw [eB, ha, Bool.false_and] at q'
          exact q'
        | true =>
          walk_at "sts"
          try with_reducible refine iteF ?_
          walk_at "sts"
          refine r_lenT (SqT.of ht2) ?_
          walk_at "sts"
          have g0 : 0 < xs.length := by omega
          have d0 : xs.getD 0 .non = xs[0] := by rw [List.getD_eq_getElem?_getD, List.getElem?_eq_getElem g0]; rfl
          have i0 : atI xs 0 = some xs[0] := atI_nat (j := 0) (List.getElem?_eq_getElem g0)
          refine iteD (fun h2 => ?_) (fun h2 => ?_)
          · have h2' : xs.length = 2 := by have := V.int.inj h2; omega
            walk_at "sts"
            refine r_ixT (SqT.of ht2) i0 ?_
            walk_at "sts"
            refine ⟨by decide, fun m nm => ?_⟩
            refine .inr ⟨m, _, rfl, .inr (SqT.of upd_same), hI.hd _ (List.getElem?_eq_getElem g0), rfl, ?_⟩
            have q' := q _ (S2.upd nm (o := .tup [.str (Str.ofString "keep"), .str (Str.ofString "out"), .str (Str.ofString "in")]))
            rw [eB, ha, Bool.true_and, if_pos h2', d0] at q'
            exact q'
          · have h3 : xs.length = 3 := by
              have : ¬ xs.length = 2 := fun h => h2 (by rw [h]; rfl)
              omega
            obtain ⟨s0, e0⟩ := hI.hd3 h3
            have x0 : xs[0] = .str s0 := by rw [List.getElem?_eq_getElem g0] at e0; exact Option.some.inj e0
            have g1 : 1 < xs.length := by omega
            have g2 : 2 < xs.length := by omega
            have lt1 : ∀ i (h : i < xs.length), 1 ≤ i → ∃ z, xs[i] = .str z := fun i h h1 => by
              have : isL xs[i] = true := List.all_eq_true.mp ha _ (by
                rw [show xs[i] = (xs.drop 1)[i - 1]'(by simp; omega) by simp; congr 1; omega]
                exact List.getElem_mem _)
              cases hx : xs[i] with
              | str z => exact ⟨z, rfl⟩
              | _ => rw [hx] at this; cases this
            obtain ⟨z1, x1⟩ := lt1 1 g1 (by omega)
            obtain ⟨z2, x2⟩ := lt1 2 g2 (by omega)
            have d1 : xs.getD 1 .non = .str z1 := by rw [List.getD_eq_getElem?_getD, List.getElem?_eq_getElem g1, ← x1]; rfl
            have d2 : xs.getD 2 .non = .str z2 := by rw [List.getD_eq_getElem?_getD, List.getElem?_eq_getElem g2, ← x2]; rfl
            have q' := q _ S2
            rw [eB, ha, Bool.true_and, if_neg (by omega), d0, x0, d1, d2] at q'
            walk_at "sts"
            refine r_ixT (SqT.of ht2) (i0.trans (by rw [x0])) ?_
            walk_at "sts"
            refine iteD (fun h4 => ?_) (fun h4 => ?_)
            · walk_at "sts"
              refine r_ixT (SqT.of ht2) (atI_nat (j := 1) (by rw [List.getElem?_eq_getElem g1, x1])) ?_
              walk_at "sts"
              refine r_ixT (SqT.of ht2) (atI_nat (j := 2) (by rw [List.getElem?_eq_getElem g2, x2])) ?_
              walk_at "sts"
              rw [decide_eq_true h4, Bool.true_and] at q'
              exact q'
            · rw [decide_eq_false h4, Bool.false_and] at q'
              exact q'
    · have eB : chgB xs = false := by unfold chgB; rw [decide_eq_false hl, Bool.false_and]
      have q' := q H (Same.refl H)
      rw [eB] at q'
      by_cases h2 : 2 ≤ xs.length
      · rw [decide_eq_true (show (2 : Int) ≤ (xs.length : Int) by omega)]
        try with_reducible refine iteT ?_
        walk_at "sts"
        rw [decide_eq_false (show ¬ (xs.length : Int) ≤ 3 by omega)]
        try with_reducible refine iteT ?_
        walk_at "sts"
        try with_reducible refine iteT ?_
        walk_at "sts"
        exact q'
      · rw [decide_eq_false (show ¬ (2 : Int) ≤ (xs.length : Int) by omega)]
        try with_reducible refine iteF ?_
        walk_at "sts"
        try with_reducible refine iteT ?_
        walk_at "sts"
        try with_reducible refine iteT ?_
        walk_at "sts"
        exact q'
  · refine r_isi hty hk ?_
    walk_at "sts"
    try with_reducible refine iteT ?_
    walk_at "sts"
    try with_reducible refine iteT ?_
    walk_at "sts"
    exact q H (Same.refl H)
noncomputable def Cs (K : PySem.W.Frag) (H : Hp) (us : List V) (bs : List Bool) : Prop := us.length = bs.length ∧ ∀ (i : Nat) (u : V) (b : Bool), us[i]? = some u → bs[i]? = some b → Ch K H u b
theorem Cs.same {H H' : Hp} {us : List V} {bs : List Bool} (h : Cs K H us bs) (s : Same H H') : Cs K H' us bs := ⟨h.1, fun i u b e1 e2 => (h.2 i u b e1 e2).same s⟩
noncomputable def Chs (K : PySem.W.Frag) (H : Hp) (v : V) (b : Bool) : Prop := (∃ a us bs, v = .ref a ∧ H a = some (.lst us) ∧ us.length ≤ 1000 ∧ Cs K H us bs ∧ b = (decide (us.length ≤ 48) && bs.all id)) ∨
  ∃ ty, TyOf K H v (.type ty) ∧ PySem.W.kitOne K (.type ty) (.type "list") = some false ∧ b = false
theorem Chs.same {H H' : Hp} {v : V} {b : Bool} (h : Chs K H v b) (s : Same H H') : Chs K H' v b := by
  rcases h with ⟨a, us, bs, e, h1, h2, h3, h4⟩ | ⟨ty, a, c, d⟩
  · exact .inl ⟨a, us, bs, e, s _ _ h1, h2, h3.same s, h4⟩
  · exact .inr ⟨ty, a.mono fun b o e _ => s b o e, c, d⟩
noncomputable def spChanges (K : PySem.W.Frag) : Sp := fun vs H Q _ => ∃ (v : V) (b : Bool), vs = [v] ∧ Chs K H v b ∧ ∀ H', Same H H' → Q (.bl b) H'
theorem sc_is_changes : FnScope ["thing"] ["thing"] (defScope s_is_changes) := ⟨rfl, rfl, rfl, by decide +kernel, rfl, by decide +kernel, by decide +kernel⟩
theorem h_is_changes (T : Txt K mg) : Has P w K mg base 3 "is_changes" ["thing"] (spChanges K) := by
  have h_is_change := h_is_change (P := P) (w := w) (base := base) T
  refine hasJ T.d_is_changes sc_is_changes (fun _ _ _ _ _ _ us hl => L2.usN1 (fun _ => rfl) us hl) ?_ fun f cdv A outer s H vs Q E hr h => ?_
  · rintro vs H Q E ⟨v, b, rfl, _⟩; rfl
  obtain ⟨v, b, rfl, hC, q⟩ := h
  have hu := hr.units0
  have hu64 := hr.units
  refine ⟨_, (jb_cons (js_if (jw_pt (jw_or (jt_not (jt_val (j_callB (call_isiK (K := K) rfl) (glF k_is_changes_isinstance) T.b_isinstance bt_isinstance (ja_cons (j_vL 0 k_is_changes_thing) (ja_cons (j_ty (glF k_is_changes_list) T.b_list bt_list (by decide +kernel) (by decide +kernel)) ja_nil)) (by decide +kernel) (by decide +kernel)))) (jw_or1 (jt_cmp op_gt (j_callB (call_lenK (K := K) rfl) (glF k_is_changes_len) T.b_len bt_len (ja_cons (j_vL 0 k_is_changes_thing) ja_nil) (by decide +kernel) (by decide +kernel)) (j_gint (glF k_is_changes_MOST_CHANGES) T.c_MOST_CHANGES (by decide +kernel)) (by first | exact nomark _ | with_unfolding_all rfl))))) (jb_one (js_ret j_bl)) jb_nil) (jb_one (js_ret (j_callB (call_all rfl) (glF k_is_changes_all) T.b_all bt_all (ja_cons (j_comp (sub := [none]) (subOk_of (N := ["thing"]) (sc := defScope s_is_changes) (N' := ["change"]) (by decide +kernel)) rfl rfl rfl (ji_seq (K := K) rfl (j_vL 0 k_is_changes_thing)) (fun C s₀ H₀ ex => (jg_B 0 (by decide +kernel) nd_is_changes_1)) (fun C s₀ H₀ ex => jif_nil) (fun C s₀ H₀ ex => (j_call h_is_change (hr.mono (by decide)) (glB (by decide +kernel)) (ja_cons (j_vBL 0 (by decide +kernel)) ja_nil) (by decide +kernel)))) ja_nil) (by decide +kernel) (by decide +kernel))))), ?_⟩
  walk_at "sts"
  rcases hC with ⟨a, us, bs, rfl, ha, hle, hC, rfl⟩ | ⟨ty, hty, hk, rfl⟩
  · refine r_isi (.lst ha) rfl ?_
    walk_at "sts"
    try with_reducible refine iteF ?_
    walk_at "sts"
    refine r_lenL (SqL.of ha) ?_
    walk_at "sts"
    refine iteD (fun h1 => ?_) (fun h1 => ?_)
    · walk_at "sts"
      have q' := q H (Same.refl H)
      rw [decide_eq_false (by omega), Bool.false_and] at q'
      exact q'
    · walk_at "sts"
      refine .inl ⟨a, rfl, ⟨_, SqL.of ha⟩, ?_⟩
      refine comp_list (xs := us) (fun i ys H' => Same H H' ∧ ys = (bs.take i).map V.bl) (Nat.le_trans hle (by decide)) ⟨Same.refl H, rfl⟩ ?_ ?_ ?_ ?_
      · rintro i ys H' ⟨_, rfl⟩
        simp; omega
      · rintro i ys H' ⟨S, rfl⟩
        exact SqL.of (S _ _ ha)
      · rintro i ys H' x hx ⟨S, rfl⟩
        have hi : i < bs.length := by rw [← hC.1]; exact (List.getElem?_eq_some_iff.mp hx).1
        walk_at "sts"
        refine ⟨KeepSt.set rfl, ?_⟩
        walk_at "sts"
        try with_reducible refine iteT ?_
        walk_at "sts"
        refine ⟨x, bs[i], rfl, (hC.2 i x _ hx (List.getElem?_eq_getElem hi)).same S, fun H2 S2 => ⟨S.trans S2, ?_⟩⟩
        rw [List.take_add_one, List.getElem?_eq_getElem hi, List.map_append]; rfl
      · rintro ys H' ⟨S, rfl⟩ D hD
        walk_at "sts"
        refine ⟨D, _, rfl, upd_same, ?_⟩
        have e1 : bs.take us.length = bs := List.take_of_length_le (by rw [hC.1]; exact Nat.le_refl _)
        rw [e1]
        have q' := q _ (S.upd hD (o := .lst ((bs.take us.length).map V.bl)))
        rw [decide_eq_true (show us.length ≤ 48 by omega), Bool.true_and] at q'
        rw [e1] at q'
        exact q'
  · refine r_isi hty hk ?_
    walk_at "sts"
    try with_reducible refine iteT ?_
    walk_at "sts"
    try with_reducible refine iteT ?_
    walk_at "sts"
    exact q H (Same.refl H)
noncomputable def spNeedC (K : PySem.W.Frag) (mg : Str → Option Value) : Sp := fun vs H Q E => ∃ (v : V) (b : Bool), vs = [v] ∧ Chs K H v b ∧ (b = true → ∀ H', Same H H' → Q .non H') ∧
  (b = false → ∀ e H', Same H H' → IsX H' e (clsA mg "NoChanges") [("found", v)] → E (.ref (clsA mg "NoChanges")) (some e) H')
theorem sc_need_changes : FnScope ["thing"] ["thing"] (defScope s_need_changes) := ⟨rfl, rfl, rfl, by decide +kernel, rfl, by decide +kernel, by decide +kernel⟩
theorem h_need_changes (T : Txt K mg) : HasX P w K mg base 4 "need_changes" ["thing"] (spNeedC K mg) := by
  have h_is_changes := h_is_changes (P := P) (w := w) (base := base) T
  refine hasJX T.d_need_changes sc_need_changes (fun _ _ _ _ _ _ us hl => L2.usN1 (fun _ => rfl) us hl) ?_ fun f cdv A outer s H vs Q E hr h => ?_
  · rintro vs H Q E ⟨v, b, rfl, _⟩; rfl
  obtain ⟨v, b, rfl, hT, q1, q2⟩ := h
  have hu := hr.units0
  have hu64 := hr.units
  refine ⟨_, (jb_one (js_if (jt_not (jt_val (j_call h_is_changes (hr.mono (by decide)) (glF k_need_changes_is_changes) (ja_cons (j_vL 0 k_need_changes_thing) ja_nil) (by decide +kernel)))) (jb_one (js_raise (mk_NoChanges (P := P) (w := w) (base := base) T) (hr.mono (by decide)) rfl (glF k_need_changes_NoChanges) pass_def (ja_cons (j_vL 0 k_need_changes_thing) ja_nil) (by decide +kernel))) jb_nil)), ?_⟩
  walk_at "sts"
  refine ⟨v, b, rfl, hT, fun H1 S1 => ?_⟩
  cases b with
  | true =>
    walk_at "sts"
    try with_reducible refine iteF ?_
    walk_at "sts"
    exact q1 rfl _ S1
  | false =>
    walk_at "sts"
    try with_reducible refine iteT ?_
    walk_at "sts"
    exact ⟨rfl, (show 1 ≤ sizeLine by decide), fun x H2 S2 X2 => q2 rfl x H2 (S1.trans S2) X2⟩
end

section
variable {P : Program} {w : World} {K : PySem.W.Frag} {mg : Str → Option Value} {base : Heap}
theorem nd_old_row_0 : (["change"] : List Str).Nodup := by decide +kernel
theorem nd_new_row_1 : (["change"] : List Str).Nodup := by decide +kernel
theorem k_old_letter_change : (defScope s_old_letter).names.lookup ("change" : Str) = some NameKind.local := by decide +kernel
theorem k_old_letter_IN : (defScope s_old_letter).names.lookup ("IN" : Str) = some NameKind.globalImplicit := by decide +kernel
theorem k_new_letter_change : (defScope s_new_letter).names.lookup ("change" : Str) = some NameKind.local := by decide +kernel
theorem k_new_letter_OUT : (defScope s_new_letter).names.lookup ("OUT" : Str) = some NameKind.globalImplicit := by decide +kernel
theorem k_old_row_changes : (defScope s_old_row).names.lookup ("changes" : Str) = some NameKind.local := by decide +kernel
theorem k_new_row_changes : (defScope s_new_row).names.lookup ("changes" : Str) = some NameKind.local := by decide +kernel
theorem k_change_of_old : (defScope s_change_of).names.lookup ("old" : Str) = some NameKind.local := by decide +kernel
theorem k_change_of_new : (defScope s_change_of).names.lookup ("new" : Str) = some NameKind.local := by decide +kernel
theorem k_change_of_KEEP : (defScope s_change_of).names.lookup ("KEEP" : Str) = some NameKind.globalImplicit := by decide +kernel
theorem k_change_of_CHANGE : (defScope s_change_of).names.lookup ("CHANGE" : Str) = some NameKind.globalImplicit := by decide +kernel
theorem k_change_of_OUT : (defScope s_change_of).names.lookup ("OUT" : Str) = some NameKind.globalImplicit := by decide +kernel
theorem k_change_of_IN : (defScope s_change_of).names.lookup ("IN" : Str) = some NameKind.globalImplicit := by decide +kernel
noncomputable def lc (i : Nat) : Nat := LETT.cps.toList.getD i 0
noncomputable def lS (i : Nat) : Str := ⟨#[lc i]⟩
theorem lS_isL : ∀ i, i < 26 → isL (.str (lS i)) = true := by
  have : ∀ i ∈ List.range 26, isL (.str (lS i)) = true := by decide +kernel
  exact fun i hi => this i (List.mem_range.mpr hi)
theorem lS_inj : ∀ i j, i < 26 → j < 26 → lS i = lS j → i = j := by
  have : ∀ i ∈ List.range 26, ∀ j ∈ List.range 26, lS i = lS j → i = j := by decide +kernel
  exact fun i j hi hj => this i (List.mem_range.mpr hi) j (List.mem_range.mpr hj)
theorem lS_len (i : Nat) : (lS i).length = 1 := len1 _
theorem inV3 : inV (.str (Str.ofString "keep")) [.str (Str.ofString "keep"), .str (Str.ofString "out"), .str (Str.ofString "in")] = true ∧ inV (.str (Str.ofString "out")) [.str (Str.ofString "keep"), .str (Str.ofString "out"), .str (Str.ofString "in")] = true ∧
    inV (.str (Str.ofString "in")) [.str (Str.ofString "keep"), .str (Str.ofString "out"), .str (Str.ofString "in")] = true := by decide +kernel
theorem chg2 {s : Str} {i : Nat} (hi : i < 26) (h : inV (.str s) [.str (Str.ofString "keep"), .str (Str.ofString "out"), .str (Str.ofString "in")] = true) : chgB [.str s, .str (lS i)] = true := by
  show (decide (2 ≤ 2 ∧ 2 ≤ 3) && (([V.str (lS i)]).all isL && (if (2 : Nat) = 2 then inV (.str s) _ else _))) = true
  rw [if_pos rfl, h, List.all_cons, lS_isL i hi]; rfl
theorem chg3 {i j : Nat} (hi : i < 26) (hj : j < 26) (ne : i ≠ j) : chgB [.str (Str.ofString "change"), .str (lS i), .str (lS j)] = true := by
  show (decide (2 ≤ 3 ∧ 3 ≤ 3) && (([V.str (lS i), V.str (lS j)]).all isL && (if (3 : Nat) = 2 then _ else decide (V.str (Str.ofString "change") = .str (Str.ofString "change")) && !decide (V.str (lS i) = .str (lS j))))) = true
  rw [if_neg (by decide), decide_eq_true rfl, decide_eq_false (fun h => ne (lS_inj i j hi hj (V.str.inj h))), List.all_cons, List.all_cons, lS_isL i hi, lS_isL j hj]; rfl
theorem itS {H : Hp} {xs : List Str} (h : xs.length ≤ 10) (hl : ∀ x ∈ xs, x.length ≤ 5000) : ItT K H (xs.map V.str) := by
  refine ⟨by simpa using h, fun x hx => ?_, fun x hx => ?_, fun h3 => ?_⟩
  · obtain ⟨z, hz, rfl⟩ := List.mem_map.mp hx
    exact .inl ⟨z, rfl, hl z hz⟩
  · rw [List.getElem?_map] at hx
    cases e : xs[0]? with
    | none => rw [e] at hx; cases hx
    | some z => rw [e] at hx; cases hx; rfl
  · rw [List.length_map] at h3
    exact ⟨xs[0]'(by omega), by rw [List.getElem?_map, List.getElem?_eq_getElem (by omega)]; rfl⟩
noncomputable def Good (K : PySem.W.Frag) (H : Hp) (u : V) : Prop := Ch K H u true ∧ ∃ r, u = .ref r
theorem Good.same {H H' : Hp} {u : V} (h : Good K H u) (s : Same H H') : Good K H' u := ⟨h.1.same s, h.2⟩
theorem good_mk {H : Hp} {t : Addr} {xs : List Str} (e : H t = some (.tup (xs.map V.str))) (h : xs.length ≤ 10) (hl : ∀ x ∈ xs, x.length ≤ 5000) (hc : chgB (xs.map V.str) = true) : Good K H (.ref t) :=
  ⟨.inl ⟨t, _, rfl, e, itS h hl, hc.symm⟩, t, rfl⟩
theorem chs_any {H : Hp} {a : Addr} {us : List V} (ha : H a = some (.lst us)) (hl : us.length ≤ 1000) (h : ∀ u ∈ us, ∃ b, Ch K H u b) (bad : 48 < us.length ∨ ∃ u ∈ us, Ch K H u false) : Chs K H (.ref a) false := by
  classical
  refine .inl ⟨a, us, us.map fun u => !decide (Ch K H u false), rfl, ha, hl, ⟨by simp, fun i u b e1 e2 => ?_⟩, ?_⟩
  · rw [List.getElem?_map, e1] at e2
    cases e2
    by_cases hf : Ch K H u false
    · dsimp only; rw [decide_eq_true hf]; exact hf
    · dsimp only; rw [decide_eq_false hf]
      obtain ⟨b, hb⟩ := h u (List.mem_of_getElem? e1)
      cases b with
      | true => exact hb
      | false => exact absurd hb hf
  · rcases bad with h48 | ⟨u, hu, hf⟩
    · rw [decide_eq_false (by omega), Bool.false_and]
    · have : (us.map fun u => !decide (Ch K H u false)).all id = false := by
        rw [List.all_eq_false]
        exact ⟨false, List.mem_map.mpr ⟨u, hu, by rw [decide_eq_true hf]; rfl⟩, by simp⟩
      rw [this, Bool.and_false]
theorem chs_good {H : Hp} {a : Addr} {us : List V} (ha : H a = some (.lst us)) (hl : us.length ≤ 48) (h : ∀ u ∈ us, Good K H u) : Chs K H (.ref a) true := by
  refine .inl ⟨a, us, List.replicate us.length true, rfl, ha, by omega, ⟨by simp, fun i u b e1 e2 => ?_⟩, ?_⟩
  · rw [List.getElem?_replicate] at e2
    split at e2
    · cases e2; exact (h u (List.mem_of_getElem? e1)).1
    · cases e2
  · rw [decide_eq_true hl]; simp
inductive Cg where
  | keep (i : Nat)
  | chg (i j : Nat)
  | out (i : Nat)
  | inn (i : Nat)
noncomputable def Cg.ok : Cg → Prop
  | .keep i => i < 26
  | .chg i j => i < 26 ∧ j < 26 ∧ i ≠ j
  | .out i => i < 26
  | .inn i => i < 26
noncomputable def Cg.ss : Cg → List Str
  | .keep i => [Str.ofString "keep", lS i]
  | .chg i j => [Str.ofString "change", lS i, lS j]
  | .out i => [Str.ofString "out", lS i]
  | .inn i => [Str.ofString "in", lS i]
noncomputable def Cg.old : Cg → Str
  | .keep i => lS i
  | .chg i _ => lS i
  | .out i => lS i
  | .inn _ => Str.ofString ""
noncomputable def Cg.new : Cg → Str
  | .keep i => lS i
  | .chg _ j => lS j
  | .out _ => Str.ofString ""
  | .inn i => lS i
noncomputable def Cg.opp : Cg → Cg
  | .keep i => .keep i
  | .chg i j => .chg j i
  | .out i => .inn i
  | .inn i => .out i
noncomputable def Cg.dat (c : Cg) : PyData := .tuple (c.ss.map PyData.str)
theorem DR_cg {H : Hp} {c : Cg} {u : V} : DR H c.dat u ↔ ∃ t, u = .ref t ∧ H t = some (.tup (c.ss.map V.str)) := by
  unfold Cg.dat
  rw [DR_tuple]
  constructor
  · rintro ⟨t, vs, rfl, h, r⟩
    rw [strs_DRs r] at h
    exact ⟨t, rfl, h⟩
  · rintro ⟨t, rfl, h⟩
    exact ⟨t, _, rfl, h, DRs_strs _⟩
theorem opp_old (c : Cg) : c.opp.old = c.new := by cases c <;> rfl
theorem lS_ne (i : Nat) : lS i ≠ Str.ofString "" := fun h => by
  have := congrArg Str.length h
  rw [lS_len] at this
  exact absurd this (by decide +kernel)
theorem old_le (c : Cg) : c.old.length ≤ 1 := by cases c <;> first | (show (lS _).length ≤ 1; rw [lS_len]; exact Nat.le_refl _) | (show (Str.ofString "").length ≤ 1; decide +kernel)
theorem new_le (c : Cg) : c.new.length ≤ 1 := by rw [← opp_old]; exact old_le _
theorem sum_le1 {cs : List Cg} {f : Cg → Str} (h : ∀ c, (f c).length ≤ 1) : ((cs.map f).map (·.length)).sum ≤ cs.length := by
  induction cs with
  | nil => simp
  | cons c cs ih =>
    have := h c
    simp only [List.map_cons, List.sum_cons, List.length_cons]
    omega
noncomputable def oldR (cs : List Cg) : Str := Txt.join (Str.ofString "") (cs.map Cg.old)
noncomputable def newR (cs : List Cg) : Str := Txt.join (Str.ofString "") (cs.map Cg.new)
theorem old_opp (cs : List Cg) : oldR (cs.map Cg.opp) = newR cs := by
  unfold newR oldR
  rw [List.map_map, show Cg.old ∘ Cg.opp = Cg.new from funext opp_old]
theorem oldR_len (cs : List Cg) : (oldR cs).length ≤ cs.length := by
  unfold oldR
  rw [len_cps, join_cps, List.length_flatten, List.map_map]
  have := sum_le1 (cs := cs) old_le
  rw [List.map_map] at this
  refine Nat.le_trans (Nat.le_of_eq ?_) this
  rw [List.map_map]
  exact congrArg List.sum (List.map_congr_left fun c _ => (len_cps _).symm)
theorem newR_len (cs : List Cg) : (newR cs).length ≤ cs.length := by
  rw [← old_opp]
  exact Nat.le_trans (oldR_len _) (by simp)
theorem DRs_get {H : Hp} {cs : List Cg} {us : List V} (h : DRs H (cs.map Cg.dat) us) {i : Nat} {u : V} (e : us[i]? = some u) : ∃ c, cs[i]? = some c ∧ DR H c.dat u := by
  have hl := DRs_len h
  rw [List.length_map] at hl
  have hi : i < cs.length := by rw [← hl]; exact (List.getElem?_eq_some_iff.mp e).1
  obtain ⟨v, h1, h2⟩ := DRs_at (d := cs[i].dat) h (i := i) (by rw [List.getElem?_map, List.getElem?_eq_getElem hi]; rfl)
  rw [e] at h1
  cases h1
  exact ⟨cs[i], List.getElem?_eq_getElem hi, h2⟩
noncomputable def Lcs (H : Hp) (a : Addr) (us : List V) (cs : List Cg) : Prop := H a = some (.lst us) ∧ DRs H (cs.map Cg.dat) us ∧ (∀ c ∈ cs, c.ok) ∧ cs.length ≤ 48
theorem Lcs.same {H H' : Hp} {a : Addr} {us : List V} {cs : List Cg} (h : Lcs H a us cs) (s : Same H H') : Lcs H' a us cs := ⟨s _ _ h.1, DRs.same s _ _ h.2.1, h.2.2⟩
theorem Lcs.len {H : Hp} {a : Addr} {us : List V} {cs : List Cg} (h : Lcs H a us cs) : us.length = cs.length := by
  have := DRs_len h.2.1
  rwa [List.length_map] at this
theorem cg_good {H : Hp} {c : Cg} {u : V} (h : DR H c.dat u) (ok : c.ok) : Good K H u := by
  obtain ⟨t, rfl, ht⟩ := DR_cg.mp h
  refine good_mk ht ?_ ?_ ?_
  · cases c <;> simp [Cg.ss]
  · intro x hx
    cases c <;> simp only [Cg.ss, List.mem_cons, List.mem_nil_iff, or_false] at hx <;> rcases hx with rfl | hx <;> first | (decide +kernel) | (rw [hx, lS_len]; omega) | (rcases hx with rfl | rfl <;> rw [lS_len] <;> omega)
  · cases c with
    | keep i => exact chg2 ok inV3.1
    | chg i j => exact chg3 ok.1 ok.2.1 ok.2.2
    | out i => exact chg2 ok inV3.2.1
    | inn i => exact chg2 ok inV3.2.2
theorem Lcs.goods {H : Hp} {a : Addr} {us : List V} {cs : List Cg} (h : Lcs H a us cs) : ∀ u ∈ us, Good K H u := fun u hu => by
  obtain ⟨i, hi, e⟩ := List.mem_iff_getElem.mp hu
  obtain ⟨c, h1, h2⟩ := DRs_get h.2.1 (i := i) (u := u) (by rw [List.getElem?_eq_getElem hi, e])
  exact cg_good h2 (h.2.2.1 c (List.mem_of_getElem? h1))
theorem Lcs.good {H : Hp} {a : Addr} {us : List V} {cs : List Cg} (h : Lcs H a us cs) : Chs K H (.ref a) true := chs_good h.1 (by rw [h.len]; exact h.2.2.2) h.goods
theorem strOk_lS : ∀ i, i < 26 → PyData.strOk (lS i) = true := by
  have : ∀ i ∈ List.range 26, PyData.strOk (lS i) = true := by decide +kernel
  exact fun i hi => this i (List.mem_range.mpr hi)
theorem lay_cg {c : Cg} (ok : c.ok) : c.dat.canLay0 = true ∧ c.dat.depth ≤ 1 := by
  refine lay_tuple (n := 0) fun d hd => ?_
  obtain ⟨s, hs, rfl⟩ := List.mem_map.mp hd
  refine lay_str ?_
  cases c <;> simp only [Cg.ss, List.mem_cons, List.mem_nil_iff, or_false] at hs <;> rcases hs with rfl | hs <;> first | (decide +kernel) | (rw [hs]; exact strOk_lS _ ok) | (rcases hs with rfl | rfl; exact strOk_lS _ ok.1; exact strOk_lS _ ok.2.1)
theorem shaped_cs {cs : List Cg} (h : ∀ c ∈ cs, c.ok) : PySem.SeqAt.shaped (.list (cs.map Cg.dat)) = true := by
  refine lay_shaped (n := 2) (lay_list (n := 1) fun d hd => ?_) (by omega)
  obtain ⟨c, hc, rfl⟩ := List.mem_map.mp hd
  exact lay_cg (h c hc)
theorem Lcs.dr {H : Hp} {a : Addr} {us : List V} {cs : List Cg} (h : Lcs H a us cs) : DR H (.list (cs.map Cg.dat)) (.ref a) := DR_list.mpr ⟨a, us, rfl, h.1, h.2.1⟩
theorem dKI : decide (V.str (Str.ofString "keep") = V.str (Str.ofString "in")) = false := by decide +kernel
theorem dCI : decide (V.str (Str.ofString "change") = V.str (Str.ofString "in")) = false := by decide +kernel
theorem dOI : decide (V.str (Str.ofString "out") = V.str (Str.ofString "in")) = false := by decide +kernel
theorem dII : decide (V.str (Str.ofString "in") = V.str (Str.ofString "in")) = true := by decide +kernel
theorem dKO : decide (V.str (Str.ofString "keep") = V.str (Str.ofString "out")) = false := by decide +kernel
theorem dCO : decide (V.str (Str.ofString "change") = V.str (Str.ofString "out")) = false := by decide +kernel
theorem dOO : decide (V.str (Str.ofString "out") = V.str (Str.ofString "out")) = true := by decide +kernel
theorem dIO : decide (V.str (Str.ofString "in") = V.str (Str.ofString "out")) = false := by decide +kernel
theorem dKK : decide (V.str (Str.ofString "keep") = V.str (Str.ofString "keep")) = true := by decide +kernel
theorem dCK : decide (V.str (Str.ofString "change") = V.str (Str.ofString "keep")) = false := by decide +kernel
theorem dEE : decide (V.str (Str.ofString "") = V.str (Str.ofString "")) = true := by decide +kernel
theorem dLE (i : Nat) : decide (V.str (lS i) = V.str (Str.ofString "")) = false := decide_eq_false fun h => lS_ne i (V.str.inj h)
noncomputable def spOldL : Sp := fun vs H Q _ => ∃ (u : V) (c : Cg), vs = [u] ∧ DR H c.dat u ∧ Q (.str c.old) H
theorem sc_old_letter : FnScope ["change"] ["change"] (defScope s_old_letter) := ⟨rfl, rfl, rfl, by decide +kernel, rfl, by decide +kernel, by decide +kernel⟩
theorem h_old_letter (T : Txt K mg) : Has P w K mg base 1 "old_letter" ["change"] spOldL := by
  refine hasJ T.d_old_letter sc_old_letter (fun _ _ _ _ _ _ us hl => L2.usN1 (fun _ => rfl) us hl) ?_ fun f cdv A outer s H vs Q E hr h => ?_
  · rintro vs H Q E ⟨u, c, rfl, _⟩; rfl
  obtain ⟨u, c, rfl, hc, q⟩ := h
  have hu := hr.units0
  have hu64 := hr.units
  refine ⟨_, (jb_one (js_ret (j_if (jt_cmp (op_eqE (K := K) rfl hu64) (j_ix (K := K) rfl (j_vL 0 k_old_letter_change) j_int) (j_gstr (glF k_old_letter_IN) T.c_IN (by decide +kernel)) (by first | exact nomark _ | with_unfolding_all rfl)) j_str (j_ix (K := K) rfl (j_vL 0 k_old_letter_change) j_int)))), ?_⟩
  walk_at "sts"
  obtain ⟨t, rfl, ht⟩ := DR_cg.mp hc
  cases c with
  | keep i =>
    refine r_ixT (SqT.of ht) (atI_nat (j := 0) rfl) ?_
    walk_at "sts"
    rw [dKI]
    walk_at "sts"
    exact q
  | chg i j =>
    refine r_ixT (SqT.of ht) (atI_nat (j := 0) rfl) ?_
    walk_at "sts"
    rw [dCI]
    walk_at "sts"
    exact q
  | out i =>
    refine r_ixT (SqT.of ht) (atI_nat (j := 0) rfl) ?_
    walk_at "sts"
    rw [dOI]
    walk_at "sts"
    exact q
  | inn i =>
    refine r_ixT (SqT.of ht) (atI_nat (j := 0) rfl) ?_
    walk_at "sts"
    rw [dII]
    walk_at "sts"
    exact q
noncomputable def spNewL : Sp := fun vs H Q _ => ∃ (u : V) (c : Cg), vs = [u] ∧ DR H c.dat u ∧ Q (.str c.new) H
theorem sc_new_letter : FnScope ["change"] ["change"] (defScope s_new_letter) := ⟨rfl, rfl, rfl, by decide +kernel, rfl, by decide +kernel, by decide +kernel⟩
theorem h_new_letter (T : Txt K mg) : Has P w K mg base 1 "new_letter" ["change"] spNewL := by
  refine hasJ T.d_new_letter sc_new_letter (fun _ _ _ _ _ _ us hl => L2.usN1 (fun _ => rfl) us hl) ?_ fun f cdv A outer s H vs Q E hr h => ?_
  · rintro vs H Q E ⟨u, c, rfl, _⟩; rfl
  obtain ⟨u, c, rfl, hc, q⟩ := h
  have hu := hr.units0
  have hu64 := hr.units
  refine ⟨_, (jb_one (js_ret (j_if (jt_cmp (op_eqE (K := K) rfl hu64) (j_ix (K := K) rfl (j_vL 0 k_new_letter_change) j_int) (j_gstr (glF k_new_letter_OUT) T.c_OUT (by decide +kernel)) (by first | exact nomark _ | with_unfolding_all rfl)) j_str (j_ix (K := K) rfl (j_vL 0 k_new_letter_change) (j_un un_neg j_int))))), ?_⟩
  walk_at "sts"
  obtain ⟨t, rfl, ht⟩ := DR_cg.mp hc
  cases c with
  | keep i =>
    refine r_ixT (SqT.of ht) (atI_nat (j := 0) rfl) ?_
    walk_at "sts"
    rw [dKO]
    walk_at "sts"
    exact q
  | chg i j =>
    refine r_ixT (SqT.of ht) (atI_nat (j := 0) rfl) ?_
    walk_at "sts"
    rw [dCO]
    walk_at "sts"
    exact q
  | out i =>
    refine r_ixT (SqT.of ht) (atI_nat (j := 0) rfl) ?_
    walk_at "sts"
    rw [dOO]
    walk_at "sts"
    exact q
  | inn i =>
    refine r_ixT (SqT.of ht) (atI_nat (j := 0) rfl) ?_
    walk_at "sts"
    rw [dIO]
    walk_at "sts"
    exact q
theorem map_take_succ {α β : Type} {f : α → β} {cs : List α} {i : Nat} {c : α} (h : cs[i]? = some c) : (cs.take i).map f ++ [f c] = (cs.take (i + 1)).map f := by
  rw [List.take_add_one, h, List.map_append]; rfl
noncomputable def spRowOf (R : List Cg → Str) : Sp := fun vs H Q _ => ∃ (a : Addr) (us : List V) (cs : List Cg), vs = [.ref a] ∧ Lcs H a us cs ∧ ∀ H', Same H H' → Q (.str (R cs)) H'
theorem sc_old_row : FnScope ["changes"] ["changes"] (defScope s_old_row) := ⟨rfl, rfl, rfl, by decide +kernel, rfl, by decide +kernel, by decide +kernel⟩
theorem h_old_row (T : Txt K mg) : Has P w K mg base 2 "old_row" ["changes"] (spRowOf oldR) := by
  have h_old_letter := h_old_letter (P := P) (w := w) (base := base) T
  refine hasJ T.d_old_row sc_old_row (fun _ _ _ _ _ _ us hl => L2.usN1 (fun _ => rfl) us hl) ?_ fun f cdv A outer s H vs Q E hr h => ?_
  · rintro vs H Q E ⟨a, us, cs, rfl, _⟩; rfl
  obtain ⟨a, us, cs, rfl, hL, q⟩ := h
  have hu := hr.units0
  have hu64 := hr.units
  refine ⟨_, (jb_one (js_ret (j_meth (K := K) rfl PySem.F.plainAttrs_str PySem.F.slot_str_join PySem.F.type_str_join mt_join j_str (ja_cons (j_comp (sub := [none]) (subOk_of (N := ["changes"]) (sc := defScope s_old_row) (N' := ["change"]) (by decide +kernel)) rfl rfl rfl (ji_seq (K := K) rfl (j_vL 0 k_old_row_changes)) (fun C s₀ H₀ ex => (jg_B 0 (by decide +kernel) nd_old_row_0)) (fun C s₀ H₀ ex => jif_nil) (fun C s₀ H₀ ex => (j_call h_old_letter (hr.mono (by decide)) (glB (by decide +kernel)) (ja_cons (j_vBL 0 (by decide +kernel)) ja_nil) (by decide +kernel)))) ja_nil)))), ?_⟩
  walk_at "sts"
  refine ⟨rfl, ?_⟩
  walk_at "sts"
  refine .inl ⟨a, rfl, ⟨_, SqL.of hL.1⟩, ?_⟩
  have hl := hL.len
  have h48 := hL.2.2.2
  refine comp_list (xs := us) (fun i ys H' => H' = H ∧ ys = ((cs.take i).map Cg.old).map V.str) (Nat.le_trans (show us.length ≤ 1000 by omega) (by decide)) ⟨rfl, rfl⟩ ?_ ?_ ?_ ?_
  · rintro i ys H' ⟨_, rfl⟩
    simp; omega
  · rintro i ys H' ⟨rfl, rfl⟩
    exact SqL.of hL.1
  · rintro i ys H' x hx ⟨rfl, rfl⟩
    obtain ⟨c, hc, hd⟩ := DRs_get hL.2.1 hx
    walk_at "sts"
    refine ⟨KeepSt.set rfl, ?_⟩
    walk_at "sts"
    refine ⟨x, c, rfl, hd, rfl, ?_⟩
    rw [← map_take_succ hc, List.map_append]; rfl
  · rintro ys H' ⟨rfl, rfl⟩ D hD
    rw [List.take_of_length_le (by omega)]
    walk_at "sts"
    refine r_join upd_same (Nat.le_trans (Nat.add_le_add (sum_le1 old_le) (Nat.le_of_eq (show _ = 0 from ?_))) (by omega)) (q _ ((Same.refl H').upd hD))
    show _ * (Str.ofString "").length = 0
    rw [show (Str.ofString "").length = 0 by decide +kernel]; rfl
theorem sc_new_row : FnScope ["changes"] ["changes"] (defScope s_new_row) := ⟨rfl, rfl, rfl, by decide +kernel, rfl, by decide +kernel, by decide +kernel⟩
theorem h_new_row (T : Txt K mg) : Has P w K mg base 2 "new_row" ["changes"] (spRowOf newR) := by
  have h_new_letter := h_new_letter (P := P) (w := w) (base := base) T
  refine hasJ T.d_new_row sc_new_row (fun _ _ _ _ _ _ us hl => L2.usN1 (fun _ => rfl) us hl) ?_ fun f cdv A outer s H vs Q E hr h => ?_
  · rintro vs H Q E ⟨a, us, cs, rfl, _⟩; rfl
  obtain ⟨a, us, cs, rfl, hL, q⟩ := h
  have hu := hr.units0
  have hu64 := hr.units
  refine ⟨_, (jb_one (js_ret (j_meth (K := K) rfl PySem.F.plainAttrs_str PySem.F.slot_str_join PySem.F.type_str_join mt_join j_str (ja_cons (j_comp (sub := [none]) (subOk_of (N := ["changes"]) (sc := defScope s_new_row) (N' := ["change"]) (by decide +kernel)) rfl rfl rfl (ji_seq (K := K) rfl (j_vL 0 k_new_row_changes)) (fun C s₀ H₀ ex => (jg_B 0 (by decide +kernel) nd_new_row_1)) (fun C s₀ H₀ ex => jif_nil) (fun C s₀ H₀ ex => (j_call h_new_letter (hr.mono (by decide)) (glB (by decide +kernel)) (ja_cons (j_vBL 0 (by decide +kernel)) ja_nil) (by decide +kernel)))) ja_nil)))), ?_⟩
  walk_at "sts"
  refine ⟨rfl, ?_⟩
  walk_at "sts"
  refine .inl ⟨a, rfl, ⟨_, SqL.of hL.1⟩, ?_⟩
  have hl := hL.len
  have h48 := hL.2.2.2
  refine comp_list (xs := us) (fun i ys H' => H' = H ∧ ys = ((cs.take i).map Cg.new).map V.str) (Nat.le_trans (show us.length ≤ 1000 by omega) (by decide)) ⟨rfl, rfl⟩ ?_ ?_ ?_ ?_
  · rintro i ys H' ⟨_, rfl⟩
    simp; omega
  · rintro i ys H' ⟨rfl, rfl⟩
    exact SqL.of hL.1
  · rintro i ys H' x hx ⟨rfl, rfl⟩
    obtain ⟨c, hc, hd⟩ := DRs_get hL.2.1 hx
    walk_at "sts"
    refine ⟨KeepSt.set rfl, ?_⟩
    walk_at "sts"
    refine ⟨x, c, rfl, hd, rfl, ?_⟩
    rw [← map_take_succ hc, List.map_append]; rfl
  · rintro ys H' ⟨rfl, rfl⟩ D hD
    rw [List.take_of_length_le (by omega)]
    walk_at "sts"
    refine r_join upd_same (Nat.le_trans (Nat.add_le_add (sum_le1 new_le) (Nat.le_of_eq (show _ = 0 from ?_))) (by omega)) (q _ ((Same.refl H').upd hD))
    show _ * (Str.ofString "").length = 0
    rw [show (Str.ofString "").length = 0 by decide +kernel]; rfl
noncomputable def spChgOf : Sp := fun vs H Q _ => ∃ c : Cg, vs = [.str c.old, .str c.new] ∧ c.ok ∧ ∀ v H', Same H H' → DR H' c.dat v → Q v H'
theorem sc_change_of : FnScope ["old", "new"] ["old", "new"] (defScope s_change_of) := ⟨rfl, rfl, rfl, by decide +kernel, rfl, by decide +kernel, by decide +kernel⟩
theorem h_change_of (T : Txt K mg) : Has P w K mg base 1 "change_of" ["old", "new"] spChgOf := by
  refine hasJ T.d_change_of sc_change_of (fun _ _ _ _ _ _ us hl => L2.usN2 (fun _ _ => rfl) us hl) ?_ fun f cdv A outer s H vs Q E hr h => ?_
  · rintro vs H Q E ⟨c, rfl, _⟩; rfl
  obtain ⟨c, rfl, ok, q⟩ := h
  have hu := hr.units0
  have hu64 := hr.units
  refine ⟨_, (jb_cons (js_if (jt_cmp (op_eqE (K := K) rfl hu64) (j_vL 0 k_change_of_old) j_str (by first | exact nomark _ | with_unfolding_all rfl)) (jb_one (js_ret (j_tup (ja_cons (j_gstr (glF k_change_of_IN) T.c_IN (by decide +kernel)) (ja_cons (j_vL 1 k_change_of_new) ja_nil))))) jb_nil) (jb_cons (js_if (jt_cmp (op_eqE (K := K) rfl hu64) (j_vL 1 k_change_of_new) j_str (by first | exact nomark _ | with_unfolding_all rfl)) (jb_one (js_ret (j_tup (ja_cons (j_gstr (glF k_change_of_OUT) T.c_OUT (by decide +kernel)) (ja_cons (j_vL 0 k_change_of_old) ja_nil))))) jb_nil) (jb_one (js_ret (j_if (jt_cmp (op_eqE (K := K) rfl hu64) (j_vL 0 k_change_of_old) (j_vL 1 k_change_of_new) (by first | exact nomark _ | with_unfolding_all rfl)) (j_tup (ja_cons (j_gstr (glF k_change_of_KEEP) T.c_KEEP (by decide +kernel)) (ja_cons (j_vL 0 k_change_of_old) ja_nil))) (j_tup (ja_cons (j_gstr (glF k_change_of_CHANGE) T.c_CHANGE (by decide +kernel)) (ja_cons (j_vL 0 k_change_of_old) (ja_cons (j_vL 1 k_change_of_new) ja_nil))))))))), ?_⟩
  walk_at "sts"
  cases c with
  | keep i =>
    show if decide (V.str (lS i) = V.str (Str.ofString "")) = true then _ else _
    rw [dLE]
    walk_at "sts"
    show if decide (V.str (lS i) = V.str (Str.ofString "")) = true then _ else _
    rw [dLE]
    walk_at "sts"
    rw [show decide (V.str (Cg.keep i).old = V.str (Cg.keep i).new) = true from decide_eq_true rfl]
    walk_at "sts"
    refine r_new rfl fun t nt => ?_
    exact q _ _ ((Same.refl H).upd nt) (DR_cg.mpr ⟨t, rfl, upd_same⟩)
  | chg i j =>
    show if decide (V.str (lS i) = V.str (Str.ofString "")) = true then _ else _
    rw [dLE]
    walk_at "sts"
    show if decide (V.str (lS j) = V.str (Str.ofString "")) = true then _ else _
    rw [dLE]
    walk_at "sts"
    rw [show decide (V.str (Cg.chg i j).old = V.str (Cg.chg i j).new) = false from decide_eq_false fun h => ok.2.2 (lS_inj i j ok.1 ok.2.1 (V.str.inj h))]
    walk_at "sts"
    refine r_new rfl fun t nt => ?_
    exact q _ _ ((Same.refl H).upd nt) (DR_cg.mpr ⟨t, rfl, upd_same⟩)
  | out i =>
    show if decide (V.str (lS i) = V.str (Str.ofString "")) = true then _ else _
    rw [dLE]
    walk_at "sts"
    show if decide (V.str (Str.ofString "") = V.str (Str.ofString "")) = true then _ else _
    rw [dEE]
    walk_at "sts"
    refine r_new rfl fun t nt => ?_
    exact q _ _ ((Same.refl H).upd nt) (DR_cg.mpr ⟨t, rfl, upd_same⟩)
  | inn i =>
    show if decide (V.str (Str.ofString "") = V.str (Str.ofString "")) = true then _ else _
    rw [dEE]
    walk_at "sts"
    refine r_new rfl fun t nt => ?_
    exact q _ _ ((Same.refl H).upd nt) (DR_cg.mpr ⟨t, rfl, upd_same⟩)
end

noncomputable def isIn : Cg → Bool
  | .inn _ => true
  | _ => false
noncomputable def isOut : Cg → Bool
  | .out _ => true
  | _ => false
noncomputable def isKeep : Cg → Bool
  | .keep _ => true
  | _ => false
noncomputable def Cg.oN : Cg → Option Nat
  | .keep i => some i
  | .chg i _ => some i
  | .out i => some i
  | .inn _ => none
noncomputable def Cg.nN : Cg → Option Nat
  | .keep i => some i
  | .chg _ j => some j
  | .out _ => none
  | .inn i => some i
noncomputable def ofN : Option Nat → Option Nat → List Cg
  | none, none => []
  | none, some j => [.inn j]
  | some i, none => [.out i]
  | some i, some j => [if i = j then .keep i else .chg i j]
noncomputable def met (m t : Cg) : List Cg := ofN m.oN t.nN
noncomputable def noOut : List Cg → Bool
  | [] => true
  | c :: _ => !isOut c
inductive Aft : List Cg → List Cg → List Cg → Prop where
  | nil : Aft [] [] []
  | out {i : Nat} {xs ys zs : List Cg} (h : Aft xs ys zs) : Aft (.out i :: xs) ys (.out i :: zs)
  | inn {i : Nat} {xs ys zs : List Cg} (n : noOut xs = true) (h : Aft xs ys zs) : Aft xs (.inn i :: ys) (.inn i :: zs)
  | met {m t : Cg} {xs ys zs : List Cg} (hm : isOut m = false) (ht : isIn t = false) (e : m.nN = t.oN) (h : Aft xs ys zs) : Aft (m :: xs) (t :: ys) (met m t ++ zs)
theorem aft_inn {n : Option Nat} {xs ys zs : List Cg} (o : noOut xs = true) (h : Aft xs ys zs) : Aft xs (ofN none n ++ ys) (ofN none n ++ zs) := by
  cases n with
  | none => exact h
  | some j => exact .inn o h
theorem aft_out {n : Option Nat} {xs ys zs : List Cg} (h : Aft xs ys zs) : Aft (ofN n none ++ xs) ys (ofN n none ++ zs) := by
  cases n with
  | none => exact h
  | some j => exact .out h
theorem ofN_some {o n : Option Nat} (h : o ≠ none ∨ n ≠ none) : ∃ c, ofN o n = [c] ∧ c.oN = o ∧ c.nN = n := by
  cases o with
  | none => cases n with
    | none => rcases h with h | h <;> exact absurd rfl h
    | some j => exact ⟨_, rfl, rfl, rfl⟩
  | some i => cases n with
    | none => exact ⟨_, rfl, rfl, rfl⟩
    | some j =>
      refine ⟨_, rfl, ?_, ?_⟩
      · split <;> rfl
      · split
        · rename_i h; rw [h]; rfl
        · rfl
theorem nOut (c : Cg) : isOut c = false ↔ c.nN ≠ none := by cases c <;> simp [isOut, Cg.nN]
theorem nIn (c : Cg) : isIn c = false ↔ c.oN ≠ none := by cases c <;> simp [isIn, Cg.oN]
theorem aft_assoc {a b ab : List Cg} (h1 : Aft a b ab) : ∀ {c bc : List Cg}, Aft b c bc → ∃ z, Aft ab c z ∧ Aft a bc z := by
  induction h1 with
  | nil =>
    intro c bc h2
    generalize hb : ([] : List Cg) = b at h2
    induction h2 with
    | nil => exact ⟨[], .nil, .nil⟩
    | out h ih => cases hb
    | inn n h ih =>
      obtain ⟨z, z1, z2⟩ := ih hb
      subst hb
      exact ⟨_, .inn rfl z1, .inn rfl z2⟩
    | met hm ht e h ih => cases hb
  | out h ih =>
    intro c bc h2
    obtain ⟨z, z1, z2⟩ := ih h2
    exact ⟨_, .out z1, .out z2⟩
  | @inn q xs ys zs n h ih =>
    intro c bc h2
    generalize hb : (Cg.inn q :: ys) = b at h2
    induction h2 with
    | nil => cases hb
    | out h3 ih3 => cases hb
    | inn n3 h3 ih3 =>
      obtain ⟨z, z1, z2⟩ := ih3 hb
      exact ⟨_, .inn rfl z1, .inn n z2⟩
    | met hm ht e h3 ih3 =>
      injection hb with hb1 hb2
      subst hb1 hb2
      obtain ⟨z, z1, z2⟩ := ih h3
      exact ⟨_, .met rfl ht e z1, aft_inn n z2⟩
  | @met m k xs ys zs hm hk e h ih =>
    intro c bc h2
    generalize hb : (k :: ys) = b at h2
    induction h2 with
    | nil => cases hb
    | out h3 ih3 =>
      injection hb with hb1 hb2
      subst hb1 hb2
      obtain ⟨z, z1, z2⟩ := ih h3
      exact ⟨_, aft_out z1, .met hm rfl e z2⟩
    | inn n3 h3 ih3 =>
      obtain ⟨z, z1, z2⟩ := ih3 hb
      subst hb
      have hko : isOut k = false := by simpa [noOut] using n3
      obtain ⟨c, e1, e2, e3⟩ := ofN_some (o := m.oN) (n := k.nN) (.inr ((nOut k).mp hko))
      refine ⟨_, .inn ?_ z1, .inn (by simp [noOut, hm]) z2⟩
      show noOut (ofN m.oN k.nN ++ zs) = true
      rw [e1]
      have : isOut c = false := (nOut c).mpr (by rw [e3]; exact (nOut k).mp hko)
      simp [noOut, this]
    | @met k' t ys' cs' zs' hk' ht e' h3 ih3 =>
      injection hb with hb1 hb2
      subst hb1 hb2
      obtain ⟨z, z1, z2⟩ := ih h3
      obtain ⟨c, c1, c2, c3⟩ := ofN_some (o := m.oN) (n := k.nN) (.inr ((nOut k).mp hk'))
      obtain ⟨d, d1, d2, d3⟩ := ofN_some (o := k.oN) (n := t.nN) (.inl ((nIn k).mp hk))
      refine ⟨ofN m.oN t.nN ++ z, ?_, ?_⟩
      · show Aft (ofN m.oN k.nN ++ zs) _ _
        rw [c1]
        have := Aft.met (m := c) (t := t) ((nOut c).mpr (by rw [c3]; exact (nOut k).mp hk')) ht (by rw [c3, e']) z1
        unfold My.met at this
        rw [c2] at this
        exact this
      · show Aft _ (ofN k.oN t.nN ++ zs') _
        rw [d1]
        have := Aft.met (m := m) (t := d) hm ((nIn d).mpr (by rw [d2]; exact (nIn k).mp hk)) (by rw [d2, e]) z2
        unfold My.met at this
        rw [d3] at this
        exact this
theorem aft_ex : ∀ (n : Nat) (a b : List Cg), a.length + b.length ≤ n → a.filterMap Cg.nN = b.filterMap Cg.oN → ∃ z, Aft a b z
  | 0, a, b, hn, _ => by
    cases a with
    | nil => cases b with
      | nil => exact ⟨_, .nil⟩
      | cons _ _ => simp at hn
    | cons _ _ => simp at hn
  | n + 1, a, b, hn, h => by
    cases ha : noOut a with
    | false =>
      cases a with
      | nil => cases ha
      | cons m a =>
        cases m with
        | out i =>
          obtain ⟨z, hz⟩ := aft_ex n a b (by simp at hn; omega) (by simpa [List.filterMap_cons, Cg.nN] using h)
          exact ⟨_, .out hz⟩
        | _ => cases ha
    | true =>
      cases b with
      | nil =>
        cases a with
        | nil => exact ⟨_, .nil⟩
        | cons m a => cases m <;> simp [noOut, isOut, List.filterMap_cons, Cg.nN] at ha h
      | cons t b =>
        cases ht : isIn t with
        | true =>
          cases t with
          | inn j =>
            obtain ⟨z, hz⟩ := aft_ex n a b (by simp at hn ⊢; omega) (by simpa [List.filterMap_cons, Cg.oN] using h)
            exact ⟨_, .inn ha hz⟩
          | _ => cases ht
        | false =>
          have h2 := (nIn t).mp ht
          obtain ⟨y, hy⟩ := Option.ne_none_iff_exists'.mp h2
          cases a with
          | nil => simp [List.filterMap_cons, hy] at h
          | cons m a =>
            have hm : isOut m = false := by simpa [noOut] using ha
            obtain ⟨x, hx⟩ := Option.ne_none_iff_exists'.mp ((nOut m).mp hm)
            simp only [List.filterMap_cons, hx, hy] at h
            injection h with e1 e2
            obtain ⟨z, hz⟩ := aft_ex n a b (by simp at hn; omega) e2
            exact ⟨_, .met hm ht (by rw [hx, hy, e1]) hz⟩
noncomputable def consH (c : Cg) : List (List Cg) → List (List Cg)
  | [] => [[c]]
  | g :: gs => (c :: g) :: gs
noncomputable def grp (p : Cg → Bool) : List Cg → List (List Cg)
  | [] => [[]]
  | c :: cs => if p c = true then consH c (grp p cs) else [] :: grp p cs
theorem grp_ne (p : Cg → Bool) (cs : List Cg) : ∃ g gs, grp p cs = g :: gs := by
  cases cs with
  | nil => exact ⟨_, _, rfl⟩
  | cons c cs =>
    unfold grp
    split
    · cases grp p cs with
      | nil => exact ⟨_, _, rfl⟩
      | cons g gs => exact ⟨_, _, rfl⟩
    · exact ⟨_, _, rfl⟩
theorem grp_len (p : Cg → Bool) (cs : List Cg) : (grp p cs).length = (cs.filter fun c => !p c).length + 1 := by
  induction cs with
  | nil => rfl
  | cons c cs ih =>
    obtain ⟨g, gs, e⟩ := grp_ne p cs
    unfold grp
    cases hp : p c with
    | true => rw [if_pos rfl, List.filter_cons_of_neg (by simp [hp]), ← ih, e]; rfl
    | false => rw [if_neg (by decide), List.filter_cons_of_pos (by simp [hp]), List.length_cons, ih]; rfl
theorem grp_in {p : Cg → Bool} {c : Cg} (hc : p c = true) : ∀ {cs : List Cg} {gs : List (List Cg)} {l : List Cg}, grp p cs = gs ++ [l] → grp p (cs ++ [c]) = gs ++ [l ++ [c]]
  | [], gs, l, h => by
    have : gs = [] ∧ l = [] := by
      cases gs with
      | nil => simpa [grp] using h
      | cons g gs => simp [grp] at h
    rw [this.1, this.2]
    simp [grp, hc, consH]
  | d :: cs, gs, l, h => by
    obtain ⟨g, gs', e⟩ := grp_ne p cs
    obtain ⟨gs2, l2, e2⟩ : ∃ gs2 l2, grp p cs = gs2 ++ [l2] := ⟨_, _, (List.dropLast_concat_getLast (by rw [e]; simp)).symm⟩
    have ih := grp_in hc e2
    rw [List.cons_append]
    unfold grp at h ⊢
    by_cases hd : p d = true
    · rw [if_pos hd] at h ⊢
      rw [ih]
      rw [e2] at h
      cases gs2 with
      | nil =>
        have h' : [d :: l2] = gs ++ [l] := h
        cases gs with
        | nil => simp at h'; rw [← h']; rfl
        | cons x y => simp at h'
      | cons x gs2 =>
        have h' : (d :: x) :: (gs2 ++ [l2]) = gs ++ [l] := h
        rw [← List.cons_append] at h'
        obtain ⟨h1, h2⟩ := List.append_inj' h' rfl
        rw [← h1, ← (List.cons.inj h2).1]; rfl
    · rw [if_neg hd] at h ⊢
      rw [ih]
      rw [e2, ← List.cons_append] at h
      obtain ⟨h1, h2⟩ := List.append_inj' h rfl
      rw [← h1, ← (List.cons.inj h2).1]; rfl
theorem grp_out {p : Cg → Bool} {c : Cg} (hc : p c = false) : ∀ (cs : List Cg), grp p (cs ++ [c]) = grp p cs ++ [[]]
  | [] => by simp [grp, hc]
  | d :: cs => by
    rw [List.cons_append]
    unfold grp
    rw [grp_out hc cs]
    obtain ⟨g, gs, e⟩ := grp_ne p cs
    split
    · rw [e]; rfl
    · rfl
noncomputable def wv : List (List Cg) → List Cg → List (List Cg) → List Cg → List Cg
  | o :: os, m :: ms, i :: is, t :: ts => o ++ i ++ met m t ++ wv os ms is ts
  | o :: _, [], i :: _, [] => o ++ i
  | _, _, _, _ => []
theorem wv_out {c : Cg} {o : List Cg} {os : List (List Cg)} {i : List Cg} {is : List (List Cg)} {ms ts : List Cg} (hl : ms.length = ts.length) : wv ((c :: o) :: os) ms (i :: is) ts = c :: wv (o :: os) ms (i :: is) ts := by
  cases ms with
  | nil => cases ts with
    | nil => rfl
    | cons _ _ => simp at hl
  | cons m ms => cases ts with
    | nil => simp at hl
    | cons t ts => simp [wv]
theorem wv_inn {c : Cg} {os : List (List Cg)} {i : List Cg} {is : List (List Cg)} {ms ts : List Cg} (hl : ms.length = ts.length) : wv ([] :: os) ms ((c :: i) :: is) ts = c :: wv ([] :: os) ms (i :: is) ts := by
  cases ms with
  | nil => cases ts with
    | nil => rfl
    | cons _ _ => simp at hl
  | cons m ms => cases ts with
    | nil => simp at hl
    | cons t ts => simp [wv]
noncomputable def bnd (p : Cg → Bool) (cs : List Cg) : List Cg := cs.filter fun c => !p c
theorem aft_len {a b z : List Cg} (h : Aft a b z) : (bnd isOut a).length = (bnd isIn b).length := by
  unfold bnd
  induction h with
  | nil => rfl
  | out h ih => simpa [List.filter_cons, isOut] using ih
  | inn n h ih => simpa [List.filter_cons, isIn] using ih
  | met hm ht e h ih => simpa [List.filter_cons, hm, ht] using ih
noncomputable def wav (a b : List Cg) : List Cg := wv (grp isOut a) (bnd isOut a) (grp isIn b) (bnd isIn b)
theorem aft_wav {a b z : List Cg} (h : Aft a b z) : wav a b = z := by
  induction h with
  | nil => rfl
  | @out i xs ys zs h ih =>
    obtain ⟨g, gs, e⟩ := grp_ne isOut xs
    obtain ⟨k, ks, e2⟩ := grp_ne isIn ys
    have hl := aft_len h
    unfold wav at ih ⊢
    rw [e, e2] at ih
    rw [show grp isOut (Cg.out i :: xs) = (Cg.out i :: g) :: gs by rw [grp, if_pos (show isOut (Cg.out i) = true from rfl), e]; rfl, show bnd isOut (Cg.out i :: xs) = bnd isOut xs from rfl, e2, wv_out hl, ih]
  | @inn i xs ys zs n h ih =>
    obtain ⟨k, ks, e2⟩ := grp_ne isIn ys
    have hl := aft_len h
    obtain ⟨gs, e⟩ : ∃ gs, grp isOut xs = [] :: gs := by
      cases xs with
      | nil => exact ⟨_, rfl⟩
      | cons c cs =>
        have hc : isOut c = false := by simpa [noOut] using n
        exact ⟨_, by rw [grp, if_neg (by simp [hc])]⟩
    unfold wav at ih ⊢
    rw [e, e2] at ih
    rw [show grp isIn (Cg.inn i :: ys) = (Cg.inn i :: k) :: ks by rw [grp, if_pos (show isIn (Cg.inn i) = true from rfl), e2]; rfl, show bnd isIn (Cg.inn i :: ys) = bnd isIn ys from rfl, e, wv_inn hl, ih]
  | @met m t xs ys zs hm ht e h ih =>
    unfold wav at ih ⊢
    rw [show grp isOut (m :: xs) = [] :: grp isOut xs by rw [grp, if_neg (by simp [hm])], show grp isIn (t :: ys) = [] :: grp isIn ys by rw [grp, if_neg (by simp [ht])],
      show bnd isOut (m :: xs) = m :: bnd isOut xs by simp [bnd, hm], show bnd isIn (t :: ys) = t :: bnd isIn ys by simp [bnd, ht]]
    show [] ++ [] ++ My.met m t ++ wv _ _ _ _ = _
    rw [ih]; rfl
noncomputable def tol (os : List (List Cg)) (ms : List Cg) (is : List (List Cg)) (ts : List Cg) : Nat → List Cg
  | 0 => []
  | k + 1 => match os, ms, is, ts with
    | o :: os, m :: ms, i :: is, t :: ts => o ++ i ++ met m t ++ tol os ms is ts k
    | _, _, _, _ => []
theorem tol_succ : ∀ (k : Nat) (os : List (List Cg)) (ms : List Cg) (is : List (List Cg)) (ts : List Cg) {o i : List Cg} {m t : Cg}, os[k]? = some o → ms[k]? = some m → is[k]? = some i → ts[k]? = some t →
    tol os ms is ts (k + 1) = tol os ms is ts k ++ (o ++ i ++ met m t)
  | k, [], ms, is, ts, o, i, m, t, h1, h2, h3, h4 => by simp at h1
  | k, _ :: _, [], is, ts, o, i, m, t, h1, h2, h3, h4 => by simp at h2
  | k, _ :: _, _ :: _, [], ts, o, i, m, t, h1, h2, h3, h4 => by simp at h3
  | k, _ :: _, _ :: _, _ :: _, [], o, i, m, t, h1, h2, h3, h4 => by simp at h4
  | 0, x :: os, y :: ms, z :: is, u :: ts, o, i, m, t, h1, h2, h3, h4 => by
    cases h1; cases h2; cases h3; cases h4
    simp [tol]
  | k + 1, x :: os, y :: ms, z :: is, u :: ts, o, i, m, t, h1, h2, h3, h4 => by
    have ih := tol_succ k os ms is ts (o := o) (i := i) (m := m) (t := t) (by simpa using h1) (by simpa using h2) (by simpa using h3) (by simpa using h4)
    rw [tol, ih]
    show _ = x ++ z ++ My.met y u ++ tol os ms is ts k ++ _
    simp
theorem tol_end : ∀ (ms : List Cg) (os : List (List Cg)) (is : List (List Cg)) (ts : List Cg) {o i : List Cg}, ms.length = ts.length → os[ms.length]? = some o → is[ms.length]? = some i → wv os ms is ts = tol os ms is ts ms.length ++ (o ++ i)
  | _, [], is, ts, o, i, hl, h1, h2 => by simp at h1
  | _, _ :: _, [], ts, o, i, hl, h1, h2 => by simp at h2
  | [], x :: os, z :: is, ts, o, i, hl, h1, h2 => by
    cases ts with
    | nil => cases h1; cases h2; rfl
    | cons _ _ => simp at hl
  | m :: ms, x :: os, z :: is, [], o, i, hl, h1, h2 => by simp at hl
  | m :: ms, x :: os, z :: is, t :: ts, o, i, hl, h1, h2 => by
    have ih := tol_end ms os is ts (o := o) (i := i) (by simpa using hl) (by simpa using h1) (by simpa using h2)
    show x ++ z ++ My.met m t ++ wv os ms is ts = _
    rw [ih]
    show _ = x ++ z ++ My.met m t ++ tol os ms is ts ms.length ++ _
    simp
theorem ofN_ok {o n : Option Nat} (h1 : ∀ i, o = some i → i < 26) (h2 : ∀ i, n = some i → i < 26) : ∀ c ∈ ofN o n, c.ok := by
  intro c hc
  cases o with
  | none => cases n with
    | none => cases hc
    | some j => rw [List.mem_singleton.mp hc]; exact h2 j rfl
  | some i => cases n with
    | none => rw [List.mem_singleton.mp hc]; exact h1 i rfl
    | some j =>
      rw [List.mem_singleton.mp hc]
      split
      · exact h1 i rfl
      · rename_i hne; exact ⟨h1 i rfl, h2 j rfl, hne⟩
theorem ok_o {c : Cg} (h : c.ok) : ∀ i, c.oN = some i → i < 26 := by
  cases c <;> intro i e <;> cases e <;> first | exact h | exact h.1
theorem ok_n {c : Cg} (h : c.ok) : ∀ i, c.nN = some i → i < 26 := by
  cases c <;> intro i e <;> cases e <;> first | exact h | exact h.2.1
theorem met_ok {m t : Cg} (h1 : m.ok) (h2 : t.ok) : ∀ c ∈ met m t, c.ok := ofN_ok (ok_o h1) (ok_n h2)
theorem aft_ok {a b z : List Cg} (h : Aft a b z) : (∀ c ∈ a, c.ok) → (∀ c ∈ b, c.ok) → ∀ c ∈ z, c.ok := by
  induction h with
  | nil => intro _ _ c hc; cases hc
  | out h ih =>
    intro h1 h2 c hc
    rcases List.mem_cons.mp hc with rfl | hc
    · exact h1 _ (by simp)
    · exact ih (fun c hc => h1 c (List.mem_cons_of_mem _ hc)) h2 c hc
  | inn n h ih =>
    intro h1 h2 c hc
    rcases List.mem_cons.mp hc with rfl | hc
    · exact h2 _ (by simp)
    · exact ih h1 (fun c hc => h2 c (List.mem_cons_of_mem _ hc)) c hc
  | met hm ht e h ih =>
    intro h1 h2 c hc
    rcases List.mem_append.mp hc with hc | hc
    · exact met_ok (h1 _ (by simp)) (h2 _ (by simp)) c hc
    · exact ih (fun c hc => h1 c (List.mem_cons_of_mem _ hc)) (fun c hc => h2 c (List.mem_cons_of_mem _ hc)) c hc
theorem ofN_new (o n : Option Nat) : (ofN o n).filterMap Cg.nN = n.toList := by
  cases o with
  | none => cases n <;> rfl
  | some i => cases n with
    | none => rfl
    | some j => by_cases h : i = j <;> simp [ofN, h, Cg.nN]
theorem ofN_old (o n : Option Nat) : (ofN o n).filterMap Cg.oN = o.toList := by
  cases o with
  | none => cases n <;> rfl
  | some i => cases n with
    | none => rfl
    | some j => by_cases h : i = j <;> simp [ofN, h, Cg.oN]
theorem fm_cons {f : Cg → Option Nat} (c : Cg) (cs : List Cg) : (c :: cs).filterMap f = (f c).toList ++ cs.filterMap f := by
  rw [List.filterMap_cons]
  cases f c <;> rfl
theorem aft_rows {a b z : List Cg} (h : Aft a b z) : z.filterMap Cg.nN = b.filterMap Cg.nN ∧ z.filterMap Cg.oN = a.filterMap Cg.oN ∧ a.filterMap Cg.nN = b.filterMap Cg.oN := by
  induction h with
  | nil => exact ⟨rfl, rfl, rfl⟩
  | out h ih =>
    rw [fm_cons, fm_cons, fm_cons, fm_cons]
    exact ⟨ih.1, by rw [ih.2.1], ih.2.2⟩
  | inn n h ih =>
    rw [fm_cons, fm_cons, fm_cons, fm_cons]
    exact ⟨by rw [ih.1], ih.2.1, ih.2.2⟩
  | @met m t xs ys zs hm ht e h ih =>
    rw [fm_cons, fm_cons, fm_cons, fm_cons, List.filterMap_append, List.filterMap_append]
    show (ofN m.oN t.nN).filterMap _ ++ _ = _ ∧ (ofN m.oN t.nN).filterMap _ ++ _ = _ ∧ _
    rw [ofN_new, ofN_old, ih.1, ih.2.1, ih.2.2, e]
    exact ⟨rfl, rfl, rfl⟩
noncomputable def pays (cs : List Cg) : Nat := (cs.filter fun c => !isKeep c).length
theorem pays_cons (c : Cg) (cs : List Cg) : pays (c :: cs) = (if isKeep c = true then 0 else 1) + pays cs := by
  unfold pays
  cases h : isKeep c with
  | true => rw [List.filter_cons_of_neg (by simp [h])]; simp
  | false => rw [List.filter_cons_of_pos (by simp [h])]; simp; omega
theorem pays_app (a b : List Cg) : pays (a ++ b) = pays a + pays b := by
  unfold pays
  rw [List.filter_append, List.length_append]
theorem met_pays {m t : Cg} (hm : isOut m = false) (ht : isIn t = false) (e : m.nN = t.oN) : pays (met m t) ≤ (if isKeep m = true then 0 else 1) + (if isKeep t = true then 0 else 1) := by
  have one : ∀ o n, pays (ofN o n) ≤ 1 := fun o n => by
    cases o with
    | none => cases n <;> simp [ofN, pays, isKeep]
    | some i => cases n with
      | none => simp [ofN, pays, isKeep]
      | some j => exact List.length_filter_le _ _
  have h1 := one m.oN t.nN
  cases hk : isKeep m with
  | false => simp; unfold met; omega
  | true =>
    cases hl : isKeep t with
    | false => simp; unfold met; omega
    | true =>
      cases m with
      | keep i => cases t with
        | keep j =>
          have : i = j := Option.some.inj e
          subst this
          simp [met, ofN, Cg.oN, Cg.nN, pays, isKeep]
        | _ => cases hl
      | _ => cases hk
theorem aft_pays {a b z : List Cg} (h : Aft a b z) : pays z ≤ pays a + pays b := by
  induction h with
  | nil => exact Nat.le_refl _
  | out h ih => rw [pays_cons, pays_cons]; omega
  | inn n h ih => rw [pays_cons, pays_cons]; omega
  | met hm ht e h ih =>
    have := met_pays hm ht e
    rw [pays_app, pays_cons, pays_cons]; omega
noncomputable def sN : Option Nat → Str
  | none => Str.ofString ""
  | some i => lS i
theorem new_sN (c : Cg) : c.new = sN c.nN := by cases c <;> rfl
theorem old_sN (c : Cg) : c.old = sN c.oN := by cases c <;> rfl
theorem cps_sN (o : Option Nat) : (sN o).cps.toList = o.toList.map lc := by
  cases o with
  | none => show (Str.ofString "").cps.toList = []; decide +kernel
  | some i => rfl
theorem newR_cps (cs : List Cg) : (newR cs).cps.toList = (cs.filterMap Cg.nN).map lc := by
  unfold newR
  rw [join_cps]
  induction cs with
  | nil => rfl
  | cons c cs ih =>
    rw [List.map_cons, List.map_cons, List.flatten_cons, ih, fm_cons, List.map_append, ← cps_sN, new_sN]
theorem oldR_cps (cs : List Cg) : (oldR cs).cps.toList = (cs.filterMap Cg.oN).map lc := by
  unfold oldR
  rw [join_cps]
  induction cs with
  | nil => rfl
  | cons c cs ih =>
    rw [List.map_cons, List.map_cons, List.flatten_cons, ih, fm_cons, List.map_append, ← cps_sN, old_sN]
theorem lc_inj : ∀ i j, i < 26 → j < 26 → lc i = lc j → i = j := fun i j hi hj h => lS_inj i j hi hj (by unfold lS; rw [h])
theorem map_lc : ∀ (a b : List Nat), (∀ i ∈ a, i < 26) → (∀ i ∈ b, i < 26) → a.map lc = b.map lc → a = b
  | [], [], _, _, _ => rfl
  | [], _ :: _, _, _, h => by simp at h
  | _ :: _, [], _, _, h => by simp at h
  | x :: a, y :: b, h1, h2, h => by
    simp only [List.map_cons, List.cons.injEq] at h
    rw [lc_inj x y (h1 x (by simp)) (h2 y (by simp)) h.1, map_lc a b (fun i hi => h1 i (List.mem_cons_of_mem _ hi)) (fun i hi => h2 i (List.mem_cons_of_mem _ hi)) h.2]
theorem fm_lt {f : Cg → Option Nat} (hf : ∀ c : Cg, c.ok → ∀ i, f c = some i → i < 26) {cs : List Cg} (h : ∀ c ∈ cs, c.ok) : ∀ i ∈ cs.filterMap f, i < 26 := fun i hi => by
  obtain ⟨c, hc, e⟩ := List.mem_filterMap.mp hi
  exact hf c (h c hc) i e
theorem fit_iff {a b : List Cg} (ha : ∀ c ∈ a, c.ok) (hb : ∀ c ∈ b, c.ok) : newR a = oldR b ↔ ∃ z, Aft a b z := by
  constructor
  · intro h
    have h2 : (newR a).cps.toList = (oldR b).cps.toList := by rw [h]
    rw [newR_cps, oldR_cps] at h2
    exact aft_ex _ a b (Nat.le_refl _) (map_lc _ _ (fm_lt (fun _ => ok_n) ha) (fm_lt (fun _ => ok_o) hb) h2)
  · rintro ⟨z, hz⟩
    refine strExt ?_
    rw [newR_cps, oldR_cps, (aft_rows hz).2.2]
local macro_rules | `(tactic| walk_at "sts") => `(tactic| (with_reducible repeat (first | refine r_op ?_ | refine iteT ?_ | refine iteF ?_ | refine iteNT ?_ | refine iteNF ?_ | refine r_var (by with_unfolding_all rfl) ?_ | refine r_C ?_ | refine r_i0 ?_ | refine r_addI ?_ | refine r_cons ?_ | refine r_nil ?_ | refine r_seq ?_ | refine r_asg ?_ | refine r_name ?_ | refine r_ret ?_ | refine r_next ?_ | refine r_if ?_ | refine r_test ?_ | refine r_bl ?_ | refine r_cb ?_ | refine r_call ?_ | refine r_tb ?_ | refine r_not ?_ | refine r_and ?_ | refine r_or ?_ | refine r_andV ?_ | refine r_notV ?_ | refine r_ifE ?_ | refine r_drop ?_ | refine r_un ?_ | refine r_tup ?_ | refine r_lst ?_ | refine r_bm ?_ | refine r_sl ?_ | refine r_nop ?_ | refine r_part ?_ | refine r_true ?_ | refine r_rng1 ?_ | refine r_iseq ?_ | refine r_comp ?_ | refine r_for ?_ | refine r_u ?_ | refine r_strE ?_ | refine r_gcons ?_ | refine r_gnil ?_ | refine r_gtup (SqT.of (by first | assumption | exact upd_same)) (by rfl) ?_ | refine r_callX ?_ | refine r_chain ?_ | refine r_gone ?_ | refine r_try ?_ | refine r_raise ?_ | refine r_fldX ?_ | refine r_eqCI ?_ | refine r_eqCS ?_ | refine r_eqEI ?_ | refine r_eqES ?_ | refine r_eqBI ?_ | refine r_eqBS ?_ | refine r_neBS ?_ | refine r_inS ?_ | refine r_intE ?_ | refine r_i (by with_unfolding_all first | assumption | omega | (dsimp only <;> omega) | exact ⟨by omega, by omega⟩ | exact .inl ⟨by omega, by omega⟩ | exact .inr ⟨by omega, by omega⟩ | exact ⟨by decide, by decide, by decide⟩) ?_ | refine r_mulI (by with_unfolding_all first | assumption | omega | (dsimp only <;> omega) | exact ⟨by omega, by omega⟩ | exact .inl ⟨by omega, by omega⟩ | exact .inr ⟨by omega, by omega⟩ | exact ⟨by decide, by decide, by decide⟩) ?_ | refine r_ixL (SqL.of (by first | assumption | exact upd_same)) (by with_unfolding_all rfl) ?_ | refine r_ixT (SqT.of (by first | assumption | exact upd_same)) (by with_unfolding_all rfl) ?_ | refine r_enumZip ?_)))
local macro_rules | `(tactic| walk_at "stn") => `(tactic| (with_reducible repeat (first | refine r_op ?_ | refine iteT ?_ | refine iteF ?_ | refine iteNT ?_ | refine iteNF ?_ | refine r_var (by with_unfolding_all rfl) ?_ | refine r_C ?_ | refine r_i0 ?_ | refine r_addI ?_ | refine r_cons ?_ | refine r_nil ?_ | refine r_asg ?_ | refine r_name ?_ | refine r_ret ?_ | refine r_next ?_ | refine r_if ?_ | refine r_test ?_ | refine r_bl ?_ | refine r_cb ?_ | refine r_call ?_ | refine r_tb ?_ | refine r_not ?_ | refine r_and ?_ | refine r_or ?_ | refine r_andV ?_ | refine r_notV ?_ | refine r_ifE ?_ | refine r_drop ?_ | refine r_un ?_ | refine r_tup ?_ | refine r_lst ?_ | refine r_bm ?_ | refine r_sl ?_ | refine r_nop ?_ | refine r_part ?_ | refine r_true ?_ | refine r_rng1 ?_ | refine r_iseq ?_ | refine r_comp ?_ | refine r_for ?_ | refine r_u ?_ | refine r_strE ?_ | refine r_gcons ?_ | refine r_gnil ?_ | refine r_gtup (SqT.of (by first | assumption | exact upd_same)) (by rfl) ?_ | refine r_callX ?_ | refine r_chain ?_ | refine r_gone ?_ | refine r_try ?_ | refine r_raise ?_ | refine r_fldX ?_ | refine r_eqCI ?_ | refine r_eqCS ?_ | refine r_eqEI ?_ | refine r_eqES ?_ | refine r_eqBI ?_ | refine r_eqBS ?_ | refine r_neBS ?_ | refine r_inS ?_ | refine r_intE ?_ | refine r_i (by with_unfolding_all first | assumption | omega | (dsimp only <;> omega) | exact ⟨by omega, by omega⟩ | exact .inl ⟨by omega, by omega⟩ | exact .inr ⟨by omega, by omega⟩ | exact ⟨by decide, by decide, by decide⟩) ?_ | refine r_mulI (by with_unfolding_all first | assumption | omega | (dsimp only <;> omega) | exact ⟨by omega, by omega⟩ | exact .inl ⟨by omega, by omega⟩ | exact .inr ⟨by omega, by omega⟩ | exact ⟨by decide, by decide, by decide⟩) ?_ | refine r_ixL (SqL.of (by first | assumption | exact upd_same)) (by with_unfolding_all rfl) ?_ | refine r_ixT (SqT.of (by first | assumption | exact upd_same)) (by with_unfolding_all rfl) ?_ | refine r_enumZip ?_)))
section
variable {P : Program} {w : World} {K : PySem.W.Frag} {mg : Str → Option Value} {base : Heap}
theorem nd_bound_0 : (["change", "loose"] : List Str).Nodup := by decide +kernel
theorem k_loose_groups_groups : (defScope s_loose_groups).names.lookup ("groups" : Str) = some NameKind.local := by decide +kernel
theorem k_loose_groups_changes : (defScope s_loose_groups).names.lookup ("changes" : Str) = some NameKind.local := by decide +kernel
theorem k_loose_groups_change : (defScope s_loose_groups).names.lookup ("change" : Str) = some NameKind.local := by decide +kernel
theorem k_loose_groups_loose : (defScope s_loose_groups).names.lookup ("loose" : Str) = some NameKind.local := by decide +kernel
theorem k_bound_changes : (defScope s_bound).names.lookup ("changes" : Str) = some NameKind.local := by decide +kernel
theorem k_come_together_new : (defScope s_come_together).names.lookup ("new" : Str) = some NameKind.local := by decide +kernel
theorem k_come_together_old : (defScope s_come_together).names.lookup ("old" : Str) = some NameKind.local := by decide +kernel
theorem k_come_together_change_of : (defScope s_come_together).names.lookup ("change_of" : Str) = some NameKind.globalImplicit := by decide +kernel
theorem k_come_together_new_letter : (defScope s_come_together).names.lookup ("new_letter" : Str) = some NameKind.globalImplicit := by decide +kernel
theorem k_come_together_taker : (defScope s_come_together).names.lookup ("taker" : Str) = some NameKind.local := by decide +kernel
theorem k_come_together_old_letter : (defScope s_come_together).names.lookup ("old_letter" : Str) = some NameKind.globalImplicit := by decide +kernel
theorem k_come_together_maker : (defScope s_come_together).names.lookup ("maker" : Str) = some NameKind.local := by decide +kernel
theorem Same.put {H H' : Hp} {p : Addr} {o : HO} (s : Same H H') (hn : H p = none) : Same H (upd H' p o) := fun b u e => by
  rw [upd_ne (fun z => by rw [z, hn] at e; cases e)]
  exact s b u e
theorem Same.back {H H' : Hp} {p : Addr} (s : Same H H') (h : H' p = none) : H p = none := by
  cases e : H p with
  | none => rfl
  | some o => rw [s _ _ e] at h; cases h
noncomputable def hdS : Cg → Str
  | .keep _ => Str.ofString "keep"
  | .chg _ _ => Str.ofString "change"
  | .out _ => Str.ofString "out"
  | .inn _ => Str.ofString "in"
theorem hd_at (c : Cg) : (c.ss.map V.str)[0]? = some (.str (hdS c)) := by cases c <;> rfl
noncomputable def Wd (s : Str) (p : Cg → Bool) : Prop := ∀ c, decide (V.str (hdS c) = V.str s) = p c
theorem wd_out : Wd (Str.ofString "out") isOut := fun c => by cases c <;> (show decide (V.str (Str.ofString _) = _) = _; first | exact dKO | exact dCO | exact dOO | exact dIO)
theorem wd_in : Wd (Str.ofString "in") isIn := fun c => by cases c <;> (show decide (V.str (Str.ofString _) = _) = _; first | exact dKI | exact dCI | exact dOI | exact dII)
theorem wd_keep : Wd (Str.ofString "keep") isKeep := fun c => by cases c <;> (show decide (V.str (Str.ofString _) = _) = _; first | exact dKK | exact dCK | exact dOK | exact dIK)
structure Gs (H H' : Hp) (g : Addr) (rs : List Addr) (G : List (List Cg)) : Prop where
  gh : H' g = some (.lst (rs.map V.ref))
  gn : H g = none
  nd : rs.Nodup
  len : rs.length = G.length
  ix : ∀ (i : Nat) (r : Addr), rs[i]? = some r → r ≠ g ∧ H r = none ∧ ∃ l ws, G[i]? = some l ∧ H' r = some (.lst ws) ∧ DRs H (l.map Cg.dat) ws
theorem Gs.same {H H1 H2 : Hp} {g : Addr} {rs : List Addr} {G : List (List Cg)} (h : Gs H H1 g rs G) (s : Same H1 H2) : Gs H H2 g rs G :=
  ⟨s _ _ h.gh, h.gn, h.nd, h.len, fun i r e => by
    obtain ⟨a, b, l, ws, c, d, f⟩ := h.ix i r e
    exact ⟨a, b, l, ws, c, s _ _ d, f⟩⟩
theorem Gs.one {H H' : Hp} {g r : Addr} (s : Same H H') (hn : H g = none) (hr : H r = none) (ne : r ≠ g) (h1 : H' r = some (.lst [])) (h2 : H' g = some (.lst [.ref r])) : Gs H H' g [r] [[]] :=
  ⟨h2, hn, by simp, rfl, fun i q e => by
    cases i with
    | zero => cases e; exact ⟨ne, hr, [], [], rfl, h1, DRs_nil.mpr rfl⟩
    | succ i => simp at e⟩
theorem Gs.put {H H' : Hp} {g r : Addr} {rs : List Addr} {gs : List (List Cg)} {l : List Cg} {c : Cg} {u : V} {ws : List V} (h : Gs H H' g (rs ++ [r]) (gs ++ [l])) (hw : H' r = some (.lst ws)) (hc : DR H c.dat u) :
    Gs H (upd H' r (.lst (ws ++ [u]))) g (rs ++ [r]) (gs ++ [l ++ [c]]) := by
  have ll : rs.length = gs.length := by have := h.len; simpa using this
  have hr := h.ix rs.length r (by simp)
  refine ⟨by rw [upd_ne (Ne.symm hr.1)]; exact h.gh, h.gn, h.nd, by simp [ll], fun i q e => ?_⟩
  by_cases hi : i < rs.length
  · have e' : rs[i]? = some q := by rwa [List.getElem?_append_left hi] at e
    obtain ⟨a, b, l', ws', c1, d, f⟩ := h.ix i q e
    have nq : q ≠ r := fun z => by
      subst z
      have hnd := h.nd
      rw [List.nodup_append] at hnd
      exact hnd.2.2 q (List.mem_of_getElem? e') q (by simp) rfl
    refine ⟨a, b, l', ws', ?_, by rw [upd_ne nq]; exact d, f⟩
    rw [List.getElem?_append_left (by omega)] at c1 ⊢
    exact c1
  · have hi2 : i = rs.length := by
      have := (List.getElem?_eq_some_iff.mp e).1
      simp at this; omega
    subst hi2
    simp at e
    subst e
    obtain ⟨a, b, l', ws', c1, d, f⟩ := hr
    have el : l' = l := by
      rw [ll] at c1
      simpa using c1.symm
    have ew : ws' = ws := by
      rw [hw] at d
      injection d with d
      injection d with d
      exact d.symm
    subst el ew
    refine ⟨a, b, l' ++ [c], ws' ++ [u], by rw [ll]; simp, upd_same, ?_⟩
    rw [List.map_append]
    exact DRs_append f (DRs_one hc)
theorem Gs.more {H H' : Hp} {g p : Addr} {rs : List Addr} {G : List (List Cg)} (h : Gs H H' g rs G) (s : Same H H') (hp : H' p = none) :
    Gs H (upd (upd H' p (.lst [])) g (.lst (rs.map V.ref ++ [.ref p]))) g (rs ++ [p]) (G ++ [[]]) := by
  have npg : p ≠ g := fun z => by rw [z, h.gh] at hp; cases hp
  refine ⟨by rw [List.map_append]; exact upd_same, h.gn, ?_, by simp [h.len], fun i q e => ?_⟩
  · rw [List.nodup_append]
    refine ⟨h.nd, by simp, fun a ha b hb => ?_⟩
    rw [List.mem_singleton.mp hb]
    intro z
    subst z
    obtain ⟨i, hi, e⟩ := List.mem_iff_getElem.mp ha
    obtain ⟨_, _, l, ws, _, d, _⟩ := h.ix i a (by rw [List.getElem?_eq_getElem hi, e])
    rw [d] at hp; cases hp
  · by_cases hi : i < rs.length
    · have e' : rs[i]? = some q := by rwa [List.getElem?_append_left hi] at e
      obtain ⟨a, b, l', ws', c1, d, f⟩ := h.ix i q e'
      refine ⟨a, b, l', ws', ?_, by rw [upd_ne a]; exact upd_old hp d, f⟩
      rw [List.getElem?_append_left (by rw [← h.len]; exact hi)]
      exact c1
    · have hi2 : i = rs.length := by
        have := (List.getElem?_eq_some_iff.mp e).1
        simp at this; omega
      subst hi2
      simp at e
      subst e
      exact ⟨npg, Same.back s hp, [], [], by rw [h.len]; simp, by rw [upd_ne npg]; exact upd_same, DRs_nil.mpr rfl⟩
noncomputable def dG (G : List (List Cg)) : PyData := .list (G.map fun l => .list (l.map Cg.dat))
theorem DRs_of : ∀ {H : Hp} {ds : List PyData} {vs : List V}, vs.length = ds.length → (∀ (i : Nat) (v : V), vs[i]? = some v → ∃ d, ds[i]? = some d ∧ DR H d v) → DRs H ds vs
  | H, [], [], _, _ => DRs_nil.mpr rfl
  | H, [], _ :: _, h, _ => by simp at h
  | H, _ :: _, [], h, _ => by simp at h
  | H, d :: ds, v :: vs, h, q => by
    obtain ⟨d', e, r⟩ := q 0 v rfl
    cases e
    exact DRs_cons.mpr ⟨v, vs, rfl, r, DRs_of (by simpa using h) fun i u hu => q (i + 1) u (by simpa using hu)⟩
theorem Gs.dr {H H' : Hp} {g : Addr} {rs : List Addr} {G : List (List Cg)} (h : Gs H H' g rs G) (s : Same H H') : DR H' (dG G) (.ref g) := by
  refine DR_list.mpr ⟨g, _, rfl, h.gh, DRs_of (by simp [h.len]) fun i v e => ?_⟩
  rw [List.getElem?_map] at e
  cases er : rs[i]? with
  | none => rw [er] at e; cases e
  | some r =>
    rw [er] at e
    cases e
    obtain ⟨a, b, l, ws, c, d, f⟩ := h.ix i r er
    exact ⟨.list (l.map Cg.dat), by rw [List.getElem?_map, c]; rfl, DR_list.mpr ⟨r, ws, rfl, d, DRs.same s _ _ f⟩⟩
theorem dG_at {H : Hp} {G : List (List Cg)} {g : Addr} (h : DR H (dG G) (.ref g)) : ∃ vs, H g = some (.lst vs) ∧ vs.length = G.length ∧ ∀ (i : Nat) (l : List Cg), G[i]? = some l → ∃ r ws, vs[i]? = some (.ref r) ∧ H r = some (.lst ws) ∧ DRs H (l.map Cg.dat) ws := by
  obtain ⟨a, vs, e, h1, h2⟩ := DR_list.mp h
  cases e
  refine ⟨vs, h1, by have := DRs_len h2; simpa using this, fun i l e => ?_⟩
  obtain ⟨v, e1, h3⟩ := DRs_at (d := .list (l.map Cg.dat)) h2 (i := i) (by rw [List.getElem?_map, e]; rfl)
  obtain ⟨r, ws, rfl, e2, h4⟩ := DR_list.mp h3
  exact ⟨r, ws, e1, e2, h4⟩
theorem grp_sum (p : Cg → Bool) : ∀ (cs : List Cg), ((grp p cs).map List.length).sum ≤ cs.length
  | [] => by simp [grp]
  | c :: cs => by
    have ih := grp_sum p cs
    obtain ⟨g, gs, e⟩ := grp_ne p cs
    rw [e] at ih
    unfold grp
    rw [e]
    split
    · simp [consH] at ih ⊢; omega
    · simp at ih ⊢; omega
theorem grp_le (p : Cg → Bool) : ∀ (cs : List Cg), ∀ l ∈ grp p cs, l.length ≤ cs.length
  | [], l, h => by rw [List.mem_singleton.mp h]; exact Nat.le_refl _
  | c :: cs, l, h => by
    have ih := grp_le p cs
    obtain ⟨g, gs, e⟩ := grp_ne p cs
    unfold grp at h
    rw [e] at ih h
    split at h
    · rcases List.mem_cons.mp h with rfl | h
      · have := ih g (by simp)
        simp; omega
      · have := ih l (List.mem_cons_of_mem _ h)
        simp; omega
    · rcases List.mem_cons.mp h with rfl | h
      · simp
      · have := ih l h
        simp; omega
noncomputable def spGroups : Sp := fun vs H Q _ => ∃ (a : Addr) (us : List V) (cs : List Cg) (s : Str) (p : Cg → Bool), vs = [.ref a, .str s] ∧ Wd s p ∧ Lcs H a us cs ∧ ∀ g H', Same H H' → DR H' (dG (grp p cs)) (.ref g) → Q (.ref g) H'
theorem sc_loose_groups : FnScope ["changes", "loose", "groups", "change"] ["changes", "loose"] (defScope s_loose_groups) := ⟨rfl, rfl, rfl, by decide +kernel, rfl, by decide +kernel, by decide +kernel⟩
theorem h_loose_groups (T : Txt K mg) : Has P w K mg base 1 "loose_groups" ["changes", "loose"] spGroups := by
  refine hasJ T.d_loose_groups sc_loose_groups (fun _ _ _ _ _ _ us hl => L2.usN2 (fun _ _ => rfl) us hl) ?_ fun f cdv A outer s H vs Q E hr h => ?_
  · rintro vs H Q E ⟨a, us, cs, s0, p, rfl, _⟩; rfl
  obtain ⟨a, us, cs, s0, p, rfl, hW, hL, q⟩ := h
  have hu := hr.units0
  have hu64 := hr.units
  refine ⟨_, (jb_cons (js_set (i := 2) sc_loose_groups.nd rfl (Or.inl k_loose_groups_groups) (j_lst (ja_cons (j_lst ja_nil) ja_nil)) rfl) (jb_cons (js_for PassesOwn.never rfl (ji_seq (K := K) rfl (j_vL 0 k_loose_groups_changes)) (jg_name (i := 3) sc_loose_groups.nd rfl (Or.inl k_loose_groups_change) rfl) (jb_one (js_if (jt_cmp (op_eqE (K := K) rfl hu64) (j_ix (K := K) rfl (j_vL 3 k_loose_groups_change) j_int) (j_vL 1 k_loose_groups_loose) (by first | exact nomark _ | with_unfolding_all rfl)) (jb_one (js_expr (j_meth (K := K) rfl PySem.F.plainAttrs_list PySem.F.slot_list_append PySem.F.type_list_append mt_append (j_ix (K := K) rfl (j_vL 2 k_loose_groups_groups) (j_un un_neg j_int)) (ja_cons (j_vL 3 k_loose_groups_change) ja_nil)))) (jb_one (js_expr (j_meth (K := K) rfl PySem.F.plainAttrs_list PySem.F.slot_list_append PySem.F.type_list_append mt_append (j_vL 2 k_loose_groups_groups) (ja_cons (j_lst ja_nil) ja_nil))))))) (jb_one (js_ret (j_vL 2 k_loose_groups_groups))))), ?_⟩
  walk_at "sts"
  refine r_new rfl fun r nr => ?_
  walk_at "sts"
  refine r_new rfl fun g ng => ?_
  walk_at "sts"
  have hl := hL.len
  have h48 := hL.2.2.2
  have S0 : Same H (upd (upd H r (.lst [])) g (.lst [.ref r])) := ((Same.refl H).upd nr).upd ng
  have hg0 : H g = none := Same.back ((Same.refl H).upd nr) ng
  have neg : r ≠ g := fun z => by rw [← z, upd_same] at ng; cases ng
  refine .inl ⟨a, rfl, ⟨_, SqL.of (S0 _ _ hL.1)⟩, ?_⟩
  refine for_list (xs := us) (fun i σ H' => ∃ (x : Option V) (rs : List Addr) (r : Addr) (gs : List (List Cg)) (l : List Cg), σ = [some (.ref a), some (.str s0), some (.ref g), x] ∧ Same H H' ∧ grp p (cs.take i) = gs ++ [l] ∧ Gs H H' g (rs ++ [r]) (gs ++ [l]) ∧ rs.length ≤ i) ⟨none, [], r, [], [], rfl, S0, rfl, Gs.one S0 hg0 nr neg (upd_old ng upd_same) upd_same, Nat.le_refl _⟩ (fun i σ H' _ h => by obtain ⟨_, _, _, _, _, _, s, _⟩ := h; exact SqL.of (s _ _ hL.1)) ?_ ?_
  · rintro i u σ H' hu ⟨x, rs, r, gs, l, rfl, s, hG, hS, hrs⟩
    obtain ⟨c, hc, hd⟩ := DRs_get hL.2.1 hu
    obtain ⟨t, rfl, ht⟩ := DR_cg.mp hd
    have htk : cs.take (i + 1) = cs.take i ++ [c] := by rw [List.take_add_one, hc]; rfl
    have hi : i < 48 := by have := (List.getElem?_eq_some_iff.mp hc).1; omega
    obtain ⟨n1, n2, l', ws, c1, hr, hw⟩ := hS.ix rs.length r (by simp)
    have s1000 : 1000 ≤ sizeLine := by decide
    walk_at "sts"
    refine r_ixT (SqT.of (s _ _ ht)) (atI_nat (j := 0) (hd_at c)) ?_
    walk_at "sts"
    rw [hW c]
    cases hp : p c with
    | true =>
      walk_at "sts"
      have hgh : H' g = some (.lst (rs.map V.ref ++ [.ref r])) := by rw [hS.gh, List.map_append]; rfl
      refine r_ixL (SqL.of hgh) (atI_last _ _) ?_
      walk_at "sts"
      refine ⟨.inl ⟨rfl, _, SqL.of hr⟩, ?_⟩
      walk_at "sts"
      have hlw : ws.length ≤ 48 := by
        have e1 : l' = l := by
          have ll : rs.length = gs.length := by have := hS.len; simpa using this
          rw [ll] at c1
          simpa using c1.symm
        have e2 := DRs_len hw
        rw [List.length_map, e1] at e2
        have e3 := grp_sum p (cs.take i)
        rw [hG] at e3
        simp at e3
        omega
      refine r_append hr (by omega) ?_
      walk_at "sts"
      refine ⟨_, rs, r, gs, l ++ [c], rfl, Same.put s n2, ?_, hS.put hr hd, by omega⟩
      rw [htk]
      exact grp_in hp hG
    | false =>
      walk_at "sts"
      refine ⟨.inl ⟨rfl, _, SqL.of hS.gh⟩, ?_⟩
      walk_at "sts"
      refine r_new rfl fun m nm => ?_
      walk_at "sts"
      refine r_append (upd_old nm hS.gh) (by simp; omega) ?_
      walk_at "sts"
      refine ⟨_, rs ++ [r], m, gs ++ [l], [], rfl, Same.put (s.upd nm) hS.gn, ?_, hS.more s nm, by simp; omega⟩
      rw [htk, grp_out hp, hG]
  · rintro σ H' ⟨x, rs, r, gs, l, rfl, s, hG, hS, hrs⟩
    walk_at "sts"
    rw [hl, List.take_length] at hG
    exact q g H' s (by rw [hG]; exact hS.dr s)
noncomputable def spBound : Sp := fun vs H Q _ => ∃ (a : Addr) (us : List V) (cs : List Cg) (s : Str) (p : Cg → Bool), vs = [.ref a, .str s] ∧ Wd s p ∧ Lcs H a us cs ∧ ∀ g ws H', H g = none → Same H H' → H' g = some (.lst ws) → DRs H' ((bnd p cs).map Cg.dat) ws → Q (.ref g) H'
theorem filt_take {α : Type} {p : α → Bool} {cs : List α} {i : Nat} {c : α} (h : cs[i]? = some c) : (cs.take (i + 1)).filter p = (cs.take i).filter p ++ (if p c = true then [c] else []) := by
  rw [List.take_add_one, h, List.filter_append]
  congr 1
  show List.filter p [c] = _
  by_cases hp : p c = true
  · rw [if_pos hp, List.filter_cons_of_pos hp]; rfl
  · rw [if_neg hp, List.filter_cons_of_neg hp]; rfl
theorem sc_bound : FnScope ["changes", "loose"] ["changes", "loose"] (defScope s_bound) := ⟨rfl, rfl, rfl, by decide +kernel, rfl, by decide +kernel, by decide +kernel⟩
theorem h_bound (T : Txt K mg) : Has P w K mg base 1 "bound" ["changes", "loose"] spBound := by
  refine hasJ T.d_bound sc_bound (fun _ _ _ _ _ _ us hl => L2.usN2 (fun _ _ => rfl) us hl) ?_ fun f cdv A outer s H vs Q E hr h => ?_
  · rintro vs H Q E ⟨a, us, cs, s0, p, rfl, _⟩; rfl
  obtain ⟨a, us, cs, s0, p, rfl, hW, hL, q⟩ := h
  have hu := hr.units0
  have hu64 := hr.units
  refine ⟨_, (jb_one (js_ret (j_comp (sub := [none, some 1]) (subOk_of (N := ["changes", "loose"]) (sc := defScope s_bound) (N' := ["change", "loose"]) (by decide +kernel)) rfl rfl rfl (ji_seq (K := K) rfl (j_vL 0 k_bound_changes)) (fun C s₀ H₀ ex => (jg_B 0 (by decide +kernel) nd_bound_0)) (fun C s₀ H₀ ex => (jif_one (jt_cmp (op_neX (K := K) rfl hu64) (j_ix (K := K) rfl (j_vBL 0 (by decide +kernel)) j_int) (j_vBF 1 (by decide +kernel)) (by first | exact nomark _ | with_unfolding_all rfl)))) (fun C s₀ H₀ ex => (j_vBL 0 (by decide +kernel)))))), ?_⟩
  walk_at "sts"
  have hl := hL.len
  have h48 := hL.2.2.2
  refine .inl ⟨a, rfl, ⟨_, SqL.of hL.1⟩, ?_⟩
  refine comp_list (xs := us) (fun i ys H' => H' = H ∧ ys.length ≤ i ∧ DRs H ((bnd p (cs.take i)).map Cg.dat) ys) (Nat.le_trans (show us.length ≤ 1000 by omega) (by decide)) ⟨rfl, Nat.le_refl _, DRs_nil.mpr rfl⟩ ?_ ?_ ?_ ?_
  · rintro i ys H' ⟨_, h, _⟩
    exact h
  · rintro i ys H' ⟨rfl, _, _⟩
    exact SqL.of hL.1
  · rintro i ys H' x hx ⟨rfl, hy, hD⟩
    obtain ⟨c, hc, hd⟩ := DRs_get hL.2.1 hx
    obtain ⟨t, rfl, ht⟩ := DR_cg.mp hd
    have tks := filt_take (p := fun c => !p c) hc
    walk_at "sts"
    refine ⟨KeepSt.set rfl, ?_⟩
    walk_at "sts"
    refine r_ixT (SqT.of ht) (atI_nat (j := 0) (hd_at c)) ?_
    walk_at "sts"
    rw [hW c]
    unfold bnd
    rw [tks]
    cases hp : p c with
    | true =>
      walk_at "sts"
      refine ⟨rfl, by omega, ?_⟩
      rw [if_neg (by simp), List.append_nil]
      exact hD
    | false =>
      walk_at "sts"
      refine ⟨rfl, by simp; omega, ?_⟩
      rw [if_pos (by simp), List.map_append]
      exact DRs_append hD (DRs_one hd)
  · rintro ys H' ⟨rfl, hy, hD⟩ D nD
    rw [List.take_of_length_le (by omega)] at hD
    exact q D ys _ nD ((Same.refl H').upd nD) upd_same (DRs.same ((Same.refl H').upd nD) _ _ hD)
noncomputable def spMet : Sp := fun vs H Q _ => ∃ (u v : V) (m t : Cg), vs = [u, v] ∧ DR H m.dat u ∧ DR H t.dat v ∧ m.ok ∧ t.ok ∧ ∀ g ws H', Same H H' → H' g = some (.lst ws) → DRs H' ((met m t).map Cg.dat) ws → Q (.ref g) H'
theorem sN_n : decide (V.str (sN none) = V.str (Str.ofString "")) = true := dEE
theorem sN_s (i : Nat) : decide (V.str (sN (some i)) = V.str (Str.ofString "")) = false := dLE i
theorem sc_come_together : FnScope ["maker", "taker", "old", "new"] ["maker", "taker"] (defScope s_come_together) := ⟨rfl, rfl, rfl, by decide +kernel, rfl, by decide +kernel, by decide +kernel⟩
theorem h_come_together (T : Txt K mg) : Has P w K mg base 2 "come_together" ["maker", "taker"] spMet := by
  have h_old_letter := h_old_letter (P := P) (w := w) (base := base) T
  have h_new_letter := h_new_letter (P := P) (w := w) (base := base) T
  have h_change_of := h_change_of (P := P) (w := w) (base := base) T
  refine hasJ T.d_come_together sc_come_together (fun _ _ _ _ _ _ us hl => L2.usN2 (fun _ _ => rfl) us hl) ?_ fun f cdv A outer s H vs Q E hr h => ?_
  · rintro vs H Q E ⟨u, v, m, t, rfl, _⟩; rfl
  obtain ⟨u, v, m, t, rfl, hm, ht, om, ot, q⟩ := h
  have hu := hr.units0
  have hu64 := hr.units
  refine ⟨_, (jb_cons (js_set (i := 2) sc_come_together.nd rfl (Or.inl k_come_together_old) (j_call h_old_letter (hr.mono (by decide)) (glF k_come_together_old_letter) (ja_cons (j_vL 0 k_come_together_maker) ja_nil) (by decide +kernel)) rfl) (jb_cons (js_set (i := 3) sc_come_together.nd rfl (Or.inl k_come_together_new) (j_call h_new_letter (hr.mono (by decide)) (glF k_come_together_new_letter) (ja_cons (j_vL 1 k_come_together_taker) ja_nil) (by decide +kernel)) rfl) (jb_one (js_ret (j_if (jw_pt (jw_and (jt_cmp (op_eqE (K := K) rfl hu64) (j_vL 2 k_come_together_old) j_str (by first | exact nomark _ | with_unfolding_all rfl)) (jw_and1 (jt_cmp (op_eqE (K := K) rfl hu64) (j_vL 3 k_come_together_new) j_str (by first | exact nomark _ | with_unfolding_all rfl))))) (j_lst ja_nil) (j_lst (ja_cons (j_call h_change_of (hr.mono (by decide)) (glF k_come_together_change_of) (ja_cons (j_vL 2 k_come_together_old) (ja_cons (j_vL 3 k_come_together_new) ja_nil)) (by decide +kernel)) ja_nil))))))), ?_⟩
  walk_at "sts"
  refine ⟨u, m, rfl, hm, ?_⟩
  walk_at "sts"
  refine ⟨v, t, rfl, ht, ?_⟩
  walk_at "sts"
  rw [old_sN m, new_sN t]
  have key : ∀ i j, m.oN = i → t.nN = j → (i ≠ none ∨ j ≠ none) → ∃ c : Cg, met m t = [c] ∧ c.old = sN i ∧ c.new = sN j ∧ c.ok := fun i j ei ej h => by
    subst ei ej
    obtain ⟨c, e1, e2, e3⟩ := ofN_some h
    refine ⟨c, e1, by rw [old_sN, e2], by rw [new_sN, e3], ?_⟩
    exact met_ok om ot c (by show c ∈ ofN m.oN t.nN; rw [e1]; simp)
  cases ho : m.oN with
  | none =>
    rw [sN_n]
    walk_at "sts"
    cases hn : t.nN with
    | none =>
      rw [sN_n]
      walk_at "sts"
      refine r_new rfl fun g ng => ?_
      refine q g _ _ ((Same.refl H).upd ng) upd_same ?_
      have : met m t = [] := by unfold met; rw [ho, hn]; rfl
      rw [this]
      exact DRs_nil.mpr rfl
    | some j =>
      rw [sN_s]
      walk_at "sts"
      obtain ⟨c, e1, e2, e3, ok⟩ := key _ _ ho hn (.inr (by simp))
      refine ⟨c, by rw [e2, e3], ok, fun v1 H1 S1 hv => ?_⟩
      walk_at "sts"
      refine r_new rfl fun g ng => ?_
      refine q g _ _ (S1.upd ng) upd_same ?_
      rw [e1]
      exact DRs_one (DR.same ((Same.refl H1).upd ng) _ _ hv)
  | some i =>
    rw [sN_s]
    walk_at "sts"
    obtain ⟨c, e1, e2, e3, ok⟩ := key _ _ ho rfl (.inl (by simp))
    refine ⟨c, by rw [e2, e3], ok, fun v1 H1 S1 hv => ?_⟩
    walk_at "sts"
    refine r_new rfl fun g ng => ?_
    refine q g _ _ (S1.upd ng) upd_same ?_
    rw [e1]
    exact DRs_one (DR.same ((Same.refl H1).upd ng) _ _ hv)
end

local macro_rules | `(tactic| walk_at "sts") => `(tactic| (with_reducible repeat (first | refine r_op ?_ | refine iteT ?_ | refine iteF ?_ | refine iteNT ?_ | refine iteNF ?_ | refine r_var (by with_unfolding_all rfl) ?_ | refine r_C ?_ | refine r_i0 ?_ | refine r_addI ?_ | refine r_cons ?_ | refine r_nil ?_ | refine r_seq ?_ | refine r_asg ?_ | refine r_name ?_ | refine r_ret ?_ | refine r_next ?_ | refine r_if ?_ | refine r_test ?_ | refine r_bl ?_ | refine r_cb ?_ | refine r_call ?_ | refine r_tb ?_ | refine r_not ?_ | refine r_and ?_ | refine r_or ?_ | refine r_andV ?_ | refine r_notV ?_ | refine r_ifE ?_ | refine r_drop ?_ | refine r_un ?_ | refine r_tup ?_ | refine r_lst ?_ | refine r_bm ?_ | refine r_sl ?_ | refine r_nop ?_ | refine r_part ?_ | refine r_true ?_ | refine r_rng1 ?_ | refine r_iseq ?_ | refine r_comp ?_ | refine r_for ?_ | refine r_u ?_ | refine r_strE ?_ | refine r_gcons ?_ | refine r_gnil ?_ | refine r_gtup (SqT.of (by first | assumption | exact upd_same)) (by rfl) ?_ | refine r_callX ?_ | refine r_chain ?_ | refine r_gone ?_ | refine r_try ?_ | refine r_raise ?_ | refine r_fldX ?_ | refine r_eqCI ?_ | refine r_eqCS ?_ | refine r_eqEI ?_ | refine r_eqES ?_ | refine r_eqBI ?_ | refine r_eqBS ?_ | refine r_neBS ?_ | refine r_inS ?_ | refine r_intE ?_ | refine r_i (by with_unfolding_all first | assumption | omega | (dsimp only <;> omega) | exact ⟨by omega, by omega⟩ | exact .inl ⟨by omega, by omega⟩ | exact .inr ⟨by omega, by omega⟩ | exact ⟨by decide, by decide, by decide⟩) ?_ | refine r_mulI (by with_unfolding_all first | assumption | omega | (dsimp only <;> omega) | exact ⟨by omega, by omega⟩ | exact .inl ⟨by omega, by omega⟩ | exact .inr ⟨by omega, by omega⟩ | exact ⟨by decide, by decide, by decide⟩) ?_ | refine r_ixL (SqL.of (by first | assumption | exact upd_same)) (by with_unfolding_all rfl) ?_ | refine r_ixT (SqT.of (by first | assumption | exact upd_same)) (by with_unfolding_all rfl) ?_ | refine r_neES ?_ | refine r_enumZip ?_)))
local macro_rules | `(tactic| walk_at "stn") => `(tactic| (with_reducible repeat (first | refine r_op ?_ | refine iteT ?_ | refine iteF ?_ | refine iteNT ?_ | refine iteNF ?_ | refine r_var (by with_unfolding_all rfl) ?_ | refine r_C ?_ | refine r_i0 ?_ | refine r_addI ?_ | refine r_cons ?_ | refine r_nil ?_ | refine r_asg ?_ | refine r_name ?_ | refine r_ret ?_ | refine r_next ?_ | refine r_if ?_ | refine r_test ?_ | refine r_bl ?_ | refine r_cb ?_ | refine r_call ?_ | refine r_tb ?_ | refine r_not ?_ | refine r_and ?_ | refine r_or ?_ | refine r_andV ?_ | refine r_notV ?_ | refine r_ifE ?_ | refine r_drop ?_ | refine r_un ?_ | refine r_tup ?_ | refine r_lst ?_ | refine r_bm ?_ | refine r_sl ?_ | refine r_nop ?_ | refine r_part ?_ | refine r_true ?_ | refine r_rng1 ?_ | refine r_iseq ?_ | refine r_comp ?_ | refine r_for ?_ | refine r_u ?_ | refine r_strE ?_ | refine r_gcons ?_ | refine r_gnil ?_ | refine r_gtup (SqT.of (by first | assumption | exact upd_same)) (by rfl) ?_ | refine r_callX ?_ | refine r_chain ?_ | refine r_gone ?_ | refine r_try ?_ | refine r_raise ?_ | refine r_fldX ?_ | refine r_eqCI ?_ | refine r_eqCS ?_ | refine r_eqEI ?_ | refine r_eqES ?_ | refine r_eqBI ?_ | refine r_eqBS ?_ | refine r_neBS ?_ | refine r_inS ?_ | refine r_intE ?_ | refine r_i (by with_unfolding_all first | assumption | omega | (dsimp only <;> omega) | exact ⟨by omega, by omega⟩ | exact .inl ⟨by omega, by omega⟩ | exact .inr ⟨by omega, by omega⟩ | exact ⟨by decide, by decide, by decide⟩) ?_ | refine r_mulI (by with_unfolding_all first | assumption | omega | (dsimp only <;> omega) | exact ⟨by omega, by omega⟩ | exact .inl ⟨by omega, by omega⟩ | exact .inr ⟨by omega, by omega⟩ | exact ⟨by decide, by decide, by decide⟩) ?_ | refine r_ixL (SqL.of (by first | assumption | exact upd_same)) (by with_unfolding_all rfl) ?_ | refine r_ixT (SqT.of (by first | assumption | exact upd_same)) (by with_unfolding_all rfl) ?_ | refine r_neES ?_ | refine r_enumZip ?_)))
section
variable {P : Program} {w : World} {K : PySem.W.Frag} {mg : Str → Option Value} {base : Heap}
theorem k_after_told : (defScope s_after).names.lookup ("told" : Str) = some NameKind.local := by decide +kernel
theorem k_after_len : (defScope s_after).names.lookup ("len" : Str) = some NameKind.globalImplicit := by decide +kernel
theorem k_after_MOST_CHANGES : (defScope s_after).names.lookup ("MOST_CHANGES" : Str) = some NameKind.globalImplicit := by decide +kernel
theorem k_after_TooLong : (defScope s_after).names.lookup ("TooLong" : Str) = some NameKind.globalImplicit := by decide +kernel
theorem k_after_outs : (defScope s_after).names.lookup ("outs" : Str) = some NameKind.local := by decide +kernel
theorem k_after_ins : (defScope s_after).names.lookup ("ins" : Str) = some NameKind.local := by decide +kernel
theorem k_after_enumerate : (defScope s_after).names.lookup ("enumerate" : Str) = some NameKind.globalImplicit := by decide +kernel
theorem k_after_zip : (defScope s_after).names.lookup ("zip" : Str) = some NameKind.globalImplicit := by decide +kernel
theorem k_after_bound : (defScope s_after).names.lookup ("bound" : Str) = some NameKind.globalImplicit := by decide +kernel
theorem k_after_IN : (defScope s_after).names.lookup ("IN" : Str) = some NameKind.globalImplicit := by decide +kernel
theorem k_after_other : (defScope s_after).names.lookup ("other" : Str) = some NameKind.local := by decide +kernel
theorem k_after_OUT : (defScope s_after).names.lookup ("OUT" : Str) = some NameKind.globalImplicit := by decide +kernel
theorem k_after_one : (defScope s_after).names.lookup ("one" : Str) = some NameKind.local := by decide +kernel
theorem k_after_pair : (defScope s_after).names.lookup ("pair" : Str) = some NameKind.local := by decide +kernel
theorem k_after_place : (defScope s_after).names.lookup ("place" : Str) = some NameKind.local := by decide +kernel
theorem k_after_come_together : (defScope s_after).names.lookup ("come_together" : Str) = some NameKind.globalImplicit := by decide +kernel
theorem k_after_loose_groups : (defScope s_after).names.lookup ("loose_groups" : Str) = some NameKind.globalImplicit := by decide +kernel
theorem k_after_new_row : (defScope s_after).names.lookup ("new_row" : Str) = some NameKind.globalImplicit := by decide +kernel
theorem k_after_old_row : (defScope s_after).names.lookup ("old_row" : Str) = some NameKind.globalImplicit := by decide +kernel
theorem k_after_Unlike : (defScope s_after).names.lookup ("Unlike" : Str) = some NameKind.globalImplicit := by decide +kernel
theorem k_after_need_changes : (defScope s_after).names.lookup ("need_changes" : Str) = some NameKind.globalImplicit := by decide +kernel
theorem ki_Unlike_self : (defScope i_Unlike).names.lookup ("self" : Str) = some NameKind.local := by decide +kernel
theorem ki_Unlike_one : (defScope i_Unlike).names.lookup ("one" : Str) = some NameKind.local := by decide +kernel
theorem ki_Unlike_other : (defScope i_Unlike).names.lookup ("other" : Str) = some NameKind.local := by decide +kernel
theorem ki_TooLong_self : (defScope i_TooLong).names.lookup ("self" : Str) = some NameKind.local := by decide +kernel
theorem ki_TooLong_found : (defScope i_TooLong).names.lookup ("found" : Str) = some NameKind.local := by decide +kernel
theorem sci_Unlike : FnScope ["self", "one", "other"] ["self", "one", "other"] (defScope i_Unlike) := ⟨rfl, rfl, rfl, by decide +kernel, rfl, by decide +kernel, by decide +kernel⟩
theorem mk_Unlike (T : Txt K mg) : XMk P w K mg base 1 "Unlike" (clsA mg "Unlike") ["one", "other"] := mkX T.x_Unlike sci_Unlike (fun _ _ _ _ _ _ us hl => L2.usN3 (fun _ _ _ => rfl) us hl) rfl fun f cdv A outer s H vs Q E hr h => ⟨_, (jb_cons (js_fldX (K := K) rfl (j_vL 0 ki_Unlike_self) (j_vL 1 ki_Unlike_one)) (jb_one (js_fldX (K := K) rfl (j_vL 0 ki_Unlike_self) (j_vL 2 ki_Unlike_other)))), rd2 T.x_Unlike.c.cl.cls (T.x_Unlike.na _ (by simp)) (T.x_Unlike.na _ (by simp)) (by decide) h⟩
theorem sci_TooLong : FnScope ["self", "found"] ["self", "found"] (defScope i_TooLong) := ⟨rfl, rfl, rfl, by decide +kernel, rfl, by decide +kernel, by decide +kernel⟩
theorem mk_TooLong (T : Txt K mg) : XMk P w K mg base 1 "TooLong" (clsA mg "TooLong") ["found"] := mkX T.x_TooLong sci_TooLong (fun _ _ _ _ _ _ us hl => L2.usN2 (fun _ _ => rfl) us hl) rfl fun f cdv A outer s H vs Q E hr h => ⟨_, (jb_one (js_fldX (K := K) rfl (j_vL 0 ki_TooLong_self) (j_vL 1 ki_TooLong_found))), rd1 T.x_TooLong.c.cl.cls (T.x_TooLong.na _ (by simp)) h⟩
theorem DRs_put {H : Hp} {t : Addr} {xs : List V} {o : HO} (ht : H t = some (.lst xs)) : ∀ {cs : List Cg} {us : List V}, DRs H (cs.map Cg.dat) us → DRs (upd H t o) (cs.map Cg.dat) us
  | [], us, h => by rw [List.map_nil, DRs_nil] at h; rw [h]; exact DRs_nil.mpr rfl
  | c :: cs, us, h => by
    rw [List.map_cons, DRs_cons] at h
    obtain ⟨v, r, rfl, h1, h2⟩ := h
    obtain ⟨a, rfl, ha⟩ := DR_cg.mp h1
    exact DRs_cons.mpr ⟨_, _, rfl, DR_cg.mpr ⟨a, rfl, by rw [upd_ne (fun z => by rw [z, ht] at ha; cases ha)]; exact ha⟩, DRs_put ht h2⟩
noncomputable def del (f : Addr) (H : Hp) : Hp := fun b => if b = f then none else H b
theorem del_same (f : Addr) (H : Hp) : Same (del f H) H := fun b o e => by
  unfold del at e
  split at e
  · cases e
  · exact e
theorem del_none (f : Addr) (H : Hp) : del f H f = none := by unfold del; rw [if_pos rfl]
theorem del_at {f b : Addr} {H : Hp} {o : HO} (h : H b = some o) (n : b ≠ f) : del f H b = some o := by unfold del; rw [if_neg n]; exact h
theorem Same.del {G H : Hp} {f : Addr} (s : Same G H) (n : G f = none) : Same G (del f H) := fun b o e => del_at (s b o e) fun z => by rw [z, n] at e; cases e
theorem DRs_del {H : Hp} {t : Addr} {xs : List V} (ht : H t = some (.lst xs)) : ∀ {cs : List Cg} {us : List V}, DRs H (cs.map Cg.dat) us → DRs (del t H) (cs.map Cg.dat) us
  | [], us, h => by rw [List.map_nil, DRs_nil] at h; rw [h]; exact DRs_nil.mpr rfl
  | c :: cs, us, h => by
    rw [List.map_cons, DRs_cons] at h
    obtain ⟨v, r, rfl, h1, h2⟩ := h
    obtain ⟨a, rfl, ha⟩ := DR_cg.mp h1
    exact DRs_cons.mpr ⟨_, _, rfl, DR_cg.mpr ⟨a, rfl, del_at ha (fun z => by rw [z, ht] at ha; cases ha)⟩, DRs_del ht h2⟩
theorem atI_m1 {xs : List V} {n : Nat} {v : V} (hl : xs.length = n + 1) (h : xs[n]? = some v) : atI xs (-1) = some v := by
  unfold atI ixN
  rw [hl, if_neg (by decide), if_pos (by omega)]
  have e : ((-1 : Int) + ((n + 1 : Nat) : Int)).toNat = n := by omega
  show xs[((-1 : Int) + ((n + 1 : Nat) : Int)).toNat]? = _
  rw [e]; exact h
inductive AfK (K : PySem.W.Frag) (mg : Str → Option Value) (H : Hp) (u v : V) (Q : VK) (E : XK) : Prop where
  | one (h : Chs K H u false) (q : ∀ e H', Same H H' → IsX H' e (clsA mg "NoChanges") [("found", u)] → E (.ref (clsA mg "NoChanges")) (some e) H')
  | two (a : Addr) (us : List V) (cs : List Cg) (e : u = .ref a) (hL : Lcs H a us cs) (h : Chs K H v false) (q : ∀ e H', Same H H' → IsX H' e (clsA mg "NoChanges") [("found", v)] → E (.ref (clsA mg "NoChanges")) (some e) H')
  | unl (a : Addr) (us : List V) (cs : List Cg) (b : Addr) (ws : List V) (ds : List Cg) (e : u = .ref a) (e2 : v = .ref b) (hL : Lcs H a us cs) (hM : Lcs H b ws ds) (ne : newR cs ≠ oldR ds)
      (q : ∀ e H', Same H H' → IsX H' e (clsA mg "Unlike") [("one", .str (newR cs)), ("other", .str (oldR ds))] → E (.ref (clsA mg "Unlike")) (some e) H')
  | join (a : Addr) (us : List V) (cs : List Cg) (b : Addr) (ws : List V) (ds : List Cg) (z : List Cg) (e : u = .ref a) (e2 : v = .ref b) (hL : Lcs H a us cs) (hM : Lcs H b ws ds) (hz : Aft cs ds z)
      (ql : 48 < z.length → ∀ e H', Same H H' → IsX H' e (clsA mg "TooLong") [("found", .int z.length)] → E (.ref (clsA mg "TooLong")) (some e) H')
      (qt : z.length ≤ 48 → ∀ g xs H', H g = none → Same H H' → Lcs H' g xs z → Q (.ref g) H')
noncomputable def spAfter (K : PySem.W.Frag) (mg : Str → Option Value) : Sp := fun vs H Q E => ∃ u v, vs = [u, v] ∧ AfK K mg H u v Q E
theorem sc_after : FnScope ["one", "other", "outs", "ins", "told", "place", "pair"] ["one", "other"] (defScope s_after) := ⟨rfl, rfl, rfl, by decide +kernel, rfl, by decide +kernel, by decide +kernel⟩
theorem h_after (T : Txt K mg) : HasX P w K mg base 5 "after" ["one", "other"] (spAfter K mg) := by
  have h_need_changes := h_need_changes (P := P) (w := w) (base := base) T
  have h_new_row := h_new_row (P := P) (w := w) (base := base) T
  have h_old_row := h_old_row (P := P) (w := w) (base := base) T
  have h_loose_groups := h_loose_groups (P := P) (w := w) (base := base) T
  have h_bound := h_bound (P := P) (w := w) (base := base) T
  have h_come_together := h_come_together (P := P) (w := w) (base := base) T
  refine hasJX T.d_after sc_after (fun _ _ _ _ _ _ us hl => L2.usN2 (fun _ _ => rfl) us hl) ?_ fun f cdv A outer s H vs Q E hr h => ?_
  · rintro vs H Q E ⟨u, v, rfl, _⟩; rfl
  obtain ⟨u, v, rfl, hA⟩ := h
  have hu := hr.units0
  have hu64 := hr.units
  refine ⟨_, (jb_cons (js_expr (j_callX h_need_changes (hr.mono (by decide)) (glF k_after_need_changes) pass_def (ja_cons (j_vL 0 k_after_one) ja_nil) (by decide +kernel))) (jb_cons (js_expr (j_callX h_need_changes (hr.mono (by decide)) (glF k_after_need_changes) pass_def (ja_cons (j_vL 1 k_after_other) ja_nil) (by decide +kernel))) (jb_cons (js_if (jt_cmp (op_neE (K := K) rfl hu64) (j_call h_new_row (hr.mono (by decide)) (glF k_after_new_row) (ja_cons (j_vL 0 k_after_one) ja_nil) (by decide +kernel)) (j_call h_old_row (hr.mono (by decide)) (glF k_after_old_row) (ja_cons (j_vL 1 k_after_other) ja_nil) (by decide +kernel)) (by first | exact nomark _ | with_unfolding_all rfl)) (jb_one (js_raise (mk_Unlike (P := P) (w := w) (base := base) T) (hr.mono (by decide)) rfl (glF k_after_Unlike) pass_def (ja_cons (j_call h_new_row (hr.mono (by decide)) (glF k_after_new_row) (ja_cons (j_vL 0 k_after_one) ja_nil) (by decide +kernel)) (ja_cons (j_call h_old_row (hr.mono (by decide)) (glF k_after_old_row) (ja_cons (j_vL 1 k_after_other) ja_nil) (by decide +kernel)) ja_nil)) (by decide +kernel))) jb_nil) (jb_cons (js_set (i := 2) sc_after.nd rfl (Or.inl k_after_outs) (j_call h_loose_groups (hr.mono (by decide)) (glF k_after_loose_groups) (ja_cons (j_vL 0 k_after_one) (ja_cons (j_gstr (glF k_after_OUT) T.c_OUT (by decide +kernel)) ja_nil)) (by decide +kernel)) rfl) (jb_cons (js_set (i := 3) sc_after.nd rfl (Or.inl k_after_ins) (j_call h_loose_groups (hr.mono (by decide)) (glF k_after_loose_groups) (ja_cons (j_vL 1 k_after_other) (ja_cons (j_gstr (glF k_after_IN) T.c_IN (by decide +kernel)) ja_nil)) (by decide +kernel)) rfl) (jb_cons (js_set (i := 4) sc_after.nd rfl (Or.inl k_after_told) (j_lst ja_nil) rfl) (jb_cons (js_nox (js_for PassesOwn.never rfl (ji_enumZip (K := K) rfl (glF k_after_enumerate) T.b_enumerate (glF k_after_zip) T.b_zip (ja_cons (j_call h_bound (hr.mono (by decide)) (glF k_after_bound) (ja_cons (j_vL 0 k_after_one) (ja_cons (j_gstr (glF k_after_OUT) T.c_OUT (by decide +kernel)) ja_nil)) (by decide +kernel)) (ja_cons (j_call h_bound (hr.mono (by decide)) (glF k_after_bound) (ja_cons (j_vL 1 k_after_other) (ja_cons (j_gstr (glF k_after_IN) T.c_IN (by decide +kernel)) ja_nil)) (by decide +kernel)) ja_nil))) (jg_tup (K := K) rfl rfl (jgs_cons (jg_name (i := 5) sc_after.nd rfl (Or.inl k_after_place) rfl) (jgs_cons (jg_name (i := 6) sc_after.nd rfl (Or.inl k_after_pair) rfl) jgs_nil))) (jb_one (js_expr (j_meth (K := K) rfl PySem.F.plainAttrs_list PySem.F.slot_list_extend PySem.F.type_list_extend mt_extend (j_vL 4 k_after_told) (ja_cons (j_op op_addA (j_op op_addA (j_ix (K := K) rfl (j_vL 2 k_after_outs) (j_vL 5 k_after_place)) (j_ix (K := K) rfl (j_vL 3 k_after_ins) (j_vL 5 k_after_place))) (j_call h_come_together (hr.mono (by decide)) (glF k_after_come_together) (ja_cons (j_ix (K := K) rfl (j_vL 6 k_after_pair) j_int) (ja_cons (j_ix (K := K) rfl (j_vL 6 k_after_pair) j_int) ja_nil)) (by decide +kernel))) ja_nil)))))) (jb_cons (js_expr (j_meth (K := K) rfl PySem.F.plainAttrs_list PySem.F.slot_list_extend PySem.F.type_list_extend mt_extend (j_vL 4 k_after_told) (ja_cons (j_op op_addA (j_ix (K := K) rfl (j_vL 2 k_after_outs) (j_un un_neg j_int)) (j_ix (K := K) rfl (j_vL 3 k_after_ins) (j_un un_neg j_int))) ja_nil))) (jb_cons (js_if (jt_cmp op_gt (j_callB (call_lenK (K := K) rfl) (glF k_after_len) T.b_len bt_len (ja_cons (j_vL 4 k_after_told) ja_nil) (by decide +kernel) (by decide +kernel)) (j_gint (glF k_after_MOST_CHANGES) T.c_MOST_CHANGES (by decide +kernel)) (by first | exact nomark _ | with_unfolding_all rfl)) (jb_one (js_raise (mk_TooLong (P := P) (w := w) (base := base) T) (hr.mono (by decide)) rfl (glF k_after_TooLong) pass_def (ja_cons (j_callB (call_lenK (K := K) rfl) (glF k_after_len) T.b_len bt_len (ja_cons (j_vL 4 k_after_told) ja_nil) (by decide +kernel) (by decide +kernel)) ja_nil) (by decide +kernel))) jb_nil) (jb_one (js_ret (j_vL 4 k_after_told)))))))))))), ?_⟩
  walk_at "sts"
  cases hA with
  | one h q => exact ⟨u, false, rfl, h, (fun z => by cases z), fun _ e H1 S1 X1 => q e H1 S1 X1⟩
  | two a us cs e hL h q =>
    subst e
    refine ⟨.ref a, true, rfl, hL.good, fun _ H1 S1 => ?_, fun z => by cases z⟩
    walk_at "sts"
    exact ⟨v, false, rfl, h.same S1, (fun z => by cases z), fun _ e H2 S2 X2 => q e H2 (S1.trans S2) X2⟩
  | unl a us cs b ws ds e e2 hL hM ne q =>
    subst e e2
    refine ⟨.ref a, true, rfl, hL.good, fun _ H1 S1 => ?_, fun z => by cases z⟩
    walk_at "sts"
    refine ⟨.ref b, true, rfl, (hM.same S1).good, fun _ H2 S2 => ?_, fun z => by cases z⟩
    walk_at "sts"
    have S02 := S1.trans S2
    refine ⟨a, us, cs, rfl, hL.same S02, fun H3 S3 => ?_⟩
    walk_at "sts"
    refine ⟨b, ws, ds, rfl, hM.same (S02.trans S3), fun H4 S4 => ?_⟩
    walk_at "sts"
    rw [decide_eq_false fun h => ne (V.str.inj h)]
    walk_at "sts"
    refine ⟨a, us, cs, rfl, hL.same ((S02.trans S3).trans S4), fun H5 S5 => ?_⟩
    walk_at "sts"
    refine ⟨b, ws, ds, rfl, hM.same (((S02.trans S3).trans S4).trans S5), fun H6 S6 => ?_⟩
    walk_at "sts"
    exact ⟨rfl, (show 2 ≤ sizeLine by decide), fun x H7 S7 X7 => q x H7 (((((S02.trans S3).trans S4).trans S5).trans S6).trans S7) X7⟩
  | join a us cs b ws ds z e e2 hL hM hz ql qt =>
    subst e e2
    refine ⟨.ref a, true, rfl, hL.good, fun _ H1 S1 => ?_, fun z => by cases z⟩
    walk_at "sts"
    refine ⟨.ref b, true, rfl, (hM.same S1).good, fun _ H2 S2 => ?_, fun z => by cases z⟩
    walk_at "sts"
    have S02 := S1.trans S2
    refine ⟨a, us, cs, rfl, hL.same S02, fun H3 S3 => ?_⟩
    walk_at "sts"
    refine ⟨b, ws, ds, rfl, hM.same (S02.trans S3), fun H4 S4 => ?_⟩
    walk_at "sts"
    rw [decide_eq_true (congrArg V.str ((fit_iff hL.2.2.1 hM.2.2.1).mpr ⟨z, hz⟩))]
    have S04 := (S02.trans S3).trans S4
    walk_at "sts"
    refine ⟨a, us, cs, _, isOut, rfl, wd_out, hL.same S04, fun g1 H5 S5 hg1 => ?_⟩
    walk_at "sts"
    refine ⟨b, ws, ds, _, isIn, rfl, wd_in, hM.same (S04.trans S5), fun g2 H6 S6 hg2 => ?_⟩
    walk_at "sts"
    have S06 := (S04.trans S5).trans S6
    refine r_new rfl fun t nt => ?_
    walk_at "sts"
    have ht0 : H t = none := Same.back S06 nt
    have S6t : Same H6 (upd H6 t (.lst [])) := (Same.refl H6).upd nt
    refine ⟨a, us, cs, _, isOut, rfl, wd_out, hL.same (S06.trans S6t), fun l1 xs1 H7 n1 S7 h1 d1 => ?_⟩
    walk_at "sts"
    refine ⟨b, ws, ds, _, isIn, rfl, wd_in, hM.same ((S06.trans S6t).trans S7), fun l2 xs2 H8 n2 S8 h2 d2 => ?_⟩
    walk_at "sts"
    have htt : H8 t = some (.lst []) := S8 _ _ (S7 _ _ upd_same)
    have nt1 : l1 ≠ t := fun e => by rw [e, upd_same] at n1; cases n1
    have nt2 : l2 ≠ t := fun e => by rw [e, S7 _ _ upd_same] at n2; cases n2
    have S68 : Same H6 H8 := (S6t.trans S7).trans S8
    have SB : Same H6 (del t H8) := Same.del S68 nt
    have h1B : del t H8 l1 = some (.lst xs1) := del_at (S8 _ _ h1) nt1
    have h2B : del t H8 l2 = some (.lst xs2) := del_at h2 nt2
    have d1B := DRs_del htt (DRs.same S8 _ _ d1)
    have d2B := DRs_del htt d2
    have hg1B := DR.same (S6.trans SB) _ _ hg1
    have hg2B := DR.same SB _ _ hg2
    have hBn := del_none t H8
    have S0B : Same H (del t H8) := S06.trans SB
    have S8B : Same (del t H8) H8 := del_same t H8
    have lx1 := DRs_len d1
    have lx2 := DRs_len d2
    rw [List.length_map] at lx1 lx2
    have ll := aft_len hz
    obtain ⟨vs1, k1, m1, at1⟩ := dG_at hg1B
    obtain ⟨vs2, k2, m2, at2⟩ := dG_at hg2B
    have gl1 := grp_len isOut cs
    have gl2 := grp_len isIn ds
    have b1 : (bnd isOut cs).length ≤ 48 := Nat.le_trans (List.length_filter_le _ _) hL.2.2.2
    have s5000 : 5000 ≤ sizeLine := by decide
    have gle1 : ∀ {l : List Cg}, l ∈ grp isOut cs → l.length ≤ 48 := fun h => Nat.le_trans (grp_le _ _ _ h) hL.2.2.2
    have gle2 : ∀ {l : List Cg}, l ∈ grp isIn ds → l.length ≤ 48 := fun h => Nat.le_trans (grp_le _ _ _ h) hM.2.2.2
    refine ⟨l1, l2, xs1, xs2, rfl, SqL.of (S8 _ _ h1), SqL.of h2, ?_⟩
    refine for_enumZ (xs := xs1) (ys := xs2) (fun k σ H' => ∃ (x5 x6 : Option V) (ys : List V), σ = [some (.ref a), some (.ref b), some (.ref g1), some (.ref g2), some (.ref t), x5, x6] ∧ Same (del t H8) H' ∧ H' t = some (.lst ys) ∧ ys.length ≤ 97 * k ∧ DRs H' ((tol (grp isOut cs) (bnd isOut cs) (grp isIn ds) (bnd isIn ds) k).map Cg.dat) ys)
      (by omega) ⟨none, none, [], rfl, S8B, htt, Nat.le_refl _, by rw [tol]; exact DRs_nil.mpr rfl⟩ (fun i σ H' _ h => by obtain ⟨_, _, _, _, s, _⟩ := h; exact ⟨SqL.of (s _ _ h1B), SqL.of (s _ _ h2B)⟩) ?_ ?_
    · rintro i σ H' Z T x y hx hy ⟨x5, x6, ys, rfl, s, hT, hle, hD⟩ nZ nT
      have hi : i < xs1.length := (List.getElem?_eq_some_iff.mp hx).1
      obtain ⟨m, hm, dm⟩ := DRs_get d1B hx
      obtain ⟨t', ht', dt⟩ := DRs_get d2B hy
      have SZ : Same H' (upd (upd H' Z (.tup [x, y])) T (.tup [.int i, .ref Z])) := ((Same.refl H').upd nZ).upd nT
      have hZ : upd (upd H' Z (.tup [x, y])) T (.tup [.int i, .ref Z]) Z = some (.tup [x, y]) := upd_old nT upd_same
      have hTt : upd (upd H' Z (.tup [x, y])) T (.tup [.int i, .ref Z]) T = some (.tup [.int i, .ref Z]) := upd_same
      generalize upd (upd H' Z (.tup [x, y])) T (.tup [.int i, .ref Z]) = HZ at SZ hZ hTt ⊢
      have sZ := s.trans SZ
      obtain ⟨o, ho⟩ : ∃ o, (grp isOut cs)[i]? = some o := ⟨_, List.getElem?_eq_getElem (by unfold bnd at *; omega)⟩
      obtain ⟨j, hj⟩ : ∃ j, (grp isIn ds)[i]? = some j := ⟨_, List.getElem?_eq_getElem (by unfold bnd at *; omega)⟩
      obtain ⟨r1, w1, e1, f1, q1⟩ := at1 i o ho
      obtain ⟨r2, w2, e2, f2, q2⟩ := at2 i j hj
      have lw1 := DRs_len q1
      have lw2 := DRs_len q2
      rw [List.length_map] at lw1 lw2
      have lo := gle1 (List.mem_of_getElem? ho)
      have lj := gle2 (List.mem_of_getElem? hj)
      have okm : m.ok := hL.2.2.1 m (List.mem_filter.mp (List.mem_of_getElem? hm)).1
      have okt : t'.ok := hM.2.2.1 t' (List.mem_filter.mp (List.mem_of_getElem? ht')).1
      walk_at "sts"
      refine r_gtup (SqT.of hTt) rfl ?_
      walk_at "sts"
      refine ⟨.inl ⟨rfl, _, SqL.of (SZ _ _ hT)⟩, ?_⟩
      walk_at "sts"
      refine r_ixL (SqL.of (sZ _ _ k1)) (atI_nat e1) ?_
      walk_at "sts"
      refine r_ixL (SqL.of (sZ _ _ k2)) (atI_nat e2) ?_
      walk_at "sts"
      refine r_addL (sZ _ _ f1) (sZ _ _ f2) (by omega) fun p np => ?_
      walk_at "sts"
      refine r_ixT (SqT.of (upd_old np hZ)) (atI_nat (j := 0) rfl) ?_
      walk_at "sts"
      refine r_ixT (SqT.of (upd_old np hZ)) (atI_nat (j := 1) rfl) ?_
      walk_at "sts"
      have sP := sZ.upd np (o := .lst (w1 ++ w2))
      refine ⟨x, y, m, t', rfl, DR.same sP _ _ dm, DR.same sP _ _ dt, okm, okt, fun g w3 H9 S9 hg dg => ?_⟩
      walk_at "sts"
      have lw3 := DRs_len dg
      rw [List.length_map] at lw3
      have lm : (met m t').length ≤ 1 := by unfold met; cases m.oN <;> cases t'.nN <;> simp [ofN]
      refine r_addL (S9 _ _ upd_same) hg (by simp; omega) fun p2 np2 => ?_
      walk_at "sts"
      have s9 := sP.trans S9
      have hT9 : H9 t = some (.lst ys) := S9 _ _ (upd_old np (SZ _ _ hT))
      have hD9 : DRs H9 ((tol (grp isOut cs) (bnd isOut cs) (grp isIn ds) (bnd isIn ds) i).map Cg.dat) ys := DRs.same ((SZ.upd np).trans S9) _ _ hD
      refine ⟨t, p2, ys, (w1 ++ w2) ++ w3, rfl, rfl, upd_old np2 hT9, upd_same, by simp; omega, ?_⟩
      walk_at "sts"
      refine ⟨_, _, _, rfl, Same.put (s9.upd np2) hBn, upd_same, by simp; omega, ?_⟩
      refine DRs_put (upd_old np2 hT9) (DRs.same ((Same.refl H9).upd np2) _ _ ?_)
      rw [tol_succ i _ _ _ _ ho hm hj ht', List.map_append, List.map_append, List.map_append]
      exact DRs_append hD9 (DRs_append (DRs_append (DRs.same s9 _ _ q1) (DRs.same s9 _ _ q2)) dg)
    · rintro σ H' ⟨x5, x6, ys, rfl, s, hT, hle, hD⟩
      obtain ⟨o, ho⟩ : ∃ o, (grp isOut cs)[(bnd isOut cs).length]? = some o := ⟨_, List.getElem?_eq_getElem (by unfold bnd at *; omega)⟩
      obtain ⟨j, hj⟩ : ∃ j, (grp isIn ds)[(bnd isOut cs).length]? = some j := ⟨_, List.getElem?_eq_getElem (by unfold bnd at *; omega)⟩
      obtain ⟨r1, w1, e1, f1, q1⟩ := at1 _ o ho
      obtain ⟨r2, w2, e2, f2, q2⟩ := at2 _ j hj
      have lw1 := DRs_len q1
      have lw2 := DRs_len q2
      rw [List.length_map] at lw1 lw2
      have lo := gle1 (List.mem_of_getElem? ho)
      have lj := gle2 (List.mem_of_getElem? hj)
      rw [lx1] at hD
      walk_at "sts"
      refine ⟨.inl ⟨rfl, _, SqL.of hT⟩, ?_⟩
      walk_at "sts"
      refine r_ixL (SqL.of (s _ _ k1)) (atI_m1 (n := (bnd isOut cs).length) (by unfold bnd at *; omega) e1) ?_
      walk_at "sts"
      refine r_ixL (SqL.of (s _ _ k2)) (atI_m1 (n := (bnd isOut cs).length) (by unfold bnd at *; omega) e2) ?_
      walk_at "sts"
      refine r_addL (s _ _ f1) (s _ _ f2) (by omega) fun p np => ?_
      walk_at "sts"
      refine ⟨t, p, ys, w1 ++ w2, rfl, rfl, upd_old np hT, upd_same, by simp; omega, ?_⟩
      have sF : Same H (upd (upd H' p (.lst (w1 ++ w2))) t (.lst (ys ++ (w1 ++ w2)))) := S0B.trans (Same.put (s.upd np) hBn)
      have hF : upd (upd H' p (.lst (w1 ++ w2))) t (.lst (ys ++ (w1 ++ w2))) t = some (.lst (ys ++ (w1 ++ w2))) := upd_same
      have dF : DRs (upd (upd H' p (.lst (w1 ++ w2))) t (.lst (ys ++ (w1 ++ w2)))) (z.map Cg.dat) (ys ++ (w1 ++ w2)) := by
        refine DRs_put (upd_old np hT) (DRs.same ((Same.refl H').upd np) _ _ ?_)
        have ez : z = tol (grp isOut cs) (bnd isOut cs) (grp isIn ds) (bnd isIn ds) (bnd isOut cs).length ++ (o ++ j) := by
          rw [← aft_wav hz]
          exact tol_end _ _ _ _ ll ho hj
        rw [ez, List.map_append, List.map_append]
        exact DRs_append hD (DRs_append (DRs.same s _ _ q1) (DRs.same s _ _ q2))
      generalize upd (upd H' p (.lst (w1 ++ w2))) t (.lst (ys ++ (w1 ++ w2))) = HF at sF hF dF ⊢
      have lF := DRs_len dF
      rw [List.length_map] at lF
      generalize ys ++ (w1 ++ w2) = yF at hF dF lF ⊢
      walk_at "sts"
      refine r_lenL (SqL.of hF) ?_
      walk_at "sts"
      rw [lF]
      refine iteD (fun h48 => ?_) (fun h48 => ?_)
      · walk_at "sts"
        refine r_lenL (SqL.of hF) ?_
        walk_at "sts"
        rw [lF]
        exact ⟨rfl, (show 1 ≤ sizeLine by decide), fun x H10 S10 X10 => ql (by omega) x H10 (sF.trans S10) X10⟩
      · walk_at "sts"
        exact qt (by omega) t _ _ ht0 sF ⟨hF, dF, aft_ok hz hL.2.2.1 hM.2.2.1, by omega⟩
end

local macro_rules | `(tactic| walk_at "sts") => `(tactic| (with_reducible repeat (first | refine r_op ?_ | refine iteT ?_ | refine iteF ?_ | refine iteNT ?_ | refine iteNF ?_ | refine r_var (by with_unfolding_all rfl) ?_ | refine r_C ?_ | refine r_i0 ?_ | refine r_addI ?_ | refine r_cons ?_ | refine r_nil ?_ | refine r_seq ?_ | refine r_asg ?_ | refine r_name ?_ | refine r_ret ?_ | refine r_next ?_ | refine r_if ?_ | refine r_test ?_ | refine r_bl ?_ | refine r_cb ?_ | refine r_call ?_ | refine r_tb ?_ | refine r_not ?_ | refine r_and ?_ | refine r_or ?_ | refine r_andV ?_ | refine r_notV ?_ | refine r_ifE ?_ | refine r_drop ?_ | refine r_un ?_ | refine r_tup ?_ | refine r_lst ?_ | refine r_bm ?_ | refine r_sl ?_ | refine r_nop ?_ | refine r_part ?_ | refine r_true ?_ | refine r_rng1 ?_ | refine r_iseq ?_ | refine r_comp ?_ | refine r_for ?_ | refine r_u ?_ | refine r_strE ?_ | refine r_gcons ?_ | refine r_gnil ?_ | refine r_gtup (SqT.of (by first | assumption | exact upd_same)) (by rfl) ?_ | refine r_callX ?_ | refine r_chain ?_ | refine r_gone ?_ | refine r_try ?_ | refine r_raise ?_ | refine r_fldX ?_ | refine r_eqCI ?_ | refine r_eqCS ?_ | refine r_eqEI ?_ | refine r_eqES ?_ | refine r_eqBI ?_ | refine r_eqBS ?_ | refine r_neBS ?_ | refine r_inS ?_ | refine r_intE ?_ | refine r_i (by with_unfolding_all first | assumption | omega | (dsimp only <;> omega) | exact ⟨by omega, by omega⟩ | exact .inl ⟨by omega, by omega⟩ | exact .inr ⟨by omega, by omega⟩ | exact ⟨by decide, by decide, by decide⟩) ?_ | refine r_mulI (by with_unfolding_all first | assumption | omega | (dsimp only <;> omega) | exact ⟨by omega, by omega⟩ | exact .inl ⟨by omega, by omega⟩ | exact .inr ⟨by omega, by omega⟩ | exact ⟨by decide, by decide, by decide⟩) ?_ | refine r_ixL (SqL.of (by first | assumption | exact upd_same)) (by with_unfolding_all rfl) ?_ | refine r_ixT (SqT.of (by first | assumption | exact upd_same)) (by with_unfolding_all rfl) ?_ | refine r_neES ?_ | refine r_sl3L ?_ | refine r_enumZip ?_)))
local macro_rules | `(tactic| walk_at "stn") => `(tactic| (with_reducible repeat (first | refine r_op ?_ | refine iteT ?_ | refine iteF ?_ | refine iteNT ?_ | refine iteNF ?_ | refine r_var (by with_unfolding_all rfl) ?_ | refine r_C ?_ | refine r_i0 ?_ | refine r_addI ?_ | refine r_cons ?_ | refine r_nil ?_ | refine r_asg ?_ | refine r_name ?_ | refine r_ret ?_ | refine r_next ?_ | refine r_if ?_ | refine r_test ?_ | refine r_bl ?_ | refine r_cb ?_ | refine r_call ?_ | refine r_tb ?_ | refine r_not ?_ | refine r_and ?_ | refine r_or ?_ | refine r_andV ?_ | refine r_notV ?_ | refine r_ifE ?_ | refine r_drop ?_ | refine r_un ?_ | refine r_tup ?_ | refine r_lst ?_ | refine r_bm ?_ | refine r_sl ?_ | refine r_nop ?_ | refine r_part ?_ | refine r_true ?_ | refine r_rng1 ?_ | refine r_iseq ?_ | refine r_comp ?_ | refine r_for ?_ | refine r_u ?_ | refine r_strE ?_ | refine r_gcons ?_ | refine r_gnil ?_ | refine r_gtup (SqT.of (by first | assumption | exact upd_same)) (by rfl) ?_ | refine r_callX ?_ | refine r_chain ?_ | refine r_gone ?_ | refine r_try ?_ | refine r_raise ?_ | refine r_fldX ?_ | refine r_eqCI ?_ | refine r_eqCS ?_ | refine r_eqEI ?_ | refine r_eqES ?_ | refine r_eqBI ?_ | refine r_eqBS ?_ | refine r_neBS ?_ | refine r_inS ?_ | refine r_intE ?_ | refine r_i (by with_unfolding_all first | assumption | omega | (dsimp only <;> omega) | exact ⟨by omega, by omega⟩ | exact .inl ⟨by omega, by omega⟩ | exact .inr ⟨by omega, by omega⟩ | exact ⟨by decide, by decide, by decide⟩) ?_ | refine r_mulI (by with_unfolding_all first | assumption | omega | (dsimp only <;> omega) | exact ⟨by omega, by omega⟩ | exact .inl ⟨by omega, by omega⟩ | exact .inr ⟨by omega, by omega⟩ | exact ⟨by decide, by decide, by decide⟩) ?_ | refine r_ixL (SqL.of (by first | assumption | exact upd_same)) (by with_unfolding_all rfl) ?_ | refine r_ixT (SqT.of (by first | assumption | exact upd_same)) (by with_unfolding_all rfl) ?_ | refine r_neES ?_ | refine r_sl3L ?_ | refine r_enumZip ?_)))
section
variable {P : Program} {w : World} {K : PySem.W.Frag} {mg : Str → Option Value} {base : Heap}
theorem nd_law_old_0 : (["_law_change"] : List Str).Nodup := by decide +kernel
theorem nd_law_new_1 : (["_law_change"] : List Str).Nodup := by decide +kernel
theorem k_law_cell_at__law_k : (defScope s_law_cell_at).names.lookup ("_law_k" : Str) = some NameKind.local := by decide +kernel
theorem k_law_cell_at_len : (defScope s_law_cell_at).names.lookup ("len" : Str) = some NameKind.globalImplicit := by decide +kernel
theorem k_law_cell_at__law_script : (defScope s_law_cell_at).names.lookup ("_law_script" : Str) = some NameKind.local := by decide +kernel
theorem k_law_letter__law_number : (defScope s_law_letter).names.lookup ("_law_number" : Str) = some NameKind.local := by decide +kernel
theorem k_law_great__law_found : (defScope s_law_great).names.lookup ("_law_found" : Str) = some NameKind.local := by decide +kernel
theorem k_law_great_range : (defScope s_law_great).names.lookup ("range" : Str) = some NameKind.globalImplicit := by decide +kernel
theorem k_law_great__law_k : (defScope s_law_great).names.lookup ("_law_k" : Str) = some NameKind.local := by decide +kernel
theorem k_law_great__law_number : (defScope s_law_great).names.lookup ("_law_number" : Str) = some NameKind.local := by decide +kernel
theorem k_law_great__law_cell : (defScope s_law_great).names.lookup ("_law_cell" : Str) = some NameKind.local := by decide +kernel
theorem k_law_old__law_changes : (defScope s_law_old).names.lookup ("_law_changes" : Str) = some NameKind.local := by decide +kernel
theorem k_law_new__law_changes : (defScope s_law_new).names.lookup ("_law_changes" : Str) = some NameKind.local := by decide +kernel
theorem k_law_row__law_row_here : (defScope s_law_row).names.lookup ("_law_row_here" : Str) = some NameKind.local := by decide +kernel
theorem k_law_row_range : (defScope s_law_row).names.lookup ("range" : Str) = some NameKind.globalImplicit := by decide +kernel
theorem k_law_row__law_many : (defScope s_law_row).names.lookup ("_law_many" : Str) = some NameKind.local := by decide +kernel
theorem k_law_row__law_k : (defScope s_law_row).names.lookup ("_law_k" : Str) = some NameKind.local := by decide +kernel
theorem k_law_row__law_number : (defScope s_law_row).names.lookup ("_law_number" : Str) = some NameKind.local := by decide +kernel
theorem k_law_row__law_letter : (defScope s_law_row).names.lookup ("_law_letter" : Str) = some NameKind.globalImplicit := by decide +kernel
theorem k_law_row__law_great : (defScope s_law_row).names.lookup ("_law_great" : Str) = some NameKind.globalImplicit := by decide +kernel
theorem k_law_row__law_cell : (defScope s_law_row).names.lookup ("_law_cell" : Str) = some NameKind.local := by decide +kernel
theorem bt_ord : bootBuiltins "ord" = some (.builtin "ord") := by decide +kernel
noncomputable def spCell (K : PySem.W.Frag) : Sp := fun vs H Q _ => ∃ (a : Addr) (ns : List Int) (k : Int), vs = [.ref a, .int k] ∧ SqL K H a (ns.map V.int) ∧ 0 ≤ k ∧ ∀ n, Q (.int n) H
theorem sc_law_cell_at : FnScope ["_law_script", "_law_k"] ["_law_script", "_law_k"] (defScope s_law_cell_at) := ⟨rfl, rfl, rfl, by decide +kernel, rfl, by decide +kernel, by decide +kernel⟩
theorem h_law_cell_at (T : Txt K mg) : Has P w K mg base 1 "_law_cell_at" ["_law_script", "_law_k"] (spCell K) := by
  refine hasJ T.d_law_cell_at sc_law_cell_at (fun _ _ _ _ _ _ us hl => L2.usN2 (fun _ _ => rfl) us hl) ?_ fun f cdv A outer s H vs Q E hr h => ?_
  · rintro vs H Q E ⟨a, ns, k, rfl, _⟩; rfl
  obtain ⟨a, ns, k, rfl, hS, h0, q⟩ := h
  have hu := hr.units0
  have hu64 := hr.units
  refine ⟨_, (jb_cons (js_if (jt_cmp op_lt (j_vL 1 k_law_cell_at__law_k) (j_callB (call_lenK (K := K) rfl) (glF k_law_cell_at_len) T.b_len bt_len (ja_cons (j_vL 0 k_law_cell_at__law_script) ja_nil) (by decide +kernel) (by decide +kernel)) (by first | exact nomark _ | with_unfolding_all rfl)) (jb_one (js_ret (j_ix (K := K) rfl (j_vL 0 k_law_cell_at__law_script) (j_vL 1 k_law_cell_at__law_k)))) jb_nil) (jb_one (js_ret j_int))), ?_⟩
  walk_at "sts"
  refine ⟨_, _, rfl, .inl ⟨_, hS, rfl⟩, ?_⟩
  walk_at "sts"
  refine iteD (fun hk => ?_) (fun hk => ?_)
  · rw [List.length_map] at hk
    walk_at "sts"
    refine r_ixL hS (atI_int (v := .int (ns.getD k.toNat 0)) h0 ?_) (q _)
    rw [List.getElem?_map, List.getD_eq_getElem?_getD, List.getElem?_eq_getElem (by omega)]; rfl
  · walk_at "sts"
    exact q _
noncomputable def spLet : Sp := fun vs H Q _ => ∃ n : Int, vs = [.int n] ∧ Q (.str (lS (n % 26).toNat)) H
theorem sc_law_letter : FnScope ["_law_number"] ["_law_number"] (defScope s_law_letter) := ⟨rfl, rfl, rfl, by decide +kernel, rfl, by decide +kernel, by decide +kernel⟩
theorem h_law_letter (T : Txt K mg) : Has P w K mg base 1 "_law_letter" ["_law_number"] spLet := by
  refine hasJ T.d_law_letter sc_law_letter (fun _ _ _ _ _ _ us hl => L2.usN1 (fun _ => rfl) us hl) ?_ fun f cdv A outer s H vs Q E hr h => ?_
  · rintro vs H Q E ⟨n, rfl, _⟩; rfl
  obtain ⟨n, rfl, q⟩ := h
  have hu := hr.units0
  have hu64 := hr.units
  refine ⟨_, (jb_one (js_ret (j_ix (K := K) rfl j_str (j_op op_mod (j_vL 0 k_law_letter__law_number) j_int)))), ?_⟩
  walk_at "sts"
  have hl : (Str.ofString "abcdefghijklmnopqrstuvwxyz").cps.toList.length = 26 := by decide +kernel
  refine r_ixS (c := lc (n % 26).toNat) (by decide +kernel) ?_ q
  refine atI_int (by omega) ?_
  have hi : (n % 26).toNat < (Str.ofString "abcdefghijklmnopqrstuvwxyz").cps.toList.length := by rw [hl]; omega
  unfold lc LETT
  rw [List.getD_eq_getElem?_getD, List.getElem?_eq_getElem hi]; rfl
noncomputable def spGreat : Sp := fun vs H Q _ => ∃ n : Int, vs = [.int n] ∧ ∀ m : Int, Q (.int m) H
theorem sc_law_great : FnScope ["_law_cell", "_law_found", "_law_number", "_law_k"] ["_law_cell"] (defScope s_law_great) := ⟨rfl, rfl, rfl, by decide +kernel, rfl, by decide +kernel, by decide +kernel⟩
theorem h_law_great (T : Txt K mg) : Has P w K mg base 1 "_law_great" ["_law_cell"] spGreat := by
  refine hasJ T.d_law_great sc_law_great (fun _ _ _ _ _ _ us hl => L2.usN1 (fun _ => rfl) us hl) ?_ fun f cdv A outer s H vs Q E hr h => ?_
  · rintro vs H Q E ⟨n, rfl, _⟩; rfl
  obtain ⟨n, rfl, q⟩ := h
  have hu := hr.units0
  have hu64 := hr.units
  refine ⟨_, (jb_cons (js_if (jt_cmp op_ge (j_vL 0 k_law_great__law_cell) (j_op op_pow j_int j_int) (by first | exact nomark _ | with_unfolding_all rfl)) (jb_one (js_ret (j_vL 0 k_law_great__law_cell))) jb_nil) (jb_cons (js_set (i := 1) sc_law_great.nd rfl (Or.inl k_law_great__law_found) j_int rfl) (jb_cons (js_set (i := 2) sc_law_great.nd rfl (Or.inl k_law_great__law_number) (j_op op_addA (j_op op_mod (j_vL 0 k_law_great__law_cell) j_int) j_int) rfl) (jb_cons (js_for PassesOwn.never rfl (ji_range1 (glF k_law_great_range) T.b_range (ja_cons j_int ja_nil)) (jg_name (i := 3) sc_law_great.nd rfl (Or.inl k_law_great__law_k) rfl) (jb_cons (js_set (i := 2) sc_law_great.nd rfl (Or.inl k_law_great__law_number) (j_op op_mod (j_op op_addA (j_op op_addA (j_op op_mulA (j_vL 2 k_law_great__law_number) (j_vL 2 k_law_great__law_number)) (j_op op_mulA j_int (j_vL 2 k_law_great__law_number))) (j_vL 3 k_law_great__law_k)) j_int) rfl) (jb_one (js_set (i := 1) sc_law_great.nd rfl (Or.inl k_law_great__law_found) (j_op op_addA (j_op op_mulA (j_vL 1 k_law_great__law_found) j_int) (j_op op_mod (j_op op_mulA (j_vL 2 k_law_great__law_number) j_int) j_int)) rfl)))) (jb_one (js_ret (j_vL 1 k_law_great__law_found))))))), ?_⟩
  walk_at "sts"
  refine iteD (fun h1 => ?_) (fun h1 => ?_)
  · walk_at "sts"
    exact q _
  · walk_at "sts"
    refine ⟨8, rfl, by decide, by decide, ?_⟩
    refine for_range (lo := 0) (n := 8) (fun k σ H' => ∃ (f m : Int) (x : Option V), H' = H ∧ 0 ≤ m ∧ m < 2147500000 ∧ σ = [some (.int n), some (.int f), some (.int m), x]) ⟨0, n % 2147483647 + 12345, none, rfl, by omega, by omega, rfl⟩ ?_ ?_
    · rintro i σ H' hi ⟨f, m, x, rfl, h1, h2, rfl⟩
      walk_at "sts"
      refine ⟨_, _, _, rfl, ?_, ?_, rfl⟩
      · omega
      · omega
    · rintro σ H' ⟨f, m, x, rfl, h1, h2, rfl⟩
      walk_at "sts"
      exact q _
noncomputable def RowN (z : Str) (ns : List Nat) : Prop := z.cps.toList = ns.map lc ∧ ∀ i ∈ ns, i < 26
theorem RowN.len {z : Str} {ns : List Nat} (h : RowN z ns) : z.length = ns.length := by rw [len_cps, h.1, List.length_map]
noncomputable def spRowG : Sp := fun vs H Q _ => ∃ n : Int, vs = [.int n] ∧ ∀ z ns, RowN z ns → ns.length ≤ 24 → Q (.str z) H
theorem sc_law_row : FnScope ["_law_cell", "_law_number", "_law_many", "_law_row_here", "_law_k"] ["_law_cell"] (defScope s_law_row) := ⟨rfl, rfl, rfl, by decide +kernel, rfl, by decide +kernel, by decide +kernel⟩
theorem h_law_row (T : Txt K mg) : Has P w K mg base 2 "_law_row" ["_law_cell"] spRowG := by
  have h_law_great := h_law_great (P := P) (w := w) (base := base) T
  have h_law_letter := h_law_letter (P := P) (w := w) (base := base) T
  refine hasJ T.d_law_row sc_law_row (fun _ _ _ _ _ _ us hl => L2.usN1 (fun _ => rfl) us hl) ?_ fun f cdv A outer s H vs Q E hr h => ?_
  · rintro vs H Q E ⟨n, rfl, _⟩; rfl
  obtain ⟨n, rfl, q⟩ := h
  have hu := hr.units0
  have hu64 := hr.units
  refine ⟨_, (jb_cons (js_set (i := 1) sc_law_row.nd rfl (Or.inl k_law_row__law_number) (j_call h_law_great (hr.mono (by decide)) (glF k_law_row__law_great) (ja_cons (j_vL 0 k_law_row__law_cell) ja_nil) (by decide +kernel)) rfl) (jb_cons (js_set (i := 2) sc_law_row.nd rfl (Or.inl k_law_row__law_many) (j_op op_mod (j_vL 1 k_law_row__law_number) j_int) rfl) (jb_cons (js_if (jt_cmp (op_eqE (K := K) rfl hu64) (j_op op_mod (j_op op_fdiv (j_vL 1 k_law_row__law_number) j_int) j_int) j_int (by first | exact nomark _ | with_unfolding_all rfl)) (jb_one (js_set (i := 2) sc_law_row.nd rfl (Or.inl k_law_row__law_many) (j_op op_mod (j_op op_fdiv (j_vL 1 k_law_row__law_number) j_int) j_int) rfl)) jb_nil) (jb_cons (js_set (i := 1) sc_law_row.nd rfl (Or.inl k_law_row__law_number) (j_op op_fdiv (j_vL 1 k_law_row__law_number) j_int) rfl) (jb_cons (js_set (i := 3) sc_law_row.nd rfl (Or.inl k_law_row__law_row_here) j_str rfl) (jb_cons (js_for PassesOwn.never rfl (ji_range1 (glF k_law_row_range) T.b_range (ja_cons (j_vL 2 k_law_row__law_many) ja_nil)) (jg_name (i := 4) sc_law_row.nd rfl (Or.inl k_law_row__law_k) rfl) (jb_cons (js_set (i := 3) sc_law_row.nd rfl (Or.inl k_law_row__law_row_here) (j_op op_addA (j_vL 3 k_law_row__law_row_here) (j_call h_law_letter (hr.mono (by decide)) (glF k_law_row__law_letter) (ja_cons (j_vL 1 k_law_row__law_number) ja_nil) (by decide +kernel))) rfl) (jb_one (js_set (i := 1) sc_law_row.nd rfl (Or.inl k_law_row__law_number) (j_op op_fdiv (j_vL 1 k_law_row__law_number) j_int) rfl)))) (jb_one (js_ret (j_vL 3 k_law_row__law_row_here))))))))), ?_⟩
  walk_at "stn"
  with_reducible refine r_seq ?_
  walk_at "stn"
  refine ⟨_, rfl, fun m => ?_⟩
  walk_at "stn"
  with_reducible refine r_seq ?_
  walk_at "stn"
  with_reducible refine r_cut (fun σ H1 => ∃ k : Nat, k ≤ 24 ∧ H1 = H ∧ σ = [some (.int n), some (.int m), some (.int k), none, none]) ?_ ?_
  rotate_left
  · intro N hN
    walk_at "stn"
    refine iteD (fun h3 => ?_) (fun h3 => ?_)
    · walk_at "stn"
      exact hN _ _ ⟨(m / 36 % 25).toNat, by omega, rfl, by rw [Int.toNat_of_nonneg (by omega)]; rfl⟩
    · walk_at "stn"
      exact hN _ _ ⟨(m % 9).toNat, by omega, rfl, by rw [Int.toNat_of_nonneg (by omega)]; rfl⟩
  · rintro σ H1 ⟨k, hk, rfl, rfl⟩
    walk_at "sts"
    refine ⟨k, rfl, by omega, by omega, ?_⟩
    refine for_range (lo := 0) (n := k) (fun i σ H' => ∃ (z : Str) (ns : List Nat) (j : Int) (x : Option V), H' = H1 ∧ RowN z ns ∧ ns.length = i ∧ σ = [some (.int n), some (.int j), some (.int k), some (.str z), x]) ⟨_, [], _, _, rfl, ⟨by decide +kernel, fun i h => by cases h⟩, rfl, rfl⟩ ?_ ?_
    · rintro i σ H' hi ⟨z, ns, j, x, rfl, hR, hl, rfl⟩
      have s1000 : 1000 ≤ sizeLine := by decide
      have hlen := hR.len
      walk_at "sts"
      refine ⟨_, rfl, ?_⟩
      walk_at "sts"
      refine r_addS (by rw [lS_len]; omega) ?_
      walk_at "sts"
      refine ⟨_, ns ++ [(j % 26).toNat], _, _, rfl, ⟨?_, ?_⟩, by simp; omega, rfl⟩
      · rw [cps_append, hR.1, List.map_append]; rfl
      · intro i hi
        rcases List.mem_append.mp hi with h | h
        · exact hR.2 i h
        · rw [List.mem_singleton.mp h]; omega
    · rintro σ H' ⟨z, ns, j, x, rfl, hR, hl, rfl⟩
      walk_at "sts"
      exact q z ns hR (by omega)
theorem join_filter {cs : List Cg} {f : Cg → Str} {p : Cg → Bool} (h : ∀ c, p c = false → f c = Str.ofString "") : Txt.join (Str.ofString "") ((cs.filter p).map f) = Txt.join (Str.ofString "") (cs.map f) := by
  refine strExt ?_
  rw [join_cps, join_cps]
  induction cs with
  | nil => rfl
  | cons c cs ih =>
    cases hp : p c with
    | true => rw [List.filter_cons_of_pos hp, List.map_cons, List.map_cons, List.map_cons, List.map_cons, List.flatten_cons, List.flatten_cons, ih]
    | false =>
      rw [List.filter_cons_of_neg (by rw [hp]; simp), ih, List.map_cons, List.map_cons, List.flatten_cons, h c hp]
      rfl
theorem inn_old (c : Cg) : (!isIn c) = false → c.old = Str.ofString "" := by cases c <;> simp [isIn, Cg.old]
theorem out_new (c : Cg) : (!isOut c) = false → c.new = Str.ofString "" := by cases c <;> simp [isOut, Cg.new]
noncomputable def spRowL (R : List Cg → Str) : Sp := fun vs H Q _ => ∃ (a : Addr) (us : List V) (cs : List Cg), vs = [.ref a] ∧ Lcs H a us cs ∧ ∀ H', Same H H' → Q (.str (R cs)) H'
theorem filt_le {cs : List Cg} {p : Cg → Bool} {f : Cg → Str} (h : ∀ c, (f c).length ≤ 1) (h48 : cs.length ≤ 48) : (((cs.filter p).map f).map (·.length)).sum + ((cs.filter p).map f).length * (Str.ofString "").length ≤ 16777216 := by
  have e : (Str.ofString "").length = 0 := by decide +kernel
  have := sum_le1 (cs := cs.filter p) h
  have := List.length_filter_le p cs
  rw [e]
  omega
theorem sc_law_old : FnScope ["_law_changes"] ["_law_changes"] (defScope s_law_old) := ⟨rfl, rfl, rfl, by decide +kernel, rfl, by decide +kernel, by decide +kernel⟩
theorem h_law_old (T : Txt K mg) : Has P w K mg base 1 "_law_old" ["_law_changes"] (spRowL oldR) := by
  refine hasJ T.d_law_old sc_law_old (fun _ _ _ _ _ _ us hl => L2.usN1 (fun _ => rfl) us hl) ?_ fun f cdv A outer s H vs Q E hr h => ?_
  · rintro vs H Q E ⟨a, us, cs, rfl, _⟩; rfl
  obtain ⟨a, us, cs, rfl, hL, q⟩ := h
  have hu := hr.units0
  have hu64 := hr.units
  refine ⟨_, (jb_one (js_ret (j_meth (K := K) rfl PySem.F.plainAttrs_str PySem.F.slot_str_join PySem.F.type_str_join mt_join j_str (ja_cons (j_comp (sub := [none]) (subOk_of (N := ["_law_changes"]) (sc := defScope s_law_old) (N' := ["_law_change"]) (by decide +kernel)) rfl rfl rfl (ji_seq (K := K) rfl (j_vL 0 k_law_old__law_changes)) (fun C s₀ H₀ ex => (jg_B 0 (by decide +kernel) nd_law_old_0)) (fun C s₀ H₀ ex => (jif_one (jt_cmp (op_neE (K := K) rfl hu64) (j_ix (K := K) rfl (j_vBL 0 (by decide +kernel)) j_int) j_str (by first | exact nomark _ | with_unfolding_all rfl)))) (fun C s₀ H₀ ex => (j_ix (K := K) rfl (j_vBL 0 (by decide +kernel)) j_int))) ja_nil)))), ?_⟩
  walk_at "sts"
  refine ⟨rfl, ?_⟩
  walk_at "sts"
  refine .inl ⟨a, rfl, ⟨_, SqL.of hL.1⟩, ?_⟩
  have hl := hL.len
  have h48 := hL.2.2.2
  refine comp_list (xs := us) (fun i ys H' => H' = H ∧ ys = (((cs.take i).filter fun c => !isIn c).map Cg.old).map V.str) (Nat.le_trans (show us.length ≤ 1000 by omega) (by decide)) ⟨rfl, rfl⟩ ?_ ?_ ?_ ?_
  · rintro i ys H' ⟨_, rfl⟩
    rw [List.length_map, List.length_map]
    exact Nat.le_trans (List.length_filter_le _ _) (by rw [List.length_take]; omega)
  · rintro i ys H' ⟨rfl, rfl⟩
    exact SqL.of hL.1
  · rintro i ys H' x hx ⟨rfl, rfl⟩
    obtain ⟨c, hc, hd⟩ := DRs_get hL.2.1 hx
    obtain ⟨t, rfl, ht⟩ := DR_cg.mp hd
    have tks := filt_take (p := fun c => !isIn c) hc
    walk_at "sts"
    refine ⟨KeepSt.set rfl, ?_⟩
    walk_at "sts"
    cases c with
    | keep i =>
      refine r_ixT (SqT.of ht) (atI_nat (j := 0) rfl) ?_
      walk_at "sts"
      rw [dKI]
      walk_at "sts"
      refine ⟨rfl, ?_⟩
      rw [tks, List.map_append, List.map_append]; rfl
    | chg i j =>
      refine r_ixT (SqT.of ht) (atI_nat (j := 0) rfl) ?_
      walk_at "sts"
      rw [dCI]
      walk_at "sts"
      refine ⟨rfl, ?_⟩
      rw [tks, List.map_append, List.map_append]; rfl
    | out i =>
      refine r_ixT (SqT.of ht) (atI_nat (j := 0) rfl) ?_
      walk_at "sts"
      rw [dOI]
      walk_at "sts"
      refine ⟨rfl, ?_⟩
      rw [tks, List.map_append, List.map_append]; rfl
    | inn i =>
      refine r_ixT (SqT.of ht) (atI_nat (j := 0) rfl) ?_
      walk_at "sts"
      rw [dII]
      walk_at "sts"
      refine ⟨rfl, ?_⟩
      rw [tks, List.map_append, List.map_append]; simp [isIn]
  · rintro ys H' ⟨rfl, rfl⟩ D hD
    rw [List.take_of_length_le (by omega)]
    walk_at "sts"
    refine r_join upd_same (filt_le old_le h48) ?_
    have e : Txt.join (Str.ofString "") ((cs.filter fun c => !isIn c).map Cg.old) = oldR cs := join_filter inn_old
    rw [e]
    exact q _ ((Same.refl H').upd hD)
theorem sc_law_new : FnScope ["_law_changes"] ["_law_changes"] (defScope s_law_new) := ⟨rfl, rfl, rfl, by decide +kernel, rfl, by decide +kernel, by decide +kernel⟩
theorem h_law_new (T : Txt K mg) : Has P w K mg base 1 "_law_new" ["_law_changes"] (spRowL newR) := by
  refine hasJ T.d_law_new sc_law_new (fun _ _ _ _ _ _ us hl => L2.usN1 (fun _ => rfl) us hl) ?_ fun f cdv A outer s H vs Q E hr h => ?_
  · rintro vs H Q E ⟨a, us, cs, rfl, _⟩; rfl
  obtain ⟨a, us, cs, rfl, hL, q⟩ := h
  have hu := hr.units0
  have hu64 := hr.units
  refine ⟨_, (jb_one (js_ret (j_meth (K := K) rfl PySem.F.plainAttrs_str PySem.F.slot_str_join PySem.F.type_str_join mt_join j_str (ja_cons (j_comp (sub := [none]) (subOk_of (N := ["_law_changes"]) (sc := defScope s_law_new) (N' := ["_law_change"]) (by decide +kernel)) rfl rfl rfl (ji_seq (K := K) rfl (j_vL 0 k_law_new__law_changes)) (fun C s₀ H₀ ex => (jg_B 0 (by decide +kernel) nd_law_new_1)) (fun C s₀ H₀ ex => (jif_one (jt_cmp (op_neE (K := K) rfl hu64) (j_ix (K := K) rfl (j_vBL 0 (by decide +kernel)) j_int) j_str (by first | exact nomark _ | with_unfolding_all rfl)))) (fun C s₀ H₀ ex => (j_ix (K := K) rfl (j_vBL 0 (by decide +kernel)) (j_un un_neg j_int)))) ja_nil)))), ?_⟩
  walk_at "sts"
  refine ⟨rfl, ?_⟩
  walk_at "sts"
  refine .inl ⟨a, rfl, ⟨_, SqL.of hL.1⟩, ?_⟩
  have hl := hL.len
  have h48 := hL.2.2.2
  refine comp_list (xs := us) (fun i ys H' => H' = H ∧ ys = (((cs.take i).filter fun c => !isOut c).map Cg.new).map V.str) (Nat.le_trans (show us.length ≤ 1000 by omega) (by decide)) ⟨rfl, rfl⟩ ?_ ?_ ?_ ?_
  · rintro i ys H' ⟨_, rfl⟩
    rw [List.length_map, List.length_map]
    exact Nat.le_trans (List.length_filter_le _ _) (by rw [List.length_take]; omega)
  · rintro i ys H' ⟨rfl, rfl⟩
    exact SqL.of hL.1
  · rintro i ys H' x hx ⟨rfl, rfl⟩
    obtain ⟨c, hc, hd⟩ := DRs_get hL.2.1 hx
    obtain ⟨t, rfl, ht⟩ := DR_cg.mp hd
    have tks := filt_take (p := fun c => !isOut c) hc
    walk_at "sts"
    refine ⟨KeepSt.set rfl, ?_⟩
    walk_at "sts"
    cases c with
    | keep i =>
      refine r_ixT (SqT.of ht) (atI_nat (j := 0) rfl) ?_
      walk_at "sts"
      rw [dKO]
      walk_at "sts"
      refine ⟨rfl, ?_⟩
      rw [tks, List.map_append, List.map_append]; rfl
    | chg i j =>
      refine r_ixT (SqT.of ht) (atI_nat (j := 0) rfl) ?_
      walk_at "sts"
      rw [dCO]
      walk_at "sts"
      refine ⟨rfl, ?_⟩
      rw [tks, List.map_append, List.map_append]; rfl
    | out i =>
      refine r_ixT (SqT.of ht) (atI_nat (j := 0) rfl) ?_
      walk_at "sts"
      rw [dOO]
      walk_at "sts"
      refine ⟨rfl, ?_⟩
      rw [tks, List.map_append, List.map_append]; simp [isOut]
    | inn i =>
      refine r_ixT (SqT.of ht) (atI_nat (j := 0) rfl) ?_
      walk_at "sts"
      rw [dIO]
      walk_at "sts"
      refine ⟨rfl, ?_⟩
      rw [tks, List.map_append, List.map_append]; rfl
  · rintro ys H' ⟨rfl, rfl⟩ D hD
    rw [List.take_of_length_le (by omega)]
    walk_at "sts"
    refine r_join upd_same (filt_le new_le h48) ?_
    have e : Txt.join (Str.ofString "") ((cs.filter fun c => !isOut c).map Cg.new) = newR cs := join_filter out_new
    rw [e]
    exact q _ ((Same.refl H').upd hD)
end

section
variable {P : Program} {w : World} {K : PySem.W.Frag} {mg : Str → Option Value} {base : Heap}
theorem k_law_unlike_PaneError : (defScope s_law_unlike).names.lookup ("PaneError" : Str) = some NameKind.globalImplicit := by decide +kernel
theorem k_law_unlike_Unlike : (defScope s_law_unlike).names.lookup ("Unlike" : Str) = some NameKind.globalImplicit := by decide +kernel
theorem k_law_unlike_e : (defScope s_law_unlike).names.lookup ("e" : Str) = some NameKind.local := by decide +kernel
theorem k_law_unlike_isinstance : (defScope s_law_unlike).names.lookup ("isinstance" : Str) = some NameKind.globalImplicit := by decide +kernel
theorem k_law_unlike_NoChanges : (defScope s_law_unlike).names.lookup ("NoChanges" : Str) = some NameKind.globalImplicit := by decide +kernel
theorem k_law_unlike_TooLong : (defScope s_law_unlike).names.lookup ("TooLong" : Str) = some NameKind.globalImplicit := by decide +kernel
theorem k_law_unlike__law_old : (defScope s_law_unlike).names.lookup ("_law_old" : Str) = some NameKind.globalImplicit := by decide +kernel
theorem k_law_unlike__law_other : (defScope s_law_unlike).names.lookup ("_law_other" : Str) = some NameKind.local := by decide +kernel
theorem k_law_unlike__law_new : (defScope s_law_unlike).names.lookup ("_law_new" : Str) = some NameKind.globalImplicit := by decide +kernel
theorem k_law_unlike__law_one : (defScope s_law_unlike).names.lookup ("_law_one" : Str) = some NameKind.local := by decide +kernel
theorem k_law_unlike_after : (defScope s_law_unlike).names.lookup ("after" : Str) = some NameKind.globalImplicit := by decide +kernel
noncomputable def spRowV (R : List Cg → Str) (xh : Addr) : Sp := fun vs H Q _ => ∃ (a : Addr) (us : List V) (cs : List Cg), vs = [.ref a] ∧ Lcs H a us cs ∧ (∃ C fs, IsX H xh C fs) ∧ ∀ H', Same H H' → Q (.str (R cs)) H'
theorem hv_law_old (T : Txt K mg) : HasV P w K mg base 1 "_law_old" ["_law_changes"] (spRowV oldR) := by
  refine hasJV T.d_law_old sc_law_old (fun _ _ _ _ _ _ us hl => L2.usN1 (fun _ => rfl) us hl) ?_ fun f cdv A outer s H vs Q E xh hh hr h => ?_
  · rintro xh vs H Q E ⟨a, us, cs, rfl, _⟩; rfl
  obtain ⟨a, us, cs, rfl, hL, hX, q⟩ := h
  have hu := hr.units0
  have hu64 := hr.units
  refine ⟨_, (jb_one (js_ret (j_meth (K := K) rfl PySem.F.plainAttrs_str PySem.F.slot_str_join PySem.F.type_str_join mt_join j_str (ja_cons ⟨pe_compU (xh := xh) (sub := [none]) (subOk_of (N := ["_law_changes"]) (sc := defScope s_law_old) (N' := ["_law_change"]) (by decide +kernel)) hh rfl rfl (pi_listU (xh := xh) (j_vL 0 k_law_old__law_changes).run) (fun C s₀ H₀ ex => (jg_B 0 (by decide +kernel) nd_law_old_0).run) (fun C s₀ H₀ ex => (jif_one (jt_cmp (op_neE (K := K) rfl hu64) (j_ix (K := K) rfl (j_vBL 0 (by decide +kernel)) j_int) j_str (by first | exact nomark _ | with_unfolding_all rfl))).run) (fun C s₀ H₀ ex => (j_ix (K := K) rfl (j_vBL 0 (by decide +kernel)) j_int).run)⟩ ja_nil)))), ?_⟩
  walk_at "sts"
  refine ⟨rfl, ?_⟩
  walk_at "sts"
  with_reducible refine r_listU ?_
  walk_at "sts"
  refine ⟨a, rfl, ⟨_, SqL.of hL.1⟩, ?_⟩
  have hl := hL.len
  have h48 := hL.2.2.2
  refine comp_listU (xs := us) (fun i ys H' => H' = H ∧ ys = (((cs.take i).filter fun c => !isIn c).map Cg.old).map V.str) (Nat.le_trans (show us.length ≤ 1000 by omega) (by decide)) ⟨rfl, rfl⟩ ?_ ?_ (fun ys H' h => by rw [h.1]; exact hX) ?_ ?_
  · rintro i ys H' ⟨_, rfl⟩
    rw [List.length_map, List.length_map]
    exact Nat.le_trans (List.length_filter_le _ _) (by rw [List.length_take]; omega)
  · rintro i ys H' ⟨rfl, rfl⟩
    exact SqL.of hL.1
  · rintro i ys H' x hx ⟨rfl, rfl⟩
    obtain ⟨c, hc, hd⟩ := DRs_get hL.2.1 hx
    obtain ⟨t, rfl, ht⟩ := DR_cg.mp hd
    have tks := filt_take (p := fun c => !isIn c) hc
    walk_at "sts"
    refine ⟨KeepSt.set rfl, ?_⟩
    walk_at "sts"
    cases c with
    | keep i =>
      refine r_ixT (SqT.of ht) (atI_nat (j := 0) rfl) ?_
      walk_at "sts"
      rw [dKI]
      walk_at "sts"
      refine ⟨rfl, ?_⟩
      rw [tks, List.map_append, List.map_append]; rfl
    | chg i j =>
      refine r_ixT (SqT.of ht) (atI_nat (j := 0) rfl) ?_
      walk_at "sts"
      rw [dCI]
      walk_at "sts"
      refine ⟨rfl, ?_⟩
      rw [tks, List.map_append, List.map_append]; rfl
    | out i =>
      refine r_ixT (SqT.of ht) (atI_nat (j := 0) rfl) ?_
      walk_at "sts"
      rw [dOI]
      walk_at "sts"
      refine ⟨rfl, ?_⟩
      rw [tks, List.map_append, List.map_append]; rfl
    | inn i =>
      refine r_ixT (SqT.of ht) (atI_nat (j := 0) rfl) ?_
      walk_at "sts"
      rw [dII]
      walk_at "sts"
      refine ⟨rfl, ?_⟩
      rw [tks, List.map_append, List.map_append]; simp [isIn]
  · rintro ys H' ⟨rfl, rfl⟩ D hD
    rw [List.take_of_length_le (by omega)]
    walk_at "sts"
    refine r_join upd_same (filt_le old_le h48) ?_
    have e : Txt.join (Str.ofString "") ((cs.filter fun c => !isIn c).map Cg.old) = oldR cs := join_filter inn_old
    rw [e]
    exact q _ ((Same.refl H').upd hD)
theorem hv_law_new (T : Txt K mg) : HasV P w K mg base 1 "_law_new" ["_law_changes"] (spRowV newR) := by
  refine hasJV T.d_law_new sc_law_new (fun _ _ _ _ _ _ us hl => L2.usN1 (fun _ => rfl) us hl) ?_ fun f cdv A outer s H vs Q E xh hh hr h => ?_
  · rintro xh vs H Q E ⟨a, us, cs, rfl, _⟩; rfl
  obtain ⟨a, us, cs, rfl, hL, hX, q⟩ := h
  have hu := hr.units0
  have hu64 := hr.units
  refine ⟨_, (jb_one (js_ret (j_meth (K := K) rfl PySem.F.plainAttrs_str PySem.F.slot_str_join PySem.F.type_str_join mt_join j_str (ja_cons ⟨pe_compU (xh := xh) (sub := [none]) (subOk_of (N := ["_law_changes"]) (sc := defScope s_law_new) (N' := ["_law_change"]) (by decide +kernel)) hh rfl rfl (pi_listU (xh := xh) (j_vL 0 k_law_new__law_changes).run) (fun C s₀ H₀ ex => (jg_B 0 (by decide +kernel) nd_law_new_1).run) (fun C s₀ H₀ ex => (jif_one (jt_cmp (op_neE (K := K) rfl hu64) (j_ix (K := K) rfl (j_vBL 0 (by decide +kernel)) j_int) j_str (by first | exact nomark _ | with_unfolding_all rfl))).run) (fun C s₀ H₀ ex => (j_ix (K := K) rfl (j_vBL 0 (by decide +kernel)) (j_un un_neg j_int)).run)⟩ ja_nil)))), ?_⟩
  walk_at "sts"
  refine ⟨rfl, ?_⟩
  walk_at "sts"
  with_reducible refine r_listU ?_
  walk_at "sts"
  refine ⟨a, rfl, ⟨_, SqL.of hL.1⟩, ?_⟩
  have hl := hL.len
  have h48 := hL.2.2.2
  refine comp_listU (xs := us) (fun i ys H' => H' = H ∧ ys = (((cs.take i).filter fun c => !isOut c).map Cg.new).map V.str) (Nat.le_trans (show us.length ≤ 1000 by omega) (by decide)) ⟨rfl, rfl⟩ ?_ ?_ (fun ys H' h => by rw [h.1]; exact hX) ?_ ?_
  · rintro i ys H' ⟨_, rfl⟩
    rw [List.length_map, List.length_map]
    exact Nat.le_trans (List.length_filter_le _ _) (by rw [List.length_take]; omega)
  · rintro i ys H' ⟨rfl, rfl⟩
    exact SqL.of hL.1
  · rintro i ys H' x hx ⟨rfl, rfl⟩
    obtain ⟨c, hc, hd⟩ := DRs_get hL.2.1 hx
    obtain ⟨t, rfl, ht⟩ := DR_cg.mp hd
    have tks := filt_take (p := fun c => !isOut c) hc
    walk_at "sts"
    refine ⟨KeepSt.set rfl, ?_⟩
    walk_at "sts"
    cases c with
    | keep i =>
      refine r_ixT (SqT.of ht) (atI_nat (j := 0) rfl) ?_
      walk_at "sts"
      rw [dKO]
      walk_at "sts"
      refine ⟨rfl, ?_⟩
      rw [tks, List.map_append, List.map_append]; rfl
    | chg i j =>
      refine r_ixT (SqT.of ht) (atI_nat (j := 0) rfl) ?_
      walk_at "sts"
      rw [dCO]
      walk_at "sts"
      refine ⟨rfl, ?_⟩
      rw [tks, List.map_append, List.map_append]; rfl
    | out i =>
      refine r_ixT (SqT.of ht) (atI_nat (j := 0) rfl) ?_
      walk_at "sts"
      rw [dOO]
      walk_at "sts"
      refine ⟨rfl, ?_⟩
      rw [tks, List.map_append, List.map_append]; simp [isOut]
    | inn i =>
      refine r_ixT (SqT.of ht) (atI_nat (j := 0) rfl) ?_
      walk_at "sts"
      rw [dIO]
      walk_at "sts"
      refine ⟨rfl, ?_⟩
      rw [tks, List.map_append, List.map_append]; rfl
  · rintro ys H' ⟨rfl, rfl⟩ D hD
    rw [List.take_of_length_le (by omega)]
    walk_at "sts"
    refine r_join upd_same (filt_le new_le h48) ?_
    have e : Txt.join (Str.ofString "") ((cs.filter fun c => !isOut c).map Cg.new) = newR cs := join_filter out_new
    rw [e]
    exact q _ ((Same.refl H').upd hD)
noncomputable def spUnl : Sp := fun vs H Q _ => ∃ (a : Addr) (us : List V) (cs : List Cg) (b : Addr) (ws : List V) (ds : List Cg), vs = [.ref a, .ref b] ∧ Lcs H a us cs ∧ Lcs H b ws ds ∧ newR cs ≠ oldR ds ∧ ∀ H', Same H H' → Q (.bl true) H'
theorem sc_law_unlike : FnScope ["_law_one", "_law_other", "e"] ["_law_one", "_law_other"] (defScope s_law_unlike) := ⟨rfl, rfl, rfl, by decide +kernel, rfl, by decide +kernel, by decide +kernel⟩
theorem h_law_unlike (T : Txt K mg) : Has P w K mg base 6 "_law_unlike" ["_law_one", "_law_other"] spUnl := by
  have h_after := h_after (P := P) (w := w) (base := base) T
  have h_law_new := h_law_new (P := P) (w := w) (base := base) T
  have h_law_old := h_law_old (P := P) (w := w) (base := base) T
  refine hasJ T.d_law_unlike sc_law_unlike (fun _ _ _ _ _ _ us hl => L2.usN2 (fun _ _ => rfl) us hl) ?_ fun f cdv A outer s H vs Q E hr h => ?_
  · rintro vs H Q E ⟨a, us, cs, b, ws, ds, rfl, _⟩; rfl
  obtain ⟨a, us, cs, b, ws, ds, rfl, hL, hM, ne, q⟩ := h
  have hu := hr.units0
  have hu64 := hr.units
  refine ⟨_, (jb_cons (js_try rfl rfl (fun pins R => (jb_one (js_expr (j_callX h_after (hr.mono (by decide)) (glF k_law_unlike_after) pass_try (ja_cons (j_vL 0 k_law_unlike__law_one) (ja_cons (j_vL 1 k_law_unlike__law_other) ja_nil)) (by decide +kernel))))) (jh_asX (K := K) (i := 2) rfl T.x_Unlike.c (glF k_law_unlike_Unlike) (by decide +kernel) sc_law_unlike.nd rfl k_law_unlike_e (fun x => (jb_one (js_ret (j_and (j_cmp (op_eqE (K := K) rfl hu64) (j_fldX (K := K) rfl (j_vL 2 k_law_unlike_e)) (j_callV (xh := x) rfl (hv_law_new (P := P) (w := w) (base := base) T) (RoomU.of (hr.mono (by decide))) (glF k_law_unlike__law_new) (ja_cons (j_vL 0 k_law_unlike__law_one) ja_nil) (by decide +kernel)) (by first | exact nomark _ | with_unfolding_all rfl)) (j_and (j_cmp (op_eqE (K := K) rfl hu64) (j_fldX (K := K) rfl (j_vL 2 k_law_unlike_e)) (j_callV (xh := x) rfl (hv_law_old (P := P) (w := w) (base := base) T) (RoomU.of (hr.mono (by decide))) (glF k_law_unlike__law_old) (ja_cons (j_vL 1 k_law_unlike__law_other) ja_nil) (by decide +kernel)) (by first | exact nomark _ | with_unfolding_all rfl)) (j_one (j_not (j_callB (call_isiX (K := K) rfl) (glF k_law_unlike_isinstance) T.b_isinstance bt_isinstance (ja_cons (j_vL 2 k_law_unlike_e) (ja_cons (j_tup (ja_cons (j_cls (glF k_law_unlike_TooLong) T.x_TooLong.c.at_ (by decide +kernel)) (ja_cons (j_cls (glF k_law_unlike_NoChanges) T.x_NoChanges.c.at_ (by decide +kernel)) ja_nil))) ja_nil)) (by decide +kernel) (by decide +kernel))))))))) (jh_no (K := K) rfl T.x_PaneError (glF k_law_unlike_PaneError) (by decide +kernel) (fun x => (jb_one (js_ret j_bl))) jh_nil))) (jb_one (js_ret j_bl))), ?_⟩
  walk_at "sts"
  refine ⟨.ref a, .ref b, rfl, .unl a us cs b ws ds rfl rfl hL hM ne (fun e H1 S1 X1 => ?_)⟩
  refine ⟨_, e, rfl, rfl, ?_⟩
  refine r_asX T.x_Unlike.c.cl.cls T.u_Unlike_Unlike.mro ?_
  walk_at "sts"
  refine ⟨e, _, _, .str (newR cs), rfl, X1, T.x_Unlike.c.cl.cls, T.x_Unlike.na _ (by simp), rfl, ?_⟩
  walk_at "sts"
  refine ⟨a, us, cs, rfl, hL.same S1, ⟨_, _, X1⟩, fun H2 S2 => ?_⟩
  walk_at "sts"
  rw [decide_eq_true rfl]
  walk_at "sts"
  refine ⟨e, _, _, .str (oldR ds), rfl, X1.same S2, T.x_Unlike.c.cl.cls, T.x_Unlike.na _ (by simp), rfl, ?_⟩
  walk_at "sts"
  refine ⟨b, ws, ds, rfl, hM.same (S1.trans S2), ⟨_, _, X1.same S2⟩, fun H3 S3 => ?_⟩
  walk_at "sts"
  rw [decide_eq_true rfl]
  walk_at "sts"
  refine r_new rfl fun p np => ?_
  walk_at "sts"
  refine r_isiET ((X1.same (S2.trans S3)).same ((Same.refl H3).upd np)) T.x_Unlike.c.cl upd_same rfl (b := false) (by simp only [PySem.W.kitAny, T.u_Unlike_TooLong.one, T.u_Unlike_NoChanges.one]) ?_
  walk_at "sts"
  exact q _ (((S1.trans S2).trans S3).upd np)
end

section
variable {P : Program} {w : World} {K : PySem.W.Frag} {mg : Str → Option Value} {base : Heap}
theorem nd_law_list_0 : (["_law_letter_here"] : List Str).Nodup := by decide +kernel
theorem k_law_list__law_changes : (defScope s_law_list).names.lookup ("_law_changes" : Str) = some NameKind.local := by decide +kernel
theorem k_law_list__law_at : (defScope s_law_list).names.lookup ("_law_at" : Str) = some NameKind.local := by decide +kernel
theorem k_law_list__law_row_here : (defScope s_law_list).names.lookup ("_law_row_here" : Str) = some NameKind.local := by decide +kernel
theorem k_law_list__law_cells : (defScope s_law_list).names.lookup ("_law_cells" : Str) = some NameKind.local := by decide +kernel
theorem k_law_list__law_cell : (defScope s_law_list).names.lookup ("_law_cell" : Str) = some NameKind.local := by decide +kernel
theorem k_law_list_range : (defScope s_law_list).names.lookup ("range" : Str) = some NameKind.globalImplicit := by decide +kernel
theorem k_law_list__law_k : (defScope s_law_list).names.lookup ("_law_k" : Str) = some NameKind.local := by decide +kernel
theorem k_law_list_len : (defScope s_law_list).names.lookup ("len" : Str) = some NameKind.globalImplicit := by decide +kernel
theorem k_law_list__law_old_here : (defScope s_law_list).names.lookup ("_law_old_here" : Str) = some NameKind.local := by decide +kernel
theorem k_law_list__law_other : (defScope s_law_list).names.lookup ("_law_other" : Str) = some NameKind.local := by decide +kernel
theorem k_law_list__law_letter : (defScope s_law_list).names.lookup ("_law_letter" : Str) = some NameKind.globalImplicit := by decide +kernel
theorem k_law_list_ord : (defScope s_law_list).names.lookup ("ord" : Str) = some NameKind.globalImplicit := by decide +kernel
theorem k_law_list__law_letter_here : (defScope s_law_list).names.lookup ("_law_letter_here" : Str) = some NameKind.local := by decide +kernel
theorem ordA : ((Str.ofString "a").cps.getD 0 0 : Nat) = 97 := by decide +kernel
theorem lc_val : ∀ i, i < 26 → lc i = 97 + i := by
  have : ∀ i ∈ List.range 26, lc i = 97 + i := by decide +kernel
  exact fun i hi => this i (List.mem_range.mpr hi)
structure Lg (H H' : Hp) (f : Addr) (ns : List Nat) (k : Nat) (us : List V) (cs : List Cg) : Prop where
  same : Same H H'
  hf : H' f = some (.lst us)
  dr : DRs H' (cs.map Cg.dat) us
  ok : ∀ c ∈ cs, c.ok
  kl : k ≤ ns.length
  few : cs.length + (ns.length - k) ≤ 48
  old : cs.filterMap Cg.oN = ns.take k
theorem Lg.len {H H' : Hp} {f : Addr} {ns : List Nat} {k : Nat} {us : List V} {cs : List Cg} (h : Lg H H' f ns k us cs) : us.length = cs.length := by
  have := DRs_len h.dr
  rwa [List.length_map] at this
theorem Lg.up {H H' H2 : Hp} {f : Addr} {ns : List Nat} {k : Nat} {us : List V} {cs : List Cg} (h : Lg H H' f ns k us cs) (s : Same H' H2) : Lg H H2 f ns k us cs :=
  ⟨h.same.trans s, s _ _ h.hf, DRs.same s _ _ h.dr, h.ok, h.kl, h.few, h.old⟩
theorem Lg.put {H H' : Hp} {f : Addr} {ns : List Nat} {k k' : Nat} {us : List V} {cs : List Cg} {c : Cg} {u : V} (h : Lg H H' f ns k us cs) (hn : H f = none) (hc : DR H' c.dat u) (ok : c.ok) (kl : k' ≤ ns.length) (few : cs.length + 1 + (ns.length - k') ≤ 48) (old : ns.take k ++ c.oN.toList = ns.take k') :
    Lg H (upd H' f (.lst (us ++ [u]))) f ns k' (us ++ [u]) (cs ++ [c]) := by
  refine ⟨Same.put h.same hn, upd_same, ?_, ?_, kl, by simp; omega, ?_⟩
  · exact DRs_put h.hf (by rw [List.map_append]; exact DRs_append h.dr (DRs_one hc))
  · intro d hd
    rcases List.mem_append.mp hd with hd | hd
    · exact h.ok d hd
    · rw [List.mem_singleton.mp hd]; exact ok
  · rw [List.filterMap_append, h.old, fm_cons]
    simpa using old
theorem SqL.up {H H' : Hp} {a : Addr} {xs : List V} (h : SqL K H a xs) (s : Same H H') : SqL K H' a xs := by
  rcases h with (h | ⟨o, h⟩) | h
  · exact .inl (.inl (s _ _ h))
  · exact .inl (.inr ⟨o, s _ _ h⟩)
  · exact .inr h
noncomputable def spList (K : PySem.W.Frag) : Sp := fun vs H Q _ => ∃ (z : Str) (ns : List Nat) (a : Addr) (cl : List Int), vs = [.str z, .ref a] ∧ RowN z ns ∧ ns.length ≤ 48 ∧ SqL K H a (cl.map V.int) ∧ ∀ q us cs H', Same H H' → Lcs H' q us cs → cs.filterMap Cg.oN = ns → Q (.ref q) H'
theorem sc_law_list : FnScope ["_law_row_here", "_law_cells", "_law_changes", "_law_at", "_law_cell", "_law_k", "_law_letter_here", "_law_old_here", "_law_other"] ["_law_row_here", "_law_cells"] (defScope s_law_list) := ⟨rfl, rfl, rfl, by decide +kernel, rfl, by decide +kernel, by decide +kernel⟩
theorem h_law_list (T : Txt K mg) : Has P w K mg base 2 "_law_list" ["_law_row_here", "_law_cells"] (spList K) := by
  have h_law_letter := h_law_letter (P := P) (w := w) (base := base) T
  refine hasJ T.d_law_list sc_law_list (fun _ _ _ _ _ _ us hl => L2.usN2 (fun _ _ => rfl) us hl) ?_ fun f cdv A outer s H vs Q E hr h => ?_
  · rintro vs H Q E ⟨z, ns, a, cl, rfl, _⟩; rfl
  obtain ⟨z, ns, a, cl, rfl, hR, h48, hS, q⟩ := h
  have hu := hr.units0
  have hu64 := hr.units
  refine ⟨_, (jb_cons (js_set (i := 2) sc_law_list.nd rfl (Or.inl k_law_list__law_changes) (j_lst ja_nil) rfl) (jb_cons (js_set (i := 3) sc_law_list.nd rfl (Or.inl k_law_list__law_at) j_int rfl) (jb_cons (js_for PassesOwn.never rfl (ji_seq (K := K) rfl (j_vL 1 k_law_list__law_cells)) (jg_name (i := 4) sc_law_list.nd rfl (Or.inl k_law_list__law_cell) rfl) (jb_one (js_for PassesOwn.never rfl (ji_range1 (glF k_law_list_range) T.b_range (ja_cons (j_ix (K := K) rfl (j_lst (ja_cons j_int (ja_cons j_int (ja_cons j_int (ja_cons j_int (ja_cons j_int (ja_cons j_int ja_nil))))))) (j_op op_mod (j_op op_fdiv (j_vL 4 k_law_list__law_cell) j_int) j_int)) ja_nil)) (jg_name (i := 5) sc_law_list.nd rfl (Or.inl k_law_list__law_k) rfl) (jb_cons (js_set (i := 6) sc_law_list.nd rfl (Or.inl k_law_list__law_letter_here) (j_call h_law_letter (hr.mono (by decide)) (glF k_law_list__law_letter) (ja_cons (j_op op_addA (j_op op_fdiv (j_vL 4 k_law_list__law_cell) j_int) (j_op op_mulA (j_vL 5 k_law_list__law_k) (j_op op_mod (j_op op_fdiv (j_vL 4 k_law_list__law_cell) j_int) j_int))) ja_nil) (by decide +kernel)) rfl) (jb_one (js_if (jw_pt (jw_and (jt_cmp op_lt (j_op op_mod (j_vL 4 k_law_list__law_cell) j_int) j_int (by first | exact nomark _ | with_unfolding_all rfl)) (jw_and1 (jt_cmp op_lt (j_vL 3 k_law_list__law_at) (j_callB (call_lenK (K := K) rfl) (glF k_law_list_len) T.b_len bt_len (ja_cons (j_vL 0 k_law_list__law_row_here) ja_nil) (by decide +kernel) (by decide +kernel)) (by first | exact nomark _ | with_unfolding_all rfl))))) (jb_cons (js_set (i := 7) sc_law_list.nd rfl (Or.inl k_law_list__law_old_here) (j_ix (K := K) rfl (j_vL 0 k_law_list__law_row_here) (j_vL 3 k_law_list__law_at)) rfl) (jb_cons (js_set (i := 8) sc_law_list.nd rfl (Or.inl k_law_list__law_other) (j_call h_law_letter (hr.mono (by decide)) (glF k_law_list__law_letter) (ja_cons (j_op op_addA (j_op op_addA (j_op op_sub (j_callB call_ord (glF k_law_list_ord) T.b_ord bt_ord (ja_cons (j_vL 7 k_law_list__law_old_here) ja_nil) (by decide +kernel) (by decide +kernel)) (j_callB call_ord (glF k_law_list_ord) T.b_ord bt_ord (ja_cons j_str ja_nil) (by decide +kernel) (by decide +kernel))) j_int) (j_op op_mod (j_op op_fdiv (j_vL 4 k_law_list__law_cell) j_int) j_int)) ja_nil) (by decide +kernel)) rfl) (jb_cons (js_set (i := 3) sc_law_list.nd rfl (Or.inl k_law_list__law_at) (j_op op_addA (j_vL 3 k_law_list__law_at) j_int) rfl) (jb_one (js_expr (j_meth (K := K) rfl PySem.F.plainAttrs_list PySem.F.slot_list_append PySem.F.type_list_append mt_append (j_vL 2 k_law_list__law_changes) (ja_cons (j_ix (K := K) rfl (j_lst (ja_cons (j_tup (ja_cons j_str (ja_cons (j_vL 7 k_law_list__law_old_here) ja_nil))) (ja_cons (j_tup (ja_cons j_str (ja_cons (j_vL 7 k_law_list__law_old_here) (ja_cons (j_vL 8 k_law_list__law_other) ja_nil)))) (ja_cons (j_tup (ja_cons j_str (ja_cons (j_vL 7 k_law_list__law_old_here) ja_nil))) (ja_cons (j_tup (ja_cons j_str (ja_cons (j_vL 7 k_law_list__law_old_here) ja_nil))) ja_nil))))) (j_op op_mod (j_vL 4 k_law_list__law_cell) j_int)) ja_nil))))))) (jb_one (js_if (jt_cmp op_lt (j_op op_sub (j_op op_addA (j_callB (call_lenK (K := K) rfl) (glF k_law_list_len) T.b_len bt_len (ja_cons (j_vL 2 k_law_list__law_changes) ja_nil) (by decide +kernel) (by decide +kernel)) (j_callB (call_lenK (K := K) rfl) (glF k_law_list_len) T.b_len bt_len (ja_cons (j_vL 0 k_law_list__law_row_here) ja_nil) (by decide +kernel) (by decide +kernel))) (j_vL 3 k_law_list__law_at)) j_int (by first | exact nomark _ | with_unfolding_all rfl)) (jb_one (js_expr (j_meth (K := K) rfl PySem.F.plainAttrs_list PySem.F.slot_list_append PySem.F.type_list_append mt_append (j_vL 2 k_law_list__law_changes) (ja_cons (j_tup (ja_cons j_str (ja_cons (j_vL 6 k_law_list__law_letter_here) ja_nil))) ja_nil)))) jb_nil)))))))) (jb_one (js_ret (j_op op_addA (j_vL 2 k_law_list__law_changes) (j_comp (sub := [none]) (subOk_of (N := ["_law_row_here", "_law_cells", "_law_changes", "_law_at", "_law_cell", "_law_k", "_law_letter_here", "_law_old_here", "_law_other"]) (sc := defScope s_law_list) (N' := ["_law_letter_here"]) (by decide +kernel)) rfl rfl rfl (ji_seq (K := K) rfl (j_slice (sl_seqK (K := K) rfl) (j_vL 0 k_law_list__law_row_here) (jo_some (j_vL 3 k_law_list__law_at)) jo_none)) (fun C s₀ H₀ ex => (jg_B 0 (by decide +kernel) nd_law_list_0)) (fun C s₀ H₀ ex => jif_nil) (fun C s₀ H₀ ex => (j_tup (ja_cons j_str (ja_cons (j_vBL 0 (by decide +kernel)) ja_nil))))))))))), ?_⟩
  walk_at "sts"
  have s1000 : 1000 ≤ sizeLine := by decide
  have hzl := hR.len
  refine r_new rfl fun f nf => ?_
  walk_at "sts"
  have hS0 : ∀ {H' : Hp}, Same H H' → SqL K H' a (cl.map V.int) := fun s => SqL.up hS s
  refine .inl ⟨a, rfl, ⟨_, hS0 ((Same.refl H).upd nf)⟩, ?_⟩
  refine for_list (xs := cl.map V.int) (fun i σ H' => ∃ (k : Nat) (us : List V) (cs : List Cg) (x4 x5 x6 x7 x8 : Option V), σ = [some (.str z), some (.ref a), some (.ref f), some (.int k), x4, x5, x6, x7, x8] ∧ Lg H H' f ns k us cs)
    ⟨0, [], [], _, _, _, _, _, rfl, (Same.refl H).upd nf, upd_same, DRs_nil.mpr rfl, (fun c h => by cases h), Nat.zero_le _, by simp; omega, rfl⟩ (fun i σ H' _ h => by obtain ⟨_, _, _, _, _, _, _, _, _, g⟩ := h; exact hS0 g.same) ?_ ?_
  · rintro i v σ H' hv ⟨k, us, cs, x4, x5, x6, x7, x8, rfl, hG⟩
    rw [List.getElem?_map] at hv
    obtain ⟨c, hc, rfl⟩ : ∃ c, cl[i]? = some c ∧ v = V.int c := by
      cases e : cl[i]? with
      | none => rw [e] at hv; cases hv
      | some y => rw [e] at hv; exact ⟨y, rfl, (Option.some.inj hv).symm⟩
    walk_at "sts"
    refine r_new rfl fun m nm => ?_
    walk_at "sts"
    obtain ⟨n, hn9, hat⟩ : ∃ n : Nat, n ≤ 9 ∧ atI [V.int 1, V.int 1, V.int 1, V.int 1, V.int 2, V.int 9] (c / 6 % 6) = some (.int n) := by
      have : c / 6 % 6 = 0 ∨ c / 6 % 6 = 1 ∨ c / 6 % 6 = 2 ∨ c / 6 % 6 = 3 ∨ c / 6 % 6 = 4 ∨ c / 6 % 6 = 5 := by omega
      rcases this with h | h | h | h | h | h <;> rw [h]
      · exact ⟨1, by omega, rfl⟩
      · exact ⟨1, by omega, rfl⟩
      · exact ⟨1, by omega, rfl⟩
      · exact ⟨1, by omega, rfl⟩
      · exact ⟨2, by omega, rfl⟩
      · exact ⟨9, by omega, rfl⟩
    refine r_ixL (SqL.of upd_same) hat ?_
    walk_at "sts"
    refine ⟨n, rfl, by omega, by omega, ?_⟩
    refine for_range (lo := 0) (n := n) (fun _ σ H' => ∃ (k : Nat) (us : List V) (cs : List Cg) (x5 x6 x7 x8 : Option V), σ = [some (.str z), some (.ref a), some (.ref f), some (.int k), some (.int c), x5, x6, x7, x8] ∧ Lg H H' f ns k us cs)
      ⟨k, us, cs, _, _, _, _, rfl, hG.up ((Same.refl H').upd nm)⟩ ?_ ?_
    · rintro j σ H2 hj ⟨k, us, cs, x5, x6, x7, x8, rfl, hG⟩
      have hlu := hG.len
      have hfew := hG.few
      have hkl := hG.kl
      walk_at "sts"
      refine ⟨_, rfl, ?_⟩
      walk_at "sts"
      obtain ⟨lt, elt⟩ : ∃ lt, (c / 36 + (0 + (j : Int)) * (c / 936 % 3)) % 26 = lt := ⟨_, rfl⟩
      have hlt26 : 0 ≤ lt ∧ lt < 26 := by rw [← elt]; exact ⟨Int.emod_nonneg _ (by decide), Int.emod_lt_of_pos _ (by decide)⟩
      rw [elt]
      walk_at "sts"
      refine iteD (fun h4 => ?_) (fun h4 => ?_)
      · walk_at "sts"
        refine r_lenS (by omega) ?_
        walk_at "sts"
        refine iteD (fun h5 => ?_) (fun h5 => ?_)
        · obtain ⟨i0, hi0⟩ : ∃ i0, ns[k]? = some i0 := ⟨_, List.getElem?_eq_getElem (by omega)⟩
          have hlt0 := hR.2 i0 (List.mem_of_getElem? hi0)
          have hzk : z.cps.toList[k]? = some (lc i0) := by rw [hR.1, List.getElem?_map, hi0]; rfl
          walk_at "sts"
          refine r_ixS (by omega) (atI_nat (j := k) hzk) ?_
          walk_at "sts"
          refine ⟨rfl, ?_⟩
          walk_at "sts"
          refine ⟨by decide +kernel, ?_⟩
          walk_at "sts"
          refine ⟨_, rfl, ?_⟩
          walk_at "sts"
          have eo : (((((⟨#[lc i0]⟩ : Str).cps.getD 0 0 : Nat) : Int) - (((Str.ofString "a").cps.getD 0 0 : Nat) : Int) + 1 + c / 36 % 25) % 26).toNat = (((i0 : Int) + 1 + c / 36 % 25) % 26).toNat := by
            rw [ordA]
            show ((((lc i0 : Nat) : Int) - (97 : Nat) + 1 + c / 36 % 25) % 26).toNat = _
            rw [lc_val i0 hlt0]
            omega
          rw [eo]
          obtain ⟨j0, hj0, ej⟩ : ∃ j0, j0 < 26 ∧ (((i0 : Int) + 1 + c / 36 % 25) % 26).toNat = j0 := ⟨_, by omega, rfl⟩
          have nij : i0 ≠ j0 := by omega
          rw [ej]
          refine ⟨.inl ⟨rfl, _, SqL.of hG.hf⟩, ?_⟩
          walk_at "sts"
          refine r_new rfl fun t1 n1 => ?_
          walk_at "sts"
          refine r_new rfl fun t2 n2 => ?_
          walk_at "sts"
          refine r_new rfl fun t3 n3 => ?_
          walk_at "sts"
          refine r_new rfl fun t4 n4 => ?_
          walk_at "sts"
          refine r_new rfl fun m2 nm2 => ?_
          walk_at "sts"
          have SS : Same H2 (upd (upd (upd (upd (upd H2 t1 (.tup [.str (Str.ofString "keep"), .str (lS i0)])) t2 (.tup [.str (Str.ofString "change"), .str (lS i0), .str (lS j0)])) t3 (.tup [.str (Str.ofString "out"), .str (lS i0)])) t4 (.tup [.str (Str.ofString "out"), .str (lS i0)])) m2 (.lst [.ref t1, .ref t2, .ref t3, .ref t4])) := (((((Same.refl H2).upd n1).upd n2).upd n3).upd n4).upd nm2
          obtain ⟨d, tv, dok, dold, ddat, hat2⟩ : ∃ (d : Cg) (tv : V), d.ok ∧ d.oN = some i0 ∧ DR (upd (upd (upd (upd (upd H2 t1 (.tup [.str (Str.ofString "keep"), .str (lS i0)])) t2 (.tup [.str (Str.ofString "change"), .str (lS i0), .str (lS j0)])) t3 (.tup [.str (Str.ofString "out"), .str (lS i0)])) t4 (.tup [.str (Str.ofString "out"), .str (lS i0)])) m2 (.lst [.ref t1, .ref t2, .ref t3, .ref t4])) d.dat tv ∧ atI [V.ref t1, V.ref t2, V.ref t3, V.ref t4] (c % 6) = some tv := by
            have hc4 : c % 6 = 0 ∨ c % 6 = 1 ∨ c % 6 = 2 ∨ c % 6 = 3 := by omega
            rcases hc4 with h | h | h | h <;> rw [h]
            · exact ⟨.keep i0, _, hlt0, rfl, DR_cg.mpr ⟨t1, rfl, upd_old nm2 (upd_old n4 (upd_old n3 (upd_old n2 upd_same)))⟩, rfl⟩
            · exact ⟨.chg i0 j0, _, ⟨hlt0, hj0, nij⟩, rfl, DR_cg.mpr ⟨t2, rfl, upd_old nm2 (upd_old n4 (upd_old n3 upd_same))⟩, rfl⟩
            · exact ⟨.out i0, _, hlt0, rfl, DR_cg.mpr ⟨t3, rfl, upd_old nm2 (upd_old n4 upd_same)⟩, rfl⟩
            · exact ⟨.out i0, _, hlt0, rfl, DR_cg.mpr ⟨t4, rfl, upd_old nm2 upd_same⟩, rfl⟩
          refine r_ixL (SqL.of upd_same) hat2 ?_
          walk_at "sts"
          refine r_append (SS _ _ hG.hf) (by omega) ?_
          walk_at "sts"
          refine ⟨k + 1, _, _, _, _, _, _, rfl, (hG.up SS).put nf ddat dok (by omega) (by omega) ?_⟩
          rw [dold, List.take_add_one, hi0]
        · with_reducible refine r_if ?_
          walk_at "sts"
          refine r_lenL (SqL.of hG.hf) ?_
          walk_at "sts"
          refine r_lenS (by omega) ?_
          walk_at "sts"
          refine iteD (fun h6 => ?_) (fun h6 => ?_)
          · walk_at "sts"
            refine ⟨.inl ⟨rfl, _, SqL.of hG.hf⟩, ?_⟩
            walk_at "sts"
            refine r_new rfl fun t nt => ?_
            walk_at "sts"
            refine r_append (upd_old nt hG.hf) (by omega) ?_
            walk_at "sts"
            refine ⟨k, _, _, _, _, _, _, rfl, (hG.up ((Same.refl H2).upd nt)).put (c := .inn lt.toNat) nf (DR_cg.mpr ⟨t, rfl, upd_same⟩) (show lt.toNat < 26 by omega) hkl (by omega) (by simp [Cg.oN])⟩
          · walk_at "sts"
            exact ⟨k, us, cs, _, _, _, _, rfl, hG⟩
      · with_reducible try refine r_if ?_
        walk_at "sts"
        refine r_lenL (SqL.of hG.hf) ?_
        walk_at "sts"
        refine r_lenS (by omega) ?_
        walk_at "sts"
        refine iteD (fun h6 => ?_) (fun h6 => ?_)
        · walk_at "sts"
          refine ⟨.inl ⟨rfl, _, SqL.of hG.hf⟩, ?_⟩
          walk_at "sts"
          refine r_new rfl fun t nt => ?_
          walk_at "sts"
          refine r_append (upd_old nt hG.hf) (by omega) ?_
          walk_at "sts"
          refine ⟨k, _, _, _, _, _, _, rfl, (hG.up ((Same.refl H2).upd nt)).put (c := .inn lt.toNat) nf (DR_cg.mpr ⟨t, rfl, upd_same⟩) (show lt.toNat < 26 by omega) hkl (by omega) (by simp [Cg.oN])⟩
        · walk_at "sts"
          exact ⟨k, us, cs, _, _, _, _, rfl, hG⟩
    · rintro σ H2 ⟨k, us, cs, x5, x6, x7, x8, rfl, hG⟩
      exact ⟨k, us, cs, _, _, _, _, _, rfl, hG⟩
  · rintro σ H' ⟨k, us, cs, x4, x5, x6, x7, x8, rfl, hG⟩
    have hlu := hG.len
    have hfew := hG.few
    have hkl := hG.kl
    have l1 := Txt.slice_le z (some (k : Int)) none
    walk_at "sts"
    refine r_slS (by omega) ?_
    walk_at "sts"
    refine .inr (.inr ⟨_, rfl, ?_⟩)
    have hsl : (Txt.slice z (some (k : Int)) none).cps.toList = (ns.drop k).map lc := by rw [slice_from, hR.1, List.map_drop]
    have hsz : (Txt.slice z (some (k : Int)) none).cps.size = ns.length - k := by
      have := congrArg List.length hsl
      simpa using this
    refine comp_str (fun i ys H2 => Same H' H2 ∧ ys.length = i ∧ DRs H2 ((((ns.drop k).take i).map Cg.keep).map Cg.dat) ys) (by omega) ⟨Same.refl _, rfl, DRs_nil.mpr rfl⟩ ?_ ?_ ?_
    · rintro i ys H2 ⟨_, h, _⟩
      omega
    · rintro i ys H2 c hc ⟨s, hy, hD⟩
      rw [hsl, List.getElem?_map] at hc
      obtain ⟨i0, hi0, ec⟩ : ∃ i0, (ns.drop k)[i]? = some i0 ∧ c = lc i0 := by
        cases e : (ns.drop k)[i]? with
        | none => rw [e] at hc; cases hc
        | some y => rw [e] at hc; exact ⟨y, rfl, (Option.some.inj hc).symm⟩
      subst ec
      walk_at "sts"
      refine ⟨KeepSt.set rfl, ?_⟩
      walk_at "sts"
      refine r_new rfl fun t nt => ?_
      refine ⟨s.upd nt, by simp; omega, ?_⟩
      rw [List.take_add_one, hi0, List.map_append, List.map_append]
      exact DRs_append (DRs.same ((Same.refl H2).upd nt) _ _ hD) (DRs_one (DR_cg.mpr ⟨t, rfl, upd_same⟩))
    · rintro ys H2 ⟨s, hy, hD⟩ D nD
      rw [hsz] at hD hy
      rw [List.take_of_length_le (by simp)] at hD
      walk_at "sts"
      refine r_addL (upd_old nD (s _ _ hG.hf)) upd_same (by omega) fun p np => ?_
      have sF : Same H2 (upd (upd H2 D (.lst ys)) p (.lst (us ++ ys))) := ((Same.refl H2).upd nD).upd np
      refine q p _ (cs ++ (ns.drop k).map Cg.keep) _ ((hG.same.trans s).trans sF) ⟨upd_same, ?_, ?_, ?_⟩ ?_
      · rw [List.map_append]
        exact DRs_append (DRs.same (s.trans sF) _ _ hG.dr) (DRs.same sF _ _ hD)
      · intro c hc
        rcases List.mem_append.mp hc with hc | hc
        · exact hG.ok c hc
        · obtain ⟨i, hi, rfl⟩ := List.mem_map.mp hc
          exact hR.2 i (List.mem_of_mem_drop hi)
      · simp; omega
      · rw [List.filterMap_append, hG.old]
        have : ((ns.drop k).map Cg.keep).filterMap Cg.oN = ns.drop k := by
          generalize ns.drop k = l
          induction l with
          | nil => rfl
          | cons x l ih => rw [List.map_cons, fm_cons, ih]; rfl
        rw [this, List.take_append_drop]
end

section
variable {P : Program} {w : World} {K : PySem.W.Frag} {mg : Str → Option Value} {base : Heap}
theorem k_law_split__law_met_here : (defScope s_law_split).names.lookup ("_law_met_here" : Str) = some NameKind.local := by decide +kernel
theorem k_law_split__law_gaps : (defScope s_law_split).names.lookup ("_law_gaps" : Str) = some NameKind.local := by decide +kernel
theorem k_law_split__law_changes : (defScope s_law_split).names.lookup ("_law_changes" : Str) = some NameKind.local := by decide +kernel
theorem k_law_split__law_change : (defScope s_law_split).names.lookup ("_law_change" : Str) = some NameKind.local := by decide +kernel
theorem k_law_split__law_beside : (defScope s_law_split).names.lookup ("_law_beside" : Str) = some NameKind.local := by decide +kernel
theorem k_law_met__law_taker : (defScope s_law_met).names.lookup ("_law_taker" : Str) = some NameKind.local := by decide +kernel
theorem k_law_met__law_maker : (defScope s_law_met).names.lookup ("_law_maker" : Str) = some NameKind.local := by decide +kernel
theorem Gs.off {H H' : Hp} {g b : Addr} {rs : List Addr} {G : List (List Cg)} {o : HO} (h : Gs H H' g rs G) (hb : b ≠ g) (hn : b ∉ rs) : Gs H (upd H' b o) g rs G :=
  ⟨by rw [upd_ne (Ne.symm hb)]; exact h.gh, h.gn, h.nd, h.len, fun i r e => by
    obtain ⟨a, b1, l, ws, c, d, f⟩ := h.ix i r e
    have : r ≠ b := fun z => hn (by rw [← z]; exact List.mem_of_getElem? e)
    exact ⟨a, b1, l, ws, c, by rw [upd_ne this]; exact d, f⟩⟩
noncomputable def spSplit : Sp := fun vs H Q _ => ∃ (a : Addr) (us : List V) (cs : List Cg) (s : Str) (p : Cg → Bool), vs = [.ref a, .str s] ∧ Wd s p ∧ Lcs H a us cs ∧
  ∀ T g b ws H', Same H H' → H' T = some (.tup [.ref g, .ref b]) → DR H' (dG (grp p cs)) (.ref g) → H' b = some (.lst ws) → DRs H' ((bnd p cs).map Cg.dat) ws → Q (.ref T) H'
theorem sc_law_split : FnScope ["_law_changes", "_law_beside", "_law_gaps", "_law_met_here", "_law_change"] ["_law_changes", "_law_beside"] (defScope s_law_split) := ⟨rfl, rfl, rfl, by decide +kernel, rfl, by decide +kernel, by decide +kernel⟩
theorem h_law_split (T : Txt K mg) : Has P w K mg base 1 "_law_split" ["_law_changes", "_law_beside"] spSplit := by
  refine hasJ T.d_law_split sc_law_split (fun _ _ _ _ _ _ us hl => L2.usN2 (fun _ _ => rfl) us hl) ?_ fun f cdv A outer s H vs Q E hr h => ?_
  · rintro vs H Q E ⟨a, us, cs, s0, p, rfl, _⟩; rfl
  obtain ⟨a, us, cs, s0, p, rfl, hW, hL, q⟩ := h
  have hu := hr.units0
  have hu64 := hr.units
  refine ⟨_, (jb_cons (js_set (i := 2) sc_law_split.nd rfl (Or.inl k_law_split__law_gaps) (j_lst (ja_cons (j_lst ja_nil) ja_nil)) rfl) (jb_cons (js_set (i := 3) sc_law_split.nd rfl (Or.inl k_law_split__law_met_here) (j_lst ja_nil) rfl) (jb_cons (js_for PassesOwn.never rfl (ji_seq (K := K) rfl (j_vL 0 k_law_split__law_changes)) (jg_name (i := 4) sc_law_split.nd rfl (Or.inl k_law_split__law_change) rfl) (jb_one (js_if (jt_cmp (op_eqE (K := K) rfl hu64) (j_ix (K := K) rfl (j_vL 4 k_law_split__law_change) j_int) (j_vL 1 k_law_split__law_beside) (by first | exact nomark _ | with_unfolding_all rfl)) (jb_one (js_expr (j_meth (K := K) rfl PySem.F.plainAttrs_list PySem.F.slot_list_append PySem.F.type_list_append mt_append (j_ix (K := K) rfl (j_vL 2 k_law_split__law_gaps) (j_un un_neg j_int)) (ja_cons (j_vL 4 k_law_split__law_change) ja_nil)))) (jb_cons (js_expr (j_meth (K := K) rfl PySem.F.plainAttrs_list PySem.F.slot_list_append PySem.F.type_list_append mt_append (j_vL 3 k_law_split__law_met_here) (ja_cons (j_vL 4 k_law_split__law_change) ja_nil))) (jb_one (js_expr (j_meth (K := K) rfl PySem.F.plainAttrs_list PySem.F.slot_list_append PySem.F.type_list_append mt_append (j_vL 2 k_law_split__law_gaps) (ja_cons (j_lst ja_nil) ja_nil)))))))) (jb_one (js_ret (j_tup (ja_cons (j_vL 2 k_law_split__law_gaps) (ja_cons (j_vL 3 k_law_split__law_met_here) ja_nil)))))))), ?_⟩
  walk_at "sts"
  refine r_new rfl fun r nr => ?_
  walk_at "sts"
  refine r_new rfl fun g ng => ?_
  walk_at "sts"
  refine r_new rfl fun b nb => ?_
  walk_at "sts"
  have hl := hL.len
  have h48 := hL.2.2.2
  have S0 : Same H (upd (upd H r (.lst [])) g (.lst [.ref r])) := ((Same.refl H).upd nr).upd ng
  have hg0 : H g = none := Same.back ((Same.refl H).upd nr) ng
  have hb0 : H b = none := Same.back S0 nb
  have neg : r ≠ g := fun z => by rw [← z, upd_same] at ng; cases ng
  have nbg : b ≠ g := fun z => by rw [z, upd_same] at nb; cases nb
  have nbr : b ≠ r := fun z => by rw [z, upd_old ng upd_same] at nb; cases nb
  have s1000 : 1000 ≤ sizeLine := by decide
  refine .inl ⟨a, rfl, ⟨_, SqL.of ((S0.upd nb) _ _ hL.1)⟩, ?_⟩
  refine for_list (xs := us) (fun i σ H' => ∃ (x : Option V) (rs : List Addr) (r : Addr) (gs : List (List Cg)) (l : List Cg) (ws : List V), σ = [some (.ref a), some (.str s0), some (.ref g), some (.ref b), x] ∧ Same H H' ∧ grp p (cs.take i) = gs ++ [l] ∧ Gs H H' g (rs ++ [r]) (gs ++ [l]) ∧ rs.length ≤ i ∧
      b ∉ rs ++ [r] ∧ H' b = some (.lst ws) ∧ ws.length ≤ i ∧ DRs H ((bnd p (cs.take i)).map Cg.dat) ws)
    ⟨none, [], r, [], [], [], rfl, S0.upd nb, rfl, (Gs.one S0 hg0 nr neg (upd_old ng upd_same) upd_same).same ((Same.refl _).upd nb), Nat.le_refl _, by simpa using nbr, upd_same, Nat.le_refl _, DRs_nil.mpr rfl⟩ (fun i σ H' _ h => by obtain ⟨_, _, _, _, _, _, _, s, _⟩ := h; exact SqL.of (s _ _ hL.1)) ?_ ?_
  · rintro i u σ H' hu ⟨x, rs, r, gs, l, ws, rfl, s, hG, hS, hrs, hnb, hb, hlb, hD⟩
    obtain ⟨c, hc, hd⟩ := DRs_get hL.2.1 hu
    obtain ⟨t, rfl, ht⟩ := DR_cg.mp hd
    have htk : cs.take (i + 1) = cs.take i ++ [c] := by rw [List.take_add_one, hc]; rfl
    have hi : i < 48 := by have := (List.getElem?_eq_some_iff.mp hc).1; omega
    obtain ⟨n1, n2, l', w1, c1, hr, hw⟩ := hS.ix rs.length r (by simp)
    have tks := filt_take (p := fun c => !p c) hc
    walk_at "sts"
    refine r_ixT (SqT.of (s _ _ ht)) (atI_nat (j := 0) (hd_at c)) ?_
    walk_at "sts"
    rw [hW c]
    cases hp : p c with
    | true =>
      walk_at "sts"
      have hgh : H' g = some (.lst (rs.map V.ref ++ [.ref r])) := by rw [hS.gh, List.map_append]; rfl
      refine r_ixL (SqL.of hgh) (atI_last _ _) ?_
      walk_at "sts"
      refine ⟨.inl ⟨rfl, _, SqL.of hr⟩, ?_⟩
      walk_at "sts"
      have hlw : w1.length ≤ 48 := by
        have e1 : l' = l := by
          have ll : rs.length = gs.length := by have := hS.len; simpa using this
          rw [ll] at c1
          simpa using c1.symm
        have e2 := DRs_len hw
        rw [List.length_map, e1] at e2
        have e3 := grp_sum p (cs.take i)
        rw [hG] at e3
        simp at e3
        omega
      refine r_append hr (by omega) ?_
      walk_at "sts"
      have nr : b ≠ r := fun z => hnb (by rw [z]; simp)
      refine ⟨_, rs, r, gs, l ++ [c], ws, rfl, Same.put s n2, ?_, hS.put hr hd, by omega, hnb, by rw [upd_ne nr]; exact hb, by omega, ?_⟩
      · rw [htk]
        exact grp_in hp hG
      · unfold bnd at hD ⊢
        rw [tks, if_neg (by simp [hp]), List.append_nil]
        exact hD
    | false =>
      walk_at "sts"
      refine ⟨.inl ⟨rfl, _, SqL.of hb⟩, ?_⟩
      walk_at "sts"
      refine r_append hb (by omega) ?_
      walk_at "sts"
      have hS2 := hS.off (o := .lst (ws ++ [.ref t])) nbg hnb
      have s2 : Same H (upd H' b (.lst (ws ++ [.ref t]))) := Same.put s hb0
      have hb2 : upd H' b (.lst (ws ++ [.ref t])) b = some (.lst (ws ++ [.ref t])) := upd_same
      generalize upd H' b (.lst (ws ++ [.ref t])) = H2 at hS2 s2 hb2 ⊢
      refine ⟨.inl ⟨rfl, _, SqL.of hS2.gh⟩, ?_⟩
      walk_at "sts"
      refine r_new rfl fun m nm => ?_
      walk_at "sts"
      refine r_append (upd_old nm hS2.gh) (by simp; omega) ?_
      walk_at "sts"
      have nbm : m ≠ b := fun z => by rw [z, hb2] at nm; cases nm
      refine ⟨_, rs ++ [r], m, gs ++ [l], [], ws ++ [.ref t], rfl, Same.put (s2.upd nm) hS2.gn, ?_, hS2.more s2 nm, by simp; omega, ?_, ?_, by simp; omega, ?_⟩
      · rw [htk, grp_out hp, hG]
      · intro z
        rcases List.mem_append.mp z with z | z
        · exact hnb z
        · exact nbm (List.mem_singleton.mp z).symm
      · rw [upd_ne nbg]; exact upd_old nm hb2
      · unfold bnd at hD ⊢
        rw [tks, if_pos (by simp [hp]), List.map_append]
        exact DRs_append hD (DRs_one hd)
  · rintro σ H' ⟨x, rs, r, gs, l, ws, rfl, s, hG, hS, hrs, hnb, hb, hlb, hD⟩
    rw [hl, List.take_length] at hG hD
    walk_at "sts"
    refine r_new rfl fun T nT => ?_
    have sT : Same H' (upd H' T (.tup [.ref g, .ref b])) := (Same.refl H').upd nT
    refine q T g b ws _ (s.trans sT) upd_same ?_ (sT _ _ hb) (DRs.same (s.trans sT) _ _ hD)
    rw [hG]
    exact DR.same sT _ _ (hS.dr s)
noncomputable def spMetL : Sp := fun vs H Q _ => ∃ (u v : V) (m t : Cg), vs = [u, v] ∧ DR H m.dat u ∧ DR H t.dat v ∧ m.ok ∧ t.ok ∧ isOut m = false ∧ isIn t = false ∧ ∀ g ws H', Same H H' → H' g = some (.lst ws) → DRs H' ((met m t).map Cg.dat) ws → Q (.ref g) H'
theorem mkOne {H : Hp} {Q : VK} {c : Cg} {m t : Cg} (e : met m t = [c]) (q : ∀ g ws H', Same H H' → H' g = some (.lst ws) → DRs H' ((met m t).map Cg.dat) ws → Q (.ref g) H') {a : Addr} (na : H a = none) {g : Addr} (ng : upd H a (.tup (c.ss.map V.str)) g = none) : Q (.ref g) (upd (upd H a (.tup (c.ss.map V.str))) g (.lst [.ref a])) := by
  refine q g _ _ (((Same.refl H).upd na).upd ng) upd_same ?_
  rw [e]
  exact DRs_one (DR_cg.mpr ⟨a, rfl, upd_old ng upd_same⟩)
theorem sc_law_met : FnScope ["_law_maker", "_law_taker"] ["_law_maker", "_law_taker"] (defScope s_law_met) := ⟨rfl, rfl, rfl, by decide +kernel, rfl, by decide +kernel, by decide +kernel⟩
theorem h_law_met (T : Txt K mg) : Has P w K mg base 1 "_law_met" ["_law_maker", "_law_taker"] spMetL := by
  refine hasJ T.d_law_met sc_law_met (fun _ _ _ _ _ _ us hl => L2.usN2 (fun _ _ => rfl) us hl) ?_ fun f cdv A outer s H vs Q E hr h => ?_
  · rintro vs H Q E ⟨u, v, m, t, rfl, _⟩; rfl
  obtain ⟨u, v, m, t, rfl, hm0, ht0, om, ot, nm, nt, q⟩ := h
  have hu := hr.units0
  have hu64 := hr.units
  refine ⟨_, (jb_cons (js_if (jw_pt (jw_and (jt_cmp (op_eqE (K := K) rfl hu64) (j_ix (K := K) rfl (j_vL 0 k_law_met__law_maker) j_int) j_str (by first | exact nomark _ | with_unfolding_all rfl)) (jw_and1 (jt_cmp (op_eqE (K := K) rfl hu64) (j_ix (K := K) rfl (j_vL 1 k_law_met__law_taker) j_int) j_str (by first | exact nomark _ | with_unfolding_all rfl))))) (jb_one (js_ret (j_lst ja_nil))) jb_nil) (jb_cons (js_if (jt_cmp (op_eqE (K := K) rfl hu64) (j_ix (K := K) rfl (j_vL 0 k_law_met__law_maker) j_int) j_str (by first | exact nomark _ | with_unfolding_all rfl)) (jb_one (js_ret (j_lst (ja_cons (j_tup (ja_cons j_str (ja_cons (j_ix (K := K) rfl (j_vL 1 k_law_met__law_taker) (j_un un_neg j_int)) ja_nil))) ja_nil)))) jb_nil) (jb_cons (js_if (jt_cmp (op_eqE (K := K) rfl hu64) (j_ix (K := K) rfl (j_vL 1 k_law_met__law_taker) j_int) j_str (by first | exact nomark _ | with_unfolding_all rfl)) (jb_one (js_ret (j_lst (ja_cons (j_tup (ja_cons j_str (ja_cons (j_ix (K := K) rfl (j_vL 0 k_law_met__law_maker) j_int) ja_nil))) ja_nil)))) jb_nil) (jb_cons (js_if (jt_cmp (op_eqE (K := K) rfl hu64) (j_ix (K := K) rfl (j_vL 0 k_law_met__law_maker) j_int) (j_ix (K := K) rfl (j_vL 1 k_law_met__law_taker) (j_un un_neg j_int)) (by first | exact nomark _ | with_unfolding_all rfl)) (jb_one (js_ret (j_lst (ja_cons (j_tup (ja_cons j_str (ja_cons (j_ix (K := K) rfl (j_vL 0 k_law_met__law_maker) j_int) ja_nil))) ja_nil)))) jb_nil) (jb_one (js_ret (j_lst (ja_cons (j_tup (ja_cons j_str (ja_cons (j_ix (K := K) rfl (j_vL 0 k_law_met__law_maker) j_int) (ja_cons (j_ix (K := K) rfl (j_vL 1 k_law_met__law_taker) (j_un un_neg j_int)) ja_nil)))) ja_nil)))))))), ?_⟩
  walk_at "sts"
  obtain ⟨am, rfl, hm⟩ := DR_cg.mp hm0
  obtain ⟨at', rfl, ht⟩ := DR_cg.mp ht0
  cases m with
  | keep i1 =>
    cases t with
    | keep j1 =>
      try with_reducible refine r_ixT (SqT.of hm) (atI_nat (j := 0) rfl) ?_
      walk_at "sts"
      rw [dKI]
      walk_at "sts"
      try with_reducible refine r_ixT (SqT.of hm) (atI_nat (j := 0) rfl) ?_
      walk_at "sts"
      rw [dKI]
      walk_at "sts"
      try with_reducible refine r_ixT (SqT.of ht) (atI_nat (j := 0) rfl) ?_
      walk_at "sts"
      rw [dKO]
      walk_at "sts"
      try with_reducible refine r_ixT (SqT.of hm) (atI_nat (j := 1) rfl) ?_
      walk_at "sts"
      try with_reducible refine r_ixT (SqT.of ht) (v := .str (lS j1)) rfl ?_
      walk_at "sts"
      by_cases e : i1 = j1
      · rw [decide_eq_true (congrArg (fun i => V.str (lS i)) e)]
        walk_at "sts"
        try with_reducible refine r_ixT (SqT.of hm) (atI_nat (j := 1) rfl) ?_
        walk_at "sts"
        refine r_new rfl fun a na => ?_
        walk_at "sts"
        exact r_new rfl fun g ng => mkOne (c := .keep i1) (by show [if i1 = j1 then Cg.keep i1 else _] = _; rw [if_pos e]) q na ng
      · rw [decide_eq_false (fun z => e (lS_inj _ _ om ot (V.str.inj z)))]
        walk_at "sts"
        try with_reducible refine r_ixT (SqT.of hm) (atI_nat (j := 1) rfl) ?_
        walk_at "sts"
        try with_reducible refine r_ixT (SqT.of ht) (v := .str (lS j1)) rfl ?_
        walk_at "sts"
        refine r_new rfl fun a na => ?_
        walk_at "sts"
        exact r_new rfl fun g ng => mkOne (c := .chg i1 j1) (by show [if i1 = j1 then Cg.keep i1 else _] = _; rw [if_neg e]) q na ng
    | chg j1 j2 =>
      try with_reducible refine r_ixT (SqT.of hm) (atI_nat (j := 0) rfl) ?_
      walk_at "sts"
      rw [dKI]
      walk_at "sts"
      try with_reducible refine r_ixT (SqT.of hm) (atI_nat (j := 0) rfl) ?_
      walk_at "sts"
      rw [dKI]
      walk_at "sts"
      try with_reducible refine r_ixT (SqT.of ht) (atI_nat (j := 0) rfl) ?_
      walk_at "sts"
      rw [dCO]
      walk_at "sts"
      try with_reducible refine r_ixT (SqT.of hm) (atI_nat (j := 1) rfl) ?_
      walk_at "sts"
      try with_reducible refine r_ixT (SqT.of ht) (v := .str (lS j2)) rfl ?_
      walk_at "sts"
      by_cases e : i1 = j2
      · rw [decide_eq_true (congrArg (fun i => V.str (lS i)) e)]
        walk_at "sts"
        try with_reducible refine r_ixT (SqT.of hm) (atI_nat (j := 1) rfl) ?_
        walk_at "sts"
        refine r_new rfl fun a na => ?_
        walk_at "sts"
        exact r_new rfl fun g ng => mkOne (c := .keep i1) (by show [if i1 = j2 then Cg.keep i1 else _] = _; rw [if_pos e]) q na ng
      · rw [decide_eq_false (fun z => e (lS_inj _ _ om ot.2.1 (V.str.inj z)))]
        walk_at "sts"
        try with_reducible refine r_ixT (SqT.of hm) (atI_nat (j := 1) rfl) ?_
        walk_at "sts"
        try with_reducible refine r_ixT (SqT.of ht) (v := .str (lS j2)) rfl ?_
        walk_at "sts"
        refine r_new rfl fun a na => ?_
        walk_at "sts"
        exact r_new rfl fun g ng => mkOne (c := .chg i1 j2) (by show [if i1 = j2 then Cg.keep i1 else _] = _; rw [if_neg e]) q na ng
    | out j1 =>
      try with_reducible refine r_ixT (SqT.of hm) (atI_nat (j := 0) rfl) ?_
      walk_at "sts"
      rw [dKI]
      walk_at "sts"
      try with_reducible refine r_ixT (SqT.of hm) (atI_nat (j := 0) rfl) ?_
      walk_at "sts"
      rw [dKI]
      walk_at "sts"
      try with_reducible refine r_ixT (SqT.of ht) (atI_nat (j := 0) rfl) ?_
      walk_at "sts"
      rw [dOO]
      walk_at "sts"
      try with_reducible refine r_ixT (SqT.of hm) (atI_nat (j := 1) rfl) ?_
      walk_at "sts"
      refine r_new rfl fun a na => ?_
      walk_at "sts"
      exact r_new rfl fun g ng => mkOne (c := .out i1) rfl q na ng
    | inn j1 =>
      cases nt
  | chg i1 i2 =>
    cases t with
    | keep j1 =>
      try with_reducible refine r_ixT (SqT.of hm) (atI_nat (j := 0) rfl) ?_
      walk_at "sts"
      rw [dCI]
      walk_at "sts"
      try with_reducible refine r_ixT (SqT.of hm) (atI_nat (j := 0) rfl) ?_
      walk_at "sts"
      rw [dCI]
      walk_at "sts"
      try with_reducible refine r_ixT (SqT.of ht) (atI_nat (j := 0) rfl) ?_
      walk_at "sts"
      rw [dKO]
      walk_at "sts"
      try with_reducible refine r_ixT (SqT.of hm) (atI_nat (j := 1) rfl) ?_
      walk_at "sts"
      try with_reducible refine r_ixT (SqT.of ht) (v := .str (lS j1)) rfl ?_
      walk_at "sts"
      by_cases e : i1 = j1
      · rw [decide_eq_true (congrArg (fun i => V.str (lS i)) e)]
        walk_at "sts"
        try with_reducible refine r_ixT (SqT.of hm) (atI_nat (j := 1) rfl) ?_
        walk_at "sts"
        refine r_new rfl fun a na => ?_
        walk_at "sts"
        exact r_new rfl fun g ng => mkOne (c := .keep i1) (by show [if i1 = j1 then Cg.keep i1 else _] = _; rw [if_pos e]) q na ng
      · rw [decide_eq_false (fun z => e (lS_inj _ _ om.1 ot (V.str.inj z)))]
        walk_at "sts"
        try with_reducible refine r_ixT (SqT.of hm) (atI_nat (j := 1) rfl) ?_
        walk_at "sts"
        try with_reducible refine r_ixT (SqT.of ht) (v := .str (lS j1)) rfl ?_
        walk_at "sts"
        refine r_new rfl fun a na => ?_
        walk_at "sts"
        exact r_new rfl fun g ng => mkOne (c := .chg i1 j1) (by show [if i1 = j1 then Cg.keep i1 else _] = _; rw [if_neg e]) q na ng
    | chg j1 j2 =>
      try with_reducible refine r_ixT (SqT.of hm) (atI_nat (j := 0) rfl) ?_
      walk_at "sts"
      rw [dCI]
      walk_at "sts"
      try with_reducible refine r_ixT (SqT.of hm) (atI_nat (j := 0) rfl) ?_
      walk_at "sts"
      rw [dCI]
      walk_at "sts"
      try with_reducible refine r_ixT (SqT.of ht) (atI_nat (j := 0) rfl) ?_
      walk_at "sts"
      rw [dCO]
      walk_at "sts"
      try with_reducible refine r_ixT (SqT.of hm) (atI_nat (j := 1) rfl) ?_
      walk_at "sts"
      try with_reducible refine r_ixT (SqT.of ht) (v := .str (lS j2)) rfl ?_
      walk_at "sts"
      by_cases e : i1 = j2
      · rw [decide_eq_true (congrArg (fun i => V.str (lS i)) e)]
        walk_at "sts"
        try with_reducible refine r_ixT (SqT.of hm) (atI_nat (j := 1) rfl) ?_
        walk_at "sts"
        refine r_new rfl fun a na => ?_
        walk_at "sts"
        exact r_new rfl fun g ng => mkOne (c := .keep i1) (by show [if i1 = j2 then Cg.keep i1 else _] = _; rw [if_pos e]) q na ng
      · rw [decide_eq_false (fun z => e (lS_inj _ _ om.1 ot.2.1 (V.str.inj z)))]
        walk_at "sts"
        try with_reducible refine r_ixT (SqT.of hm) (atI_nat (j := 1) rfl) ?_
        walk_at "sts"
        try with_reducible refine r_ixT (SqT.of ht) (v := .str (lS j2)) rfl ?_
        walk_at "sts"
        refine r_new rfl fun a na => ?_
        walk_at "sts"
        exact r_new rfl fun g ng => mkOne (c := .chg i1 j2) (by show [if i1 = j2 then Cg.keep i1 else _] = _; rw [if_neg e]) q na ng
    | out j1 =>
      try with_reducible refine r_ixT (SqT.of hm) (atI_nat (j := 0) rfl) ?_
      walk_at "sts"
      rw [dCI]
      walk_at "sts"
      try with_reducible refine r_ixT (SqT.of hm) (atI_nat (j := 0) rfl) ?_
      walk_at "sts"
      rw [dCI]
      walk_at "sts"
      try with_reducible refine r_ixT (SqT.of ht) (atI_nat (j := 0) rfl) ?_
      walk_at "sts"
      rw [dOO]
      walk_at "sts"
      try with_reducible refine r_ixT (SqT.of hm) (atI_nat (j := 1) rfl) ?_
      walk_at "sts"
      refine r_new rfl fun a na => ?_
      walk_at "sts"
      exact r_new rfl fun g ng => mkOne (c := .out i1) rfl q na ng
    | inn j1 =>
      cases nt
  | out i1 =>
    cases nm
  | inn i1 =>
    cases t with
    | keep j1 =>
      try with_reducible refine r_ixT (SqT.of hm) (atI_nat (j := 0) rfl) ?_
      walk_at "sts"
      rw [dII]
      walk_at "sts"
      try with_reducible refine r_ixT (SqT.of ht) (atI_nat (j := 0) rfl) ?_
      walk_at "sts"
      rw [dKO]
      walk_at "sts"
      try with_reducible refine r_ixT (SqT.of hm) (atI_nat (j := 0) rfl) ?_
      walk_at "sts"
      rw [dII]
      walk_at "sts"
      try with_reducible refine r_ixT (SqT.of ht) (v := .str (lS j1)) rfl ?_
      walk_at "sts"
      refine r_new rfl fun a na => ?_
      walk_at "sts"
      exact r_new rfl fun g ng => mkOne (c := .inn j1) rfl q na ng
    | chg j1 j2 =>
      try with_reducible refine r_ixT (SqT.of hm) (atI_nat (j := 0) rfl) ?_
      walk_at "sts"
      rw [dII]
      walk_at "sts"
      try with_reducible refine r_ixT (SqT.of ht) (atI_nat (j := 0) rfl) ?_
      walk_at "sts"
      rw [dCO]
      walk_at "sts"
      try with_reducible refine r_ixT (SqT.of hm) (atI_nat (j := 0) rfl) ?_
      walk_at "sts"
      rw [dII]
      walk_at "sts"
      try with_reducible refine r_ixT (SqT.of ht) (v := .str (lS j2)) rfl ?_
      walk_at "sts"
      refine r_new rfl fun a na => ?_
      walk_at "sts"
      exact r_new rfl fun g ng => mkOne (c := .inn j2) rfl q na ng
    | out j1 =>
      try with_reducible refine r_ixT (SqT.of hm) (atI_nat (j := 0) rfl) ?_
      walk_at "sts"
      rw [dII]
      walk_at "sts"
      try with_reducible refine r_ixT (SqT.of ht) (atI_nat (j := 0) rfl) ?_
      walk_at "sts"
      rw [dOO]
      walk_at "sts"
      refine r_new rfl fun g ng => ?_
      refine q g _ _ ((Same.refl H).upd ng) upd_same ?_
      exact DRs_nil.mpr rfl
    | inn j1 =>
      cases nt
end

local macro_rules | `(tactic| walk_at "sts") => `(tactic| (with_reducible repeat (first | refine r_op ?_ | refine iteT ?_ | refine iteF ?_ | refine iteNT ?_ | refine iteNF ?_ | refine r_var (by with_unfolding_all rfl) ?_ | refine r_C ?_ | refine r_i0 ?_ | refine r_addI ?_ | refine r_cons ?_ | refine r_nil ?_ | refine r_seq ?_ | refine r_asg ?_ | refine r_name ?_ | refine r_ret ?_ | refine r_next ?_ | refine r_if ?_ | refine r_test ?_ | refine r_bl ?_ | refine r_cb ?_ | refine r_call ?_ | refine r_tb ?_ | refine r_not ?_ | refine r_and ?_ | refine r_or ?_ | refine r_andV ?_ | refine r_notV ?_ | refine r_ifE ?_ | refine r_drop ?_ | refine r_un ?_ | refine r_tup ?_ | refine r_lst ?_ | refine r_bm ?_ | refine r_sl ?_ | refine r_nop ?_ | refine r_part ?_ | refine r_true ?_ | refine r_rng1 ?_ | refine r_iseq ?_ | refine r_comp ?_ | refine r_for ?_ | refine r_u ?_ | refine r_strE ?_ | refine r_gcons ?_ | refine r_gnil ?_ | refine r_gtup (SqT.of (by first | assumption | exact upd_same)) (by rfl) ?_ | refine r_callX ?_ | refine r_chain ?_ | refine r_gone ?_ | refine r_try ?_ | refine r_raise ?_ | refine r_fldX ?_ | refine r_eqCI ?_ | refine r_eqCS ?_ | refine r_eqEI ?_ | refine r_eqES ?_ | refine r_eqBI ?_ | refine r_eqBS ?_ | refine r_neBS ?_ | refine r_inS ?_ | refine r_intE ?_ | refine r_i (by with_unfolding_all first | assumption | omega | (dsimp only <;> omega) | exact ⟨by omega, by omega⟩ | exact .inl ⟨by omega, by omega⟩ | exact .inr ⟨by omega, by omega⟩ | exact ⟨by decide, by decide, by decide⟩) ?_ | refine r_mulI (by with_unfolding_all first | assumption | omega | (dsimp only <;> omega) | exact ⟨by omega, by omega⟩ | exact .inl ⟨by omega, by omega⟩ | exact .inr ⟨by omega, by omega⟩ | exact ⟨by decide, by decide, by decide⟩) ?_ | refine r_ixL (SqL.of (by first | assumption | exact upd_same)) (by with_unfolding_all rfl) ?_ | refine r_ixT (SqT.of (by first | assumption | exact upd_same)) (by with_unfolding_all rfl) ?_ | refine r_sl3L ?_ | refine r_enumZip ?_)))
local macro_rules | `(tactic| walk_at "stn") => `(tactic| (with_reducible repeat (first | refine r_op ?_ | refine iteT ?_ | refine iteF ?_ | refine iteNT ?_ | refine iteNF ?_ | refine r_var (by with_unfolding_all rfl) ?_ | refine r_C ?_ | refine r_i0 ?_ | refine r_addI ?_ | refine r_cons ?_ | refine r_nil ?_ | refine r_asg ?_ | refine r_name ?_ | refine r_ret ?_ | refine r_next ?_ | refine r_if ?_ | refine r_test ?_ | refine r_bl ?_ | refine r_cb ?_ | refine r_call ?_ | refine r_tb ?_ | refine r_not ?_ | refine r_and ?_ | refine r_or ?_ | refine r_andV ?_ | refine r_notV ?_ | refine r_ifE ?_ | refine r_drop ?_ | refine r_un ?_ | refine r_tup ?_ | refine r_lst ?_ | refine r_bm ?_ | refine r_sl ?_ | refine r_nop ?_ | refine r_part ?_ | refine r_true ?_ | refine r_rng1 ?_ | refine r_iseq ?_ | refine r_comp ?_ | refine r_for ?_ | refine r_u ?_ | refine r_strE ?_ | refine r_gcons ?_ | refine r_gnil ?_ | refine r_gtup (SqT.of (by first | assumption | exact upd_same)) (by rfl) ?_ | refine r_callX ?_ | refine r_chain ?_ | refine r_gone ?_ | refine r_try ?_ | refine r_raise ?_ | refine r_fldX ?_ | refine r_eqCI ?_ | refine r_eqCS ?_ | refine r_eqEI ?_ | refine r_eqES ?_ | refine r_eqBI ?_ | refine r_eqBS ?_ | refine r_neBS ?_ | refine r_inS ?_ | refine r_intE ?_ | refine r_i (by with_unfolding_all first | assumption | omega | (dsimp only <;> omega) | exact ⟨by omega, by omega⟩ | exact .inl ⟨by omega, by omega⟩ | exact .inr ⟨by omega, by omega⟩ | exact ⟨by decide, by decide, by decide⟩) ?_ | refine r_mulI (by with_unfolding_all first | assumption | omega | (dsimp only <;> omega) | exact ⟨by omega, by omega⟩ | exact .inl ⟨by omega, by omega⟩ | exact .inr ⟨by omega, by omega⟩ | exact ⟨by decide, by decide, by decide⟩) ?_ | refine r_ixL (SqL.of (by first | assumption | exact upd_same)) (by with_unfolding_all rfl) ?_ | refine r_ixT (SqT.of (by first | assumption | exact upd_same)) (by with_unfolding_all rfl) ?_ | refine r_sl3L ?_ | refine r_enumZip ?_)))
section
variable {P : Program} {w : World} {K : PySem.W.Frag} {mg : Str → Option Value} {base : Heap}
theorem nd_law_pays_0 : (["_law_change"] : List Str).Nodup := by decide +kernel
theorem nd_paid_1 : (["change"] : List Str).Nodup := by decide +kernel
theorem k_law_pays_len : (defScope s_law_pays).names.lookup ("len" : Str) = some NameKind.globalImplicit := by decide +kernel
theorem k_law_pays__law_changes : (defScope s_law_pays).names.lookup ("_law_changes" : Str) = some NameKind.local := by decide +kernel
theorem k_paid_len : (defScope s_paid).names.lookup ("len" : Str) = some NameKind.globalImplicit := by decide +kernel
theorem k_paid_changes : (defScope s_paid).names.lookup ("changes" : Str) = some NameKind.local := by decide +kernel
theorem k_paid_need_changes : (defScope s_paid).names.lookup ("need_changes" : Str) = some NameKind.globalImplicit := by decide +kernel
theorem k_law_after__law_found : (defScope s_law_after).names.lookup ("_law_found" : Str) = some NameKind.local := by decide +kernel
theorem k_law_after_range : (defScope s_law_after).names.lookup ("range" : Str) = some NameKind.globalImplicit := by decide +kernel
theorem k_law_after_len : (defScope s_law_after).names.lookup ("len" : Str) = some NameKind.globalImplicit := by decide +kernel
theorem k_law_after__law_makers : (defScope s_law_after).names.lookup ("_law_makers" : Str) = some NameKind.local := by decide +kernel
theorem k_law_after__law_k : (defScope s_law_after).names.lookup ("_law_k" : Str) = some NameKind.local := by decide +kernel
theorem k_law_after__law_met : (defScope s_law_after).names.lookup ("_law_met" : Str) = some NameKind.globalImplicit := by decide +kernel
theorem k_law_after__law_takers : (defScope s_law_after).names.lookup ("_law_takers" : Str) = some NameKind.local := by decide +kernel
theorem k_law_after__law_outs : (defScope s_law_after).names.lookup ("_law_outs" : Str) = some NameKind.local := by decide +kernel
theorem k_law_after__law_ins : (defScope s_law_after).names.lookup ("_law_ins" : Str) = some NameKind.local := by decide +kernel
theorem k_law_after__law_split : (defScope s_law_after).names.lookup ("_law_split" : Str) = some NameKind.globalImplicit := by decide +kernel
theorem k_law_after__law_other : (defScope s_law_after).names.lookup ("_law_other" : Str) = some NameKind.local := by decide +kernel
theorem k_law_after__law_one : (defScope s_law_after).names.lookup ("_law_one" : Str) = some NameKind.local := by decide +kernel
noncomputable def spPaysL : Sp := fun vs H Q _ => ∃ (a : Addr) (us : List V) (cs : List Cg), vs = [.ref a] ∧ Lcs H a us cs ∧ ∀ H', Same H H' → Q (.int (pays cs)) H'
theorem sc_law_pays : FnScope ["_law_changes"] ["_law_changes"] (defScope s_law_pays) := ⟨rfl, rfl, rfl, by decide +kernel, rfl, by decide +kernel, by decide +kernel⟩
theorem h_law_pays (T : Txt K mg) : Has P w K mg base 1 "_law_pays" ["_law_changes"] spPaysL := by
  refine hasJ T.d_law_pays sc_law_pays (fun _ _ _ _ _ _ us hl => L2.usN1 (fun _ => rfl) us hl) ?_ fun f cdv A outer s H vs Q E hr h => ?_
  · rintro vs H Q E ⟨a, us, cs, rfl, _⟩; rfl
  obtain ⟨a, us, cs, rfl, hL, q⟩ := h
  have hu := hr.units0
  have hu64 := hr.units
  refine ⟨_, (jb_one (js_ret (j_callB (call_lenK (K := K) rfl) (glF k_law_pays_len) T.b_len bt_len (ja_cons (j_comp (sub := [none]) (subOk_of (N := ["_law_changes"]) (sc := defScope s_law_pays) (N' := ["_law_change"]) (by decide +kernel)) rfl rfl rfl (ji_seq (K := K) rfl (j_vL 0 k_law_pays__law_changes)) (fun C s₀ H₀ ex => (jg_B 0 (by decide +kernel) nd_law_pays_0)) (fun C s₀ H₀ ex => (jif_one (jt_cmp (op_neX (K := K) rfl hu64) (j_ix (K := K) rfl (j_vBL 0 (by decide +kernel)) j_int) j_str (by first | exact nomark _ | with_unfolding_all rfl)))) (fun C s₀ H₀ ex => (j_vBL 0 (by decide +kernel)))) ja_nil) (by decide +kernel) (by decide +kernel)))), ?_⟩
  walk_at "sts"
  have hl := hL.len
  have h48 := hL.2.2.2
  refine .inl ⟨a, rfl, ⟨_, SqL.of hL.1⟩, ?_⟩
  refine comp_list (xs := us) (fun i ys H' => H' = H ∧ ys.length = pays (cs.take i)) (Nat.le_trans (show us.length ≤ 1000 by omega) (by decide)) ⟨rfl, rfl⟩ ?_ ?_ ?_ ?_
  · rintro i ys H' ⟨_, h⟩
    rw [h]
    exact Nat.le_trans (List.length_filter_le _ _) (by rw [List.length_take]; omega)
  · rintro i ys H' ⟨rfl, _⟩
    exact SqL.of hL.1
  · rintro i ys H' x hx ⟨rfl, hy⟩
    obtain ⟨c, hc, hd⟩ := DRs_get hL.2.1 hx
    obtain ⟨t, rfl, ht⟩ := DR_cg.mp hd
    have tks : pays (cs.take (i + 1)) = pays (cs.take i) + (if isKeep c = true then 0 else 1) := by
      rw [List.take_add_one, hc, pays_app]
      show _ + pays [c] = _
      rw [pays_cons]; rfl
    walk_at "sts"
    refine ⟨KeepSt.set rfl, ?_⟩
    walk_at "sts"
    refine r_ixT (SqT.of ht) (atI_nat (j := 0) (hd_at c)) ?_
    walk_at "sts"
    rw [wd_keep c]
    cases hp : isKeep c with
    | true =>
      walk_at "sts"
      refine ⟨rfl, ?_⟩
      rw [tks, hp, hy]; simp
    | false =>
      walk_at "sts"
      refine ⟨rfl, ?_⟩
      rw [tks, hp]; simp; omega
  · rintro ys H' ⟨rfl, hy⟩ D nD
    rw [List.take_of_length_le (by omega)] at hy
    walk_at "sts"
    refine r_lenL (SqL.of upd_same) ?_
    rw [hy]
    exact q _ ((Same.refl H').upd nD)
theorem sc_paid : FnScope ["changes"] ["changes"] (defScope s_paid) := ⟨rfl, rfl, rfl, by decide +kernel, rfl, by decide +kernel, by decide +kernel⟩
theorem h_paid (T : Txt K mg) : HasX P w K mg base 5 "paid" ["changes"] spPaysL := by
  have h_need_changes := h_need_changes (P := P) (w := w) (base := base) T
  refine hasJX T.d_paid sc_paid (fun _ _ _ _ _ _ us hl => L2.usN1 (fun _ => rfl) us hl) ?_ fun f cdv A outer s H vs Q E hr h => ?_
  · rintro vs H Q E ⟨a, us, cs, rfl, _⟩; rfl
  obtain ⟨a, us, cs, rfl, hL0, q0⟩ := h
  have hu := hr.units0
  have hu64 := hr.units
  refine ⟨_, (jb_cons (js_expr (j_callX h_need_changes (hr.mono (by decide)) (glF k_paid_need_changes) pass_def (ja_cons (j_vL 0 k_paid_changes) ja_nil) (by decide +kernel))) (jb_one (js_ret (j_callB (call_lenK (K := K) rfl) (glF k_paid_len) T.b_len bt_len (ja_cons (j_comp (sub := [none]) (subOk_of (N := ["changes"]) (sc := defScope s_paid) (N' := ["change"]) (by decide +kernel)) rfl rfl rfl (ji_seq (K := K) rfl (j_vL 0 k_paid_changes)) (fun C s₀ H₀ ex => (jg_B 0 (by decide +kernel) nd_paid_1)) (fun C s₀ H₀ ex => (jif_one (jt_cmp (op_neX (K := K) rfl hu64) (j_ix (K := K) rfl (j_vBL 0 (by decide +kernel)) j_int) (j_gstr (glB (by decide +kernel)) T.c_KEEP (by decide +kernel)) (by first | exact nomark _ | with_unfolding_all rfl)))) (fun C s₀ H₀ ex => (j_vBL 0 (by decide +kernel)))) ja_nil) (by decide +kernel) (by decide +kernel))))), ?_⟩
  walk_at "sts"
  refine ⟨.ref a, true, rfl, hL0.good, fun _ H1 S1 => ?_, fun z => by cases z⟩
  walk_at "sts"
  have hL := hL0.same S1
  have q : ∀ H', Same H1 H' → Q (.int (pays cs)) H' := fun H' s => q0 H' (S1.trans s)
  have hl := hL.len
  have h48 := hL.2.2.2
  refine .inl ⟨a, rfl, ⟨_, SqL.of hL.1⟩, ?_⟩
  refine comp_list (xs := us) (fun i ys H' => H' = H1 ∧ ys.length = pays (cs.take i)) (Nat.le_trans (show us.length ≤ 1000 by omega) (by decide)) ⟨rfl, rfl⟩ ?_ ?_ ?_ ?_
  · rintro i ys H' ⟨_, h⟩
    rw [h]
    exact Nat.le_trans (List.length_filter_le _ _) (by rw [List.length_take]; omega)
  · rintro i ys H' ⟨rfl, _⟩
    exact SqL.of hL.1
  · rintro i ys H' x hx ⟨rfl, hy⟩
    obtain ⟨c, hc, hd⟩ := DRs_get hL.2.1 hx
    obtain ⟨t, rfl, ht⟩ := DR_cg.mp hd
    have tks : pays (cs.take (i + 1)) = pays (cs.take i) + (if isKeep c = true then 0 else 1) := by
      rw [List.take_add_one, hc, pays_app]
      show _ + pays [c] = _
      rw [pays_cons]; rfl
    walk_at "sts"
    refine ⟨KeepSt.set rfl, ?_⟩
    walk_at "sts"
    refine r_ixT (SqT.of ht) (atI_nat (j := 0) (hd_at c)) ?_
    walk_at "sts"
    rw [wd_keep c]
    cases hp : isKeep c with
    | true =>
      walk_at "sts"
      refine ⟨rfl, ?_⟩
      rw [tks, hp, hy]; simp
    | false =>
      walk_at "sts"
      refine ⟨rfl, ?_⟩
      rw [tks, hp]; simp; omega
  · rintro ys H' ⟨rfl, hy⟩ D nD
    rw [List.take_of_length_le (by omega)] at hy
    walk_at "sts"
    refine r_lenL (SqL.of upd_same) ?_
    rw [hy]
    exact q _ ((Same.refl H').upd nD)
noncomputable def Lc (H : Hp) (a : Addr) (us : List V) (cs : List Cg) : Prop := H a = some (.lst us) ∧ DRs H (cs.map Cg.dat) us
theorem Lc.same {H H' : Hp} {a : Addr} {us : List V} {cs : List Cg} (h : Lc H a us cs) (s : Same H H') : Lc H' a us cs := ⟨s _ _ h.1, DRs.same s _ _ h.2⟩
theorem Lc.dr {H : Hp} {a : Addr} {us : List V} {cs : List Cg} (h : Lc H a us cs) : DR H (.list (cs.map Cg.dat)) (.ref a) := DR_list.mpr ⟨a, us, rfl, h.1, h.2⟩
theorem Lc.len {H : Hp} {a : Addr} {us : List V} {cs : List Cg} (h : Lc H a us cs) : us.length = cs.length := by
  have := DRs_len h.2
  rwa [List.length_map] at this
noncomputable def spAftL : Sp := fun vs H Q _ => ∃ (a : Addr) (us : List V) (cs : List Cg) (b : Addr) (ws : List V) (ds : List Cg) (z : List Cg), vs = [.ref a, .ref b] ∧ Lcs H a us cs ∧ Lcs H b ws ds ∧ Aft cs ds z ∧ ∀ f ys H', Same H H' → Lc H' f ys z → Q (.ref f) H'
theorem sc_law_after : FnScope ["_law_one", "_law_other", "_law_outs", "_law_makers", "_law_ins", "_law_takers", "_law_found", "_law_k"] ["_law_one", "_law_other"] (defScope s_law_after) := ⟨rfl, rfl, rfl, by decide +kernel, rfl, by decide +kernel, by decide +kernel⟩
theorem h_law_after (T : Txt K mg) : Has P w K mg base 2 "_law_after" ["_law_one", "_law_other"] spAftL := by
  have h_law_split := h_law_split (P := P) (w := w) (base := base) T
  have h_law_met := h_law_met (P := P) (w := w) (base := base) T
  refine hasJ T.d_law_after sc_law_after (fun _ _ _ _ _ _ us hl => L2.usN2 (fun _ _ => rfl) us hl) ?_ fun f cdv A outer s H vs Q E hr h => ?_
  · rintro vs H Q E ⟨a, us, cs, b, ws, ds, z, rfl, _⟩; rfl
  obtain ⟨a, us, cs, b, ws, ds, z, rfl, hL, hM, hz, q⟩ := h
  have hu := hr.units0
  have hu64 := hr.units
  refine ⟨_, (jb_cons (js_asgT (j_call h_law_split (hr.mono (by decide)) (glF k_law_after__law_split) (ja_cons (j_vL 0 k_law_after__law_one) (ja_cons j_str ja_nil)) (by decide +kernel)) (jg_seqT (K := K) rfl rfl (jgs_cons (jg_name (i := 2) sc_law_after.nd rfl (Or.inl k_law_after__law_outs) rfl) (jgs_cons (jg_name (i := 3) sc_law_after.nd rfl (Or.inl k_law_after__law_makers) rfl) jgs_nil)))) (jb_cons (js_asgT (j_call h_law_split (hr.mono (by decide)) (glF k_law_after__law_split) (ja_cons (j_vL 1 k_law_after__law_other) (ja_cons j_str ja_nil)) (by decide +kernel)) (jg_seqT (K := K) rfl rfl (jgs_cons (jg_name (i := 4) sc_law_after.nd rfl (Or.inl k_law_after__law_ins) rfl) (jgs_cons (jg_name (i := 5) sc_law_after.nd rfl (Or.inl k_law_after__law_takers) rfl) jgs_nil)))) (jb_cons (js_set (i := 6) sc_law_after.nd rfl (Or.inl k_law_after__law_found) (j_op op_addA (j_ix (K := K) rfl (j_vL 2 k_law_after__law_outs) j_int) (j_ix (K := K) rfl (j_vL 4 k_law_after__law_ins) j_int)) rfl) (jb_cons (js_for PassesOwn.never rfl (ji_range1 (glF k_law_after_range) T.b_range (ja_cons (j_callB (call_lenK (K := K) rfl) (glF k_law_after_len) T.b_len bt_len (ja_cons (j_vL 3 k_law_after__law_makers) ja_nil) (by decide +kernel) (by decide +kernel)) ja_nil)) (jg_name (i := 7) sc_law_after.nd rfl (Or.inl k_law_after__law_k) rfl) (jb_one (js_set (i := 6) sc_law_after.nd rfl (Or.inl k_law_after__law_found) (j_op op_addA (j_op op_addA (j_op op_addA (j_vL 6 k_law_after__law_found) (j_call h_law_met (hr.mono (by decide)) (glF k_law_after__law_met) (ja_cons (j_ix (K := K) rfl (j_vL 3 k_law_after__law_makers) (j_vL 7 k_law_after__law_k)) (ja_cons (j_ix (K := K) rfl (j_vL 5 k_law_after__law_takers) (j_vL 7 k_law_after__law_k)) ja_nil)) (by decide +kernel))) (j_ix (K := K) rfl (j_vL 2 k_law_after__law_outs) (j_op op_addA (j_vL 7 k_law_after__law_k) j_int))) (j_ix (K := K) rfl (j_vL 4 k_law_after__law_ins) (j_op op_addA (j_vL 7 k_law_after__law_k) j_int))) rfl))) (jb_one (js_ret (j_vL 6 k_law_after__law_found))))))), ?_⟩
  walk_at "sts"
  refine ⟨a, us, cs, _, isOut, rfl, wd_out, hL, fun T1 g1 l1 xs1 H1 S1 hT1 hg1 h1 d1 => ?_⟩
  walk_at "sts"
  refine ⟨T1, _, rfl, .inl (SqT.of hT1), rfl, ?_⟩
  walk_at "sts"
  refine ⟨b, ws, ds, _, isIn, rfl, wd_in, hM.same S1, fun T2 g2 l2 xs2 H2 S2 hT2 hg2 h2 d2 => ?_⟩
  walk_at "sts"
  refine ⟨T2, _, rfl, .inl (SqT.of hT2), rfl, ?_⟩
  walk_at "sts"
  have lx1 := DRs_len d1
  have lx2 := DRs_len d2
  rw [List.length_map] at lx1 lx2
  have ll := aft_len hz
  obtain ⟨vs1, k1, m1, at1⟩ := dG_at (DR.same S2 _ _ hg1)
  obtain ⟨vs2, k2, m2, at2⟩ := dG_at hg2
  have gl1 := grp_len isOut cs
  have gl2 := grp_len isIn ds
  have b1 : (bnd isOut cs).length ≤ 48 := Nat.le_trans (List.length_filter_le _ _) hL.2.2.2
  have s5000 : 5000 ≤ sizeLine := by decide
  have gle1 : ∀ {l : List Cg}, l ∈ grp isOut cs → l.length ≤ 48 := fun h => Nat.le_trans (grp_le _ _ _ h) hL.2.2.2
  have gle2 : ∀ {l : List Cg}, l ∈ grp isIn ds → l.length ≤ 48 := fun h => Nat.le_trans (grp_le _ _ _ h) hM.2.2.2
  have grab : ∀ i, i ≤ (bnd isOut cs).length → ∃ o j r1 w1 r2 w2, (grp isOut cs)[i]? = some o ∧ (grp isIn ds)[i]? = some j ∧ vs1[i]? = some (V.ref r1) ∧ H2 r1 = some (.lst w1) ∧ DRs H2 (o.map Cg.dat) w1 ∧ w1.length ≤ 48 ∧ vs2[i]? = some (V.ref r2) ∧ H2 r2 = some (.lst w2) ∧ DRs H2 (j.map Cg.dat) w2 ∧ w2.length ≤ 48 := fun i hi => by
    obtain ⟨o, ho⟩ : ∃ o, (grp isOut cs)[i]? = some o := ⟨_, List.getElem?_eq_getElem (by unfold bnd at *; omega)⟩
    obtain ⟨j, hj⟩ : ∃ j, (grp isIn ds)[i]? = some j := ⟨_, List.getElem?_eq_getElem (by unfold bnd at *; omega)⟩
    obtain ⟨r1, w1, e1, f1, q1⟩ := at1 i o ho
    obtain ⟨r2, w2, e2, f2, q2⟩ := at2 i j hj
    have lw1 := DRs_len q1
    have lw2 := DRs_len q2
    rw [List.length_map] at lw1 lw2
    exact ⟨o, j, r1, w1, r2, w2, ho, hj, e1, f1, q1, by rw [lw1]; exact gle1 (List.mem_of_getElem? ho), e2, f2, q2, by rw [lw2]; exact gle2 (List.mem_of_getElem? hj)⟩
  obtain ⟨o, j, r1, w1, r2, w2, ho, hj, e1, f1, q1, lw1, e2, f2, q2, lw2⟩ := grab 0 (Nat.zero_le _)
  refine r_ixL (SqL.of k1) (atI_nat (j := 0) e1) ?_
  walk_at "sts"
  refine r_ixL (SqL.of k2) (atI_nat (j := 0) e2) ?_
  walk_at "sts"
  refine r_addL f1 f2 (by omega) fun f nf => ?_
  walk_at "sts"
  refine r_lenL (SqL.of (((Same.refl H2).upd nf) _ _ (S2 _ _ h1))) ?_
  walk_at "sts"
  refine ⟨xs1.length, rfl, by omega, by omega, ?_⟩
  refine for_range (lo := 0) (n := xs1.length) (fun k σ H' => ∃ (x7 : Option V) (f : Addr) (ys : List V) (o j : List Cg), σ = [some (.ref a), some (.ref b), some (.ref g1), some (.ref l1), some (.ref g2), some (.ref l2), some (.ref f), x7] ∧ Same H2 H' ∧ (grp isOut cs)[k]? = some o ∧ (grp isIn ds)[k]? = some j ∧
      H' f = some (.lst ys) ∧ ys.length ≤ 97 * k + 96 ∧ DRs H' ((tol (grp isOut cs) (bnd isOut cs) (grp isIn ds) (bnd isIn ds) k ++ (o ++ j)).map Cg.dat) ys)
    ⟨none, f, _, o, j, rfl, (Same.refl H2).upd nf, ho, hj, upd_same, by simp; omega, by rw [tol, List.nil_append, List.map_append]; exact DRs.same ((Same.refl H2).upd nf) _ _ (DRs_append q1 q2)⟩ ?_ ?_
  · rintro i σ H' hi ⟨x7, f, ys, o, j, rfl, s, ho, hj, hf, hle, hD⟩
    obtain ⟨o', j', r1, w1, r2, w2, ho', hj', e1, f1, q1, lw1, e2, f2, q2, lw2⟩ := grab (i + 1) (by omega)
    obtain ⟨u1, hu1⟩ : ∃ u, xs1[i]? = some u := ⟨_, List.getElem?_eq_getElem hi⟩
    obtain ⟨u2, hu2⟩ : ∃ u, xs2[i]? = some u := ⟨_, List.getElem?_eq_getElem (by omega)⟩
    obtain ⟨m, hm, dm⟩ := DRs_get (DRs.same S2 _ _ d1) hu1
    obtain ⟨t, ht, dt⟩ := DRs_get d2 hu2
    have mm := List.mem_filter.mp (List.mem_of_getElem? hm)
    have mt := List.mem_filter.mp (List.mem_of_getElem? ht)
    walk_at "sts"
    rw [show (0 : Int) + (i : Int) = (i : Int) from Int.zero_add _]
    refine r_ixL (SqL.of (s _ _ (S2 _ _ h1))) (atI_nat hu1) ?_
    walk_at "sts"
    refine r_ixL (SqL.of (s _ _ h2)) (atI_nat hu2) ?_
    walk_at "sts"
    refine ⟨u1, u2, m, t, rfl, DR.same s _ _ dm, DR.same s _ _ dt, hL.2.2.1 m mm.1, hM.2.2.1 t mt.1, by simpa using mm.2, by simpa using mt.2, fun g w3 H3 S3 hg dg => ?_⟩
    walk_at "sts"
    have lw3 := DRs_len dg
    rw [List.length_map] at lw3
    have lm : (met m t).length ≤ 1 := by unfold met; cases m.oN <;> cases t.nN <;> simp [ofN]
    have s3 := s.trans S3
    refine r_addL (S3 _ _ hf) hg (by omega) fun p1 np1 => ?_
    walk_at "sts"
    rw [show (i : Int) + 1 = ((i + 1 : Nat) : Int) by omega]
    refine r_ixL (SqL.of ((s3.upd np1) _ _ k1)) (atI_nat e1) ?_
    walk_at "sts"
    refine r_addL upd_same ((s3.upd np1) _ _ f1) (by simp; omega) fun p2 np2 => ?_
    walk_at "sts"
    rw [show (i : Int) + 1 = ((i + 1 : Nat) : Int) by omega]
    refine r_ixL (SqL.of (((s3.upd np1).upd np2) _ _ k2)) (atI_nat e2) ?_
    walk_at "sts"
    refine r_addL upd_same (((s3.upd np1).upd np2) _ _ f2) (by simp; omega) fun p3 np3 => ?_
    walk_at "sts"
    have sF : Same H3 (upd (upd (upd H3 p1 (.lst (ys ++ w3))) p2 (.lst (ys ++ w3 ++ w1))) p3 (.lst (ys ++ w3 ++ w1 ++ w2))) := (((Same.refl H3).upd np1).upd np2).upd np3
    refine ⟨_, p3, _, o', j', rfl, s3.trans sF, ho', hj', upd_same, by simp; omega, ?_⟩
    refine DRs.same sF _ _ ?_
    rw [tol_succ i _ _ _ _ ho hm hj ht]
    have := DRs_append (DRs_append (DRs_append (DRs.same S3 _ _ hD) dg) (DRs.same s3 _ _ q1)) (DRs.same s3 _ _ q2)
    rw [← List.map_append, ← List.map_append, ← List.map_append] at this
    simpa only [List.append_assoc] using this
  · rintro σ H' ⟨x7, f, ys, o, j, rfl, s, ho, hj, hf, hle, hD⟩
    walk_at "sts"
    refine q f ys H' ((S1.trans S2).trans s) ⟨hf, ?_⟩
    rw [lx1] at ho hj hD
    have ez := tol_end _ _ _ _ ll ho hj
    rw [← aft_wav hz]
    unfold wav
    rw [ez]
    exact hD
end

section
variable {P : Program} {w : World} {K : PySem.W.Frag} {mg : Str → Option Value} {base : Heap}
theorem k_law_too_long_PaneError : (defScope s_law_too_long).names.lookup ("PaneError" : Str) = some NameKind.globalImplicit := by decide +kernel
theorem k_law_too_long_TooLong : (defScope s_law_too_long).names.lookup ("TooLong" : Str) = some NameKind.globalImplicit := by decide +kernel
theorem k_law_too_long_e : (defScope s_law_too_long).names.lookup ("e" : Str) = some NameKind.local := by decide +kernel
theorem k_law_too_long_isinstance : (defScope s_law_too_long).names.lookup ("isinstance" : Str) = some NameKind.globalImplicit := by decide +kernel
theorem k_law_too_long_NoChanges : (defScope s_law_too_long).names.lookup ("NoChanges" : Str) = some NameKind.globalImplicit := by decide +kernel
theorem k_law_too_long_Unlike : (defScope s_law_too_long).names.lookup ("Unlike" : Str) = some NameKind.globalImplicit := by decide +kernel
theorem k_law_too_long__law_many : (defScope s_law_too_long).names.lookup ("_law_many" : Str) = some NameKind.local := by decide +kernel
theorem k_law_too_long_after : (defScope s_law_too_long).names.lookup ("after" : Str) = some NameKind.globalImplicit := by decide +kernel
theorem k_law_too_long__law_other : (defScope s_law_too_long).names.lookup ("_law_other" : Str) = some NameKind.local := by decide +kernel
theorem k_law_too_long__law_one : (defScope s_law_too_long).names.lookup ("_law_one" : Str) = some NameKind.local := by decide +kernel
theorem k_law_no_changes_PaneError : (defScope s_law_no_changes).names.lookup ("PaneError" : Str) = some NameKind.globalImplicit := by decide +kernel
theorem k_law_no_changes_NoChanges : (defScope s_law_no_changes).names.lookup ("NoChanges" : Str) = some NameKind.globalImplicit := by decide +kernel
theorem k_law_no_changes_e : (defScope s_law_no_changes).names.lookup ("e" : Str) = some NameKind.local := by decide +kernel
theorem k_law_no_changes_isinstance : (defScope s_law_no_changes).names.lookup ("isinstance" : Str) = some NameKind.globalImplicit := by decide +kernel
theorem k_law_no_changes_TooLong : (defScope s_law_no_changes).names.lookup ("TooLong" : Str) = some NameKind.globalImplicit := by decide +kernel
theorem k_law_no_changes_Unlike : (defScope s_law_no_changes).names.lookup ("Unlike" : Str) = some NameKind.globalImplicit := by decide +kernel
theorem k_law_no_changes_ValueError : (defScope s_law_no_changes).names.lookup ("ValueError" : Str) = some NameKind.globalImplicit := by decide +kernel
theorem k_law_no_changes__law_wrong : (defScope s_law_no_changes).names.lookup ("_law_wrong" : Str) = some NameKind.local := by decide +kernel
theorem k_law_no_changes_after : (defScope s_law_no_changes).names.lookup ("after" : Str) = some NameKind.globalImplicit := by decide +kernel
theorem k_law_no_changes__law_other : (defScope s_law_no_changes).names.lookup ("_law_other" : Str) = some NameKind.local := by decide +kernel
theorem k_law_no_changes__law_one : (defScope s_law_no_changes).names.lookup ("_law_one" : Str) = some NameKind.local := by decide +kernel
theorem bt_ValueError : bootBuiltins "ValueError" = some (.type "ValueError") := by first | rfl | kernel_rfl
noncomputable def EqOk (K : PySem.W.Frag) (H : Hp) (v : V) : Prop := ∀ H', Same H H' → ∀ Q : VK, Q (.bl true) H' → rEqE K v v H' Q
theorem EqOk.same {H H' : Hp} {v : V} (h : EqOk K H v) (s : Same H H') : EqOk K H' v := fun H2 s2 => h H2 (s.trans s2)
theorem eq_list {H : Hp} {a : Addr} {us : List V} (ha : H a = some (.lst us)) (h : ∀ u ∈ us, flatV u = true ∨ ∃ r, u = .ref r) : EqOk K H (.ref a) := fun H' s Q q => .inl (r_eqId (SqL.of (s _ _ ha)) (SqL.of (s _ _ ha)) h q)
theorem eq_tup {H : Hp} {a : Addr} {us : List V} (ha : H a = some (.tup us)) (h : ∀ u ∈ us, flatV u = true ∨ ∃ r, u = .ref r) : EqOk K H (.ref a) := fun H' s Q q => .inr (.inl ⟨a, a, us, rfl, rfl, SqT.of (s _ _ ha), SqT.of (s _ _ ha), h, q⟩)
theorem eq_flat {H : Hp} {v : V} (h : scal v v = true) : EqOk K H v := fun H' s Q q => .inl (.inl (.inl (.inl ⟨h, by rw [decide_eq_true rfl]; exact q⟩)))
noncomputable def Wrong (K : PySem.W.Frag) (H : Hp) (v : V) : Prop := Chs K H v false ∧ EqOk K H v
theorem Wrong.same {H H' : Hp} {v : V} (h : Wrong K H v) (s : Same H H') : Wrong K H' v := ⟨h.1.same s, h.2.same s⟩
noncomputable def spTooL : Sp := fun vs H Q _ => ∃ (a : Addr) (us : List V) (cs : List Cg) (b : Addr) (ws : List V) (ds : List Cg) (z : List Cg), vs = [.ref a, .ref b, .int z.length] ∧ Lcs H a us cs ∧ Lcs H b ws ds ∧ Aft cs ds z ∧ 48 < z.length ∧ ∀ H', Same H H' → Q (.bl true) H'
theorem sc_law_too_long : FnScope ["_law_one", "_law_other", "_law_many", "e"] ["_law_one", "_law_other", "_law_many"] (defScope s_law_too_long) := ⟨rfl, rfl, rfl, by decide +kernel, rfl, by decide +kernel, by decide +kernel⟩
theorem h_law_too_long (T : Txt K mg) : Has P w K mg base 6 "_law_too_long" ["_law_one", "_law_other", "_law_many"] spTooL := by
  have h_after := h_after (P := P) (w := w) (base := base) T
  refine hasJ T.d_law_too_long sc_law_too_long (fun _ _ _ _ _ _ us hl => L2.usN3 (fun _ _ _ => rfl) us hl) ?_ fun f cdv A outer s H vs Q E hr h => ?_
  · rintro vs H Q E ⟨a, us, cs, b, ws, ds, z, rfl, _⟩; rfl
  obtain ⟨a, us, cs, b, ws, ds, z, rfl, hL, hM, hz, h48, q⟩ := h
  have hu := hr.units0
  have hu64 := hr.units
  refine ⟨_, (jb_cons (js_try rfl rfl (fun pins R => (jb_one (js_expr (j_callX h_after (hr.mono (by decide)) (glF k_law_too_long_after) pass_try (ja_cons (j_vL 0 k_law_too_long__law_one) (ja_cons (j_vL 1 k_law_too_long__law_other) ja_nil)) (by decide +kernel))))) (jh_as (K := K) (i := 3) rfl T.x_TooLong.c (glF k_law_too_long_TooLong) (by decide +kernel) sc_law_too_long.nd rfl k_law_too_long_e (fun x => (jb_one (js_ret (j_and (j_cmp (op_eqE (K := K) rfl hu64) (j_fldX (K := K) rfl (j_vL 3 k_law_too_long_e)) (j_vL 2 k_law_too_long__law_many) (by first | exact nomark _ | with_unfolding_all rfl)) (j_and (j_callB (call_isiX (K := K) rfl) (glF k_law_too_long_isinstance) T.b_isinstance bt_isinstance (ja_cons (j_vL 3 k_law_too_long_e) (ja_cons (j_cls (glF k_law_too_long_PaneError) T.x_PaneError.at_ (by decide +kernel)) ja_nil)) (by decide +kernel) (by decide +kernel)) (j_one (j_not (j_callB (call_isiX (K := K) rfl) (glF k_law_too_long_isinstance) T.b_isinstance bt_isinstance (ja_cons (j_vL 3 k_law_too_long_e) (ja_cons (j_tup (ja_cons (j_cls (glF k_law_too_long_Unlike) T.x_Unlike.c.at_ (by decide +kernel)) (ja_cons (j_cls (glF k_law_too_long_NoChanges) T.x_NoChanges.c.at_ (by decide +kernel)) ja_nil))) ja_nil)) (by decide +kernel) (by decide +kernel))))))))) (jh_no (K := K) rfl T.x_PaneError (glF k_law_too_long_PaneError) (by decide +kernel) (fun x => (jb_one (js_ret j_bl))) jh_nil))) (jb_one (js_ret j_bl))), ?_⟩
  walk_at "sts"
  refine ⟨.ref a, .ref b, rfl, .join a us cs b ws ds z rfl rfl hL hM hz (fun _ e H1 S1 X1 => ?_) (fun h => absurd h (by omega))⟩
  refine ⟨_, e, rfl, rfl, ?_⟩
  refine r_asT T.x_TooLong.c.cl.cls T.u_TooLong_TooLong.mro ?_
  walk_at "sts"
  refine ⟨e, _, _, .int z.length, rfl, X1, T.x_TooLong.c.cl.cls, T.x_TooLong.na _ (by simp), rfl, ?_⟩
  walk_at "sts"
  rw [decide_eq_true rfl]
  walk_at "sts"
  refine r_isiE X1 T.x_TooLong.c.cl rfl T.u_TooLong_PaneError.one ?_
  walk_at "sts"
  refine r_new rfl fun p np => ?_
  walk_at "sts"
  refine r_isiET (X1.same ((Same.refl H1).upd np)) T.x_TooLong.c.cl upd_same rfl (b := false) (by simp only [PySem.W.kitAny, T.u_TooLong_Unlike.one, T.u_TooLong_NoChanges.one]) ?_
  walk_at "sts"
  exact q _ (S1.upd np)
noncomputable def spNoC (K : PySem.W.Frag) : Sp := fun vs H Q _ => ∃ (u v x : V), vs = [u, v, x] ∧ ((Wrong K H u ∧ x = u) ∨ ∃ a us cs, u = .ref a ∧ Lcs H a us cs ∧ Wrong K H v ∧ x = v) ∧ ∀ H', Same H H' → Q (.bl true) H'
theorem sc_law_no_changes : FnScope ["_law_one", "_law_other", "_law_wrong", "e"] ["_law_one", "_law_other", "_law_wrong"] (defScope s_law_no_changes) := ⟨rfl, rfl, rfl, by decide +kernel, rfl, by decide +kernel, by decide +kernel⟩
theorem h_law_no_changes (T : Txt K mg) : Has P w K mg base 6 "_law_no_changes" ["_law_one", "_law_other", "_law_wrong"] (spNoC K) := by
  have h_after := h_after (P := P) (w := w) (base := base) T
  refine hasJ T.d_law_no_changes sc_law_no_changes (fun _ _ _ _ _ _ us hl => L2.usN3 (fun _ _ _ => rfl) us hl) ?_ fun f cdv A outer s H vs Q E hr h => ?_
  · rintro vs H Q E ⟨u, v, x, rfl, _⟩; rfl
  obtain ⟨u, v, x, rfl, hW, q⟩ := h
  have hu := hr.units0
  have hu64 := hr.units
  refine ⟨_, (jb_cons (js_try rfl rfl (fun pins R => (jb_one (js_expr (j_callX h_after (hr.mono (by decide)) (glF k_law_no_changes_after) pass_try (ja_cons (j_vL 0 k_law_no_changes__law_one) (ja_cons (j_vL 1 k_law_no_changes__law_other) ja_nil)) (by decide +kernel))))) (jh_as (K := K) (i := 3) rfl T.x_NoChanges.c (glF k_law_no_changes_NoChanges) (by decide +kernel) sc_law_no_changes.nd rfl k_law_no_changes_e (fun x => (jb_one (js_ret (j_and (j_cmp (op_eqE (K := K) rfl hu64) (j_fldX (K := K) rfl (j_vL 3 k_law_no_changes_e)) (j_vL 2 k_law_no_changes__law_wrong) (by first | exact nomark _ | with_unfolding_all rfl)) (j_and (j_callB (call_isiX (K := K) rfl) (glF k_law_no_changes_isinstance) T.b_isinstance bt_isinstance (ja_cons (j_vL 3 k_law_no_changes_e) (ja_cons (j_ty (glF k_law_no_changes_ValueError) T.b_ValueError bt_ValueError (by decide +kernel) (by decide +kernel)) ja_nil)) (by decide +kernel) (by decide +kernel)) (j_one (j_not (j_callB (call_isiX (K := K) rfl) (glF k_law_no_changes_isinstance) T.b_isinstance bt_isinstance (ja_cons (j_vL 3 k_law_no_changes_e) (ja_cons (j_tup (ja_cons (j_cls (glF k_law_no_changes_Unlike) T.x_Unlike.c.at_ (by decide +kernel)) (ja_cons (j_cls (glF k_law_no_changes_TooLong) T.x_TooLong.c.at_ (by decide +kernel)) ja_nil))) ja_nil)) (by decide +kernel) (by decide +kernel))))))))) (jh_no (K := K) rfl T.x_PaneError (glF k_law_no_changes_PaneError) (by decide +kernel) (fun x => (jb_one (js_ret j_bl))) jh_nil))) (jb_one (js_ret j_bl))), ?_⟩
  walk_at "sts"
  have fin : ∀ e H1, Same H H1 → IsX H1 e (clsA mg "NoChanges") [("found", x)] → Wrong K H x → True := fun _ _ _ _ _ => trivial
  rcases hW with ⟨hW, rfl⟩ | ⟨a, us, cs, rfl, hL, hW, rfl⟩
  · refine ⟨x, v, rfl, .one hW.1 (fun e H1 S1 X1 => ?_)⟩
    refine ⟨_, e, rfl, rfl, ?_⟩
    refine r_asT T.x_NoChanges.c.cl.cls T.u_NoChanges_NoChanges.mro ?_
    walk_at "sts"
    refine ⟨e, _, _, x, rfl, X1, T.x_NoChanges.c.cl.cls, T.x_NoChanges.na _ (by simp), rfl, ?_⟩
    walk_at "sts"
    refine hW.2 _ S1 _ ?_
    refine ⟨true, rfl, ?_⟩
    walk_at "sts"
    refine r_isiE X1 T.x_NoChanges.c.cl rfl T.v_NoChanges ?_
    walk_at "sts"
    refine r_new rfl fun p np => ?_
    walk_at "sts"
    refine r_isiET (X1.same ((Same.refl H1).upd np)) T.x_NoChanges.c.cl upd_same rfl (b := false) (by simp only [PySem.W.kitAny, T.u_NoChanges_Unlike.one, T.u_NoChanges_TooLong.one]) ?_
    walk_at "sts"
    exact q _ (S1.upd np)
  · refine ⟨.ref a, x, rfl, .two a us cs rfl hL hW.1 (fun e H1 S1 X1 => ?_)⟩
    refine ⟨_, e, rfl, rfl, ?_⟩
    refine r_asT T.x_NoChanges.c.cl.cls T.u_NoChanges_NoChanges.mro ?_
    walk_at "sts"
    refine ⟨e, _, _, x, rfl, X1, T.x_NoChanges.c.cl.cls, T.x_NoChanges.na _ (by simp), rfl, ?_⟩
    walk_at "sts"
    refine hW.2 _ S1 _ ?_
    refine ⟨true, rfl, ?_⟩
    walk_at "sts"
    refine r_isiE X1 T.x_NoChanges.c.cl rfl T.v_NoChanges ?_
    walk_at "sts"
    refine r_new rfl fun p np => ?_
    walk_at "sts"
    refine r_isiET (X1.same ((Same.refl H1).upd np)) T.x_NoChanges.c.cl upd_same rfl (b := false) (by simp only [PySem.W.kitAny, T.u_NoChanges_Unlike.one, T.u_NoChanges_TooLong.one]) ?_
    walk_at "sts"
    exact q _ (S1.upd np)
end

section
variable {P : Program} {w : World} {K : PySem.W.Frag} {mg : Str → Option Value} {base : Heap}
theorem k_law_told_after : (defScope s_law_told).names.lookup ("after" : Str) = some NameKind.globalImplicit := by decide +kernel
theorem k_law_told__law_other : (defScope s_law_told).names.lookup ("_law_other" : Str) = some NameKind.local := by decide +kernel
theorem k_law_told__law_one : (defScope s_law_told).names.lookup ("_law_one" : Str) = some NameKind.local := by decide +kernel
theorem k_law_told__law_due : (defScope s_law_told).names.lookup ("_law_due" : Str) = some NameKind.local := by decide +kernel
theorem k_law_told__law_many : (defScope s_law_told).names.lookup ("_law_many" : Str) = some NameKind.local := by decide +kernel
theorem k_law_told__law_pays : (defScope s_law_told).names.lookup ("_law_pays" : Str) = some NameKind.globalImplicit := by decide +kernel
theorem k_law_told__law_handed : (defScope s_law_told).names.lookup ("_law_handed" : Str) = some NameKind.local := by decide +kernel
theorem k_law_told__law_found : (defScope s_law_told).names.lookup ("_law_found" : Str) = some NameKind.local := by decide +kernel
theorem k_law_told_paid : (defScope s_law_told).names.lookup ("paid" : Str) = some NameKind.globalImplicit := by decide +kernel
theorem k_law_told_isinstance : (defScope s_law_told).names.lookup ("isinstance" : Str) = some NameKind.globalImplicit := by decide +kernel
theorem k_law_told_list : (defScope s_law_told).names.lookup ("list" : Str) = some NameKind.globalImplicit := by decide +kernel
theorem k_law_told_len : (defScope s_law_told).names.lookup ("len" : Str) = some NameKind.globalImplicit := by decide +kernel
theorem k_law_told__law_too_long : (defScope s_law_told).names.lookup ("_law_too_long" : Str) = some NameKind.globalImplicit := by decide +kernel
theorem k_law_told__law_after : (defScope s_law_told).names.lookup ("_law_after" : Str) = some NameKind.globalImplicit := by decide +kernel
theorem shaped_2 {as bs : List Cg} (h1 : ∀ c ∈ as, c.ok) (h2 : ∀ c ∈ bs, c.ok) : PySem.SeqAt.shaped (.list [.list (as.map Cg.dat), .list (bs.map Cg.dat)]) = true := by
  have one : ∀ {cs : List Cg}, (∀ c ∈ cs, c.ok) → (PyData.list (cs.map Cg.dat)).canLay0 = true ∧ (PyData.list (cs.map Cg.dat)).depth ≤ 2 := fun h => lay_list (n := 1) fun d hd => by
    obtain ⟨c, hc, rfl⟩ := List.mem_map.mp hd
    exact lay_cg (h c hc)
  refine lay_shaped (n := 3) (lay_list (n := 2) fun d hd => ?_) (by omega)
  simp only [List.mem_cons, List.mem_nil_iff, or_false] at hd
  rcases hd with rfl | rfl
  · exact one h1
  · exact one h2
noncomputable def spTold : Sp := fun vs H Q _ => ∃ (a : Addr) (us : List V) (cs : List Cg) (b : Addr) (ws : List V) (ds : List Cg) (z : List Cg), vs = [.ref a, .ref b] ∧ Lcs H a us cs ∧ Lcs H b ws ds ∧ Aft cs ds z ∧ ∀ H', Same H H' → Q (.bl true) H'
theorem sc_law_told : FnScope ["_law_one", "_law_other", "_law_due", "_law_handed", "_law_found", "_law_many"] ["_law_one", "_law_other"] (defScope s_law_told) := ⟨rfl, rfl, rfl, by decide +kernel, rfl, by decide +kernel, by decide +kernel⟩
theorem h_law_told (T : Txt K mg) : Has P w K mg base 7 "_law_told" ["_law_one", "_law_other"] spTold := by
  have h_law_after := h_law_after (P := P) (w := w) (base := base) T
  have h_law_too_long := h_law_too_long (P := P) (w := w) (base := base) T
  have h_after := h_after (P := P) (w := w) (base := base) T
  have h_paid := h_paid (P := P) (w := w) (base := base) T
  have h_law_pays := h_law_pays (P := P) (w := w) (base := base) T
  refine hasJ T.d_law_told sc_law_told (fun _ _ _ _ _ _ us hl => L2.usN2 (fun _ _ => rfl) us hl) ?_ fun f cdv A outer s H vs Q E hr h => ?_
  · rintro vs H Q E ⟨a, us, cs, b, ws, ds, z, rfl, _⟩; rfl
  obtain ⟨a, us, cs, b, ws, ds, z, rfl, hL, hM, hz, q⟩ := h
  have hu := hr.units0
  have hu64 := hr.units
  refine ⟨_, (jb_cons (js_set (i := 2) sc_law_told.nd rfl (Or.inl k_law_told__law_due) (j_call h_law_after (hr.mono (by decide)) (glF k_law_told__law_after) (ja_cons (j_vL 0 k_law_told__law_one) (ja_cons (j_vL 1 k_law_told__law_other) ja_nil)) (by decide +kernel)) rfl) (jb_cons (js_if (jt_cmp op_gt (j_callB (call_lenK (K := K) rfl) (glF k_law_told_len) T.b_len bt_len (ja_cons (j_vL 2 k_law_told__law_due) ja_nil) (by decide +kernel) (by decide +kernel)) j_int (by first | exact nomark _ | with_unfolding_all rfl)) (jb_one (js_ret (j_call h_law_too_long (hr.mono (by decide)) (glF k_law_told__law_too_long) (ja_cons (j_vL 0 k_law_told__law_one) (ja_cons (j_vL 1 k_law_told__law_other) (ja_cons (j_callB (call_lenK (K := K) rfl) (glF k_law_told_len) T.b_len bt_len (ja_cons (j_vL 2 k_law_told__law_due) ja_nil) (by decide +kernel) (by decide +kernel)) ja_nil))) (by decide +kernel)))) jb_nil) (jb_cons (js_set (i := 3) sc_law_told.nd rfl (Or.inl k_law_told__law_handed) (j_lst (ja_cons (j_callTy (call_listK (K := K) rfl rfl) (glF k_law_told_list) T.b_list bt_list (ja_cons (j_vL 0 k_law_told__law_one) ja_nil) (by decide +kernel) (by decide +kernel)) (ja_cons (j_callTy (call_listK (K := K) rfl rfl) (glF k_law_told_list) T.b_list bt_list (ja_cons (j_vL 1 k_law_told__law_other) ja_nil) (by decide +kernel) (by decide +kernel)) ja_nil))) rfl) (jb_cons (js_set (i := 4) sc_law_told.nd rfl (Or.inl k_law_told__law_found) (j_callX h_after (hr.mono (by decide)) (glF k_law_told_after) (passN fun _ _ => rfl) (ja_cons (j_ix (K := K) rfl (j_vL 3 k_law_told__law_handed) j_int) (ja_cons (j_ix (K := K) rfl (j_vL 3 k_law_told__law_handed) j_int) ja_nil)) (by decide +kernel)) rfl) (jb_cons (js_if (jw_pt (jw_or (jt_not (jt_val (j_callB (call_isiK (K := K) rfl) (glF k_law_told_isinstance) T.b_isinstance bt_isinstance (ja_cons (j_vL 4 k_law_told__law_found) (ja_cons (j_ty (glF k_law_told_list) T.b_list bt_list (by decide +kernel) (by decide +kernel)) ja_nil)) (by decide +kernel) (by decide +kernel)))) (jw_or (jt_cmp (op_neX (K := K) rfl hu64) (j_vL 4 k_law_told__law_found) (j_vL 2 k_law_told__law_due) (by first | exact nomark _ | with_unfolding_all rfl)) (jw_or1 (jt_cmp (op_neX (K := K) rfl hu64) (j_vL 3 k_law_told__law_handed) (j_lst (ja_cons (j_vL 0 k_law_told__law_one) (ja_cons (j_vL 1 k_law_told__law_other) ja_nil))) (by first | exact nomark _ | with_unfolding_all rfl)))))) (jb_one (js_ret j_bl)) jb_nil) (jb_cons (js_set (i := 5) sc_law_told.nd rfl (Or.inl k_law_told__law_many) (j_callX h_paid (hr.mono (by decide)) (glF k_law_told_paid) (passN fun _ _ => rfl) (ja_cons (j_vL 4 k_law_told__law_found) ja_nil) (by decide +kernel)) rfl) (jb_cons (js_expr (j_meth (K := K) rfl PySem.F.plainAttrs_list PySem.F.slot_list_append PySem.F.type_list_append mt_append (j_vL 4 k_law_told__law_found) (ja_cons (j_tup (ja_cons j_str (ja_cons j_str ja_nil))) ja_nil))) (jb_cons (js_if (jt_cmp (op_neX (K := K) rfl hu64) (j_vL 3 k_law_told__law_handed) (j_lst (ja_cons (j_vL 0 k_law_told__law_one) (ja_cons (j_vL 1 k_law_told__law_other) ja_nil))) (by first | exact nomark _ | with_unfolding_all rfl)) (jb_one (js_ret j_bl)) jb_nil) (jb_one (js_ret (j_and (j_cmp op_le (j_vL 5 k_law_told__law_many) (j_op op_addA (j_call h_law_pays (hr.mono (by decide)) (glF k_law_told__law_pays) (ja_cons (j_vL 0 k_law_told__law_one) ja_nil) (by decide +kernel)) (j_call h_law_pays (hr.mono (by decide)) (glF k_law_told__law_pays) (ja_cons (j_vL 1 k_law_told__law_other) ja_nil) (by decide +kernel))) (by first | exact nomark _ | with_unfolding_all rfl)) (j_one (j_cmp (op_eqE (K := K) rfl hu64) (j_callX h_after (hr.mono (by decide)) (glF k_law_told_after) (passN fun _ _ => rfl) (ja_cons (j_vL 0 k_law_told__law_one) (ja_cons (j_vL 1 k_law_told__law_other) ja_nil)) (by decide +kernel)) (j_vL 2 k_law_told__law_due) (by first | exact nomark _ | with_unfolding_all rfl)))))))))))))), ?_⟩
  walk_at "sts"
  have okz := aft_ok hz hL.2.2.1 hM.2.2.1
  have shz := shaped_cs okz
  have sh2 := shaped_2 hL.2.2.1 hM.2.2.1
  refine ⟨a, us, cs, b, ws, ds, z, rfl, hL, hM, hz, fun d ys H1 S1 hd => ?_⟩
  walk_at "sts"
  have hdl := hd.len
  refine r_lenL (SqL.of hd.1) ?_
  walk_at "sts"
  rw [hdl]
  refine iteD (fun h48 => ?_) (fun h48 => ?_)
  · walk_at "sts"
    refine r_lenL (SqL.of hd.1) ?_
    walk_at "sts"
    rw [hdl]
    exact ⟨a, us, cs, b, ws, ds, z, rfl, hL.same S1, hM.same S1, hz, by omega, fun H2 S2 => q _ (S1.trans S2)⟩
  · walk_at "sts"
    refine r_listL (SqL.of (S1 _ _ hL.1)) fun l1 n1 => ?_
    walk_at "sts"
    refine r_listL (SqL.of (upd_old n1 (S1 _ _ hM.1))) fun l2 n2 => ?_
    walk_at "sts"
    refine r_new rfl fun hh nh => ?_
    walk_at "sts"
    have S2 : Same H1 (upd (upd (upd H1 l1 (.lst us)) l2 (.lst ws)) hh (.lst [.ref l1, .ref l2])) := (((Same.refl H1).upd n1).upd n2).upd nh
    have hl1 : upd (upd (upd H1 l1 (.lst us)) l2 (.lst ws)) hh (.lst [.ref l1, .ref l2]) l1 = some (.lst us) := upd_old nh (upd_old n2 upd_same)
    have hl2 : upd (upd (upd H1 l1 (.lst us)) l2 (.lst ws)) hh (.lst [.ref l1, .ref l2]) l2 = some (.lst ws) := upd_old nh upd_same
    have hhh : upd (upd (upd H1 l1 (.lst us)) l2 (.lst ws)) hh (.lst [.ref l1, .ref l2]) hh = some (.lst [.ref l1, .ref l2]) := upd_same
    generalize upd (upd (upd H1 l1 (.lst us)) l2 (.lst ws)) hh (.lst [.ref l1, .ref l2]) = H2 at S2 hl1 hl2 hhh ⊢
    have hL2 := hL.same (S1.trans S2)
    have hM2 := hM.same (S1.trans S2)
    have hA : Lcs H2 l1 us cs := ⟨hl1, hL2.2⟩
    have hB : Lcs H2 l2 ws ds := ⟨hl2, hM2.2⟩
    walk_at "sts"
    refine ⟨.ref l1, .ref l2, rfl, .join l1 us cs l2 ws ds z rfl rfl hA hB hz (fun h => absurd h (by omega)) (fun _ g xs H3 ng S3 hg => ?_)⟩
    walk_at "sts"
    refine r_isi (.lst hg.1) rfl ?_
    walk_at "sts"
    refine r_neSame hg.dr ((hd.same S2).same S3).dr shz ?_
    walk_at "sts"
    refine r_new rfl fun p1 np1 => ?_
    walk_at "sts"
    have two : ∀ {G : Hp} {r : Addr} {c1 c2 : Addr}, G r = some (.lst [.ref c1, .ref c2]) → Lcs G c1 us cs → Lcs G c2 ws ds → DR G (.list [.list (cs.map Cg.dat), .list (ds.map Cg.dat)]) (.ref r) := fun h x y => DR_list.mpr ⟨_, _, rfl, h, DRs_cons.mpr ⟨_, _, rfl, x.dr, DRs_one y.dr⟩⟩
    have s1 : Same H3 (upd H3 p1 (.lst [.ref a, .ref b])) := (Same.refl H3).upd np1
    refine r_neSame (two (s1 _ _ (S3 _ _ hhh)) ((hA.same S3).same s1) ((hB.same S3).same s1)) (two upd_same ((hL2.same S3).same s1) ((hM2.same S3).same s1)) sh2 ?_
    walk_at "sts"
    refine ⟨g, xs, z, rfl, hg.same s1, fun H4 S4 => ?_⟩
    walk_at "sts"
    have s4 := s1.trans S4
    refine ⟨.inl ⟨rfl, _, SqL.of (s4 _ _ hg.1)⟩, ?_⟩
    walk_at "sts"
    refine r_new rfl fun p2 np2 => ?_
    walk_at "sts"
    have hlz : xs.length ≤ 48 := by rw [hg.len]; omega
    have s1000 : 1000 ≤ sizeLine := by decide
    refine r_append (upd_old np2 (s4 _ _ hg.1)) (by omega) ?_
    walk_at "sts"
    have S5 : Same H2 (upd (upd H4 p2 (.tup [.str (Str.ofString "in"), .str (Str.ofString "a")])) g (.lst (xs ++ [.ref p2]))) := Same.put ((S3.trans s4).upd np2) ng
    generalize upd (upd H4 p2 (.tup [.str (Str.ofString "in"), .str (Str.ofString "a")])) g (.lst (xs ++ [.ref p2])) = H5 at S5 ⊢
    refine r_new rfl fun p3 np3 => ?_
    walk_at "sts"
    have s5 : Same H5 (upd H5 p3 (.lst [.ref a, .ref b])) := (Same.refl H5).upd np3
    refine r_neSame (two (s5 _ _ (S5 _ _ hhh)) ((hA.same S5).same s5) ((hB.same S5).same s5)) (two upd_same ((hL2.same S5).same s5) ((hM2.same S5).same s5)) sh2 ?_
    walk_at "sts"
    have s6 := (S1.trans (S2.trans S5)).trans s5
    refine ⟨a, us, cs, rfl, hL.same s6, fun H6 S6 => ?_⟩
    walk_at "sts"
    refine ⟨b, ws, ds, rfl, hM.same (s6.trans S6), fun H7 S7 => ?_⟩
    walk_at "sts"
    rw [decide_eq_true (show (pays z : Int) ≤ (pays cs : Int) + (pays ds : Int) by have := aft_pays hz; omega)]
    have s7 := (s6.trans S6).trans S7
    walk_at "sts"
    refine ⟨.ref a, .ref b, rfl, .join a us cs b ws ds z rfl rfl (hL.same s7) (hM.same s7) hz (fun h => absurd h (by omega)) (fun _ g2 xs2 H8 ng2 S8 hg2 => ?_)⟩
    walk_at "sts"
    refine .inl (.inl (r_eqSame hg2.dr (hd.same (((S2.trans S5).trans s5).trans ((S6.trans S7).trans S8))).dr shz ?_))
    exact q _ (s7.trans S8)
end

section
variable {P : Program} {w : World} {K : PySem.W.Frag} {mg : Str → Option Value} {base : Heap}
theorem k_law_with_itself__law_changes : (defScope s_law_with_itself).names.lookup ("_law_changes" : Str) = some NameKind.local := by decide +kernel
theorem k_law_with_itself__law_kept : (defScope s_law_with_itself).names.lookup ("_law_kept" : Str) = some NameKind.local := by decide +kernel
theorem k_law_with_itself_range : (defScope s_law_with_itself).names.lookup ("range" : Str) = some NameKind.globalImplicit := by decide +kernel
theorem k_law_with_itself__law_turn : (defScope s_law_with_itself).names.lookup ("_law_turn" : Str) = some NameKind.local := by decide +kernel
theorem k_law_with_itself__law_found : (defScope s_law_with_itself).names.lookup ("_law_found" : Str) = some NameKind.local := by decide +kernel
theorem k_law_with_itself__law_due : (defScope s_law_with_itself).names.lookup ("_law_due" : Str) = some NameKind.local := by decide +kernel
theorem k_law_with_itself_isinstance : (defScope s_law_with_itself).names.lookup ("isinstance" : Str) = some NameKind.globalImplicit := by decide +kernel
theorem k_law_with_itself_list : (defScope s_law_with_itself).names.lookup ("list" : Str) = some NameKind.globalImplicit := by decide +kernel
theorem k_law_with_itself_after : (defScope s_law_with_itself).names.lookup ("after" : Str) = some NameKind.globalImplicit := by decide +kernel
theorem k_law_with_itself__law_after : (defScope s_law_with_itself).names.lookup ("_law_after" : Str) = some NameKind.globalImplicit := by decide +kernel
theorem k_law_there_and_back__law_changes : (defScope s_law_there_and_back).names.lookup ("_law_changes" : Str) = some NameKind.local := by decide +kernel
theorem k_law_there_and_back__law_row_here : (defScope s_law_there_and_back).names.lookup ("_law_row_here" : Str) = some NameKind.local := by decide +kernel
theorem k_law_there_and_back__law_letter_here : (defScope s_law_there_and_back).names.lookup ("_law_letter_here" : Str) = some NameKind.local := by decide +kernel
theorem k_law_there_and_back__law_number : (defScope s_law_there_and_back).names.lookup ("_law_number" : Str) = some NameKind.local := by decide +kernel
theorem k_law_moved_by_one__law_letter_here : (defScope s_law_moved_by_one).names.lookup ("_law_letter_here" : Str) = some NameKind.local := by decide +kernel
theorem k_law_moved_by_one__law_many : (defScope s_law_moved_by_one).names.lookup ("_law_many" : Str) = some NameKind.local := by decide +kernel
noncomputable def tb : List (Nat × Bool) → List Cg
  | [] => []
  | (i, false) :: bs => .keep i :: tb bs
  | (i, true) :: bs => .out i :: .inn i :: tb bs
theorem tb_self : ∀ bs : List (Nat × Bool), (∃ z, Aft (tb bs) (tb bs) z ∧ z.length = (tb bs).length) ∧ ∀ i, ∃ z, Aft (tb bs) (.inn i :: tb bs) z ∧ z.length = (tb bs).length + 1
  | [] => ⟨⟨[], .nil, rfl⟩, fun i => ⟨[.inn i], .inn rfl .nil, rfl⟩⟩
  | (j, false) :: bs => by
    obtain ⟨⟨z, hz, hl⟩, h2⟩ := tb_self bs
    have hm : Aft (.keep j :: tb bs) (.keep j :: tb bs) (met (.keep j) (.keep j) ++ z) := .met rfl rfl rfl hz
    have hlm : (met (.keep j) (.keep j)).length = 1 := rfl
    refine ⟨⟨_, hm, ?_⟩, fun i => ⟨_, .inn rfl hm, ?_⟩⟩
    · rw [List.length_append, hlm, hl]; show _ = (tb bs).length + 1; omega
    · rw [List.length_cons, List.length_append, hlm, hl]; show _ = (tb bs).length + 1 + 1; omega
  | (j, true) :: bs => by
    obtain ⟨_, h2⟩ := tb_self bs
    obtain ⟨z, hz, hl⟩ := h2 j
    have hm : Aft (.inn j :: tb bs) (.out j :: .inn j :: tb bs) (met (.inn j) (.out j) ++ z) := .met rfl rfl rfl hz
    have e0 : met (.inn j) (.out j) ++ z = z := rfl
    rw [e0] at hm
    refine ⟨⟨_, .out hm, ?_⟩, fun i => ⟨_, .out (.inn rfl hm), ?_⟩⟩
    · rw [List.length_cons, hl]; rfl
    · rw [List.length_cons, List.length_cons, hl]; rfl
theorem tb_app (as bs : List (Nat × Bool)) : tb (as ++ bs) = tb as ++ tb bs := by
  induction as with
  | nil => rfl
  | cons a as ih =>
    obtain ⟨i, b⟩ := a
    cases b <;> simp [tb, ih]
theorem tb_len (bs : List (Nat × Bool)) : (tb bs).length ≤ 2 * bs.length := by
  induction bs with
  | nil => exact Nat.le_refl _
  | cons a as ih =>
    obtain ⟨i, b⟩ := a
    cases b <;> simp [tb] <;> omega
theorem tb_ok : ∀ (bs : List (Nat × Bool)), (∀ p ∈ bs, p.1 < 26) → ∀ c ∈ tb bs, c.ok
  | [], _, c, hc => by cases hc
  | (i, false) :: bs, h, c, hc => by
    rcases List.mem_cons.mp hc with rfl | hc
    · exact h _ (List.mem_cons_self ..)
    · exact tb_ok bs (fun p hp => h p (List.mem_cons_of_mem _ hp)) c hc
  | (i, true) :: bs, h, c, hc => by
    rcases List.mem_cons.mp hc with rfl | hc
    · exact h _ (List.mem_cons_self ..)
    · rcases List.mem_cons.mp hc with rfl | hc
      · exact h _ (List.mem_cons_self ..)
      · exact tb_ok bs (fun p hp => h p (List.mem_cons_of_mem _ hp)) c hc
theorem aft_many2 {a b z : List Cg} (h : Aft a b z) : z.length ≤ a.length + (b.filter isIn).length := by
  induction h with
  | nil => exact Nat.le_refl _
  | out h ih => simp; omega
  | inn n h ih => rw [List.filter_cons_of_pos rfl]; simp; omega
  | @met m t xs ys zs hm ht e h ih =>
    have : (met m t).length ≤ 1 := by unfold met; cases m.oN <;> cases t.nN <;> simp [ofN]
    rw [List.length_append, List.filter_cons_of_neg (by simp [ht])]; simp; omega
noncomputable def mv (i m : Nat) : List Cg := .inn i :: (List.replicate m (Cg.keep i) ++ [.out i])
theorem mv_self {i m : Nat} : ∃ z, Aft (mv i m) (mv i m) z ∧ z.length ≤ m + 3 := by
  have fk : ∀ m, (List.replicate m (Cg.keep i)).filterMap Cg.nN = List.replicate m i ∧ (List.replicate m (Cg.keep i)).filterMap Cg.oN = List.replicate m i := fun m => by
    induction m with
    | zero => exact ⟨rfl, rfl⟩
    | succ m ih => rw [List.replicate_succ, List.replicate_succ, fm_cons, fm_cons, ih.1, ih.2]; exact ⟨rfl, rfl⟩
  obtain ⟨z, hz⟩ := aft_ex _ (mv i m) (mv i m) (Nat.le_refl _) (by
    unfold mv
    rw [fm_cons, fm_cons, List.filterMap_append, List.filterMap_append, (fk m).1, (fk m).2]
    show [i] ++ (List.replicate m i ++ []) = [] ++ (List.replicate m i ++ [i])
    rw [List.append_nil, List.nil_append, ← List.replicate_succ', List.replicate_succ]; rfl)
  refine ⟨z, hz, Nat.le_trans (aft_many2 hz) ?_⟩
  have fi : ((mv i m).filter isIn).length = 1 := by
    unfold mv
    rw [List.filter_cons_of_pos rfl, List.filter_append]
    have : (List.replicate m (Cg.keep i)).filter isIn = [] := by
      rw [List.filter_eq_nil_iff]
      intro c hc
      rw [(List.mem_replicate.mp hc).2]; simp [isIn]
    rw [this]; rfl
  rw [fi]
  unfold mv
  simp
noncomputable def spSelf : Sp := fun vs H Q _ => ∃ (a : Addr) (us : List V) (cs : List Cg) (z : List Cg), vs = [.ref a] ∧ Lcs H a us cs ∧ Aft cs cs z ∧ z.length ≤ 48 ∧ ∀ H', Same H H' → Q (.bl true) H'
theorem sc_law_with_itself : FnScope ["_law_changes", "_law_kept", "_law_due", "_law_turn", "_law_found"] ["_law_changes"] (defScope s_law_with_itself) := ⟨rfl, rfl, rfl, by decide +kernel, rfl, by decide +kernel, by decide +kernel⟩
theorem h_law_with_itself (T : Txt K mg) : Has P w K mg base 6 "_law_with_itself" ["_law_changes"] spSelf := by
  have h_law_after := h_law_after (P := P) (w := w) (base := base) T
  have h_after := h_after (P := P) (w := w) (base := base) T
  refine hasJ T.d_law_with_itself sc_law_with_itself (fun _ _ _ _ _ _ us hl => L2.usN1 (fun _ => rfl) us hl) ?_ fun f cdv A outer s H vs Q E hr h => ?_
  · rintro vs H Q E ⟨a, us, cs, z, rfl, _⟩; rfl
  obtain ⟨a, us, cs, z, rfl, hL, hz, h48, q⟩ := h
  have hu := hr.units0
  have hu64 := hr.units
  refine ⟨_, (jb_cons (js_set (i := 1) sc_law_with_itself.nd rfl (Or.inl k_law_with_itself__law_kept) (j_callTy (call_listK (K := K) rfl rfl) (glF k_law_with_itself_list) T.b_list bt_list (ja_cons (j_vL 0 k_law_with_itself__law_changes) ja_nil) (by decide +kernel) (by decide +kernel)) rfl) (jb_cons (js_set (i := 2) sc_law_with_itself.nd rfl (Or.inl k_law_with_itself__law_due) (j_call h_law_after (hr.mono (by decide)) (glF k_law_with_itself__law_after) (ja_cons (j_vL 1 k_law_with_itself__law_kept) (ja_cons (j_vL 1 k_law_with_itself__law_kept) ja_nil)) (by decide +kernel)) rfl) (jb_cons (js_for PassesOwn.never rfl (ji_range1 (glF k_law_with_itself_range) T.b_range (ja_cons j_int ja_nil)) (jg_name (i := 3) sc_law_with_itself.nd rfl (Or.inl k_law_with_itself__law_turn) rfl) (jb_cons (js_set (i := 4) sc_law_with_itself.nd rfl (Or.inl k_law_with_itself__law_found) (j_callX h_after (hr.mono (by decide)) (glF k_law_with_itself_after) (passN fun _ _ => rfl) (ja_cons (j_vL 0 k_law_with_itself__law_changes) (ja_cons (j_vL 0 k_law_with_itself__law_changes) ja_nil)) (by decide +kernel)) rfl) (jb_cons (js_if (jw_pt (jw_or (jt_not (jt_val (j_callB (call_isiK (K := K) rfl) (glF k_law_with_itself_isinstance) T.b_isinstance bt_isinstance (ja_cons (j_vL 4 k_law_with_itself__law_found) (ja_cons (j_ty (glF k_law_with_itself_list) T.b_list bt_list (by decide +kernel) (by decide +kernel)) ja_nil)) (by decide +kernel) (by decide +kernel)))) (jw_or (jt_cmp (op_neX (K := K) rfl hu64) (j_vL 4 k_law_with_itself__law_found) (j_vL 2 k_law_with_itself__law_due) (by first | exact nomark _ | with_unfolding_all rfl)) (jw_or1 (jt_cmp (op_neX (K := K) rfl hu64) (j_vL 0 k_law_with_itself__law_changes) (j_vL 1 k_law_with_itself__law_kept) (by first | exact nomark _ | with_unfolding_all rfl)))))) (jb_one (js_ret j_bl)) jb_nil) (jb_one (js_expr (j_meth (K := K) rfl PySem.F.plainAttrs_list PySem.F.slot_list_append PySem.F.type_list_append mt_append (j_vL 4 k_law_with_itself__law_found) (ja_cons (j_tup (ja_cons j_str (ja_cons j_str ja_nil))) ja_nil))))))) (jb_one (js_ret (j_cmp (op_eqE (K := K) rfl hu64) (j_vL 0 k_law_with_itself__law_changes) (j_vL 1 k_law_with_itself__law_kept) (by first | exact nomark _ | with_unfolding_all rfl))))))), ?_⟩
  walk_at "sts"
  have okz := aft_ok hz hL.2.2.1 hL.2.2.1
  have shz := shaped_cs okz
  have shc := shaped_cs hL.2.2.1
  refine r_listL (SqL.of hL.1) fun kp nk => ?_
  walk_at "sts"
  have S1 : Same H (upd H kp (.lst us)) := (Same.refl H).upd nk
  have hK : Lcs (upd H kp (.lst us)) kp us cs := ⟨upd_same, (hL.same S1).2⟩
  generalize upd H kp (.lst us) = H1 at S1 hK ⊢
  refine ⟨kp, us, cs, kp, us, cs, z, rfl, hK, hK, hz, fun d ys H2 S2 hd => ?_⟩
  walk_at "sts"
  have S02 := S1.trans S2
  refine ⟨2, rfl, by decide, by decide, ?_⟩
  refine for_range (lo := 0) (n := 2) (fun k σ H' => ∃ (x3 x4 : Option V), σ = [some (.ref a), some (.ref kp), some (.ref d), x3, x4] ∧ Same H2 H') ⟨none, none, rfl, Same.refl _⟩ ?_ ?_
  · rintro i σ H' hi ⟨x3, x4, rfl, s⟩
    have hLs := hL.same (S02.trans s)
    walk_at "sts"
    refine ⟨.ref a, .ref a, rfl, .join a us cs a us cs z rfl rfl hLs hLs hz (fun h => absurd h (by omega)) (fun _ g xs H3 ng S3 hg => ?_)⟩
    walk_at "sts"
    refine r_isi (.lst hg.1) rfl ?_
    walk_at "sts"
    refine r_neSame hg.dr (hd.same (s.trans S3)).dr shz ?_
    walk_at "sts"
    refine r_neSame (hLs.same S3).dr (hK.same ((S2.trans s).trans S3)).dr shc ?_
    walk_at "sts"
    refine ⟨.inl ⟨rfl, _, SqL.of hg.1⟩, ?_⟩
    walk_at "sts"
    refine r_new rfl fun p np => ?_
    walk_at "sts"
    have hlz : xs.length ≤ 48 := by rw [hg.len]; omega
    have s1000 : 1000 ≤ sizeLine := by decide
    refine r_append (upd_old np hg.1) (by omega) ?_
    walk_at "sts"
    exact ⟨_, _, rfl, s.trans (Same.put (S3.upd np) ng)⟩
  · rintro σ H' ⟨x3, x4, rfl, s⟩
    walk_at "sts"
    refine .inl (.inl (r_eqSame (hL.same (S02.trans s)).dr (hK.same (S2.trans s)).dr shc ?_))
    exact q _ (S02.trans s)
noncomputable def spTB : Sp := fun vs H Q _ => ∃ (z : Str) (ns : List Nat) (n : Int), vs = [.str z, .int n] ∧ RowN z ns ∧ ns.length ≤ 24 ∧ ∀ f us bs H', Same H H' → Lcs H' f us (tb bs) → Q (.ref f) H'
theorem sc_law_there_and_back : FnScope ["_law_row_here", "_law_number", "_law_changes", "_law_letter_here"] ["_law_row_here", "_law_number"] (defScope s_law_there_and_back) := ⟨rfl, rfl, rfl, by decide +kernel, rfl, by decide +kernel, by decide +kernel⟩
theorem h_law_there_and_back (T : Txt K mg) : Has P w K mg base 1 "_law_there_and_back" ["_law_row_here", "_law_number"] spTB := by
  refine hasJ T.d_law_there_and_back sc_law_there_and_back (fun _ _ _ _ _ _ us hl => L2.usN2 (fun _ _ => rfl) us hl) ?_ fun f cdv A outer s H vs Q E hr h => ?_
  · rintro vs H Q E ⟨z, ns, n, rfl, _⟩; rfl
  obtain ⟨z, ns, n, rfl, hR, h24, q⟩ := h
  have hu := hr.units0
  have hu64 := hr.units
  refine ⟨_, (jb_cons (js_set (i := 2) sc_law_there_and_back.nd rfl (Or.inl k_law_there_and_back__law_changes) (j_lst ja_nil) rfl) (jb_cons (js_for PassesOwn.never rfl (ji_seq (K := K) rfl (j_vL 0 k_law_there_and_back__law_row_here)) (jg_name (i := 3) sc_law_there_and_back.nd rfl (Or.inl k_law_there_and_back__law_letter_here) rfl) (jb_cons (js_if (jt_cmp (op_eqE (K := K) rfl hu64) (j_op op_mod (j_vL 1 k_law_there_and_back__law_number) j_int) j_int (by first | exact nomark _ | with_unfolding_all rfl)) (jb_one (js_expr (j_meth (K := K) rfl PySem.F.plainAttrs_list PySem.F.slot_list_append PySem.F.type_list_append mt_append (j_vL 2 k_law_there_and_back__law_changes) (ja_cons (j_tup (ja_cons j_str (ja_cons (j_vL 3 k_law_there_and_back__law_letter_here) ja_nil))) ja_nil)))) (jb_one (js_set (i := 2) sc_law_there_and_back.nd rfl (Or.inl k_law_there_and_back__law_changes) (j_op op_addA (j_vL 2 k_law_there_and_back__law_changes) (j_lst (ja_cons (j_tup (ja_cons j_str (ja_cons (j_vL 3 k_law_there_and_back__law_letter_here) ja_nil))) (ja_cons (j_tup (ja_cons j_str (ja_cons (j_vL 3 k_law_there_and_back__law_letter_here) ja_nil))) ja_nil)))) rfl))) (jb_one (js_set (i := 1) sc_law_there_and_back.nd rfl (Or.inl k_law_there_and_back__law_number) (j_op op_fdiv (j_vL 1 k_law_there_and_back__law_number) j_int) rfl)))) (jb_one (js_ret (j_vL 2 k_law_there_and_back__law_changes))))), ?_⟩
  walk_at "sts"
  have hzl := hR.len
  have s1000 : 1000 ≤ sizeLine := by decide
  refine r_new rfl fun f nf => ?_
  walk_at "sts"
  refine .inr (.inr ⟨z, rfl, ?_⟩)
  refine for_str (fun i σ H' => ∃ (m : Int) (f : Addr) (us : List V) (bs : List (Nat × Bool)) (x : Option V), σ = [some (.str z), some (.int m), some (.ref f), x] ∧ Same H H' ∧ H f = none ∧ H' f = some (.lst us) ∧ DRs H' ((tb bs).map Cg.dat) us ∧ bs.length = i ∧ i ≤ ns.length ∧ ∀ p ∈ bs, p.1 < 26) ⟨n, f, [], [], none, rfl, (Same.refl H).upd nf, nf, upd_same, DRs_nil.mpr rfl, rfl, Nat.zero_le _, fun p h => by cases h⟩ ?_ ?_
  · rintro i σ H' c hc ⟨m, f, us, bs, x, rfl, s, nf, hf, hD, hb, hi, hp⟩
    rw [hR.1, List.getElem?_map] at hc
    obtain ⟨j, hj, ec⟩ : ∃ j, ns[i]? = some j ∧ c = lc j := by
      cases e : ns[i]? with
      | none => rw [e] at hc; cases hc
      | some y => rw [e] at hc; exact ⟨y, rfl, (Option.some.inj hc).symm⟩
    subst ec
    have hj26 := hR.2 j (List.mem_of_getElem? hj)
    have hi2 := (List.getElem?_eq_some_iff.mp hj).1
    have hul := DRs_len hD
    rw [List.length_map] at hul
    have htl := tb_len bs
    have okn : ∀ b, ∀ p ∈ bs ++ [(j, b)], p.1 < 26 := fun b p hpp => by
      rcases List.mem_append.mp hpp with h | h
      · exact hp p h
      · rw [List.mem_singleton.mp h]; exact hj26
    walk_at "sts"
    refine iteD (fun h0 => ?_) (fun h0 => ?_)
    · walk_at "sts"
      refine ⟨.inl ⟨rfl, _, SqL.of hf⟩, ?_⟩
      walk_at "sts"
      refine r_new rfl fun t nt => ?_
      walk_at "sts"
      refine r_append (upd_old nt hf) (by omega) ?_
      walk_at "sts"
      refine ⟨_, f, _, bs ++ [(j, false)], _, rfl, Same.put (s.upd nt) nf, nf, upd_same, ?_, by simp; omega, by omega, okn _⟩
      refine DRs_put (upd_old nt hf) ?_
      rw [tb_app, List.map_append]
      exact DRs_append (DRs.same ((Same.refl H').upd nt) _ _ hD) (DRs_one (DR_cg.mpr ⟨t, rfl, upd_same⟩))
    · walk_at "sts"
      refine r_new rfl fun t1 n1 => ?_
      walk_at "sts"
      refine r_new rfl fun t2 n2 => ?_
      walk_at "sts"
      refine r_new rfl fun l nl => ?_
      walk_at "sts"
      refine r_addL (upd_old nl (upd_old n2 (upd_old n1 hf))) upd_same (by simp; omega) fun p np => ?_
      walk_at "sts"
      have sF : Same H' (upd (upd (upd (upd H' t1 (.tup [.str (Str.ofString "out"), .str (lS j)])) t2 (.tup [.str (Str.ofString "in"), .str (lS j)])) l (.lst [.ref t1, .ref t2])) p (.lst (us ++ [.ref t1, .ref t2]))) := ((((Same.refl H').upd n1).upd n2).upd nl).upd np
      refine ⟨_, p, _, bs ++ [(j, true)], _, rfl, s.trans sF, ?_, upd_same, ?_, by simp; omega, by omega, okn _⟩
      · exact Same.back ((((s.upd n1).upd n2).upd nl)) np
      · rw [tb_app, List.map_append]
        refine DRs_append (DRs.same sF _ _ hD) (DRs_cons.mpr ⟨_, _, rfl, DR_cg.mpr ⟨t1, rfl, upd_old np (upd_old nl (upd_old n2 upd_same))⟩, DRs_one (DR_cg.mpr ⟨t2, rfl, upd_old np (upd_old nl upd_same)⟩)⟩)
  · rintro σ H' ⟨m, f, us, bs, x, rfl, s, nf, hf, hD, hb, hi, hp⟩
    walk_at "sts"
    refine q f us bs H' s ⟨hf, hD, tb_ok bs hp, ?_⟩
    have := tb_len bs
    omega
theorem flat_rep (x : V) : ∀ m : Nat, (List.replicate m [x]).flatten = List.replicate m x
  | 0 => rfl
  | m + 1 => by rw [List.replicate_succ, List.flatten_cons, flat_rep x m, List.replicate_succ]; rfl
noncomputable def spMv : Sp := fun vs H Q _ => ∃ (i m : Nat), vs = [.str (lS i), .int m] ∧ i < 26 ∧ m ≤ 24 ∧ ∀ f us H', Same H H' → Lcs H' f us (mv i m) → Q (.ref f) H'
theorem sc_law_moved_by_one : FnScope ["_law_letter_here", "_law_many"] ["_law_letter_here", "_law_many"] (defScope s_law_moved_by_one) := ⟨rfl, rfl, rfl, by decide +kernel, rfl, by decide +kernel, by decide +kernel⟩
theorem h_law_moved_by_one (T : Txt K mg) : Has P w K mg base 1 "_law_moved_by_one" ["_law_letter_here", "_law_many"] spMv := by
  refine hasJ T.d_law_moved_by_one sc_law_moved_by_one (fun _ _ _ _ _ _ us hl => L2.usN2 (fun _ _ => rfl) us hl) ?_ fun f cdv A outer s H vs Q E hr h => ?_
  · rintro vs H Q E ⟨i, m, rfl, _⟩; rfl
  obtain ⟨i, m, rfl, hi, hm, q⟩ := h
  have hu := hr.units0
  have hu64 := hr.units
  refine ⟨_, (jb_one (js_ret (j_op op_addA (j_op op_addA (j_lst (ja_cons (j_tup (ja_cons j_str (ja_cons (j_vL 0 k_law_moved_by_one__law_letter_here) ja_nil))) ja_nil)) (j_op op_mulA (j_lst (ja_cons (j_tup (ja_cons j_str (ja_cons (j_vL 0 k_law_moved_by_one__law_letter_here) ja_nil))) ja_nil)) (j_vL 1 k_law_moved_by_one__law_many))) (j_lst (ja_cons (j_tup (ja_cons j_str (ja_cons (j_vL 0 k_law_moved_by_one__law_letter_here) ja_nil))) ja_nil))))), ?_⟩
  walk_at "sts"
  have s1000 : 1000 ≤ sizeLine := by decide
  refine r_new rfl fun t1 n1 => ?_
  walk_at "sts"
  refine r_new rfl fun l1 m1 => ?_
  walk_at "sts"
  refine r_new rfl fun t2 n2 => ?_
  walk_at "sts"
  refine r_new rfl fun l2 m2 => ?_
  walk_at "sts"
  refine r_mulL (k := m) upd_same (by omega) (by omega) (by simp; omega) fun l3 m3 => ?_
  walk_at "sts"
  have efl : (List.replicate (m : Int).toNat [V.ref t2]).flatten = List.replicate m (V.ref t2) := by rw [Int.toNat_natCast]; exact flat_rep _ m
  rw [efl]
  refine r_addL (upd_old m3 (upd_old m2 (upd_old n2 upd_same))) upd_same (by simp; omega) fun l4 m4 => ?_
  walk_at "sts"
  refine r_new rfl fun t3 n3 => ?_
  walk_at "sts"
  refine r_new rfl fun l5 m5 => ?_
  walk_at "sts"
  refine r_addL (upd_old m5 (upd_old n3 upd_same)) upd_same (by simp; omega) fun p np => ?_
  have hok : ∀ c ∈ mv i m, c.ok := fun c hc => by
    unfold mv at hc
    rcases List.mem_cons.mp hc with rfl | hc
    · exact hi
    · rcases List.mem_append.mp hc with hc | hc
      · rw [(List.mem_replicate.mp hc).2]; exact hi
      · rw [List.mem_singleton.mp hc]; exact hi
  refine q p _ _ (((((((((Same.refl H).upd n1).upd m1).upd n2).upd m2).upd m3).upd m4).upd n3).upd m5 |>.upd np) ⟨upd_same, ?_, hok, by unfold mv; simp; omega⟩
  show DRs _ (Cg.dat (.inn i) :: (List.replicate m (Cg.keep i) ++ [Cg.out i]).map Cg.dat) (V.ref t1 :: (List.replicate m (V.ref t2) ++ [V.ref t3]))
  refine DRs_cons.mpr ⟨_, _, rfl, DR_cg.mpr ⟨t1, rfl, ?_⟩, ?_⟩
  · exact upd_old np (upd_old m5 (upd_old n3 (upd_old m4 (upd_old m3 (upd_old m2 (upd_old n2 (upd_old m1 upd_same)))))))
  · rw [List.map_append]
    refine DRs_append ?_ (DRs_one (DR_cg.mpr ⟨t3, rfl, upd_old np (upd_old m5 upd_same)⟩))
    refine DRs_of (by simp) fun k v hv => ?_
    rw [List.getElem?_replicate] at hv
    split at hv
    · rename_i hk
      cases hv
      refine ⟨Cg.dat (.keep i), by rw [List.getElem?_map, List.getElem?_replicate, if_pos hk]; rfl, DR_cg.mpr ⟨t2, rfl, ?_⟩⟩
      exact upd_old np (upd_old m5 (upd_old n3 (upd_old m4 (upd_old m3 (upd_old m2 upd_same)))))
    · cases hv
end

section
variable {P : Program} {w : World} {K : PySem.W.Frag} {mg : Str → Option Value} {base : Heap}
theorem k_law_very_thing__law_kept : (defScope s_law_very_thing).names.lookup ("_law_kept" : Str) = some NameKind.local := by decide +kernel
theorem k_law_very_thing__law_bad : (defScope s_law_very_thing).names.lookup ("_law_bad" : Str) = some NameKind.local := by decide +kernel
theorem k_law_very_thing_NoChanges : (defScope s_law_very_thing).names.lookup ("NoChanges" : Str) = some NameKind.globalImplicit := by decide +kernel
theorem k_law_very_thing_e : (defScope s_law_very_thing).names.lookup ("e" : Str) = some NameKind.local := by decide +kernel
theorem k_law_very_thing_after : (defScope s_law_very_thing).names.lookup ("after" : Str) = some NameKind.globalImplicit := by decide +kernel
theorem k_law_very_thing__law_other : (defScope s_law_very_thing).names.lookup ("_law_other" : Str) = some NameKind.local := by decide +kernel
theorem k_law_very_thing__law_one : (defScope s_law_very_thing).names.lookup ("_law_one" : Str) = some NameKind.local := by decide +kernel
noncomputable def dNA : PyData := .list [.none, .str (Str.ofString "a")]
noncomputable def spVery (K : PySem.W.Frag) : Sp := fun vs H Q _ => ∃ (a : Addr) (us : List V) (cs : List Cg) (o : V), vs = [.ref a, o] ∧ Lcs H a us cs ∧ ∀ H', Same H H' → Q (.bl true) H'
theorem sc_law_very_thing : FnScope ["_law_one", "_law_other", "_law_bad", "_law_kept", "e"] ["_law_one", "_law_other"] (defScope s_law_very_thing) := ⟨rfl, rfl, rfl, by decide +kernel, rfl, by decide +kernel, by decide +kernel⟩
theorem h_law_very_thing (T : Txt K mg) : Has P w K mg base 6 "_law_very_thing" ["_law_one", "_law_other"] (spVery K) := by
  have h_after := h_after (P := P) (w := w) (base := base) T
  refine hasJ T.d_law_very_thing sc_law_very_thing (fun _ _ _ _ _ _ us hl => L2.usN2 (fun _ _ => rfl) us hl) ?_ fun f cdv A outer s H vs Q E hr h => ?_
  · rintro vs H Q E ⟨a, us, cs, o, rfl, _⟩; rfl
  obtain ⟨a, us, cs, o, rfl, hL, q⟩ := h
  have hu := hr.units0
  have hu64 := hr.units
  refine ⟨_, (jb_cons (js_set (i := 2) sc_law_very_thing.nd rfl (Or.inl k_law_very_thing__law_bad) (j_lst (ja_cons j_non ja_nil)) rfl) (jb_cons (js_set (i := 3) sc_law_very_thing.nd rfl (Or.inl k_law_very_thing__law_kept) (j_lst ja_nil) rfl) (jb_cons (js_try rfl rfl (fun pins R => (jb_one (js_expr (j_callX h_after (hr.mono (by decide)) (glF k_law_very_thing_after) pass_try (ja_cons (j_vL 0 k_law_very_thing__law_one) (ja_cons (j_vL 2 k_law_very_thing__law_bad) ja_nil)) (by decide +kernel))))) (jh_as (K := K) (i := 4) rfl T.x_NoChanges.c (glF k_law_very_thing_NoChanges) (by decide +kernel) sc_law_very_thing.nd rfl k_law_very_thing_e (fun x => (jb_one (js_expr (j_meth (K := K) rfl PySem.F.plainAttrs_list PySem.F.slot_list_append PySem.F.type_list_append mt_append (j_vL 3 k_law_very_thing__law_kept) (ja_cons (j_fldX (K := K) rfl (j_vL 4 k_law_very_thing_e)) ja_nil))))) jh_nil)) (jb_cons (js_try rfl rfl (fun pins R => (jb_one (js_expr (j_callX h_after (hr.mono (by decide)) (glF k_law_very_thing_after) pass_try (ja_cons (j_vL 2 k_law_very_thing__law_bad) (ja_cons (j_vL 1 k_law_very_thing__law_other) ja_nil)) (by decide +kernel))))) (jh_as (K := K) (i := 4) rfl T.x_NoChanges.c (glF k_law_very_thing_NoChanges) (by decide +kernel) sc_law_very_thing.nd rfl k_law_very_thing_e (fun x => (jb_one (js_expr (j_meth (K := K) rfl PySem.F.plainAttrs_list PySem.F.slot_list_append PySem.F.type_list_append mt_append (j_vL 3 k_law_very_thing__law_kept) (ja_cons (j_fldX (K := K) rfl (j_vL 4 k_law_very_thing_e)) ja_nil))))) jh_nil)) (jb_cons (js_expr (j_meth (K := K) rfl PySem.F.plainAttrs_list PySem.F.slot_list_append PySem.F.type_list_append mt_append (j_vL 2 k_law_very_thing__law_bad) (ja_cons j_str ja_nil))) (jb_one (js_ret (j_cmp (op_eqE (K := K) rfl hu64) (j_vL 3 k_law_very_thing__law_kept) (j_lst (ja_cons (j_lst (ja_cons j_non (ja_cons j_str ja_nil))) (ja_cons (j_lst (ja_cons j_non (ja_cons j_str ja_nil))) ja_nil))) (by first | exact nomark _ | with_unfolding_all rfl))))))))), ?_⟩
  walk_at "sts"
  refine r_new rfl fun b nb => ?_
  walk_at "sts"
  refine r_new rfl fun k nk => ?_
  walk_at "sts"
  have kb : k ≠ b := fun e => by rw [e, upd_same] at nk; cases nk
  have hk0 : H k = none := Same.back ((Same.refl H).upd nb) nk
  have hb1 : upd (upd H b (.lst [.non])) k (.lst []) b = some (.lst [.non]) := upd_old nk upd_same
  have S1 : Same H (upd (upd H b (.lst [.non])) k (.lst [])) := ((Same.refl H).upd nb).upd nk
  have hk1 : upd (upd H b (.lst [.non])) k (.lst []) k = some (.lst []) := upd_same
  generalize upd (upd H b (.lst [.non])) k (.lst []) = H1 at hb1 S1 hk1 ⊢
  have bad : ∀ {G : Hp}, G b = some (.lst [.non]) → Chs K G (.ref b) false := fun h => chs_any h (by simp) (fun u hu => by rw [List.mem_singleton.mp hu]; exact ⟨false, .inr ⟨"NoneType", .non, rfl, rfl⟩⟩) (.inr ⟨.non, by simp, .inr ⟨"NoneType", .non, rfl, rfl⟩⟩)
  refine ⟨.ref a, .ref b, rfl, .two a us cs rfl (hL.same S1) (bad hb1) (fun e H2 S2 X2 => ?_)⟩
  refine ⟨_, e, rfl, rfl, ?_⟩
  refine r_asT T.x_NoChanges.c.cl.cls T.u_NoChanges_NoChanges.mro ?_
  walk_at "sts"
  refine ⟨.inl ⟨rfl, _, SqL.of (S2 _ _ hk1)⟩, ?_⟩
  walk_at "sts"
  refine ⟨e, _, _, .ref b, rfl, X2, T.x_NoChanges.c.cl.cls, T.x_NoChanges.na _ (by simp), rfl, ?_⟩
  walk_at "sts"
  refine r_append (S2 _ _ hk1) (by decide) ?_
  walk_at "sts"
  have hb3 : upd H2 k (.lst ([] ++ [.ref b])) b = some (.lst [.non]) := by rw [upd_ne (Ne.symm kb)]; exact S2 _ _ hb1
  have hk3 : upd H2 k (.lst ([] ++ [.ref b])) k = some (.lst [.ref b]) := upd_same
  have S3 : Same H (upd H2 k (.lst ([] ++ [.ref b]))) := Same.put (S1.trans S2) hk0
  generalize upd H2 k (.lst ([] ++ [.ref b])) = H3 at hb3 hk3 S3 ⊢
  refine ⟨.ref b, o, rfl, .one (bad hb3) (fun e H4 S4 X4 => ?_)⟩
  refine ⟨_, e, rfl, rfl, ?_⟩
  refine r_asT T.x_NoChanges.c.cl.cls T.u_NoChanges_NoChanges.mro ?_
  walk_at "sts"
  refine ⟨.inl ⟨rfl, _, SqL.of (S4 _ _ hk3)⟩, ?_⟩
  walk_at "sts"
  refine ⟨e, _, _, .ref b, rfl, X4, T.x_NoChanges.c.cl.cls, T.x_NoChanges.na _ (by simp), rfl, ?_⟩
  walk_at "sts"
  refine r_append (S4 _ _ hk3) (show 1 < sizeLine by decide) ?_
  walk_at "sts"
  have hb5 : upd H4 k (.lst ([.ref b] ++ [.ref b])) b = some (.lst [.non]) := by rw [upd_ne (Ne.symm kb)]; exact S4 _ _ hb3
  have hk5 : upd H4 k (.lst ([.ref b] ++ [.ref b])) k = some (.lst [.ref b, .ref b]) := upd_same
  have S5 : Same H (upd H4 k (.lst ([.ref b] ++ [.ref b]))) := Same.put (S3.trans S4) hk0
  generalize upd H4 k (.lst ([.ref b] ++ [.ref b])) = H5 at hb5 hk5 S5 ⊢
  refine ⟨.inl ⟨rfl, _, SqL.of hb5⟩, ?_⟩
  walk_at "sts"
  refine r_append hb5 (by decide) ?_
  walk_at "sts"
  have hb6 : upd H5 b (.lst ([.non] ++ [.str (Str.ofString "a")])) b = some (.lst [.non, .str (Str.ofString "a")]) := upd_same
  have hk6 : upd H5 b (.lst ([.non] ++ [.str (Str.ofString "a")])) k = some (.lst [.ref b, .ref b]) := by rw [upd_ne kb]; exact hk5
  have S6 : Same H (upd H5 b (.lst ([.non] ++ [.str (Str.ofString "a")]))) := Same.put S5 nb
  generalize upd H5 b (.lst ([.non] ++ [.str (Str.ofString "a")])) = H6 at hb6 hk6 S6 ⊢
  refine r_new rfl fun p1 n1 => ?_
  walk_at "sts"
  refine r_new rfl fun p2 n2 => ?_
  walk_at "sts"
  refine r_new rfl fun p3 n3 => ?_
  walk_at "sts"
  have one : ∀ {G : Hp} {r : Addr}, G r = some (.lst [.non, .str (Str.ofString "a")]) → DR G dNA (.ref r) := fun h => DR_list.mpr ⟨_, _, rfl, h, DRs_cons.mpr ⟨_, _, rfl, DR_none.mpr rfl, DRs_one (DR_str.mpr rfl)⟩⟩
  refine .inl (.inl (r_eqSame (d := .list [dNA, dNA]) (DR_list.mpr ⟨k, _, rfl, upd_old n3 (upd_old n2 (upd_old n1 hk6)), ?_⟩) (DR_list.mpr ⟨p3, _, rfl, upd_same, ?_⟩) (by decide +kernel) ?_))
  · exact DRs_cons.mpr ⟨_, _, rfl, one (upd_old n3 (upd_old n2 (upd_old n1 hb6))), DRs_one (one (upd_old n3 (upd_old n2 (upd_old n1 hb6))))⟩
  · exact DRs_cons.mpr ⟨_, _, rfl, one (upd_old n3 (upd_old n2 upd_same)), DRs_one (one (upd_old n3 upd_same))⟩
  · exact q _ (((S6.upd n1).upd n2).upd n3)
end

section
variable {P : Program} {w : World} {K : PySem.W.Frag} {mg : Str → Option Value} {base : Heap}
theorem k_law_refused__law_letter_here : (defScope s_law_refused).names.lookup ("_law_letter_here" : Str) = some NameKind.local := by decide +kernel
theorem k_law_refused__law_unlike : (defScope s_law_refused).names.lookup ("_law_unlike" : Str) = some NameKind.globalImplicit := by decide +kernel
theorem k_law_refused__law_more : (defScope s_law_refused).names.lookup ("_law_more" : Str) = some NameKind.local := by decide +kernel
theorem k_law_refused__law_one : (defScope s_law_refused).names.lookup ("_law_one" : Str) = some NameKind.local := by decide +kernel
theorem k_law_refused__law_old : (defScope s_law_refused).names.lookup ("_law_old" : Str) = some NameKind.globalImplicit := by decide +kernel
theorem k_law_refused__law_new : (defScope s_law_refused).names.lookup ("_law_new" : Str) = some NameKind.globalImplicit := by decide +kernel
theorem k_law_refused__law_other : (defScope s_law_refused).names.lookup ("_law_other" : Str) = some NameKind.local := by decide +kernel
theorem k_law_refused_tuple : (defScope s_law_refused).names.lookup ("tuple" : Str) = some NameKind.globalImplicit := by decide +kernel
theorem k_law_refused__law_wrong : (defScope s_law_refused).names.lookup ("_law_wrong" : Str) = some NameKind.local := by decide +kernel
theorem k_law_refused__law_no_changes : (defScope s_law_refused).names.lookup ("_law_no_changes" : Str) = some NameKind.globalImplicit := by decide +kernel
theorem k_law_refused__law_very_thing : (defScope s_law_refused).names.lookup ("_law_very_thing" : Str) = some NameKind.globalImplicit := by decide +kernel
noncomputable def Bad (K : PySem.W.Frag) (H : Hp) (u : V) : Prop := Ch K H u false ∧ (flatV u = true ∨ ∃ r, u = .ref r)
theorem bad_mk {H : Hp} {t : Addr} {xs : List Str} (e : H t = some (.tup (xs.map V.str))) (h : xs.length ≤ 10) (hl : ∀ x ∈ xs, x.length ≤ 5000) (hc : chgB (xs.map V.str) = false) : Bad K H (.ref t) :=
  ⟨.inl ⟨t, _, rfl, e, itS h hl, hc.symm⟩, .inr ⟨t, rfl⟩⟩
theorem f_two {x y : V} : chgB [x, y, y] = false := by
  show (_ && (_ && (if (3 : Nat) = 2 then _ else _ && !decide (y = y)))) = false
  rw [if_neg (by decide), decide_eq_true rfl]
  simp
theorem wrong_list {H : Hp} {a : Addr} {us : List V} (ha : H a = some (.lst us)) (hl : us.length ≤ 1000) (h : ∀ u ∈ us, Good K H u ∨ Bad K H u) (bad : 48 < us.length ∨ ∃ u ∈ us, Bad K H u) : Wrong K H (.ref a) :=
  ⟨chs_any ha hl (fun u hu => by
    rcases h u hu with g | g
    · exact ⟨true, g.1⟩
    · exact ⟨false, g.1⟩) (bad.imp id fun ⟨u, hu, g⟩ => ⟨u, hu, g.1⟩), eq_list ha fun u hu => by
    rcases h u hu with g | g
    · exact .inr g.2
    · exact g.2⟩
theorem DRs_take {H : Hp} : ∀ (n : Nat) {cs : List Cg} {us : List V}, DRs H (cs.map Cg.dat) us → DRs H ((cs.take n).map Cg.dat) (us.take n)
  | 0, cs, us, h => by simpa using DRs_nil.mpr rfl
  | n + 1, [], us, h => by rw [List.map_nil, DRs_nil] at h; rw [h]; exact DRs_nil.mpr rfl
  | n + 1, c :: cs, us, h => by
    rw [List.map_cons, DRs_cons] at h
    obtain ⟨v, r, rfl, h1, h2⟩ := h
    exact DRs_cons.mpr ⟨_, _, rfl, h1, DRs_take n h2⟩
theorem cut47 (us : List V) : cutV us none (some 47) = us.take 47 := by
  unfold cutV
  rw [show HT.sIx us.length us.length (some 47) = min 47 us.length from HT.sIx_nat us.length us.length 47]
  show (us.take (min 47 us.length)).drop 0 = _
  rw [List.drop_zero]
  by_cases h : 47 ≤ us.length
  · rw [Nat.min_eq_left h]
  · rw [Nat.min_eq_right (by omega), List.take_length, List.take_of_length_le (by omega)]
noncomputable def spRef (K : PySem.W.Frag) : Sp := fun vs H Q _ => ∃ (a : Addr) (us : List V) (cs : List Cg) (b : Addr) (ws : List V) (ds : List Cg), vs = [.ref a, .ref b] ∧ Lcs H a us cs ∧ Lcs H b ws ds ∧ ∀ H', Same H H' → Q (.bl true) H'
theorem sc_law_refused : FnScope ["_law_one", "_law_other", "_law_wrong", "_law_letter_here", "_law_more"] ["_law_one", "_law_other"] (defScope s_law_refused) := ⟨rfl, rfl, rfl, by decide +kernel, rfl, by decide +kernel, by decide +kernel⟩
theorem h_law_refused (T : Txt K mg) : Has P w K mg base 7 "_law_refused" ["_law_one", "_law_other"] (spRef K) := by
  have h_law_very_thing := h_law_very_thing (P := P) (w := w) (base := base) T
  have h_law_no_changes := h_law_no_changes (P := P) (w := w) (base := base) T
  have h_law_old := h_law_old (P := P) (w := w) (base := base) T
  have h_law_new := h_law_new (P := P) (w := w) (base := base) T
  have h_law_unlike := h_law_unlike (P := P) (w := w) (base := base) T
  refine hasJ T.d_law_refused sc_law_refused (fun _ _ _ _ _ _ us hl => L2.usN2 (fun _ _ => rfl) us hl) ?_ fun f cdv A outer s H vs Q E hr h => ?_
  · rintro vs H Q E ⟨a, us, cs, b, ws, ds, rfl, _⟩; rfl
  obtain ⟨a, us, cs, b, ws, ds, rfl, hL, hM, q⟩ := h
  have hu := hr.units0
  have hu64 := hr.units
  refine ⟨_, (jb_cons (js_if (jt_not (jt_val (j_call h_law_very_thing (hr.mono (by decide)) (glF k_law_refused__law_very_thing) (ja_cons (j_vL 0 k_law_refused__law_one) (ja_cons (j_vL 1 k_law_refused__law_other) ja_nil)) (by decide +kernel)))) (jb_one (js_ret j_bl)) jb_nil) (jb_cons (js_for PassesOwn.never rfl (ji_seq (K := K) rfl (j_lst (ja_cons j_non (ja_cons j_int (ja_cons (j_callTy (call_tupleK (K := K) rfl rfl) (glF k_law_refused_tuple) T.b_tuple bt_tuple (ja_cons (j_vL 0 k_law_refused__law_one) ja_nil) (by decide +kernel) (by decide +kernel)) (ja_cons (j_op op_addA (j_slice (sl_seqK (K := K) rfl) (j_vL 0 k_law_refused__law_one) jo_none (jo_some j_int)) (j_lst (ja_cons (j_tup (ja_cons j_str (ja_cons j_str (ja_cons j_str ja_nil)))) ja_nil))) (ja_cons (j_lst (ja_cons (j_tup (ja_cons j_str (ja_cons j_str ja_nil))) ja_nil)) (ja_cons (j_lst (ja_cons j_non ja_nil)) (ja_cons j_str ja_nil))))))))) (jg_name (i := 2) sc_law_refused.nd rfl (Or.inl k_law_refused__law_wrong) rfl) (jb_cons (js_if (jw_pt (jw_or (jt_not (jt_val (j_call h_law_no_changes (hr.mono (by decide)) (glF k_law_refused__law_no_changes) (ja_cons (j_vL 2 k_law_refused__law_wrong) (ja_cons (j_vL 1 k_law_refused__law_other) (ja_cons (j_vL 2 k_law_refused__law_wrong) ja_nil))) (by decide +kernel)))) (jw_or1 (jt_not (jt_val (j_call h_law_no_changes (hr.mono (by decide)) (glF k_law_refused__law_no_changes) (ja_cons (j_vL 0 k_law_refused__law_one) (ja_cons (j_vL 2 k_law_refused__law_wrong) (ja_cons (j_vL 2 k_law_refused__law_wrong) ja_nil))) (by decide +kernel))))))) (jb_one (js_ret j_bl)) jb_nil) (jb_one (js_if (jt_not (jt_val (j_call h_law_no_changes (hr.mono (by decide)) (glF k_law_refused__law_no_changes) (ja_cons (j_vL 2 k_law_refused__law_wrong) (ja_cons (j_lst (ja_cons (j_tup (ja_cons j_str (ja_cons j_str ja_nil))) ja_nil)) (ja_cons (j_vL 2 k_law_refused__law_wrong) ja_nil))) (by decide +kernel)))) (jb_one (js_ret j_bl)) jb_nil)))) (jb_cons (js_for PassesOwn.never rfl (ji_seq (K := K) rfl j_str) (jg_name (i := 3) sc_law_refused.nd rfl (Or.inl k_law_refused__law_letter_here) rfl) (jb_cons (js_set (i := 4) sc_law_refused.nd rfl (Or.inl k_law_refused__law_more) (j_op op_addA (j_slice (sl_seqK (K := K) rfl) (j_vL 1 k_law_refused__law_other) jo_none (jo_some j_int)) (j_lst (ja_cons (j_tup (ja_cons j_str (ja_cons (j_vL 3 k_law_refused__law_letter_here) ja_nil))) ja_nil))) rfl) (jb_one (js_if (jw_pt (jw_and (jt_cmp (op_neX (K := K) rfl hu64) (j_call h_law_old (hr.mono (by decide)) (glF k_law_refused__law_old) (ja_cons (j_vL 4 k_law_refused__law_more) ja_nil) (by decide +kernel)) (j_call h_law_new (hr.mono (by decide)) (glF k_law_refused__law_new) (ja_cons (j_vL 0 k_law_refused__law_one) ja_nil) (by decide +kernel)) (by first | exact nomark _ | with_unfolding_all rfl)) (jw_and1 (jt_not (jt_val (j_call h_law_unlike (hr.mono (by decide)) (glF k_law_refused__law_unlike) (ja_cons (j_vL 0 k_law_refused__law_one) (ja_cons (j_vL 4 k_law_refused__law_more) ja_nil)) (by decide +kernel))))))) (jb_one (js_ret j_bl)) jb_nil)))) (jb_one (js_ret j_bl))))), ?_⟩
  walk_at "sts"
  have s1000 : 1000 ≤ sizeLine := by decide
  have hlu := hL.len
  have hlw := hM.len
  have h48 := hL.2.2.2
  have h48' := hM.2.2.2
  refine ⟨a, us, cs, .ref b, rfl, hL, fun H1 S1 => ?_⟩
  walk_at "sts"
  have hL1 := hL.same S1
  refine .inl ⟨a, us, rfl, .inl ⟨SqL.of hL1.1, fun w1 j1 => ?_⟩⟩
  walk_at "sts"
  refine r_slL (SqL.of (upd_old j1 hL1.1)) fun w2 j2 => ?_
  walk_at "sts"
  rw [cut47] at *
  refine r_new rfl fun t1 k1 => ?_
  walk_at "sts"
  refine r_new rfl fun l1 k2 => ?_
  walk_at "sts"
  refine r_addL (upd_old k2 (upd_old k1 upd_same)) upd_same (by simp; omega) fun w3 k3 => ?_
  walk_at "sts"
  refine r_new rfl fun t2 k4 => ?_
  walk_at "sts"
  refine r_new rfl fun l2 k5 => ?_
  walk_at "sts"
  refine r_new rfl fun l3 k6 => ?_
  walk_at "sts"
  refine r_new rfl fun L k7 => ?_
  walk_at "sts"
  have SG : Same H1 (upd (upd (upd (upd (upd (upd (upd (upd (upd H1 w1 (.tup us)) w2 (.lst (us.take 47))) t1 (.tup [.str (Str.ofString "change"), .str (Str.ofString "a"), .str (Str.ofString "a")])) l1 (.lst [.ref t1])) w3 (.lst (us.take 47 ++ [.ref t1]))) t2 (.tup [.str (Str.ofString "keep"), .str (Str.ofString "A")])) l2 (.lst [.ref t2])) l3 (.lst [.non])) L (.lst [.non, .int 7, .ref w1, .ref w3, .ref l2, .ref l3, .str (Str.ofString "keep")])) := (Same.upd (Same.upd (Same.upd (Same.upd (Same.upd (Same.upd (Same.upd (Same.upd (Same.upd (Same.refl H1) j1) j2) k1) k2) k3) k4) k5) k6) k7)
  have hw1 : (upd (upd (upd (upd (upd (upd (upd (upd (upd H1 w1 (.tup us)) w2 (.lst (us.take 47))) t1 (.tup [.str (Str.ofString "change"), .str (Str.ofString "a"), .str (Str.ofString "a")])) l1 (.lst [.ref t1])) w3 (.lst (us.take 47 ++ [.ref t1]))) t2 (.tup [.str (Str.ofString "keep"), .str (Str.ofString "A")])) l2 (.lst [.ref t2])) l3 (.lst [.non])) L (.lst [.non, .int 7, .ref w1, .ref w3, .ref l2, .ref l3, .str (Str.ofString "keep")])) w1 = some (.tup us) := (upd_old k7 (upd_old k6 (upd_old k5 (upd_old k4 (upd_old k3 (upd_old k2 (upd_old k1 (upd_old j2 upd_same))))))))
  have ht1 : (upd (upd (upd (upd (upd (upd (upd (upd (upd H1 w1 (.tup us)) w2 (.lst (us.take 47))) t1 (.tup [.str (Str.ofString "change"), .str (Str.ofString "a"), .str (Str.ofString "a")])) l1 (.lst [.ref t1])) w3 (.lst (us.take 47 ++ [.ref t1]))) t2 (.tup [.str (Str.ofString "keep"), .str (Str.ofString "A")])) l2 (.lst [.ref t2])) l3 (.lst [.non])) L (.lst [.non, .int 7, .ref w1, .ref w3, .ref l2, .ref l3, .str (Str.ofString "keep")])) t1 = some (.tup [.str (Str.ofString "change"), .str (Str.ofString "a"), .str (Str.ofString "a")]) := (upd_old k7 (upd_old k6 (upd_old k5 (upd_old k4 (upd_old k3 (upd_old k2 upd_same))))))
  have hw3 : (upd (upd (upd (upd (upd (upd (upd (upd (upd H1 w1 (.tup us)) w2 (.lst (us.take 47))) t1 (.tup [.str (Str.ofString "change"), .str (Str.ofString "a"), .str (Str.ofString "a")])) l1 (.lst [.ref t1])) w3 (.lst (us.take 47 ++ [.ref t1]))) t2 (.tup [.str (Str.ofString "keep"), .str (Str.ofString "A")])) l2 (.lst [.ref t2])) l3 (.lst [.non])) L (.lst [.non, .int 7, .ref w1, .ref w3, .ref l2, .ref l3, .str (Str.ofString "keep")])) w3 = some (.lst (us.take 47 ++ [.ref t1])) := (upd_old k7 (upd_old k6 (upd_old k5 (upd_old k4 upd_same))))
  have ht2 : (upd (upd (upd (upd (upd (upd (upd (upd (upd H1 w1 (.tup us)) w2 (.lst (us.take 47))) t1 (.tup [.str (Str.ofString "change"), .str (Str.ofString "a"), .str (Str.ofString "a")])) l1 (.lst [.ref t1])) w3 (.lst (us.take 47 ++ [.ref t1]))) t2 (.tup [.str (Str.ofString "keep"), .str (Str.ofString "A")])) l2 (.lst [.ref t2])) l3 (.lst [.non])) L (.lst [.non, .int 7, .ref w1, .ref w3, .ref l2, .ref l3, .str (Str.ofString "keep")])) t2 = some (.tup [.str (Str.ofString "keep"), .str (Str.ofString "A")]) := (upd_old k7 (upd_old k6 (upd_old k5 upd_same)))
  have hl2 : (upd (upd (upd (upd (upd (upd (upd (upd (upd H1 w1 (.tup us)) w2 (.lst (us.take 47))) t1 (.tup [.str (Str.ofString "change"), .str (Str.ofString "a"), .str (Str.ofString "a")])) l1 (.lst [.ref t1])) w3 (.lst (us.take 47 ++ [.ref t1]))) t2 (.tup [.str (Str.ofString "keep"), .str (Str.ofString "A")])) l2 (.lst [.ref t2])) l3 (.lst [.non])) L (.lst [.non, .int 7, .ref w1, .ref w3, .ref l2, .ref l3, .str (Str.ofString "keep")])) l2 = some (.lst [.ref t2]) := (upd_old k7 (upd_old k6 upd_same))
  have hl3 : (upd (upd (upd (upd (upd (upd (upd (upd (upd H1 w1 (.tup us)) w2 (.lst (us.take 47))) t1 (.tup [.str (Str.ofString "change"), .str (Str.ofString "a"), .str (Str.ofString "a")])) l1 (.lst [.ref t1])) w3 (.lst (us.take 47 ++ [.ref t1]))) t2 (.tup [.str (Str.ofString "keep"), .str (Str.ofString "A")])) l2 (.lst [.ref t2])) l3 (.lst [.non])) L (.lst [.non, .int 7, .ref w1, .ref w3, .ref l2, .ref l3, .str (Str.ofString "keep")])) l3 = some (.lst [.non]) := (upd_old k7 upd_same)
  have hLL : (upd (upd (upd (upd (upd (upd (upd (upd (upd H1 w1 (.tup us)) w2 (.lst (us.take 47))) t1 (.tup [.str (Str.ofString "change"), .str (Str.ofString "a"), .str (Str.ofString "a")])) l1 (.lst [.ref t1])) w3 (.lst (us.take 47 ++ [.ref t1]))) t2 (.tup [.str (Str.ofString "keep"), .str (Str.ofString "A")])) l2 (.lst [.ref t2])) l3 (.lst [.non])) L (.lst [.non, .int 7, .ref w1, .ref w3, .ref l2, .ref l3, .str (Str.ofString "keep")])) L = some (.lst [.non, .int 7, .ref w1, .ref w3, .ref l2, .ref l3, .str (Str.ofString "keep")]) := upd_same
  generalize (upd (upd (upd (upd (upd (upd (upd (upd (upd H1 w1 (.tup us)) w2 (.lst (us.take 47))) t1 (.tup [.str (Str.ofString "change"), .str (Str.ofString "a"), .str (Str.ofString "a")])) l1 (.lst [.ref t1])) w3 (.lst (us.take 47 ++ [.ref t1]))) t2 (.tup [.str (Str.ofString "keep"), .str (Str.ofString "A")])) l2 (.lst [.ref t2])) l3 (.lst [.non])) L (.lst [.non, .int 7, .ref w1, .ref w3, .ref l2, .ref l3, .str (Str.ofString "keep")])) = H2 at SG hw1 ht1 hw3 ht2 hl2 hl3 hLL ⊢
  have S2 := S1.trans SG
  have gs : ∀ u ∈ us, Good K H2 u := fun u hu => ((hL.goods (K := K)) u hu).same S2
  have b1 : Bad K H2 (.ref t1) := bad_mk (xs := [Str.ofString "change", Str.ofString "a", Str.ofString "a"]) ht1 (by simp) (fun x hx => by
    simp only [List.mem_cons, List.mem_nil_iff, or_false] at hx
    rcases hx with rfl | rfl | rfl <;> decide +kernel) f_two
  have b2 : Bad K H2 (.ref t2) := bad_mk (xs := [Str.ofString "keep", Str.ofString "A"]) ht2 (by simp) (fun x hx => by
    simp only [List.mem_cons, List.mem_nil_iff, or_false] at hx
    rcases hx with rfl | rfl <;> decide +kernel) (by decide +kernel)
  have b3 : Bad K H2 .non := ⟨.inr ⟨"NoneType", .non, rfl, rfl⟩, .inl rfl⟩
  have hW : ∀ v ∈ [V.non, .int 7, .ref w1, .ref w3, .ref l2, .ref l3, .str (Str.ofString "keep")], Wrong K H2 v := by
    intro v hv
    simp only [List.mem_cons, List.mem_nil_iff, or_false] at hv
    rcases hv with rfl | rfl | rfl | rfl | rfl | rfl | rfl
    · exact ⟨.inr ⟨"NoneType", .non, rfl, rfl⟩, eq_flat rfl⟩
    · exact ⟨.inr ⟨"int", .int _, rfl, rfl⟩, eq_flat rfl⟩
    · exact ⟨.inr ⟨"tuple", .tup hw1, rfl, rfl⟩, eq_tup hw1 fun u hu => .inr (gs u hu).2⟩
    · refine wrong_list hw3 (by simp; omega) (fun u hu => ?_) (.inr ⟨_, by simp, b1⟩)
      rcases List.mem_append.mp hu with h | h
      · exact .inl (gs u (List.mem_of_mem_take h))
      · rw [List.mem_singleton.mp h]; exact .inr b1
    · exact wrong_list hl2 (by simp) (fun u hu => by rw [List.mem_singleton.mp hu]; exact .inr b2) (.inr ⟨_, by simp, b2⟩)
    · exact wrong_list hl3 (by simp) (fun u hu => by rw [List.mem_singleton.mp hu]; exact .inr b3) (.inr ⟨_, by simp, b3⟩)
    · exact ⟨.inr ⟨"str", .str _, rfl, rfl⟩, eq_flat rfl⟩
  generalize [V.non, .int 7, .ref w1, .ref w3, .ref l2, .ref l3, .str (Str.ofString "keep")] = rows at hW hLL ⊢
  refine .inl ⟨L, rfl, ⟨_, SqL.of hLL⟩, ?_⟩
  refine for_list (xs := rows) (fun k σ H' => Same H2 H' ∧ ∃ x2 : Option V, σ = [some (.ref a), some (.ref b), x2, none, none]) ⟨Same.refl _, _, rfl⟩ (fun i σ H' _ h => SqL.of (h.1 _ _ hLL)) ?_ ?_
  · rintro k v σ H' hk ⟨s, x2, rfl⟩
    have hw := (hW v (List.mem_of_getElem? hk)).same s
    walk_at "sts"
    refine ⟨v, .ref b, v, rfl, .inl ⟨hw, rfl⟩, fun H3 S3 => ?_⟩
    walk_at "sts"
    refine ⟨.ref a, v, v, rfl, .inr ⟨a, us, cs, rfl, hL.same ((S2.trans s).trans S3), hw.same S3, rfl⟩, fun H4 S4 => ?_⟩
    walk_at "sts"
    refine r_new rfl fun p1 q1 => ?_
    walk_at "sts"
    refine r_new rfl fun p2 q2 => ?_
    walk_at "sts"
    have s4 := (S3.trans S4).upd q1 (o := .tup [.str (Str.ofString "in"), .str (Str.ofString "")]) |>.upd q2 (o := .lst [.ref p1])
    refine ⟨v, .ref p2, v, rfl, .inl ⟨hw.same s4, rfl⟩, fun H5 S5 => ?_⟩
    walk_at "sts"
    exact ⟨(s.trans s4).trans S5, _, rfl⟩
  rintro σ H3 ⟨S3, x2, rfl⟩
  have S03 := S2.trans S3
  walk_at "sts"
  refine .inr (.inr ⟨Str.ofString "az", rfl, ?_⟩)
  refine for_str (fun k σ H' => Same H3 H' ∧ ∃ x3 x4 : Option V, σ = [some (.ref a), some (.ref b), x2, x3, x4]) ⟨Same.refl _, _, _, rfl⟩ ?_ ?_
  · rintro k σ H' c hc ⟨s, x3, x4, rfl⟩
    obtain ⟨i, hi, rfl⟩ : ∃ i, i < 26 ∧ c = lc i := by
      have : (Str.ofString "az").cps.toList = [lc 0, lc 25] := by decide +kernel
      rw [this] at hc
      match k, hc with
      | 0, hc => cases hc; exact ⟨0, by omega, rfl⟩
      | 1, hc => cases hc; exact ⟨25, by omega, rfl⟩
    have s0 := S03.trans s
    rw [show ({ cps := #[lc i] } : Str) = lS i from rfl]
    walk_at "sts"
    refine r_slL (SqL.of (s0 _ _ hM.1)) fun m1 u1 => ?_
    walk_at "sts"
    rw [cut47] at *
    refine r_new rfl fun m2 u2 => ?_
    walk_at "sts"
    refine r_new rfl fun m3 u3 => ?_
    walk_at "sts"
    refine r_addL (upd_old u3 (upd_old u2 upd_same)) upd_same (by simp; omega) fun m4 u4 => ?_
    walk_at "sts"
    have S5 : Same H' (upd (upd (upd (upd H' m1 (.lst (ws.take 47))) m2 (.tup [.str (Str.ofString "out"), .str (lS i)])) m3 (.lst [.ref m2])) m4 (.lst (ws.take 47 ++ [.ref m2]))) := ((((Same.refl H').upd u1).upd u2).upd u3).upd u4
    have hO : Lcs (upd (upd (upd (upd H' m1 (.lst (ws.take 47))) m2 (.tup [.str (Str.ofString "out"), .str (lS i)])) m3 (.lst [.ref m2])) m4 (.lst (ws.take 47 ++ [.ref m2]))) m4 (ws.take 47 ++ [.ref m2]) (ds.take 47 ++ [.out i]) := by
      refine ⟨upd_same, ?_, ?_, by simp; omega⟩
      · rw [List.map_append]
        exact DRs_append (DRs.same (s0.trans S5) _ _ (DRs_take 47 hM.2.1)) (DRs_one (DR_cg.mpr ⟨m2, rfl, upd_old u4 (upd_old u3 upd_same)⟩))
      · intro c hc
        rcases List.mem_append.mp hc with h | h
        · exact hM.2.2.1 c (List.mem_of_mem_take h)
        · rw [List.mem_singleton.mp h]; exact hi
    have s5 := s0.trans S5
    have sP := s.trans S5
    generalize upd (upd (upd (upd H' m1 (.lst (ws.take 47))) m2 (.tup [.str (Str.ofString "out"), .str (lS i)])) m3 (.lst [.ref m2])) m4 (.lst (ws.take 47 ++ [.ref m2])) = H5 at s5 sP hO ⊢
    refine ⟨m4, _, _, rfl, hO, fun H6 S6 => ?_⟩
    walk_at "sts"
    refine ⟨a, us, cs, rfl, hL.same (s5.trans S6), fun H7 S7 => ?_⟩
    walk_at "sts"
    by_cases e : oldR (ds.take 47 ++ [.out i]) = newR cs
    · rw [decide_eq_true (congrArg V.str e)]
      walk_at "sts"
      exact ⟨(sP.trans S6).trans S7, _, _, rfl⟩
    · rw [decide_eq_false (fun z => e (V.str.inj z))]
      walk_at "sts"
      refine ⟨a, us, cs, m4, _, _, rfl, hL.same ((s5.trans S6).trans S7), hO.same (S6.trans S7), fun z => e z.symm, fun H8 S8 => ?_⟩
      walk_at "sts"
      exact ⟨((sP.trans S6).trans S7).trans S8, _, _, rfl⟩
  rintro σ H4 ⟨S4, x3, x4, rfl⟩
  walk_at "sts"
  exact q _ (S03.trans S4)
end

section
variable {P : Program} {w : World} {K : PySem.W.Frag} {mg : Str → Option Value} {base : Heap}
theorem k_law__law_after : (defScope s_law).names.lookup ("_law_after" : Str) = some NameKind.globalImplicit := by decide +kernel
theorem k_law__law_right : (defScope s_law).names.lookup ("_law_right" : Str) = some NameKind.local := by decide +kernel
theorem k_law__law_one : (defScope s_law).names.lookup ("_law_one" : Str) = some NameKind.local := by decide +kernel
theorem k_law__law_three : (defScope s_law).names.lookup ("_law_three" : Str) = some NameKind.local := by decide +kernel
theorem k_law__law_left : (defScope s_law).names.lookup ("_law_left" : Str) = some NameKind.local := by decide +kernel
theorem k_law__law_told : (defScope s_law).names.lookup ("_law_told" : Str) = some NameKind.globalImplicit := by decide +kernel
theorem k_law_len : (defScope s_law).names.lookup ("len" : Str) = some NameKind.globalImplicit := by decide +kernel
theorem k_law__law_two : (defScope s_law).names.lookup ("_law_two" : Str) = some NameKind.local := by decide +kernel
theorem k_law__law_refused : (defScope s_law).names.lookup ("_law_refused" : Str) = some NameKind.globalImplicit := by decide +kernel
theorem k_law__law_with_itself : (defScope s_law).names.lookup ("_law_with_itself" : Str) = some NameKind.globalImplicit := by decide +kernel
theorem k_law__law_moved_by_one : (defScope s_law).names.lookup ("_law_moved_by_one" : Str) = some NameKind.globalImplicit := by decide +kernel
theorem k_law__law_number : (defScope s_law).names.lookup ("_law_number" : Str) = some NameKind.local := by decide +kernel
theorem k_law__law_letter : (defScope s_law).names.lookup ("_law_letter" : Str) = some NameKind.globalImplicit := by decide +kernel
theorem k_law__law_there_and_back : (defScope s_law).names.lookup ("_law_there_and_back" : Str) = some NameKind.globalImplicit := by decide +kernel
theorem k_law__law_new : (defScope s_law).names.lookup ("_law_new" : Str) = some NameKind.globalImplicit := by decide +kernel
theorem k_law__law_great : (defScope s_law).names.lookup ("_law_great" : Str) = some NameKind.globalImplicit := by decide +kernel
theorem k_law__law_cell_at : (defScope s_law).names.lookup ("_law_cell_at" : Str) = some NameKind.globalImplicit := by decide +kernel
theorem k_law__law_script : (defScope s_law).names.lookup ("_law_script" : Str) = some NameKind.local := by decide +kernel
theorem k_law__law_list : (defScope s_law).names.lookup ("_law_list" : Str) = some NameKind.globalImplicit := by decide +kernel
theorem k_law__law_row : (defScope s_law).names.lookup ("_law_row" : Str) = some NameKind.globalImplicit := by decide +kernel
theorem pick_ints (ns : List Int) : ∀ ps : List Nat, ∃ ms : List Int, ps.filterMap ((ns.map V.int)[·]?) = ms.map V.int ∧ ms.length ≤ ps.length
  | [] => ⟨[], rfl, Nat.le_refl _⟩
  | p :: ps => by
    obtain ⟨ms, e, h⟩ := pick_ints ns ps
    rw [List.filterMap_cons, List.getElem?_map]
    cases ns[p]? with
    | none => exact ⟨ms, e, by simp; omega⟩
    | some v => exact ⟨v :: ms, by rw [List.map_cons, ← e]; rfl, by simp; omega⟩
theorem pick_3 (ns : List Int) {j : Int} (hj : 0 ≤ j) : ∃ ms : List Int, pick3V (ns.map V.int) (some j) none 3 = ms.map V.int ∧ ms.length ≤ ns.length := by
  unfold pick3V
  obtain ⟨ms, e, h⟩ := pick_ints ns (sliceRange (sliceBounds (some j) none (some 3) (ns.map V.int).length).1 (sliceBounds (some j) none (some 3) (ns.map V.int).length).2.1 (sliceBounds (some j) none (some 3) (ns.map V.int).length).2.2)
  refine ⟨ms, e, Nat.le_trans h ?_⟩
  rw [List.length_map]
  have : sliceBounds (some j) none (some 3) ns.length = (max 0 (min j ns.length), (ns.length : Int), 3) := by
    unfold sliceBounds
    simp [show ¬ j < 0 by omega]
  rw [this]
  unfold sliceRange
  simp only [List.length_map, List.length_range]
  rw [if_pos (by decide)]
  split <;> omega
noncomputable def spLaw (K : PySem.W.Frag) : Sp := fun vs H Q _ => ∃ (a : Addr) (ns : List Int), vs = [.ref a] ∧ SqL K H a (ns.map V.int) ∧ ns.length ≤ 63 ∧ ∀ H', Q (.bl true) H'
theorem RowN.new {cs : List Cg} (h : ∀ c ∈ cs, c.ok) : RowN (newR cs) (cs.filterMap Cg.nN) := ⟨newR_cps cs, fm_lt (fun _ => ok_n) h⟩
theorem fm_le {f : Cg → Option Nat} (cs : List Cg) : (cs.filterMap f).length ≤ cs.length := List.length_filterMap_le ..
theorem sc_law : FnScope ["_law_script", "_law_one", "_law_two", "_law_three", "_law_number", "_law_left", "_law_right"] ["_law_script"] (defScope s_law) := ⟨rfl, rfl, rfl, by decide +kernel, rfl, by decide +kernel, by decide +kernel⟩
theorem ok_law (T : Txt K mg) {f0 : Addr} {fd0 : FuncData} (F0 : Fun K "law" "law" s_law f0 fd0) : FnOk P w K mg base CX0 8 f0 fd0 ["_law_script"] (spLaw K) := by
  have h_law_list := h_law_list (P := P) (w := w) (base := base) T
  have h_law_row := h_law_row (P := P) (w := w) (base := base) T
  have h_law_cell_at := h_law_cell_at (P := P) (w := w) (base := base) T
  have h_law_new := h_law_new (P := P) (w := w) (base := base) T
  have h_law_great := h_law_great (P := P) (w := w) (base := base) T
  have h_law_with_itself := h_law_with_itself (P := P) (w := w) (base := base) T
  have h_law_there_and_back := h_law_there_and_back (P := P) (w := w) (base := base) T
  have h_law_moved_by_one := h_law_moved_by_one (P := P) (w := w) (base := base) T
  have h_law_letter := h_law_letter (P := P) (w := w) (base := base) T
  have h_law_told := h_law_told (P := P) (w := w) (base := base) T
  have h_law_refused := h_law_refused (P := P) (w := w) (base := base) T
  have h_law_after := h_law_after (P := P) (w := w) (base := base) T
  refine okJ F0 sc_law ?_ fun f cdv A outer s H vs Q E hr h => ?_
  · rintro vs H Q E ⟨a, ns, rfl, _⟩; rfl
  obtain ⟨a, ns, rfl, hS, hlen, q⟩ := h
  have hu := hr.units0
  have hu64 := hr.units
  refine ⟨_, (jb_cons (js_set (i := 1) sc_law.nd rfl (Or.inl k_law__law_one) (j_call h_law_list (hr.mono (by decide)) (glF k_law__law_list) (ja_cons (j_call h_law_row (hr.mono (by decide)) (glF k_law__law_row) (ja_cons (j_call h_law_cell_at (hr.mono (by decide)) (glF k_law__law_cell_at) (ja_cons (j_vL 0 k_law__law_script) (ja_cons j_int ja_nil)) (by decide +kernel)) ja_nil) (by decide +kernel)) (ja_cons (j_slice3L (K := K) rfl (j_vL 0 k_law__law_script) (jo_some j_int) jo_none (jo_some j_int)) ja_nil)) (by decide +kernel)) rfl) (jb_cons (js_set (i := 2) sc_law.nd rfl (Or.inl k_law__law_two) (j_call h_law_list (hr.mono (by decide)) (glF k_law__law_list) (ja_cons (j_call h_law_new (hr.mono (by decide)) (glF k_law__law_new) (ja_cons (j_vL 1 k_law__law_one) ja_nil) (by decide +kernel)) (ja_cons (j_slice3L (K := K) rfl (j_vL 0 k_law__law_script) (jo_some j_int) jo_none (jo_some j_int)) ja_nil)) (by decide +kernel)) rfl) (jb_cons (js_set (i := 3) sc_law.nd rfl (Or.inl k_law__law_three) (j_call h_law_list (hr.mono (by decide)) (glF k_law__law_list) (ja_cons (j_call h_law_new (hr.mono (by decide)) (glF k_law__law_new) (ja_cons (j_vL 2 k_law__law_two) ja_nil) (by decide +kernel)) (ja_cons (j_slice3L (K := K) rfl (j_vL 0 k_law__law_script) (jo_some j_int) jo_none (jo_some j_int)) ja_nil)) (by decide +kernel)) rfl) (jb_cons (js_set (i := 4) sc_law.nd rfl (Or.inl k_law__law_number) (j_call h_law_great (hr.mono (by decide)) (glF k_law__law_great) (ja_cons (j_call h_law_cell_at (hr.mono (by decide)) (glF k_law__law_cell_at) (ja_cons (j_vL 0 k_law__law_script) (ja_cons j_int ja_nil)) (by decide +kernel)) ja_nil) (by decide +kernel)) rfl) (jb_cons (js_if (jt_not (jt_val (j_call h_law_with_itself (hr.mono (by decide)) (glF k_law__law_with_itself) (ja_cons (j_call h_law_there_and_back (hr.mono (by decide)) (glF k_law__law_there_and_back) (ja_cons (j_slice (sl_seqK (K := K) rfl) (j_call h_law_new (hr.mono (by decide)) (glF k_law__law_new) (ja_cons (j_vL 1 k_law__law_one) ja_nil) (by decide +kernel)) jo_none (jo_some j_int)) (ja_cons (j_vL 4 k_law__law_number) ja_nil)) (by decide +kernel)) ja_nil) (by decide +kernel)))) (jb_one (js_ret j_bl)) jb_nil) (jb_cons (js_if (jt_not (jt_val (j_call h_law_with_itself (hr.mono (by decide)) (glF k_law__law_with_itself) (ja_cons (j_call h_law_moved_by_one (hr.mono (by decide)) (glF k_law__law_moved_by_one) (ja_cons (j_call h_law_letter (hr.mono (by decide)) (glF k_law__law_letter) (ja_cons (j_vL 4 k_law__law_number) ja_nil) (by decide +kernel)) (ja_cons (j_op op_mod (j_op op_fdiv (j_vL 4 k_law__law_number) j_int) j_int) ja_nil)) (by decide +kernel)) ja_nil) (by decide +kernel)))) (jb_one (js_ret j_bl)) jb_nil) (jb_cons (js_if (jw_pt (jw_or (jt_not (jt_val (j_call h_law_told (hr.mono (by decide)) (glF k_law__law_told) (ja_cons (j_vL 2 k_law__law_two) (ja_cons (j_vL 3 k_law__law_three) ja_nil)) (by decide +kernel)))) (jw_or (jt_not (jt_val (j_call h_law_told (hr.mono (by decide)) (glF k_law__law_told) (ja_cons (j_vL 1 k_law__law_one) (ja_cons (j_vL 2 k_law__law_two) ja_nil)) (by decide +kernel)))) (jw_or1 (jt_not (jt_val (j_call h_law_refused (hr.mono (by decide)) (glF k_law__law_refused) (ja_cons (j_vL 1 k_law__law_one) (ja_cons (j_vL 2 k_law__law_two) ja_nil)) (by decide +kernel)))))))) (jb_one (js_ret j_bl)) jb_nil) (jb_cons (js_set (i := 5) sc_law.nd rfl (Or.inl k_law__law_left) (j_call h_law_after (hr.mono (by decide)) (glF k_law__law_after) (ja_cons (j_vL 1 k_law__law_one) (ja_cons (j_vL 2 k_law__law_two) ja_nil)) (by decide +kernel)) rfl) (jb_cons (js_set (i := 6) sc_law.nd rfl (Or.inl k_law__law_right) (j_call h_law_after (hr.mono (by decide)) (glF k_law__law_after) (ja_cons (j_vL 2 k_law__law_two) (ja_cons (j_vL 3 k_law__law_three) ja_nil)) (by decide +kernel)) rfl) (jb_cons (js_if (jw_pt (jw_or (jt_cmp op_gt (j_callB (call_lenK (K := K) rfl) (glF k_law_len) T.b_len bt_len (ja_cons (j_vL 5 k_law__law_left) ja_nil) (by decide +kernel) (by decide +kernel)) j_int (by first | exact nomark _ | with_unfolding_all rfl)) (jw_or1 (jt_cmp op_gt (j_callB (call_lenK (K := K) rfl) (glF k_law_len) T.b_len bt_len (ja_cons (j_vL 6 k_law__law_right) ja_nil) (by decide +kernel) (by decide +kernel)) j_int (by first | exact nomark _ | with_unfolding_all rfl))))) (jb_one (js_ret j_bl)) jb_nil) (jb_one (js_ret (j_and (j_call h_law_told (hr.mono (by decide)) (glF k_law__law_told) (ja_cons (j_vL 5 k_law__law_left) (ja_cons (j_vL 3 k_law__law_three) ja_nil)) (by decide +kernel)) (j_and (j_call h_law_told (hr.mono (by decide)) (glF k_law__law_told) (ja_cons (j_vL 1 k_law__law_one) (ja_cons (j_vL 6 k_law__law_right) ja_nil)) (by decide +kernel)) (j_one (j_cmp (op_eqE (K := K) rfl hu64) (j_call h_law_after (hr.mono (by decide)) (glF k_law__law_after) (ja_cons (j_vL 1 k_law__law_one) (ja_cons (j_vL 6 k_law__law_right) ja_nil)) (by decide +kernel)) (j_call h_law_after (hr.mono (by decide)) (glF k_law__law_after) (ja_cons (j_vL 5 k_law__law_left) (ja_cons (j_vL 3 k_law__law_three) ja_nil)) (by decide +kernel)) (by first | exact nomark _ | with_unfolding_all rfl))))))))))))))))), ?_⟩
  walk_at "sts"
  have s1000 : 1000 ≤ sizeLine := by decide
  refine ⟨a, ns, 0, rfl, hS, by omega, fun n0 => ?_⟩
  walk_at "sts"
  refine ⟨n0, rfl, fun z0 r0 hR0 hl0 => ?_⟩
  walk_at "sts"
  obtain ⟨m1, e1, l1⟩ := pick_3 ns (j := 1) (by decide)
  obtain ⟨m2, e2, l2⟩ := pick_3 ns (j := 2) (by decide)
  obtain ⟨m3, e3, l3⟩ := pick_3 ns (j := 3) (by decide)
  refine ⟨a, _, 3, rfl, rfl, by decide, hS, by rw [e1]; simp; omega, fun p1 np1 => ?_⟩
  walk_at "sts"
  rw [e1]
  refine ⟨z0, r0, p1, m1, rfl, hR0, by omega, SqL.of upd_same, fun a1 us1 c1 H1 S1 hC1 ho1 => ?_⟩
  walk_at "sts"
  have S01 := ((Same.refl H).upd np1).trans S1
  refine ⟨a1, us1, c1, rfl, hC1, fun H2 S2 => ?_⟩
  walk_at "sts"
  have S02 := S01.trans S2
  refine ⟨a, _, 3, rfl, rfl, by decide, SqL.up hS S02, by rw [e2]; simp; omega, fun p2 np2 => ?_⟩
  walk_at "sts"
  rw [e2]
  have f1 := fm_le (f := Cg.nN) c1
  have h481 := hC1.2.2.2
  refine ⟨newR c1, _, p2, m2, rfl, RowN.new hC1.2.2.1, by omega, SqL.of upd_same, fun a2 us2 c2 H3 S3 hC2 ho2 => ?_⟩
  walk_at "sts"
  have S13 := (S2.upd np2).trans S3
  have f2 := fm_le (f := Cg.nN) c2
  have h482 := hC2.2.2.2
  refine ⟨a2, us2, c2, rfl, hC2, fun H4 S4 => ?_⟩
  walk_at "sts"
  refine ⟨a, _, 3, rfl, rfl, by decide, SqL.up hS ((S01.trans S13).trans S4), by rw [e3]; simp; omega, fun p3 np3 => ?_⟩
  walk_at "sts"
  rw [e3]
  refine ⟨newR c2, _, p3, m3, rfl, RowN.new hC2.2.2.1, by omega, SqL.of upd_same, fun a3 us3 c3 H5 S5 hC3 ho3 => ?_⟩
  walk_at "sts"
  have S35 := (S4.upd np3).trans S5
  have K1 := hC1.same (S13.trans S35)
  have K2 := hC2.same S35
  have K3 := hC3
  have S05 := (S01.trans S13).trans S35
  clear S1 S2 S3 S4 S5
  obtain ⟨z12, h12⟩ := aft_ex _ c1 c2 (Nat.le_refl _) ho2.symm
  obtain ⟨z23, h23⟩ := aft_ex _ c2 c3 (Nat.le_refl _) ho3.symm
  obtain ⟨zz, hl, hr'⟩ := aft_assoc h12 h23
  refine ⟨a, ns, 1, rfl, SqL.up hS S05, by omega, fun n1 => ?_⟩
  walk_at "sts"
  refine ⟨n1, rfl, fun g => ?_⟩
  walk_at "sts"
  refine ⟨a1, us1, c1, rfl, K1, fun H6 S6 => ?_⟩
  walk_at "sts"
  have lN := newR_len c1
  refine r_slS (by omega) ?_
  walk_at "sts"
  have hsl : RowN (Txt.slice (newR c1) none (some 24)) ((c1.filterMap Cg.nN).take 24) := ⟨by rw [show (some 24 : Option Int) = some ((24 : Nat) : Int) from rfl, slice_to, newR_cps, List.map_take], fun i hi => (RowN.new hC1.2.2.1).2 i (List.mem_of_mem_take hi)⟩
  refine ⟨_, _, g, rfl, hsl, by rw [List.length_take]; omega, fun f uf bs H7 S7 hf => ?_⟩
  walk_at "sts"
  obtain ⟨⟨zt, hzt, lzt⟩, _⟩ := tb_self bs
  refine ⟨f, uf, tb bs, zt, rfl, hf, hzt, by rw [lzt]; exact hf.2.2.2, fun H8 S8 => ?_⟩
  walk_at "sts"
  refine ⟨g, rfl, ?_⟩
  walk_at "sts"
  obtain ⟨mm, emm⟩ : ∃ mm : Nat, g / 26 % 24 = mm := ⟨_, (Int.toNat_of_nonneg (Int.emod_nonneg _ (by decide))).symm⟩
  have hmm : mm < 24 := by have := Int.emod_lt_of_pos (g / 26) (show (0 : Int) < 24 by decide); omega
  rw [emm]
  refine ⟨_, mm, rfl, by omega, by omega, fun f2 uf2 H9 S9 hf2 => ?_⟩
  walk_at "sts"
  obtain ⟨zm, hzm, lzm⟩ := mv_self (i := (g % 26).toNat) (m := mm)
  refine ⟨f2, uf2, _, zm, rfl, hf2, hzm, by omega, fun H10 S10 => ?_⟩
  walk_at "sts"
  have S610 := (((S6.trans S7).trans S8).trans S9).trans S10
  have J1 := K1.same S610
  have J2 := K2.same S610
  have J3 := K3.same S610
  refine ⟨a2, us2, c2, a3, us3, c3, z23, rfl, J2, J3, h23, fun H11 S11 => ?_⟩
  walk_at "sts"
  refine ⟨a1, us1, c1, a2, us2, c2, z12, rfl, J1.same S11, J2.same S11, h12, fun H12 S12 => ?_⟩
  walk_at "sts"
  have SA := S11.trans S12
  refine ⟨a1, us1, c1, a2, us2, c2, rfl, J1.same SA, J2.same SA, fun H13 S13 => ?_⟩
  walk_at "sts"
  have SB := SA.trans S13
  refine ⟨a1, us1, c1, a2, us2, c2, z12, rfl, J1.same SB, J2.same SB, h12, fun lf ul H14 S14 hlf => ?_⟩
  walk_at "sts"
  have SC := SB.trans S14
  refine ⟨a2, us2, c2, a3, us3, c3, z23, rfl, J2.same SC, J3.same SC, h23, fun rt ur H15 S15 hrt => ?_⟩
  walk_at "sts"
  have SD := SC.trans S15
  refine r_lenL (SqL.of (S15 _ _ hlf.1)) ?_
  walk_at "sts"
  rw [hlf.len]
  refine iteD (fun h1 => ?_) (fun h1 => ?_)
  · walk_at "sts"
    exact q _
  walk_at "sts"
  refine r_lenL (SqL.of hrt.1) ?_
  walk_at "sts"
  rw [hrt.len]
  refine iteD (fun h2 => ?_) (fun h2 => ?_)
  · walk_at "sts"
    exact q _
  walk_at "sts"
  have L12 : Lcs H15 lf ul z12 := ⟨(hlf.same S15).1, (hlf.same S15).2, aft_ok h12 J1.2.2.1 J2.2.2.1, by omega⟩
  have L23 : Lcs H15 rt ur z23 := ⟨hrt.1, hrt.2, aft_ok h23 J2.2.2.1 J3.2.2.1, by omega⟩
  refine ⟨lf, ul, z12, a3, us3, c3, zz, rfl, L12, J3.same SD, hl, fun H16 S16 => ?_⟩
  walk_at "sts"
  refine ⟨a1, us1, c1, rt, ur, z23, zz, rfl, J1.same (SD.trans S16), L23.same S16, hr', fun H17 S17 => ?_⟩
  walk_at "sts"
  have SE := S16.trans S17
  refine ⟨a1, us1, c1, rt, ur, z23, zz, rfl, J1.same (SD.trans SE), L23.same SE, hr', fun x1 v1 H18 S18 hx1 => ?_⟩
  walk_at "sts"
  refine ⟨lf, ul, z12, a3, us3, c3, zz, rfl, L12.same (SE.trans S18), J3.same (SD.trans (SE.trans S18)), hl, fun x2 v2 H19 S19 hx2 => ?_⟩
  walk_at "sts"
  refine .inl (.inl (r_eqSame (hx1.same S19).dr hx2.dr (shaped_cs (aft_ok hl L12.2.2.1 J3.2.2.1)) ?_))
  exact q _
end

end My
noncomputable def PySem.W.Fast.tw13264644843500266944 : Nat := 0
noncomputable def PySem.W.Fast.tw16963440651749983665 : Nat := 0
noncomputable def PySem.W.Fast.tw4544554334768668194 : Nat := 0
noncomputable def PySem.W.Fast.tw6511807819919558370 : Nat := 0
noncomputable def PySem.W.Fast.tw15613934325586109543 : Nat := 0
noncomputable def PySem.W.Fast.tw18092331742640228255 : Nat := 0
noncomputable def PySem.W.Fast.tw10226233220657393105 : Nat := 0
noncomputable def PySem.W.Fast.tw10835195882799507348 : Nat := 0
noncomputable def PySem.W.Fast.tw14257640132075699258 : Nat := 0
noncomputable def PySem.W.Fast.tw10392470180797055751 : Nat := 0
noncomputable def PySem.W.Fast.tw10891653878532313050 : Nat := 0
noncomputable def PySem.W.Fast.tw8327390441272300537 : Nat := 0
noncomputable def PySem.W.Fast.tw15072445711382547142 : Nat := 0
noncomputable def PySem.W.Fast.tw9362611546841317563 : Nat := 0
noncomputable def PySem.W.Fast.tw6327385863396117748 : Nat := 0
noncomputable def PySem.W.Fast.tw17595792719633787239 : Nat := 0
noncomputable def PySem.W.Fast.tw12472043388281200384 : Nat := 0
noncomputable def PySem.W.Fast.tw6148258240257527391 : Nat := 0
noncomputable def PySem.W.Fast.tw15744938960301709072 : Nat := 0
noncomputable def PySem.W.Fast.tw12066008231073930504 : Nat := 0
noncomputable def PySem.W.Fast.tw2581582681880542744 : Nat := 0
noncomputable def PySem.W.Fast.tw5600210044185210626 : Nat := 0
noncomputable def PySem.W.Fast.tw7385183153023116905 : Nat := 0
noncomputable def PySem.W.Fast.tw863920630641669124 : Nat := 0
noncomputable def PySem.W.Fast.tw10055377874528172793 : Nat := 0
noncomputable def PySem.W.Fast.tw16308554055053215051 : Nat := 0
noncomputable def PySem.W.Fast.tw11610439449333113640 : Nat := 0
noncomputable def PySem.W.Fast.tw15149377672737156659 : Nat := 0
noncomputable def PySem.W.Fast.tw9616481897372026466 : Nat := 0
noncomputable def PySem.W.Fast.tw12273826580971664944 : Nat := 0
noncomputable def PySem.W.Fast.tw4321471938568668177 : Nat := 0
noncomputable def PySem.W.Fast.tw8821627561818746237 : Nat := 0
noncomputable def PySem.W.Fast.tw10870195460252086426 : Nat := 0
noncomputable def PySem.W.Fast.tw14171671341742346608 : Nat := 0
noncomputable def PySem.W.Fast.tw9764651586902143570 : Nat := 0
noncomputable def PySem.W.Fast.tw2595627763363743009 : Nat := 0
noncomputable def PySem.W.Fast.tw16493991016862198832 : Nat := 0
noncomputable def PySem.W.Fast.tw15742722492257616762 : Nat := 0
noncomputable def PySem.W.Fast.tw16976415425666760735 : Nat := 0
noncomputable def PySem.W.Fast.tw3366612875819916100 : Nat := 0
noncomputable def PySem.W.Fast.tw15526864880389084097 : Nat := 0
noncomputable def PySem.W.Fast.tw9788922968931840811 : Nat := 0
noncomputable def PySem.W.Fast.tw6082219891799497541 : Nat := 0
noncomputable def PySem.W.Fast.tw9856403798284175064 : Nat := 0
noncomputable def PySem.W.Fast.tw2797582632476164089 : Nat := 0
noncomputable def PySem.W.Fast.tw11185167883878469026 : Nat := 0
noncomputable def PySem.W.Fast.tw15479794986298242803 : Nat := 0
noncomputable def PySem.W.Fast.tw16343320499724784468 : Nat := 0
noncomputable def PySem.W.Fast.tw15540164928714249888 : Nat := 0
noncomputable def PySem.W.Fast.tw12809033766070132816 : Nat := 0
noncomputable def PySem.W.Fast.tw9055158656524894264 : Nat := 0
noncomputable def PySem.W.Fast.tw9167702393324539760 : Nat := 0
noncomputable def PySem.W.Fast.tw9992525996611092849 : Nat := 0
noncomputable def PySem.W.Fast.tw6211562801746694922 : Nat := 0
noncomputable def PySem.W.Fast.tw9501754594482703022 : Nat := 0
noncomputable def PySem.W.Fast.tw17750640410230986053 : Nat := 0
noncomputable def PySem.W.Fast.tw8480083578755766744 : Nat := 0
noncomputable def PySem.W.Fast.tw3960219858750506468 : Nat := 0
noncomputable def PySem.W.Fast.tw15144314813879284215 : Nat := 0
noncomputable def PySem.W.Fast.tw16410714147988364324 : Nat := 0
noncomputable def PySem.W.Fast.tw17544063341902509144 : Nat := 0
noncomputable def PySem.W.Fast.tw11243167536673519319 : Nat := 0
noncomputable def PySem.W.Fast.tw10401699158289064415 : Nat := 0
noncomputable def PySem.W.Fast.tw17133516880866775310 : Nat := 0
noncomputable def PySem.W.Fast.tw17341281774394492160 : Nat := 0
noncomputable def PySem.W.Fast.tw2741337203662715610 : Nat := 0
noncomputable def PySem.W.Fast.tw12288104059342715591 : Nat := 0
noncomputable def PySem.W.Fast.tw11670220443390532863 : Nat := 0
noncomputable def PySem.W.Fast.tw17753374421279695961 : Nat := 0
noncomputable def PySem.W.Fast.tw14870000691244480926 : Nat := 0
noncomputable def PySem.W.Fast.tw10823134396910973765 : Nat := 0
noncomputable def PySem.W.Fast.tw6791448189455069076 : Nat := 0
noncomputable def PySem.W.Fast.tw7786156533239364484 : Nat := 0
noncomputable def PySem.W.Fast.tw17881695696128660923 : Nat := 0
noncomputable def PySem.W.Fast.tw12963043573542378713 : Nat := 0
noncomputable def PySem.W.Fast.tw2111569726466780768 : Nat := 0
noncomputable def PySem.W.Fast.tw2053384204822038998 : Nat := 0
noncomputable def PySem.W.Fast.tw1453636137893523977 : Nat := 0
noncomputable def PySem.W.Fast.tw4744958108640010452 : Nat := 0
noncomputable def PySem.W.Fast.tw17112933351910418051 : Nat := 0
noncomputable def PySem.W.Fast.tw7226778150170499849 : Nat := 0
noncomputable def PySem.W.Fast.tw8979044607833815169 : Nat := 0
noncomputable def PySem.W.Fast.tw14377660446486438325 : Nat := 0
noncomputable def PySem.W.Fast.tw13199349572294193854 : Nat := 0
noncomputable def PySem.W.Fast.tw12302150428112856494 : Nat := 0
noncomputable def PySem.W.Fast.tw6959996825889517899 : Nat := 0
noncomputable def PySem.W.Fast.tw11899271574141992321 : Nat := 0
noncomputable def PySem.W.Fast.tw14461728560845859973 : Nat := 0
noncomputable def PySem.W.Fast.tw2838505068890286040 : Nat := 0
noncomputable def PySem.W.Fast.tw51655269775873988 : Nat := 0
noncomputable def PySem.W.Fast.tw7908621501299479199 : Nat := 0
noncomputable def PySem.W.Fast.tw10117845033866453492 : Nat := 0
noncomputable def PySem.W.Fast.tw13105169966259205663 : Nat := 0
noncomputable def PySem.W.Fast.tw7760352951291766629 : Nat := 0
noncomputable def PySem.W.Fast.tw1348901801723100403 : Nat := 0
noncomputable def PySem.W.Fast.tw16567522650399939499 : Nat := 0
noncomputable def PySem.W.Fast.tw2540169988446539430 : Nat := 0
noncomputable def PySem.W.Fast.tw5087957215937746311 : Nat := 0
noncomputable def PySem.W.Fast.tw8702662573148903064 : Nat := 0
noncomputable def PySem.W.Fast.tw835998282211060510 : Nat := 0
noncomputable def PySem.W.Fast.tw5814609406146119685 : Nat := 0
noncomputable def PySem.W.Fast.tw11195714191124812799 : Nat := 0
noncomputable def PySem.W.Fast.tw249027570324412027 : Nat := 0
noncomputable def PySem.W.Fast.tw2664901413251063195 : Nat := 0
noncomputable def PySem.W.Fast.tw5155982569289769468 : Nat := 0
noncomputable def PySem.W.Fast.tw6866562878800845563 : Nat := 0
noncomputable def PySem.W.Fast.tw15494759967432174658 : Nat := 0
noncomputable def PySem.W.Fast.tw13744452244048080004 : Nat := 0
noncomputable def PySem.W.Fast.tw6006137474392172795 : Nat := 0
noncomputable def PySem.W.Fast.tw12008964470738538842 : Nat := 0
noncomputable def PySem.W.Fast.tw7335825584108923814 : Nat := 0
noncomputable def PySem.W.Fast.tw1413241442151811703 : Nat := 0
noncomputable def PySem.W.Fast.tw9434996551799474058 : Nat := 0
noncomputable def PySem.W.Fast.tw1719965460996145697 : Nat := 0
noncomputable def PySem.W.Fast.tw14692711243075857452 : Nat := 0
noncomputable def PySem.W.Fast.tw10062094921027816607 : Nat := 0
noncomputable def PySem.W.Fast.tw12109045323061720157 : Nat := 0
noncomputable def PySem.W.Fast.tw8205917389349482263 : Nat := 0
noncomputable def PySem.W.Fast.tw12218021755467452181 : Nat := 0
noncomputable def PySem.W.Fast.tw17000755794363299439 : Nat := 0
noncomputable def PySem.W.Fast.tw525791724102980162 : Nat := 0
noncomputable def PySem.W.Fast.tw1047646017737379161 : Nat := 0
noncomputable def PySem.W.Fast.tw17146515899023729718 : Nat := 0
noncomputable def PySem.W.Fast.tw4993630063857955434 : Nat := 0
noncomputable def PySem.W.Fast.tw1775368609627484715 : Nat := 0
noncomputable def PySem.W.Fast.tw322034355663532729 : Nat := 0
noncomputable def PySem.W.Fast.tw5714360151657652777 : Nat := 0
noncomputable def PySem.W.Fast.tw3639980492315071065 : Nat := 0
noncomputable def PySem.W.Fast.tw3807737537063404131 : Nat := 0
noncomputable def PySem.W.Fast.tw3098333297458035762 : Nat := 0
noncomputable def PySem.W.Fast.tw14614832062220504366 : Nat := 0
noncomputable def PySem.W.Fast.tw8763215801271768411 : Nat := 0
noncomputable def PySem.W.Fast.tw3544805449842554053 : Nat := 0
noncomputable def PySem.W.Fast.tw472051203904629173 : Nat := 0
noncomputable def PySem.W.Fast.tw4877008934920078898 : Nat := 0
noncomputable def PySem.W.Fast.tw8867854879313577465 : Nat := 0
noncomputable def PySem.W.Fast.tw6974536222426764961 : Nat := 0
noncomputable def PySem.W.Fast.tw4332989139724405131 : Nat := 0
noncomputable def PySem.W.Fast.tw8851095323893256644 : Nat := 0
noncomputable def PySem.W.Fast.tw8574885824041644796 : Nat := 0
noncomputable def PySem.W.Fast.tw2245351038233388125 : Nat := 0
noncomputable def PySem.W.Fast.tw18071867952154969885 : Nat := 0
noncomputable def PySem.W.Fast.tw14415147100504726236 : Nat := 0
noncomputable def PySem.W.Fast.tw15787740094038728520 : Nat := 0
noncomputable def PySem.W.Fast.tw3443246195751060837 : Nat := 0
noncomputable def PySem.W.Fast.tw14742853223765472656 : Nat := 0
noncomputable def PySem.W.Fast.tw2831928403398911030 : Nat := 0
noncomputable def PySem.W.Fast.tw18387652140646704479 : Nat := 0
noncomputable def PySem.W.Fast.tw11385554999376154366 : Nat := 0
noncomputable def PySem.W.Fast.tw8082807414816721113 : Nat := 0
noncomputable def PySem.W.Fast.tw17676512387775786615 : Nat := 0
noncomputable def PySem.W.Fast.tw17607986342333002604 : Nat := 0
noncomputable def PySem.W.Fast.tw11807923869975073873 : Nat := 0
noncomputable def PySem.W.Fast.tw13765913275078494706 : Nat := 0
noncomputable def PySem.W.Fast.tw14629281380404394886 : Nat := 0
noncomputable def PySem.W.Fast.tw16406149478932269113 : Nat := 0
noncomputable def PySem.W.Fast.tw8827634417397659461 : Nat := 0
noncomputable def PySem.W.Fast.tw3100706681240351533 : Nat := 0
noncomputable def PySem.W.Fast.tw8227322666772338567 : Nat := 0
noncomputable def PySem.W.Fast.tw5811336559639184793 : Nat := 0
noncomputable def PySem.W.Fast.tw8802717448357685343 : Nat := 0
noncomputable def PySem.W.Fast.tw612432751191958688 : Nat := 0
noncomputable def PySem.W.Fast.tw11322188150557275685 : Nat := 0
noncomputable def PySem.W.Fast.tw389501569505674681 : Nat := 0
noncomputable def PySem.W.Fast.tw497731954949047865 : Nat := 0
noncomputable def PySem.W.Fast.tw1836532742124390234 : Nat := 0
noncomputable def PySem.W.Fast.tw5829905822691704074 : Nat := 0
noncomputable def PySem.W.Fast.tw15795770435563551077 : Nat := 0
noncomputable def PySem.W.Fast.tw9438401369165170567 : Nat := 0
noncomputable def PySem.W.Fast.tw11389766289060345958 : Nat := 0
noncomputable def PySem.W.Fast.tw8251473433815119977 : Nat := 0
noncomputable def PySem.W.Fast.tw13556330856787425998 : Nat := 0
noncomputable def PySem.W.Fast.tw3048435384889169019 : Nat := 0
noncomputable def PySem.W.Fast.tw16052829175319679673 : Nat := 0
noncomputable def PySem.W.Fast.tw6328967400110629360 : Nat := 0
noncomputable def PySem.W.Fast.tw1278120288359571753 : Nat := 0
noncomputable def PySem.W.Fast.tw16778551038435628444 : Nat := 0
noncomputable def PySem.W.Fast.tw10081600641357506883 : Nat := 0
noncomputable def PySem.W.Fast.tw2927041671765158556 : Nat := 0
noncomputable def PySem.W.Fast.tw7353617148978352992 : Nat := 0
noncomputable def PySem.W.Fast.tw17498544086876285108 : Nat := 0
noncomputable def PySem.W.Fast.tw1432736566719131280 : Nat := 0
noncomputable def PySem.W.Fast.tw6960075311848014722 : Nat := 0
noncomputable def PySem.W.Fast.tw17426454142454658640 : Nat := 0
noncomputable def PySem.W.Fast.tw13492407041284516264 : Nat := 0
noncomputable def PySem.W.Fast.tw11283393944759629380 : Nat := 0
noncomputable def PySem.W.Fast.tw6846048907562206863 : Nat := 0
noncomputable def PySem.W.Fast.tw18060780314938519372 : Nat := 0
noncomputable def PySem.W.Fast.tw1041757321181298707 : Nat := 0
noncomputable def PySem.W.Fast.tw1428420459460617432 : Nat := 0
noncomputable def PySem.W.Fast.tw18174344533257487140 : Nat := 0
noncomputable def PySem.W.Fast.tw7148861795676344509 : Nat := 0
noncomputable def PySem.W.Fast.tw13517489134258013727 : Nat := 0
noncomputable def PySem.W.Fast.tw1526446841238885760 : Nat := 0
noncomputable def PySem.W.Fast.tw1586057893106469084 : Nat := 0
noncomputable def PySem.W.Fast.tw12316071478655923205 : Nat := 0
noncomputable def PySem.W.Fast.tw5833289260859307102 : Nat := 0
noncomputable def PySem.W.Fast.tw16938334973524591840 : Nat := 0
noncomputable def PySem.W.Fast.tw6421573079689265497 : Nat := 0
noncomputable def PySem.W.Fast.tw14215564521130144825 : Nat := 0
noncomputable def PySem.W.Fast.tw13619339098291350039 : Nat := 0
noncomputable def PySem.W.Fast.tw12395978658684012492 : Nat := 0
noncomputable def PySem.W.Fast.tw3970249497518485035 : Nat := 0
noncomputable def PySem.W.Fast.tw18139268254583491924 : Nat := 0
noncomputable def PySem.W.Fast.tw2775947792427304810 : Nat := 0
noncomputable def PySem.W.Fast.tw12640388565522812107 : Nat := 0
noncomputable def PySem.W.Fast.tw9109735998617895175 : Nat := 0
noncomputable def PySem.W.Fast.tw12490228543957763259 : Nat := 0
noncomputable def PySem.W.Fast.tw931789771472004635 : Nat := 0
noncomputable def PySem.W.Fast.tw15088493604829643168 : Nat := 0
noncomputable def PySem.W.Fast.tw9006655062846847665 : Nat := 0
noncomputable def PySem.W.Fast.tw13893520945648746324 : Nat := 0
noncomputable def PySem.W.Fast.tw5195773110643163923 : Nat := 0
noncomputable def PySem.W.Fast.tw17954263100028813981 : Nat := 0
noncomputable def PySem.W.Fast.tw5893248849159872223 : Nat := 0
noncomputable def PySem.W.Fast.tw3177966832976829352 : Nat := 0
noncomputable def PySem.W.Fast.tw6837450366854691984 : Nat := 0
noncomputable def PySem.W.Fast.tw1256474031682493042 : Nat := 0
noncomputable def PySem.W.Fast.tw432697953653902530 : Nat := 0
noncomputable def PySem.W.Fast.tw6222928594267173993 : Nat := 0
noncomputable def PySem.W.Fast.tw14153422370208968662 : Nat := 0
noncomputable def PySem.W.Fast.tw1212325279188665281 : Nat := 0
noncomputable def PySem.W.Fast.tw17328453946007362040 : Nat := 0
noncomputable def PySem.W.Fast.tw9113977511923333001 : Nat := 0
noncomputable def PySem.W.Fast.tw6319762255586927528 : Nat := 0
noncomputable def PySem.W.Fast.tw14027217606557218586 : Nat := 0
noncomputable def PySem.W.Fast.tw4136286350236144821 : Nat := 0
noncomputable def PySem.W.Fast.tw5231767045682572608 : Nat := 0
noncomputable def PySem.W.Fast.tw3895570010479859592 : Nat := 0
noncomputable def PySem.W.Fast.tw2196579025440112837 : Nat := 0
noncomputable def PySem.W.Fast.tw15532125206490290757 : Nat := 0
noncomputable def PySem.W.Fast.tw12426623875585050796 : Nat := 0
noncomputable def PySem.W.Fast.tw10115073591650180648 : Nat := 0
noncomputable def PySem.W.Fast.tw16125170579051446137 : Nat := 0
noncomputable def PySem.W.Fast.tw4657279523883041857 : Nat := 0
noncomputable def PySem.W.Fast.tw15177112772814165531 : Nat := 0
noncomputable def PySem.W.Fast.tw9239561521389005442 : Nat := 0
noncomputable def PySem.W.Fast.tw8663859115749370661 : Nat := 0
noncomputable def PySem.W.Fast.tw2810517449088674938 : Nat := 0
noncomputable def PySem.W.Fast.tw15337182699400389768 : Nat := 0
noncomputable def PySem.W.Fast.tw1577486268345029599 : Nat := 0
noncomputable def PySem.W.Fast.tw15123525872615662516 : Nat := 0
noncomputable def PySem.W.Fast.tw2311022850231183400 : Nat := 0
noncomputable def PySem.W.Fast.tw8988395284118569284 : Nat := 0
noncomputable def PySem.W.Fast.tw1757261670367880652 : Nat := 0
noncomputable def PySem.W.Fast.tw5211545445978533834 : Nat := 0
noncomputable def PySem.W.Fast.tw3416195512747486488 : Nat := 0
noncomputable def PySem.W.Fast.tw5575035700947054068 : Nat := 0
noncomputable def PySem.W.Fast.tw2891625828546695260 : Nat := 0
noncomputable def PySem.W.Fast.tw8248175128801924071 : Nat := 0
noncomputable def PySem.W.Fast.tw17758092346173067528 : Nat := 0
noncomputable def PySem.W.Fast.tw9990992176756933132 : Nat := 0
noncomputable def PySem.W.Fast.tw1025820787221412600 : Nat := 0
noncomputable def PySem.W.Fast.tw16865671772304684448 : Nat := 0
noncomputable def PySem.W.Fast.tw49866440909136527 : Nat := 0
noncomputable def PySem.W.Fast.tw3813159993809536402 : Nat := 0
noncomputable def PySem.W.Fast.tw4829000557642663284 : Nat := 0
noncomputable def PySem.W.Fast.tw14437478398484388080 : Nat := 0
noncomputable def PySem.W.Fast.tw10053077668792064954 : Nat := 0
noncomputable def PySem.W.Fast.tw7996196034725182415 : Nat := 0
noncomputable def PySem.W.Fast.tw16887183515069205009 : Nat := 0
noncomputable def PySem.W.Fast.tw8078500050796961300 : Nat := 0
noncomputable def PySem.W.Fast.tw10065367767312268762 : Nat := 0
noncomputable def PySem.W.Fast.tw15387163020753349783 : Nat := 0
noncomputable def PySem.W.Fast.tw9573338867768067027 : Nat := 0
noncomputable def PySem.W.Fast.tw5151872666247030991 : Nat := 0
noncomputable def PySem.W.Fast.tw14277233541673621304 : Nat := 0
noncomputable def PySem.W.Fast.tw11320401680994604815 : Nat := 0
noncomputable def PySem.W.Fast.tw11053269536676317350 : Nat := 0
noncomputable def PySem.W.Fast.tw15592625220041526168 : Nat := 0
noncomputable def PySem.W.Fast.tw12193889895091085867 : Nat := 0
noncomputable def PySem.W.Fast.tw9952824455716807630 : Nat := 0
noncomputable def PySem.W.Fast.tw6631737974471561855 : Nat := 0
noncomputable def PySem.W.Fast.tw14456632849371704744 : Nat := 0
noncomputable def PySem.W.Fast.tw17649975277519526465 : Nat := 0
noncomputable def PySem.W.Fast.tw6886369508727785219 : Nat := 0
noncomputable def PySem.W.Fast.tw9654803799933422368 : Nat := 0
noncomputable def PySem.W.Fast.tw7779124062540167038 : Nat := 0
noncomputable def PySem.W.Fast.tw15148216428538260945 : Nat := 0
noncomputable def PySem.W.Fast.tw14171429629658222426 : Nat := 0
noncomputable def PySem.W.Fast.tw127362759793168305 : Nat := 0
noncomputable def PySem.W.Fast.tw18432247805644371558 : Nat := 0
noncomputable def PySem.W.Fast.tw11029937650452958095 : Nat := 0
noncomputable def PySem.W.Fast.tw238466937302099073 : Nat := 0
noncomputable def PySem.W.Fast.tw6533053400061075502 : Nat := 0
noncomputable def PySem.W.Fast.tw7333153869156500278 : Nat := 0
noncomputable def PySem.W.Fast.tw5300365901385055237 : Nat := 0
noncomputable def PySem.W.Fast.tw9657187055660480547 : Nat := 0
open PySem PySem.W PyProof.Rows
set_option maxRecDepth 100000 in
set_option maxHeartbeats 0 in
theorem PySem.Challenge.cw_panethread_k63_changes_after_changes_holds : PySem.Challenge.rw_panethread_k63_changes_after_changes.Holds := by
  w_on; o_law; k_head; (case hw => w_witness2)
  k_fill
  refine L2.walkJ (l := PySem.Challenge.rw_panethread_k63_changes_after_changes) (st := My.s_law) (k := 8) (x := "_law_script") (sp := My.spLaw) rfl rfl rfl ⟨rfl, by decide, by decide, rfl⟩ (fun w h Y => PySem.W.kIn_of Y) (fun _ _ _ _ _ _ us hl => L2.usN1 (fun _ => rfl) us hl) ?F (fun K H a ns hl hS => ⟨a, ns, rfl, hS, hl, fun _ => rfl⟩)
  case F =>
    intro w mg h KX G
    have b_ValueError : mg "ValueError" = none := by
      refine' PySem.W.mg_none_of KX G ?a
      (case a => k_is)
    have b_all : mg "all" = none := by
      refine' PySem.W.mg_none_of KX G ?a
      (case a => k_is)
    have b_enumerate : mg "enumerate" = none := by
      refine' PySem.W.mg_none_of KX G ?a
      (case a => k_is)
    have b_isinstance : mg "isinstance" = none := by
      refine' PySem.W.mg_none_of KX G ?a
      (case a => k_is)
    have b_len : mg "len" = none := by
      refine' PySem.W.mg_none_of KX G ?a
      (case a => k_is)
    have b_list : mg "list" = none := by
      refine' PySem.W.mg_none_of KX G ?a
      (case a => k_is)
    have b_ord : mg "ord" = none := by
      refine' PySem.W.mg_none_of KX G ?a
      (case a => k_is)
    have b_range : mg "range" = none := by
      refine' PySem.W.mg_none_of KX G ?a
      (case a => k_is)
    have b_str : mg "str" = none := by
      refine' PySem.W.mg_none_of KX G ?a
      (case a => k_is)
    have b_tuple : mg "tuple" = none := by
      refine' PySem.W.mg_none_of KX G ?a
      (case a => k_is)
    have b_zip : mg "zip" = none := by
      refine' PySem.W.mg_none_of KX G ?a
      (case a => k_is)
    have c_CHANGE : ∃ t, mg "CHANGE" = some (.str "change" t) := by
      refine' L2.const_mk KX G ?a ?h
      (case a => k_is); (case h => exact ⟨_, by with_unfolding_all rfl⟩)
    have c_IN : ∃ t, mg "IN" = some (.str "in" t) := by
      refine' L2.const_mk KX G ?a ?h
      (case a => k_is); (case h => exact ⟨_, by with_unfolding_all rfl⟩)
    have c_KEEP : ∃ t, mg "KEEP" = some (.str "keep" t) := by
      refine' L2.const_mk KX G ?a ?h
      (case a => k_is); (case h => exact ⟨_, by with_unfolding_all rfl⟩)
    have c_LETTERS : ∃ t, mg "LETTERS" = some (.str "abcdefghijklmnopqrstuvwxyz" t) := by
      refine' L2.const_mk KX G ?a ?h
      (case a => k_is); (case h => exact ⟨_, by with_unfolding_all rfl⟩)
    have c_MOST_CHANGES : ∃ t, mg "MOST_CHANGES" = some (.int 48 t) := by
      refine' L2.const_mk KX G ?a ?h
      (case a => k_is); (case h => exact ⟨_, by with_unfolding_all rfl⟩)
    have c_OUT : ∃ t, mg "OUT" = some (.str "out" t) := by
      refine' L2.const_mk KX G ?a ?h
      (case a => k_is); (case h => exact ⟨_, by with_unfolding_all rfl⟩)
    have d_is_letter : L2.Def (L2.KOf KX) mg "is_letter" My.s_is_letter := by
      dsimp only [L2.KOf]
      refine' L2.def_mk KX G ?a ?l ?c ?k
      (case a => k_is); (case l => k_is); (case c => k_is); (case k => k_is)
    have d_is_change : L2.Def (L2.KOf KX) mg "is_change" My.s_is_change := by
      dsimp only [L2.KOf]
      refine' L2.def_mk KX G ?a ?l ?c ?k
      (case a => k_is); (case l => k_is); (case c => k_is); (case k => k_is)
    have d_is_changes : L2.Def (L2.KOf KX) mg "is_changes" My.s_is_changes := by
      dsimp only [L2.KOf]
      refine' L2.def_mk KX G ?a ?l ?c ?k
      (case a => k_is); (case l => k_is); (case c => k_is); (case k => k_is)
    have d_need_changes : L2.Def (L2.KOf KX) mg "need_changes" My.s_need_changes := by
      dsimp only [L2.KOf]
      refine' L2.def_mk KX G ?a ?l ?c ?k
      (case a => k_is); (case l => k_is); (case c => k_is); (case k => k_is)
    have d_old_letter : L2.Def (L2.KOf KX) mg "old_letter" My.s_old_letter := by
      dsimp only [L2.KOf]
      refine' L2.def_mk KX G ?a ?l ?c ?k
      (case a => k_is); (case l => k_is); (case c => k_is); (case k => k_is)
    have d_new_letter : L2.Def (L2.KOf KX) mg "new_letter" My.s_new_letter := by
      dsimp only [L2.KOf]
      refine' L2.def_mk KX G ?a ?l ?c ?k
      (case a => k_is); (case l => k_is); (case c => k_is); (case k => k_is)
    have d_old_row : L2.Def (L2.KOf KX) mg "old_row" My.s_old_row := by
      dsimp only [L2.KOf]
      refine' L2.def_mk KX G ?a ?l ?c ?k
      (case a => k_is); (case l => k_is); (case c => k_is); (case k => k_is)
    have d_new_row : L2.Def (L2.KOf KX) mg "new_row" My.s_new_row := by
      dsimp only [L2.KOf]
      refine' L2.def_mk KX G ?a ?l ?c ?k
      (case a => k_is); (case l => k_is); (case c => k_is); (case k => k_is)
    have d_change_of : L2.Def (L2.KOf KX) mg "change_of" My.s_change_of := by
      dsimp only [L2.KOf]
      refine' L2.def_mk KX G ?a ?l ?c ?k
      (case a => k_is); (case l => k_is); (case c => k_is); (case k => k_is)
    have d_paid : L2.Def (L2.KOf KX) mg "paid" My.s_paid := by
      dsimp only [L2.KOf]
      refine' L2.def_mk KX G ?a ?l ?c ?k
      (case a => k_is); (case l => k_is); (case c => k_is); (case k => k_is)
    have d_loose_groups : L2.Def (L2.KOf KX) mg "loose_groups" My.s_loose_groups := by
      dsimp only [L2.KOf]
      refine' L2.def_mk KX G ?a ?l ?c ?k
      (case a => k_is); (case l => k_is); (case c => k_is); (case k => k_is)
    have d_bound : L2.Def (L2.KOf KX) mg "bound" My.s_bound := by
      dsimp only [L2.KOf]
      refine' L2.def_mk KX G ?a ?l ?c ?k
      (case a => k_is); (case l => k_is); (case c => k_is); (case k => k_is)
    have d_come_together : L2.Def (L2.KOf KX) mg "come_together" My.s_come_together := by
      dsimp only [L2.KOf]
      refine' L2.def_mk KX G ?a ?l ?c ?k
      (case a => k_is); (case l => k_is); (case c => k_is); (case k => k_is)
    have d_after : L2.Def (L2.KOf KX) mg "after" My.s_after := by
      dsimp only [L2.KOf]
      refine' L2.def_mk KX G ?a ?l ?c ?k
      (case a => k_is); (case l => k_is); (case c => k_is); (case k => k_is)
    have d_law_cell_at : L2.Def (L2.KOf KX) mg "_law_cell_at" My.s_law_cell_at := by
      dsimp only [L2.KOf]
      refine' L2.def_mk KX G ?a ?l ?c ?k
      (case a => k_is); (case l => k_is); (case c => k_is); (case k => k_is)
    have d_law_great : L2.Def (L2.KOf KX) mg "_law_great" My.s_law_great := by
      dsimp only [L2.KOf]
      refine' L2.def_mk KX G ?a ?l ?c ?k
      (case a => k_is); (case l => k_is); (case c => k_is); (case k => k_is)
    have d_law_letter : L2.Def (L2.KOf KX) mg "_law_letter" My.s_law_letter := by
      dsimp only [L2.KOf]
      refine' L2.def_mk KX G ?a ?l ?c ?k
      (case a => k_is); (case l => k_is); (case c => k_is); (case k => k_is)
    have d_law_row : L2.Def (L2.KOf KX) mg "_law_row" My.s_law_row := by
      dsimp only [L2.KOf]
      refine' L2.def_mk KX G ?a ?l ?c ?k
      (case a => k_is); (case l => k_is); (case c => k_is); (case k => k_is)
    have d_law_list : L2.Def (L2.KOf KX) mg "_law_list" My.s_law_list := by
      dsimp only [L2.KOf]
      refine' L2.def_mk KX G ?a ?l ?c ?k
      (case a => k_is); (case l => k_is); (case c => k_is); (case k => k_is)
    have d_law_new : L2.Def (L2.KOf KX) mg "_law_new" My.s_law_new := by
      dsimp only [L2.KOf]
      refine' L2.def_mk KX G ?a ?l ?c ?k
      (case a => k_is); (case l => k_is); (case c => k_is); (case k => k_is)
    have d_law_old : L2.Def (L2.KOf KX) mg "_law_old" My.s_law_old := by
      dsimp only [L2.KOf]
      refine' L2.def_mk KX G ?a ?l ?c ?k
      (case a => k_is); (case l => k_is); (case c => k_is); (case k => k_is)
    have d_law_split : L2.Def (L2.KOf KX) mg "_law_split" My.s_law_split := by
      dsimp only [L2.KOf]
      refine' L2.def_mk KX G ?a ?l ?c ?k
      (case a => k_is); (case l => k_is); (case c => k_is); (case k => k_is)
    have d_law_met : L2.Def (L2.KOf KX) mg "_law_met" My.s_law_met := by
      dsimp only [L2.KOf]
      refine' L2.def_mk KX G ?a ?l ?c ?k
      (case a => k_is); (case l => k_is); (case c => k_is); (case k => k_is)
    have d_law_after : L2.Def (L2.KOf KX) mg "_law_after" My.s_law_after := by
      dsimp only [L2.KOf]
      refine' L2.def_mk KX G ?a ?l ?c ?k
      (case a => k_is); (case l => k_is); (case c => k_is); (case k => k_is)
    have d_law_pays : L2.Def (L2.KOf KX) mg "_law_pays" My.s_law_pays := by
      dsimp only [L2.KOf]
      refine' L2.def_mk KX G ?a ?l ?c ?k
      (case a => k_is); (case l => k_is); (case c => k_is); (case k => k_is)
    have d_law_too_long : L2.Def (L2.KOf KX) mg "_law_too_long" My.s_law_too_long := by
      dsimp only [L2.KOf]
      refine' L2.def_mk KX G ?a ?l ?c ?k
      (case a => k_is); (case l => k_is); (case c => k_is); (case k => k_is)
    have d_law_unlike : L2.Def (L2.KOf KX) mg "_law_unlike" My.s_law_unlike := by
      dsimp only [L2.KOf]
      refine' L2.def_mk KX G ?a ?l ?c ?k
      (case a => k_is); (case l => k_is); (case c => k_is); (case k => k_is)
    have d_law_no_changes : L2.Def (L2.KOf KX) mg "_law_no_changes" My.s_law_no_changes := by
      dsimp only [L2.KOf]
      refine' L2.def_mk KX G ?a ?l ?c ?k
      (case a => k_is); (case l => k_is); (case c => k_is); (case k => k_is)
    have d_law_told : L2.Def (L2.KOf KX) mg "_law_told" My.s_law_told := by
      dsimp only [L2.KOf]
      refine' L2.def_mk KX G ?a ?l ?c ?k
      (case a => k_is); (case l => k_is); (case c => k_is); (case k => k_is)
    have d_law_with_itself : L2.Def (L2.KOf KX) mg "_law_with_itself" My.s_law_with_itself := by
      dsimp only [L2.KOf]
      refine' L2.def_mk KX G ?a ?l ?c ?k
      (case a => k_is); (case l => k_is); (case c => k_is); (case k => k_is)
    have d_law_there_and_back : L2.Def (L2.KOf KX) mg "_law_there_and_back" My.s_law_there_and_back := by
      dsimp only [L2.KOf]
      refine' L2.def_mk KX G ?a ?l ?c ?k
      (case a => k_is); (case l => k_is); (case c => k_is); (case k => k_is)
    have d_law_moved_by_one : L2.Def (L2.KOf KX) mg "_law_moved_by_one" My.s_law_moved_by_one := by
      dsimp only [L2.KOf]
      refine' L2.def_mk KX G ?a ?l ?c ?k
      (case a => k_is); (case l => k_is); (case c => k_is); (case k => k_is)
    have d_law_very_thing : L2.Def (L2.KOf KX) mg "_law_very_thing" My.s_law_very_thing := by
      dsimp only [L2.KOf]
      refine' L2.def_mk KX G ?a ?l ?c ?k
      (case a => k_is); (case l => k_is); (case c => k_is); (case k => k_is)
    have d_law_refused : L2.Def (L2.KOf KX) mg "_law_refused" My.s_law_refused := by
      dsimp only [L2.KOf]
      refine' L2.def_mk KX G ?a ?l ?c ?k
      (case a => k_is); (case l => k_is); (case c => k_is); (case k => k_is)
    have d_law : L2.Def (L2.KOf KX) mg "law" My.s_law := by
      dsimp only [L2.KOf]
      refine' L2.def_mk KX G ?a ?l ?c ?k
      (case a => k_is); (case l => k_is); (case c => k_is); (case k => k_is)
    have x_PaneError : L2.CTxt (L2.KOf KX) mg "PaneError" := by
      dsimp only [L2.KOf]
      refine' L2.ct_mk KX G ?a ?b
      (case a => k_is); (case b => kernel_rfl)
    have x_Unlike : L2.XTxt (L2.KOf KX) mg "Unlike" ["one", "other"] "Unlike.__init__" My.i_Unlike := by
      dsimp only [L2.KOf]
      refine' L2.xt_mk KX G ?a ?b ?kp ?na ?i ?t ?l ?c ?k
      (case a => k_is); (case b => kernel_rfl); (case kp => k_is); (case na => kernel_rfl); (case i => k_is); (case t => k_is); (case l => k_is); (case c => k_is); (case k => k_is)
    have x_TooLong : L2.XTxt (L2.KOf KX) mg "TooLong" ["found"] "TooLong.__init__" My.i_TooLong := by
      dsimp only [L2.KOf]
      refine' L2.xt_mk KX G ?a ?b ?kp ?na ?i ?t ?l ?c ?k
      (case a => k_is); (case b => kernel_rfl); (case kp => k_is); (case na => kernel_rfl); (case i => k_is); (case t => k_is); (case l => k_is); (case c => k_is); (case k => k_is)
    have x_NoChanges : L2.XTxt (L2.KOf KX) mg "NoChanges" ["found"] "NoChanges.__init__" My.i_NoChanges := by
      dsimp only [L2.KOf]
      refine' L2.xt_mk KX G ?a ?b ?kp ?na ?i ?t ?l ?c ?k
      (case a => k_is); (case b => kernel_rfl); (case kp => k_is); (case na => kernel_rfl); (case i => k_is); (case t => k_is); (case l => k_is); (case c => k_is); (case k => k_is)
    have u_Unlike_PaneError : L2.Sub (L2.KOf KX) mg "Unlike" "PaneError" true := by
      dsimp only [L2.KOf]
      refine' L2.sub_mk KX G ?a ?b ?m ?o
      (case a => k_is); (case b => k_is); (case m => k_is); (case o => kernel_rfl)
    have u_Unlike_Unlike : L2.Sub (L2.KOf KX) mg "Unlike" "Unlike" true := by
      dsimp only [L2.KOf]
      refine' L2.sub_mk KX G ?a ?b ?m ?o
      (case a => k_is); (case b => k_is); (case m => k_is); (case o => kernel_rfl)
    have u_Unlike_TooLong : L2.Sub (L2.KOf KX) mg "Unlike" "TooLong" false := by
      dsimp only [L2.KOf]
      refine' L2.sub_mk KX G ?a ?b ?m ?o
      (case a => k_is); (case b => k_is); (case m => k_is); (case o => kernel_rfl)
    have u_Unlike_NoChanges : L2.Sub (L2.KOf KX) mg "Unlike" "NoChanges" false := by
      dsimp only [L2.KOf]
      refine' L2.sub_mk KX G ?a ?b ?m ?o
      (case a => k_is); (case b => k_is); (case m => k_is); (case o => kernel_rfl)
    have u_TooLong_PaneError : L2.Sub (L2.KOf KX) mg "TooLong" "PaneError" true := by
      dsimp only [L2.KOf]
      refine' L2.sub_mk KX G ?a ?b ?m ?o
      (case a => k_is); (case b => k_is); (case m => k_is); (case o => kernel_rfl)
    have u_TooLong_Unlike : L2.Sub (L2.KOf KX) mg "TooLong" "Unlike" false := by
      dsimp only [L2.KOf]
      refine' L2.sub_mk KX G ?a ?b ?m ?o
      (case a => k_is); (case b => k_is); (case m => k_is); (case o => kernel_rfl)
    have u_TooLong_TooLong : L2.Sub (L2.KOf KX) mg "TooLong" "TooLong" true := by
      dsimp only [L2.KOf]
      refine' L2.sub_mk KX G ?a ?b ?m ?o
      (case a => k_is); (case b => k_is); (case m => k_is); (case o => kernel_rfl)
    have u_TooLong_NoChanges : L2.Sub (L2.KOf KX) mg "TooLong" "NoChanges" false := by
      dsimp only [L2.KOf]
      refine' L2.sub_mk KX G ?a ?b ?m ?o
      (case a => k_is); (case b => k_is); (case m => k_is); (case o => kernel_rfl)
    have u_NoChanges_PaneError : L2.Sub (L2.KOf KX) mg "NoChanges" "PaneError" true := by
      dsimp only [L2.KOf]
      refine' L2.sub_mk KX G ?a ?b ?m ?o
      (case a => k_is); (case b => k_is); (case m => k_is); (case o => kernel_rfl)
    have u_NoChanges_Unlike : L2.Sub (L2.KOf KX) mg "NoChanges" "Unlike" false := by
      dsimp only [L2.KOf]
      refine' L2.sub_mk KX G ?a ?b ?m ?o
      (case a => k_is); (case b => k_is); (case m => k_is); (case o => kernel_rfl)
    have u_NoChanges_TooLong : L2.Sub (L2.KOf KX) mg "NoChanges" "TooLong" false := by
      dsimp only [L2.KOf]
      refine' L2.sub_mk KX G ?a ?b ?m ?o
      (case a => k_is); (case b => k_is); (case m => k_is); (case o => kernel_rfl)
    have u_NoChanges_NoChanges : L2.Sub (L2.KOf KX) mg "NoChanges" "NoChanges" true := by
      dsimp only [L2.KOf]
      refine' L2.sub_mk KX G ?a ?b ?m ?o
      (case a => k_is); (case b => k_is); (case m => k_is); (case o => kernel_rfl)
    have v_Unlike : PySem.W.kitOne (L2.KOf KX) (.ref (L2.clsA mg "Unlike")) (.type "ValueError") = some true := by
      dsimp only [L2.KOf]
      refine' L2.subT_mk KX G ?a ?o
      (case a => k_is); (case o => kernel_rfl)
    have v_TooLong : PySem.W.kitOne (L2.KOf KX) (.ref (L2.clsA mg "TooLong")) (.type "ValueError") = some true := by
      dsimp only [L2.KOf]
      refine' L2.subT_mk KX G ?a ?o
      (case a => k_is); (case o => kernel_rfl)
    have v_NoChanges : PySem.W.kitOne (L2.KOf KX) (.ref (L2.clsA mg "NoChanges")) (.type "ValueError") = some true := by
      dsimp only [L2.KOf]
      refine' L2.subT_mk KX G ?a ?o
      (case a => k_is); (case o => kernel_rfl)
    exact ⟨d_law, fun base f fd F => My.ok_law ⟨b_ValueError, b_all, b_enumerate, b_isinstance, b_len, b_list, b_ord, b_range, b_str, b_tuple, b_zip, c_CHANGE, c_IN, c_KEEP, c_LETTERS, c_MOST_CHANGES, c_OUT, d_is_letter, d_is_change, d_is_changes, d_need_changes, d_old_letter, d_new_letter, d_old_row, d_new_row, d_change_of, d_paid, d_loose_groups, d_bound, d_come_together, d_after, d_law_cell_at, d_law_great, d_law_letter, d_law_row, d_law_list, d_law_new, d_law_old, d_law_split, d_law_met, d_law_after, d_law_pays, d_law_too_long, d_law_unlike, d_law_no_changes, d_law_told, d_law_with_itself, d_law_there_and_back, d_law_moved_by_one, d_law_very_thing, d_law_refused, d_law, x_PaneError, x_Unlike, x_TooLong, x_NoChanges, u_Unlike_PaneError, u_Unlike_Unlike, u_Unlike_TooLong, u_Unlike_NoChanges, u_TooLong_PaneError, u_TooLong_Unlike, u_TooLong_TooLong, u_TooLong_NoChanges, u_NoChanges_PaneError, u_NoChanges_Unlike, u_NoChanges_TooLong, u_NoChanges_NoChanges, v_Unlike, v_TooLong, v_NoChanges⟩ F⟩
