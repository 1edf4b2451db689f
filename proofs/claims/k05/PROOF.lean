import PyProof.Rows.All
import Wide.All
import OpenK.AllK
import Wide.FinOn
import Lean
import PyProof.EqAt
import PyProof.EqKinds
import PyProof.TupleCall
import PyProof.ReprRoads
import PySem.Challenge.RW_panethread_k05_threads_told_and_spoilt
-- CHANGE: your row's module here, as the last of these rows
set_option Elab.async false
set_option linter.all false
set_option maxRecDepth 100000
namespace L2
open PySem PySem.Spec PyProof.Rows

/-- a key: an int or a str -/
abbrev Key := Sum Int Str
def keyIs : Key → Value → Bool
  | .inl k, v => Value.isInt k v
  | .inr x, v => Value.isStrOf x v
def keyH (w : World) : Key → Int
  | .inl k => hashInt k
  | .inr x => hashStr w x
theorem keyIs_shape : ∀ {k : Key} {v : Value}, keyIs k v = true → (∃ i t, k = Sum.inl i ∧ v = Value.int i t) ∨ (∃ x t, k = Sum.inr x ∧ v = Value.str x t)
  | .inl i, v, h => by
    obtain ⟨t, e⟩ := Value.isInt_shape (k := i) (v := v) h
    exact .inl ⟨i, t, rfl, e⟩
  | .inr x, v, h => by
    obtain ⟨t, e⟩ := Value.isStrOf_shape (x := x) (v := v) h
    exact .inr ⟨x, t, rfl, e⟩
theorem key_ll (a b : Int) : decide ((Sum.inl a : Key) = Sum.inl b) = (a == b) := by
  by_cases e : a = b
  · subst e; simp
  · have h : ¬ (Sum.inl a : Key) = Sum.inl b := fun q => e (Sum.inl.inj q)
    rw [decide_eq_false h]
    exact (beq_eq_false_iff_ne.mpr e).symm
theorem key_rr (a b : Str) : decide ((Sum.inr a : Key) = Sum.inr b) = decide (a = b) := by
  by_cases e : a = b
  · subst e; simp
  · have h : ¬ (Sum.inr a : Key) = Sum.inr b := fun q => e (Sum.inr.inj q)
    rw [decide_eq_false h, decide_eq_false e]
theorem key_lr (a : Int) (b : Str) : decide ((Sum.inl a : Key) = Sum.inr b) = false := decide_eq_false (fun q => nomatch q)
theorem key_rl (a : Str) (b : Int) : decide ((Sum.inr a : Key) = Sum.inl b) = false := decide_eq_false (fun q => nomatch q)

def mixKind (prog : Program) (w : World) : PySem.KeyKind prog w Key where
  is := keyIs
  hash := keyH w
  inj := fun v a b ha hb => by
    rcases keyIs_shape ha with ⟨i, t, rfl, rfl⟩ | ⟨x, t, rfl, rfl⟩
    · rcases keyIs_shape hb with ⟨j, u, rfl, e⟩ | ⟨y, u, rfl, e⟩
      · injection e with e1 _; rw [e1]
      · exact nomatch e
    · rcases keyIs_shape hb with ⟨j, u, rfl, e⟩ | ⟨y, u, rfl, e⟩
      · exact nomatch e
      · injection e with e1 _; rw [e1]
  byValue := fun k v h => by
    rcases keyIs_shape h with ⟨i, t, rfl, rfl⟩ | ⟨x, t, rfl, rfl⟩ <;> rfl
  pyHash := fun hv h => by
    rcases keyIs_shape hv with ⟨i, t, rfl, rfl⟩ | ⟨x, t, rfl, rfl⟩
    · exact wpAny_pyHash_int h
    · exact wpAny_pyHash_str h
  eqBool := fun hu hv h => by
    rcases keyIs_shape hu with ⟨i, t, rfl, rfl⟩ | ⟨x, t, rfl, rfl⟩
    · rcases keyIs_shape hv with ⟨j, u, rfl, rfl⟩ | ⟨y, u, rfl, rfl⟩
      · rw [key_ll] at h; exact wpAny_eqBool_int h
      · rw [key_lr] at h; exact SeqAt.EqAt.int_str i t y u _ _ _ _ h
    · rcases keyIs_shape hv with ⟨j, u, rfl, rfl⟩ | ⟨y, u, rfl, rfl⟩
      · rw [key_rl] at h; exact SeqAt.EqAt.str_int x t j u _ _ _ _ h
      · rw [key_rr] at h; exact wpAny_eqBool_str h
  «strs» := fun k x t v h => by
    rcases keyIs_shape h with ⟨i, u, rfl, e⟩ | ⟨y, u, rfl, e⟩
    · exact nomatch e
    · injection e with e1 _
      subst e1
      cases v <;> rfl

end L2

namespace L2
open PySem PySem.Spec PyProof.Rows

/-- a value, without the heap -/
inductive V where
  | non | bl (b : Bool) | int (i : Int) | str (x : Str) | byt (b : Array UInt8) | flt (b : UInt64) | ref (a : Addr) | ty (n : String)
  deriving DecidableEq

def RelV : V → Value → Prop
  | .non, u => u = Value.none
  | .bl b, u => u = Value.bool b
  | .int i, u => ∃ t, u = Value.int i t
  | .str x, u => ∃ t, u = Value.str x t
  | .byt b, u => ∃ t, u = Value.bytes b t
  | .flt b, u => ∃ t, u = Value.float b t
  | .ref a, u => u = Value.ref a
  | .ty n, u => u = Value.type n

abbrev Vals : List V → List Value → Prop := Paired RelV
theorem Vals.length {xs : List V} {us : List Value} (r : Vals xs us) : xs.length = us.length := Paired.length r
theorem Vals.get : ∀ {xs : List V} {us : List Value} {i : Nat} {x : V}, Vals xs us → xs[i]? = some x → ∃ u, us[i]? = some u ∧ RelV x u
  | _, _, _, _, .nil, e => by simp at e
  | _, _, 0, _, .cons r _, e => by simp at e; subst e; exact ⟨_, rfl, r⟩
  | _, _, i + 1, x, .cons _ t, e => by
    obtain ⟨u, h1, h2⟩ := Vals.get (i := i) (x := x) t (by simpa using e)
    exact ⟨u, by simpa using h1, h2⟩
theorem Vals.set {x : V} {u : Value} (r : RelV x u) : ∀ {xs : List V} {us : List Value} (i : Nat), Vals xs us → Vals (xs.set i x) (us.set i u)
  | _, _, _, .nil => .nil
  | _, _, 0, .cons _ t => .cons r t
  | _, _, i + 1, .cons q t => .cons q (Vals.set r i t)
theorem Vals.append : ∀ {xs ys : List V} {us ws : List Value}, Vals xs us → Vals ys ws → Vals (xs ++ ys) (us ++ ws)
  | _, _, _, _, .nil, s => s
  | _, _, _, _, .cons r t, s => .cons r (Vals.append t s)
theorem Vals.take : ∀ {xs : List V} {us : List Value} (n : Nat), Vals xs us → Vals (xs.take n) (us.take n)
  | _, _, 0, _ => .nil
  | _, _, _ + 1, .nil => .nil
  | _, _, n + 1, .cons r t => .cons r (Vals.take n t)
theorem Vals.drop : ∀ {xs : List V} {us : List Value} (n : Nat), Vals xs us → Vals (xs.drop n) (us.drop n)
  | _, _, 0, r => r
  | _, _, _ + 1, .nil => .nil
  | _, _, n + 1, .cons _ t => Vals.drop n t
def RelO : Option V → Option Value → Prop
  | some v, some u => RelV v u
  | none, none => True
  | _, _ => False
def KV {κ : Type} : List (κ × V) → List (κ × Value) → Prop := Paired fun (p : κ × V) (q : κ × Value) => p.1 = q.1 ∧ RelV p.2 q.2

/-- a key of a dict (00_mix): an int or a text -/
def kV : Key → V
  | .inl i => .int i
  | .inr x => .str x

/-- what stands at a tracked address -/
inductive HO where
  /-- a list -/
  | lst (xs : List V)
  /-- a tuple (never changes) -/
  | tup (xs : List V)
  /-- a dict whose keys are ints and texts; one whose keys are tuples of ints and texts (the empty one is both) -/
  | dK (kvs : List (Key × V)) | dT (kvs : List (List Key × V))
  /-- a set of ints: its members, its size -/
  | set (S : Int → Bool) (n : Nat)
  /-- an instance of the class at C, its dict at dx, its attributes -/
  | ins (C dx : Addr) (fs : List (Str × V))
  /-- the dict of the instance at x -/
  | own (x : Addr)
  /-- the dict of an exception -/
  | xd (fs : List (Str × V))
  /-- a bound method, f of x -/
  | met (f x : Addr)
  /-- a range object lo, lo + 1, .. below hi -/
  | rng (lo hi : Int)
  /-- a thing that is known to the object (the script; a dict while a loop walks it): read, never written while it is so -/
  | frz (o : Obj) (u : HO)
  /-- a code object's table -/
  | tbl (ps : Array Value)
  /-- any other thing, by what is true of its one object (a def of one's own: SetO a S n := HO.ext fun h => ..) -/
  | ext (φ : Heap → Prop)

abbrev Hp := Addr → Option HO
def upd (H : Hp) (a : Addr) (o : HO) : Hp := fun b => if b = a then some o else H b
theorem upd_same {H : Hp} {a : Addr} {o : HO} : upd H a o a = some o := by unfold upd; rw [if_pos rfl]
theorem upd_ne {H : Hp} {a b : Addr} {o : HO} (h : b ≠ a) : upd H a o b = H b := by unfold upd; rw [if_neg h]
theorem ne_of_none {H : Hp} {a b : Addr} {o : HO} (h : H a = some o) (h' : H b = none) : a ≠ b := by
  intro e; subst e; rw [h] at h'; cases h'

section
variable (P : Program) (w : World)
def ObjOk (H : Hp) (h : Heap) (a : Addr) : HO → Prop
  | .lst xs => xs.length ≤ sizeLine ∧ ∃ (its : List Value) (n : Nat), Vals xs its ∧ h.get? a = some { cls := .type "list", data := .seq its.toArray n }
  | .tup xs => xs.length ≤ sizeLine ∧ ∃ its : List Value, Vals xs its ∧ IsTup h a its.toArray
  | .dK kvs => kvs.length ≤ sizeLine ∧ (a == sysModules) = false ∧ ∃ vs, KV kvs vs ∧ h.DictOf (mixKind P w) a vs
  | .dT kvs => kvs.length ≤ sizeLine ∧ (a == sysModules) = false ∧ ∃ xs : List (List Key × Addr × Value),
      Paired (fun (p : List Key × V) (q : List Key × Addr × Value) => p.1 = q.1 ∧ H q.2.1 = some (.tup (p.1.map kV)) ∧ RelV p.2 q.2.2) kvs xs ∧
      ∃ o es ep, h.get? a = some o ∧ o.ExactDict ∧ o.data = .dict es ep ∧ es.toList = xs.map (entryOfKey (tupleKind (mixKind P w))) ∧ (xs.map (·.1)).Nodup
  | .set S n => h.SetOf (intKind P w) a S n
  | .ins C dx fs => H dx = some (.own a) ∧ fs.length ≤ 1000 ∧ dx ≠ a ∧ h.get? a = some (PySem.W.instObj C dx) ∧
      ∃ mA, h.Ns1 dx mA ∧ (∀ f, RelO (fs.lookup f) (mA f)) ∧ PySem.Within mA (fs.map (·.1))
  | .own _ => ∃ o, h.get? a = some o
  | .xd fs => ∃ mA, h.Ns1 a mA ∧ ∀ f, RelO (fs.lookup f) (mA f)
  | .rng lo hi => ∃ t u v, h.get? a = some { cls := .type "range", data := .fields #[.int lo t, .int hi u, .int 1 v] }
  | .frz o u => h.get? a = some o ∧ ObjOk H h a u
  | .tbl ps => h.get? a = some { cls := .none, data := .fields ps }
  | .met f x => h.get? a = some (PySem.W.methodObj (.ref f) (.ref x))
  | .ext φ => φ h ∧ (∃ o, h.get? a = some o) ∧ ∀ h1 h2 : Heap, φ h1 → (∀ o, h1.get? a = some o → h2.get? a = some o) → φ h2
/-- the abstract heap is held -/
def HOk (H : Hp) (h : Heap) : Prop := ∀ a o, H a = some o → ObjOk P w H h a o
end

section
variable {P : Program} {w : World} {H H' : Hp} {h h' : Heap} {a : Addr} {o : HO}
theorem ObjOk.lt (x : ObjOk P w H h a o) : a < h.objs.size := by
  cases o with
  | lst xs => obtain ⟨_, _, _, _, e⟩ := x; exact Heap.lt_size e
  | tup xs => obtain ⟨_, _, _, p⟩ := x; exact p.lt
  | dK kvs => obtain ⟨_, _, _, _, o, _, _, e, _⟩ := x; exact Heap.lt_size e
  | dT kvs => obtain ⟨_, _, _, _, o, _, _, e, _⟩ := x; exact Heap.lt_size e
  | set S n => obtain ⟨o, _, _, _, e, _⟩ := x; exact Heap.lt_size e
  | ins C dx fs => obtain ⟨_, _, _, e, _⟩ := x; exact Heap.lt_size e
  | own y => obtain ⟨_, e⟩ := x; exact Heap.lt_size e
  | xd fs => obtain ⟨_, ⟨_, _, _, e, _⟩, _⟩ := x; exact Heap.lt_size e
  | rng lo hi => obtain ⟨_, _, _, e⟩ := x; exact Heap.lt_size e
  | frz ob u => obtain ⟨e, _⟩ := x; exact Heap.lt_size e
  | tbl ps => exact Heap.lt_size (show h.get? a = some _ from x)
  | met f y => exact Heap.lt_size (show h.get? a = some _ from x)
  | ext φ => obtain ⟨_, ⟨_, e⟩, _⟩ := x; exact Heap.lt_size e
theorem Paired.mapP {α β : Type} {F G : α → β → Prop} : ∀ {l₁ : List α} {l₂ : List β}, Paired F l₁ l₂ → (∀ a b, F a b → G a b) → Paired G l₁ l₂
  | _, _, .nil, _ => .nil
  | _, _, .cons r t, f => .cons (f _ _ r) (Paired.mapP t f)
/-- what an object's description leans on: its own object, its own dict, the tuples -/
theorem ObjOk.stay (x : ObjOk P w H h a o) (k : ∀ b u, (b = a ∨ H b = some (.own a)) → h.get? b = some u → h'.get? b = some u)
    (ho : ∀ b, H b = some (.own a) → H' b = some (.own a)) (ht : ∀ b xs, H b = some (.tup xs) → H' b = some (.tup xs)) : ObjOk P w H' h' a o := by
  induction o with
  | lst xs => obtain ⟨z, its, n, r, e⟩ := x; exact ⟨z, its, n, r, k _ _ (.inl rfl) e⟩
  | tup xs => obtain ⟨z, its, r, ob, e, c⟩ := x; exact ⟨z, its, r, ob, k _ _ (.inl rfl) e, c⟩
  | dK kvs => obtain ⟨z, y, vs, r, ob, es, ep, e, c⟩ := x; exact ⟨z, y, vs, r, ob, es, ep, k _ _ (.inl rfl) e, c⟩
  | dT kvs =>
    obtain ⟨z, y, xs, r, ob, es, ep, e, c⟩ := x
    exact ⟨z, y, xs, Paired.mapP r fun p q z => ⟨z.1, ht _ _ z.2.1, z.2.2⟩, ob, es, ep, k _ _ (.inl rfl) e, c⟩
  | set S n => obtain ⟨ob, es, ep, t, e, c⟩ := x; exact ⟨ob, es, ep, t, k _ _ (.inl rfl) e, c⟩
  | ins C dx fs =>
    obtain ⟨d, z, ne, e, mA, ⟨od, es, ep, e2, c⟩, r⟩ := x
    exact ⟨ho _ d, z, ne, k _ _ (.inl rfl) e, mA, ⟨od, es, ep, k _ _ (.inr d) e2, c⟩, r⟩
  | own y => obtain ⟨ob, e⟩ := x; exact ⟨ob, k _ _ (.inl rfl) e⟩
  | xd fs => obtain ⟨mA, ⟨od, es, ep, e, c⟩, r⟩ := x; exact ⟨mA, ⟨od, es, ep, k _ _ (.inl rfl) e, c⟩, r⟩
  | rng lo hi => obtain ⟨t, u, v, e⟩ := x; exact ⟨t, u, v, k _ _ (.inl rfl) e⟩
  | frz ob u ih => obtain ⟨e, q⟩ := x; exact ⟨k _ _ (.inl rfl) e, ih q⟩
  | tbl ps =>
    have e : h.get? a = some { cls := .none, data := .fields ps } := x
    show h'.get? a = some { cls := .none, data := .fields ps }
    exact k a _ (.inl rfl) e
  | met f y =>
    have e : h.get? a = some (PySem.W.methodObj (.ref f) (.ref y)) := x
    show h'.get? a = some (PySem.W.methodObj (.ref f) (.ref y))
    exact k a _ (.inl rfl) e
  | ext φ => obtain ⟨p, ⟨o, e⟩, st⟩ := x; exact ⟨st _ _ p fun o q => k _ _ (.inl rfl) q, ⟨o, k _ _ (.inl rfl) e⟩, st⟩
theorem HOk.lt (x : HOk P w H h) (e : H a = some o) : a < h.objs.size := (x a o e).lt
theorem HOk.fresh (x : HOk P w H h) (e : h.objs.size ≤ a) : H a = none := by
  cases q : H a with
  | none => rfl
  | some u => exact absurd (Nat.lt_of_lt_of_le (x.lt q) e) (Nat.lt_irrefl _)
/-- every object of the heap is kept -/
theorem HOk.kept (x : HOk P w H h) (k : ∀ b u, h.get? b = some u → h'.get? b = some u) : HOk P w H h' := fun a o e =>
  (x a o e).stay (fun b u _ q => k b u q) (fun _ q => q) fun _ _ q => q
/-- a new object is laid and tracked -/
theorem HOk.laid (x : HOk P w H h) (k : ∀ b u, h.get? b = some u → h'.get? b = some u) (hp : h.objs.size ≤ a) (new : ObjOk P w (upd H a o) h' a o) : HOk P w (upd H a o) h' := fun b u e => by
  have hn := x.fresh hp
  by_cases hb : b = a
  · subst hb; rw [upd_same] at e; cases e; exact new
  · rw [upd_ne hb] at e
    exact (x b u e).stay (fun c v _ q => k c v q) (fun c q => by rw [upd_ne (ne_of_none q hn)]; exact q) fun c xs q => by rw [upd_ne (ne_of_none q hn)]; exact q
end

/-- what may be read as u: it is u, or a known u -/
def Rd (H : Hp) (a : Addr) (u : HO) : Prop := H a = some u ∨ ∃ o, H a = some (.frz o u)
theorem Rd.ok {P : Program} {w : World} {H : Hp} {h : Heap} {a : Addr} {u : HO} (r : Rd H a u) (x : HOk P w H h) : ObjOk P w H h a u := by
  rcases r with r | ⟨o, r⟩
  · exact x a u r
  · obtain ⟨_, q⟩ := x a _ r
    exact q
/-- what may be written -/
def Mut : Option HO → Prop
  | some (.lst _) => True
  | some (.dK _) => True
  | some (.dT _) => True
  | some (.set _ _) => True
  | some (.ins _ _ _) => True
  | some (.ext _) => True
  | _ => False
section
variable {P : Program} {w : World} {H : Hp} {h h' : Heap} {x e : Addr} {o' : HO}
/-- the object at e is changed: x itself, or the dict of the instance x -/
theorem HOk.write (ok : HOk P w H h) (mu : Mut (H x)) (he : e = x ∨ H e = some (.own x)) (k : ∀ b u, b ≠ e → h.get? b = some u → h'.get? b = some u) (heo : ∃ u, h'.get? e = some u)
    (new : ObjOk P w (upd H x o') h' x o') : HOk P w (upd H x o') h' := fun b u q => by
  have nown : ∀ c y, H c = some (.own y) → c ≠ x := fun c y r z => by subst z; rw [r] at mu; exact mu
  have ntup : ∀ c xs, H c = some (.tup xs) → c ≠ x := fun c xs r z => by subst z; rw [r] at mu; exact mu
  by_cases hb : b = x
  · subst hb; rw [upd_same] at q; cases q; exact new
  · rw [upd_ne hb] at q
    by_cases hbe : b = e
    · have q' : H b = some (.own x) := by
        rcases he with z | z
        · exact absurd (hbe.trans z) hb
        · rw [hbe]; exact z
      rw [q] at q'; cases q'
      obtain ⟨v, hv⟩ := heo
      exact ⟨v, by rw [hbe]; exact hv⟩
    · refine (ok b u q).stay (fun c v hc r => k c v ?_ r) (fun c r => by rw [upd_ne (nown c b r)]; exact r) fun c xs r => by rw [upd_ne (ntup c xs r)]; exact r
      rcases hc with rfl | hc
      · exact hbe
      · rintro rfl
        rcases he with z | z
        · exact nown c b hc z
        · rw [hc] at z; cases z; exact hb rfl
end

structure Un (fs ex : List Addr) (H H' : Hp) (h h' : Heap) : Prop where
  keep : ∀ b o, h.get? b = some o → H b = none → b ∉ fs → b ∉ ex → h'.get? b = some o
  slot : ∀ b o, h.get? b = some o → H b = none → b ∈ fs → b ∉ ex → ∃ sl, h'.get? b = some { o with slots := sl }
  free : ∀ b o, h.get? b = some o → H b = none → b ∉ ex → H' b = none
  there : ∀ b o, h.get? b = some o → b ∉ ex → ∃ o', h'.get? b = some o'
  tups : ∀ b xs, H b = some (.tup xs) → H' b = some (.tup xs)
  frzs : ∀ b o u, H b = some (.frz o u) → H' b = some (.frz o u)
  tbls : ∀ b ps, H b = some (.tbl ps) → ∃ more, H' b = some (.tbl (ps ++ more))
section
variable {fs fs' ex ex' : List Addr} {H H1 H2 : Hp} {h h1 h2 h' : Heap} {a x e : Addr} {o : HO}
theorem Un.any (u : Un fs ex H H1 h h1) {b : Addr} {ob : Obj} (q : h.get? b = some ob) (n : H b = none) (hx : b ∉ ex) : ∃ sl, h1.get? b = some { ob with slots := sl } := by
  by_cases hb : b ∈ fs
  · exact u.slot b ob q n hb hx
  · exact ⟨ob.slots, u.keep b ob q n hb hx⟩
theorem Un.kept (k : ∀ b u, h.get? b = some u → h'.get? b = some u) : Un fs ex H H h h' :=
  ⟨fun b ob q _ _ _ => k b ob q, fun b ob q _ _ _ => ⟨ob.slots, k b ob q⟩, fun _ _ _ n _ => n, fun b ob q _ => ⟨ob, k b ob q⟩, fun _ _ q => q, fun _ _ _ q => q, fun _ ps q => ⟨#[], by rw [q]; simp⟩⟩
theorem Un.refl : Un fs ex H H h h := Un.kept fun _ _ q => q
theorem Un.laid (k : ∀ b u, h.get? b = some u → h'.get? b = some u) (hp : h.objs.size ≤ a) (hn : H a = none) : Un fs ex H (upd H a o) h h' where
  keep := fun b u q _ _ _ => k b u q
  slot := fun b u q _ _ _ => ⟨u.slots, k b u q⟩
  free := fun b u q n _ => by rw [upd_ne (Nat.ne_of_lt (Nat.lt_of_lt_of_le (Heap.lt_size q) hp))]; exact n
  there := fun b u q _ => ⟨u, k b u q⟩
  tups := fun b xs q => by rw [upd_ne (ne_of_none q hn)]; exact q
  frzs := fun b u xs q => by rw [upd_ne (ne_of_none q hn)]; exact q
  tbls := fun b ps q => ⟨#[], by rw [upd_ne (ne_of_none q hn), q]; simp⟩
theorem Un.write (mu : Mut (H x)) (he : e = x ∨ H e = some (.own x)) (k : ∀ b u, b ≠ e → h.get? b = some u → h'.get? b = some u) (heo : ∃ u, h'.get? e = some u) : Un fs ex H (upd H x o) h h' := by
  have hx : ∀ b, H b = none → b ≠ x := fun b n z => by subst z; rw [n] at mu; exact mu
  have hb : ∀ b, H b = none → b ≠ e := fun b n z => by
    subst z
    rcases he with r | r
    · exact hx b n r
    · rw [n] at r; cases r
  have hm : ∀ b u, H b = some u → ¬ Mut (some u) → b ≠ x := fun b u q nm z => by subst z; rw [q] at mu; exact nm mu
  refine ⟨fun b u q n _ _ => k b u (hb b n) q, fun b u q n _ _ => ⟨u.slots, k b u (hb b n) q⟩, fun b u q n _ => by rw [upd_ne (hx b n)]; exact n, fun b u q _ => ?_,
    fun b xs q => by rw [upd_ne (hm b _ q fun z => z)]; exact q, fun b u xs q => by rw [upd_ne (hm b _ q fun z => z)]; exact q, fun b ps q => ⟨#[], by rw [upd_ne (hm b _ q fun z => z), q]; simp⟩⟩
  by_cases hbe : b = e
  · subst hbe; exact heo
  · exact ⟨u, k b u hbe q⟩
end

def trk (h : Heap) (H : Hp) : List Addr := (List.range h.objs.size).filter fun a => (H a).isSome
def hidT (h : Heap) (H : Hp) : Heap := PySem.W.hideAll h (trk h H)
theorem hidT_size (h : Heap) (H : Hp) : (hidT h H).objs.size = h.objs.size := PySem.W.hideAll_size _ _
theorem hidT_get {h : Heap} {H : Hp} {b : Addr} {o : Obj} (e : h.get? b = some o) (n : H b = none) : (hidT h H).get? b = some o :=
  PySem.W.hideAll_get _ e fun hm => by
    have q : (H b).isSome = true := (List.mem_filter.mp hm).2
    rw [n] at q; simp at q
theorem of_hidT {h : Heap} {H : Hp} {b : Addr} {o : Obj} (e : (hidT h H).get? b = some o) : h.get? b = some o ∧ H b = none := by
  have e' : h.get? b = some o := PySem.W.of_hideAll (trk h H) e
  refine ⟨e', ?_⟩
  cases q : H b with
  | none => rfl
  | some x =>
    have hm : b ∈ trk h H := List.mem_filter.mpr ⟨List.mem_range.mpr (Heap.lt_size e'), by simp [q]⟩
    have z : (hidT h H).get? b = none := PySem.W.hideAll_none (trk h H) hm
    rw [z] at e; cases e

end L2

namespace L2
open PySem PySem.Spec PyProof.Rows

/-- the module's facts, over the base: the heap at the law's entry without what is tracked there -/
structure Mod (K : PySem.W.Frag) (mg : Str → Option Value) (base : Heap) : Prop where
  kin : K.In base
  glob : base.Ns mainGlobals mg
  blt : ∃ mb, base.Ns builtinsNs mb ∧ ∀ x : Str, x ≠ "__name__" → mb x = bootBuiltins x
  nolimit : base.NoLimit
  sysm : ∃ mm, base.Ns sysModules mm

/-- the context: a def's body (or a comprehension's block) running. base: fixed through the whole law; s₀, H₀: the entry; outer: the frames whose slots others may change (a def's callers); stack: all frames that run;
   ex: iterators that were made ahead of the entry and are walked here (a comprehension's); fn: the names whose cells were made at the entry (a def: all; a comprehension's block: its own); calm: not within an except suite; pn: pins that every state bears; xe: what is wanted of an exception that leaves the code -/
structure Cx where
  prog : Program
  w : World
  K : PySem.W.Frag
  mg : Str → Option Value
  base : Heap
  A : Around
  N : List Str
  s₀ : Shared
  H₀ : Hp
  env : Env
  outer : List Env
  stack : List Env
  ex : List Addr
  fn : Str → Bool
  calm : Bool
  pn : List (Addr × Obj)
  xe : Value → Shared → Prop
/-- the callers' frames -/
def frs (l : List Env) : List Addr := l.filterMap (·.frame)
abbrev Cx.fs (X : Cx) : List Addr := frs X.outer

def Vis (sc : Scope) (x : Str) : Prop := sc.names.lookup x = some .local ∨ sc.names.lookup x = some .cell ∨ sc.names.lookup x = some .free
def Loc (sc : Scope) (x : Str) : Prop := sc.names.lookup x = some .local ∨ sc.names.lookup x = some .cell
def Look (env : Env) (h : Heap) (m : Str → Option Value) (x : Str) (u : Value) : Prop :=
  (env.kindOf x = some .local ∧ m x = some u) ∨ ((env.kindOf x = some .cell ∨ env.kindOf x = some .free) ∧ ∃ c, env.cells.lookup x = some c ∧ h.IsCell c (some u))

structure Cx.Ok (X : Cx) : Prop where
  mod : Mod X.K X.mg X.base
  kind : X.env.scope.kind = .function
  glob : X.env.globals = mainGlobals
  blt : X.env.builtins = builtinsNs
  above : X.s₀.heap.objs.size ≤ X.env.locals
  inj : ∀ x y c, X.env.cells.lookup x = some c → X.env.cells.lookup y = some c → x = y
  has : ∀ x, (X.env.kindOf x = some .cell ∨ X.env.kindOf x = some .free) → ∃ c, X.env.cells.lookup x = some c
  cab : ∀ x c, X.fn x = true → X.env.cells.lookup x = some c → X.s₀.heap.objs.size ≤ c
  hd : X.calm = true → X.A.handled = none
  frames : X.A.frames = some X.stack
  stk : X.stack = X.outer ∨ (X.stack = X.env :: X.outer ∧ X.env.frame = some X.env.locals)
  exf : ∀ b ∈ X.ex, b ≠ X.env.locals ∧ ∀ x c, X.env.cells.lookup x = some c → c ≠ b
  bs : ∀ b o, X.base.get? b = some o → X.s₀.heap.get? b = some o ∧ X.H₀ b = none
  bsz : X.base.objs.size ≤ X.s₀.heap.objs.size
  noex : ∀ b o, X.base.get? b = some o → b ∉ X.ex
  exfs : ∀ b ∈ X.ex, b ∉ X.fs
  funs : X.s₀.heap.FunFrames X.base X.outer
  frf : ∀ b ∈ X.fs, X.H₀ b = none

structure Inv (X : Cx) (pins : List (Addr × Obj)) (σ : List (Option V)) (H : Hp) (s : Shared) : Prop where
  ok : X.Ok
  os : s.os = X.s₀.os
  bare : AllBare s.gens
  base : Un X.fs X.ex X.H₀ H X.s₀.heap s.heap
  loc : ∃ m, s.heap.Ns X.env.locals m ∧ ∀ (i : Nat) (x : Str) (v : V), X.N[i]? = some x → σ[i]? = some (some v) → Vis X.env.scope x → ∃ u, RelV v u ∧ Look X.env s.heap m x u
  cell : ∀ x c, X.env.cells.lookup x = some c → ∃ v, s.heap.IsCell c v
  free : H X.env.locals = none
  freeC : ∀ x c, X.env.cells.lookup x = some c → H c = none
  pin : ∀ p ∈ X.pn ++ pins, s.heap.get? p.1 = some p.2 ∧ H p.1 = none ∧ p.1 ≠ X.env.locals ∧ p.1 ∉ X.fs ∧ ∀ v, p.2.data ≠ .cell v
  hok : HOk X.prog X.w H s.heap
  len : σ.length = X.N.length

section
variable {X : Cx} {pins : List (Addr × Obj)} {σ : List (Option V)} {H H' : Hp} {s : Shared} {h' : Heap}

theorem Cx.Ok.nofr (ok : X.Ok) {b : Addr} {o : Obj} (e : X.base.get? b = some o) : b ∉ X.fs := fun hb => by
  have := (ok.funs.mem hb).1
  rw [e] at this; cases this
theorem Inv.bs (I : Inv X pins σ H s) : ∀ b o, X.base.get? b = some o → s.heap.get? b = some o ∧ H b = none := fun b o e =>
  ⟨I.base.keep b o (I.ok.bs b o e).1 (I.ok.bs b o e).2 (I.ok.nofr e) (I.ok.noex b o e), I.base.free b o (I.ok.bs b o e).1 (I.ok.bs b o e).2 (I.ok.noex b o e)⟩
theorem Inv.bk (I : Inv X pins σ H s) : ∀ b o, X.base.get? b = some o → s.heap.get? b = some o := fun b o e => (I.bs b o e).1
theorem Inv.mod (I : Inv X pins σ H s) : Mod X.K X.mg X.base := I.ok.mod
theorem Inv.kIn (I : Inv X pins σ H s) : X.K.In s.heap := I.ok.mod.kin.keeps I.bk
theorem Inv.lt (I : Inv X pins σ H s) : X.env.locals < s.heap.objs.size := let ⟨_, hn, _⟩ := I.loc; hn.lt
theorem Inv.sz (I : Inv X pins σ H s) : X.s₀.heap.objs.size ≤ s.heap.objs.size := Nat.le_trans I.ok.above (Nat.le_of_lt I.lt)
theorem Inv.nofs (I : Inv X pins σ H s) {a : Addr} (h : s.heap.objs.size ≤ a) : a ∉ X.fs := fun hb => by
  obtain ⟨_, o, ho, _⟩ := I.ok.funs.mem hb
  exact absurd (Nat.lt_of_lt_of_le (Heap.lt_size ho) (Nat.le_trans I.sz h)) (Nat.lt_irrefl _)
theorem Inv.cne (I : Inv X pins σ H s) : ∀ x c, X.env.cells.lookup x = some c → c ≠ X.env.locals := fun x c e z => by
  obtain ⟨v, o, ho, hd⟩ := I.cell x c e
  obtain ⟨m, ⟨o', es, ep, ho', hd', _⟩, _⟩ := I.loc
  rw [z, ho'] at ho; cases ho; rw [hd'] at hd; cases hd
theorem Inv.funs (I : Inv X pins σ H s) : s.heap.FunFrames X.base X.outer := by
  have all : ∀ (l : List Env), (∀ b ∈ frs l, b ∈ X.fs) → X.s₀.heap.FunFrames X.base l → s.heap.FunFrames X.base l := by
    intro l
    induction l with
    | nil => intro _ _; trivial
    | cons env r ih =>
      intro hs hl
      obtain ⟨hk, ⟨L, o, hf, hn, ho, hd⟩, hr⟩ := hl
      have hL : L ∈ X.fs := hs L (by unfold frs; rw [List.filterMap_cons, hf]; exact List.mem_cons_self)
      obtain ⟨sl, e⟩ := I.base.slot L o ho (I.ok.frf L hL) hL fun z => I.ok.exfs L z hL
      exact ⟨hk, ⟨L, _, hf, hn, e, hd⟩, ih (fun b hb => hs b (by unfold frs; rw [List.filterMap_cons, hf]; exact List.mem_cons_of_mem _ hb)) hr⟩
  exact all X.outer (fun _ hb => hb) I.ok.funs

/-- the frames that run, for a call -/
theorem Inv.stack (I : Inv X pins σ H s) : s.heap.FunFrames X.base X.stack := by
  rcases I.ok.stk with e | ⟨e, hf⟩
  · rw [e]; exact I.funs
  · rw [e]
    obtain ⟨m, hn, _⟩ := I.loc
    refine .cons (by rw [I.ok.kind]; decide) hf hn ?_ I.funs
    exact Heap.get?_none_of_le (Nat.le_trans I.ok.bsz I.ok.above)
theorem Inv.stkSub (I : Inv X pins σ H s) : ∀ b ∈ frs X.stack, b ∈ X.env.locals :: X.fs := fun b hb => by
  rcases I.ok.stk with e | ⟨e, hf⟩
  · rw [e] at hb; exact List.mem_cons_of_mem _ hb
  · rw [e] at hb
    unfold frs at hb
    rw [List.filterMap_cons, hf] at hb
    exact hb
theorem Inv.stkFree (I : Inv X pins σ H s) : ∀ b ∈ frs X.stack, H b = none := fun b hb => by
  rcases List.mem_cons.mp (I.stkSub b hb) with e | hb
  · rw [e]; exact I.free
  · obtain ⟨_, o, ho, _⟩ := I.ok.funs.mem hb
    exact I.base.free b o ho (I.ok.frf b hb) fun z => I.ok.exfs b z hb

/-- THE STEP: the untracked objects but the frame and the records at ch are kept (the callers' frames up to slots), the frame's map is kept, the new abstract heap is held -/
theorem Inv.step {g' : Array GenState} {t' : Nat} {d' : Drawn} {ch : List Addr} (I : Inv X pins σ H s)
    (hch : ∀ b ∈ ch, (b ∈ X.ex ∨ X.s₀.heap.objs.size ≤ b) ∧ b ≠ X.env.locals ∧ (∀ x c, X.env.cells.lookup x = some c → c ≠ b) ∧ ∀ p ∈ X.pn ++ pins, p.1 ≠ b)
    (keep : ∀ b o, b ≠ X.env.locals → b ∉ X.fs → b ∉ ch → s.heap.get? b = some o → H b = none → h'.get? b = some o)
    (slot : ∀ b o, b ≠ X.env.locals → b ∈ X.fs → b ∉ ch → s.heap.get? b = some o → H b = none → ∃ sl, h'.get? b = some { o with slots := sl }) (free : ∀ b o, b ∉ ch → s.heap.get? b = some o → H b = none → H' b = none)
    (there : ∀ b o, b ∉ ch → s.heap.get? b = some o → ∃ o', h'.get? b = some o')
    (tups : ∀ b xs, H b = some (.tup xs) → H' b = some (.tup xs)) (frzs : ∀ b o u, H b = some (.frz o u) → H' b = some (.frz o u)) (tbls : ∀ b ps, H b = some (.tbl ps) → ∃ more, H' b = some (.tbl (ps ++ more)))
    (ns : ∀ m, s.heap.Ns X.env.locals m → h'.Ns X.env.locals m) (hok : HOk X.prog X.w H' h') (hg : AllBare g') :
    Inv X pins σ H' { s with heap := h', gens := g', drawn := d', toks := t' } := by
  have neL : ∀ b o, X.s₀.heap.get? b = some o → b ≠ X.env.locals := fun b o e => Nat.ne_of_lt (Nat.lt_of_lt_of_le (Heap.lt_size e) I.ok.above)
  have neC : ∀ b o, X.s₀.heap.get? b = some o → b ∉ X.ex → b ∉ ch := fun b o e hx hb => by
    rcases (hch b hb).1 with z | z
    · exact hx z
    · exact absurd (Nat.lt_of_lt_of_le (Heap.lt_size e) z) (Nat.lt_irrefl _)
  have cellK : ∀ x c, X.env.cells.lookup x = some c → ∀ v, s.heap.IsCell c v → h'.IsCell c v := fun x c e v ⟨o, ho, hd⟩ => by
    have nch : c ∉ ch := fun z => (hch c z).2.2.1 x c e rfl
    by_cases hc : c ∈ X.fs
    · obtain ⟨sl, q⟩ := slot c o (I.cne x c e) hc nch ho (I.freeC x c e)
      exact ⟨_, q, hd⟩
    · exact ⟨o, keep c o (I.cne x c e) hc nch ho (I.freeC x c e), hd⟩
  refine ⟨I.ok, I.os, hg, ⟨fun b o e n hb hx => ?_, fun b o e n hb hx => ?_, fun b o e n hx => ?_, fun b o e hx => ?_, fun b xs e => tups b xs (I.base.tups b xs e), fun b o xs e => frzs b o xs (I.base.frzs b o xs e), fun b ps e => ?_⟩, ?_, fun x c e => ?_, ?_, fun x c e => ?_, fun p hp => ?_, hok, I.len⟩
  · exact keep b o (neL b o e) hb (neC b o e hx) (I.base.keep b o e n hb hx) (I.base.free b o e n hx)
  · obtain ⟨sl, e1⟩ := I.base.slot b o e n hb hx
    obtain ⟨sl', e2⟩ := slot b _ (neL b o e) hb (neC b o e hx) e1 (I.base.free b o e n hx)
    exact ⟨sl', e2⟩
  · obtain ⟨o', e1⟩ := I.base.there b o e hx
    exact free b o' (neC b o e hx) e1 (I.base.free b o e n hx)
  · obtain ⟨o', e1⟩ := I.base.there b o e hx
    exact there b o' (neC b o e hx) e1
  · obtain ⟨m1, e1⟩ := I.base.tbls b ps e
    obtain ⟨m2, e2⟩ := tbls b _ e1
    exact ⟨m1 ++ m2, by rw [e2, Array.append_assoc]⟩
  · obtain ⟨m, hn, hl⟩ := I.loc
    refine ⟨m, ns m hn, fun i x v e1 e2 e3 => ?_⟩
    obtain ⟨u, r, l⟩ := hl i x v e1 e2 e3
    refine ⟨u, r, ?_⟩
    rcases l with l | ⟨k, c, e, z⟩
    · exact .inl l
    · exact .inr ⟨k, c, e, cellK x c e _ z⟩
  · obtain ⟨v, z⟩ := I.cell x c e
    exact ⟨v, cellK x c e v z⟩
  · obtain ⟨m, ⟨o, _, _, ho, _⟩, _⟩ := I.loc
    exact free _ o (fun z => (hch _ z).2.1 rfl) ho I.free
  · obtain ⟨v, o, ho, hd⟩ := I.cell x c e
    exact free c o (fun z => (hch c z).2.2.1 x c e rfl) ho (I.freeC x c e)
  · obtain ⟨e, n, ne, nf, d⟩ := I.pin p hp
    have nch : p.1 ∉ ch := fun z => (hch p.1 z).2.2.2 p hp rfl
    exact ⟨keep p.1 p.2 ne nf nch e n, free p.1 p.2 nch e n, ne, nf, d⟩
/-- .. where the frame's own object is kept too -/
theorem Inv.un {t' : Nat} (I : Inv X pins σ H s) (u : Un X.fs [] H H' s.heap h') (hok : HOk X.prog X.w H' h') : Inv X pins σ H' { s with heap := h', toks := t' } := by
  obtain ⟨m, ⟨o, es, ep, ho, r⟩, _⟩ := id I.loc
  obtain ⟨sl, hL⟩ := u.any ho I.free (by simp)
  exact I.step (g' := s.gens) (d' := s.drawn) (ch := []) (fun _ z => nomatch z) (fun b o _ hb _ e n => u.keep b o e n hb (by simp)) (fun b o _ hb _ e n => u.slot b o e n hb (by simp)) (fun b o _ e n => u.free b o e n (by simp)) (fun b o _ e => u.there b o e (by simp)) u.tups u.frzs u.tbls (fun m' hm => by
    obtain ⟨o', es', ep', ho', r'⟩ := hm
    rw [ho] at ho'; cases ho'
    exact ⟨_, es', ep', hL, r'⟩) hok I.bare
/-- behind a call (or a comprehension's block): the slots of this frame may have changed too, the records at ch may have turned -/
theorem Inv.call {g' : Array GenState} {t' : Nat} {d' : Drawn} {ch : List Addr} (I : Inv X pins σ H s) (u : Un (frs X.stack) ch H H' s.heap h') (hok : HOk X.prog X.w H' h') (hg : AllBare g')
    (hch : ∀ b ∈ ch, (b ∈ X.ex ∨ X.s₀.heap.objs.size ≤ b) ∧ b ≠ X.env.locals ∧ (∀ x c, X.env.cells.lookup x = some c → c ≠ b) ∧ ∀ p ∈ X.pn ++ pins, p.1 ≠ b) :
    Inv X pins σ H' { s with heap := h', gens := g', drawn := d', toks := t' } := by
  obtain ⟨m, ⟨o, es, ep, ho, r⟩, _⟩ := id I.loc
  obtain ⟨sl, hL⟩ := u.any ho I.free fun z => (hch _ z).2.1 rfl
  exact I.step (ch := ch) hch (fun b o hL hb hc e n => u.keep b o e n (fun z => (List.mem_cons.mp (I.stkSub b z)).elim hL hb) hc) (fun b o _ _ hc e n => u.any e n hc) (fun b o hc e n => u.free b o e n hc) (fun b o hc e => u.there b o e hc) u.tups u.frzs u.tbls (fun m' hm => by
    obtain ⟨o', es', ep', ho', r'⟩ := hm
    rw [ho] at ho'; cases ho'
    exact ⟨_, es', ep', hL, r'⟩) hok hg
/-- an untracked record of ours (an iterator) has turned -/
theorem Inv.turned {t' : Nat} {it : Addr} (I : Inv X pins σ H s) (k : ∀ b o, b ≠ it → s.heap.get? b = some o → h'.get? b = some o) (hn : H it = none) (hL : it ≠ X.env.locals)
    (h1 : it ∈ X.ex ∨ X.s₀.heap.objs.size ≤ it) (h2 : ∀ x c, X.env.cells.lookup x = some c → c ≠ it) (h3 : ∀ p ∈ X.pn ++ pins, p.1 ≠ it) : Inv X pins σ H { s with heap := h', toks := t' } := by
  have nit : ∀ b u, H b = some u → b ≠ it := fun b u e z => by rw [z, hn] at e; cases e
  refine I.step (g' := s.gens) (d' := s.drawn) (ch := [it]) (fun b hb => ?_) (fun b o _ _ hc e _ => k b o (fun z => hc (by simp [z])) e) (fun b o _ _ hc e _ => ⟨o.slots, k b o (fun z => hc (by simp [z])) e⟩) (fun _ _ _ _ n => n)
    (fun b o hc e => ⟨o, k b o (fun z => hc (by simp [z])) e⟩) (fun _ _ e => e) (fun _ _ _ e => e) (fun b ps e => ⟨#[], by rw [e]; simp⟩) (fun m hm => ?_) (fun b u e => ?_) I.bare
  · have e : b = it := by simpa using hb
    subst e
    exact ⟨h1, hL, h2, h3⟩
  · obtain ⟨o, es, ep, ho, r⟩ := hm
    exact ⟨o, es, ep, k _ o (Ne.symm hL) ho, r⟩
  · refine (I.hok b u e).stay (fun c v hc q => k c v ?_ q) (fun _ q => q) fun _ _ q => q
    rcases hc with z | z
    · rw [z]; exact nit b u e
    · exact nit c _ z
theorem Inv.tok (I : Inv X pins σ H s) (t : Nat) : Inv X pins σ H { s with toks := t } := I.un (h' := s.heap) (t' := t) Un.refl I.hok
/-- all objects kept -/
theorem Inv.kept {t' : Nat} (I : Inv X pins σ H s) (k : ∀ b u, s.heap.get? b = some u → h'.get? b = some u) : Inv X pins σ H { s with heap := h', toks := t' } := I.un (Un.kept k) (I.hok.kept k)
/-- a new object laid and tracked -/
theorem Inv.laid {a : Addr} {o : HO} {t' : Nat} (I : Inv X pins σ H s) (k : ∀ b u, s.heap.get? b = some u → h'.get? b = some u) (hp : s.heap.objs.size ≤ a) (new : ObjOk X.prog X.w (upd H a o) h' a o) :
    Inv X pins σ (upd H a o) { s with heap := h', toks := t' } := I.un (Un.laid k hp (I.hok.fresh hp)) (I.hok.laid k hp new)
/-- an object written -/
theorem Inv.write {x e : Addr} {o : HO} {t' : Nat} (I : Inv X pins σ H s) (mu : Mut (H x)) (he : e = x ∨ H e = some (.own x)) (k : ∀ b u, b ≠ e → s.heap.get? b = some u → h'.get? b = some u) (heo : ∃ u, h'.get? e = some u)
    (new : ObjOk X.prog X.w (upd H x o) h' x o) : Inv X pins σ (upd H x o) { s with heap := h', toks := t' } := I.un (Un.write mu he k heo) (I.hok.write mu he k heo new)
/-- forgetting slots, pins -/
theorem Inv.weak {σ' : List (Option V)} (I : Inv X pins σ H s) (hl : σ'.length = σ.length) (w : ∀ (i : Nat) v, σ'[i]? = some (some v) → σ[i]? = some (some v)) : Inv X pins σ' H s :=
  ⟨I.ok, I.os, I.bare, I.base, let ⟨m, hn, hl'⟩ := I.loc; ⟨m, hn, fun i x v e1 e2 e3 => hl' i x v e1 (w i v e2) e3⟩, I.cell, I.free, I.freeC, I.pin, I.hok, hl.trans I.len⟩
theorem Inv.pins_of {pins' : List (Addr × Obj)} (I : Inv X pins σ H s) (h : ∀ p ∈ pins', s.heap.get? p.1 = some p.2 ∧ H p.1 = none ∧ p.1 ≠ X.env.locals ∧ p.1 ∉ X.fs ∧ ∀ v, p.2.data ≠ .cell v) : Inv X pins' σ H s :=
  ⟨I.ok, I.os, I.bare, I.base, I.loc, I.cell, I.free, I.freeC, fun p hp => (List.mem_append.mp hp).elim (fun z => I.pin p (List.mem_append_left _ z)) (h p), I.hok, I.len⟩

theorem nodup_ix {N : List Str} (hN : N.Nodup) {i j : Nat} {x : Str} (a : N[i]? = some x) (b : N[j]? = some x) : i = j := by
  obtain ⟨h1, e1⟩ := List.getElem?_eq_some_iff.mp a
  obtain ⟨h2, e2⟩ := List.getElem?_eq_some_iff.mp b
  exact (List.getElem_inj hN).mp (e1.trans e2.symm)

/-- a name is stored; what changed -/
theorem store_ok2 {M : Model} {A : Around} {E : Value → Shared → Prop} {i : Nat} {x : Str} {v : V} {u : Value} {Q : Unit → Shared → Prop} (I : Inv X pins σ H s) (hN : X.N.Nodup) (hi : X.N[i]? = some x) (hx : Loc X.env.scope x) (r : RelV v u)
    (h : ∀ s', Inv X pins (σ.set i (some v)) H s' → (∃ a, Heap.SameBut a s.heap s'.heap ∧ (a = X.env.locals ∨ X.env.cells.lookup x = some a)) → Q () s') (hf : X.fn x = true ∨ X.env.scope.names.lookup x = some .local := by first | exact .inl rfl | exact .inr rfl | assumption) : wpAny M A (storeName X.env x u) Q E s := by
  obtain ⟨m, hn, hl⟩ := id I.loc
  have hcls : (X.env.scope.kind == .class || (X.env.scope.kind == .module && X.env.locals != X.env.globals)) = false := by rw [I.ok.kind]; rfl
  have hiσ : i < σ.length := by rw [I.len]; exact (List.getElem?_eq_some_iff.mp hi).1
  have cne := I.cne
  have tracked : ∀ {a : Addr} {h' : Heap}, (∃ o, s.heap.get? a = some o ∧ H a = none) → Heap.SameBut a s.heap h' → HOk X.prog X.w H h' := fun {a h'} ha hs b ob e => by
    obtain ⟨_, _, hfree⟩ := ha
    refine (I.hok b ob e).stay (fun c w' hc q => (hs.2 c ?_).trans q) (fun _ q => q) fun _ _ q => q
    rintro rfl
    rcases hc with rfl | hc
    · rw [hfree] at e; cases e
    · rw [hfree] at hc; cases hc
  rcases hx with hk | hk
  · refine wpAny_storeName_local hk hn (fun h' hn' hs => ?_) hcls
    obtain ⟨oL, _, _, hoL, _⟩ := id hn
    refine h _ ⟨I.ok, I.os, I.bare, ⟨fun b o e n hb hx => ?_, fun b o e n hb hx => ?_, I.base.free, fun b o e hx => ?_, I.base.tups, I.base.frzs, I.base.tbls⟩, ⟨_, hn', fun j y v' e1 e2 e3 => ?_⟩, fun y c e => ?_, I.free, I.freeC, fun p hp => ?_, tracked ⟨oL, hoL, I.free⟩ hs, by simpa using I.len⟩ ⟨_, hs, .inl rfl⟩
    · exact (hs.2 b (Nat.ne_of_lt (Nat.lt_of_lt_of_le (Heap.lt_size e) I.ok.above))).trans (I.base.keep b o e n hb hx)
    · obtain ⟨sl, e1⟩ := I.base.slot b o e n hb hx
      exact ⟨sl, (hs.2 b (Nat.ne_of_lt (Nat.lt_of_lt_of_le (Heap.lt_size e) I.ok.above))).trans e1⟩
    · obtain ⟨o', e1⟩ := I.base.there b o e hx
      exact ⟨o', (hs.2 b (Nat.ne_of_lt (Nat.lt_of_lt_of_le (Heap.lt_size e) I.ok.above))).trans e1⟩
    · by_cases hj : j = i
      · subst hj
        rw [hi] at e1; cases e1
        rw [List.getElem?_set_self hiσ] at e2
        cases e2
        exact ⟨u, r, .inl ⟨hk, by simp⟩⟩
      · rw [List.getElem?_set_ne (Ne.symm hj)] at e2
        obtain ⟨u', r', q⟩ := hl j y v' e1 e2 e3
        refine ⟨u', r', ?_⟩
        rcases q with ⟨k, e⟩ | ⟨k, c, e, z⟩
        · refine .inl ⟨k, ?_⟩
          have : y ≠ x := fun e => hj (nodup_ix hN e1 (e ▸ hi))
          simp [this, e]
        · exact .inr ⟨k, c, e, z.sameBut hs (cne y c e)⟩
    · obtain ⟨w', z⟩ := I.cell y c e
      exact ⟨w', z.sameBut hs (cne y c e)⟩
    · obtain ⟨e, n, ne, nf, d⟩ := I.pin p hp
      exact ⟨(hs.2 p.1 ne).trans e, n, ne, nf, d⟩
  · have hfn : X.fn x = true := by
      rcases hf with z | z
      · exact z
      · rw [z] at hk; cases hk
    obtain ⟨c, hc⟩ := I.ok.has x (.inl hk)
    obtain ⟨w', z⟩ := I.cell x c hc
    refine wpAny_storeName_cell I.ok.kind hk hc z (fun h' hc' hs => ?_)
    obtain ⟨oc, hoc, hocd⟩ := id z
    refine h { s with heap := h' } ⟨I.ok, I.os, I.bare, ⟨fun b o e n hb hx => ?_, fun b o e n hb hx => ?_, I.base.free, fun b o e hx => ?_, I.base.tups, I.base.frzs, I.base.tbls⟩, ⟨m, hn.sameBut hs (Ne.symm (cne x c hc)), fun j y v' e1 e2 e3 => ?_⟩, fun y c' e => ?_, I.free, I.freeC, fun p hp => ?_, tracked ⟨oc, hoc, I.freeC x c hc⟩ hs, by simpa using I.len⟩ ⟨c, hs, .inr hc⟩
    · exact (hs.2 b (Nat.ne_of_lt (Nat.lt_of_lt_of_le (Heap.lt_size e) (I.ok.cab x c hfn hc)))).trans (I.base.keep b o e n hb hx)
    · obtain ⟨sl, e1⟩ := I.base.slot b o e n hb hx
      exact ⟨sl, (hs.2 b (Nat.ne_of_lt (Nat.lt_of_lt_of_le (Heap.lt_size e) (I.ok.cab x c hfn hc)))).trans e1⟩
    · obtain ⟨o', e1⟩ := I.base.there b o e hx
      exact ⟨o', (hs.2 b (Nat.ne_of_lt (Nat.lt_of_lt_of_le (Heap.lt_size e) (I.ok.cab x c hfn hc)))).trans e1⟩
    · by_cases hj : j = i
      · subst hj
        rw [hi] at e1; cases e1
        rw [List.getElem?_set_self hiσ] at e2
        cases e2
        exact ⟨u, r, .inr ⟨.inl hk, c, hc, hc'⟩⟩
      · rw [List.getElem?_set_ne (Ne.symm hj)] at e2
        obtain ⟨u', r', q⟩ := hl j y v' e1 e2 e3
        refine ⟨u', r', ?_⟩
        rcases q with q | ⟨k, c', e, z'⟩
        · exact .inl q
        · refine .inr ⟨k, c', e, z'.sameBut hs ?_⟩
          rintro rfl
          exact hj (nodup_ix hN e1 (I.ok.inj _ _ _ e hc ▸ hi))
    · by_cases hcc : c' = c
      · subst hcc; exact ⟨_, hc'⟩
      · obtain ⟨w2, z2⟩ := I.cell y c' e
        exact ⟨w2, z2.sameBut hs hcc⟩
    · obtain ⟨e, n, ne, nf, d⟩ := I.pin p hp
      refine ⟨(hs.2 p.1 ?_).trans e, n, ne, nf, d⟩
      intro q
      rw [q, hoc] at e
      have q' : oc = p.2 := Option.some.inj e
      exact d w' (by rw [← q']; exact hocd)
theorem store_ok {M : Model} {A : Around} {E : Value → Shared → Prop} {i : Nat} {x : Str} {v : V} {u : Value} {Q : Unit → Shared → Prop} (I : Inv X pins σ H s) (hN : X.N.Nodup) (hi : X.N[i]? = some x) (hx : Loc X.env.scope x) (r : RelV v u)
    (h : ∀ s', Inv X pins (σ.set i (some v)) H s' → Q () s') (hf : X.fn x = true ∨ X.env.scope.names.lookup x = some .local := by first | exact .inl rfl | exact .inr rfl | assumption) : wpAny M A (storeName X.env x u) Q E s :=
  store_ok2 I hN hi hx r (fun s' I' _ => h s' I') hf
/-- behind a call or a block, the state as it is -/
theorem Inv.call' {s' : Shared} {ch : List Addr} (I : Inv X pins σ H s) (ho : s'.os = s.os) (u : Un (frs X.stack) ch H H' s.heap s'.heap) (hok : HOk X.prog X.w H' s'.heap) (hg : AllBare s'.gens)
    (hch : ∀ b ∈ ch, (b ∈ X.ex ∨ X.s₀.heap.objs.size ≤ b) ∧ b ≠ X.env.locals ∧ (∀ x c, X.env.cells.lookup x = some c → c ≠ b) ∧ ∀ p ∈ X.pn ++ pins, p.1 ≠ b) : Inv X pins σ H' s' := by
  obtain ⟨h', g', d', t', o'⟩ := s'
  have e : o' = s.os := ho
  subst e
  exact I.call (g' := g') (t' := t') (d' := d') u hok hg hch
end

/-- an exception: its class, its own dict's address (where it has one), the abstract heap behind it -/
abbrev XK := Value → Option Addr → Hp → Prop
abbrev St := List (Option V)
abbrev VK := V → Hp → Prop
/-- an expression's reading; a test's; an argument list's -/
abbrev TE := St → Hp → VK → Prop
abbrev TT := St → Hp → (Bool → Hp → Prop) → Prop
abbrev TA := St → Hp → (List V → Hp → Prop) → Prop
/-- what is wanted behind a statement -/
structure Ends where
  nx : St → Hp → Prop
  rt : VK
  bk : St → Hp → Prop := fun _ _ => False
  ct : St → Hp → Prop := fun _ _ => False
abbrev TS := Ends → St → Hp → Prop

def EP (X : Cx) (pins : List (Addr × Obj)) (σ : St) (Q : VK) (u : Value) (s' : Shared) : Prop := ∃ v H', Inv X pins σ H' s' ∧ RelV v u ∧ Q v H'
def TP (X : Cx) (pins : List (Addr × Obj)) (σ : St) (Q : Bool → Hp → Prop) (b : Bool) (s' : Shared) : Prop := ∃ H', Inv X pins σ H' s' ∧ Q b H'
def AP (X : Cx) (pins : List (Addr × Obj)) (σ : St) (Q : List V → Hp → Prop) (us : List Value) (s' : Shared) : Prop := ∃ vs H', Inv X pins σ H' s' ∧ Vals vs us ∧ Q vs H'
def SP (X : Cx) (pins : List (Addr × Obj)) (D : Ends) (f : Flow) (s' : Shared) : Prop :=
  match f with
  | .next => ∃ σ' H', Inv X pins σ' H' s' ∧ D.nx σ' H'
  | .brk => ∃ σ' H', Inv X pins σ' H' s' ∧ D.bk σ' H'
  | .cont => ∃ σ' H', Inv X pins σ' H' s' ∧ D.ct σ' H'
  | .ret u => ∃ v σ' H', Inv X pins σ' H' s' ∧ RelV v u ∧ D.rt v H'

def PE (X : Cx) (e : Expr) (t : TE) : Prop :=
  ∀ (pins : List (Addr × Obj)) (s : Shared) (σ : St) (H : Hp) (Q : VK), Inv X pins σ H s → t σ H Q → wpAny (model X.prog X.w) X.A (eval e X.env) (EP X pins σ Q) X.xe s
def PT (X : Cx) (e : Expr) (t : TT) : Prop :=
  ∀ (pins : List (Addr × Obj)) (s : Shared) (σ : St) (H : Hp) (Q : Bool → Hp → Prop), Inv X pins σ H s → t σ H Q → wpAny (model X.prog X.w) X.A (isTrue e X.env (eval e X.env)) (TP X pins σ Q) X.xe s
/-- a test whatever its 'whole' is (and, or) -/
def PW (X : Cx) (e : Expr) (t : TT) : Prop :=
  ∀ (whole : Sem Value) (pins : List (Addr × Obj)) (s : Shared) (σ : St) (H : Hp) (Q : Bool → Hp → Prop), Inv X pins σ H s → t σ H Q → wpAny (model X.prog X.w) X.A (isTrue e X.env whole) (TP X pins σ Q) X.xe s
theorem PW.pt {X : Cx} {e : Expr} {t : TT} (h : PW X e t) : PT X e t := h _
/-- an argument list (no star), from the left -/
def PA (X : Cx) (es : List Expr) (t : TA) : Prop :=
  ∀ (pos : Pos) (pins : List (Addr × Obj)) (s : Shared) (σ : St) (H : Hp) (Q : List V → Hp → Prop), Inv X pins σ H s → t σ H Q → wpAny (model X.prog X.w) X.A (spliced (backTo pos (starEach es X.env))) (AP X pins σ Q) X.xe s
def PS (X : Cx) (st : Stmt) (t : TS) : Prop :=
  ∀ (pins : List (Addr × Obj)) (s : Shared) (σ : St) (H : Hp) (D : Ends), Inv X pins σ H s → t D σ H → wpAny (model X.prog X.w) X.A (exec st X.env) (SP X pins D) X.xe s
def PSs (X : Cx) (st : List Stmt) (t : TS) : Prop :=
  ∀ (pins : List (Addr × Obj)) (s : Shared) (σ : St) (H : Hp) (D : Ends), Inv X pins σ H s → t D σ H → wpAny (model X.prog X.w) X.A (execs st X.env) (SP X pins D) X.xe s
/-- weaken the end -/
theorem thn {α : Type} {t : Sem α} {Q Q' : α → Shared → Prop} {M : Model} {A : Around} {E : Value → Shared → Prop} {s : Shared} (h : wpAny M A t Q E s) (hQ : ∀ a s, Q a s → Q' a s) : wpAny M A t Q' E s := wpAny_mono h hQ fun _ _ x => x
end L2

namespace L2
open PySem PySem.Spec PyProof.Rows
section
variable {X : Cx}

def tVar (i : Nat) : TE := fun σ H Q => ∃ v, σ[i]? = some (some v) ∧ Q v H
def tC (v : V) : TE := fun _ H Q => Q v H
theorem pe_var {i : Nat} {x : Str} {pos : Pos} (hN : X.N[i]? = some x) (hv : Vis X.env.scope x) (hd : (x == ("__debug__" : Str)) = false := by decide) (hcd : (x == ("__classdict__" : Str)) = false := by decide) : PE X (.Name x pos) (tVar i) := by
  intro pins s σ H Q I h
  obtain ⟨v, e, h⟩ := h
  obtain ⟨m, hn, hl⟩ := I.loc
  obtain ⟨u, r, l⟩ := hl i x v hN e hv
  have fin : EP X pins σ Q u s := ⟨v, H, I, r, h⟩
  rcases l with ⟨hk, hm⟩ | ⟨hk, c, hc, hcell⟩
  · exact wpAny_Name (wpAny_loadName_local I.ok.kind hk hn hm fin) hd
  · rcases hk with hk | hk
    · exact wpAny_Name (wpAny_loadName_cell I.ok.kind hk hc hcell fin) hd
    · exact wpAny_Name (wpAny_loadName_free I.ok.kind hk hc hcell fin hcd) hd
theorem pe_int {i j pos} : PE X (.Constant (.int i) j pos) (tC (.int i)) := fun _ _ _ H _ I h => wpAny_Constant_int ⟨.int i, H, I.tok _, ⟨_, rfl⟩, h⟩
theorem pe_bl {b j pos} : PE X (.Constant (.bool b) j pos) (tC (.bl b)) := fun _ _ _ H _ I h => Constant_bool ⟨.bl b, H, I, rfl, h⟩
theorem pe_non {j pos} : PE X (.Constant .none j pos) (tC .non) := fun _ _ _ H _ I h => Constant_none ⟨.non, H, I, rfl, h⟩
theorem pe_str {x j pos} : PE X (.Constant (.str x) j pos) (tC (.str x)) := fun _ _ _ H _ I h => Calls.Constant_str ⟨.str x, H, I.tok _, ⟨_, rfl⟩, h⟩

/-- a global name of the def -/
def Gl (X : Cx) (x : Str) : Prop := X.env.kindOf x = some .globalImplicit
theorem ld_glob {E : Value → Shared → Prop} {pins : List (Addr × Obj)} {s : Shared} {σ : St} {H : Hp} {x : Str} {u : Value} {pos : Pos} {Q : Value → Shared → Prop} (I : Inv X pins σ H s) (hg : Gl X x) (hm : X.mg x = some u) (h : Q u s)
    (hd : (x == ("__debug__" : Str)) = false := by decide) : wpAny (model X.prog X.w) X.A (eval (.Name x pos) X.env) Q E s :=
  Calls.Name_function_global I.ok.kind hg (Calls.loadGlobal_global (by rw [I.ok.glob]; exact I.mod.glob.keeps I.bk) hm h) hd
theorem ld_blt {E : Value → Shared → Prop} {pins : List (Addr × Obj)} {s : Shared} {σ : St} {H : Hp} {x : Str} {u : Value} {pos : Pos} {Q : Value → Shared → Prop} (I : Inv X pins σ H s) (hg : Gl X x) (hm : X.mg x = none) (hv : bootBuiltins x = some u) (h : Q u s)
    (hn : x ≠ "__name__" := by decide) (hd : (x == ("__debug__" : Str)) = false := by decide) : wpAny (model X.prog X.w) X.A (eval (.Name x pos) X.env) Q E s := by
  obtain ⟨mb, h1, h2⟩ := I.mod.blt
  exact Calls.Name_function_global I.ok.kind hg (Calls.loadGlobal_builtin (by rw [I.ok.glob]; exact I.mod.glob.keeps I.bk) hm (by rw [I.ok.blt]; exact h1.keeps I.bk) ((h2 x hn).trans hv) h) hd
/-- a module's constant, a class, a function, as a value -/
theorem pe_glob {x : Str} {v : V} {u : Value} {pos : Pos} (hg : Gl X x) (hm : X.mg x = some u) (r : RelV v u) (hd : (x == ("__debug__" : Str)) = false := by decide) : PE X (.Name x pos) (tC v) :=
  fun _ _ _ H _ I h => ld_glob I hg hm ⟨v, H, I, r, h⟩ hd
theorem pe_bltn {x : Str} {v : V} {u : Value} {pos : Pos} (hg : Gl X x) (hm : X.mg x = none) (hv : bootBuiltins x = some u) (r : RelV v u) (hn : x ≠ "__name__" := by decide) (hd : (x == ("__debug__" : Str)) = false := by decide) : PE X (.Name x pos) (tC v) :=
  fun _ _ _ H _ I h => ld_blt I hg hm hv ⟨v, H, I, r, h⟩ hn hd

variable {a b : Expr} {ta tb : TE} {pos : Pos}
/-- a comparison as a value, as a test -/
def tB (t : TE) : TT := fun σ H Q => t σ H fun x H1 => ∃ c, x = .bl c ∧ Q c H1
/-- an expression whose value is a bool, as a test -/
theorem pt_val {e : Expr} {t : TE} (h : PE X e t) (he : ∀ whole, isTrue e X.env whole = (do let v ← whole; standAt e.pos; holding [v] (truthy v)) := by intro _; rfl) : PT X e (tB t) := by
  intro pins s σ H Q I hw
  refine isTrue_plain (thn (h pins s σ H _ I hw) fun v s1 ⟨x, H1, I1, r1, q1⟩ => ?_) (he _)
  obtain ⟨d, rfl, q⟩ := q1
  cases r1
  exact wpAny_truthy_bool ⟨H1, I1, q⟩

variable {tA tB' : TT} {rest : List Expr}
def tAnd (t u : TT) : TT := fun σ H Q => t σ H fun c H1 => if c = true then u σ H1 Q else Q false H1
def tOr (t u : TT) : TT := fun σ H Q => t σ H fun c H1 => if c = true then Q true H1 else u σ H1 Q
def tNot (t : TT) : TT := fun σ H Q => t σ H fun c H1 => Q (!c) H1
theorem pw_and1 (ha : PT X a tA) : PW X (.BoolOp .And [a] pos) tA := by
  intro wh pins s σ H Q I h
  refine isTrue_and (thn (ha pins s σ H Q I h) fun c s1 e => ?_)
  cases c with
  | true => exact isTrue_and_nil e
  | false => exact e
theorem pw_or1 (ha : PT X a tA) : PW X (.BoolOp .Or [a] pos) tA := by
  intro wh pins s σ H Q I h
  refine isTrue_or (thn (ha pins s σ H Q I h) fun c s1 e => ?_)
  cases c with
  | false => exact isTrue_or_nil e
  | true => exact e
theorem pw_and (ha : PT X a tA) (hb : PW X (.BoolOp .And (b :: rest) pos) tB') : PW X (.BoolOp .And (a :: b :: rest) pos) (tAnd tA tB') := by
  intro wh pins s σ H Q I h
  refine isTrue_and (thn (ha pins s σ H _ I h) fun c s1 ⟨H1, I1, q1⟩ => ?_)
  cases c with
  | true => exact hb wh pins s1 σ H1 Q I1 q1
  | false => exact ⟨H1, I1, q1⟩
theorem pw_or (ha : PT X a tA) (hb : PW X (.BoolOp .Or (b :: rest) pos) tB') : PW X (.BoolOp .Or (a :: b :: rest) pos) (tOr tA tB') := by
  intro wh pins s σ H Q I h
  refine isTrue_or (thn (ha pins s σ H _ I h) fun c s1 ⟨H1, I1, q1⟩ => ?_)
  cases c with
  | true => exact ⟨H1, I1, q1⟩
  | false => exact hb wh pins s1 σ H1 Q I1 q1
theorem pt_not (ha : PT X a tA) : PT X (.UnaryOp .Not a pos) (tNot tA) := by
  intro pins s σ H Q I h
  exact isTrue_not (ha pins s σ H (fun c H1 => Q (!c) H1) I h)
/-- .. as values (bools) -/
def tAndV (ta tb : TE) : TE := fun σ H Q => ta σ H fun x H1 => ∃ c, x = .bl c ∧ if c = true then tb σ H1 Q else Q (.bl false) H1
def tNotV (ta : TE) : TE := fun σ H Q => ta σ H fun x H1 => ∃ c, x = .bl c ∧ Q (.bl (!c)) H1
theorem pe_one {op} {t : TE} (h : PE X a t) : PE X (.BoolOp op [a] pos) t := fun pins s σ H Q I hw => BoolOp_one (h pins s σ H Q I hw)
theorem pe_and (ha : PE X a ta) (hb : PE X (.BoolOp .And (b :: rest) pos) tb) : PE X (.BoolOp .And (a :: b :: rest) pos) (tAndV ta tb) := by
  intro pins s σ H Q I h
  refine BoolOp_and (thn (ha pins s σ H _ I h) fun v s1 ⟨x, H1, I1, r1, q1⟩ => ?_)
  obtain ⟨c, rfl, q1⟩ := q1
  cases r1
  refine wpAny_truthy_bool ?_
  cases c with
  | true => exact hb pins s1 σ H1 Q I1 q1
  | false => exact ⟨.bl false, H1, I1, rfl, q1⟩
theorem pe_not (ha : PE X a ta) : PE X (.UnaryOp .Not a pos) (tNotV ta) := by
  intro pins s σ H Q I h
  refine UnaryOp_ (thn (ha pins s σ H _ I h) fun v s1 ⟨x, H1, I1, r1, q1⟩ => ?_)
  obtain ⟨c, rfl, q1⟩ := q1
  cases r1
  exact not_of (wpAny_truthy_bool ⟨.bl (!c), H1, I1, rfl, q1⟩)
end
end L2

namespace L2
open PySem PySem.Spec PyProof.Rows

def SqL (K : PySem.W.Frag) (H : Hp) (a : Addr) (xs : List V) : Prop :=
  Rd H a (.lst xs) ∨
    ∃ (o : Obj) (its : Array Value) (n : Nat), K.lookup a = some o ∧ o.cls = .type "list" ∧ o.dict = none ∧ o.data = .seq its n ∧ its.size ≤ sizeLine ∧ Vals xs its.toList
def SqT (K : PySem.W.Frag) (H : Hp) (a : Addr) (xs : List V) : Prop :=
  Rd H a (.tup xs) ∨
    ∃ (o : Obj) (its : Array Value) (n : Nat), K.lookup a = some o ∧ o.cls = .type "tuple" ∧ o.data = .seq its n ∧ its.size ≤ sizeLine ∧ Vals xs its.toList
def absV : Value → Option V
  | .none => some .non
  | .bool b => some (.bl b)
  | .int i _ => some (.int i)
  | .str x _ => some (.str x)
  | .bytes b _ => some (.byt b)
  | .float b _ => some (.flt b)
  | .ref a => some (.ref a)
  | .type n => some (.ty n)
  | _ => none
theorem RelV.abs {x : V} {u : Value} (r : RelV x u) : absV u = some x := by
  cases x with
  | non => cases r; rfl
  | bl _ => cases r; rfl
  | int _ => obtain ⟨t, rfl⟩ := r; rfl
  | str _ => obtain ⟨t, rfl⟩ := r; rfl
  | byt _ => obtain ⟨t, rfl⟩ := r; rfl
  | flt _ => obtain ⟨t, rfl⟩ := r; rfl
  | ref _ => cases r; rfl
  | ty _ => cases r; rfl
theorem RelV.inj {x y : V} {u : Value} (r : RelV x u) (q : RelV y u) : x = y := Option.some.inj (r.abs.symm.trans q.abs)
theorem Vals.inj : ∀ {xs ys : List V} {us : List Value}, Vals xs us → Vals ys us → xs = ys
  | _, _, _, .nil, .nil => rfl
  | _, _, _, .cons r t, .cons r' t' => by rw [r.inj r', Vals.inj t t']
section
variable {X : Cx} {pins : List (Addr × Obj)} {σ : St} {H : Hp} {s : Shared} {a : Addr} {xs ys : List V}
theorem SqL.of {K : PySem.W.Frag} (h : H a = some (.lst xs)) : SqL K H a xs := .inl (.inl h)
theorem SqT.of {K : PySem.W.Frag} (h : H a = some (.tup xs)) : SqT K H a xs := .inl (.inl h)
theorem Inv.list (I : Inv X pins σ H s) (h : SqL X.K H a xs) : ∃ its : List Value, Vals xs its ∧ PlainL s.heap a its.toArray ∧ xs.length ≤ sizeLine := by
  rcases h with h | ⟨o, its, n, hk, hc, hd, hs, hz, r⟩
  · obtain ⟨z, its, n, r, e⟩ := h.ok I.hok
    exact ⟨its, r, ⟨_, n, e, rfl, rfl, rfl⟩, z⟩
  · refine ⟨its.toList, r, ⟨o, n, I.kIn a o hk, hc, hd, by simpa using hs⟩, ?_⟩
    have e := r.length
    simp only [Array.length_toList] at e
    omega
theorem Inv.tuple (I : Inv X pins σ H s) (h : SqT X.K H a xs) : ∃ its : List Value, Vals xs its ∧ IsTup s.heap a its.toArray ∧ xs.length ≤ sizeLine := by
  rcases h with h | ⟨o, its, n, hk, hc, hs, hz, r⟩
  · obtain ⟨z, its, r, p⟩ := h.ok I.hok
    exact ⟨its, r, p, z⟩
  · refine ⟨its.toList, r, ⟨o, I.kIn a o hk, hc, n, by simpa using hs⟩, ?_⟩
    have e := r.length
    simp only [Array.length_toList] at e
    omega
theorem Inv.list_inj (I : Inv X pins σ H s) (h : SqL X.K H a xs) (h' : SqL X.K H a ys) : xs = ys := by
  obtain ⟨its, r, ⟨o, n, e, _, _, d⟩, _⟩ := I.list h
  obtain ⟨its', r', ⟨o', n', e', _, _, d'⟩, _⟩ := I.list h'
  rw [e] at e'; cases e'
  rw [d] at d'
  injection d' with d1 _
  have : its = its' := by simpa using congrArg Array.toList d1
  subst this
  exact r.inj r'
theorem Inv.tuple_inj (I : Inv X pins σ H s) (h : SqT X.K H a xs) (h' : SqT X.K H a ys) : xs = ys := by
  obtain ⟨its, r, ⟨o, e, _, n, d⟩, _⟩ := I.tuple h
  obtain ⟨its', r', ⟨o', e', _, n', d'⟩, _⟩ := I.tuple h'
  rw [e] at e'; cases e'
  rw [d] at d'
  injection d' with d1 _
  have : its = its' := by simpa using congrArg Array.toList d1
  subst this
  exact r.inj r'
end

abbrev Cx.wish (X : Cx) (E : Value → Shared → Prop) : Cx := { X with xe := E }
/-- no exception leaves -/
abbrev Cx.nox (X : Cx) : Cx := X.wish fun _ _ => False
theorem Cx.Ok.wish {X : Cx} (ok : X.Ok) (E : Value → Shared → Prop) : (X.wish E).Ok :=
  ⟨ok.mod, ok.kind, ok.glob, ok.blt, ok.above, ok.inj, ok.has, ok.cab, ok.hd, ok.frames, ok.stk, ok.exf, ok.bs, ok.bsz, ok.noex, ok.exfs, ok.funs, ok.frf⟩
theorem Cx.Ok.unwish {X : Cx} {E : Value → Shared → Prop} (ok : (X.wish E).Ok) : X.Ok :=
  ⟨ok.mod, ok.kind, ok.glob, ok.blt, ok.above, ok.inj, ok.has, ok.cab, ok.hd, ok.frames, ok.stk, ok.exf, ok.bs, ok.bsz, ok.noex, ok.exfs, ok.funs, ok.frf⟩
section
variable {X : Cx} {pins : List (Addr × Obj)} {σ : St} {H : Hp} {s : Shared} {E : Value → Shared → Prop}
theorem Inv.wish (I : Inv X pins σ H s) (E : Value → Shared → Prop) : Inv (X.wish E) pins σ H s := ⟨I.ok.wish E, I.os, I.bare, I.base, I.loc, I.cell, I.free, I.freeC, I.pin, I.hok, I.len⟩
theorem Inv.unwish (I : Inv (X.wish E) pins σ H s) : Inv X pins σ H s := ⟨I.ok.unwish, I.os, I.bare, I.base, I.loc, I.cell, I.free, I.freeC, I.pin, I.hok, I.len⟩
theorem SP.unwish {D : Ends} {f : Flow} {s' : Shared} (h : SP (X.wish E) pins D f s') : SP X pins D f s' := by
  cases f with
  | next => obtain ⟨σ', H', I, q⟩ := h; exact ⟨σ', H', I.unwish, q⟩
  | brk => obtain ⟨σ', H', I, q⟩ := h; exact ⟨σ', H', I.unwish, q⟩
  | cont => obtain ⟨σ', H', I, q⟩ := h; exact ⟨σ', H', I.unwish, q⟩
  | ret u => obtain ⟨v, σ', H', I, r, q⟩ := h; exact ⟨v, σ', H', I.unwish, r, q⟩
theorem PSs.nox {st : List Stmt} {t : TS} (h : PSs X.nox st t) : PSs X st t := fun pins s σ H D I hw =>
  wpAny_mono (h pins s σ H D (I.wish _) hw) (fun _ _ q => q.unwish) fun _ _ z => False.elim z
end

section
variable {X : Cx} {st : Stmt} {rest : List Stmt} {t u : TS} {e : Expr} {te : TE} {pos : Pos}
def tNext : TS := fun D σ H => D.nx σ H
def tSeq (t u : TS) : TS := fun D σ H => t { D with nx := u D } σ H
theorem pss_nil : PSs X [] tNext := fun _ _ σ H _ I h => wpAny_execs_nil ⟨σ, H, I, h⟩
theorem pss_cons (h1 : PS X st t) (h2 : PSs X rest u) : PSs X (st :: rest) (tSeq t u) := by
  intro pins s σ H D I h
  refine wpAny_execs_cons (thn (h1 pins s σ H { D with nx := u D } I h) fun f s1 q => ?_)
  cases f with
  | next =>
    obtain ⟨σ', H', I', q⟩ := q
    exact h2 pins s1 σ' H' D I' q
  | ret v => exact q
  | brk => exact q
  | cont => exact q
theorem pss_one (h1 : PS X st t) : PSs X [st] t := by
  intro pins s σ H D I h
  refine wpAny_execs_cons (thn (h1 pins s σ H D I h) fun f s1 q => ?_)
  cases f with
  | next => exact wpAny_execs_nil q
  | ret v => exact q
  | brk => exact q
  | cont => exact q
/-- in a def's body nothing is shown -/
theorem Inv.quiet {pins : List (Addr × Obj)} {σ : St} {H : Hp} {s : Shared} (I : Inv X pins σ H s) : interactive X.env = false := by simp [interactive, I.ok.kind]
/-- an expression whose value is dropped -/
def tDrop (te : TE) : TS := fun D σ H => te σ H fun _ H1 => D.nx σ H1
theorem ps_expr (he : PE X e te) (hs : swapsWith e none pos.line X.env = pure false := by rfl) : PS X (.Expr e pos) (tDrop te) := by
  intro pins s σ H D I h
  exact wpAny_Expr_any (thn (he pins s σ H _ I h) fun v s1 ⟨x, H1, I1, r1, q1⟩ => ⟨σ, H1, I1, q1⟩) I.quiet hs
def tRet (te : TE) : TS := fun D σ H => te σ H D.rt
theorem ps_ret (he : PE X e te) : PS X (.Return (some e) pos) (tRet te) := by
  intro pins s σ H D I h
  exact wpAny_Return_some (thn (he pins s σ H _ I h) fun v s1 ⟨x, H1, I1, r1, q1⟩ => ⟨x, σ, H1, I1, r1, q1⟩)
def tIfS (c : TT) (t u : TS) : TS := fun D σ H => c σ H fun b H1 => if b = true then t D σ H1 else u D σ H1
theorem ps_if {c : Expr} {a b : List Stmt} {tc : TT} (hc : PT X c tc) (ha : PSs X a t) (hb : PSs X b u) : PS X (.If c a b pos) (tIfS tc t u) := by
  intro pins s σ H D I h
  refine wpAny_If (thn (hc pins s σ H _ I h) fun d s1 ⟨H1, I1, q1⟩ => ?_)
  cases d with
  | true => exact ha pins s1 σ H1 D I1 q1
  | false => exact hb pins s1 σ H1 D I1 q1
end

abbrev TG := V → St → Hp → (St → Hp → Prop) → Prop
abbrev TGs := List V → St → Hp → (St → Hp → Prop) → Prop
def PG (X : Cx) (target : Expr) (t : TG) : Prop :=
  ∀ (pins : List (Addr × Obj)) (s : Shared) (σ : St) (H : Hp) (v : V) (u : Value) (Q : St → Hp → Prop), Inv X pins σ H s → RelV v u → t v σ H Q →
    wpAny (model X.prog X.w) X.A (assign target X.env u) (fun _ s' => ∃ σ' H', Inv X pins σ' H' s' ∧ Q σ' H') X.xe s
/-- several targets, one after another -/
def PGs (X : Cx) (ts : List Expr) (t : TGs) : Prop :=
  ∀ (pins : List (Addr × Obj)) (s : Shared) (σ : St) (H : Hp) (vs : List V) (us : List Value) (Q : St → Hp → Prop), Inv X pins σ H s → Vals vs us → t vs σ H Q →
    wpAny (model X.prog X.w) X.A (assignInOrder ((assignEach ts X.env).map (·.2)) us) (fun _ s' => ∃ σ' H', Inv X pins σ' H' s' ∧ Q σ' H') X.xe s
/-- o[i] = v, by values -/
abbrev TSet := V → V → V → Hp → (Hp → Prop) → Prop
def PSet (X : Cx) (t : TSet) : Prop :=
  ∀ (pins : List (Addr × Obj)) (s : Shared) (σ : St) (H : Hp) (o i v : V) (ov iv u : Value) (Q : Hp → Prop), Inv X pins σ H s → RelV o ov → RelV i iv → RelV v u → t o i v H Q →
    wpAny (model X.prog X.w) X.A (setItem ov iv u) (fun _ s' => ∃ H', Inv X pins σ H' s' ∧ Q H') X.xe s
/-- a op= b, by values -/
abbrev TIp := V → V → Hp → VK → Prop
def PIp (X : Cx) (op : Operator) (t : TIp) : Prop :=
  ∀ (pins : List (Addr × Obj)) (s : Shared) (σ : St) (H : Hp) (x y : V) (v u : Value) (Q : VK), Inv X pins σ H s → RelV x v → RelV y u → t x y H Q →
    wpAny (model X.prog X.w) X.A (inplaceOp op v u) (EP X pins σ Q) X.xe s
section
variable {X : Cx} {pos : Pos}
def gName (i : Nat) : TG := fun v σ H Q => Q (σ.set i (some v)) H
theorem pg_name {i : Nat} {x : Str} (hN : X.N.Nodup) (hi : X.N[i]? = some x) (hx : Loc X.env.scope x) (hf : X.fn x = true ∨ X.env.scope.names.lookup x = some .local := by first | exact .inl rfl | exact .inr rfl | assumption) : PG X (.Name x pos) (gName i) := by
  intro pins s σ H v u Q I r h
  exact wpAny_assign_Name (store_ok I hN hi hx r (fun s' I' => ⟨_, H, I', h⟩) hf)
def gNil : TGs := fun vs σ H Q => vs = [] ∧ Q σ H
def gCons (t : TG) (u : TGs) : TGs := fun vs σ H Q => ∃ v r, vs = v :: r ∧ t v σ H fun σ' H' => u r σ' H' Q
theorem pgs_nil : PGs X [] gNil := by
  intro pins s σ H vs us Q I r h
  obtain ⟨e, h⟩ := h
  subst e
  cases r
  exact assignInOrder_nil ⟨σ, H, I, h⟩
theorem pgs_cons {e : Expr} {es : List Expr} {t : TG} {u : TGs} (h1 : PG X e t) (h2 : PGs X es u)
    (hs : (assignEach (e :: es) X.env).map (·.2) = assign e X.env :: (assignEach es X.env).map (·.2) := by rfl) : PGs X (e :: es) (gCons t u) := by
  intro pins s σ H vs us Q I r h
  obtain ⟨v, vr, e1, h⟩ := h
  subst e1
  cases r with
  | cons r rr =>
    rw [hs]
    refine assignInOrder_cons (thn (h1 pins s σ H _ _ _ I r h) fun _ s1 ⟨σ1, H1, I1, q1⟩ => ?_)
    exact h2 pins s1 σ1 H1 _ _ Q I1 rr q1
/-- (a, b, ..) = a tuple of that length -/
def gTup (K : PySem.W.Frag) (n : Nat) (t : TGs) : TG := fun v σ H Q => ∃ a xs, v = .ref a ∧ SqT K H a xs ∧ xs.length = n ∧ t xs σ H Q
theorem pg_tup {es : List Expr} {k : Nat} {t : TGs} {n : Nat} (hc : X.calm = true) (h : PGs X es t)
    (hn : (assignEach es X.env).length = n := by rfl) (hst : (assignEach es X.env).findIdx? (·.1) = none := by rfl) : PG X (.Tuple es k pos) (gTup X.K n t) := by
  intro pins s σ H v u Q I r hw
  obtain ⟨a, xs, e1, hq, hl, hw⟩ := hw
  subst e1
  cases r
  obtain ⟨its, rv, ht, hz⟩ := I.tuple hq
  refine assign_Tuple_tuple (I.ok.hd hc) ht (by simp [hn, ← hl, rv.length]) hst fun h' hx => ?_
  have I1 : Inv X pins σ H { s with heap := h' } := I.kept (t' := s.toks) fun b o e => hx b o (Nat.ne_of_lt (Heap.lt_size e)) e
  exact h pins _ σ H xs _ Q I1 (by simpa using rv) hw
/-- o[i] = .. -/
def gSub (to ti : TE) (t : TSet) : TG := fun v σ H Q => to σ H fun o H1 => ti σ H1 fun i H2 => t o i v H2 fun H3 => Q σ H3
theorem pg_sub {o i : Expr} {to ti : TE} {t : TSet} (ho : PE X o to) (hi : PE X i ti) (hs : PSet X t)
    (ha : ∀ v, assign (.Subscript o i pos) X.env v = (do
      let ov ← holding [v] (eval o X.env)
      let iv ← holding [v, ov] (eval i X.env)
      standAt pos
      holding [v, ov, iv] (setItem ov iv v)
      release [v, ov, iv] []) := by intro _; rfl) : PG X (.Subscript o i pos) (gSub to ti t) := by
  intro pins s σ H v u Q I r h
  rw [ha]
  refine wpAny_bind (wpAny_holding (thn (ho pins s σ H _ I h) fun ov s1 ⟨x, H1, I1, r1, q1⟩ => ?_))
  refine wpAny_bind (wpAny_holding (thn (hi pins s1 σ H1 _ I1 q1) fun iv s2 ⟨y, H2, I2, r2, q2⟩ => ?_))
  refine wpAny_bind (wpAny_standAt (wpAny_bind (wpAny_holding (thn (hs pins s2 σ H2 x y v ov iv u _ I2 r1 r2 r q2) fun _ s3 ⟨H3, I3, q3⟩ => ?_))))
  exact wpAny_release ⟨σ, H3, I3, q3⟩
/-- target = value -/
def tAsg (te : TE) (g : TG) : TS := fun D σ H => te σ H fun x H1 => g x σ H1 D.nx
theorem ps_asg {tg e : Expr} {te : TE} {g : TG} (he : PE X e te) (hg : PG X tg g) (hs : swapsWithSole [tg] e pos.line X.env = pure false := by rfl) (hw : swappedStores [tg] e X.env = pure none := by rfl)
    (h1 : (assignEach [tg] X.env).map (·.2) = [assign tg X.env] := by rfl) : PS X (.Assign [tg] e pos) (tAsg te g) := by
  intro pins s σ H D I h
  refine wpAny_Assign_stores (thn (he pins s σ H _ I h) fun v s1 ⟨x, H1, I1, r1, q1⟩ => ?_) hs hw
  rw [h1]
  exact thn (hg pins s1 σ H1 x v _ I1 r1 q1) fun _ s2 q => q
/-- name = value -/
theorem ps_set {i : Nat} {x : Str} {e : Expr} {te : TE} {pos' : Pos} (hN : X.N.Nodup) (hi : X.N[i]? = some x) (hx : Loc X.env.scope x) (he : PE X e te) (hs : swapsWith e (some (.Name x pos')) pos.line X.env = pure false := by rfl) (hf : X.fn x = true ∨ X.env.scope.names.lookup x = some .local := by first | exact .inl rfl | exact .inr rfl | assumption) :
    PS X (.Assign [.Name x pos'] e pos) (tAsg te (gName i)) := by
  intro pins s σ H D I h
  refine wpAny_Assign_Name (thn (he pins s σ H _ I h) fun v s1 ⟨y, H1, I1, r1, q1⟩ => ?_) hs
  exact store_ok I1 hN hi hx r1 (fun s2 I2 => ⟨_, H1, I2, q1⟩) hf
/-- name op= e -/
def tAug (i : Nat) (te : TE) (ti : TIp) : TS := fun D σ H => ∃ x, σ[i]? = some (some x) ∧ te σ H fun y H1 => ti x y H1 fun z H2 => D.nx (σ.set i (some z)) H2
theorem ps_aug {i : Nat} {x : Str} {e : Expr} {te : TE} {op : Operator} {ti : TIp} {pos' : Pos} (hN : X.N.Nodup) (hi : X.N[i]? = some x) (hx : Loc X.env.scope x) (he : PE X e te) (ho : PIp X op ti) (hf : X.fn x = true ∨ X.env.scope.names.lookup x = some .local := by first | exact .inl rfl | exact .inr rfl | assumption) :
    PS X (.AugAssign (.Name x pos') op e pos) (tAug i te ti) := by
  intro pins s σ H D I h
  obtain ⟨v, e1, h⟩ := h
  obtain ⟨m, hn, hl⟩ := I.loc
  have vis : Vis X.env.scope x := by rcases hx with k | k; exact .inl k; exact .inr (.inl k)
  obtain ⟨u, r, l⟩ := hl i x v hi e1 vis
  refine wpAny_AugAssign_Name ?_
  have go : wpAny (model X.prog X.w) X.A (eval e X.env) (fun w s₂ => wpAny (model X.prog X.w) X.A (inplaceOp op u w) (fun r s₃ => wpAny (model X.prog X.w) X.A (storeName X.env x r) (fun _ => SP X pins D .next) X.xe s₃) X.xe s₂) X.xe s := by
    refine thn (he pins s σ H _ I h) fun w s1 ⟨y, H1, I1, r1, q1⟩ => ?_
    refine thn (ho pins s1 σ H1 v y u w _ I1 r r1 q1) fun z s2 ⟨zv, H2, I2, r2, q2⟩ => ?_
    exact store_ok I2 hN hi hx r2 (fun s3 I3 => ⟨_, H2, I3, q2⟩) hf
  rcases l with ⟨hk, hm⟩ | ⟨hk, c, hc, hcell⟩
  · exact wpAny_loadName_local I.ok.kind hk hn hm go
  · rcases hk with hk | hk
    · exact wpAny_loadName_cell I.ok.kind hk hc hcell go
    · rcases hx with k | k
      · have : X.env.scope.names.lookup x = some .free := hk
        rw [k] at this; cases this
      · have : X.env.scope.names.lookup x = some .free := hk
        rw [k] at this; cases this
end

section
variable {X : Cx} {pos : Pos}
/-- the invariant W with its measure -/
def tWhile (c : TT) (tb : TS) : TS := fun D σ H => ∃ W : Nat → St → Hp → Prop, (∃ m, W m σ H) ∧ ∀ m σ H, W m σ H →
  c σ H fun b H1 => if b = true then ∃ N : St → Hp → Prop, (∀ σ' H', N σ' H' → ∃ m', m' < m ∧ W m' σ' H') ∧ tb { D with nx := N, ct := N, bk := D.nx } σ H1 else D.nx σ H1
theorem ps_while {c : Expr} {body : List Stmt} {tc : TT} {tb : TS} (hp : PassesOwn (model X.prog X.w) X.A X.env X.xe) (hc : PT X c tc) (hb : PSs X body tb) : PS X (.While c body [] pos) (tWhile tc tb) := by
  intro pins s σ H D I h
  obtain ⟨W, ⟨m0, w0⟩, turn⟩ := h
  refine wpAny_While (codeAny_whileLoop (fun n s' => ∃ σ' H', Inv X pins σ' H' s' ∧ W n σ' H') ?_ m0 ⟨σ, H, I, w0⟩)
  rintro n s1 ⟨σ1, H1, I1, w1⟩
  refine wpAny_passesOwn hp (thn (hc pins s1 σ1 H1 _ I1 (turn n σ1 H1 w1)) fun b s2 ⟨H2, I2, q2⟩ => ?_)
  cases b with
  | true =>
    obtain ⟨N, hN, q2⟩ := q2
    rw [if_pos rfl]
    refine wpAny_passesOwn hp (thn (hb pins s2 σ1 H2 _ I2 q2) fun f s3 q3 => ?_)
    cases f with
    | next =>
      obtain ⟨σ3, H3, I3, n3⟩ := q3
      obtain ⟨m', hm, w3⟩ := hN σ3 H3 n3
      exact ⟨m', hm, σ3, H3, I3, w3⟩
    | cont =>
      obtain ⟨σ3, H3, I3, n3⟩ := q3
      obtain ⟨m', hm, w3⟩ := hN σ3 H3 n3
      exact ⟨m', hm, σ3, H3, I3, w3⟩
    | brk => exact q3
    | ret v => exact q3
  | false =>
    rw [if_neg Bool.false_ne_true]
    exact wpAny_execs_nil ⟨σ1, H2, I2, q2⟩
end

/-- at turn i: it yields x (the heap may grow), or it stops -/
structure It where
  go : Nat → Hp → Prop
  yld : Nat → Hp → V → Hp → Prop
  stop : Nat → Hp → Prop
/-- the iterator's own objects may turn: they are not the frame's, not pinned, younger than the entry (or a comprehension's own) -/
def FpOk (X : Cx) (pins : List (Addr × Obj)) (H : Hp) (b : Addr) : Prop :=
  H b = none ∧ b ≠ X.env.locals ∧ b ∉ X.fs ∧ (b ∈ X.ex ∨ X.s₀.heap.objs.size ≤ b) ∧ (∀ x c, X.env.cells.lookup x = some c → c ≠ b) ∧ ∀ p ∈ X.pn ++ pins, p.1 ≠ b
theorem Inv.fpOk {X : Cx} {pins : List (Addr × Obj)} {σ : St} {H H' : Hp} {s : Shared} {b : Addr} (I : Inv X pins σ H s) (hb : s.heap.objs.size ≤ b) (hn : H' b = none) : FpOk X pins H' b := by
  refine ⟨hn, Nat.ne_of_gt (Nat.lt_of_lt_of_le I.lt hb), I.nofs hb, .inr (Nat.le_trans I.sz hb), fun x c e z => ?_, fun p hp z => ?_⟩
  · obtain ⟨v, q⟩ := I.cell x c e
    exact absurd (Nat.lt_of_lt_of_le q.lt (by rw [z]; exact hb)) (Nat.lt_irrefl _)
  · exact absurd (Nat.lt_of_lt_of_le (Heap.lt_size (I.pin p hp).1) (by rw [z]; exact hb)) (Nat.lt_irrefl _)
structure Turn (P : Program) (w : World) (K : PySem.W.Frag) (tg : Expr) (J : It) (fp : List Addr) (it : Addr) (tn : Nat → Heap → Prop) : Prop where
  mem : it ∈ fp
  obj : ∀ i h, tn i h → ∀ b ∈ fp, ∃ o, h.get? b = some o ∧ ∀ v, o.data ≠ .cell v
  keep : ∀ i h h', tn i h → (∀ b ∈ fp, ∀ o, h.get? b = some o → h'.get? b = some o) → tn i h'
  item : ∀ (X : Cx), X.prog = P → X.w = w → X.K = K → X.calm = true → ∀ (i : Nat) (pins : List (Addr × Obj)) (s : Shared) (σ : St) (H : Hp) (E : Value → Shared → Prop), Inv X pins σ H s → (∀ b ∈ fp, FpOk X pins H b) → tn i s.heap → J.go i H →
    wpAny (model P w) X.A (pyNext (.ref it)) (fun r s1 => ∃ u, r = some u ∧
      wpAny (model P w) X.A (letOwnedTupleGo tg (.ref it) u) (fun _ s2 => ∃ x H', Inv X pins σ H' s2 ∧ RelV x u ∧ J.yld i H x H' ∧ tn (i + 1) s2.heap ∧ ∀ b ∈ fp, H' b = none) E s1) E s
  done : ∀ (X : Cx), X.prog = P → X.w = w → X.K = K → X.calm = true → ∀ (i : Nat) (pins : List (Addr × Obj)) (s : Shared) (σ : St) (H : Hp) (E : Value → Shared → Prop), Inv X pins σ H s → (∀ b ∈ fp, FpOk X pins H b) → tn i s.heap → J.stop i H →
    wpAny (model P w) X.A (pyNext (.ref it)) (fun r s1 => r = none ∧ Inv X pins σ H s1) E s
  self : ∀ (A : Around) (i : Nat) (s : Shared) (Q : Value → Shared → Prop) (E : Value → Shared → Prop), tn i s.heap → Q (.ref it) s → wpAny (model P w) A (pyIter (.ref it)) Q E s
abbrev TI := St → Hp → (It → Hp → Prop) → Prop
/-- an iterator has come -/
def PIE (X : Cx) (pins : List (Addr × Obj)) (σ : St) (tg : Expr) (R : It → Hp → Prop) (itv : Value) (s2 : Shared) : Prop :=
  ∃ (it : Addr) (fp : List Addr) (tn : Nat → Heap → Prop) (J : It) (H' : Hp), itv = .ref it ∧ Inv X pins σ H' s2 ∧ Turn X.prog X.w X.K tg J fp it tn ∧ tn 0 s2.heap ∧ (∀ b ∈ fp, FpOk X pins H' b) ∧ R J H'
def PI (X : Cx) (tg iter : Expr) (wi : TI) : Prop :=
  ∀ (pins : List (Addr × Obj)) (s : Shared) (σ : St) (H : Hp) (R : It → Hp → Prop), Inv X pins σ H s → wi σ H R →
    wpAny (model X.prog X.w) X.A (eval iter X.env) (fun v s1 => wpAny (model X.prog X.w) X.A (pyIter v) (PIE X pins σ tg R) X.xe s1) X.xe s

/-- the step ahead of the store is nothing for an iterator that keeps no tuple -/
theorem go_of {M : Model} {A : Around} {E : Value → Shared → Prop} {s : Shared} {tg : Expr} {it : Addr} {u : Value} {o : Obj} {n : String} {vs : Array Value} {Q : Unit → Shared → Prop} (ho : s.heap.get? it = some o) (hc : o.cls = .type n) (hd : o.data = .fields vs)
    (hn : ["enumerate", "zip", "dict_itemiterator", "dict_reverseitemiterator", "odict_iterator", "itertools.zip_longest", "itertools.pairwise"].contains n = false) (hQ : Q () s) : wpAny M A (letOwnedTupleGo tg (.ref it) u) Q E s := by
  unfold letOwnedTupleGo
  cases tg <;> first
    | exact wpAny_pure hQ
    | (cases u <;> first
        | exact wpAny_pure hQ
        | (refine wpAny_bind (wpAny_load ho ?_)
           rw [hc, hd]
           show wpAny M A (if (["enumerate", "zip", "dict_itemiterator", "dict_reverseitemiterator", "odict_iterator", "itertools.zip_longest", "itertools.pairwise"].contains n && vs[0]? == some (rawInt _)) = true then _ else _) Q E s
           rw [if_neg (by intro h; rw [hn, Bool.false_and] at h; cases h)]
           exact wpAny_pure hQ))

/-- the list at a, as it stands at each turn (a loop may append to it) -/
def Itl (K : PySem.W.Frag) (a : Addr) : It :=
  ⟨fun i H => ∃ xs x, SqL K H a xs ∧ xs[i]? = some x, fun i H x H' => H' = H ∧ ∀ xs, SqL K H a xs → xs[i]? = some x, fun i H => ∃ xs, SqL K H a xs ∧ xs.length ≤ i⟩
def Itt (K : PySem.W.Frag) (a : Addr) : It :=
  ⟨fun i H => ∃ xs x, SqT K H a xs ∧ xs[i]? = some x, fun i H x H' => H' = H ∧ ∀ xs, SqT K H a xs → xs[i]? = some x, fun i H => ∃ xs, SqT K H a xs ∧ xs.length ≤ i⟩
/-- lo, lo + 1, .. (n of them) -/
def Itr (lo : Int) (n : Nat) : It := ⟨fun i _ => i < n, fun i H x H' => H' = H ∧ x = .int (lo + i), fun i _ => n ≤ i⟩
theorem turn_list {P : Program} {w : World} {K : PySem.W.Frag} {tg : Expr} (a it : Addr) : Turn P w K tg (Itl K a) [it] it (fun i h => h.IsListIter it a i) where
  mem := by simp
  obj := fun i h st b hb => by
    have e : b = it := by simpa using hb
    subst e
    obtain ⟨o, e, c, d⟩ := st
    exact ⟨o, e, fun v z => by rw [d] at z; cases z⟩
  keep := fun i h h' st k => st.at fun o e => k it (by simp) o e
  item := by
    intro X hP hw hK hc i pins s σ H E I hf st hg
    subst hP hw hK
    obtain ⟨xs, x, hq, hx⟩ := hg
    obtain ⟨its, rv, p, hz⟩ := I.list hq
    obtain ⟨u, hu, ru⟩ := rv.get hx
    obtain ⟨f0, f1, f2, f3, f4, f5⟩ := hf it (by simp)
    refine wpAny_pyNext_list_item st p.isList (x := u) (by simpa using hu) fun h' st' sb => ?_
    have I1 : Inv X pins σ H { s with heap := h' } := I.turned (t' := s.toks) (fun b o hb e => (sb.2 b hb).trans e) f0 f1 f3 f4 f5
    obtain ⟨o, e, c, d⟩ := id st'
    exact ⟨u, rfl, go_of (s := { s with heap := h' }) e c d (by decide) ⟨x, H, I1, ru, ⟨rfl, fun ys hy => by rw [I.list_inj hy hq]; exact hx⟩, st', fun b hb => (hf b hb).1⟩⟩
  done := by
    intro X hP hw hK hc i pins s σ H E I hf st hg
    subst hP hw hK
    obtain ⟨xs, hq, hx⟩ := hg
    obtain ⟨its, rv, p, hz⟩ := I.list hq
    obtain ⟨f0, f1, f2, f3, f4, f5⟩ := hf it (by simp)
    have hl := rv.length
    exact wpAny_pyNext_list_end (I.ok.hd hc) st p.isList (by simp; omega) fun h' eb => ⟨rfl, I.turned (t' := s.toks) (fun b o hb e => eb b o hb e) f0 f1 f3 f4 f5⟩
  self := fun _ _ _ _ _ st h => wpAny_pyIter_listiter st h
theorem turn_tuple {P : Program} {w : World} {K : PySem.W.Frag} {tg : Expr} (a it : Addr) : Turn P w K tg (Itt K a) [it] it (fun i h => h.IsTupleIter it a i) where
  mem := by simp
  obj := fun i h st b hb => by
    have e : b = it := by simpa using hb
    subst e
    obtain ⟨o, e, c, d⟩ := st
    exact ⟨o, e, fun v z => by rw [d] at z; cases z⟩
  keep := fun i h h' st k => st.at fun o e => k it (by simp) o e
  item := by
    intro X hP hw hK hc i pins s σ H E I hf st hg
    subst hP hw hK
    obtain ⟨xs, x, hq, hx⟩ := hg
    obtain ⟨its, rv, p, hz⟩ := I.tuple hq
    obtain ⟨u, hu, ru⟩ := rv.get hx
    obtain ⟨f0, f1, f2, f3, f4, f5⟩ := hf it (by simp)
    refine wpAny_pyNext_tuple_item st (show s.heap.IsTuple a its.toArray from p) (x := u) (by simpa using hu) fun h' st' sb => ?_
    have I1 : Inv X pins σ H { s with heap := h' } := I.turned (t' := s.toks) (fun b o hb e => (sb.2 b hb).trans e) f0 f1 f3 f4 f5
    obtain ⟨o, e, c, d⟩ := id st'
    exact ⟨u, rfl, go_of (s := { s with heap := h' }) e c d (by decide) ⟨x, H, I1, ru, ⟨rfl, fun ys hy => by rw [I.tuple_inj hy hq]; exact hx⟩, st', fun b hb => (hf b hb).1⟩⟩
  done := by
    intro X hP hw hK hc i pins s σ H E I hf st hg
    subst hP hw hK
    obtain ⟨xs, hq, hx⟩ := hg
    obtain ⟨its, rv, p, hz⟩ := I.tuple hq
    obtain ⟨f0, f1, f2, f3, f4, f5⟩ := hf it (by simp)
    have hl := rv.length
    exact wpAny_pyNext_tuple_end (I.ok.hd hc) st (show s.heap.IsTuple a its.toArray from p) (by simp; omega) fun h' eb => ⟨rfl, I.turned (t' := s.toks) (fun b o hb e => eb b o hb e) f0 f1 f3 f4 f5⟩
  self := fun _ _ _ _ _ st h => wpAny_pyIter_tupleiter st h
theorem turn_range {P : Program} {w : World} {K : PySem.W.Frag} {tg : Expr} (it : Addr) (lo : Int) (n : Nat) : Turn P w K tg (Itr lo n) [it] it (fun i h => IsRangeIter h it (lo + (i : Nat) * 1) ((n : Int) - (i : Nat)) 1) where
  mem := by simp
  obj := fun i h st b hb => by
    have e : b = it := by simpa using hb
    subst e
    exact ⟨_, st, fun v z => by
      have z' : Data.fields _ = Data.cell v := z
      cases z'⟩
  keep := fun i h h' st k => k it (by simp) _ st
  item := by
    intro X hP hw hK hc i pins s σ H E I hf st hg
    subst hP hw hK
    obtain ⟨f0, f1, f2, f3, f4, f5⟩ := hf it (by simp)
    have W := Walks.range (prog := X.prog) (w := X.w) (I.ok.hd hc) it lo 1 n
    refine W.item i s _ _ hg st fun v h' tk hv st' kk => ?_
    obtain ⟨t, rfl⟩ := hv
    have I1 : Inv X pins σ H { s with heap := h', toks := tk } := I.turned (fun b o hb e => kk b o (by simpa using hb) e) f0 f1 f3 f4 f5
    refine ⟨_, rfl, go_of (s := { s with heap := h', toks := tk }) (n := "range_iterator") st' rfl rfl (by decide) ⟨.int (lo + i), H, I1, ⟨t, ?_⟩, ⟨rfl, rfl⟩, st', fun b hb => (hf b hb).1⟩⟩
    rw [Int.mul_one]
  done := by
    intro X hP hw hK hc i pins s σ H E I hf st hg
    subst hP hw hK
    obtain ⟨f0, f1, f2, f3, f4, f5⟩ := hf it (by simp)
    exact wpAny_pyNext_range_end (I.ok.hd hc) st (by have : n ≤ i := hg; omega) fun h' eb => ⟨rfl, I.turned (t' := s.toks) (fun b o hb e => eb b o hb e) f0 f1 f3 f4 f5⟩
  self := fun _ _ _ _ _ st h => wpAny_pyIter_rangeiter st h
end L2

namespace L2
open PySem PySem.Spec PyProof.Rows
section
variable {X : Cx} {tg : Expr}
/-- a range object just made, walked -/
theorem range_it {pins : List (Addr × Obj)} {σ : St} {H : Hp} {s : Shared} {R : It → Hp → Prop} {E : Value → Shared → Prop} {lo hi : Int} {t u v : Tok} {tk : Nat} (I : Inv X pins σ H s) (h1 : -(2 ^ 62) ≤ lo) (h2 : lo < 2 ^ 62) (h3 : -(2 ^ 62) ≤ hi) (h4 : hi < 2 ^ 62)
    (q : R (Itr lo (hi - lo).toNat) H) : wpAny (model X.prog X.w) X.A (pyIter (.ref s.heap.objs.size)) (PIE X pins σ tg R) E { s with heap := s.heap.push { cls := .type "range", data := .fields #[.int lo t, .int hi u, .int 1 v] }, toks := tk } := by
  refine wpAny_pyIter_range (IsRange.new ..) (small_one h1 h2 h3 h4) ?_
  have I1 : Inv X pins σ H { s with heap := s.heap.push { cls := .type "range", data := .fields #[.int lo t, .int hi u, .int 1 v] }, toks := tk } := I.kept fun b o e => Heap.get?_push_of_some _ e
  refine ⟨(s.heap.push { cls := .type "range", data := .fields #[.int lo t, .int hi u, .int 1 v] }).objs.size, [(s.heap.push { cls := .type "range", data := .fields #[.int lo t, .int hi u, .int 1 v] }).objs.size], _, _, H, rfl,
    I1.kept (t' := tk) fun b o e => Heap.get?_push_of_some _ e, turn_range _ lo (hi - lo).toNat, ?_, fun b hb => ?_, q⟩
  · have e1 : lo + ((0 : Nat) : Int) * 1 = lo := by simp
    have e2 : (((hi - lo).toNat : Nat) : Int) - ((0 : Nat) : Int) = Builtin.Range.rangeSize lo hi 1 := by rw [rangeSize_one]; split <;> omega
    show IsRangeIter _ _ (lo + ((0 : Nat) : Int) * 1) ((((hi - lo).toNat : Nat) : Int) - ((0 : Nat) : Int)) 1
    rw [e1, e2]
    exact Heap.get?_push_size _ rfl
  · have e : b = (s.heap.push { cls := .type "range", data := .fields #[.int lo t, .int hi u, .int 1 v] }).objs.size := by simpa using hb
    subst e
    exact I1.fpOk (Nat.le_refl _) (I1.hok.fresh (Nat.le_refl _))
def iRng1 (ta : TA) : TI := fun σ H R => ta σ H fun vs H1 => ∃ j : Int, vs = [.int j] ∧ -(2 ^ 62) ≤ j ∧ j < 2 ^ 62 ∧ R (Itr 0 j.toNat) H1
theorem pi_range1 {a : Expr} {ta : TA} {p pos : Pos} (hg : Gl X "range") (hm : X.mg "range" = none) (ha : PA X [a] ta) (hs : starEach [a] X.env = [(false, eval a X.env)] := by rfl) : PI X tg (.Call (.Name "range" p) [a] [] pos) (iRng1 ta) := by
  intro pins s σ H R I h
  refine Call_ (ld_blt I hg hm boot_range (PyProof.Rows.callWith_type1 (thn (ha pos pins s σ H _ I h) fun us s1 ⟨vs, H1, I1, r1, q1⟩ => ?_) hs rfl))
  obtain ⟨j, e, q1, q2, q⟩ := q1
  subst e
  cases r1 with
  | cons r rr =>
    cases rr
    obtain ⟨t, rfl⟩ := r
    exact call_range_1 (range_it I1 (by omega) (by omega) q1 q2 (by simpa using q))
/-- W: the invariant by the turn and a measure; N: what the body is to reach -/
def tFor (wi : TI) (g : TG) (tb : TS) : TS := fun D σ H => wi σ H fun J H1 => ∃ W : Nat → Nat → St → Hp → Prop, (∃ m, W 0 m σ H1) ∧ ∀ i m σ H, W i m σ H →
  (J.stop i H ∧ D.nx σ H) ∨ (J.go i H ∧ ∃ N : St → Hp → Prop, (∀ σ' H', N σ' H' → ∃ m', m' < m ∧ W (i + 1) m' σ' H') ∧ ∀ x H', J.yld i H x H' → g x σ H' fun σ2 H2 => tb { D with nx := N, ct := N, bk := D.nx } σ2 H2)
/-- the records at fp as they stand -/
def pinsAt (fp : List Addr) (h : Heap) : List (Addr × Obj) := fp.filterMap fun b => (h.get? b).map fun o => (b, o)
theorem mem_pinsAt {fp : List Addr} {h : Heap} {b : Addr} {o : Obj} (hb : b ∈ fp) (e : h.get? b = some o) : (b, o) ∈ pinsAt fp h := List.mem_filterMap.mpr ⟨b, hb, by rw [e]; rfl⟩
theorem of_pinsAt {fp : List Addr} {h : Heap} {p : Addr × Obj} (hp : p ∈ pinsAt fp h) : p.1 ∈ fp ∧ h.get? p.1 = some p.2 := by
  obtain ⟨b, hb, e⟩ := List.mem_filterMap.mp hp
  cases q : h.get? b with
  | none => rw [q] at e; cases e
  | some o =>
    rw [q] at e
    have e' : (b, o) = p := Option.some.inj e
    subst e'
    exact ⟨hb, q⟩
theorem Inv.pinned {pins : List (Addr × Obj)} {σ : St} {H : Hp} {s : Shared} {fp : List Addr} (I : Inv X pins σ H s) (hf : ∀ b ∈ fp, FpOk X pins H b) (ho : ∀ b ∈ fp, ∃ o, s.heap.get? b = some o ∧ ∀ v, o.data ≠ .cell v) : Inv X (pins ++ pinsAt fp s.heap) σ H s :=
  I.pins_of fun p hp => (List.mem_append.mp hp).elim (fun z => I.pin p (List.mem_append_right _ z)) fun z => by
    obtain ⟨hb, e⟩ := of_pinsAt z
    obtain ⟨f0, f1, f2, _⟩ := hf p.1 hb
    obtain ⟨o, e', d⟩ := ho p.1 hb
    rw [e] at e'; cases e'
    exact ⟨e, f0, f1, f2, d⟩
theorem Inv.unpinned {pins pl : List (Addr × Obj)} {σ : St} {H : Hp} {s : Shared} (I : Inv X (pins ++ pl) σ H s) : Inv X pins σ H s := I.pins_of fun p hp => I.pin p (List.mem_append_right _ (List.mem_append_left _ hp))
theorem ps_for {iter : Expr} {body : List Stmt} {wi : TI} {g : TG} {tb : TS} {pos : Pos} (hp : PassesOwn (model X.prog X.w) X.A X.env X.xe) (hc : X.calm = true) (hi : PI X tg iter wi) (hg : PG X tg g) (hb : PSs X body tb)
    (hs : ∀ x, foldedSetIterable iter X.env x = pure x := by intro _; rfl) : PS X (.For tg iter body [] pos) (tFor wi g tb) := by
  intro pins s σ H D I h
  refine wpAny_For (thn (hi pins s σ H _ I h) fun v s1 h1 => thn h1 fun itv s2 h2 => ?_) hs
  obtain ⟨it, fp, tn, J, H2, e, I2, T, st2, f2, W, ⟨m0, w0⟩, turn⟩ := h2
  subst e
  -- what stays true of the iterator's objects through the loop
  have stat : ∀ {H' : Hp}, (∀ b ∈ fp, H' b = none) → ∀ b ∈ fp, FpOk X pins H' b := fun hn b hb => ⟨hn b hb, (f2 b hb).2⟩
  refine codeAny_forLoop_any (fun n s' => ∃ i σ' H', Inv X pins σ' H' s' ∧ tn i s'.heap ∧ (∀ b ∈ fp, H' b = none) ∧ W i n σ' H') ?_ m0 ⟨0, σ, H2, I2, st2, fun b hb => (f2 b hb).1, w0⟩
  rintro n s3 ⟨i, σ3, H3, I3, st3, fr3, w3⟩
  rcases turn i n σ3 H3 w3 with ⟨stop, qn⟩ | ⟨go, N, hN, step⟩
  · refine wpAny_passesOwn hp (thn (T.done X rfl rfl rfl hc i pins s3 σ3 H3 X.xe I3 (stat fr3) st3 stop) fun r s4 ⟨hr, I4⟩ => ?_)
    subst hr
    exact wpAny_execs_nil ⟨σ3, H3, I4, qn⟩
  · refine wpAny_passesOwn hp (thn (T.item X rfl rfl rfl hc i pins s3 σ3 H3 X.xe I3 (stat fr3) st3 go) fun r s4 ⟨u, hr, h4⟩ => ?_)
    subst hr
    refine wpAny_passesOwn hp (thn h4 fun _ s5 ⟨x, H5, I5, r5, y5, st5, fr5⟩ => ?_)
    have I5' := I5.pinned (stat fr5) (T.obj _ _ st5)
    refine wpAny_passesOwn hp (thn (hg _ s5 σ3 H5 x u _ I5' r5 (step x H5 y5)) fun _ s6 ⟨σ6, H6, I6, q6⟩ => ?_)
    refine wpAny_passesOwn hp (thn (hb _ s6 σ6 H6 _ I6 q6) fun f s7 q7 => ?_)
    have again : ∀ {σ7 : St} {H7 : Hp}, Inv X (pins ++ pinsAt fp s5.heap) σ7 H7 s7 → N σ7 H7 → ∃ m, m < n ∧ ∃ i σ' H', Inv X pins σ' H' s7 ∧ tn i s7.heap ∧ (∀ b ∈ fp, H' b = none) ∧ W i m σ' H' := fun {σ7 H7} I7 n7 => by
      obtain ⟨m', hm, w7⟩ := hN σ7 H7 n7
      refine ⟨m', hm, i + 1, σ7, H7, I7.unpinned, T.keep _ _ _ st5 fun b hb o e => (I7.pin (b, o) (List.mem_append_right _ (List.mem_append_right _ (mem_pinsAt hb e)))).1, fun b hb => ?_, w7⟩
      obtain ⟨o, e, d⟩ := T.obj _ _ st5 b hb
      exact (I7.pin (b, o) (List.mem_append_right _ (List.mem_append_right _ (mem_pinsAt hb e)))).2.1
    cases f with
    | next => obtain ⟨σ7, H7, I7, n7⟩ := q7; exact again I7 n7
    | cont => obtain ⟨σ7, H7, I7, n7⟩ := q7; exact again I7 n7
    | brk => obtain ⟨σ7, H7, I7, q7⟩ := q7; exact ⟨σ7, H7, I7.unpinned, q7⟩
    | ret v => obtain ⟨x7, σ7, H7, I7, r7, q7⟩ := q7; exact ⟨x7, σ7, H7, I7.unpinned, r7, q7⟩
end

/-- over a list that the body leaves as it is -/
theorem for_list {K : PySem.W.Frag} {a : Addr} {xs : List V} {g : TG} {tb : TS} {D : Ends} {σ : St} {H : Hp} (Pv : Nat → St → Hp → Prop) (h0 : Pv 0 σ H) (hl : ∀ i σ H, i ≤ xs.length → Pv i σ H → SqL K H a xs)
    (hs : ∀ i x σ H, xs[i]? = some x → Pv i σ H → g x σ H fun σ2 H2 => tb { D with nx := Pv (i + 1), ct := Pv (i + 1), bk := D.nx } σ2 H2) (hd : ∀ σ H, Pv xs.length σ H → D.nx σ H) :
    ∃ W : Nat → Nat → St → Hp → Prop, (∃ m, W 0 m σ H) ∧ ∀ i m σ H, W i m σ H →
      ((Itl K a).stop i H ∧ D.nx σ H) ∨ ((Itl K a).go i H ∧ ∃ N : St → Hp → Prop, (∀ σ' H', N σ' H' → ∃ m', m' < m ∧ W (i + 1) m' σ' H') ∧ ∀ x H', (Itl K a).yld i H x H' → g x σ H' fun σ2 H2 => tb { D with nx := N, ct := N, bk := D.nx } σ2 H2) := by
  refine ⟨fun i m σ H => m = xs.length - i ∧ i ≤ xs.length ∧ Pv i σ H, ⟨xs.length, by simp, Nat.zero_le _, h0⟩, ?_⟩
  rintro i m σ H ⟨rfl, hi, p⟩
  have q := hl i σ H hi p
  by_cases hlt : i < xs.length
  · refine .inr ⟨⟨xs, xs[i], q, by simp [hlt]⟩, Pv (i + 1), fun σ' H' p' => ⟨xs.length - (i + 1), by omega, rfl, hlt, p'⟩, fun x H' y => ?_⟩
    obtain ⟨e, y⟩ := y
    subst e
    exact hs i x σ _ (y xs q) p
  · have e : i = xs.length := by omega
    subst e
    exact .inl ⟨⟨xs, q, Nat.le_refl _⟩, hd σ H p⟩
theorem for_range {lo : Int} {n : Nat} {g : TG} {tb : TS} {D : Ends} {σ : St} {H : Hp} (Pv : Nat → St → Hp → Prop) (h0 : Pv 0 σ H)
    (hs : ∀ i σ H, i < n → Pv i σ H → g (.int (lo + i)) σ H fun σ2 H2 => tb { D with nx := Pv (i + 1), ct := Pv (i + 1), bk := D.nx } σ2 H2) (hd : ∀ σ H, Pv n σ H → D.nx σ H) :
    ∃ W : Nat → Nat → St → Hp → Prop, (∃ m, W 0 m σ H) ∧ ∀ i m σ H, W i m σ H →
      ((Itr lo n).stop i H ∧ D.nx σ H) ∨ ((Itr lo n).go i H ∧ ∃ N : St → Hp → Prop, (∀ σ' H', N σ' H' → ∃ m', m' < m ∧ W (i + 1) m' σ' H') ∧ ∀ x H', (Itr lo n).yld i H x H' → g x σ H' fun σ2 H2 => tb { D with nx := N, ct := N, bk := D.nx } σ2 H2) := by
  refine ⟨fun i m σ H => m = n - i ∧ i ≤ n ∧ Pv i σ H, ⟨n, by simp, Nat.zero_le _, h0⟩, ?_⟩
  rintro i m σ H ⟨rfl, hi, p⟩
  by_cases hlt : i < n
  · refine .inr ⟨hlt, Pv (i + 1), fun σ' H' p' => ⟨n - (i + 1), by omega, rfl, hlt, p'⟩, fun x H' y => ?_⟩
    obtain ⟨e, y⟩ := y
    subst e y
    exact hs i σ _ hlt p
  · have e : i = n := by omega
    subst e
    exact .inl ⟨Nat.le_refl _, hd σ H p⟩
/-- while, by a word and a measure of the state -/
theorem while_by {c : TT} {tb : TS} {D : Ends} {σ : St} {H : Hp} (Pv : St → Hp → Prop) (μ : St → Hp → Nat) (h0 : Pv σ H)
    (hs : ∀ σ H, Pv σ H → c σ H fun b H1 => if b = true then tb { D with nx := fun σ' H' => Pv σ' H' ∧ μ σ' H' < μ σ H, ct := fun σ' H' => Pv σ' H' ∧ μ σ' H' < μ σ H, bk := D.nx } σ H1 else D.nx σ H1)
    (mono : ∀ σ H Q Q', (∀ b H1, Q b H1 → Q' b H1) → c σ H Q → c σ H Q') : tWhile c tb D σ H := by
  refine ⟨fun m σ H => m = μ σ H ∧ Pv σ H, ⟨_, rfl, h0⟩, ?_⟩
  rintro m σ H ⟨rfl, p⟩
  refine mono σ H _ _ (fun b H1 q => ?_) (hs σ H p)
  cases b with
  | true => exact ⟨_, fun σ' H' ⟨p', l⟩ => ⟨_, l, rfl, p'⟩, q⟩
  | false => exact q
end L2

namespace L2
open PySem PySem.Spec PyProof.Rows

abbrev R2 := V → V → Hp → VK → Prop
/-- a two-place operation on values: f is binaryOp op, inplaceOp op or compareOp op -/
def OpR (X : Cx) (f : Value → Value → Sem Value) (r : R2) : Prop :=
  ∀ (pins : List (Addr × Obj)) (s : Shared) (σ : St) (H : Hp) (x y : V) (v u : Value) (Q : VK), Inv X pins σ H s → RelV x v → RelV y u → r x y H Q →
    wpAny (model X.prog X.w) X.A (f v u) (EP X pins σ Q) X.xe s
/-- a one-place operation -/
def UnR (X : Cx) (f : Value → Sem Value) (r : V → Hp → VK → Prop) : Prop :=
  ∀ (pins : List (Addr × Obj)) (s : Shared) (σ : St) (H : Hp) (x : V) (v : Value) (Q : VK), Inv X pins σ H s → RelV x v → r x H Q →
    wpAny (model X.prog X.w) X.A (f v) (EP X pins σ Q) X.xe s
/-- a call of a value that is known (a builtin, a type) with values -/
def CallR (X : Cx) (f : Value) (r : List V → Hp → VK → Prop) : Prop :=
  ∀ (pins : List (Addr × Obj)) (s : Shared) (σ : St) (H : Hp) (xs : List V) (us : List Value) (Q : VK), Inv X pins σ H s → Vals xs us → r xs H Q →
    wpAny (model X.prog X.w) X.A (call f us) (EP X pins σ Q) X.xe s
def tOp (r : R2) (ta tb : TE) : TE := fun σ H Q => ta σ H fun x H1 => tb σ H1 fun y H2 => r x y H2 Q
def tUn (r : V → Hp → VK → Prop) (ta : TE) : TE := fun σ H Q => ta σ H fun x H1 => r x H1 Q
/-- ints in, under C, and a value out -/
def rI (C : Int → Int → Prop) (g : Int → Int → V) : R2 := fun x y H Q => ∃ i j, x = .int i ∧ y = .int j ∧ C i j ∧ Q (g i j) H
def rI0 (g : Int → Int → V) : R2 := fun x y H Q => ∃ i j, x = .int i ∧ y = .int j ∧ Q (g i j) H
def rU (g : Int → V) : V → Hp → VK → Prop := fun x H Q => ∃ i, x = .int i ∧ Q (g i) H

section
variable {X : Cx} {a b c : Expr} {ta tb tc : TE} {pos : Pos}

theorem binT (ha : PE X a ta) (hb : PE X b tb) {pins : List (Addr × Obj)} {s : Shared} {σ : St} {H : Hp} {R : V → V → Hp → Prop} (I : Inv X pins σ H s)
    (h : ta σ H fun x H1 => tb σ H1 fun y H2 => R x y H2) {Q : Value → Shared → Prop} {f : Value → Value → Sem Value}
    (hf : ∀ v u s2 x y H2, Inv X pins σ H2 s2 → RelV x v → RelV y u → R x y H2 → wpAny (model X.prog X.w) X.A (f v u) Q X.xe s2) :
    wpAny (model X.prog X.w) X.A (eval a X.env) (fun v s₁ => wpAny (model X.prog X.w) X.A (eval b X.env) (fun u s₂ => wpAny (model X.prog X.w) X.A (f v u) Q X.xe s₂) X.xe s₁) X.xe s := by
  refine thn (ha pins s σ H _ I h) fun v s1 ⟨x, H1, I1, r1, q1⟩ => ?_
  refine thn (hb pins s1 σ H1 _ I1 q1) fun u s2 ⟨y, H2, I2, r2, q2⟩ => ?_
  exact hf v u s2 x y H2 I2 r1 r2 q2

theorem pe_op {op : Operator} {r : R2} (ho : OpR X (binaryOp op) r) (ha : PE X a ta) (hb : PE X b tb) : PE X (.BinOp a op b pos) (tOp r ta tb) := by
  intro pins s σ H Q I h
  exact wpAny_BinOp (binT ha hb I h fun v u s2 x y H2 I2 rx ry q => ho pins s2 σ H2 x y v u Q I2 rx ry q)
theorem pe_un {op : UnaryOp} {r : V → Hp → VK → Prop} (ho : UnR X (unaryOp op) r) (ha : PE X a ta) : PE X (.UnaryOp op a pos) (tUn r ta) := by
  intro pins s σ H Q I h
  exact UnaryOp_ (thn (ha pins s σ H _ I h) fun v s1 ⟨x, H1, I1, r1, q1⟩ => ho pins s1 σ H1 x v Q I1 r1 q1)
theorem opI {f : Value → Value → Sem Value} {C : Int → Int → Prop} {g : Int → Int → Int}
    (rule : ∀ (i j : Int) (t u : Tok) (s : Shared) (Q : Value → Shared → Prop) (E : Value → Shared → Prop), C i j → Q (.int (g i j) s.toks) { s with toks := s.toks + 1 } → wpAny (model X.prog X.w) X.A (f (.int i t) (.int j u)) Q E s) :
    OpR X f (rI C fun i j => .int (g i j)) := by
  intro pins s σ H x y v u Q I rx ry h
  obtain ⟨i, j, rfl, rfl, hc, q⟩ := h
  obtain ⟨t, rfl⟩ := rx
  obtain ⟨t', rfl⟩ := ry
  exact rule i j t t' s _ _ hc ⟨.int (g i j), H, I.tok _, ⟨_, rfl⟩, q⟩
theorem opI0 {f : Value → Value → Sem Value} {g : Int → Int → Int}
    (rule : ∀ (i j : Int) (t u : Tok) (s : Shared) (Q : Value → Shared → Prop) (E : Value → Shared → Prop), Q (.int (g i j) s.toks) { s with toks := s.toks + 1 } → wpAny (model X.prog X.w) X.A (f (.int i t) (.int j u)) Q E s) :
    OpR X f (rI0 fun i j => .int (g i j)) := by
  intro pins s σ H x y v u Q I rx ry h
  obtain ⟨i, j, rfl, rfl, q⟩ := h
  obtain ⟨t, rfl⟩ := rx
  obtain ⟨t', rfl⟩ := ry
  exact rule i j t t' s _ _ ⟨.int (g i j), H, I.tok _, ⟨_, rfl⟩, q⟩
theorem opB0 {f : Value → Value → Sem Value} {g : Int → Int → Bool}
    (rule : ∀ (i j : Int) (t u : Tok) (s : Shared) (Q : Value → Shared → Prop) (E : Value → Shared → Prop), Q (.bool (g i j)) s → wpAny (model X.prog X.w) X.A (f (.int i t) (.int j u)) Q E s) :
    OpR X f (rI0 fun i j => .bl (g i j)) := by
  intro pins s σ H x y v u Q I rx ry h
  obtain ⟨i, j, rfl, rfl, q⟩ := h
  obtain ⟨t, rfl⟩ := rx
  obtain ⟨t', rfl⟩ := ry
  exact rule i j t t' s _ _ ⟨.bl (g i j), H, I, rfl, q⟩

def CDiv (i j : Int) : Prop := 0 < j ∧ j < 1073741824
def CPow (i j : Int) : Prop := 0 ≤ j ∧ j ≤ 1000000 ∧ i.natAbs < 2 ^ 64
def CMul (i j : Int) : Prop := (-(2 ^ 64) < i ∧ i < 2 ^ 64) ∨ (-(2 ^ 64) < j ∧ j < 2 ^ 64)
theorem CMul.ok {i j : Int} (h : CMul i j) : IntMulOk i j := by
  rcases h with ⟨h1, h2⟩ | ⟨h1, h2⟩
  · exact .of_left (intBits_le_64 h1 h2)
  · exact .of_right (intBits_le_64 h1 h2)
theorem op_add : OpR X (binaryOp .Add) (rI0 fun i j => .int (i + j)) := opI0 fun _ _ _ _ _ _ _ q => add_int q
theorem op_sub : OpR X (binaryOp .Sub) (rI0 fun i j => .int (i - j)) := opI0 fun _ _ _ _ _ _ _ q => sub_int q
theorem op_mul : OpR X (binaryOp .Mult) (rI CMul fun i j => .int (i * j)) := opI fun _ _ _ _ _ _ _ hc q => mul_int q hc.ok
/-- // by a positive divisor -/
theorem op_fdiv : OpR X (binaryOp .FloorDiv) (rI CDiv fun i j => .int (i / j)) := opI fun i j _ _ _ _ _ hc q => by
  have h1 : (0 : Int) < j := hc.1
  have h2 : j < 1073741824 := hc.2
  exact floordiv_int (by omega) (by rw [Int.fdiv_eq_ediv_of_nonneg i (by omega)]; exact q) (.inl (PyProof.noPylong_small (by omega)))
/-- % by a positive divisor of any size -/
theorem op_mod : OpR X (binaryOp .Mod) (rI (fun _ j => 0 < j) fun i j => .int (i % j)) := opI fun i j _ _ _ _ _ hc q => by
  have h1 : (0 : Int) < j := hc
  exact mod_int' (by omega) (by rw [Int.fmod_eq_emod_of_nonneg i (by omega)]; exact q)
theorem op_pow : OpR X (binaryOp .Pow) (rI CPow fun i j => .int (i ^ j.toNat)) := opI fun _ _ _ _ _ _ _ hc q => pow_int_small hc.1 hc.2.1 hc.2.2 q
theorem iop_sub : OpR X (inplaceOp .Sub) (rI0 fun i j => .int (i - j)) := opI0 fun _ _ _ _ _ _ _ q => isub_int q
theorem unI {f : Value → Sem Value} {g : Int → Int}
    (rule : ∀ (i : Int) (t : Tok) (s : Shared) (Q : Value → Shared → Prop) (E : Value → Shared → Prop), Q (.int (g i) s.toks) { s with toks := s.toks + 1 } → wpAny (model X.prog X.w) X.A (f (.int i t)) Q E s) :
    UnR X f (rU fun i => .int (g i)) := by
  intro pins s σ H x v Q I rx h
  obtain ⟨i, rfl, q⟩ := h
  obtain ⟨t, rfl⟩ := rx
  exact rule i t s _ _ ⟨.int (g i), H, I.tok _, ⟨_, rfl⟩, q⟩
theorem un_neg : UnR X (unaryOp .USub) (rU fun i => .int (-i)) := unI fun _ _ _ _ _ q => neg_int q
end

/-- the scalars that == tells apart as data does -/
def scal : V → V → Bool
  | .non, .non => true | .non, .int _ => true | .int _, .non => true | .non, .bl _ => true | .bl _, .non => true | .non, .str _ => true | .str _, .non => true
  | .int _, .int _ => true | .bl _, .bl _ => true | .str _, .str _ => true | .byt _, .byt _ => true
  | .int _, .str _ => true | .str _, .int _ => true | .bl _, .str _ => true | .str _, .bl _ => true
  | _, _ => false
def rEq : R2 := fun x y H Q => scal x y = true ∧ Q (.bl (decide (x = y))) H
def rNe : R2 := fun x y H Q => scal x y = true ∧ Q (.bl (!decide (x = y))) H

theorem dec_int {i j : Int} : decide (V.int i = V.int j) = (i == j) := by
  rw [Bool.eq_iff_iff]
  simp
theorem dec_bl {i j : Bool} : decide (V.bl i = V.bl j) = (i == j) := by
  rw [Bool.eq_iff_iff]
  simp
theorem dec_str {i j : Str} : decide (V.str i = V.str j) = (i == j) := by
  rw [Bool.eq_iff_iff]
  simp
theorem dec_byt {i j : Array UInt8} : decide (V.byt i = V.byt j) = (i.toList == j.toList) := by
  rw [Bool.eq_iff_iff]
  cases i
  cases j
  simp

section
variable {X : Cx} {a b c : Expr} {ta tb tc : TE} {pos : Pos}
theorem fin_bl {pins : List (Addr × Obj)} {σ : St} {H : Hp} {s : Shared} {Q : VK} {k k' : Bool} (I : Inv X pins σ H s) (q : Q (.bl k) H) (e : k = k') : EP X pins σ Q (.bool k') s := by
  subst e
  exact ⟨.bl k, H, I, rfl, q⟩
theorem op_eq : OpR X (compareOp .Eq) rEq := by
  intro pins s σ H x y v u Q I rx ry h
  obtain ⟨hs, q⟩ := h
  cases x with
  | non =>
    cases rx
    cases y with
    | non => cases ry; exact PySem.EqNone.eq_none_none (fin_bl I q (by simp))
    | bl j => cases ry; exact PySem.EqNone.eq_none_bool (fin_bl I q (by simp))
    | int j => obtain ⟨t', rfl⟩ := ry; exact PySem.EqNone.eq_none_int (fin_bl I q (by simp))
    | str j => obtain ⟨t', rfl⟩ := ry; exact PySem.EqNone.eq_none_str (fin_bl I q (by simp))
    | _ => exact absurd (show false = true from hs) Bool.false_ne_true
  | bl i =>
    cases rx
    cases y with
    | non => cases ry; exact PySem.EqNone.eq_bool_none (fin_bl I q (by simp))
    | bl j => cases ry; exact eq_bool (fin_bl I q dec_bl)
    | str j => obtain ⟨t', rfl⟩ := ry; exact PySem.EqMixed.eq_bool_str (fin_bl I q (by simp))
    | _ => exact absurd (show false = true from hs) Bool.false_ne_true
  | int i =>
    obtain ⟨t, rfl⟩ := rx
    cases y with
    | non => cases ry; exact PySem.EqNone.eq_int_none (fin_bl I q (by simp))
    | int j => obtain ⟨t', rfl⟩ := ry; exact eq_int (fin_bl I q dec_int)
    | str j => obtain ⟨t', rfl⟩ := ry; exact PySem.EqMixed.eq_int_str (fin_bl I q (by simp))
    | _ => exact absurd (show false = true from hs) Bool.false_ne_true
  | str i =>
    obtain ⟨t, rfl⟩ := rx
    cases y with
    | non => cases ry; exact PySem.EqNone.eq_str_none (fin_bl I q (by simp))
    | bl j => cases ry; exact PySem.EqMixed.eq_str_bool (fin_bl I q (by simp))
    | int j => obtain ⟨t', rfl⟩ := ry; exact PySem.EqMixed.eq_str_int (fin_bl I q (by simp))
    | str j => obtain ⟨t', rfl⟩ := ry; exact eq_str (fin_bl I q dec_str)
    | _ => exact absurd (show false = true from hs) Bool.false_ne_true
  | byt i =>
    obtain ⟨t, rfl⟩ := rx
    cases y with
    | byt j => obtain ⟨t', rfl⟩ := ry; exact PySem.W.eq_bytes (fin_bl I q dec_byt)
    | _ => exact absurd (show false = true from hs) Bool.false_ne_true
  | _ => cases y <;> exact absurd (show false = true from hs) Bool.false_ne_true
theorem op_ne : OpR X (compareOp .NotEq) rNe := by
  intro pins s σ H x y v u Q I rx ry h
  obtain ⟨hs, q⟩ := h
  cases x with
  | non =>
    cases rx
    cases y with
    | non => cases ry; exact PySem.EqNone.ne_none_none (fin_bl I q (by simp))
    | bl j => cases ry; exact PySem.EqNone.ne_none_bool (fin_bl I q (by simp))
    | int j => obtain ⟨t', rfl⟩ := ry; exact PySem.EqNone.ne_none_int (fin_bl I q (by simp))
    | str j => obtain ⟨t', rfl⟩ := ry; exact PySem.EqNone.ne_none_str (fin_bl I q (by simp))
    | _ => exact absurd (show false = true from hs) Bool.false_ne_true
  | bl i =>
    cases rx
    cases y with
    | non => cases ry; exact PySem.EqNone.ne_bool_none (fin_bl I q (by simp))
    | bl j => cases ry; exact ne_bool (fin_bl I q (congrArg not dec_bl))
    | str j => obtain ⟨t', rfl⟩ := ry; exact PySem.EqMixed.ne_bool_str (fin_bl I q (by simp))
    | _ => exact absurd (show false = true from hs) Bool.false_ne_true
  | int i =>
    obtain ⟨t, rfl⟩ := rx
    cases y with
    | non => cases ry; exact PySem.EqNone.ne_int_none (fin_bl I q (by simp))
    | int j => obtain ⟨t', rfl⟩ := ry; exact ne_int (fin_bl I q (congrArg not dec_int))
    | str j => obtain ⟨t', rfl⟩ := ry; exact PySem.EqMixed.ne_int_str (fin_bl I q (by simp))
    | _ => exact absurd (show false = true from hs) Bool.false_ne_true
  | str i =>
    obtain ⟨t, rfl⟩ := rx
    cases y with
    | non => cases ry; exact PySem.EqNone.ne_str_none (fin_bl I q (by simp))
    | bl j => cases ry; exact PySem.EqMixed.ne_str_bool (fin_bl I q (by simp))
    | int j => obtain ⟨t', rfl⟩ := ry; exact PySem.EqMixed.ne_str_int (fin_bl I q (by simp))
    | str j => obtain ⟨t', rfl⟩ := ry; exact ne_str (fin_bl I q (congrArg not dec_str))
    | _ => exact absurd (show false = true from hs) Bool.false_ne_true
  | byt i =>
    obtain ⟨t, rfl⟩ := rx
    cases y with
    | byt j => obtain ⟨t', rfl⟩ := ry; exact PySem.W.ne_bytes (fin_bl I q (congrArg not dec_byt))
    | _ => exact absurd (show false = true from hs) Bool.false_ne_true
  | _ => cases y <;> exact absurd (show false = true from hs) Bool.false_ne_true

theorem op_lt : OpR X (compareOp .Lt) (rI0 fun i j => .bl (decide (i < j))) := opB0 fun _ _ _ _ _ _ _ q => lt_int q
theorem op_le : OpR X (compareOp .LtE) (rI0 fun i j => .bl (decide (i ≤ j))) := opB0 fun _ _ _ _ _ _ _ q => le_int q
theorem op_gt : OpR X (compareOp .Gt) (rI0 fun i j => .bl (decide (j < i))) := opB0 fun _ _ _ _ _ _ _ q => gt_int q
/-- the one string within the other -/
theorem op_in_str : OpR X (compareOp .In) (fun x y H Q => ∃ i j, x = .str i ∧ y = .str j ∧ Q (.bl (!(Builtin.Str.occurrences j i 0 j.length 1).isEmpty)) H) := by
  intro pins s σ H x y v u Q I rx ry h
  obtain ⟨i, j, rfl, rfl, q⟩ := h
  obtain ⟨t, rfl⟩ := rx
  obtain ⟨t', rfl⟩ := ry
  exact in_str (fin_bl I q rfl)

/-- two rules for one operation: by cases -/
theorem OpR.or {f : Value → Value → Sem Value} {r r' : R2} (h : OpR X f r) (h' : OpR X f r') : OpR X f (fun x y H Q => r x y H Q ∨ r' x y H Q) := by
  intro pins s σ H x y v u Q I rx ry q
  rcases q with q | q
  · exact h pins s σ H x y v u Q I rx ry q
  · exact h' pins s σ H x y v u Q I rx ry q

theorem nomark (b : Expr) {op : CmpOp} (h : op ≠ .In := by decide) (h2 : op ≠ .NotIn := by decide) : behindInMarks op b = false := by
  have e1 : (op == CmpOp.In) = false := by cases op <;> first | rfl | exact absurd rfl h
  have e2 : (op == CmpOp.NotIn) = false := by cases op <;> first | rfl | exact absurd rfl h2
  cases b <;> simp [behindInMarks, e1, e2]
/-- a comparison as a value; hm: nomark b, or (for in, not in) by with_unfolding_all rfl -/
theorem pe_cmpR {op : CmpOp} {r : R2} (ho : OpR X (compareOp op) r) (ha : PE X a ta) (hb : PE X b tb) (hm : behindInMarks op b = false) : PE X (.Compare a [op] [b] pos) (tOp r ta tb) := by
  intro pins s σ H Q I h
  exact wpAny_Compare1 (binT ha hb I h fun v u s2 x y H2 I2 rx ry q => ho pins s2 σ H2 x y v u Q I2 rx ry q) hm
/-- a reading of a value as a test -/
def tTest (t : TE) : TT := fun σ H Q => t σ H fun x H' => ∃ k, x = .bl k ∧ Q k H'
theorem pt_cmpR {op : CmpOp} {r : R2} (ho : OpR X (compareOp op) r) (ha : PE X a ta) (hb : PE X b tb) (hm : behindInMarks op b = false) : PT X (.Compare a [op] [b] pos) (tTest (tOp r ta tb)) := by
  intro pins s σ H Q I h
  refine wpAny_isTrue_Compare1 (thn (ha pins s σ H _ I h) fun v s1 ⟨x, H1, I1, r1, q1⟩ => thn (hb pins s1 σ H1 _ I1 q1) fun u s2 ⟨y, H2, I2, r2, q2⟩ =>
    thn (ho pins s2 σ H2 x y v u _ I2 r1 r2 q2) fun c s3 ⟨z, H3, I3, r3, k, e, q3⟩ => ?_) hm
  subst e
  cases r3
  exact wpAny_truthy_bool ⟨H3, I3, q3⟩
/-- a op1 b op2 c -/
def tChain (r r' : R2) (ta tb tc : TE) : TE := fun σ H Q => ta σ H fun x H1 => tb σ H1 fun y H2 => r x y H2 fun z H3 => ∃ k, z = .bl k ∧
  (if k = true then tc σ H3 fun w' H4 => r' y w' H4 Q else Q (.bl false) H3)
theorem pe_chain {op op' : CmpOp} {r r' : R2} (ho : OpR X (compareOp op) r) (ho' : OpR X (compareOp op') r') (ha : PE X a ta) (hb : PE X b tb) (hc : PE X c tc)
    (hm : lastMarks [op, op'] [b, c] = false := by with_unfolding_all rfl) : PE X (.Compare a [op, op'] [b, c] pos) (tChain r r' ta tb tc) := by
  intro pins s σ H Q I h
  refine Compare_chain (thn (ha pins s σ H _ I h) fun v s1 ⟨x, H1, I1, r1, q1⟩ => chain_link (thn (hb pins s1 σ H1 _ I1 q1) fun u s2 ⟨y, H2, I2, r2, q2⟩ =>
    thn (ho pins s2 σ H2 x y v u _ I2 r1 r2 q2) fun d s3 ⟨z, H3, I3, r3, k, e, q3⟩ => ?_)) hm
  subst e
  cases r3
  refine wpAny_truthy_bool ?_
  cases k with
  | false => exact ite_ff ⟨.bl false, H3, I3, rfl, q3⟩
  | true => exact ite_tt (chain_last (thn (hc pins s3 σ H3 _ I3 q3) fun w' s4 ⟨z', H4, I4, r4, q4⟩ => ho' pins s4 σ H4 y z' u w' Q I4 r2 r4 q4))
theorem pt_chain {op op' : CmpOp} {r r' : R2} (ho : OpR X (compareOp op) r) (ho' : OpR X (compareOp op') r') (ha : PE X a ta) (hb : PE X b tb) (hc : PE X c tc)
    (hm : lastMarks [op, op'] [b, c] = false := by with_unfolding_all rfl) : PT X (.Compare a [op, op'] [b, c] pos) (tTest (tChain r r' ta tb tc)) := by
  intro pins s σ H Q I h
  refine isTrue_chain (thn (ha pins s σ H _ I h) fun v s1 ⟨x, H1, I1, r1, q1⟩ => test_link (thn (hb pins s1 σ H1 _ I1 q1) fun u s2 ⟨y, H2, I2, r2, q2⟩ =>
    thn (ho pins s2 σ H2 x y v u _ I2 r1 r2 q2) fun d s3 ⟨z, H3, I3, r3, k, e, q3⟩ => ?_)) hm
  subst e
  cases r3
  refine wpAny_truthy_bool ?_
  cases k with
  | false =>
    obtain ⟨k', e', q'⟩ := q3
    cases e'
    exact ite_ff ⟨H3, I3, q'⟩
  | true =>
    refine ite_tt (test_last (thn (hc pins s3 σ H3 _ I3 q3) fun w' s4 ⟨z', H4, I4, r4, q4⟩ => thn (ho' pins s4 σ H4 y z' u w' _ I4 r2 r4 q4) fun d' s5 ⟨z2, H5, I5, r5, k2, e2, q5⟩ => ?_))
    subst e2
    cases r5
    exact wpAny_truthy_bool ⟨H5, I5, q5⟩

theorem line63 : (sizeLine : Nat) < 2 ^ 63 := by rw [sizeLine_eq]; decide
theorem op_add_str : OpR X (binaryOp .Add) (fun x y H Q => ∃ i j, x = .str i ∧ y = .str j ∧ i.length + j.length ≤ sizeLine ∧ Q (.str (i ++ j)) H) := by
  intro pins s σ H x y v u Q I rx ry h
  obtain ⟨i, j, rfl, rfl, hz, q⟩ := h
  obtain ⟨t, rfl⟩ := rx
  obtain ⟨t', rfl⟩ := ry
  exact add_str (fun t' tk => ⟨.str (i ++ j), H, I.tok _, ⟨_, rfl⟩, q⟩) hz
theorem vals1 {x : V} {us : List Value} (r : Vals [x] us) : ∃ u, us = [u] ∧ RelV x u := by
  cases r with
  | cons r1 r2 => cases r2; exact ⟨_, rfl, r1⟩
theorem vals2 {x y : V} {us : List Value} (r : Vals [x, y] us) : ∃ u w', us = [u, w'] ∧ RelV x u ∧ RelV y w' := by
  cases r with
  | cons r1 r2 =>
    cases r2 with
    | cons r3 r4 => cases r4; exact ⟨_, _, rfl, r1, r3⟩
theorem call_max2 (hc : X.calm = true) : CallR X (.builtin "max") (fun xs H Q => ∃ i j, xs = [.int i, .int j] ∧ Q (.int (if j > i then j else i)) H) := by
  intro pins s σ H xs us Q I r h
  obtain ⟨i, j, rfl, q⟩ := h
  obtain ⟨u, w', rfl, ⟨t, rfl⟩, ⟨t', rfl⟩⟩ := vals2 r
  refine max_two_ints (I.ok.hd hc) fun h' tk k => ⟨_, H, I.kept k, ?_, q⟩
  by_cases hj : j > i
  · rw [if_pos hj, if_pos hj]; exact ⟨_, rfl⟩
  · rw [if_neg hj, if_neg hj]; exact ⟨_, rfl⟩
/-- len of a str, a bytes, a list, a tuple -/
def LenV (K : PySem.W.Frag) (x : V) (H : Hp) (n : Nat) : Prop :=
  match x with
  | .str y => y.length ≤ sizeLine ∧ n = y.length
  | .byt y => y.size ≤ sizeLine ∧ n = y.size
  | .ref p => (∃ xs, SqL K H p xs ∧ n = xs.length) ∨ ∃ xs, SqT K H p xs ∧ n = xs.length
  | _ => False
theorem call_len : CallR X (.builtin "len") (fun xs H Q => ∃ x n, xs = [x] ∧ LenV X.K x H n ∧ Q (.int n) H) := by
  intro pins s σ H xs us Q I r h
  obtain ⟨x, n, rfl, e, q⟩ := h
  obtain ⟨u, rfl, rx⟩ := vals1 r
  have hl := line63
  have hs : sizeLine = 16777216 := sizeLine_eq
  cases x with
  | str y =>
    obtain ⟨t, rfl⟩ := rx
    obtain ⟨hy, e'⟩ : y.length ≤ sizeLine ∧ n = y.length := e
    subst e'
    exact len_str (by omega) ⟨.int _, H, I.tok _, ⟨_, rfl⟩, q⟩
  | byt y =>
    obtain ⟨t, rfl⟩ := rx
    obtain ⟨hy, e'⟩ : y.size ≤ sizeLine ∧ n = y.size := e
    subst e'
    exact PySem.W.len_bytes (by omega) ⟨.int _, H, I.tok _, ⟨_, rfl⟩, q⟩
  | ref p =>
    cases rx
    have e' : (∃ xs, SqL X.K H p xs ∧ n = xs.length) ∨ ∃ xs, SqT X.K H p xs ∧ n = xs.length := e
    rcases e' with ⟨xs, hx, e'⟩ | ⟨xs, hx, e'⟩
    · subst e'
      obtain ⟨its, r', pl, hz⟩ := I.list hx
      have hlen := r'.length
      exact Calls.call_len_list pl.isList (by simp only [List.size_toArray]; omega) ⟨.int xs.length, H, I.tok _, ⟨_, by simp only [List.size_toArray]; rw [hlen]⟩, q⟩
    · subst e'
      obtain ⟨its, r', pl, hz⟩ := I.tuple hx
      have hlen := r'.length
      exact len_tuple pl (by simp only [List.size_toArray]; omega) ⟨.int xs.length, H, I.tok _, ⟨_, by simp only [List.size_toArray]; rw [hlen]⟩, q⟩
  | _ => exact (show False from e).elim
end
end L2

namespace L2
open PySem PySem.Spec PyProof.Rows

structure ObjM (h : Heap) (x dx C : Addr) (mA : Str → Option Value) : Prop where
  obj : h.get? x = some (PySem.W.instObj C dx)
  ns : h.Ns1 dx mA
  ne : dx ≠ x

theorem lookIn_ns {h : Heap} {dx : Addr} {mA : Str → Option Value} (n : h.Ns1 dx mA) : ∃ od, h.get? dx = some od ∧ ∀ name, PySem.W.lookIn name od = some (mA name) := by
  obtain ⟨o, es, ep, ho, hd, hk, _, hm⟩ := n
  refine ⟨o, ho, fun name => ?_⟩
  have e := hm name
  unfold nsFind findBy at e
  rw [← Array.find?_toList] at e
  unfold PySem.W.lookIn
  rw [hd]
  dsimp only
  split
  · rename_i y q
    rw [q] at e
    exact congrArg some e
  · rename_i q
    rw [q] at e
    have a : es.toList.any (·.refKey) = false := by
      rw [List.any_eq_false]
      intro y hy
      obtain ⟨z, t, hkey⟩ := hk y (Array.mem_toList_iff.mp hy)
      simp [DictEntry.refKey, hkey]
    have a' : ¬ es.toList.any (·.refKey) = true := by rw [a]; exact Bool.false_ne_true
    rw [if_neg a']
    exact congrArg some e

theorem ObjM.look {h : Heap} {x dx C : Addr} {mA : Str → Option Value} (I : ObjM h x dx C mA) : ∃ od, PySem.W.InstAt h x (PySem.W.instObj C dx) C (some od) ∧ ∀ name, PySem.W.lookIn name od = some (mA name) :=
  let ⟨od, ho, hl⟩ := lookIn_ns I.ns
  ⟨od, ⟨I.obj, rfl, rfl, ho⟩, hl⟩

section
variable {prog : Program} {w : World} {A : Around} {E : Value → Shared → Prop} {s : Shared} {K : PySem.W.Frag} {x dx C f : Addr} {mA : Str → Option Value} {name : Str} {v : Value}

end

def putF (f : Str) (v : V) : List (Str × V) → List (Str × V)
  | [] => [(f, v)]
  | (g, x) :: r => if g = f then (g, v) :: r else (g, x) :: putF f v r
theorem lookup_putF (f g : Str) (v : V) : ∀ fs : List (Str × V), (putF f v fs).lookup g = if g = f then some v else fs.lookup g
  | [] => by
    show List.lookup g [(f, v)] = _
    by_cases h : g = f
    · have hb : (g == f) = true := beq_iff_eq.mpr h
      simp only [List.lookup, hb, if_pos h]
    · have hb : (g == f) = false := beq_eq_false_iff_ne.mpr h
      simp only [List.lookup, hb, if_neg h]
  | (k, x) :: r => by
    have ih := lookup_putF f g v r
    rw [show putF f v ((k, x) :: r) = (if k = f then (k, v) :: r else (k, x) :: putF f v r) from rfl]
    by_cases hk : k = f
    · rw [if_pos hk]
      by_cases h : g = k
      · have hb : (g == k) = true := beq_iff_eq.mpr h
        simp only [List.lookup, hb, if_pos (h.trans hk)]
      · have hb : (g == k) = false := beq_eq_false_iff_ne.mpr h
        simp only [List.lookup, hb, if_neg (fun e : g = f => h (e.trans hk.symm))]
    · rw [if_neg hk]
      by_cases h : g = k
      · have hb : (g == k) = true := beq_iff_eq.mpr h
        simp only [List.lookup, hb, if_neg (fun e : g = f => hk (h.symm.trans e))]
      · have hb : (g == k) = false := beq_eq_false_iff_ne.mpr h
        simp only [List.lookup, hb]
        exact ih
theorem RelO.some_of {v : V} {o : Option Value} (r : RelO (some v) o) : ∃ u, o = some u ∧ RelV v u := by
  cases o with
  | none => exact (show False from r).elim
  | some u => exact ⟨u, rfl, r⟩
theorem RelO.none_of {o : Option Value} (r : RelO none o) : o = none := by
  cases o with
  | none => rfl
  | some u => exact (show False from r).elim
theorem handed_of {v : V} {u : Value} (r : RelV v u) : PySem.W.handedIn u = true := by
  cases v with
  | non => cases (show u = Value.none from r); rfl
  | bl b => cases (show u = Value.bool b from r); rfl
  | int i => obtain ⟨t, e⟩ := (show ∃ t, u = Value.int i t from r); cases e; rfl
  | str x => obtain ⟨t, e⟩ := (show ∃ t, u = Value.str x t from r); cases e; rfl
  | byt b => obtain ⟨t, e⟩ := (show ∃ t, u = Value.bytes b t from r); cases e; rfl
  | flt b => obtain ⟨t, e⟩ := (show ∃ t, u = Value.float b t from r); cases e; rfl
  | ref a => cases (show u = Value.ref a from r); rfl
  | ty n => cases (show u = Value.type n from r); rfl

section
variable {P : Program} {w : World} {H H' : Hp} {h h' : Heap} {a C dx : Addr} {fs fs' : List (Str × V)}
theorem ins_get (hok : HOk P w H h) (e : H a = some (.ins C dx fs)) : ∃ mA, ObjM h a dx C mA ∧ (∀ f, RelO (fs.lookup f) (mA f)) ∧ PySem.Within mA (fs.map (·.1)) ∧ fs.length ≤ 1000 ∧ H dx = some (.own a) := by
  obtain ⟨d, z, ne, ob, mA, n, r, q⟩ := (show ObjOk P w H h a (.ins C dx fs) from hok a _ e)
  exact ⟨mA, ⟨ob, n, ne⟩, r, q, z, d⟩
end

structure Cls (K : PySem.W.Frag) (C : Addr) : Prop where
  pg : PySem.W.plainGet K C Str.empty = true
  hd : PySem.W.hasDictIn K C = true
  po : PySem.W.plainOver K C = true
  sa : PySem.W.findIn K (.ref C) "__setattr__" = some (some (.builtin "object.__setattr__"))
theorem Cls.get {K : PySem.W.Frag} {C : Addr} (c : Cls K C) (f : Str) : PySem.W.plainGet K C f = true := c.pg
/-- no class of it has the name -/
def NoAttr (K : PySem.W.Frag) (C : Addr) (f : Str) : Prop := PySem.W.findIn K (.ref C) f = some none
/-- a constant of the class -/
structure Con (K : PySem.W.Frag) (C : Addr) (f : Str) (v : V) (u : Value) : Prop where
  at_ : PySem.W.findIn K (.ref C) f = some (some u)
  rel : RelV v u
  get : PySem.W.specialIn K u "__get__" = some none
  cp : PySem.W.copiedNames.contains f = false
/-- a method: a plain def of the class or of one above it -/
structure Meth (K : PySem.W.Frag) (C : Addr) (m : Str) (f : Addr) : Prop where
  at_ : PySem.W.findIn K (.ref C) m = some (some (.ref f))
  fn : PySem.W.isFn K (.ref f) = true
  kp : PySem.W.keepIn K (.ref f) = true

section
variable {X : Cx} {pins : List (Addr × Obj)} {σ : St} {H : Hp} {s : Shared} {a C dx : Addr} {fs : List (Str × V)} {f : Str} {v : V} {A : Around} {E : Value → Shared → Prop}

/-- e.f where nothing but the object is asked: through attributeBase (super) and the last hold -/
theorem attr_of {prog : Program} {w : World} {env : Env} {e : Expr} {f : Str} {pos : Pos} {s : Shared} {Q : Value → Shared → Prop} (hb : attributeBase e f env (eval e env) = eval e env)
    (h : wpAny (model prog w) A (eval e env) (fun o s₁ => wpAny (model prog w) A (getAttr o f true) Q E s₁) E s) : wpAny (model prog w) A (eval (.Attribute e f pos) env) Q E s :=
  Attribute_any_ h (by rw [arm_eval_Attribute, hb])
end

section
variable {X : Cx} {o e value : Expr} {f : Str} {pos pos' tpos : Pos} {ta tv : TE}
end

section
variable {X : Cx} {pins : List (Addr × Obj)} {σ : St} {H : Hp} {s : Shared} {A : Around} {E : Value → Shared → Prop} {Q : Value → Shared → Prop} {c : Value} {b : Bool}
/-- the type of a value, as the fragment's deciders take it; for an instance its class -/
inductive TyOf (K : PySem.W.Frag) (H : Hp) : V → Value → Prop where
  | non : TyOf K H .non (.type "NoneType")
  | bl (x : Bool) : TyOf K H (.bl x) (.type "bool")
  | int (i : Int) : TyOf K H (.int i) (.type "int")
  | str (x : Str) : TyOf K H (.str x) (.type "str")
  | flt (x : UInt64) : TyOf K H (.flt x) (.type "float")
  | lst {a : Addr} {xs : List V} (e : H a = some (.lst xs)) : TyOf K H (.ref a) (.type "list")
  | frz {a : Addr} {o : Obj} {xs : List V} (e : H a = some (.frz o (.lst xs))) : TyOf K H (.ref a) (.type "list")
  | tup {a : Addr} {xs : List V} (e : H a = some (.tup xs)) : TyOf K H (.ref a) (.type "tuple")
  | dK {a : Addr} {kvs : List (Key × V)} (e : H a = some (.dK kvs)) : TyOf K H (.ref a) (.type "dict")
  | dT {a : Addr} {kvs : List (List Key × V)} (e : H a = some (.dT kvs)) : TyOf K H (.ref a) (.type "dict")
  | ins {a C dx : Addr} {fs : List (Str × V)} (e : H a = some (.ins C dx fs)) (cl : Cls K C) (ha : PySem.W.findIn K (.ref C) "__class__" = some (some (.builtin "object.__class__")))
      (hn : PySem.W.specialIn K (.builtin "object.__class__") "__get__" = some (some (.builtin "getset_descriptor.__get__"))) (htk : PySem.W.takesIn K (.builtin "object.__class__") = some true)
      (hm : PySem.W.mroIn K C (.type "object") = some true) : TyOf K H (.ref a) (.ref C)
/-- isinstance(x, c) for one class c, a built-in or an own one: kitOne's answer -/
theorem isinst_ok {x : V} {u t : Value} (I : Inv X pins σ H s) (rx : RelV x u) (ty : TyOf X.K H x t) (e : PySem.W.kitOne X.K t c = some b) (h : ∀ tk, Q (.bool b) { s with toks := tk }) :
    wpAny (model X.prog X.w) A (call (.builtin "isinstance") [u, c]) Q E s := by
  cases ty with
  | non => cases (show u = Value.none from rx); exact PySem.W.kia_one PySem.W.kitx_none I.kIn True.intro e (fun z => nomatch z) h
  | bl y => cases (show u = Value.bool y from rx); exact PySem.W.kia_one PySem.W.kitx_bool I.kIn True.intro e (fun z => nomatch z) h
  | int i => obtain ⟨t, q⟩ := (show ∃ t, u = Value.int i t from rx); cases q; exact PySem.W.kia_one PySem.W.kitx_int I.kIn True.intro e (fun z => nomatch z) h
  | str y => obtain ⟨t, q⟩ := (show ∃ t, u = Value.str y t from rx); cases q; exact PySem.W.kia_one PySem.W.kitx_str I.kIn True.intro e (fun z => nomatch z) h
  | flt y => obtain ⟨t, q⟩ := (show ∃ t, u = Value.float y t from rx); cases q; exact PySem.W.kia_one PySem.W.kitx_float I.kIn True.intro e (fun z => nomatch z) h
  | @lst a xs ea =>
    cases (show u = Value.ref a from rx)
    obtain ⟨_, _, n, _, h1⟩ := (show ObjOk X.prog X.w H s.heap a (.lst xs) from I.hok a _ ea)
    exact PySem.W.kia_one PySem.W.kitx_list I.kIn ⟨_, h1, rfl⟩ e (fun z => nomatch z) h
  | @frz a ob xs ea =>
    cases (show u = Value.ref a from rx)
    obtain ⟨_, _, _, n, _, h1⟩ := (show ObjOk X.prog X.w H s.heap a (.frz ob (.lst xs)) from I.hok a _ ea)
    exact PySem.W.kia_one PySem.W.kitx_list I.kIn ⟨_, h1, rfl⟩ e (fun z => nomatch z) h
  | @tup a xs ea =>
    cases (show u = Value.ref a from rx)
    obtain ⟨_, _, _, p⟩ := (show ObjOk X.prog X.w H s.heap a (.tup xs) from I.hok a _ ea)
    obtain ⟨o, h1, h2, _⟩ := p
    exact PySem.W.kia_one PySem.W.kitx_tuple I.kIn ⟨o, h1, h2⟩ e (fun z => nomatch z) h
  | @dK a kvs ea =>
    cases (show u = Value.ref a from rx)
    obtain ⟨_, _, vs, _, p⟩ := (show ObjOk X.prog X.w H s.heap a (.dK kvs) from I.hok a _ ea)
    obtain ⟨o, es, ep, h1, h2, _⟩ := p
    exact PySem.W.kia_one PySem.W.kitx_dict I.kIn ⟨o, h1, h2.1⟩ e (fun z => nomatch z) h
  | @dT a kvs ea =>
    cases (show u = Value.ref a from rx)
    obtain ⟨_, _, xs, _, o, es, ep, h1, h2, _⟩ := (show ObjOk X.prog X.w H s.heap a (.dT kvs) from I.hok a _ ea)
    exact PySem.W.kia_one PySem.W.kitx_dict I.kIn ⟨o, h1, h2.1⟩ e (fun z => nomatch z) h
  | @ins a C dx fs ea cl ha hn htk hm =>
    cases (show u = Value.ref a from rx)
    obtain ⟨mA, O, _⟩ := ins_get I.hok ea
    obtain ⟨od, J, _⟩ := O.look
    exact PySem.W.kia_one (PySem.W.kitx_own (cl.get _) cl.hd ha hn htk hm) I.kIn J e (fun z => nomatch z) h
end
end L2

namespace L2
open PySem PySem.Spec PyProof.Rows

structure Room (k : Nat) (A : Around) : Prop where
  hd : A.handled = none
  dp : A.depth + 3 * k + 5 < recursionLimit
  un : A.units + 16 * k + 200 < cLine
  gd : A.guards = some []
theorem Room.mono {j k : Nat} {A : Around} (r : Room k A) (h : j ≤ k) : Room j A := ⟨r.hd, by have := r.dp; omega, by have := r.un; omega, r.gd⟩
theorem Room.deeper {k : Nat} {A : Around} (r : Room (k + 1) A) (env : Env) : Room k (A.deeper env) :=
  ⟨r.hd, by have := r.dp; show A.depth + 1 + 3 * k + 5 < _; omega, by have := r.un; show A.units + 3 + 16 * k + 200 < _; omega, r.gd⟩
theorem make_depth {A : Around} {C : Addr} {us : List Value} {kw : List (Str × Value)} : (A.under (.builtin "type.__call__" ⟨.ref C :: us, kw⟩)).depth = A.depth + 1 := by
  first | rfl | simp [Around.under, Code.weight, Code.isCreation, Code.isGuard, Code.isCaller, Code.frames, Code.isFrame, guardIds]
theorem make_units {A : Around} {C : Addr} {us : List Value} {kw : List (Str × Value)} : (A.under (.builtin "type.__call__" ⟨.ref C :: us, kw⟩)).units = A.units + 1 := by
  first | rfl | simp [Around.under, Code.cUnits, Code.frames, Code.isFrame]
theorem make_guards {A : Around} {C : Addr} {us : List Value} {kw : List (Str × Value)} : (A.under (.builtin "type.__call__" ⟨.ref C :: us, kw⟩)).guards = pushGuards [] A.guards := by
  first | rfl | simp [Around.under, Code.guards, Code.isGuard, guardIds]
theorem Room.make {k : Nat} {A : Around} (r : Room (k + 1) A) (C : Addr) (us : List Value) (kw : List (Str × Value)) : Room k (A.under (.builtin "type.__call__" ⟨.ref C :: us, kw⟩)) :=
  ⟨r.hd, by have := r.dp; rw [make_depth]; omega, by have := r.un; rw [make_units]; omega, (make_guards.trans (by rw [r.gd]; rfl))⟩
theorem Room.depth {k : Nat} {A : Around} (r : Room k A) : A.depth < recursionLimit := by have := r.dp; omega
theorem Room.units {k : Nat} {A : Around} (r : Room k A) : A.units + 64 < cLine := by have := r.un; omega
theorem Room.units0 {k : Nat} {A : Around} (r : Room k A) : A.units < cLine := by have := r.un; omega

def tNil : TA := fun _ H Q => Q [] H
def tCons (ta : TE) (tr : TA) : TA := fun σ H Q => ta σ H fun x H1 => tr σ H1 fun xs H2 => Q (x :: xs) H2
section
variable {X : Cx} {e : Expr} {es : List Expr} {te : TE} {t : TA} {pos : Pos}
theorem pa_nil : PA X [] tNil := fun _ _ _ _ H Q I h => Calls.spliced_nil ⟨[], H, I, .nil, h⟩
theorem pa_cons (ha : PE X e te) (hr : PA X es t) (hs : starEach (e :: es) X.env = (false, eval e X.env) :: starEach es X.env := by rfl) : PA X (e :: es) (tCons te t) := by
  intro pos pins s σ H Q I h
  rw [hs]
  show wpAny _ _ (spliced ((false, eval e X.env) :: backTo pos (starEach es X.env))) _ _ s
  refine Calls.spliced_cons (thn (ha pins s σ H _ I h) fun u s1 ⟨x, H1, I1, r1, q1⟩ => ?_)
  exact thn (hr pos pins s1 σ H1 _ I1 q1) fun us s2 ⟨xs, H2, I2, r2, q2⟩ => ⟨x :: xs, H2, I2, .cons r1 r2, q2⟩

/-- a tuple, a list of written items -/
def tTup (t : TA) : TE := fun σ H Q => t σ H fun xs H1 => xs.length ≤ sizeLine ∧ ∀ p, H1 p = none → Q (.ref p) (upd H1 p (.tup xs))
def tLst (t : TA) : TE := fun σ H Q => t σ H fun xs H1 => xs.length ≤ sizeLine ∧ ∀ p, H1 p = none → Q (.ref p) (upd H1 p (.lst xs))
theorem pe_tup {x1} (h : PA X es t) : PE X (.Tuple es x1 pos) (tTup t) := by
  intro pins s σ H Q I hq
  refine wpAny_Tuple_spliced (thn (h pos pins s σ H _ I hq) fun us s1 ⟨xs, H1, I1, r, z, q⟩ => ⟨by rw [← r.length]; exact z, ?_⟩)
  have hf : H1 s1.heap.objs.size = none := I1.hok.fresh (Nat.le_refl _)
  refine ⟨.ref s1.heap.objs.size, upd H1 s1.heap.objs.size (.tup xs), I1.laid (t' := s1.toks) (fun b u e => Heap.get?_push_of_some _ e) (Nat.le_refl _) ?_, rfl, q _ hf⟩
  exact ⟨z, us, r, ⟨_, Heap.get?_push_size _ rfl, rfl, _, rfl⟩⟩
theorem pe_lst (h : PA X es t) : PE X (.List es pos) (tLst t) := by
  intro pins s σ H Q I hq
  refine wpAny_List_spliced (thn (h pos pins s σ H _ I hq) fun us s1 ⟨xs, H1, I1, r, z, q⟩ => ⟨by rw [← r.length]; exact z, ?_⟩)
  have hf : H1 s1.heap.objs.size = none := I1.hok.fresh (Nat.le_refl _)
  refine ⟨.ref s1.heap.objs.size, upd H1 s1.heap.objs.size (.lst xs), I1.laid (t' := s1.toks) (fun b u e => Heap.get?_push_of_some _ e) (Nat.le_refl _) ?_, rfl, q _ hf⟩
  exact ⟨z, us, 0, r, Heap.get?_push_size _ rfl⟩
end

/-- a def's promise: the bound arguments in the parameters' order, the heap, the wanted end, the wanted exception -/
abbrev Sp := List V → Hp → VK → XK → Prop
/-- how an exception lies behind a call (file 08 gives it): the callers' frames, abstract heap and state ahead of the call, the wish, the exception, the state -/
abbrev CXT := List Env → Hp → Shared → XK → Value → Shared → Prop

/-- the state at a call -/
structure Env0 (P : Program) (w : World) (K : PySem.W.Frag) (mg : Str → Option Value) (base : Heap) (A : Around) (outer : List Env) (s : Shared) (H : Hp) : Prop where
  frames : A.frames = some outer
  mod : Mod K mg base
  bs : ∀ b o, base.get? b = some o → s.heap.get? b = some o ∧ H b = none
  bsz : base.objs.size ≤ s.heap.objs.size
  funs : s.heap.FunFrames base outer
  frf : ∀ b ∈ frs outer, H b = none
  hok : HOk P w H s.heap
  bare : AllBare s.gens
/-- a call's end -/
def CE (outer : List Env) (P : Program) (w : World) (H : Hp) (s : Shared) (Q : VK) (u : Value) (s' : Shared) : Prop :=
  ∃ v H', s'.os = s.os ∧ AllBare s'.gens ∧ Un (frs outer) [] H H' s.heap s'.heap ∧ HOk P w H' s'.heap ∧ RelV v u ∧ Q v H'
def CR (CX : CXT) (outer : List Env) (P : Program) (w : World) (H : Hp) (s : Shared) (Q : VK) (E : XK) (r : Result) (s' : Shared) : Prop :=
  match r with
  | .ok (.ret u) => CE outer P w H s Q u s'
  | .ok _ => False
  | .error e => CX outer H s E e s'
structure FnOk (P : Program) (w : World) (K : PySem.W.Frag) (mg : Str → Option Value) (base : Heap) (CX : CXT) (k : Nat) (f : Addr) (fd : FuncData) (ps : List Str) (sp : Sp) : Prop where
  len : ∀ vs H Q E, sp vs H Q E → vs.length = ps.length
  run : ∀ (A : Around) (outer : List Env) (s : Shared) (H : Hp) (args : Args) (us : List Value) (vs : List V) (Q : VK) (E : XK), Room k A → Env0 P w K mg base A outer s H → BindsTo s fd args (ps.zip us) → Vals vs us → sp vs H Q E →
    codeAny (model P w) A (.call (.ref f) args) (CR CX outer P w H s Q E) s
theorem Env0.make {P : Program} {w : World} {K : PySem.W.Frag} {mg : Str → Option Value} {base : Heap} {A : Around} {outer : List Env} {s : Shared} {H : Hp} (e : Env0 P w K mg base A outer s H) (C : Addr) (us : List Value) (kw : List (Str × Value)) :
    Env0 P w K mg base (A.under (.builtin "type.__call__" ⟨.ref C :: us, kw⟩)) outer s H := ⟨by first | exact e.frames | (simpa [Around.under, Code.envs, Code.isFrame, pushEnvs] using e.frames), e.mod, e.bs, e.bsz, e.funs, e.frf, e.hok, e.bare⟩
section
variable {X : Cx} {pins : List (Addr × Obj)} {σ : St} {H : Hp} {s s' : Shared}
/-- from a body: what a callee wants -/
theorem Inv.env0 (I : Inv X pins σ H s) : Env0 X.prog X.w X.K X.mg X.base X.A X.stack s H :=
  ⟨I.ok.frames, I.ok.mod, I.bs, Nat.le_trans I.ok.bsz I.sz, I.stack, I.stkFree, I.hok, I.bare⟩
/-- behind a call -/
theorem Inv.after {Q : VK} {u : Value} (I : Inv X pins σ H s) (h : CE X.stack X.prog X.w H s Q u s') : EP X pins σ Q u s' := by
  obtain ⟨v, H', os, bare, un, hok, r, q⟩ := h
  obtain ⟨hh, g, d, t, os'⟩ := s'
  obtain rfl : os' = s.os := os
  exact ⟨v, H', I.call (h' := hh) (g' := g) (d' := d) (t' := t) (ch := []) un hok bare (fun b z => absurd z (by simp)), r, q⟩
end

/-- f(..): the written arguments, then the defaults dvs; E: what is wanted of an exception -/
def tCall (sp : Sp) (dvs : List V) (E : XK) (t : TA) : TE := fun σ H Q => t σ H fun vs H1 => sp (vs ++ dvs) H1 Q E
/-- how the parameters are bound: us the positional arguments, kw the keywords' values by name, ds the defaults that fill up -/
def Binds (K : PySem.W.Frag) (fd : FuncData) (ps : List Str) (ds : List Value) : Prop :=
  ∀ (s : Shared) (us : List Value), K.In s.heap → (us ++ ds).length = ps.length → BindsTo s fd ⟨us, []⟩ (ps.zip (us ++ ds))
/-- every parameter is given -/
theorem Binds.all {K : PySem.W.Frag} {fd : FuncData} {ps : List Str} (h : ∀ us : List Value, us.length = ps.length → bindArgs fd ⟨us, []⟩ = pure (ps.zip us)) : Binds K fd ps [] := fun s us _ hl => by
  rw [List.append_nil] at hl ⊢
  exact .of_eq (h us hl)

/-- an exception of a callee reaches what this body wants of exceptions -/
def Passes (CX : CXT) (X : Cx) (E : XK) : Prop := ∀ (pins : List (Addr × Obj)) (σ : St) (H : Hp) (s : Shared) (e : Value) (s' : Shared), Inv X pins σ H s → CX X.stack H s E e s' → X.xe e s'

section
variable {X : Cx} {CX : CXT} {k : Nat} {f C : Addr} {fd : FuncData} {ps : List Str} {sp : Sp} {dvs : List V} {ds : List Value} {E : XK} {x m : Str} {p pos apos : Pos} {e o : Expr} {es : List Expr} {ta : TE} {t : TA}

/-- the callee runs -/
theorem run_fn {pins : List (Addr × Obj)} {σ : St} {H : Hp} {s : Shared} {Q : VK} {us : List Value} {vs : List V} (F : FnOk X.prog X.w X.K X.mg X.base CX k f fd ps sp) (hr : Room k X.A) (hb : Binds X.K fd ps ds) (hd : Vals dvs ds) (hx : Passes CX X E)
    (I : Inv X pins σ H s) (r : Vals vs us) (h : sp (vs ++ dvs) H Q E) : wpAny (model X.prog X.w) X.A (call (.ref f) us) (EP X pins σ Q) X.xe s := by
  have r2 : Vals (vs ++ dvs) (us ++ ds) := r.append hd
  have hl : (us ++ ds).length = ps.length := by rw [← r2.length]; exact F.len _ _ _ _ h
  refine wpAny_call (codeAny_mono (F.run X.A X.stack s H ⟨us, []⟩ (us ++ ds) (vs ++ dvs) Q E hr I.env0 (hb s us I.kIn hl) r2 h) fun r s' hq => ?_)
  cases r with
  | error e => exact hx pins σ H s e s' I hq
  | ok fl =>
    cases fl with
    | ret u => exact I.after hq
    | next => exact False.elim hq
    | brk => exact False.elim hq
    | cont => exact False.elim hq

theorem pe_call (F : FnOk X.prog X.w X.K X.mg X.base CX k f fd ps sp) (hr : Room k X.A) (hg : Gl X x) (hm : X.mg x = some (.ref f)) (hk : PySem.W.keepIn X.K (.ref f) = true) (hb : Binds X.K fd ps ds) (hd : Vals dvs ds) (hx : Passes CX X E)
    (ha : PA X (e :: es) t) (hdb : (x == ("__debug__" : Str)) = false := by decide) (he : starEach (e :: es) X.env = (false, eval e X.env) :: starEach es X.env := by rfl) (hpl : (backTo pos (starEach es X.env)).any (·.1) = false := by rfl) :
    PE X (.Call (.Name x p) (e :: es) [] pos) (tCall sp dvs E t) := by
  intro pins s σ H Q I h
  refine wpAny_Call_Name_kw (ld_glob I hg hm ?_ hdb)
  refine PySem.W.callWith_K (h₀ := X.base) I.ok.mod.kin hk (thn (ha pos pins s σ H _ I h) fun us s1 ⟨vs, H1, I1, r, q⟩ => ⟨I1.kIn, ?_⟩) he hpl
  exact run_fn F hr hb hd hx I1 r q
/-- what a class must have to be made -/
structure Mk (K : PySem.W.Frag) (C f : Addr) : Prop where
  makes : PySem.W.makesIn K C = true
  init : PySem.W.findIn K (.ref C) "__init__" = some (some (.ref f))
  fn : PySem.W.isFn K (.ref f) = true
  kp : PySem.W.keepIn K (.ref C) = true

end

section
variable {X : Cx} {CX : CXT} {k : Nat} {f C : Addr} {fd : FuncData} {ps ks : List Str} {sp : Sp} {E : XK} {x m : Str} {p pos apos kpos : Pos} {e o : Expr} {es : List Expr} {kws : List Keyword} {te ta : TE} {t tk : TA} {nm : Option Str}
/-- how a call with keywords binds: g puts the positional values us and the keywords' values ws (names ks) in the parameters' order, defaults among them -/
structure KBinds (K : PySem.W.Frag) (fd : FuncData) (ps ks : List Str) (g : List Value → List Value → List Value) (gV : List V → List V → List V) : Prop where
  to : ∀ (s : Shared) (us ws : List Value), K.In s.heap → (g us ws).length = ps.length → BindsTo s fd ⟨us, ks.zip ws⟩ (ps.zip (g us ws))
  rel : ∀ {vs : List V} {us : List Value} {zs : List V} {ws : List Value}, Vals vs us → Vals zs ws → Vals (gV vs zs) (g us ws)
variable {g : List Value → List Value → List Value} {gV : List V → List V → List V}
end

/-- names: the parameters first -/
structure FnScope (N P : List Str) (sc : Scope) : Prop where
  kind : sc.kind = .function
  co : sc.isCoroutine = false
  gen : sc.isGenerator = false
  nd : N.Nodup
  pre : N.take P.length = P
  par : ∀ x ∈ P, sc.names.lookup x = some .local ∨ sc.names.lookup x = some .cell
  nofree : ∀ y ∈ sc.names, y.2 ≠ .free

theorem bindL_out {kindOf : Str → Option NameKind} {x : Str} : ∀ {binds : List (Str × Value)} {m : Str → Option Value}, (∀ v, (x, v) ∉ binds) → bindL kindOf binds m x = m x
  | [], _, _ => rfl
  | (n, v) :: r, m, h => by
    unfold bindL
    rw [bindL_out fun w hw => h w (List.mem_cons_of_mem _ hw)]
    split
    · have : x ≠ n := by rintro rfl; exact h v List.mem_cons_self
      simp [this]
    · rfl
theorem bindC_out {kindOf : Str → Option NameKind} {x : Str} : ∀ {binds : List (Str × Value)} {m : Str → Option Value}, (∀ v, (x, v) ∉ binds) → bindC kindOf binds m x = m x
  | [], _, _ => rfl
  | (n, v) :: r, m, h => by
    unfold bindC
    rw [bindC_out fun w hw => h w (List.mem_cons_of_mem _ hw)]
    split
    · rfl
    · have : x ≠ n := by rintro rfl; exact h v List.mem_cons_self
      simp [this]
theorem bindL_get {kindOf : Str → Option NameKind} {x : Str} {v : Value} : ∀ {P : List Str} {vs : List Value} {i : Nat} {m : Str → Option Value}, P.Nodup → P[i]? = some x → vs[i]? = some v → kindOf x = some .local →
    bindL kindOf (P.zip vs) m x = some v
  | [], _, _, _, _, h, _, _ => by simp at h
  | _ :: _, [], _, _, _, _, h, _ => by simp at h
  | p :: P, w :: vs, 0, m, nd, h1, h2, hk => by
    simp at h1 h2; subst h1; subst h2
    show bindL kindOf ((p, w) :: P.zip vs) m p = _
    unfold bindL
    rw [bindL_out fun v hv => (List.nodup_cons.mp nd).1 (List.of_mem_zip hv).1, if_pos hk]
    simp
  | p :: P, w :: vs, i + 1, m, nd, h1, h2, hk => by
    show bindL kindOf ((p, w) :: P.zip vs) m x = _
    unfold bindL
    exact bindL_get (i := i) (List.nodup_cons.mp nd).2 (by simpa using h1) (by simpa using h2) hk
theorem bindC_get {kindOf : Str → Option NameKind} {x : Str} {v : Value} : ∀ {P : List Str} {vs : List Value} {i : Nat} {m : Str → Option Value}, P.Nodup → P[i]? = some x → vs[i]? = some v → kindOf x ≠ some .local →
    bindC kindOf (P.zip vs) m x = some v
  | [], _, _, _, _, h, _, _ => by simp at h
  | _ :: _, [], _, _, _, _, h, _ => by simp at h
  | p :: P, w :: vs, 0, m, nd, h1, h2, hk => by
    simp at h1 h2; subst h1; subst h2
    show bindC kindOf ((p, w) :: P.zip vs) m p = _
    unfold bindC
    rw [bindC_out fun v hv => (List.nodup_cons.mp nd).1 (List.of_mem_zip hv).1, if_neg hk]
    simp
  | p :: P, w :: vs, i + 1, m, nd, h1, h2, hk => by
    show bindC kindOf ((p, w) :: P.zip vs) m x = _
    unfold bindC
    exact bindC_get (i := i) (List.nodup_cons.mp nd).2 (by simpa using h1) (by simpa using h2) hk

/-- the names' values at the entry -/
def start (N : List Str) (vs : List V) : St := vs.map some ++ List.replicate (N.length - vs.length) none

/-- the context of a def's body, at its entry; an exception leaves the frame, then lies as CX says -/
def cxOf (CX : CXT) (P : Program) (w : World) (K : PySem.W.Frag) (mg : Str → Option Value) (base : Heap) (N : List Str) (qual : Str) (scope : Scope) (f : Addr) (cd : Value) (A : Around) (outer : List Env) (s : Shared) (H : Hp) (E : XK) : Cx where
  prog := P
  w := w
  K := K
  mg := mg
  base := base
  A := A.deeper (envOfC qual scope s.heap.objs.size f cd)
  N := N
  s₀ := s
  H₀ := H
  env := envOfC qual scope s.heap.objs.size f cd
  outer := outer
  stack := envOfC qual scope s.heap.objs.size f cd :: outer
  ex := []
  calm := true
  fn := fun _ => true
  pn := []
  xe := fun e s' => wpAny (model P w) (A.deeper (envOfC qual scope s.heap.objs.size f cd)) (leaving (envOfC qual scope s.heap.objs.size f cd) e) (fun _ s'' => CX outer H s E e s'') (fun e' s'' => CX outer H s E e' s'') s'

theorem cell_has {sc : Scope} {n : Nat} {x : Str} (h : sc.names.lookup x = some .cell) : ∃ c, (cellsFrom n sc.names []).lookup x = some c := by
  have q := PySem.W.cellsFrom_some sc.names n [] (.inl h)
  exact Option.isSome_iff_exists.mp q

theorem inv_start {CX : CXT} {P : Program} {w : World} {K : PySem.W.Frag} {mg : Str → Option Value} {base : Heap} {N ps : List Str} {qual : Str} {scope : Scope} {f : Addr} {cd : Value} {A : Around} {outer : List Env} {s s1 : Shared} {H : Hp} {E : XK} {us : List Value} {vs : List V}
    (S : FnScope N ps scope) (hd : A.handled = none) (e0 : Env0 P w K mg base A outer s H) (hl : vs.length = ps.length) (r : Vals vs us)
    (x : InCallC s s.heap.objs.size (bindL (envOfC qual scope s.heap.objs.size f cd).kindOf (ps.zip us) fun _ => none) (cellsFrom (s.heap.objs.size + 1) scope.names []) (bindC (envOfC qual scope s.heap.objs.size f cd).kindOf (ps.zip us) fun _ => none) s1) :
    Inv (cxOf CX P w K mg base N qual scope f cd A outer s H E) [] (start N vs) H s1 := by
  have hpl : ps.length ≤ N.length := by have := congrArg List.length S.pre; rw [List.length_take] at this; omega
  obtain ⟨h1, tk, rfl, hk⟩ := x.done
  have noA : ∀ b : Addr, b ∉ (cxOf CX P w K mg base N qual scope f cd A outer s H E).ex := fun b z => absurd (show b ∈ ([] : List Addr) from z) (by simp)
  refine ⟨⟨e0.mod, S.kind, rfl, rfl, Nat.le_refl _, fun y z c h1 h2 => ?_, fun y hy => ?_, fun y c _ h => ?_, fun _ => hd, Around.frames_deeper e0.frames, .inr ⟨rfl, rfl⟩, fun b z => absurd z (noA b), e0.bs, e0.bsz, fun b _ _ => noA b, fun b z => absurd z (noA b), e0.funs, e0.frf⟩,
    rfl, e0.bare, Un.kept hk, ⟨_, x.toInCall.ns, fun i y v h1 h2 h3 => ?_⟩, fun y c h => ⟨_, x.cell y c h⟩, e0.hok.fresh (Nat.le_refl _), fun y c h => ?_, fun p hp => absurd (show p ∈ ([] : List (Addr × Obj)) from hp) (by simp), e0.hok.kept hk, ?_⟩
  · exact name_of_addr x.apart (PySem.mem_of_lookup h1) (PySem.mem_of_lookup h2)
  · have hy : scope.names.lookup y = some .cell ∨ scope.names.lookup y = some .free := hy
    rcases hy with hy | hy
    · exact cell_has hy
    · exact absurd rfl (S.nofree _ (PySem.mem_of_lookup hy))
  · exact Nat.le_of_lt (x.above y c (PySem.mem_of_lookup h))
  · have hi : i < vs.length := by
      unfold start at h2
      by_cases hi : i < vs.length
      · exact hi
      · rw [List.getElem?_append_right (by simpa using hi)] at h2
        rw [List.getElem?_replicate] at h2
        split at h2 <;> cases h2
    have ha : vs[i]? = some v := by
      unfold start at h2
      rw [List.getElem?_append_left (by simpa using hi), List.getElem?_map] at h2
      cases e : vs[i]? with
      | none => rw [e] at h2; cases h2
      | some a => rw [e] at h2; cases h2; rfl
    obtain ⟨u, hu, rv⟩ := r.get ha
    have hp : ps[i]? = some y := by
      rw [← S.pre, List.getElem?_take_of_lt (by omega)]; exact h1
    have ndP : ps.Nodup := by rw [← S.pre]; exact S.nd.sublist (List.take_sublist _ _)
    refine ⟨u, rv, ?_⟩
    rcases S.par y (List.mem_of_getElem? hp) with k | k
    · exact .inl ⟨k, bindL_get ndP hp hu k⟩
    · obtain ⟨c, e⟩ := cell_has (n := s.heap.objs.size + 1) k
      refine .inr ⟨.inl k, c, e, ?_⟩
      have q := x.cell y c e
      rw [bindC_get ndP hp hu (by show scope.names.lookup y ≠ _; rw [k]; decide)] at q
      exact q
  · exact e0.hok.fresh (Nat.le_of_lt (x.above y c (PySem.mem_of_lookup h)))
  · unfold start
    show _ = N.length
    rw [List.length_append, List.length_map, List.length_replicate]
    omega

/-- THE RULE: a def (or a method) of the text, by its body. The body's reading t is chosen for each entry; it is run at the parameters' values -/
theorem fn_of {CX : CXT} {P : Program} {w : World} {K : PySem.W.Frag} {mg : Str → Option Value} {base : Heap} {k : Nat} {f : Addr} {name qual : Str} {params : Arguments} {body : List Stmt} {scope : Scope} {dV kV doc pm cdv ct oc : Value} {an od : Option Addr}
    {osl : Array (Option Value)} {N ps : List Str} {sp : Sp} (lk : K.lookup f = some ⟨oc, od, .func (PySem.W.fnOf name qual params body scope dV kV doc pm an cdv ct), osl⟩) (hcd : PySem.W.codeIn K cdv qual = true) (S : FnScope N ps scope)
    (len : ∀ vs H Q E, sp vs H Q E → vs.length = ps.length)
    (hbody : ∀ (A : Around) (outer : List Env) (s : Shared) (H : Hp) (vs : List V) (Q : VK) (E : XK), Room k (A.deeper (envOfC qual scope s.heap.objs.size f cdv)) → sp vs H Q E →
      ∃ t, PSs (cxOf CX P w K mg base N qual scope f cdv A outer s H E) body t ∧ t { nx := fun _ H' => Q .non H', rt := Q } (start N vs) H) :
    FnOk P w K mg base CX (k + 1) f (PySem.W.fnOf name qual params body scope dV kV doc pm an cdv ct) ps sp := by
  refine ⟨len, fun A outer s H args us vs Q E hr e0 hb r hsp => ?_⟩
  have hl := len _ _ _ _ hsp
  have KX : K.In s.heap := e0.mod.kin.keeps fun b o e => (e0.bs b o e).1
  have lim : s.heap.NoLimit := e0.mod.nolimit.keeps fun b o e => (e0.bs b o e).1
  have hkind : ∀ y ∈ ps.zip us, scope.names.lookup y.1 = some .local ∨ (scope.names.lookup y.1 = some .cell ∧ ((cellsFrom (s.heap.objs.size + 1) scope.names []).lookup y.1).isSome = true) := fun ⟨n, v⟩ hy => by
    rcases S.par n (List.of_mem_zip hy).1 with q | q
    · exact .inl q
    · exact .inr ⟨q, PySem.W.cellsFrom_some _ _ _ (.inl q)⟩
  refine codeAny_call_function hr.depth (KX _ _ lk) rfl S.co S.gen rfl (PySem.W.codeRec_of KX hcd) (hb _ _ _ _ ?_)
  refine wpAny_newFunctionEnv_cells S.kind hkind fun env he s1 x => ?_
  subst he
  refine ⟨lim.keeps x.toInCall.keep, codeAny_func ?_⟩
  obtain ⟨t, ht, hq⟩ := hbody A outer s H vs Q E (hr.deeper _) hsp
  have I : Inv (cxOf CX P w K mg base N qual scope f cdv A outer s H E) [] (start N vs) H s1 := inv_start S hr.hd e0 hl r x
  refine wpAny_mono (ht [] s1 (start N vs) H _ I hq) (fun fl s' hs => ?_) fun e s' hs => hs
  have fin : ∀ {σ' : St} {H' : Hp} {v : V} {u : Value}, Inv (cxOf CX P w K mg base N qual scope f cdv A outer s H E) [] σ' H' s' → RelV v u → Q v H' → CE outer P w H s Q u s' :=
    fun {σ' H' v u} J rv q => ⟨v, H', J.os, J.bare, J.base, J.hok, rv, q⟩
  cases fl with
  | ret u =>
    obtain ⟨v, σ', H', J, rv, q⟩ := hs
    exact fin J rv q
  | next =>
    obtain ⟨σ', H', J, q⟩ := hs
    exact fin (v := V.non) (u := Value.none) J rfl q
  | brk =>
    obtain ⟨_, _, _, q⟩ := hs
    exact False.elim q
  | cont =>
    obtain ⟨_, _, _, q⟩ := hs
    exact False.elim q
end L2

namespace L2
open PySem PySem.Spec PyProof.Rows
section
variable {X : Cx} {x : Str} {p pos : Pos} {e : Expr} {es : List Expr} {t : TA} {id T : String} {r : List V → Hp → VK → Prop}

def tCB (r : List V → Hp → VK → Prop) (t : TA) : TE := fun σ H Q => t σ H fun vs H1 => r vs H1 Q
/-- f(e, ..), f a built-in function -/
theorem pe_callB (hc : CallR X (.builtin id) r) (hg : Gl X x) (hm : X.mg x = none) (hv : bootBuiltins x = some (.builtin id)) (ha : PA X (e :: es) t) (hn : x ≠ "__name__" := by decide) (hdb : (x == ("__debug__" : Str)) = false := by decide)
    (he : starEach (e :: es) X.env = (false, eval e X.env) :: starEach es X.env := by rfl) (hpl : (backTo pos (starEach es X.env)).any (·.1) = false := by rfl) : PE X (.Call (.Name x p) (e :: es) [] pos) (tCB r t) := by
  intro pins s σ H Q I h
  refine wpAny_Call_Name_kw (ld_blt I hg hm hv ?_ hn hdb)
  exact PyProof.Rows.callWith_builtin1 (thn (ha pos pins s σ H _ I h) fun us s1 ⟨vs, H1, I1, r1, q1⟩ => hc pins s1 σ H1 vs us Q I1 r1 q1) he hpl
/-- T(e, ..), T a built-in type -/
theorem pe_callTy (hc : CallR X (.type T) r) (hg : Gl X x) (hm : X.mg x = none) (hv : bootBuiltins x = some (.type T)) (ha : PA X (e :: es) t) (hn : x ≠ "__name__" := by decide) (hdb : (x == ("__debug__" : Str)) = false := by decide)
    (he : starEach (e :: es) X.env = (false, eval e X.env) :: starEach es X.env := by rfl) (hpl : (backTo pos (starEach es X.env)).any (·.1) = false := by rfl) : PE X (.Call (.Name x p) (e :: es) [] pos) (tCB r t) := by
  intro pins s σ H Q I h
  refine wpAny_Call_Name_kw (ld_blt I hg hm hv ?_ hn hdb)
  exact PyProof.Rows.callWith_type1 (thn (ha pos pins s σ H _ I h) fun us s1 ⟨vs, H1, I1, r1, q1⟩ => hc pins s1 σ H1 vs us Q I1 r1 q1) he hpl
end
end L2

namespace HT
open PySem PyProof.Rows

section
open PySem.SeqAt
open PySem.AutoSeq1 (wpAny_loadPart')
open PySem.MeetsSeq PySem.MeetsSeq2 PySem.MeetsSeq3

end

section
variable {prog : Program} {w : World} {A : Around} {E : Value → Shared → Prop} {s : Shared}

/-- a slice's bound as a place among n (d where it is left out) -/
def sIx (n d : Nat) : Option Int → Nat
  | none => d
  | some v => if v < 0 then (v + (n : Int)).toNat else min v.toNat n
theorem sIx_nat (n d k : Nat) : sIx n d (some (k : Int)) = min k n := by
  show (if (k : Int) < 0 then ((k : Int) + (n : Int)).toNat else min (k : Int).toNat n) = min k n
  rw [if_neg (by omega), Int.toNat_natCast]
theorem sIx_le (n d : Nat) (hd : d ≤ n) (o : Option Int) : sIx n d o ≤ n := by
  cases o with
  | none => exact hd
  | some v =>
    show (if v < 0 then (v + (n : Int)).toNat else min v.toNat n) ≤ n
    by_cases hv : v < 0
    · rw [if_pos hv]; omega
    · rw [if_neg hv]; exact Nat.min_le_right _ _
theorem clip_eq (v : Int) (n d : Nat) : (if v < 0 then max (v + (n : Int)) 0 else min v (n : Int)) = ((sIx n d (some v) : Nat) : Int) := by
  show (if v < 0 then max (v + (n : Int)) 0 else min v (n : Int)) = (((if v < 0 then (v + (n : Int)).toNat else min v.toNat n) : Nat) : Int)
  by_cases hv : v < 0
  · simp only [if_pos hv]; omega
  · simp only [if_neg hv]; omega
theorem adjust_gen (lo hi : Option Int) (n : Nat) : Builtin.Slice.sliceAdjust lo hi 1 (n : Int) = (((sIx n 0 lo : Nat) : Int), ((sIx n n hi : Nat) : Int)) := by
  have h1 : ¬ ((1 : Int) < 0) := by omega
  unfold Builtin.Slice.sliceAdjust
  simp only [h1, if_false]
  refine Prod.ext ?_ ?_
  · cases lo with
    | none => rfl
    | some v => exact clip_eq v n 0
  · cases hi with
    | none => rfl
    | some v => exact clip_eq v n n
theorem places_gen (i j : Nat) : Builtin.Slice.slicePlaces (i : Int) (j : Int) 1 = j - i := by
  unfold Builtin.Slice.slicePlaces
  have h1 : (1 : Int) > 0 := by omega
  simp only [h1, if_true, Int.ediv_one]
  split <;> omega
theorem slicePart_ {v : Value} {o : Option Int} {Q : Option Int → Shared → Prop} (p : IsPart v o) (h : Q o s) : wpAny (model prog w) A (Builtin.Slice.slicePartIndex v) Q E s := by
  cases p with
  | none => exact slicePart_none h
  | int i t => exact slicePart_int h
theorem sliceApplied_gen {sl : Addr} {vl vu : Value} {lo hi : Option Int} {n : Nat} {Q : Int × Int × Nat → Shared → Prop} (hs : s.heap.IsSliceOf sl vl vu .none) (pl : IsPart vl lo) (pu : IsPart vu hi)
    (h : Q (((sIx n 0 lo : Nat) : Int), 1, sIx n n hi - sIx n 0 lo) s) : wpAny (model prog w) A (Builtin.Slice.sliceApplied (.ref sl) (pure (n : Int))) Q E s := by
  obtain ⟨os, hos, hcs, hds⟩ := id hs
  unfold Builtin.Slice.sliceApplied Builtin.Slice.sliceFields
  refine wpAny_bind (wpAny_bind (wpAny_field hos hds (x := vl) rfl (wpAny_bind (wpAny_field hos hds (x := vu) rfl (wpAny_bind (wpAny_field hos hds (x := .none) rfl (wpAny_pure ?_)))))))
  refine wpAny_bind (slicePart_none ?_)
  show wpAny _ _ (if ((1 : Int) == 0) = true then _ else _) _ _ s
  rw [if_neg (by decide)]
  refine wpAny_bind (slicePart_ pl (wpAny_bind (slicePart_ pu (wpAny_bind (wpAny_pure ?_)))))
  show wpAny _ _ (match Builtin.Slice.sliceAdjust lo hi 1 (n : Int) with | (lo, hi) => pure (lo, (1 : Int), Builtin.Slice.slicePlaces lo hi 1)) _ _ s
  rw [adjust_gen lo hi n]
  show wpAny _ _ (pure (((sIx n 0 lo : Nat) : Int), (1 : Int), Builtin.Slice.slicePlaces ((sIx n 0 lo : Nat) : Int) ((sIx n n hi : Nat) : Int) 1)) _ _ s
  rw [places_gen]
  exact wpAny_pure h
theorem pick_gen (xs : Array Value) (i k : Nat) : ((List.range k).filterMap fun (m : Nat) => xs[((i : Int) + (m : Int) * 1).toNat]?).toArray = ((xs.toList.drop i).take k).toArray := by
  have e : (fun (m : Nat) => xs[((i : Int) + (m : Int) * 1).toNat]?) = fun m => xs[i + m]? := by
    funext m
    have : ((i : Int) + (m : Int) * 1).toNat = i + m := by omega
    rw [this]
  rw [e]
  have := pick_run xs i k
  rw [List.filterMap_map] at this
  have e2 : ((fun x => xs[x]?) ∘ fun x => i + x) = fun m => xs[i + m]? := rfl
  rw [e2] at this
  rw [this]

theorem getItem_tuple_cut {t sl : Addr} {items : Array Value} {vl vu : Value} {lo hi : Option Int} {Q : Value → Shared → Prop} (ht : IsTup s.heap t items) (hs : s.heap.IsSliceOf sl vl vu .none) (pl : IsPart vl lo) (pu : IsPart vu hi)
    (hw : ¬ (sIx items.size 0 lo = 0 ∧ sIx items.size items.size hi = items.size))
    (h : Q (.ref s.heap.objs.size) { s with heap := s.heap.push { cls := .type "tuple", data := .seq ((items.toList.drop (sIx items.size 0 lo)).take (sIx items.size items.size hi - sIx items.size 0 lo)).toArray } })
    (hsz : items.size ≤ sizeLine) : wpAny (model prog w) A (getItem (.ref t) (.ref sl)) Q E s := by
  have htake : sizeOk (.seq ((items.toList.drop (sIx items.size 0 lo)).take (sIx items.size items.size hi - sIx items.size 0 lo)).toArray) := by
    show ((items.toList.drop (sIx items.size 0 lo)).take (sIx items.size items.size hi - sIx items.size 0 lo)).toArray.size ≤ sizeLine
    rw [List.size_toArray, List.length_take, List.length_drop, Array.length_toList]
    omega
  have hj : sIx items.size items.size hi ≤ items.size := sIx_le _ _ (Nat.le_refl _) hi
  obtain ⟨os, hos, hcs, hds⟩ := id hs
  have hTs : s.TypeIs (.ref sl) "slice" := ⟨os, hos, hcs⟩
  unfold getItem
  try with_reducible refine wpAny_holding ?_
  first | refine wpAny_bind (wpAny_pure ?_) | skip
  refine wpAny_bind (wpAny_sequenceKey ht.typeIs (by decide) ?_)
  refine wpAny_bind (wpAny_callSpecial?_slot (name := Str.ofString "__getitem__") ht.typeIs PyProof.Rows.slot_tuple_getitem
    (wpAny_call_entry PyProof.Rows.slot_tuple_getitem ht.typeIs entry_tuple_getitem ?_ (args_tuple_getitem _ _)))
  show wpAny _ _ (Builtin.Tuple.tupleItemsOf (.ref t) >>= _) _ _ s
  refine wpAny_bind (tupleItemsOf_ ht ?_)
  refine wpAny_bind (wpAny_typeOf hTs ?_)
  rw [if_pos (by decide)]
  refine wpAny_bind (sliceApplied_gen hs pl pu ?_)
  have hno : ¬ ((((sIx items.size 0 lo : Nat) : Int) == 0 && (1 : Int) == 1 && (sIx items.size items.size hi - sIx items.size 0 lo) == items.size) = true) := by
    intro q
    rw [Bool.and_eq_true, Bool.and_eq_true] at q
    have q1 : ((sIx items.size 0 lo : Nat) : Int) = 0 := eq_of_beq q.1.1
    have q2 : sIx items.size items.size hi - sIx items.size 0 lo = items.size := eq_of_beq q.2
    exact hw ⟨by omega, by omega⟩
  show wpAny _ _ (if (((sIx items.size 0 lo : Nat) : Int) == 0 && (1 : Int) == 1 && (sIx items.size items.size hi - sIx items.size 0 lo) == items.size) = true then _ else _) _ _ s
  rw [if_neg hno, pick_gen]
  first
    | exact wpAny_bind (m := Builtin.Tuple.tupleExact _) (wpAny_newObj_type (wpAny_pure ⟨_, rfl, wpAny_pure h⟩) htake)
    | exact wpAny_bind (m := Builtin.Tuple.tupleExact _) (wpAny_newObj_type (wpAny_bind (wpAny_pure (wpAny_pure ⟨_, rfl, wpAny_pure h⟩))) htake)
    | exact wpAny_bind (wpAny_bind (m := Builtin.Tuple.tupleExact _) (wpAny_newObj_type (wpAny_pure (wpAny_pure ⟨_, rfl, wpAny_pure h⟩)) htake))
    | exact wpAny_bind (wpAny_bind (m := Builtin.Tuple.tupleExact _) (wpAny_newObj_type (wpAny_pure ⟨_, rfl, wpAny_pure h⟩) htake))
end
end HT

namespace L2
open PySem PySem.Spec PyProof.Rows

abbrev TO := St → Hp → (Option Int → Hp → Prop) → Prop
/-- a slice's part (left out, or an int) -/
def PO (X : Cx) (e : Option Expr) (t : TO) : Prop :=
  ∀ (pins : List (Addr × Obj)) (s : Shared) (σ : St) (H : Hp) (Q : Option Int → Hp → Prop), Inv X pins σ H s → t σ H Q →
    wpAny (model X.prog X.w) X.A (evalPart e X.env) (fun u s' => ∃ o H', Inv X pins σ H' s' ∧ IsPart u o ∧ Q o H') X.xe s
def tNoPart : TO := fun _ H Q => Q none H
def tPart (t : TE) : TO := fun σ H Q => t σ H fun x H1 => ∃ i, x = .int i ∧ Q (some i) H1

theorem intsAre_of {ns : List Int} : ∀ {us : List Value}, Vals (ns.map V.int) us → IntsAre us ns := by
  induction ns with
  | nil => intro us r; rw [List.map_nil] at r; cases r; exact .nil
  | cons n ns ih =>
    intro us r
    rw [List.map_cons] at r
    cases r with
    | cons r1 r2 =>
      obtain ⟨t, e⟩ := r1
      subst e
      exact .cons n t (ih r2)

section
variable {X : Cx} {e : Expr} {te : TE} {lo hi : Option Expr} {tl th : TO} {pos p2 : Pos}

theorem po_none : PO X none tNoPart := by
  intro pins s σ H Q I h
  rw [evalPart_none]
  exact wpAny_pure ⟨none, H, I, .none, h⟩
theorem po_some (h : PE X e te) : PO X (some e) (tPart te) := by
  intro pins s σ H Q I hw
  rw [evalPart_some]
  refine thn (h pins s σ H _ I hw) fun u s1 ⟨x, H1, I1, r1, q1⟩ => ?_
  obtain ⟨i, rfl, q⟩ := q1
  obtain ⟨t, rfl⟩ := r1
  exact ⟨some i, H1, I1, .int i t, q⟩

/-- what a slice of a value is, by values: the slice object stands at sl -/
def SlR (X : Cx) (r : V → Option Int → Option Int → Hp → VK → Prop) : Prop :=
  ∀ (pins : List (Addr × Obj)) (s : Shared) (σ : St) (H : Hp) (x : V) (v vl vu : Value) (lo hi : Option Int) (sl : Addr) (Q : VK), Inv X pins σ H s → RelV x v → s.heap.IsSliceOf sl vl vu .none → IsPart vl lo → IsPart vu hi → r x lo hi H Q →
    ∃ T id, typeLookup (.type T) "__getitem__" = pure (some (.builtin id)) ∧ s.TypeIs v T ∧ wpAny (model X.prog X.w) X.A (getItem v (.ref sl)) (EP X pins σ Q) X.xe s
theorem SlR.or {r r' : V → Option Int → Option Int → Hp → VK → Prop} (h : SlR X r) (h' : SlR X r') : SlR X (fun x lo hi H Q => r x lo hi H Q ∨ r' x lo hi H Q) := by
  intro pins s σ H x v vl vu lo hi sl Q I rx hs pl pu q
  rcases q with q | q
  · exact h pins s σ H x v vl vu lo hi sl Q I rx hs pl pu q
  · exact h' pins s σ H x v vl vu lo hi sl Q I rx hs pl pu q
def tSl (r : V → Option Int → Option Int → Hp → VK → Prop) (te : TE) (tl th : TO) : TE := fun σ H Q => te σ H fun x H1 => tl σ H1 fun l H2 => th σ H2 fun u H3 => r x l u H3 Q
/-- a[lo:hi], any a -/
theorem pe_slice {r : V → Option Int → Option Int → Hp → VK → Prop} (hr : SlR X r) (he : PE X e te) (hl : PO X lo tl) (hu : PO X hi th) : PE X (.Subscript e (.Slice lo hi none p2) pos) (tSl r te tl th) := by
  intro pins s σ H Q I h
  refine Subscript_ (thn (he pins s σ H _ I h) fun v s1 ⟨x, H1, I1, r1, q1⟩ => ?_)
  refine wpAny_Slice (thn (hl pins s1 σ H1 _ I1 q1) fun vl s2 ⟨l, H2, I2, pl, q2⟩ => thn (hu pins s2 σ H2 _ I2 q2) fun vu s3 ⟨u, H3, I3, pu, q3⟩ => ?_)
  rw [evalPart_none]
  refine wpAny_pure ?_
  have I4 : Inv X pins σ H3 { s3 with heap := s3.heap.push { cls := .type "slice", data := .fields #[vl, vu, .none] } } := I3.kept (t' := s3.toks) fun b ob q => Heap.get?_push_of_some _ q
  obtain ⟨T, id, hT, ht, hg⟩ := hr pins { s3 with heap := s3.heap.push { cls := .type "slice", data := .fields #[vl, vu, .none] } } σ H3 x v vl vu l u s3.heap.objs.size Q I4 r1 (Heap.IsSliceOf.new ..) pl pu q3
  show wpAny (model X.prog X.w) X.A (subscriptTail e (.Slice lo hi none p2) v (.ref s3.heap.objs.size)) (EP X pins σ Q) X.xe { s3 with heap := s3.heap.push { cls := .type "slice", data := .fields #[vl, vu, .none] } }
  exact tail_any (ops := [.ref s3.heap.objs.size, v]) ht hT hg (by with_unfolding_all rfl)

/-- the items of xs[lo:hi] -/
def cutV (xs : List V) (lo hi : Option Int) : List V := (xs.drop (HT.sIx xs.length 0 lo)).take (HT.sIx xs.length xs.length hi - HT.sIx xs.length 0 lo)
theorem cutV_length (xs : List V) (lo hi : Option Int) : (cutV xs lo hi).length ≤ xs.length := by
  unfold cutV
  rw [List.length_take, List.length_drop]
  omega
/-- t[lo:hi], not the whole of it (the whole would be t itself) -/
def rSlT (K : PySem.W.Frag) : V → Option Int → Option Int → Hp → VK → Prop := fun x lo hi H Q => ∃ a xs, x = .ref a ∧ SqT K H a xs ∧
  ¬ (HT.sIx xs.length 0 lo = 0 ∧ HT.sIx xs.length xs.length hi = xs.length) ∧ ∀ p, H p = none → Q (.ref p) (upd H p (.tup (cutV xs lo hi)))
theorem sl_tup : SlR X (rSlT X.K) := by
  intro pins s σ H x v vl vu lo hi sl Q I rx hs pl pu h
  obtain ⟨a, xs, rfl, hx, hw, q⟩ := h
  cases rx
  obtain ⟨its, r, ht, hz⟩ := I.tuple hx
  have hlen : its.toArray.size = xs.length := by rw [List.size_toArray]; exact r.length.symm
  refine ⟨"tuple", _, PyProof.Rows.slot_tuple_getitem.lookup, ht.typeIs, ?_⟩
  refine HT.getItem_tuple_cut ht hs pl pu (by rw [hlen]; exact hw) ?_ (by rw [hlen]; exact hz)
  rw [hlen]
  refine ⟨.ref s.heap.objs.size, _, I.laid (t' := s.toks) (o := .tup (cutV xs lo hi)) (fun b ob q => Heap.get?_push_of_some _ q) (Nat.le_refl _) ?_, rfl, q _ (I.hok.fresh (Nat.le_refl _))⟩
  exact ⟨Nat.le_trans (cutV_length xs lo hi) hz, _, (r.drop (HT.sIx xs.length 0 lo)).take (HT.sIx xs.length xs.length hi - HT.sIx xs.length 0 lo), IsTup.new _ _⟩

end
end L2

namespace L2
open PySem PySem.Spec PyProof.Rows

/-- the place that an index of any sign means -/
def ixN (n : Nat) (i : Int) : Option Nat := if 0 ≤ i then (if i < n then some i.toNat else none) else if -(n : Int) ≤ i then some (i + n).toNat else none
def atI {α : Type} (xs : List α) (i : Int) : Option α := (ixN xs.length i).bind fun j => xs[j]?
theorem ixN_seq {n : Nat} {i : Int} {j : Nat} (h : ixN n i = some j) : seqIndex? i n = some j ∧ j < n ∧ -(n : Int) ≤ i ∧ i < n := by
  unfold ixN at h
  by_cases h0 : 0 ≤ i
  · rw [if_pos h0] at h
    by_cases h1 : i < n
    · rw [if_pos h1] at h
      have e : i.toNat = j := Option.some.inj h
      exact ⟨by rw [seqIndex_of h0 h1, e], by omega, by omega, h1⟩
    · rw [if_neg h1] at h; cases h
  · rw [if_neg h0] at h
    by_cases h1 : -(n : Int) ≤ i
    · rw [if_pos h1] at h
      have e : (i + n).toNat = j := Option.some.inj h
      exact ⟨by rw [seqIndex_neg (by omega) h1, e], by omega, h1, by omega⟩
    · rw [if_neg h1] at h; cases h
theorem atI_get {α : Type} {xs : List α} {i : Int} {v : α} (h : atI xs i = some v) : ∃ j, seqIndex? i xs.length = some j ∧ xs[j]? = some v ∧ j < xs.length ∧ -(xs.length : Int) ≤ i ∧ i < xs.length := by
  unfold atI at h
  cases e : ixN xs.length i with
  | none => rw [e] at h; cases h
  | some j =>
    rw [e] at h
    obtain ⟨h1, h2, h3, h4⟩ := ixN_seq e
    exact ⟨j, h1, h, h2, h3, h4⟩
theorem atI_nat {α : Type} {xs : List α} {j : Nat} {v : α} (h : xs[j]? = some v) : atI xs (j : Int) = some v := by
  have hj : j < xs.length := (List.getElem?_eq_some_iff.mp h).1
  have e : ixN xs.length (j : Int) = some j := by
    unfold ixN
    rw [if_pos (by omega), if_pos (by omega)]; simp
  unfold atI; rw [e]; exact h
/-- what stands as an index of a plain subscript -/
def PlainIx (b : Expr) : Prop := ∀ o i, subscripted b false o i = operate [o, i] (getItem o i)
/-- a subscript by values -/
def IxR (X : Cx) (r : R2) : Prop :=
  ∀ (value slice : Expr) (pins : List (Addr × Obj)) (s : Shared) (σ : St) (H : Hp) (x y : V) (v u : Value) (Q : VK), Inv X pins σ H s → RelV x v → RelV y u → r x y H Q →
    subscripted slice false v u = operate [v, u] (getItem v u) → wpAny (model X.prog X.w) X.A (subscriptTail value slice v u) (EP X pins σ Q) X.xe s
/-- a call of a builtin's method by values: the receiver, the arguments -/
def MtR (X : Cx) (id : String) (r : V → List V → Hp → VK → Prop) : Prop :=
  ∀ (pins : List (Addr × Obj)) (s : Shared) (σ : St) (H : Hp) (x : V) (xs : List V) (v : Value) (us : List Value) (Q : VK), Inv X pins σ H s → RelV x v → Vals xs us → r x xs H Q →
    wpAny (model X.prog X.w) X.A (call (.builtin id) (v :: us)) (EP X pins σ Q) X.xe s
section
variable {X : Cx} {a b : Expr} {ta tb : TE} {pos : Pos}
theorem IxR.or {r r' : R2} (h : IxR X r) (h' : IxR X r') : IxR X (fun x y H Q => r x y H Q ∨ r' x y H Q) := by
  intro value slice pins s σ H x y v u Q I rx ry q hs
  rcases q with q | q
  · exact h value slice pins s σ H x y v u Q I rx ry q hs
  · exact h' value slice pins s σ H x y v u Q I rx ry q hs
/-- a[b] -/
theorem pe_ix {r : R2} (hr : IxR X r) (ha : PE X a ta) (hb : PE X b tb) (hs : PlainIx b) : PE X (.Subscript a b pos) (tOp r ta tb) := by
  intro pins s σ H Q I h
  exact Subscript_ (binT ha hb I h fun v u s2 x y H2 I2 rx ry q => hr a b pins s2 σ H2 x y v u Q I2 rx ry q (hs _ _))

def rIxL (K : PySem.W.Frag) : R2 := fun x y H Q => ∃ p xs i v, x = .ref p ∧ y = .int i ∧ SqL K H p xs ∧ atI xs i = some v ∧ Q v H
def rIxT (K : PySem.W.Frag) : R2 := fun x y H Q => ∃ p xs i v, x = .ref p ∧ y = .int i ∧ SqT K H p xs ∧ atI xs i = some v ∧ Q v H
def rIxS : R2 := fun x y H Q => ∃ z i c, x = .str z ∧ y = .int i ∧ z.length ≤ sizeLine ∧ atI z.cps.toList i = some c ∧ Q (.str ⟨#[c]⟩) H
theorem ix_list : IxR X (rIxL X.K) := by
  intro value slice pins s σ H x y v u Q I rx ry h hs
  obtain ⟨p, xs, i, z, rfl, rfl, hq, he, q⟩ := h
  cases rx
  obtain ⟨t, rfl⟩ := ry
  obtain ⟨its, r, pl, hz⟩ := I.list hq
  obtain ⟨j, h1, h2, h3, h4, h5⟩ := atI_get he
  obtain ⟨w, ew, rw'⟩ := r.get h2
  have hl := r.length
  have hn := line63
  have fin : EP X pins σ Q w s := ⟨z, H, I, rw', q⟩
  by_cases h0 : 0 ≤ i
  · have hj : i.toNat = j := by
      rw [seqIndex_of h0 h5] at h1
      exact Option.some.inj h1
    exact item_listR pl.isList h0 (by omega) (by rw [hj]; simpa using ew) fin hs
  · have hj : (i + (its.toArray.size : Int)).toNat = j := by
      rw [seqIndex_neg (by omega) h4] at h1
      rw [List.size_toArray, ← hl]
      exact Option.some.inj h1
    exact subscriptTail_builtinR (x := w) pl.isList.typeIs slot_list_getitem.lookup
      (wpAny_getItem_list_neg (Q := fun r s' => r = w ∧ EP X pins σ Q r s') pl.isList (by omega) (by rw [List.size_toArray] <;> omega) (by omega) (by rw [hj]; simpa using ew) ⟨rfl, fin⟩) hs
theorem ix_tup : IxR X (rIxT X.K) := by
  intro value slice pins s σ H x y v u Q I rx ry h hs
  obtain ⟨p, xs, i, z, rfl, rfl, hq, he, q⟩ := h
  cases rx
  obtain ⟨t, rfl⟩ := ry
  obtain ⟨its, r, pl, hz⟩ := I.tuple hq
  obtain ⟨j, h1, h2, h3, h4, h5⟩ := atI_get he
  obtain ⟨w, ew, rw'⟩ := r.get h2
  have hl := r.length
  have hn := line63
  have fin : EP X pins σ Q w s := ⟨z, H, I, rw', q⟩
  exact subscriptTail_builtinR (x := w) pl.typeIs slot_tuple_getitem.lookup
    (getItem_tuple (j := j) (Q := fun r s' => r = w ∧ EP X pins σ Q r s') pl (by omega) (by omega) (by rw [List.size_toArray, ← hl]; exact h1) (by simpa using ew) ⟨rfl, fin⟩) hs
theorem ix_str : IxR X rIxS := by
  intro value slice pins s σ H x y v u Q I rx ry h hs
  obtain ⟨z, i, c, rfl, rfl, hz, he, q⟩ := h
  obtain ⟨t, rfl⟩ := rx
  obtain ⟨t', rfl⟩ := ry
  obtain ⟨j, h1, h2, h3, h4, h5⟩ := atI_get he
  have hl : z.cps.toList.length = z.length := by simp [Str.length]
  rw [hl] at h1 h4 h5
  have hn := line63
  exact tail_any (typeIs_str s z t) slot_str_getitem.lookup (getItem_str (c := c) (by
    have e1 : decide (i < -(2 ^ 63 : Int)) = false := decide_eq_false (by omega)
    have e2 : decide (i ≥ 2 ^ 63) = false := decide_eq_false (by omega)
    rw [e1, e2, Bool.or_false]) (by rw [h1]; simpa using h2) ⟨.str ⟨#[c]⟩, H, I.tok _, ⟨_, rfl⟩, q⟩) hs
/-- list, tuple or str -/
def rIx (K : PySem.W.Frag) : R2 := fun x y H Q => rIxL K x y H Q ∨ rIxT K x y H Q ∨ rIxS x y H Q
theorem ix_seq : IxR X (rIx X.K) := ix_list.or (ix_tup.or ix_str)

/-- the list's object behind a store -/
theorem mapSeq_set (its : List Value) (n j : Nat) (u : Value) : Obj.mapSeq (·.setIfInBounds j u) { cls := .type "list", data := .seq its.toArray n } = { cls := .type "list", data := .seq (its.set j u).toArray n } := by
  simp [Obj.mapSeq]
theorem Inv.lst {pins : List (Addr × Obj)} {σ : St} {H : Hp} {s : Shared} {p : Addr} {xs : List V} (I : Inv X pins σ H s) (h : H p = some (.lst xs)) :
    ∃ (its : List Value) (n : Nat), Vals xs its ∧ s.heap.get? p = some { cls := .type "list", data := .seq its.toArray n } ∧ xs.length ≤ sizeLine := by
  obtain ⟨z, its, n, r, e⟩ := I.hok p _ h
  exact ⟨its, n, r, e, z⟩
/-- the list at p is written by an update of its object -/
theorem Inv.lstUpd {pins : List (Addr × Obj)} {σ : St} {H : Hp} {s : Shared} {p : Addr} {xs ys : List V} {its its' : List Value} {n n' : Nat} {f : Obj → Obj} (I : Inv X pins σ H s) (h : H p = some (.lst xs))
    (ho : s.heap.get? p = some { cls := .type "list", data := .seq its.toArray n }) (hf : f { cls := .type "list", data := .seq its.toArray n } = { cls := .type "list", data := .seq its'.toArray n' }) (r : Vals ys its') (hz : ys.length ≤ sizeLine) (t : Nat) :
    Inv X pins σ (upd H p (.lst ys)) { s with heap := s.heap.update p f, toks := t } := by
  have e : (s.heap.update p f).get? p = some { cls := .type "list", data := .seq its'.toArray n' } := by
    rw [Heap.get?_update_self f ho (by rw [hf] <;> rfl), hf]
  refine I.write (x := p) (e := p) (by rw [h]; trivial) (.inl rfl) (fun b u hb q => (Heap.get?_update_other _ _ (Ne.symm hb)).trans q) ⟨_, e⟩ ?_
  exact ⟨hz, its', n', r, e⟩
def rSetL : V → V → V → Hp → (Hp → Prop) → Prop := fun o i v H Q => ∃ p xs k j, o = .ref p ∧ i = .int k ∧ H p = some (.lst xs) ∧ ixN xs.length k = some j ∧ Q (upd H p (.lst (xs.set j v)))
theorem set_list : PSet X rSetL := by
  intro pins s σ H o i v ov iv u Q I ro ri rv h
  obtain ⟨p, xs, k, j, rfl, rfl, hp, hj, q⟩ := h
  cases ro
  obtain ⟨t, rfl⟩ := ri
  obtain ⟨its, n, r, ho, hz⟩ := I.lst hp
  obtain ⟨h1, h2, h3, h4⟩ := ixN_seq hj
  have hl := r.length
  have hn := line63
  have I' : Inv X pins σ (upd H p (.lst (xs.set j v))) { s with heap := s.heap.update p (Obj.mapSeq (·.setIfInBounds j u)) } :=
    I.lstUpd hp ho (mapSeq_set its n j u) (r.set rv j) (by rw [List.length_set]; exact hz) s.toks
  by_cases h0 : 0 ≤ k
  · have hk : k.toNat = j := by
      rw [seqIndex_of h0 h4] at h1
      exact Option.some.inj h1
    exact PySem.W.ki_setAt ho h0 (by omega) (by rw [List.size_toArray, ← hl]; exact h4) (by rw [hk]; exact ⟨_, I', q⟩)
  · have hk : (k + (its.toArray.size : Int)).toNat = j := by
      rw [seqIndex_neg (by omega) h3] at h1
      rw [List.size_toArray, ← hl]
      exact Option.some.inj h1
    exact PySem.W.ki_setBack ho (by omega) (by rw [List.size_toArray, ← hl]; exact h3) (by omega) (by rw [hk]; exact ⟨_, I', q⟩)

theorem slice_bounds (lo hi : Option Int) (n : Nat) : (sliceBounds lo hi none n).1 = ((HT.sIx n 0 lo : Nat) : Int) ∧ (sliceBounds lo hi none n).2.1 = ((HT.sIx n n hi : Nat) : Int) ∧ (sliceBounds lo hi none n).2.2 = 1 := by
  refine ⟨?_, ?_, rfl⟩
  · cases lo with
    | none => simp [sliceBounds, HT.sIx]
    | some i =>
      simp only [sliceBounds, HT.sIx, Option.getD_none, show (1 : Int) > 0 by decide, if_true]
      by_cases h : i < 0
      · simp only [h, if_true] <;> omega
      · simp only [h, if_false] <;> omega
  · cases hi with
    | none => simp [sliceBounds, HT.sIx]
    | some i =>
      simp only [sliceBounds, HT.sIx, Option.getD_none, show (1 : Int) > 0 by decide, if_true]
      by_cases h : i < 0
      · simp only [h, if_true] <;> omega
      · simp only [h, if_false] <;> omega
theorem slicePick_cut (its : List Value) (lo hi : Option Int) : slicePick its.toArray lo hi none = ((its.drop (HT.sIx its.length 0 lo)).take (HT.sIx its.length its.length hi - HT.sIx its.length 0 lo)).toArray := by
  obtain ⟨h1, h2, h3⟩ := slice_bounds lo hi its.toArray.size
  unfold slicePick
  rw [h1, h2, h3]
  simp only [sliceRange_one, pick_run, List.size_toArray] <;> rfl
/-- xs[lo:hi] of a list: a new list -/
def rSlL (K : PySem.W.Frag) : V → Option Int → Option Int → Hp → VK → Prop := fun x lo hi H Q => ∃ a xs, x = .ref a ∧ SqL K H a xs ∧ ∀ p, H p = none → Q (.ref p) (upd H p (.lst (cutV xs lo hi)))
theorem sl_list : SlR X (rSlL X.K) := by
  intro pins s σ H x v vl vu lo hi sl Q I rx hs pl pu h
  obtain ⟨a, xs, rfl, hx, q⟩ := h
  cases rx
  obtain ⟨its, r, ht, hz⟩ := I.list hx
  have hlen := r.length
  refine ⟨"list", _, slot_list_getitem.lookup, ht.isList.typeIs, ?_⟩
  refine wpAny_getItem_list_slice ht.isList hs pl pu .none (by simp) ?_ (by rw [List.size_toArray] <;> omega)
  rw [slicePick_cut, ← hlen]
  refine ⟨.ref s.heap.objs.size, _, I.laid (t' := s.toks) (o := .lst (cutV xs lo hi)) (fun b ob q => Heap.get?_push_of_some _ q) (Nat.le_refl _) ?_, rfl, q _ (I.hok.fresh (Nat.le_refl _))⟩
  exact ⟨Nat.le_trans (cutV_length xs lo hi) hz, _, 0, (r.drop (HT.sIx xs.length 0 lo)).take (HT.sIx xs.length xs.length hi - HT.sIx xs.length 0 lo), Heap.get?_push_size _ rfl⟩

def flatV : V → Bool
  | .non => true
  | .bl _ => true
  | .int _ => true
  | .str _ => true
  | _ => false
/-- == of flat values -/
def eqV : V → V → Bool
  | .non, .non => true
  | .bl a, .bl b => a == b
  | .bl a, .int b => (if a then 1 else 0) == b
  | .int a, .bl b => a == (if b then 1 else 0)
  | .int a, .int b => a == b
  | .str a, .str b => a == b
  | _, _ => false
theorem eqAt_V {A : Around} {s : Shared} {y x : V} {u v : Value} (ry : RelV y u) (rx : RelV x v) (fy : flatV y = true) (fx : flatV x = true) : SeqAt.EqAt A s u v (eqV y x) := by
  cases y with
  | non =>
    cases ry
    cases x with
    | non => cases rx; exact SeqAt.EqAt.same _
    | bl b => cases rx; exact SeqAt.EqAt.none_bool b
    | int b => obtain ⟨t, rfl⟩ := rx; exact SeqAt.EqAt.none_int b t
    | str b => obtain ⟨t, rfl⟩ := rx; exact SeqAt.EqAt.none_str b t
    | _ => exact absurd (show false = true from fx) Bool.false_ne_true
  | bl a =>
    cases ry
    cases x with
    | non => cases rx; exact SeqAt.EqAt.bool_none a
    | bl b => cases rx; exact SeqAt.EqAt.bool_bool a b
    | int b => obtain ⟨t, rfl⟩ := rx; exact SeqAt.EqAt.bool_int a b t
    | str b => obtain ⟨t, rfl⟩ := rx; exact SeqAt.EqAt.bool_str a b t
    | _ => exact absurd (show false = true from fx) Bool.false_ne_true
  | int a =>
    obtain ⟨t', rfl⟩ := ry
    cases x with
    | non => cases rx; exact SeqAt.EqAt.int_none a t'
    | bl b => cases rx; exact SeqAt.EqAt.int_bool a t' b
    | int b => obtain ⟨t, rfl⟩ := rx; exact SeqAt.EqAt.int_int a t' b t
    | str b => obtain ⟨t, rfl⟩ := rx; exact SeqAt.EqAt.int_str a t' b t
    | _ => exact absurd (show false = true from fx) Bool.false_ne_true
  | str a =>
    obtain ⟨t', rfl⟩ := ry
    cases x with
    | non => cases rx; exact SeqAt.EqAt.str_none a t'
    | bl b => cases rx; exact SeqAt.EqAt.str_bool a t' b
    | int b => obtain ⟨t, rfl⟩ := rx; exact SeqAt.EqAt.str_int a t' b t
    | str b => obtain ⟨t, rfl⟩ := rx; exact SeqAt.EqAt.str_str a t' b t
    | _ => exact absurd (show false = true from fx) Bool.false_ne_true
  | _ => exact absurd (show false = true from fy) Bool.false_ne_true
/-- the items' answers, read off the values (a value's own answer does not lean on its token) -/
def eqU (x : V) (u : Value) : Bool := match u with
  | .none => eqV .non x
  | .bool b => eqV (.bl b) x
  | .int i _ => eqV (.int i) x
  | .str z _ => eqV (.str z) x
  | _ => false
theorem eqU_of {x y : V} {u : Value} (r : RelV y u) (f : flatV y = true) : eqU x u = eqV y x := by
  cases y with
  | non => cases r; rfl
  | bl b => cases r; rfl
  | int i => obtain ⟨t, rfl⟩ := r; rfl
  | str z => obtain ⟨t, rfl⟩ := r; rfl
  | _ => exact absurd (show false = true from f) Bool.false_ne_true
theorem any_eqU {x : V} : ∀ {xs : List V} {us : List Value}, Vals xs us → xs.all flatV = true → us.any (eqU x) = xs.any fun y => eqV y x
  | _, _, .nil, _ => rfl
  | y :: xs, u :: us, .cons r t, f => by
    rw [List.all_cons, Bool.and_eq_true] at f
    rw [List.any_cons, List.any_cons, eqU_of r f.1, any_eqU t f.2]
theorem mem_eqAt {A : Around} {s : Shared} {x : V} {v : Value} (rx : RelV x v) (fx : flatV x = true) : ∀ {xs : List V} {us : List Value}, Vals xs us → xs.all flatV = true → ∀ u ∈ us, SeqAt.EqAt A s u v (eqU x u)
  | _, _, .nil, _ => fun u hu => by cases hu
  | y :: xs, u :: us, .cons r t, f => fun u' hu => by
    rw [List.all_cons, Bool.and_eq_true] at f
    rcases List.mem_cons.mp hu with rfl | hu
    · rw [eqU_of r f.1]; exact eqAt_V r rx f.1 fx
    · exact mem_eqAt rx fx t f.2 u' hu
def inV (x : V) (xs : List V) : Bool := xs.any fun y => eqV y x
/-- x in a list or tuple of flat items -/
def rIn (K : PySem.W.Frag) (neg : Bool) : R2 := fun x y H Q => ∃ p xs, y = .ref p ∧ (SqL K H p xs ∨ SqT K H p xs) ∧ flatV x = true ∧ xs.all flatV = true ∧ Q (.bl (if neg then !inV x xs else inV x xs)) H
theorem op_in_seq : OpR X (compareOp .In) (rIn X.K false) := by
  intro pins s σ H x y v u Q I rx ry h
  obtain ⟨p, xs, rfl, hq, fx, fs, q⟩ := h
  cases ry
  rcases hq with hq | hq
  · obtain ⟨its, r, pl, hz⟩ := I.list hq
    refine SeqAt.in_listAt (eqU x) pl.isList (fun w hw => mem_eqAt rx fx r fs w (by simpa using hw)) ⟨.bl _, H, I, rfl, ?_⟩
    rw [show its.toArray.any (eqU x) = its.any (eqU x) by simp, any_eqU r fs]
    exact q
  · obtain ⟨its, r, pl, hz⟩ := I.tuple hq
    refine SeqAt.in_tupleAt (eqU x) pl (fun w hw => mem_eqAt rx fx r fs w (by simpa using hw)) ⟨.bl _, H, I, rfl, ?_⟩
    rw [show its.toArray.any (eqU x) = its.any (eqU x) by simp, any_eqU r fs]
    exact q
theorem CallR.or {f : Value} {r r' : List V → Hp → VK → Prop} (h : CallR X f r) (h' : CallR X f r') : CallR X f (fun xs H Q => r xs H Q ∨ r' xs H Q) := by
  intro pins s σ H xs us Q I rs q
  rcases q with q | q
  · exact h pins s σ H xs us Q I rs q
  · exact h' pins s σ H xs us Q I rs q
theorem call_list_of : CallR X (.type "list") (fun xs H Q => ∃ p ys, xs = [.ref p] ∧ (SqL X.K H p ys ∨ SqT X.K H p ys) ∧ ∀ l, H l = none → Q (.ref l) (upd H l (.lst ys))) := by
  intro pins s σ H xs us Q I r h
  obtain ⟨p, ys, rfl, hq, q⟩ := h
  obtain ⟨u, rfl, rx⟩ := vals1 r
  cases rx
  have fin : ∀ (its : List Value), Vals ys its → ys.length ≤ sizeLine → ∀ (h' : Heap) (c' : Nat), (∀ b o', s.heap.get? b = some o' → h'.get? b = some o') →
      h'.get? s.heap.objs.size = some { cls := .type "list", dict := none, data := .seq its.toArray c', slots := #[] } → EP X pins σ Q (.ref s.heap.objs.size) { s with heap := h' } := fun its r' hz h' c' kp e =>
    ⟨.ref s.heap.objs.size, _, I.laid (t' := s.toks) kp (Nat.le_refl _) (show ObjOk X.prog X.w _ h' _ (.lst ys) from ⟨hz, its, c', r', e⟩), rfl, q _ (I.hok.fresh (Nat.le_refl _))⟩
  rcases hq with hq | hq
  · obtain ⟨its, r', pl, hz⟩ := I.list hq
    have hlen := r'.length
    obtain ⟨o, ho, hc, n, hd⟩ := pl.isList
    exact call_list_seq p (.inl rfl) ho hc hd (fun h' c' kp e => fin its r' hz h' c' kp e) (by simp only [List.size_toArray] <;> omega)
  · obtain ⟨its, r', pl, hz⟩ := I.tuple hq
    have hlen := r'.length
    obtain ⟨o, ho, hc, n, hd⟩ := pl
    exact call_list_seq p (.inr rfl) ho hc hd (fun h' c' kp e => fin its r' hz h' c' kp e) (by simp only [List.size_toArray] <;> omega)
theorem call_tuple_of : CallR X (.type "tuple") (fun xs H Q => ∃ p ys, xs = [.ref p] ∧ ((SqL X.K H p ys ∧ ∀ l, H l = none → Q (.ref l) (upd H l (.tup ys))) ∨ (SqT X.K H p ys ∧ Q (.ref p) H))) := by
  intro pins s σ H xs us Q I r h
  obtain ⟨p, ys, rfl, h⟩ := h
  obtain ⟨u, rfl, rx⟩ := vals1 r
  cases rx
  rcases h with ⟨hq, q⟩ | ⟨hq, q⟩
  · obtain ⟨its, r', pl, hz⟩ := I.list hq
    have hlen := r'.length
    refine call_tuple_list pl.isList (fun h' kp => ?_) (by simp only [List.size_toArray] <;> omega)
    have I1 : Inv X pins σ H { s with heap := h' } := I.kept (t' := s.toks) kp
    have I2 : Inv X pins σ (upd H h'.objs.size (.tup ys)) { s with heap := h'.push { cls := .type "tuple", data := .seq its.toArray } } :=
      I1.laid (t' := s.toks) (fun b o e => Heap.get?_push_of_some _ e) (Nat.le_refl _) (show ObjOk X.prog X.w _ _ _ (.tup ys) from ⟨hz, its, r', IsTup.new _ _⟩)
    exact ⟨.ref h'.objs.size, _, I2, rfl, q _ (I1.hok.fresh (Nat.le_refl _))⟩
  · obtain ⟨its, r', pl, hz⟩ := I.tuple hq
    exact call_tuple_same pl ⟨.ref p, H, I, rfl, q⟩

/-- the value is of that builtin type -/
def tyV (K : PySem.W.Frag) (T : String) (x : V) (H : Hp) : Prop := match x with
  | .str _ => T = "str"
  | .int _ => T = "int"
  | .ref p => (T = "list" ∧ ∃ xs, SqL K H p xs) ∨ (T = "tuple" ∧ ∃ o, K.lookup p = some o ∧ o.cls = .type "tuple" ∧ o.dict = none) ∨
      (T = "dict" ∧ ((∃ kvs, H p = some (.dK kvs)) ∨ ∃ kvs, H p = some (.dT kvs))) ∨ (T = "set" ∧ ∃ S n, H p = some (.set S n))
  | _ => False
theorem tyV_is {pins : List (Addr × Obj)} {σ : St} {H : Hp} {s : Shared} {T : String} {x : V} {v : Value} (I : Inv X pins σ H s) (r : RelV x v) (ty : tyV X.K T x H) :
    s.TypeIs v T ∧ ∀ a, v = .ref a → ∃ ob, s.heap.get? a = some ob ∧ ob.dict = none := by
  cases x with
  | str z =>
    obtain ⟨t, rfl⟩ := r
    cases (show T = "str" from ty)
    exact ⟨typeIs_str s z t, fun _ e => nomatch e⟩
  | int i =>
    obtain ⟨t, rfl⟩ := r
    cases (show T = "int" from ty)
    exact ⟨typeIs_int s i t, fun _ e => nomatch e⟩
  | ref p =>
    cases r
    rcases ty with ⟨rfl, xs, hq⟩ | ⟨rfl, o, hk, hc, hd⟩ | ⟨rfl, hk⟩ | ⟨rfl, S, n, hk⟩
    · obtain ⟨its, _, pl, _⟩ := I.list hq
      refine ⟨pl.isList.typeIs, fun a e => ?_⟩
      cases e
      obtain ⟨o, n, e, c, hd, _⟩ := pl
      exact ⟨o, e, hd⟩
    · refine ⟨⟨o, I.kIn p o hk, hc⟩, fun a e => ?_⟩
      cases e
      exact ⟨o, I.kIn _ o hk, hd⟩
    · have z : ∃ o, s.heap.get? p = some o ∧ o.ExactDict := by
        rcases hk with ⟨kvs, hk⟩ | ⟨kvs, hk⟩
        · obtain ⟨_, _, _, _, o, _, _, e, ex, _⟩ := I.hok p _ hk
          exact ⟨o, e, ex⟩
        · obtain ⟨_, _, _, _, o, _, _, e, ex, _⟩ := I.hok p _ hk
          exact ⟨o, e, ex⟩
      obtain ⟨o, e, ex⟩ := z
      refine ⟨⟨o, e, ex.1⟩, fun a e2 => ?_⟩
      cases e2
      exact ⟨o, e, ex.2.1⟩
    · obtain ⟨o, _, _, _, e, ex, _⟩ := I.hok p _ hk
      refine ⟨⟨o, e, ex.1⟩, fun a e2 => ?_⟩
      cases e2
      exact ⟨o, e, ex.2.1⟩
  | _ => exact False.elim ty
def tBM0 (K : PySem.W.Frag) (T : String) (r : V → List V → Hp → VK → Prop) (to : TE) : TE := fun σ H Q => to σ H fun x H1 => tyV K T x H1 ∧ r x [] H1 Q
def tBM (K : PySem.W.Frag) (T : String) (r : V → List V → Hp → VK → Prop) (to : TE) (t : TA) : TE := fun σ H Q => to σ H fun x H1 => tyV K T x H1 ∧ t σ H1 fun xs H2 => r x xs H2 Q
variable {o e : Expr} {es : List Expr} {to : TE} {t : TA} {name : Str} {apos cpos : Pos} {T id : String} {r : V → List V → Hp → VK → Prop}
theorem pe_bm0 (pa : PlainAttrs T) (slot : Slot T name id) (hty : typeOf (.builtin id) = pure (.type "method_descriptor")) (hm : MtR X id r) (ho : PE X o to)
    (hbase : attributeBase o name X.env (eval o X.env) = eval o X.env := by rfl) (hline : (apos.endLine == cpos.line) = true := by rfl) : PE X (.Call (.Attribute o name apos) [] [] cpos) (tBM0 X.K T r to) := by
  intro pins s σ H Q I h
  refine wpAny_Call_method0_late hbase hline (thn (ho pins s σ H _ I h) fun v s1 ⟨x, H1, I1, r1, ty, q1⟩ => ?_)
  obtain ⟨h1, h2⟩ := tyV_is I1 r1 ty
  exact ⟨T, id, pa, slot, hty, h1, h2, Calls.callWith_builtin rfl (PySem.evalArgs_none (hm pins s1 σ H1 x [] v [] Q I1 r1 .nil q1))⟩
theorem pe_bm (pa : PlainAttrs T) (slot : Slot T name id) (hty : typeOf (.builtin id) = pure (.type "method_descriptor")) (hm : MtR X id r) (ho : PE X o to) (ha : PA X (e :: es) t)
    (hbase : attributeBase o name X.env (eval o X.env) = eval o X.env := by rfl)
    (hfew : ((backTo cpos (starEach (e :: es) X.env)).all (fun x => !x.1) && (backToKw cpos (keywordEach [] X.env)).all (fun x => x.1.isSome)
      && decide ((e :: es).length + ([] : List Keyword).length + (if ([] : List Keyword).isEmpty then 0 else 1) < 30)) = true := by rfl)
    (hline : (apos.endLine == cpos.line) = true := by rfl) (hs : starEach (e :: es) X.env = (false, eval e X.env) :: starEach es X.env := by rfl) (hplain : (backTo cpos (starEach es X.env)).any (·.1) = false := by rfl) :
    PE X (.Call (.Attribute o name apos) (e :: es) [] cpos) (tBM X.K T r to t) := by
  intro pins s σ H Q I h
  refine wpAny_Call_method_late hbase hfew hline rfl (thn (ho pins s σ H _ I h) fun v s1 ⟨x, H1, I1, r1, ty, q1⟩ => ?_)
  obtain ⟨h1, h2⟩ := tyV_is I1 r1 ty
  refine ⟨T, id, pa, slot, hty, h1, h2, ?_⟩
  have hA := ha cpos pins s1 σ H1 _ I1 q1
  rw [hs] at hA ⊢
  refine Calls.callWith_builtin (by show (false || (backTo cpos (starEach es X.env)).any (·.1)) = false; rw [hplain] <;> rfl) (Calls.evalArgs_plain ?_)
  exact thn hA fun us s2 ⟨vs, H2, I2, r2, q2⟩ => hm pins s2 σ H2 x vs v us Q I2 r1 r2 q2
end
end L2

namespace L2
open PySem PySem.Spec PyProof.Rows

def MtM (X : Cx) (id : String) (r : V → List V → Hp → VK → Prop) : Prop :=
  ∀ (pins : List (Addr × Obj)) (s : Shared) (σ : St) (H : Hp) (x : V) (xs : List V) (v : Value) (us : List Value) (Q : VK), Inv X pins σ H s → RelV x v → Vals xs us → r x xs H Q →
    wpAny (model X.prog X.w) X.A (call (.builtin id) (v :: us)) (EP X pins σ Q) X.xe s

theorem Vals.one : ∀ {x : V} {us : List Value}, Vals [x] us → ∃ u, us = [u] ∧ RelV x u
  | _, _, .cons r .nil => ⟨_, rfl, r⟩
theorem Vals.zero : ∀ {us : List Value}, Vals [] us → us = []
  | _, .nil => rfl
theorem Vals.reverse {xs : List V} {us : List Value} (h : Vals xs us) : Vals xs.reverse us.reverse := by
  induction h with
  | nil => exact .nil
  | cons r t ih => rw [List.reverse_cons, List.reverse_cons]; exact Vals.append ih (.cons r .nil)
theorem Vals.rep {xs : List V} {us : List Value} (h : Vals xs us) : ∀ k : Nat, Vals (List.replicate k xs).flatten (List.replicate k us).flatten
  | 0 => .nil
  | k + 1 => by
    rw [List.replicate_succ, List.replicate_succ, List.flatten_cons, List.flatten_cons]
    exact Vals.append h (Vals.rep h k)
theorem foldl_rep (its : List Value) : ∀ (k : Nat) (acc : List Value),
    List.foldl (fun x1 x2 => x1 ++ x2) acc.toArray (List.replicate k its.toArray) = (acc ++ (List.replicate k its).flatten).toArray
  | 0, acc => by simp
  | k + 1, acc => by
    have e : acc.toArray ++ its.toArray = (acc ++ its).toArray := by simp
    have e2 : (acc ++ its) ++ (List.replicate k its).flatten = acc ++ (List.replicate (k + 1) its).flatten := by
      rw [List.replicate_succ, List.flatten_cons, List.append_assoc]
    rw [← e2, ← foldl_rep its k (acc ++ its), ← e, List.replicate_succ, List.foldl_cons]

section
variable {X : Cx} {pins : List (Addr × Obj)} {σ : St} {H : Hp} {s : Shared} {l b : Addr} {xs ys zs : List V}

theorem Inv.lset {its its' : List Value} {n : Nat} {f : Array Value → Array Value} {t' : Nat} (I : Inv X pins σ H s) (hH : H l = some (.lst xs))
    (e : s.heap.get? l = some { cls := .type "list", data := .seq its.toArray n }) (hf : f its.toArray = its'.toArray) (hv : Vals ys its') (hz : ys.length ≤ sizeLine) :
    Inv X pins σ (upd H l (.lst ys)) { s with heap := s.heap.update l (Obj.mapSeq f), toks := t' } := by
  have q := PySem.IsL.update e f
  rw [hf] at q
  refine I.write (x := l) (e := l) (by rw [hH]; exact trivial) (.inl rfl) (fun b' u hb hu => (Heap.get?_update_other s.heap (Obj.mapSeq f) (Ne.symm hb)).trans hu) ⟨_, q⟩ ?_
  exact ⟨hz, its', _, hv, q⟩
theorem Inv.lnew {its : List Value} {t' : Nat} (I : Inv X pins σ H s) (hv : Vals ys its) (hz : ys.length ≤ sizeLine) :
    Inv X pins σ (upd H s.heap.objs.size (.lst ys)) { s with heap := s.heap.push { cls := .type "list", data := .seq its.toArray }, toks := t' } :=
  I.laid (fun _ _ q => Heap.get?_push_of_some _ q) (Nat.le_refl _) ⟨hz, its, 0, hv, Heap.get?_push_size _ rfl⟩
theorem Inv.fresh (I : Inv X pins σ H s) : H s.heap.objs.size = none := I.hok.fresh (Nat.le_refl _)
theorem Inv.lstM (I : Inv X pins σ H s) (hH : H l = some (.lst xs)) : xs.length ≤ sizeLine ∧ ∃ (its : List Value) (n : Nat), Vals xs its ∧ xs.length = its.length ∧ s.heap.get? l = some { cls := .type "list", data := .seq its.toArray n } := by
  obtain ⟨z, its, n, r, e⟩ := I.hok l _ hH
  exact ⟨z, its, n, r, r.length, e⟩

theorem notLongL {n : Nat} (h : n ≤ sizeLine) : Builtin.List.listTooLong n = false := by
  unfold Builtin.List.listTooLong
  exact decide_eq_false (by omega)
end

section
variable {X : Cx}

def rAppend : V → List V → Hp → VK → Prop := fun x vs H Q => ∃ l xs y, x = .ref l ∧ vs = [y] ∧ H l = some (.lst xs) ∧ xs.length < sizeLine ∧ Q .non (upd H l (.lst (xs ++ [y])))
theorem mt_append : MtM X "list.append" rAppend := by
  intro pins s σ H x vs v us Q I rx rv h
  obtain ⟨l, xs, y, rfl, rfl, hH, hz, q⟩ := h
  cases rx
  obtain ⟨u, rfl, ru⟩ := rv.one
  obtain ⟨z, its, n, r, hl, e⟩ := I.lstM hH
  refine call_meets F.slot_list_append ⟨_, e, rfl⟩ F.entry_list_append (F.args_list_append_2 _ _) (PySem.list_append l its.toArray n u (by rw [List.size_toArray]; omega)) ⟨e, ?_⟩
  refine ⟨.non, _, I.lset (its' := its ++ [u]) hH e (by simp) (r.append (.cons ru .nil)) ?_, rfl, q⟩
  rw [List.length_append, List.length_singleton]
  omega

def rClear : V → List V → Hp → VK → Prop := fun x vs H Q => ∃ l xs, x = .ref l ∧ vs = [] ∧ H l = some (.lst xs) ∧ Q .non (upd H l (.lst []))
theorem mt_clear : MtM X "list.clear" rClear := by
  intro pins s σ H x vs v us Q I rx rv h
  obtain ⟨l, xs, rfl, rfl, hH, q⟩ := h
  cases rx
  have hus := rv.zero
  subst hus
  obtain ⟨z, its, n, r, hl, e⟩ := I.lstM hH
  refine call_meets F.slot_list_clear ⟨_, e, rfl⟩ F.entry_list_clear (F.args_list_clear_1 _) (AutoSeq1.list_clear_list_0 l its.toArray n (by rw [List.size_toArray]; omega)) ⟨e, ?_⟩
  exact ⟨.non, _, I.lset (its' := []) (ys := []) hH e rfl .nil (Nat.zero_le _), rfl, q⟩

def rCat : R2 := fun x y H Q => ∃ l b xs zs, x = .ref l ∧ y = .ref b ∧ H l = some (.lst xs) ∧ H b = some (.lst zs) ∧ xs.length + zs.length ≤ sizeLine ∧ ∀ p, H p = none → Q (.ref p) (upd H p (.lst (xs ++ zs)))
theorem op_cat : OpR X (binaryOp .Add) rCat := by
  intro pins s σ H x y v u Q I rx ry h
  obtain ⟨l, b, xs, zs, rfl, rfl, hH, hB, hz, q⟩ := h
  cases rx
  cases ry
  obtain ⟨z, its, n, r, hl, e⟩ := I.lstM hH
  obtain ⟨z2, its2, n2, r2, hl2, e2⟩ := I.lstM hB
  refine PySem.P.add_list e e2 ?_ (by rw [List.size_toArray, List.size_toArray]; omega)
  have ea : its.toArray ++ its2.toArray = (its ++ its2).toArray := by simp
  rw [ea]
  exact ⟨.ref _, _, I.lnew (t' := s.toks) (r.append r2) (by rw [List.length_append]; omega), rfl, q _ I.fresh⟩
/-- a list times an int (a negative one is nothing) -/
def rRep : R2 := fun x y H Q => ∃ l k xs, x = .ref l ∧ y = .int k ∧ H l = some (.lst xs) ∧ -(2 ^ 63) ≤ k ∧ k < 2 ^ 63 ∧ xs.length * k.toNat ≤ sizeLine ∧
  ∀ p, H p = none → Q (.ref p) (upd H p (.lst (List.replicate k.toNat xs).flatten))
theorem len_rep {α : Type} (xs : List α) (k : Nat) : (List.replicate k xs).flatten.length = k * xs.length := by
  induction k with
  | zero => simp
  | succ k ih => rw [List.replicate_succ, List.flatten_cons, List.length_append, ih, Nat.succ_mul, Nat.add_comm]
theorem op_rep : OpR X (binaryOp .Mult) rRep := by
  intro pins s σ H x y v u Q I rx ry h
  obtain ⟨l, k, xs, rfl, rfl, hH, h1, h2, hz, q⟩ := h
  cases rx
  obtain ⟨t, rfl⟩ := ry
  obtain ⟨z, its, n, r, hl, e⟩ := I.lstM hH
  have hlen : its.toArray.size * k.toNat ≤ sizeLine := by rw [List.size_toArray, ← hl]; exact hz
  have hcap : ¬ its.toArray.size * k.toNat > (2 ^ 63 - 1) / 8 := by
    have : (sizeLine : Nat) ≤ (2 ^ 63 - 1) / 8 := by decide
    omega
  have hfit : ¬ (!Builtin.List.listFitsIndex k) = true := by
    rw [fitsIndex_both h1 h2]
    exact Bool.false_ne_true
  have hlong : ¬ Builtin.List.listTooLong (its.toArray.size * k.toNat) = true := by
    rw [notLongL hlen]
    exact Bool.false_ne_true
  have hnew : List.foldl (fun x1 x2 => x1 ++ x2) #[] (List.replicate (if its.toArray.isEmpty = true then 0 else k.toNat) its.toArray) = (List.replicate k.toNat its).flatten.toArray := by
    have f0 : ∀ m : Nat, List.foldl (fun x1 x2 => x1 ++ x2) #[] (List.replicate m its.toArray) = (List.replicate m its).flatten.toArray := fun m => by
      have := foldl_rep its m []
      rw [List.nil_append] at this
      exact this
    rw [f0]
    cases its with
    | nil => simp
    | cons a r' => rw [if_neg (by simp)]
  refine wpAny_binaryOp_repeat_ref (T := "list") (U := "int") (by decide) ⟨_, e, rfl⟩ (fun s' => typeIs_int s' k t) noFill_list_mul F.fills_int_mul F.slot_int_rmul repeat_list F.slot_int_index.lookup
    (call_meets F.slot_int_rmul (typeIs_int s k t) F.entry_int_rmul (F.args_int_rmul_2 _ _) (int___rmul___int_list k t l its.toArray n)
      ⟨e, rfl, ⟨_, e, rfl⟩, call_meets F.slot_list_mul ⟨_, e, rfl⟩ F.entry_list_mul (F.args_list_mul_2 _ _) (AutoListH.list___mul___list_int_3 l its.toArray n k t hfit hcap hlong) ⟨e, ?_⟩⟩)
  rw [hnew]
  exact ⟨.ref _, _, I.lnew (t' := s.toks) (r.rep k.toNat) (by rw [len_rep, Nat.mul_comm]; exact hz), rfl, q _ I.fresh⟩

end

section
variable {prog : Program} {w : World} {A : Around} {E : Value → Shared → Prop} {s : Shared}
end

section
variable {X : Cx}
end
end L2

namespace Att
open PySem PySem.W PySem.Calls PyProof.Rows

theorem ints_of_wellAll {P : Params} {h : Heap} : ∀ (ns : List Int) (vs : List Value), WellAll P h vs (ns.map WData.int) → IntsAre vs ns := by
  intro ns
  induction ns with
  | nil =>
    intro vs w
    rw [List.map_nil] at w
    cases w
    exact .nil
  | cons n ns ih =>
    intro vs w
    rw [List.map_cons] at w
    cases w with
    | cons a b =>
      cases a
      exact .cons _ _ (ih _ b)

theorem script_of {l : OpenLaw} {n : Nat} (hn : l.most = some n) {P : Params} {h : Heap} {args : List WData} {vals : List Value}
    (hpre : l.row.toRowW.claim.pre args = true) (hwl : WellAll P h vals args) :
    ∃ a vs ns, vals = [Value.ref a] ∧ args = [WData.list (ns.map WData.int)] ∧ h.get? a = some { cls := .type "list", data := .seq vs.toArray } ∧ IntsAre vs ns ∧ ns.length ≤ n := by
  have hsh : WShape.hasAll [] args [.list .int] = true := (pre_splitW hpre).1
  have hc : l.pre.holds [] { args := args } = true := (pre_splitW hpre).2
  obtain ⟨d, r, rfl, h1, h2⟩ := hasAllW_cons hsh
  obtain rfl := hasAllW_nil h2
  obtain ⟨xs, rfl, h3⟩ := hasW_list h1
  obtain ⟨ns, rfl⟩ := items_int h3
  have hlen : ns.length ≤ n := by
    unfold OpenLaw.pre at hc
    have h4 : (WTm.not (.lt (.lit (.int (n : Int))) (.len (.arg 0)))).holds [] { args := [.list (ns.map .int)] } = true := by
      have h4 := (holds_andW hc).1
      rw [hn] at h4
      exact h4
    have h5 := condW_of h4 (w_not (w_lt w_lit (w_len_list (w_arg rfl))))
    rw [List.length_map] at h5
    refine Nat.le_of_not_lt fun q => ?_
    have q' : (n : Int) < ((ns.length : Nat) : Int) := by omega
    first
      | (rw [decide_eq_true q'] at h5; exact absurd h5 (by decide))
      | (simp at h5; omega)
  cases hwl with
  | cons w1 w2 =>
    cases w2
    cases w1 with
    | list ho hall => exact ⟨_, _, ns, rfl, rfl, ho, ints_of_wellAll ns _ hall, hlen⟩

theorem post_true (l : OpenLaw) (args : List WData) : l.row.toRowW.claim.post args (.bool true) args = true :=
  postW_of (r := l.row.toRowW) (X := (true == true))
    (show WShape.has [] (.bool true) .bool = true by first | rfl | decide | simp [WShape.has, WShape.arms, WShape.armsAll])
    (show (WTm.eq .res (.lit (.bool true))).value [] { args := args, res := some (.bool true), after := args } = some (.bool (true == true)) from w_eq_bool (w_res rfl) w_lit) rfl

/-- the same from a codeAny of the CALL (for a layer whose function contracts speak of calls) -/
theorem attach_call {l : OpenLaw} {n : Nat} {q : Program} {loose : List Str} {XP : (Str → Option Value) → Heap → Prop} {YP : World → Heap → Prop} {d : DefRec}
    (hn : l.most = some n) (hdf : d.params.defaults = [])
    (call : ∀ (w : World) (s₀ s₁ : Shared) (mg mb : Str → Option Value) (fa : Addr) (o : Obj) (pm cd doc : Value) (a : Addr) (vs : List Value) (ns : List Int),
      Ground q loose [] XP w s₀ mg mb s₁.heap → YP w s₁.heap →
      s₁.heap.get? fa = some o → o.data = .func (docDef d.name d.params d.body d.scope pm cd doc) → s₁.heap.CodeRec cd d.name → mg d.name = some (.ref fa) →
      s₁.heap.get? a = some { cls := .type "list", data := .seq vs.toArray } → IntsAre vs ns → ns.length ≤ n → s₁.gens = #[] →
      codeAny (model l.prog w) callerA (.call (.ref fa) ⟨[.ref a], []⟩) (fun r s' => r = .ok (.ret (.bool true)) ∧ OldK s₁.heap s'.heap ∧ s'.os = s₁.os ∧ AllBare s'.gens) s₁) :
    WalkO q loose XP YP l.row.toRowW d [] (fun f vs => PySem.call f vs) := by
  intro w s₀ s₁ mg mb G Y fa o pm cd doc dV kV ho hd hcd hD hmg hg args vals as hpre hlay hrd hwl hlo
  obtain rfl : dV = .none := Dflts.none hD hdf
  obtain rfl : kV = .none := Dflts.noKw hD
  obtain ⟨a, vs, ns, rfl, rfl, hobj, hints, hlen⟩ := script_of hn hpre hwl
  refine enter_call (codeAny_mono (call w s₀ s₁ mg mb fa o pm cd doc a vs ns G Y ho (fd_plain hd) hcd hmg hobj hints hlen hg) fun r s' hq => ?_)
  obtain ⟨rfl, h2, h3, h4⟩ := hq
  exact ⟨.inl ⟨.bool true, .bool true, [], rfl, fun _ => rfl, .bool true, post_true l _, fun _ => ⟨List.Pairwise.nil, fun _ hm => (nomatch hm)⟩⟩, h2, h3, h4⟩

section
variable {prog : Program} {w : World} {A : Around} {E : Value → Shared → Prop} {s : Shared} {K : Frag}

end
end Att

namespace L2
open PySem PySem.Spec PyProof.Rows

theorem vals_ints : ∀ {vs : List Value} {ns : List Int}, IntsAre vs ns → Vals (ns.map V.int) vs
  | _, _, .nil => .nil
  | _, _, .cons n t h => .cons ⟨t, rfl⟩ (vals_ints h)

/-- nothing is tracked but the script, known to the object (or it is an object of the module) -/
def Only (H : Hp) : Prop := ∀ b, H b = none ∨ ∃ o xs, H b = some (.frz o (.lst xs))

/-- THE HEAD: the law's promise, at the heap behind the top. F, the promise of the law's def, may use that base is part of the heap (so K.In base, base.Ns mainGlobals mg stand in Mod) -/
theorem law_call {P : Program} {w : World} {K : PySem.W.Frag} {mg mb : Str → Option Value} {CX : CXT} {k : Nat} {fa a : Addr} {fd : FuncData} {x : Str} {sp : Sp} {s₁ : Shared} {vs : List Value} {ns : List Int}
    (KX : K.In s₁.heap) (hns : s₁.heap.Ns mainGlobals mg) (hb : s₁.heap.Ns builtinsNs mb) (hbb : ∀ x : Str, x ≠ "__name__" → mb x = bootBuiltins x) (hlim : s₁.heap.NoLimit) (hsm : ∃ mm, s₁.heap.Ns sysModules mm) (hg : s₁.gens = #[])
    (ha : s₁.heap.get? a = some { cls := .type "list", data := .seq vs.toArray }) (hi : IntsAre vs ns) (hl : ns.length ≤ sizeLine) (hr : Room k callerA)
    (F : ∀ base : Heap, K.In base → base.Ns mainGlobals mg → FnOk P w K mg base CX k fa fd [x] sp) (hbind : ∀ (s : Shared) (u : Value), BindsTo s fd ⟨[u], []⟩ [(x, u)])
    (hsp : ∀ H : Hp, Only H → SqL K H a (ns.map V.int) → sp [.ref a] H (fun v _ => v = .bl true) fun _ _ _ => False)
    (hCX : ∀ H e s', CX [] H s₁ (fun _ _ _ => False) e s' → False) :
    codeAny (model P w) callerA (.call (.ref fa) ⟨[.ref a], []⟩) (fun r s' => r = .ok (.ret (.bool true)) ∧ OldK s₁.heap s'.heap ∧ s'.os = s₁.os ∧ AllBare s'.gens) s₁ := by
  have rv := vals_ints hi
  have lenV := hi.length
  -- from an abstract heap in which nothing but the script may be tracked
  have core : ∀ H : Hp, Only H → SqL K H a (ns.map V.int) → HOk P w H s₁.heap → (∀ b, H b ≠ none → b = a) → (H a ≠ none → K.lookup a = none) →
      codeAny (model P w) callerA (.call (.ref fa) ⟨[.ref a], []⟩) (fun r s' => r = .ok (.ret (.bool true)) ∧ OldK s₁.heap s'.heap ∧ s'.os = s₁.os ∧ AllBare s'.gens) s₁ := by
    intro H hO hS hok hA hK
    have base_of : ∀ {b : Addr} {o : Obj}, s₁.heap.get? b = some o → H b = none → (hidT s₁.heap H).get? b = some o := fun e n => hidT_get e n
    have noA : ∀ {b : Addr} {o : Obj} {es : Array DictEntry} {ep : Nat}, s₁.heap.get? b = some o → o.data = .dict es ep → H b = none := fun {b o es ep} e d => by
      cases q : H b with
      | none => rfl
      | some u =>
        have e' : b = a := hA b (by rw [q]; simp)
        subst e'
        rw [ha] at e; cases e
        have d' : Data.seq vs.toArray _ = Data.dict es ep := d
        cases d'
    have nsK : ∀ {b : Addr} {m : Str → Option Value}, s₁.heap.Ns b m → (hidT s₁.heap H).Ns b m := fun {b m} ⟨o, es, ep, e, d, r⟩ => ⟨o, es, ep, base_of e (noA e d), d, r⟩
    have hKb : K.In (hidT s₁.heap H) := fun b o e => base_of (KX b o e) (by
      cases q : H b with
      | none => rfl
      | some u =>
        have e' : b = a := hA b (by rw [q]; simp)
        subst e'
        rw [hK (by rw [q]; simp)] at e; cases e)
    have hM : Mod K mg (hidT s₁.heap H) := ⟨hKb, nsK hns, ⟨mb, nsK hb, hbb⟩, (let ⟨mc, h1, h2⟩ := hlim; ⟨mc, nsK h1, h2⟩), let ⟨mm, h1⟩ := hsm; ⟨mm, nsK h1⟩⟩
    have e0 : Env0 P w K mg (hidT s₁.heap H) callerA [] s₁ H := ⟨rfl, hM, fun b o e => of_hidT e, Nat.le_of_eq (hidT_size _ _), trivial, fun b hb => absurd (show b ∈ ([] : List Addr) from hb) (by simp), hok, .of_eq hg⟩
    refine codeAny_mono ((F _ hKb (nsK hns)).run callerA [] s₁ H ⟨[.ref a], []⟩ [.ref a] [.ref a] _ _ hr e0 (hbind s₁ (.ref a)) (.cons rfl .nil) (hsp H hO hS)) fun r s' h => ?_
    cases r with
    | error e => exact (hCX H e s' h).elim
    | ok fl =>
      cases fl with
      | next => exact False.elim h
      | brk => exact False.elim h
      | cont => exact False.elim h
      | ret u =>
        obtain ⟨v, H', os, bare, un, hok', r', q⟩ := h
        have q' : v = .bl true := q
        subst q'
        obtain rfl : u = Value.bool true := r'
        refine ⟨rfl, OldK.of_keep fun b o e => ?_, os, bare⟩
        cases q : H b with
        | none => exact un.keep b o e q (by intro z; exact absurd (show b ∈ ([] : List Addr) from z) (by simp)) (by simp)
        | some u =>
          rcases hO b with z | ⟨ob, xs, z⟩
          · rw [q] at z; cases z
          · have z2 := un.frzs b ob _ z
            obtain ⟨e1, _⟩ := hok b _ z
            obtain ⟨e2, _⟩ := hok' b _ z2
            rw [e] at e1; cases e1
            exact e2
  cases hk : K.lookup a with
  | some o =>
    -- the script is one of the module's own objects
    have e := KX a o hk
    rw [ha] at e
    cases e
    refine core (fun _ => none) (fun _ => .inl rfl) (.inr ⟨_, vs.toArray, _, hk, rfl, rfl, rfl, by rw [List.size_toArray, lenV]; exact hl, by simpa using rv⟩) (fun b u z => by have z' : (none : Option HO) = some u := z; cases z') (fun b z => absurd rfl z) fun z => absurd rfl z
  | none =>
    refine core (fun b => if b = a then some (.frz { cls := .type "list", data := .seq vs.toArray } (.lst (ns.map V.int))) else none) (fun b => ?_) (.inl (.inr ⟨{ cls := .type "list", data := .seq vs.toArray }, if_pos rfl⟩)) (fun b u z => ?_) (fun b z => ?_) fun _ => hk
    · by_cases hb : b = a
      · exact .inr ⟨_, _, if_pos hb⟩
      · exact .inl (if_neg hb)
    · by_cases hb : b = a
      · have z' := (if_pos hb).symm.trans z
        cases z'
        subst hb
        exact ⟨ha, by rw [List.length_map]; exact hl, vs, _, rv, ha⟩
      · have z' := (if_neg hb).symm.trans z
        cases z'
    · by_cases hb : b = a
      · exact hb
      · exact absurd (if_neg hb) z
end L2

namespace L2
open PySem PySem.Spec PyProof.Rows

abbrev KOf {K : PySem.W.Frag} {h : Heap} (_ : K.In h) : PySem.W.Frag := K

/-- the goal that k_head leaves (case hc), from the law's promise. F gives the function object fd (K's own) once, then the promise over every base -/
theorem walk_of {l : PySem.W.OpenLaw} {n k : Nat} {q : Program} {loose : List Str} {XP : (Str → Option Value) → Heap → Prop} {YP : World → Heap → Prop} {d : DefRec} {K : Params → PySem.W.Frag} {CX : World → CXT} {sp : World → Sp} {x : Str}
    (hn : l.most = some n) (hn2 : n ≤ sizeLine) (hdf : d.params.defaults = []) (hr : Room k callerA)
    (hY : ∀ (w : World) (h : Heap), YP w h → (K w.params).In h)
    (F : ∀ (w : World) (mg : Str → Option Value) (fa : Addr) (h : Heap), (K w.params).In h → h.Ns mainGlobals mg → mg d.name = some (.ref fa) →
      ∃ fd : FuncData, (∀ (s : Shared) (u : Value), BindsTo s fd ⟨[u], []⟩ [(x, u)]) ∧
        ∀ base : Heap, (K w.params).In base → base.Ns mainGlobals mg → FnOk l.prog w (K w.params) mg base (CX w) k fa fd [x] (sp w))
    (hsp : ∀ (w : World) (H : Hp) (a : Addr) (ns : List Int), ns.length ≤ n → Only H → SqL (K w.params) H a (ns.map V.int) → sp w [.ref a] H (fun v _ => v = .bl true) fun _ _ _ => False)
    (hCX : ∀ (w : World) (H : Hp) (s : Shared) (e : Value) (s' : Shared), CX w [] H s (fun _ _ _ => False) e s' → False) (him : importsNone q = true) :
    PySem.W.WalkO q loose XP YP l.row.toRowW d [] (fun f vs => PySem.call f vs) := by
  refine Att.attach_call hn hdf fun w s₀ s₁ mg mb fa o pm cd doc a vs ns G Y ho hd hcd hmg hobj hints hlen hg => ?_
  have KX := hY w _ Y
  obtain ⟨fd, hb, hF⟩ := F w mg fa _ KX G.T.g hmg
  exact law_call KX G.T.g G.T.b G.T.builtins G.T.nolimit (let ⟨mm, h1, _⟩ := (G.T.seer him).mods; ⟨mm, h1⟩) hg hobj hints (Nat.le_trans hlen hn2) hr hF hb (fun H hO hS => hsp w H a ns hlen hO hS) fun H e s' => hCX w H s₁ e s'
end L2


namespace L2
open PySem PySem.Spec PyProof.Rows

def defArgs (s : Stmt) : Arguments := match s with
  | .FunctionDef _ a _ _ _ _ _ _ _ _ => a
  | _ => { posonlyargs := [], args := [], vararg := none, kwonlyargs := [], kw_defaults := [], kwarg := none, defaults := [] }
def defBody (s : Stmt) : List Stmt := match s with
  | .FunctionDef _ _ b _ _ _ _ _ _ _ => b
  | _ => []
def defScope (s : Stmt) : Scope := match s with
  | .FunctionDef _ _ _ _ _ _ sc _ _ _ => sc
  | _ => { kind := .function, names := [], isGenerator := false, isCoroutine := false }

abbrev CX0 : CXT := fun _ _ _ _ _ _ => False
abbrev E0 : XK := fun _ _ _ => False
theorem pass0 {X : Cx} : Passes CX0 X E0 := fun _ _ _ _ _ _ _ h => h.elim

structure Fun (K : PySem.W.Frag) (x qual : Str) (st : Stmt) (f : Addr) (fd : FuncData) : Prop where
  ex : ∃ (oc : Value) (od : Option Addr) (kV doc pm : Value) (an : Option Addr) (cdv ct : Value) (osl : Array (Option Value)),
    fd = PySem.W.fnOf x qual (defArgs st) (defBody st) (defScope st) .none kV doc pm an cdv ct ∧ K.lookup f = some ⟨oc, od, .func fd, osl⟩ ∧ PySem.W.codeIn K cdv qual = true
  kp : PySem.W.keepIn K (.ref f) = true
section
variable {P : Program} {w : World} {K : PySem.W.Frag} {mg : Str → Option Value} {base : Heap}
/-- THE RULE for a def: its body as a term of rules, and the reading of that term -/
theorem Fun.ok {x qual : Str} {st : Stmt} {f : Addr} {fd : FuncData} {N ps : List Str} {k : Nat} {sp : Sp} (F : Fun K x qual st f fd) (S : FnScope N ps (defScope st)) (len : ∀ vs H Q E, sp vs H Q E → vs.length = ps.length)
    (hbody : ∀ (cdv : Value) (A : Around) (outer : List Env) (s : Shared) (H : Hp) (vs : List V) (Q : VK) (E : XK), Room k (A.deeper (envOfC qual (defScope st) s.heap.objs.size f cdv)) → sp vs H Q E →
      ∃ t, PSs (cxOf CX0 P w K mg base N qual (defScope st) f cdv A outer s H E).nox (defBody st) t ∧ t { nx := fun _ H' => Q .non H', rt := Q } (start N vs) H) : FnOk P w K mg base CX0 (k + 1) f fd ps sp := by
  obtain ⟨oc, od, kV, doc, pm, an, cdv, ct, osl, rfl, lk, hcd⟩ := F.ex
  refine fn_of lk hcd S len fun A outer s H vs Q E hr hsp => ?_
  obtain ⟨t, h, q⟩ := hbody cdv A outer s H vs Q E hr hsp
  exact ⟨t, h.nox, q⟩
/-- how its arguments bind (no defaults): h is «fun _ _ _ _ _ _ us hl => match us, hl with | [_, _], _ => rfl», one _ a parameter -/
theorem Fun.binds {x qual : Str} {st : Stmt} {f : Addr} {fd : FuncData} {ps : List Str} (F : Fun K x qual st f fd)
    (h : ∀ (kV doc pm : Value) (an : Option Addr) (cdv ct : Value) (us : List Value), us.length = ps.length → bindArgs (PySem.W.fnOf x qual (defArgs st) (defBody st) (defScope st) .none kV doc pm an cdv ct) ⟨us, []⟩ = pure (ps.zip us)) : Binds K fd ps [] := by
  obtain ⟨oc, od, kV, doc, pm, an, cdv, ct, osl, rfl, lk, hcd⟩ := F.ex
  exact .all (h kV doc pm an cdv ct)
theorem fun_mk {x qual : Str} {st : Stmt} {f : Addr} {oc : Value} {od an : Option Addr} {osl : Array (Option Value)} {kV doc pm cdv ct : Value} (l : K.lookup f = some ⟨oc, od, .func (PySem.W.fnOf x qual (defArgs st) (defBody st) (defScope st) .none kV doc pm an cdv ct), osl⟩)
    (c : PySem.W.codeIn K cdv qual = true) (k : PySem.W.keepIn K (.ref f) = true) : Fun K x qual st f (PySem.W.fnOf x qual (defArgs st) (defBody st) (defScope st) .none kV doc pm an cdv ct) := ⟨⟨oc, od, kV, doc, pm, an, cdv, ct, osl, rfl, l, c⟩, k⟩
end
section
variable {X : Cx}
end

theorem iteF {A B : Prop} (h : B) : if false = true then A else B := by
  rw [if_neg Bool.false_ne_true]
  exact h
theorem iteT {A B : Prop} (h : A) : if true = true then A else B := by
  rw [if_pos rfl]
  exact h
/-- all that was tracked is as it was -/
def Same (H H' : Hp) : Prop := ∀ b o, H b = some o → H' b = some o
theorem Same.refl (H : Hp) : Same H H := fun _ _ h => h
theorem Same.trans {H H1 H2 : Hp} (a : Same H H1) (b : Same H1 H2) : Same H H2 := fun c o h => b c o (a c o h)
theorem Same.free {H H' : Hp} (e : Same H H') {l : Addr} (h : H' l = Option.none) : H l = Option.none := by
  cases q : H l with
  | none => rfl
  | some o =>
    rw [e l o q] at h
    cases h
theorem Same.seq {K : PySem.W.Frag} {H H' : Hp} {a : Addr} {xs : List V} (e : Same H H') (h : SqL K H a xs) : SqL K H' a xs := by
  rcases h with (h | ⟨o, h⟩) | h
  · exact .inl (.inl (e _ _ h))
  · exact .inl (.inr ⟨o, e _ _ h⟩)
  · exact .inr h

end L2

set_option maxHeartbeats 4000000
namespace L2
open PySem PySem.Spec PyProof.Rows

def clOf (env : Env) : List (Str × NameKind) → List (Str × Addr) → List (Str × Addr)
  | [], acc => acc
  | (n, k) :: r, acc => clOf env r (if k == .free then (match env.cells.lookup n with | some c => (n, c) :: acc | none => acc) else acc)
theorem clOf_mem {env : Env} : ∀ {names : List (Str × NameKind)} {acc : List (Str × Addr)}, (∀ x c, (x, c) ∈ acc → env.cells.lookup x = some c) → ∀ x c, (x, c) ∈ clOf env names acc → env.cells.lookup x = some c
  | [], _, h, x, c, m => h x c m
  | (n, k) :: r, acc, h, x, c, m => by
    refine clOf_mem (names := r) ?_ x c m
    intro y d hm
    cases hk : (k == NameKind.free) with
    | false => rw [hk] at hm; exact h y d hm
    | true =>
      rw [hk] at hm
      simp only [if_true] at hm
      cases e : env.cells.lookup n with
      | none => rw [e] at hm; exact h y d hm
      | some c' =>
        rw [e] at hm
        rcases List.mem_cons.mp hm with z | z
        · cases z; exact e
        · exact h y d z
theorem clOf_sub {env : Env} : ∀ {names : List (Str × NameKind)} {acc : List (Str × Addr)} {p : Str × Addr}, p ∈ acc → p ∈ clOf env names acc
  | [], _, _, h => h
  | (n, k) :: r, acc, p, h => by
    refine clOf_sub (names := r) ?_
    split
    · split
      · exact List.mem_cons_of_mem _ h
      · exact h
    · exact h
theorem clOf_has {env : Env} {x : Str} {c : Addr} (e : env.cells.lookup x = some c) : ∀ {names : List (Str × NameKind)} {acc : List (Str × Addr)}, (x, NameKind.free) ∈ names → (x, c) ∈ clOf env names acc
  | [], _, h => by simp at h
  | (n, k) :: r, acc, h => by
    rcases List.mem_cons.mp h with z | z
    · cases z
      refine clOf_sub (names := r) ?_
      rw [e]
      simp
    · exact clOf_has e (names := r) z
theorem lookup_of_all {l : List (Str × Addr)} {x : Str} {c : Addr} (hm : (x, c) ∈ l) (ha : ∀ d, (x, d) ∈ l → d = c) : l.lookup x = some c := by
  induction l with
  | nil => simp at hm
  | cons p r ih =>
    obtain ⟨n, d⟩ := p
    by_cases e : x = n
    · subst e
      have : d = c := ha d (by simp)
      subst this
      simp [List.lookup_cons]
    · have hb : (x == n) = false := by simpa using e
      rw [List.lookup_cons, hb]
      refine ih ?_ fun d' h' => ha d' (List.mem_cons_of_mem _ h')
      rcases List.mem_cons.mp hm with z | z
      · cases z; exact absurd rfl e
      · exact z
theorem clOf_lookup {env : Env} {names : List (Str × NameKind)} {x : Str} {c : Addr} (e : env.cells.lookup x = some c) (h : (x, NameKind.free) ∈ names) : (clOf env names []).lookup x = some c :=
  lookup_of_all (clOf_has e h) fun d hd => by
    have q := clOf_mem (names := names) (acc := []) (env := env) (by simp) x d hd
    rw [e] at q
    exact (Option.some.inj q).symm
theorem clOf_some {env : Env} {names : List (Str × NameKind)} {x : Str} {c : Addr} (e : (clOf env names []).lookup x = some c) : env.cells.lookup x = some c :=
  clOf_mem (names := names) (acc := []) (env := env) (by simp) x c (PySem.mem_of_lookup e)

theorem closure_eq {env : Env} : ∀ (names : List (Str × NameKind)) (acc : List (Str × Addr)), (∀ x ∈ names, x.2 = NameKind.free → ∃ c, env.cells.lookup x.1 = some c) →
    (forIn (m := Sem) names acc fun x r => match x with
      | (name, kind) => if (kind == NameKind.free) = true then do let c ← cellOf env name; pure (ForInStep.yield ((name, c) :: r)) else pure (ForInStep.yield r)) = pure (clOf env names acc)
  | [], acc, _ => rfl
  | (n, k) :: r, acc, h => by
    rw [List.forIn_cons]
    cases hk : (k == NameKind.free) with
    | false =>
      simp only [hk, Bool.false_eq_true, if_false, pure_bind, clOf]
      exact closure_eq r acc fun x hx => h x (List.mem_cons_of_mem _ hx)
    | true =>
      obtain ⟨c, e⟩ := h (n, k) List.mem_cons_self (by simpa using hk)
      simp only [hk, if_true, pure_bind, clOf, cellOf, e]
      exact closure_eq r ((n, c) :: acc) fun x hx => h x (List.mem_cons_of_mem _ hx)
theorem closureFor_cl {scope : Scope} {env : Env} (h : ∀ x ∈ scope.names, x.2 = NameKind.free → ∃ c, env.cells.lookup x.1 = some c) : closureFor scope env = pure (clOf env scope.names []) := by
  unfold closureFor
  have := closure_eq (env := env) scope.names [] h
  simp only [this, pure_bind]

theorem comp_loop {prog : Program} {w : World} {A : Around} {R : Result → Shared → Prop} {s : Shared} {elt target iter : Expr} {ifs : List Expr} {scope : Scope} {pos : Pos} {it acc : Value} {env : Env} (I : Nat → Shared → Prop)
    (turn : ∀ n s, I n s → wpAny (model prog w) A (pyNext it) (fun r s₁ => match r with
      | none => R (.ok .next) s₁
      | some v => wpAny (model prog w) A (letOwnedTupleGo target it v) (fun _ s₁' => wpAny (model prog w) A (assign target env v) (fun _ s₂ =>
          wpAny (model prog w) A (forIn ifs true fun c r => if r = true then do let ok ← isTrue c env (eval c env); pure (ForInStep.yield ok) else pure (ForInStep.yield r)) (fun ok s₃ =>
            if ok = true then wpAny (model prog w) A (eval elt env) (fun x s₄ =>
              wpAny (model prog w) A (call (.builtin "list.append") [acc, x]) (fun _ s₅ => ∃ m, m < n ∧ I m s₅) (fun _ _ => False) s₄) (fun _ _ => False) s₃
            else ∃ m, m < n ∧ I m s₃) (fun _ _ => False) s₂) (fun _ _ => False) s₁') (fun _ _ => False) s₁) (fun _ _ => False) s)
    (n : Nat) (h : I n s) :
    codeAny (model prog w) A (.compLoop (.ListComp elt [⟨target, iter, ifs, 0⟩] scope pos) 0 it acc env) R s := by
  refine codeAny_loop rfl I (fun n s hI => ?_) n h
  show wpAny _ A ((compTurn (.ListComp elt [⟨target, iter, ifs, 0⟩] scope pos) 0 it acc env).onRaise (fun x => do noteFrame x env; theTreesLotGoes x)) _ _ s
  refine wpAny_noted ?_
  rw [compTurn_list]
  refine wpAny_bind (wpAny_standAt (wpAny_bind (wpAny_mono (turn n s hI) (fun r s₁ h₁ => ?_) fun _ _ h' => h'.elim)))
  cases r with
  | none => exact wpAny_pure h₁
  | some v =>
    refine wpAny_bind (wpAny_mono h₁ (fun _ s₁' h₁' => ?_) fun _ _ h' => h'.elim)
    refine wpAny_bind (wpAny_mono h₁' (fun _ s₂ h₂ => wpAny_bind (wpAny_mono h₂ (fun ok s₃ h₃ => ?_) fun _ _ h' => h'.elim)) fun _ _ h' => h'.elim)
    cases ok with
    | false => exact wpAny_pure ⟨rfl, h₃⟩
    | true =>
      exact wpAny_bind (wpAny_bind (wpAny_mono h₃ (fun x s₄ h₄ => wpAny_bind (wpAny_mono h₄ (fun _ s₅ h₅ => wpAny_pure (wpAny_pure ⟨rfl, h₅⟩)) fun _ _ h' => h'.elim)) fun _ _ h' => h'.elim))
end L2

namespace L2
open PySem PySem.Spec PyProof.Rows

/-- the block of a comprehension: entered at s₀ (the list is laid, the names are not), its iterator's records and its list at ex -/
def cxC (X : Cx) (N' : List Str) (scope : Scope) (C : Addr) (s₀ : Shared) (H₀ : Hp) (ex : List Addr) : Cx :=
  { X with N := N', s₀ := s₀, H₀ := H₀, env := compEnvC scope (clOf X.env scope.names []) C X.env, outer := X.stack, ex := ex, fn := fun _ => false, pn := [], xe := fun _ _ => False }
/-- the block's names at a turn's start: the free ones as outside -/
def subSt (sub : List (Option Nat)) (σ : St) : St := sub.map fun o => o.bind fun j => (σ[j]?).join
/-- N, sc: the names and the scope outside; N', scope: the block's; sub: where each of its names stands outside (none: the block's own) -/
structure SubOk (N : List Str) (sc : Scope) (N' : List Str) (scope : Scope) (sub : List (Option Nat)) : Prop where
  kind : scope.kind = .function
  nocell : ∀ x ∈ scope.names, x.2 ≠ .cell
  loc : ∀ x ∈ scope.names, x.2 = .local → scope.names.lookup x.1 = some .local
  free : ∀ x ∈ scope.names, x.2 = .free → sc.names.lookup x.1 = some .cell ∨ sc.names.lookup x.1 = some .free
  len : sub.length = N'.length
  at_ : ∀ (i j : Nat) (x : Str), sub[i]? = some (some j) → N'[i]? = some x → N[j]? = some x ∧ (x, NameKind.free) ∈ scope.names ∧ scope.names.lookup x = some .free
def subOkB (N : List Str) (sc : Scope) (N' : List Str) (scope : Scope) (sub : List (Option Nat)) : Bool :=
  decide (scope.kind = .function) && scope.names.all (fun x => decide (x.2 ≠ .cell)) && scope.names.all (fun x => decide (x.2 = .local → scope.names.lookup x.1 = some .local)) &&
  scope.names.all (fun x => decide (x.2 = .free → sc.names.lookup x.1 = some .cell ∨ sc.names.lookup x.1 = some .free)) && decide (sub.length = N'.length) &&
  (List.range sub.length).all fun i => match sub[i]?, N'[i]? with
    | some (some j), some x => decide (N[j]? = some x ∧ (x, NameKind.free) ∈ scope.names ∧ scope.names.lookup x = some .free)
    | _, _ => true
theorem subOk_of {N : List Str} {sc : Scope} {N' : List Str} {scope : Scope} {sub : List (Option Nat)} (h : subOkB N sc N' scope sub = true) : SubOk N sc N' scope sub := by
  simp only [subOkB, Bool.and_eq_true, decide_eq_true_eq, List.all_eq_true] at h
  obtain ⟨⟨⟨⟨⟨h1, h2⟩, h3⟩, h4⟩, h5⟩, h6⟩ := h
  refine ⟨h1, h2, h3, h4, h5, fun i j x e1 e2 => ?_⟩
  have hi : i < sub.length := (List.getElem?_eq_some_iff.mp e1).1
  have q := h6 i (List.mem_range.mpr hi)
  rw [e1, e2] at q
  simpa using q

def tTrue : TT := fun _ H Q => Q true H
/-- the tests of a comprehension's clause -/
def PIfs (X : Cx) (ifs : List Expr) (t : TT) : Prop :=
  ∀ (pins : List (Addr × Obj)) (s : Shared) (σ : St) (H : Hp) (Q : Bool → Hp → Prop), Inv X pins σ H s → t σ H Q →
    wpAny (model X.prog X.w) X.A (forIn ifs true fun c r => if r = true then do let ok ← isTrue c X.env (eval c X.env); pure (ForInStep.yield ok) else pure (ForInStep.yield r)) (TP X pins σ Q) X.xe s
theorem pifs_nil {X : Cx} : PIfs X [] tTrue := fun _ _ _ H _ I h => wpAny_tests_nil ⟨H, I, h⟩
theorem pifs_one {X : Cx} {c : Expr} {t : TT} (hc : PT X c t) : PIfs X [c] t := fun pins s σ H Q I h => wpAny_tests_one (hc pins s σ H Q I h)

/-- [elt for tg in iter if ..]: W i m ys H: ahead of turn i, m a measure, ys the list so far -/
def KeepSt (σ σ' : St) : Prop := σ'.length = σ.length ∧ ∀ (i : Nat) (v : V), σ[i]? = some (some v) → σ'[i]? = some (some v)
theorem KeepSt.set {σ : St} {i : Nat} {v : V} (h : σ[i]? = some none) : KeepSt σ (σ.set i (some v)) := by
  refine ⟨by simp, fun j u e => ?_⟩
  by_cases hj : i = j
  · subst hj; rw [h] at e; cases e
  · rw [List.getElem?_set_ne hj]; exact e
def tComp (sub : List (Option Nat)) (wi : TI) (g : TG) (tt : TT) (te : TE) : TE := fun σ H Q => wi σ H fun J H1 => ∃ W : Nat → Nat → List V → Hp → Prop, (∃ m, W 0 m [] H1) ∧ ∀ i m ys H, W i m ys H →
  (J.stop i H ∧ ys.length ≤ sizeLine ∧ ∀ D, H D = none → Q (.ref D) (upd H D (.lst ys))) ∨
  (J.go i H ∧ ys.length < sizeLine ∧ ∃ N : List V → Hp → Prop, (∀ ys' H', N ys' H' → ∃ m', m' < m ∧ W (i + 1) m' ys' H') ∧
    ∀ x H', J.yld i H x H' → g x (subSt sub σ) H' fun σ2 H2 => KeepSt (subSt sub σ) σ2 ∧ tt σ2 H2 fun b H3 => if b = true then te σ2 H3 fun y H4 => N (ys ++ [y]) H4 else N ys H3)

theorem relabel_free {scope : Scope} {env : Env} {x : Str} (hx : scope.names.lookup x = some .free) : (relabel scope env).names.lookup x = some .cell ∨ (relabel scope env).names.lookup x = some .free := by
  have : ∀ names : List (Str × NameKind), names.lookup x = some .free →
    (names.map fun (n, k) => if (k == NameKind.free && env.scope.kind == .function && env.kindOf n == some .cell) then (n, NameKind.cell) else (n, k)).lookup x = some .cell ∨
    (names.map fun (n, k) => if (k == NameKind.free && env.scope.kind == .function && env.kindOf n == some .cell) then (n, NameKind.cell) else (n, k)).lookup x = some .free := by
    intro names
    induction names with
    | nil => intro h; simp at h
    | cons p r ih =>
      obtain ⟨n, k⟩ := p
      intro h
      by_cases e : x = n
      · subst e
        have hk : k = .free := by simpa [List.lookup_cons] using h
        subst hk
        by_cases hc : ((NameKind.free == NameKind.free && env.scope.kind == .function && env.kindOf x == some .cell) = true)
        · left; simp only [List.map_cons]; rw [if_pos hc]; simp [List.lookup_cons]
        · right; simp only [List.map_cons]; rw [if_neg hc]; simp [List.lookup_cons]
      · have hb : (x == n) = false := by simpa using e
        rw [List.lookup_cons, hb] at h
        have q := ih h
        simp only [List.map_cons]
        split <;> (rw [List.lookup_cons, hb]; exact q)
  exact this scope.names hx
theorem relabel_back {scope : Scope} {env : Env} {x : Str} (hn : ∀ y ∈ scope.names, y.2 ≠ .cell) (h : (relabel scope env).names.lookup x = some .cell ∨ (relabel scope env).names.lookup x = some .free) : (x, NameKind.free) ∈ scope.names := by
  have key : ∀ k, (k = NameKind.cell ∨ k = NameKind.free) → (relabel scope env).names.lookup x = some k → (x, NameKind.free) ∈ scope.names := by
    intro k hk hl
    have hm := PySem.mem_of_lookup hl
    unfold relabel at hm
    obtain ⟨⟨n, k'⟩, hm1, hm2⟩ := List.mem_map.mp hm
    dsimp only at hm2
    by_cases hc : (k' == NameKind.free && env.scope.kind == .function && env.kindOf n == some .cell) = true
    · rw [if_pos hc] at hm2
      cases hm2
      simp only [Bool.and_eq_true, beq_iff_eq] at hc
      rw [← hc.1.1]; exact hm1
    · rw [if_neg hc] at hm2
      cases hm2
      rcases hk with hk | hk
      · subst hk; exact absurd rfl (hn _ hm1)
      · subst hk; exact hm1
  rcases h with h | h
  · exact key _ (.inl rfl) h
  · exact key _ (.inr rfl) h

section
variable {X : Cx} {tg iter elt : Expr} {ifs : List Expr} {scope : Scope} {pos : Pos} {N' : List Str} {sub : List (Option Nat)} {wi : TI} {g : TG} {tt : TT} {te : TE}

/-- the block's entry -/
theorem inv_block {pins : List (Addr × Obj)} {σ : St} {H : Hp} {s : Shared} {fp : List Addr} {D : Addr} {h' : Heap} {tk : Nat} {N : List Str} {sc : Scope} (S : SubOk N sc N' scope sub) (hN : X.N = N) (hsc : X.env.scope = sc) (I : Inv X pins σ H s) (hf : ∀ b ∈ fp, FpOk X pins H b) (hfo : ∀ b ∈ fp, b < s.heap.objs.size)
    (hD : D < s.heap.objs.size) (fD : FpOk X pins H D) (hns : h'.Ns s.heap.objs.size fun _ => none) (hk : ∀ b o, s.heap.get? b = some o → h'.get? b = some o) :
    Inv (cxC X N' scope s.heap.objs.size s H (D :: fp)) [] (subSt sub σ) H { s with heap := h', toks := tk } := by
  have hex : ∀ b ∈ D :: fp, FpOk X pins H b ∧ b < s.heap.objs.size := fun b hb => by
    rcases List.mem_cons.mp hb with rfl | z
    · exact ⟨fD, hD⟩
    · exact ⟨hf b z, hfo b z⟩
  refine ⟨⟨I.ok.mod, S.kind, I.ok.glob, I.ok.blt, Nat.le_refl _, fun x y c h1 h2 => I.ok.inj x y c (clOf_some h1) (clOf_some h2), fun x hx => ?_, fun x c hx _ => (nomatch hx), I.ok.hd, I.ok.frames, .inl rfl, fun b hb => ?_, I.bs, Nat.le_trans I.ok.bsz I.sz, fun b o e hb => ?_, fun b hb => ?_, I.stack, I.stkFree⟩,
    rfl, I.bare, Un.kept hk, ⟨_, hns, fun i x v h1 h2 h3 => ?_⟩, fun x c h => ?_, I.hok.fresh (Nat.le_refl _), fun x c h => I.freeC x c (clOf_some h), fun p hp => (nomatch hp), I.hok.kept hk, ?_⟩
  · have hx' : (x, NameKind.free) ∈ scope.names := relabel_back S.nocell hx
    obtain ⟨c, e⟩ := I.ok.has x (by have := S.free _ hx' rfl; rw [← hsc] at this; exact this)
    exact ⟨c, clOf_lookup e hx'⟩
  · obtain ⟨⟨f0, f1, f2, f3, f4, f5⟩, hlt⟩ := hex b hb
    exact ⟨Nat.ne_of_lt hlt, fun x c h => f4 x c (clOf_some h)⟩
  · obtain ⟨⟨f0, f1, f2, f3, f4, f5⟩, hlt⟩ := hex b hb
    rcases f3 with z | z
    · exact I.ok.noex b o e z
    · exact absurd (Nat.lt_of_lt_of_le (Heap.lt_size (I.ok.bs b o e).1) z) (Nat.lt_irrefl _)
  · obtain ⟨⟨f0, f1, f2, f3, f4, f5⟩, hlt⟩ := hex b hb
    intro z
    rcases List.mem_cons.mp (I.stkSub b z) with z | z
    · exact f1 z
    · exact f2 z
  · have hs : ∃ j, sub[i]? = some (some j) ∧ σ[j]? = some (some v) := by
      unfold subSt at h2
      rw [List.getElem?_map] at h2
      cases e : sub[i]? with
      | none => rw [e] at h2; cases h2
      | some o =>
        rw [e] at h2
        cases o with
        | none => cases h2
        | some j =>
          refine ⟨j, rfl, ?_⟩
          have h3 : (σ[j]?).join = some v := Option.some.inj h2
          cases e2 : σ[j]? with
          | none => rw [e2] at h3; cases h3
          | some z => rw [e2] at h3; cases z with
            | none => cases h3
            | some z => cases h3; rfl
    obtain ⟨j, e1, e2⟩ := hs
    obtain ⟨g1, g2, g3⟩ := S.at_ i j x e1 h1
    rw [← hN] at g1
    obtain ⟨m, hn, hl⟩ := I.loc
    have hkf : X.env.kindOf x = some .cell ∨ X.env.kindOf x = some .free := by have := S.free _ g2 rfl; rw [← hsc] at this; exact this
    have hvis : Vis X.env.scope x := by
      rcases hkf with z | z
      · exact .inr (.inl z)
      · exact .inr (.inr z)
    obtain ⟨u, r, l⟩ := hl j x v g1 e2 hvis
    refine ⟨u, r, .inr ⟨relabel_free g3, ?_⟩⟩
    rcases l with ⟨k, _⟩ | ⟨_, c, e, o, ho, hd⟩
    · have k' : X.env.kindOf x = some .local := k
      rcases hkf with z | z <;> (rw [k'] at z; cases z)
    · exact ⟨c, clOf_lookup e g2, o, hk _ _ ho, hd⟩
  · obtain ⟨v, o, ho, hd⟩ := I.cell x c (clOf_some h)
    exact ⟨v, o, hk _ _ ho, hd⟩
  · show (subSt sub σ).length = N'.length
    unfold subSt
    rw [List.length_map]
    exact S.len

theorem pe_comp {N : List Str} {sc : Scope} (S : SubOk N sc N' scope sub) (hc : X.calm = true) (hN : X.N = N) (hsc : X.env.scope = sc) (hi : PI X tg iter wi)
    (hg : ∀ (C : Addr) (s₀ : Shared) (H₀ : Hp) (ex : List Addr), PG (cxC X N' scope C s₀ H₀ ex) tg g)
    (ht : ∀ (C : Addr) (s₀ : Shared) (H₀ : Hp) (ex : List Addr), PIfs (cxC X N' scope C s₀ H₀ ex) ifs tt)
    (he : ∀ (C : Addr) (s₀ : Shared) (H₀ : Hp) (ex : List Addr), PE (cxC X N' scope C s₀ H₀ ex) elt te)
    (hs : ∀ x, foldedSetIterable iter X.env x = pure x := by intro _; rfl) :
    PE X (.ListComp elt [⟨tg, iter, ifs, 0⟩] scope pos) (tComp sub wi g tt te) := by
  intro pins s σ H Q I h
  rw [eval_ListComp]
  have hcl : ∀ x ∈ scope.names, x.2 = NameKind.free → ∃ c, X.env.cells.lookup x.1 = some c := fun x hx hk => I.ok.has x.1 (by have := S.free x hx hk; rw [← hsc] at this; exact this)
  refine wpAny_comprehension_free (use := none) rfl hs (closureFor_cl hcl) S.kind S.loc ?_
  refine thn (hi pins s σ H _ I h) fun v s1 h1 => thn h1 fun itv s2 h2 => ?_
  obtain ⟨it, fp, tn, J, H2, e, I2, T, st2, f2, W, ⟨m0, w0⟩, turn⟩ := h2
  subst e
  refine wpAny_newObj_type (wpAny_newFunctionEnv S.nocell (by intro y hy; simp at hy) (fun h₁ hns₁ hsb₁ => ?_) S.kind)
  dsimp only at hns₁ hsb₁ ⊢
  generalize hs3 : ({ s2 with heap := s2.heap.push { cls := .type "list", dict := none, data := .seq ([] : List Value).toArray } } : Shared) = s3
  have e3 : s2.heap.push { cls := .type "list", dict := none, data := .seq ([] : List Value).toArray } = s3.heap := by rw [← hs3]
  rw [e3] at hns₁ hsb₁ ⊢
  have hD3 : s3.heap.get? s2.heap.objs.size = some { cls := .type "list", dict := none, data := .seq ([] : List Value).toArray } := by rw [← e3]; exact Heap.get?_push_size _ rfl
  have I3 : Inv X pins σ H2 s3 := by
    rw [← hs3]
    exact I2.kept (t' := s2.toks) fun b o e => Heap.get?_push_of_some _ e
  have k23 : ∀ b o, s2.heap.get? b = some o → s3.heap.get? b = some o := fun b o e => by rw [← e3]; exact Heap.get?_push_of_some _ e
  have hsz : s3.heap.objs.size = s2.heap.objs.size + 1 := by rw [← e3, Heap.size_push]
  have hk31 : ∀ b o, s3.heap.get? b = some o → h₁.get? b = some o := fun b o e => hsb₁.extBut b o (Nat.ne_of_lt (Heap.lt_size e)) (Heap.get?_push_of_some _ e)
  have hDn : H2 s2.heap.objs.size = none := I2.hok.fresh (Nat.le_refl _)
  have fD : FpOk X pins H2 s2.heap.objs.size := I2.fpOk (Nat.le_refl _) hDn
  have hfo : ∀ b ∈ fp, b < s2.heap.objs.size := fun b hb => let ⟨o, e, _⟩ := T.obj _ _ st2 b hb; Heap.lt_size e
  have hDfp : s2.heap.objs.size ∉ fp := fun z => absurd (hfo _ z) (Nat.lt_irrefl _)
  have I4 := inv_block (tk := s3.toks + ([] : List (Str × Value)).length) S hN hsc I3 f2 (fun b hb => by rw [hsz]; exact Nat.lt_succ_of_lt (hfo b hb)) (D := s2.heap.objs.size) (by rw [hsz]; exact Nat.lt_succ_self _) fD hns₁ hk31
  -- facts of the block
  have stat : ∀ {H' : Hp} {ob : Obj}, (∀ b ∈ fp, H' b = none) → ∀ b ∈ fp, FpOk (cxC X N' scope s3.heap.objs.size s3 H2 (s2.heap.objs.size :: fp)) [(s2.heap.objs.size, ob)] H' b := fun {H' ob} hn b hb => by
    obtain ⟨q1, q2⟩ := I4.ok.exf b (List.mem_cons_of_mem _ hb)
    refine ⟨hn b hb, q1, I4.ok.exfs b (List.mem_cons_of_mem _ hb), .inl (List.mem_cons_of_mem _ hb), q2, fun p hp z => ?_⟩
    have hp' : p = (s2.heap.objs.size, ob) := by simpa [cxC] using hp
    subst hp'
    have z' : s2.heap.objs.size = b := z
    exact hDfp (by rw [z']; exact hb)
  generalize hXC : cxC X N' scope s3.heap.objs.size s3 H2 (s2.heap.objs.size :: fp) = XC at I4 stat
  have eP : XC.prog = X.prog := by rw [← hXC]; rfl
  have eW : XC.w = X.w := by rw [← hXC]; rfl
  have eK : XC.K = X.K := by rw [← hXC]; rfl
  have eA : XC.A = X.A := by rw [← hXC]; rfl
  have eE : XC.env = compEnvC scope (clOf X.env scope.names []) s3.heap.objs.size X.env := by rw [← hXC]; rfl
  have eC : XC.calm = true := by rw [← hXC]; exact hc
  have eX : XC.xe = fun _ _ => False := by rw [← hXC]; rfl
  have eH : XC.H₀ = H2 := by rw [← hXC]; rfl
  have eS : XC.s₀ = s3 := by rw [← hXC]; rfl
  have eF : XC.fs = frs X.stack := by rw [← hXC]; rfl
  have eEx : XC.ex = s2.heap.objs.size :: fp := by rw [← hXC]; rfl
  have ePn : XC.pn = [] := by rw [← hXC]; rfl
  have hgC : PG XC tg g := by rw [← hXC]; exact hg _ _ _ _
  have htC : PIfs XC ifs tt := by rw [← hXC]; exact ht _ _ _ _
  have heC : PE XC elt te := by rw [← hXC]; exact he _ _ _ _
  have pinD : ∀ {σ' : St} {H' : Hp} {s' : Shared} {ob : Obj}, Inv XC [] σ' H' s' → H' s2.heap.objs.size = none → s'.heap.get? s2.heap.objs.size = some ob → (∀ v, ob.data ≠ .cell v) → Inv XC [(s2.heap.objs.size, ob)] σ' H' s' := fun {σ' H' s' ob} J hn hg hd =>
    J.pins_of fun p hp => by
      have hp' : p = (s2.heap.objs.size, ob) := by simpa using hp
      subst hp'
      refine ⟨hg, hn, (J.ok.exf _ (by rw [eEx]; exact List.mem_cons_self)).1, J.ok.exfs _ (by rw [eEx]; exact List.mem_cons_self), hd⟩
  have loop : codeAny (model X.prog X.w) X.A (.compLoop (.ListComp elt [⟨tg, iter, ifs, 0⟩] scope pos) 0 (.ref it) (.ref s2.heap.objs.size) (compEnvC scope (clOf X.env scope.names []) s3.heap.objs.size X.env))
      (compPost (model X.prog X.w) X.A X.xe none (EP X pins σ Q) (.ref s2.heap.objs.size) s3.heap.objs.size) { s3 with heap := h₁, toks := s3.toks + ([] : List (Str × Value)).length } := by
    refine comp_loop (fun n s' => ∃ (i : Nat) (ys : List V) (its : List Value) (nn : Nat) (H' : Hp), Inv XC [] (subSt sub σ) H' s' ∧ tn i s'.heap ∧ (∀ b ∈ fp, H' b = none) ∧ H' s2.heap.objs.size = none ∧
      s'.heap.get? s2.heap.objs.size = some { cls := .type "list", data := .seq its.toArray nn } ∧ Vals ys its ∧ W i n ys H') ?_ m0
      ⟨0, [], [], _, H2, I4, T.keep _ _ _ st2 fun b _ o e => hk31 b o (k23 b o e), fun b hb => (f2 b hb).1, hDn, hk31 _ _ hD3, .nil, w0⟩
    rintro n s4 ⟨i, ys, its, nn, H4, J4, st4, fr4, dn4, dg4, rv4, w4⟩
    have P4 := pinD J4 dn4 dg4 (fun v z => by cases z)
    rcases turn i n ys H4 w4 with ⟨stop, hyl, qn⟩ | ⟨go, hyl, N, hN, step⟩
    · have hdone := T.done XC eP eW eK eC i _ s4 _ H4 (fun _ _ => False) P4 (stat fr4) st4 stop
      rw [eA] at hdone
      refine wpAny_mono hdone (fun r s5 ⟨hr, I5⟩ => ?_) fun _ _ z => z
      subst hr
      -- the end
      obtain ⟨m, hn, _⟩ := id I5.loc
      have hCe : XC.env.locals = s3.heap.objs.size := by rw [eE]; rfl
      rw [hCe] at hn
      refine ⟨m, hn, fun h6 hs6 => ?_⟩
      have hDg := (I5.pin (s2.heap.objs.size, _) (by rw [ePn]; exact List.mem_cons_self)).1
      have hDne : s2.heap.objs.size ≠ s3.heap.objs.size := by rw [hsz]; exact Nat.ne_of_lt (Nat.lt_succ_self _)
      have hHC : H4 s3.heap.objs.size = none := by have := I5.free; rw [hCe] at this; exact this
      have k56 : ∀ b o, b ≠ s3.heap.objs.size → s5.heap.get? b = some o → h6.get? b = some o := fun b o hb e => hs6.extBut b o hb e
      have un := I5.base
      rw [eF, eEx, eH, eS] at un
      have nC : ∀ b o, s3.heap.get? b = some o → b ≠ s3.heap.objs.size := fun b o e => Nat.ne_of_lt (Heap.lt_size e)
      have hok6 : HOk X.prog X.w (upd H4 s2.heap.objs.size (.lst ys)) h6 := by
        have h5 := I5.hok
        rw [eP, eW] at h5
        have trk : ∀ b u, H4 b = some u → b ≠ s3.heap.objs.size := fun b u e z => by rw [z, hHC] at e; cases e
        intro b u e
        by_cases hb : b = s2.heap.objs.size
        · subst hb
          rw [upd_same] at e; cases e
          exact ⟨hyl, its, nn, rv4, k56 _ _ hDne hDg⟩
        · rw [upd_ne hb] at e
          have nD : ∀ c u, H4 c = some u → c ≠ s2.heap.objs.size := fun c u e z => by rw [z, dn4] at e; cases e
          refine (h5 b u e).stay (fun c v hc' q => k56 c v ?_ q) (fun c q => by rw [upd_ne (nD c _ q)]; exact q) fun c xs q => by rw [upd_ne (nD c _ q)]; exact q
          rcases hc' with z | z
          · rw [z]; exact trk b u e
          · exact trk c _ z
      have nD2 : ∀ c u, H4 c = some u → c ≠ s2.heap.objs.size := fun c u e z => by rw [z, dn4] at e; cases e
      have un6 : Un (frs X.stack) (s2.heap.objs.size :: fp) H2 (upd H4 s2.heap.objs.size (.lst ys)) s3.heap h6 :=
        ⟨fun b o e nn' hb hx => k56 b o (nC b o e) (un.keep b o e nn' hb hx), fun b o e nn' hb hx => let ⟨sl, q⟩ := un.slot b o e nn' hb hx; ⟨sl, k56 b _ (nC b o e) q⟩,
          fun b o e nn' hx => by rw [upd_ne (fun z => hx (by rw [z]; exact List.mem_cons_self))]; exact un.free b o e nn' hx,
          fun b o e hx => let ⟨o', q⟩ := un.there b o e hx; ⟨o', k56 b o' (nC b o e) q⟩,
          fun b xs e => by have q := un.tups b xs e; rw [upd_ne (nD2 b _ q)]; exact q,
          fun b o u e => by have q := un.frzs b o u e; rw [upd_ne (nD2 b _ q)]; exact q,
          fun b ps e => let ⟨more, q⟩ := un.tbls b ps e; ⟨more, by rw [upd_ne (nD2 b _ q)]; exact q⟩⟩
      have I6 : Inv X pins σ (upd H4 s2.heap.objs.size (.lst ys)) { s5 with heap := h6 } := by
        refine I3.call' (s' := { s5 with heap := h6 }) (ch := s2.heap.objs.size :: fp) ?_ un6 hok6 I5.bare fun b hb => ?_
        · show s5.os = s3.os
          have := I5.os
          rw [eS] at this
          exact this
        · have q : FpOk X pins H2 b := by
            rcases List.mem_cons.mp hb with rfl | z
            · exact fD
            · exact f2 b z
          obtain ⟨f0, f1, f2', f3, f4, f5⟩ := q
          exact ⟨f3, f1, f4, f5⟩
      exact ⟨.ref s2.heap.objs.size, _, I6, rfl, qn _ dn4⟩
    · have hitem := T.item XC eP eW eK eC i _ s4 _ H4 (fun _ _ => False) P4 (stat fr4) st4 go
      rw [eA] at hitem
      refine wpAny_mono hitem (fun r s5 ⟨u, hr, h5⟩ => ?_) fun _ _ z => z
      subst hr
      dsimp only
      refine wpAny_mono h5 (fun _ s6 ⟨x, H6, I6, r6, y6, st6, fr6⟩ => ?_) fun _ _ z => z
      have P6 := I6.pinned (stat fr6) (T.obj _ _ st6)
      rw [← eE, ← eP, ← eW, ← eA]
      refine wpAny_mono (hgC _ s6 _ H6 x u _ P6 r6 (step x H6 y6)) (fun _ s7 ⟨σ7, H7, I7, kp7, q7⟩ => ?_) fun _ _ z => by rw [eX] at z; exact z
      refine wpAny_mono (htC _ s7 σ7 H7 _ I7 q7) (fun ok s8 ⟨H8, I8, q8⟩ => ?_) fun _ _ z => by rw [eX] at z; exact z
      -- back to the turn's start
      have fin : ∀ {H9 : Hp} {s9 : Shared}, Inv XC ([(s2.heap.objs.size, ({ cls := .type "list", data := .seq its.toArray nn } : Obj))] ++ pinsAt fp s6.heap) σ7 H9 s9 → Inv XC [] (subSt sub σ) H9 s9 ∧ tn (i + 1) s9.heap ∧ (∀ b ∈ fp, H9 b = none) ∧ H9 s2.heap.objs.size = none ∧
          s9.heap.get? s2.heap.objs.size = some { cls := .type "list", data := .seq its.toArray nn } := fun {H9 s9} J => by
        have pD := J.pin (s2.heap.objs.size, ({ cls := .type "list", data := .seq its.toArray nn } : Obj)) (by rw [ePn]; simp)
        have pF : ∀ b ∈ fp, ∀ o, s6.heap.get? b = some o → s9.heap.get? b = some o ∧ H9 b = none := fun b hb o e => by
          have q := J.pin (b, o) (by rw [ePn]; exact List.mem_append_right _ (List.mem_append_right _ (mem_pinsAt hb e)))
          exact ⟨q.1, q.2.1⟩
        refine ⟨?_, T.keep _ _ _ st6 fun b hb o e => (pF b hb o e).1, fun b hb => ?_, pD.2.1, pD.1⟩
        · have J0 : Inv XC [] σ7 H9 s9 := J.pins_of fun p hp => nomatch hp
          exact J0.weak kp7.1.symm fun j v e => kp7.2 j v e
        · obtain ⟨o, e, _⟩ := T.obj _ _ st6 b hb
          exact (pF b hb o e).2
      cases ok with
      | false =>
        rw [if_neg (by simp)]
        rw [if_neg (by simp)] at q8
        obtain ⟨m', hm, w8⟩ := hN _ _ q8
        obtain ⟨a1, a2, a3, a4, a5⟩ := fin I8
        exact ⟨m', hm, i + 1, ys, its, nn, H8, a1, a2, a3, a4, a5, rv4, w8⟩
      | true =>
        rw [if_pos rfl]
        rw [if_pos rfl] at q8
        refine wpAny_mono (heC _ s8 σ7 H8 _ I8 q8) (fun xv s9 ⟨y, H9, I9, r9, n9⟩ => ?_) fun _ _ z => by rw [eX] at z; exact z
        obtain ⟨m', hm, w9⟩ := hN _ _ n9
        obtain ⟨a1, a2, a3, a4, a5⟩ := fin I9
        refine wpAny_list_append_plain (items := its.toArray) ⟨nn, a5⟩ (fun h' ⟨n', hp'⟩ sb => ?_) (by simp; rw [← rv4.length]; omega)
        obtain ⟨q1, q2⟩ := I4.ok.exf s2.heap.objs.size (by rw [eEx]; exact List.mem_cons_self)
        have a1' : Inv XC [] (subSt sub σ) H9 { s9 with heap := h' } := a1.turned (t' := s9.toks) (fun b o hb e => (sb.2 b hb).trans e) a4 q1 (.inl (by rw [eEx]; exact List.mem_cons_self)) q2 (fun p hp => by rw [ePn] at hp; exact nomatch hp)
        refine ⟨m', hm, i + 1, ys ++ [y], its ++ [xv], n', H9, a1', T.keep _ _ _ a2 fun b hb o e => (sb.2 b (fun z => hDfp (by rw [← z]; exact hb))).trans e, a3, a4, ?_, rv4.append (.cons r9 .nil), w9⟩
        rw [hp']
        simp
  subst hs3
  exact codeAny_compStart_list loop (T.self _ 0 _ _ _ (T.keep _ _ _ st2 fun b _ o e => hk31 b o (k23 b o e)) loop)
end

abbrev CompR (sub : List (Option Nat)) (g : TG) (tt : TT) (te : TE) (σ : St) (Q : VK) (J : It) (H1 : Hp) : Prop := ∃ W : Nat → Nat → List V → Hp → Prop, (∃ m, W 0 m [] H1) ∧ ∀ i m ys H, W i m ys H →
  (J.stop i H ∧ ys.length ≤ sizeLine ∧ ∀ D, H D = none → Q (.ref D) (upd H D (.lst ys))) ∨
  (J.go i H ∧ ys.length < sizeLine ∧ ∃ N : List V → Hp → Prop, (∀ ys' H', N ys' H' → ∃ m', m' < m ∧ W (i + 1) m' ys' H') ∧
    ∀ x H', J.yld i H x H' → g x (subSt sub σ) H' fun σ2 H2 => KeepSt (subSt sub σ) σ2 ∧ tt σ2 H2 fun b H3 => if b = true then te σ2 H3 fun y H4 => N (ys ++ [y]) H4 else N ys H3)
theorem comp_by {sub : List (Option Nat)} {g : TG} {tt : TT} {te : TE} {σ : St} {Q : VK} {J : It} {H : Hp} {n : Nat} (Pv : Nat → List V → Hp → Prop) (hn : n ≤ sizeLine) (h0 : Pv 0 [] H) (hl : ∀ i ys H, Pv i ys H → ys.length ≤ i)
    (hgo : ∀ i ys H, i < n → Pv i ys H → J.go i H) (hstop : ∀ ys H, Pv n ys H → J.stop n H)
    (hs : ∀ i ys H x H', i < n → Pv i ys H → J.yld i H x H' → g x (subSt sub σ) H' fun σ2 H2 => KeepSt (subSt sub σ) σ2 ∧ tt σ2 H2 fun b H3 => if b = true then te σ2 H3 fun y H4 => Pv (i + 1) (ys ++ [y]) H4 else Pv (i + 1) ys H3)
    (hd : ∀ ys H, Pv n ys H → ∀ D, H D = none → Q (.ref D) (upd H D (.lst ys))) : CompR sub g tt te σ Q J H := by
  refine ⟨fun i m ys H => m = n - i ∧ i ≤ n ∧ Pv i ys H, ⟨n, by simp, Nat.zero_le _, h0⟩, ?_⟩
  rintro i m ys H ⟨rfl, hi, p⟩
  have hl' := hl i ys H p
  by_cases hlt : i < n
  · exact .inr ⟨hgo i ys H hlt p, by omega, fun ys' H' => Pv (i + 1) ys' H', fun ys' H' p' => ⟨n - (i + 1), by omega, rfl, hlt, p'⟩, fun x H' y => hs i ys H x H' hlt p y⟩
  · have e : i = n := by omega
    subst e
    exact .inl ⟨hstop ys H p, by omega, hd ys H p⟩
end L2

namespace L2
open PySem PySem.Spec PyProof.Rows

section
variable {κ : Type} [DecidableEq κ]
end


section
variable {P : Program} {w : World} {H : Hp} {h : Heap} {a : Addr}
end

section
variable {X : Cx} {pins : List (Addr × Obj)} {σ : St} {H : Hp} {s : Shared} {a : Addr} {y v : V} {u r : Value} {o : Option V} {A : Around} {E : Value → Shared → Prop}

theorem Inv.big (I : Inv X pins σ H s) : sysModules < s.heap.objs.size := by
  have h : mainGlobals < s.heap.objs.size := (I.mod.glob.keeps I.bk).lt
  exact Nat.lt_trans (by decide) h

end

section
variable {X : Cx} {pins : List (Addr × Obj)} {σ : St} {H : Hp} {s : Shared} {a : Addr} {kvs : List (Key × V)} {k : Key} {u : Value} {A : Around} {E : Value → Shared → Prop}
end


section
variable {X : Cx} {o i e value : Expr} {pos pos' tpos : Pos} {td ty tv : TE}
end


theorem dk_empty {P : Program} {w : World} {H : Hp} (h : Heap) (hb : sysModules < h.objs.size) : ObjOk P w H (h.push { cls := .type "dict", data := .dict #[] }) h.objs.size (.dK []) :=
  ⟨Nat.zero_le _, beq_eq_false_iff_ne.mpr (Ne.symm (Nat.ne_of_lt hb)), [], .nil, Heap.DictOf.new h⟩
/-- {}, to be a dict of the kind that is wanted -/
def tDNewK : TE := fun _ H Q => ∀ p, H p = none → Q (.ref p) (upd H p (.dK []))
section
variable {X : Cx} {pos : Pos}
theorem pe_dnewK : PE X (.Dict [] [] pos) tDNewK := fun pins s σ H Q I h =>
  wpAny_Dict_empty ⟨.ref s.heap.objs.size, _, I.laid (a := s.heap.objs.size) (o := .dK []) (t' := s.toks) (fun _ _ q => Heap.get?_push_of_some _ q) (Nat.le_refl _) (dk_empty s.heap I.big), rfl, h _ (I.hok.fresh (Nat.le_refl _))⟩
end

/-- the pairs of a display, from the left -/
def tPairs : List (TE × TE) → St → Hp → (List (V × V) → Hp → Prop) → Prop
  | [], _, H, Q => Q [] H
  | (tk, tv) :: r, σ, H, Q => tk σ H fun x H1 => tv σ H1 fun y H2 => tPairs r σ H2 fun ps H3 => Q ((x, y) :: ps) H3
abbrev VV : List (V × V) → List (Value × Value) → Prop := Paired fun p q => RelV p.1 q.1 ∧ RelV p.2 q.2
def PPs (X : Cx) (pos : Pos) (keys : List (Option Expr)) (values : List Expr) (trs : List (TE × TE)) : Prop :=
  ∀ (pins : List (Addr × Obj)) (s : Shared) (σ : St) (H : Hp) (Q : List (V × V) → Hp → Prop), Inv X pins σ H s → tPairs trs σ H Q →
    wpAny (model X.prog X.w) X.A (evalPairs (pairTrees keys values X.env pos)) (fun vs s' => ∃ ps H', Inv X pins σ H' s' ∧ VV ps vs ∧ Q ps H') X.xe s
/-- a method call o.m(e) of a built-in, with one argument: what must be seen of the text -/
structure M1 (X : Cx) (o : Expr) (m : Str) (apos : Pos) (e : Expr) (cpos : Pos) : Prop where
  base : attributeBase o m X.env (eval o X.env) = eval o X.env
  few : ((backTo cpos (starEach [e] X.env)).all (fun x => !x.1) && (backToKw cpos (keywordEach [] X.env)).all (fun x => x.1.isSome)
    && decide (([e] : List Expr).length + ([] : List Keyword).length + (if ([] : List Keyword).isEmpty then 0 else 1) < 30)) = true
  line : (apos.endLine == cpos.line) = true
  trees : backTo cpos (starEach [e] X.env) = [(false, eval e X.env)]
structure M2 (X : Cx) (o : Expr) (m : Str) (apos : Pos) (e f : Expr) (cpos : Pos) : Prop where
  base : attributeBase o m X.env (eval o X.env) = eval o X.env
  few : ((backTo cpos (starEach [e, f] X.env)).all (fun x => !x.1) && (backToKw cpos (keywordEach [] X.env)).all (fun x => x.1.isSome)
    && decide (([e, f] : List Expr).length + ([] : List Keyword).length + (if ([] : List Keyword).isEmpty then 0 else 1) < 30)) = true
  line : (apos.endLine == cpos.line) = true
  trees : backTo cpos (starEach [e, f] X.env) = [(false, eval e X.env), (false, eval f X.env)]

section
variable {X : Cx} {pins : List (Addr × Obj)} {σ : St} {H : Hp} {s : Shared} {a : Addr} {y d : V} {u r : Value} {o : Option V} {A : Around} {E : Value → Shared → Prop}
end

section
variable {X : Cx} {o e f : Expr} {apos cpos : Pos} {td ty tx : TE}
end

section
variable {X : Cx} {pins : List (Addr × Obj)} {σ : St} {H : Hp} {s : Shared} {a : Addr} {kvs : List (Key × V)} {A : Around} {E : Value → Shared → Prop}
end


section
variable {X : Cx} {pins : List (Addr × Obj)} {σ : St} {H : Hp} {s : Shared} {a : Addr} {y : V} {u : Value} {A : Around} {E : Value → Shared → Prop}
end
end L2

namespace L2
open PySem PySem.Spec PyProof.Rows
section
variable {X : Cx}
end
section
variable {κ : Type} [DecidableEq κ]
end
end L2

namespace L2
open PySem PySem.Spec PyProof.Rows

def Its (x : Str) : It := ⟨fun i _ => i < x.cps.size, fun i H v H' => H' = H ∧ ∃ c, x.cps[i]? = some c ∧ v = .str ⟨#[c]⟩, fun i _ => i = x.cps.size⟩
theorem turn_str {P : Program} {w : World} {K : PySem.W.Frag} {tg : Expr} (it : Addr) (x : Str) (t : Tok) (ty : String)
    (hty : ["enumerate", "zip", "dict_itemiterator", "dict_reverseitemiterator", "odict_iterator", "itertools.zip_longest", "itertools.pairwise"].contains ty = false)
    (W : ∀ A : Around, A.handled = none → Walks P w A it [it] [it] x.cps.size (SignAt x) fun i h => h.IsStrIter it ty x t i)
    (hself : ∀ (A : Around) (i : Nat) (s : Shared) (Q : Value → Shared → Prop) (E : Value → Shared → Prop), s.heap.IsStrIter it ty x t i → Q (.ref it) s → wpAny (model P w) A (pyIter (.ref it)) Q E s) : Turn P w K tg (Its x) [it] it (fun i h => h.IsStrIter it ty x t i) where
  mem := by simp
  obj := fun i h st b hb => by
    have e : b = it := by simpa using hb
    subst e
    obtain ⟨o, e, c, d⟩ := st
    exact ⟨o, e, fun v z => by rw [d] at z; cases z⟩
  keep := fun i h h' st k => by
    obtain ⟨o, e, r⟩ := st
    exact ⟨o, k it (by simp) o e, r⟩
  item := by
    intro X hP hw hK hc i pins s σ H E I hf st hg
    subst hP hw hK
    obtain ⟨f0, f1, f2, f3, f4, f5⟩ := hf it (by simp)
    refine (W X.A (I.ok.hd hc)).item i s _ _ hg st fun v h' tk hv st' kk => ?_
    obtain ⟨c, u, e1, rfl⟩ := hv
    have I1 : Inv X pins σ H { s with heap := h', toks := tk } := I.turned (fun b o hb e => kk b o (by simpa using hb) e) f0 f1 f3 f4 f5
    obtain ⟨o, e, cl, d⟩ := id st'
    exact ⟨_, rfl, go_of (s := { s with heap := h', toks := tk }) e cl d hty ⟨.str ⟨#[c]⟩, H, I1, ⟨u, rfl⟩, ⟨rfl, c, e1, rfl⟩, st', fun b hb => (hf b hb).1⟩⟩
  done := by
    intro X hP hw hK hc i pins s σ H E I hf st hg
    subst hP hw hK
    obtain ⟨f0, f1, f2, f3, f4, f5⟩ := hf it (by simp)
    have hg : i = x.cps.size := hg
    subst hg
    exact (W X.A (I.ok.hd hc)).done s _ _ st fun h' tk kk => ⟨rfl, I.turned (fun b o hb e => kk b o (by simpa using hb) e) f0 f1 f3 f4 f5⟩
  self := hself
section
variable {X : Cx}
theorem all_range {bs : List Bool} : (List.range bs.length).all (fun i => bs.getD i false) = bs.all id := by
  rw [Bool.eq_iff_iff]
  simp only [List.all_eq_true, List.mem_range]
  constructor
  · intro h b hb
    obtain ⟨i, hi, e⟩ := List.mem_iff_getElem.mp hb
    have := h i hi
    rw [List.getD_eq_getElem?_getD, List.getElem?_eq_getElem hi] at this
    simp only [Option.getD_some] at this
    rw [← e]; exact this
  · intro h i hi
    rw [List.getD_eq_getElem?_getD, List.getElem?_eq_getElem hi]
    exact h _ (List.getElem_mem hi)
theorem vals_bl_get : ∀ {bs : List Bool} {us : List Value} {i : Nat} {v : Value}, Vals (bs.map V.bl) us → us[i]? = some v → v = .bool (bs.getD i false)
  | [], _, i, v, .nil, e => by simp at e
  | b :: bs, _, 0, v, .cons r t, e => by simp at e; subst e; exact r
  | b :: bs, _, i + 1, v, .cons r t, e => by
    simp at e
    have := vals_bl_get (bs := bs) t e
    simpa using this
def rAll : List V → Hp → VK → Prop := fun xs H Q => ∃ (p : Addr) (bs : List Bool), xs = [.ref p] ∧ H p = some (.lst (bs.map V.bl)) ∧ Q (.bl (bs.all id)) H
theorem call_all (hc : X.calm = true) : CallR X (.builtin "all") rAll := by
  intro pins s σ H xs us Q I r h
  obtain ⟨p, bs, rfl, hp, q⟩ := h
  obtain ⟨u, rfl, ru⟩ := vals1 r
  cases ru
  obtain ⟨hz, its, n, rv, e⟩ := I.hok p _ hp
  refine call_all_walk (wpAny_pyIter_list (items := its.toArray) ⟨_, e, rfl, n, rfl⟩ ?_)
  refine ⟨s.heap.objs.size, _, _, _, _, _, fun i => bs.getD i false, rfl, Walks.list (A := X.A.in1) (I.ok.hd hc) s.heap.objs.size p (Nat.ne_of_lt (Heap.lt_size e)) its.toArray, ⟨⟨_, Heap.get?_push_size _ rfl, rfl, rfl⟩, ⟨_, Heap.get?_push_of_some _ e, rfl, n, rfl⟩⟩, ?_, fun h' tk hk => ?_⟩
  · intro i v s' Q' E' hv hq
    have := vals_bl_get rv (by simpa using hv)
    subst this
    exact wpAny_truthy_bool hq
  · have hl : its.toArray.size = bs.length := by have := rv.length; simpa using this.symm
    rw [hl, all_range]
    refine ⟨.bl _, H, ?_, rfl, q⟩
    exact I.kept fun b o e => hk b o (by simp; exact Nat.ne_of_lt (Heap.lt_size e)) (Heap.get?_push_of_some _ e)
theorem strsAre_of : ∀ {ys : List Str} {us : List Value}, Vals (ys.map V.str) us → StrsAre us ys
  | [], _, .nil => .nil
  | y :: ys, _, .cons r t => by
    obtain ⟨k, e⟩ := (show ∃ t, _ = Value.str y t from r)
    subst e
    exact .cons y k (strsAre_of t)
def rJoin : V → List V → Hp → VK → Prop := fun x xs H Q => ∃ (sep : Str) (p : Addr) (ys : List Str), x = .str sep ∧ xs = [.ref p] ∧ H p = some (.lst (ys.map V.str)) ∧ (ys.map (·.length)).sum + ys.length * sep.length ≤ 16777216 ∧ Q (.str (Txt.join sep ys)) H
theorem mt_join : MtR X "str.join" rJoin := by
  intro pins s σ H x xs v us Q I rx r h
  obtain ⟨sep, p, ys, rfl, rfl, hp, hz, q⟩ := h
  obtain ⟨u, rfl, ru⟩ := vals1 r
  cases ru
  obtain ⟨t, rfl⟩ := rx
  obtain ⟨hz', its, n, rv, e⟩ := I.hok p _ hp
  exact join_list (items := its.toArray) ⟨_, e, rfl, n, rfl⟩ (by simpa using strsAre_of rv) hz fun t' k => ⟨.str _, H, I.tok _, ⟨_, rfl⟩, q⟩
/-- x[lo:hi] of a text -/
def rSlS : V → Option Int → Option Int → Hp → VK → Prop := fun v lo hi H Q => ∃ x, v = .str x ∧ x.length ≤ sizeLine ∧ Q (.str (Txt.slice x lo hi)) H
theorem sl_str : SlR X rSlS := by
  intro pins s σ H x v vl vu lo hi sl Q I rx hs pl pu h
  obtain ⟨z, rfl, hz, q⟩ := h
  obtain ⟨t, rfl⟩ := rx
  refine ⟨"str", _, F.slot_str_getitem.lookup, typeIs_str _ _ _, ?_⟩
  have fin : ∀ (t' k : Nat), EP X pins σ Q (.str (Txt.slice z lo hi) t') { s with toks := k } := fun t' k => ⟨.str _, H, I.tok _, ⟨_, rfl⟩, q⟩
  have sz := Nat.le_trans (Txt.slice_le z lo hi) hz
  obtain ⟨o, ho, hc, hd⟩ := hs
  cases pl with
  | none =>
    cases pu with
    | none => exact wpAny_getItem_str_slice (l := none) (u := none) (st := none) ⟨o, ho, hc, hd⟩ rfl (post_val_or_str ⟨sz, fin⟩)
    | int j tj => exact wpAny_getItem_str_slice (l := none) (u := some (j, tj)) (st := none) ⟨o, ho, hc, hd⟩ rfl (post_val_or_str ⟨sz, fin⟩)
  | int i ti =>
    cases pu with
    | none => exact wpAny_getItem_str_slice (l := some (i, ti)) (u := none) (st := none) ⟨o, ho, hc, hd⟩ rfl (post_val_or_str ⟨sz, fin⟩)
    | int j tj => exact wpAny_getItem_str_slice (l := some (i, ti)) (u := some (j, tj)) (st := none) ⟨o, ho, hc, hd⟩ rfl (post_val_or_str ⟨sz, fin⟩)
def rMulS : R2 := fun x y H Q => ∃ i n, x = .str i ∧ y = .int n ∧ MulOk i n ∧ Q (.str (Txt.mul i n)) H
theorem op_mul_str : OpR X (binaryOp .Mult) rMulS := by
  intro pins s σ H x y v u Q I rx ry h
  obtain ⟨i, n, rfl, rfl, hk, q⟩ := h
  obtain ⟨t, rfl⟩ := rx
  obtain ⟨t', rfl⟩ := ry
  exact SB.mul hk fun t' k => ⟨.str _, H, I.tok _, ⟨_, rfl⟩, q⟩
/-- the signs of a text as values -/
def sgn (x : Str) : List V := x.cps.toList.map fun c => V.str ⟨#[c]⟩
theorem items_sgn {x : Str} {acc : Array Value} (h : ItemsOf (SignAt x) acc x.cps.size) : Vals (sgn x) acc.toList := by
  obtain ⟨h1, h2⟩ := h
  have key : ∀ (l : List Nat) (a : List Value), l.length = a.length → (∀ (j : Nat) (v : Value), a[j]? = some v → ∃ (c : Nat) (u : Tok), l[j]? = some c ∧ v = Value.str ⟨#[c]⟩ u) → Vals (l.map fun c => V.str ⟨#[c]⟩) a := by
    intro l
    induction l with
    | nil => intro a hl _; cases a with
      | nil => exact .nil
      | cons _ _ => simp at hl
    | cons c l ih =>
      intro a hl hh
      cases a with
      | nil => simp at hl
      | cons v a =>
        obtain ⟨c', u, e1, e2⟩ := hh 0 v (by simp)
        simp at e1; subst e1
        refine .cons ⟨u, e2⟩ (ih a (by simpa using hl) fun j v' e => ?_)
        obtain ⟨c', u, e1, e2⟩ := hh (j + 1) v' (by simpa using e)
        exact ⟨c', u, by simpa using e1, e2⟩
  refine key x.cps.toList acc.toList (by simp [h1]) fun j v e => ?_
  obtain ⟨c, u, e1, e2⟩ := h2 j v (by simpa using e)
  exact ⟨c, u, by simpa using e1, e2⟩
theorem call_list_S (hc : X.calm = true) : CallR X (.type "list") (fun xs H Q => ∃ x, xs = [.str x] ∧ x.cps.size ≤ sizeLine ∧ ∀ p, H p = none → Q (.ref p) (upd H p (.lst (sgn x)))) := by
  intro pins s σ H xs us Q I r h
  obtain ⟨x, rfl, hz, q⟩ := h
  obtain ⟨u, rfl, t, rfl⟩ := vals1 r
  refine call_list_str (I.ok.hd hc) x t (hn := hz) fun h' tk acc' c' hk hS hacc => ?_
  refine ⟨.ref s.heap.objs.size, _, I.laid (o := .lst (sgn x)) hk (Nat.le_refl _) ⟨by simp [sgn]; exact hz, acc'.toList, c', items_sgn hacc, by simpa using hS⟩, rfl, q _ I.fresh⟩
theorem call_tuple_S (hc : X.calm = true) : CallR X (.type "tuple") (fun xs H Q => ∃ x, xs = [.str x] ∧ x.cps.size ≤ sizeLine ∧ ∀ p, H p = none → Q (.ref p) (upd H p (.tup (sgn x)))) := by
  intro pins s σ H xs us Q I r h
  obtain ⟨x, rfl, hz, q⟩ := h
  obtain ⟨u, rfl, t, rfl⟩ := vals1 r
  refine call_tuple_str (I.ok.hd hc) x t (hsz := hz) fun h' tk acc hk hacc => ?_
  have J : Inv X pins σ H { s with heap := h', toks := tk } := I.kept hk
  refine ⟨.ref h'.objs.size, _, J.laid (t' := tk) (o := .tup (sgn x)) (fun b o e => Heap.get?_push_of_some _ e) (Nat.le_refl _) ⟨by simp [sgn]; exact hz, acc.toList, items_sgn hacc, ⟨_, Heap.get?_push_size _ rfl, rfl, 0, by simp⟩⟩, rfl, q _ J.fresh⟩
/-- isinstance(x, T) -/
def rIsi (K : PySem.W.Frag) : List V → Hp → VK → Prop := fun xs H Q => ∃ x T t b, xs = [x, .ty T] ∧ TyOf K H x t ∧ PySem.W.kitOne K t (.type T) = some b ∧ Q (.bl b) H
theorem call_isi : CallR X (.builtin "isinstance") (rIsi X.K) := by
  intro pins s σ H xs us Q I r h
  obtain ⟨x, T, t, b, rfl, ty, e, q⟩ := h
  obtain ⟨u, v, rfl, ru, rv⟩ := vals2 r
  cases rv
  exact isinst_ok I ru ty e fun tk => ⟨.bl b, H, I.tok _, rfl, q⟩

def eqVs : List V → List V → Bool
  | [], [] => true
  | x :: xs, y :: ys => eqV x y && eqVs xs ys
  | _, _ => false
theorem eqVs_range : ∀ (xs ys : List V), xs.length = ys.length → (List.range xs.length).all (fun j => eqV (xs.getD j .non) (ys.getD j .non)) = eqVs xs ys
  | [], [], _ => rfl
  | x :: xs, y :: ys, h => by
    have ih := eqVs_range xs ys (by simpa using h)
    rw [List.length_cons, List.range_succ_eq_map, List.all_cons, List.all_map]
    simp only [eqVs]
    rw [← ih]
    rfl
  | [], y :: ys, h => by simp at h
  | x :: xs, [], h => by simp at h
theorem eqVs_len : ∀ {xs ys : List V}, xs.length ≠ ys.length → eqVs xs ys = false
  | [], [], h => absurd rfl h
  | [], y :: ys, _ => rfl
  | x :: xs, [], _ => rfl
  | x :: xs, y :: ys, h => by simp [eqVs, eqVs_len (xs := xs) (ys := ys) (by simpa using h)]
def rEqL (K : PySem.W.Frag) (neg : Bool) : R2 := fun x y H Q => ∃ a b xs ys, x = .ref a ∧ y = .ref b ∧ SqL K H a xs ∧ SqL K H b ys ∧ xs.all flatV = true ∧ ys.all flatV = true ∧ Q (.bl (if neg then !eqVs xs ys else eqVs xs ys)) H
theorem op_eq_lst (hu : X.A.units < cLine) : OpR X (compareOp .Eq) (rEqL X.K false) := by
  intro pins s σ H x y v u Q I rx ry h
  obtain ⟨a, b, xs, ys, rfl, rfl, ha, hb, fx, fy, q⟩ := h
  cases rx
  cases ry
  obtain ⟨its, r1, p1, z1⟩ := I.list ha
  obtain ⟨jts, r2, p2, z2⟩ := I.list hb
  have l1 : its.toArray.size = xs.length := by simpa using r1.length.symm
  have l2 : jts.toArray.size = ys.length := by simpa using r2.length.symm
  by_cases hl : xs.length = ys.length
  · refine SeqAt.eq_listAt (e := fun j => eqV (xs.getD j .non) (ys.getD j .non)) p1.isList p2.isList (by rw [l1, l2]; exact hl) hu (fun j h1 h2 => ?_) ?_
    · have h1' : j < xs.length := by omega
      have h2' : j < ys.length := by omega
      obtain ⟨u1, e1, q1⟩ := r1.get (List.getElem?_eq_getElem h1')
      obtain ⟨u2, e2, q2⟩ := r2.get (List.getElem?_eq_getElem h2')
      have e1' : its.toArray[j] = u1 := by
        have := List.getElem?_eq_some_iff.mp e1
        obtain ⟨_, z⟩ := this
        simpa using z
      have e2' : jts.toArray[j] = u2 := by
        have := List.getElem?_eq_some_iff.mp e2
        obtain ⟨_, z⟩ := this
        simpa using z
      rw [e1', e2']
      have g1 : xs.getD j .non = xs[j] := by rw [List.getD_eq_getElem?_getD, List.getElem?_eq_getElem h1']; rfl
      have g2 : ys.getD j .non = ys[j] := by rw [List.getD_eq_getElem?_getD, List.getElem?_eq_getElem h2']; rfl
      show SeqAt.EqAt X.A.in1 s u1 u2 (eqV (xs.getD j .non) (ys.getD j .non))
      rw [g1, g2]
      exact eqAt_V q1 q2 (List.all_eq_true.mp fx _ (List.getElem_mem h1')) (List.all_eq_true.mp fy _ (List.getElem_mem h2'))
    · rw [l1, eqVs_range xs ys hl]
      exact ⟨.bl _, H, I, rfl, q⟩
  · refine SeqAt.eq_list_lengthsAt p1.isList p2.isList (by rw [l1, l2]; simpa using hl) hu ?_
    rw [if_neg (by simp), eqVs_len hl] at q
    exact ⟨.bl false, H, I, rfl, q⟩
end
end L2

namespace L2
open PySem PySem.Spec PyProof.Rows

/-- a def of the text under its own name -/
def Def (K : PySem.W.Frag) (mg : Str → Option Value) (x : Str) (st : Stmt) : Prop := ∃ f fd, Fun K x x st f fd ∧ mg x = some (.ref f)
theorem def_mk {K : PySem.W.Frag} {mg : Str → Option Value} {h : Heap} (X : K.In h) (G : h.Ns mainGlobals mg) {x : Str} {st : Stmt} {f : Addr} {oc : Value} {od an : Option Addr} {osl : Array (Option Value)} {kV doc pm cdv ct : Value}
    (a : PySem.W.nsIn K mainGlobals x = some (some (.ref f)))
    (l : K.lookup f = some ⟨oc, od, .func (PySem.W.fnOf x x (defArgs st) (defBody st) (defScope st) .none kV doc pm an cdv ct), osl⟩)
    (c : PySem.W.codeIn K cdv x = true) (k : PySem.W.keepIn K (.ref f) = true) : Def K mg x st := ⟨f, _, fun_mk l c k, PySem.W.mg_of X G a⟩
/-- its promise -/
def Has (P : Program) (w : World) (K : PySem.W.Frag) (mg : Str → Option Value) (base : Heap) (k : Nat) (x : Str) (ps : List Str) (sp : Sp) : Prop :=
  ∃ f fd, mg x = some (.ref f) ∧ PySem.W.keepIn K (.ref f) = true ∧ Binds K fd ps [] ∧ FnOk P w K mg base CX0 k f fd ps sp
section
variable {P : Program} {w : World} {K : PySem.W.Frag} {mg : Str → Option Value} {base : Heap}
theorem has_of {x : Str} {st : Stmt} {N ps : List Str} {k : Nat} {sp : Sp} (D : Def K mg x st) (S : FnScope N ps (defScope st))
    (hb : ∀ (kV doc pm : Value) (an : Option Addr) (cdv ct : Value) (us : List Value), us.length = ps.length → bindArgs (PySem.W.fnOf x x (defArgs st) (defBody st) (defScope st) .none kV doc pm an cdv ct) ⟨us, []⟩ = pure (ps.zip us))
    (len : ∀ vs H Q E, sp vs H Q E → vs.length = ps.length)
    (hbody : ∀ (f : Addr) (cdv : Value) (A : Around) (outer : List Env) (s : Shared) (H : Hp) (vs : List V) (Q : VK) (E : XK), Room k (A.deeper (envOfC x (defScope st) s.heap.objs.size f cdv)) → sp vs H Q E →
      ∃ t, PSs (cxOf CX0 P w K mg base N x (defScope st) f cdv A outer s H E).nox (defBody st) t ∧ t { nx := fun _ H' => Q .non H', rt := Q } (start N vs) H) : Has P w K mg base (k + 1) x ps sp := by
  obtain ⟨f, fd, F, hm⟩ := D
  exact ⟨f, fd, hm, F.kp, F.binds hb, F.ok S len fun cdv A outer s H vs Q E hr h => hbody f cdv A outer s H vs Q E hr h⟩
end
section
variable {X : Cx}
theorem pe_callH {k : Nat} {x : Str} {ps : List Str} {sp : Sp} {p pos : Pos} {e : Expr} {es : List Expr} {t : TA} (F : Has X.prog X.w X.K X.mg X.base k x ps sp) (hr : Room k X.A) (hg : Gl X x)
    (ha : PA X (e :: es) t) (hdb : (x == ("__debug__" : Str)) = false := by decide) (he : starEach (e :: es) X.env = (false, eval e X.env) :: starEach es X.env := by rfl) (hpl : (backTo pos (starEach es X.env)).any (·.1) = false := by rfl) :
    PE X (.Call (.Name x p) (e :: es) [] pos) (tCall sp [] E0 t) := by
  obtain ⟨f, fd, a, b, c, d⟩ := F
  exact pe_call d hr hg a b c .nil pass0 ha hdb he hpl
def rAddA : R2 := fun x y H Q => (∃ i j, x = .int i ∧ y = .int j ∧ Q (.int (i + j)) H) ∨ (∃ i j, x = .str i ∧ y = .str j ∧ i.length + j.length ≤ sizeLine ∧ Q (.str (i ++ j)) H) ∨ rCat x y H Q
theorem op_addA : OpR X (binaryOp .Add) rAddA := op_add.or (op_add_str.or op_cat)
def rMulA : R2 := fun x y H Q => (∃ i j, x = .int i ∧ y = .int j ∧ CMul i j ∧ Q (.int (i * j)) H) ∨ rMulS x y H Q ∨ rRep x y H Q
theorem op_mulA : OpR X (binaryOp .Mult) rMulA := op_mul.or (op_mul_str.or op_rep)
theorem glob_str {x : Str} {z : Str} {pos : Pos} (hg : Gl X x) (hm : ∃ t, X.mg x = some (.str z t)) (hd : (x == ("__debug__" : Str)) = false := by decide) : PE X (.Name x pos) (tC (.str z)) :=
  let ⟨t, e⟩ := hm; pe_glob hg e ⟨t, rfl⟩ hd
theorem glob_int {x : Str} {z : Int} {pos : Pos} (hg : Gl X x) (hm : ∃ t, X.mg x = some (.int z t)) (hd : (x == ("__debug__" : Str)) = false := by decide) : PE X (.Name x pos) (tC (.int z)) :=
  let ⟨t, e⟩ := hm; pe_glob hg e ⟨t, rfl⟩ hd
theorem pe_ty {x : Str} {T : String} {pos : Pos} (hg : Gl X x) (hm : X.mg x = none) (hv : bootBuiltins x = some (.type T)) (hn : x ≠ "__name__" := by decide) (hd : (x == ("__debug__" : Str)) = false := by decide) : PE X (.Name x pos) (tC (.ty T)) :=
  pe_bltn hg hm hv rfl hn hd
def rInA (K : PySem.W.Frag) : R2 := fun x y H Q => (∃ i j, x = .str i ∧ y = .str j ∧ Q (.bl (!(Builtin.Str.occurrences j i 0 j.length 1).isEmpty)) H) ∨ rIn K false x y H Q
theorem op_inA : OpR X (compareOp .In) (rInA X.K) := op_in_str.or op_in_seq
def rEqA (K : PySem.W.Frag) : R2 := fun x y H Q => rEq x y H Q ∨ rEqL K false x y H Q
theorem op_eqA (hu : X.A.units < cLine) : OpR X (compareOp .Eq) (rEqA X.K) := op_eq.or (op_eq_lst hu)
def rSl (K : PySem.W.Frag) : V → Option Int → Option Int → Hp → VK → Prop := fun x lo hi H Q => rSlL K x lo hi H Q ∨ rSlT K x lo hi H Q ∨ rSlS x lo hi H Q
theorem sl_seq : SlR X (rSl X.K) := sl_list.or (sl_tup.or sl_str)
/-- over a list, a tuple, a text -/
def iSeq (K : PySem.W.Frag) (tl : TE) : TI := fun σ H R => tl σ H fun x H1 => (∃ a, x = .ref a ∧ (∃ xs, SqL K H1 a xs) ∧ R (Itl K a) H1) ∨ (∃ a, x = .ref a ∧ (∃ xs, SqT K H1 a xs) ∧ R (Itt K a) H1) ∨ (∃ z, x = .str z ∧ R (Its z) H1)
theorem pi_seq {tg l : Expr} {tl : TE} (hl : PE X l tl) : PI X tg l (iSeq X.K tl) := by
  intro pins s σ H R I h
  refine thn (hl pins s σ H _ I h) fun v s1 ⟨x, H1, I1, r1, q1⟩ => ?_
  rcases q1 with ⟨a, rfl, ⟨xs, hq⟩, q⟩ | ⟨a, rfl, ⟨xs, hq⟩, q⟩ | ⟨z, rfl, q⟩
  · cases r1
    obtain ⟨its, rv, p, hz⟩ := I1.list hq
    refine wpAny_pyIter_list p.isList ?_
    refine ⟨s1.heap.objs.size, [s1.heap.objs.size], _, _, H1, rfl, I1.kept (t' := s1.toks) fun b o e => Heap.get?_push_of_some _ e, turn_list a _, ⟨_, Heap.get?_push_size _ rfl, rfl, rfl⟩, fun b hb => ?_, q⟩
    have e : b = s1.heap.objs.size := by simpa using hb
    subst e
    exact I1.fpOk (Nat.le_refl _) (I1.hok.fresh (Nat.le_refl _))
  · cases r1
    obtain ⟨its, rv, p, hz⟩ := I1.tuple hq
    refine wpAny_pyIter_tuple (show s1.heap.IsTuple a its.toArray from p) ?_
    refine ⟨s1.heap.objs.size, [s1.heap.objs.size], _, _, H1, rfl, I1.kept (t' := s1.toks) fun b o e => Heap.get?_push_of_some _ e, turn_tuple a _, ⟨_, Heap.get?_push_size _ rfl, rfl, rfl⟩, fun b hb => ?_, q⟩
    have e : b = s1.heap.objs.size := by simpa using hb
    subst e
    exact I1.fpOk (Nat.le_refl _) (I1.hok.fresh (Nat.le_refl _))
  · obtain ⟨t, rfl⟩ := r1
    have fin : ∀ (ty : String) (T : Turn X.prog X.w X.K tg (Its z) [s1.heap.objs.size] s1.heap.objs.size (fun i h => h.IsStrIter s1.heap.objs.size ty z t i)) (o : Obj), (s1.heap.push o).IsStrIter s1.heap.objs.size ty z t 0 → PIE X pins σ tg R (.ref s1.heap.objs.size) { s1 with heap := s1.heap.push o } :=
      fun ty T o st => ⟨s1.heap.objs.size, [s1.heap.objs.size], _, _, H1, rfl, I1.kept (t' := s1.toks) fun b o e => Heap.get?_push_of_some _ e, T, st, fun b hb => by
        have e : b = s1.heap.objs.size := by simpa using hb
        subst e
        exact I1.fpOk (Nat.le_refl _) (I1.hok.fresh (Nat.le_refl _)), q⟩
    cases ha : z.cps.all (· < 128)
    · exact wpAny_pyIter_wide ha (fin "str_iterator" (turn_str _ z t _ (by decide) (fun A' hA => Walks.strWide hA _ z t) fun A i s Q E st h => wpAny_pyIter_striter_wide st h) _ ⟨_, Heap.get?_push_size _ rfl, rfl, rfl⟩)
    · exact wpAny_pyIter_ascii ha (fin "str_ascii_iterator" (turn_str _ z t _ (by decide) (fun A' hA => Walks.strAscii hA _ z t) fun A i s Q E st h => wpAny_pyIter_striter_ascii st h) _ ⟨_, Heap.get?_push_size _ rfl, rfl, rfl⟩)
end
section
variable {X : Cx} {K : PySem.W.Frag}
theorem ix_seqK (hK : X.K = K) : IxR X (rIx K) := hK ▸ ix_seq
theorem op_inK (hK : X.K = K) : OpR X (compareOp .In) (rInA K) := hK ▸ op_inA
theorem op_eqK (hK : X.K = K) (hu : X.A.units < cLine) : OpR X (compareOp .Eq) (rEqA K) := hK ▸ op_eqA hu
theorem sl_seqK (hK : X.K = K) : SlR X (rSl K) := hK ▸ sl_seq
theorem pi_seqK {tg l : Expr} {tl : TE} (hK : X.K = K) (hl : PE X l tl) : PI X tg l (iSeq K tl) := hK ▸ pi_seq hl
def rLen (K : PySem.W.Frag) : List V → Hp → VK → Prop := fun xs H Q => ∃ x n, xs = [x] ∧ LenV K x H n ∧ Q (.int n) H
theorem call_lenK (hK : X.K = K) : CallR X (.builtin "len") (rLen K) := hK ▸ call_len
theorem call_isiK (hK : X.K = K) : CallR X (.builtin "isinstance") (rIsi K) := hK ▸ call_isi
def rListA (K : PySem.W.Frag) : List V → Hp → VK → Prop := fun xs H Q => (∃ p ys, xs = [.ref p] ∧ (SqL K H p ys ∨ SqT K H p ys) ∧ ∀ l, H l = none → Q (.ref l) (upd H l (.lst ys))) ∨ (∃ x, xs = [.str x] ∧ x.cps.size ≤ sizeLine ∧ ∀ p, H p = none → Q (.ref p) (upd H p (.lst (sgn x))))
theorem call_listK (hK : X.K = K) (hc : X.calm = true) : CallR X (.type "list") (rListA K) := hK ▸ call_list_of.or (call_list_S hc)
def rTupA (K : PySem.W.Frag) : List V → Hp → VK → Prop := fun xs H Q => (∃ p ys, xs = [.ref p] ∧ ((SqL K H p ys ∧ ∀ l, H l = none → Q (.ref l) (upd H l (.tup ys))) ∨ (SqT K H p ys ∧ Q (.ref p) H))) ∨ (∃ x, xs = [.str x] ∧ x.cps.size ≤ sizeLine ∧ ∀ p, H p = none → Q (.ref p) (upd H p (.tup (sgn x))))
theorem call_tupleK (hK : X.K = K) (hc : X.calm = true) : CallR X (.type "tuple") (rTupA K) := hK ▸ call_tuple_of.or (call_tuple_S hc)
variable {o e : Expr} {es : List Expr} {to : TE} {t : TA} {name : Str} {apos cpos : Pos} {T id : String} {r : V → List V → Hp → VK → Prop}
theorem pe_bm0K (hK : X.K = K) (pa : PlainAttrs T) (slot : Slot T name id) (hty : typeOf (.builtin id) = pure (.type "method_descriptor")) (hm : MtR X id r) (ho : PE X o to)
    (hbase : attributeBase o name X.env (eval o X.env) = eval o X.env := by rfl) (hline : (apos.endLine == cpos.line) = true := by rfl) : PE X (.Call (.Attribute o name apos) [] [] cpos) (tBM0 K T r to) := by
  subst hK; exact pe_bm0 pa slot hty hm ho hbase hline
theorem pe_bmK (hK : X.K = K) (pa : PlainAttrs T) (slot : Slot T name id) (hty : typeOf (.builtin id) = pure (.type "method_descriptor")) (hm : MtR X id r) (ho : PE X o to) (ha : PA X (e :: es) t)
    (hbase : attributeBase o name X.env (eval o X.env) = eval o X.env := by rfl)
    (hfew : ((backTo cpos (starEach (e :: es) X.env)).all (fun x => !x.1) && (backToKw cpos (keywordEach [] X.env)).all (fun x => x.1.isSome)
      && decide ((e :: es).length + ([] : List Keyword).length + (if ([] : List Keyword).isEmpty then 0 else 1) < 30)) = true := by rfl)
    (hline : (apos.endLine == cpos.line) = true := by rfl) (hs : starEach (e :: es) X.env = (false, eval e X.env) :: starEach es X.env := by rfl) (hplain : (backTo cpos (starEach es X.env)).any (·.1) = false := by rfl) :
    PE X (.Call (.Attribute o name apos) (e :: es) [] cpos) (tBM K T r to t) := by
  subst hK; exact pe_bm pa slot hty hm ho ha hbase hfew hline hs hplain
theorem pg_tupK {ts : List Expr} {k : Nat} {gs : TGs} {n : Nat} {pos : Pos} (hK : X.K = K) (hc : X.calm = true) (h : PGs X ts gs)
    (hn : (assignEach ts X.env).length = n := by rfl) (hst : (assignEach ts X.env).findIdx? (·.1) = none := by rfl) : PG X (.Tuple ts k pos) (gTup K n gs) := by
  subst hK; exact pg_tup hc h hn hst
end
section
variable {X : Cx} {sc scope : Scope} {N' : List Str} {C : Addr} {s₀ : Shared} {H₀ : Hp} {ex : List Addr} {x : Str} {pos : Pos}
theorem pvL (i : Nat) (h : sc.names.lookup x = some .local) (hN : X.N[i]? = some x := by rfl) (hsc : X.env.scope = sc := by rfl) (hd : (x == ("__debug__" : Str)) = false := by decide +kernel) (hcd : (x == ("__classdict__" : Str)) = false := by decide +kernel) :
    PE X (.Name x pos) (tVar i) := pe_var hN (.inl (by rw [hsc]; exact h)) hd hcd
theorem pvC (i : Nat) (h : sc.names.lookup x = some .cell) (hN : X.N[i]? = some x := by rfl) (hsc : X.env.scope = sc := by rfl) (hd : (x == ("__debug__" : Str)) = false := by decide +kernel) (hcd : (x == ("__classdict__" : Str)) = false := by decide +kernel) :
    PE X (.Name x pos) (tVar i) := pe_var hN (.inr (.inl (by rw [hsc]; exact h))) hd hcd
theorem pvBL (i : Nat) (h : scope.names.lookup x = some .local) (hN : N'[i]? = some x := by rfl) (hd : (x == ("__debug__" : Str)) = false := by decide +kernel) (hcd : (x == ("__classdict__" : Str)) = false := by decide +kernel) :
    PE (cxC X N' scope C s₀ H₀ ex) (.Name x pos) (tVar i) := pe_var hN (.inl (lookup_relabel_local h)) hd hcd
theorem pvBF (i : Nat) (h : scope.names.lookup x = some .free) (hN : N'[i]? = some x := by rfl) (hd : (x == ("__debug__" : Str)) = false := by decide +kernel) (hcd : (x == ("__classdict__" : Str)) = false := by decide +kernel) :
    PE (cxC X N' scope C s₀ H₀ ex) (.Name x pos) (tVar i) := pe_var hN (by
      rcases relabel_free (env := X.env) h with z | z
      · exact .inr (.inl z)
      · exact .inr (.inr z)) hd hcd
theorem glF (h : sc.names.lookup x = some .globalImplicit) (hsc : X.env.scope = sc := by rfl) : Gl X x := by
  show X.env.scope.names.lookup x = _
  rw [hsc]; exact h
theorem lookup_relabel_glob {env : Env} : ∀ {names : List (Str × NameKind)} {x : Str}, names.lookup x = some .globalImplicit →
    (names.map fun (n, k) => if (k == NameKind.free && env.scope.kind == .function && env.kindOf n == some .cell) then (n, NameKind.cell) else (n, k)).lookup x = some .globalImplicit
  | [], _, h => by simp at h
  | (n, k) :: r, x, h => by
    have ih := @lookup_relabel_glob env r x
    show List.lookup x ((if (k == NameKind.free && env.scope.kind == .function && env.kindOf n == some .cell) = true then (n, NameKind.cell) else (n, k)) :: _) = _
    cases hx : x == n with
    | true =>
      simp only [List.lookup_cons, hx] at h
      cases h
      simp [List.lookup_cons, hx]
    | false =>
      simp only [List.lookup_cons, hx] at h
      by_cases hc : (k == NameKind.free && env.scope.kind == .function && env.kindOf n == some .cell) = true
      · rw [if_pos hc]; simp only [List.lookup_cons, hx]; exact ih h
      · rw [if_neg hc]; simp only [List.lookup_cons, hx]; exact ih h
theorem glB (h : scope.names.lookup x = some .globalImplicit) : Gl (cxC X N' scope C s₀ H₀ ex) x := lookup_relabel_glob h
theorem pgB (i : Nat) (h : scope.names.lookup x = some .local) (hN : N'.Nodup) (hi : N'[i]? = some x := by rfl) : PG (cxC X N' scope C s₀ H₀ ex) (.Name x pos) (gName i) :=
  pg_name hN hi (.inl (lookup_relabel_local h)) (.inr (lookup_relabel_local h))
end
def notComp : Expr → Bool
  | .ListComp .. => false | .SetComp .. => false | .DictComp .. => false | _ => true
theorem sw_no {value : Expr} {target : Option Expr} {line : Nat} {env : Env} (h : notComp value = true) : swapsWith value target line env = pure false := by
  cases value <;> first | rfl | cases h
def notSlice : Expr → Bool
  | .Slice .. => false | _ => true
theorem pix {b : Expr} (h : notSlice b = true) : PlainIx b := by
  intro o i
  cases b <;> first | rfl | cases h
def notSet : Expr → Bool
  | .Set .. => false | _ => true
theorem fs_no {e : Expr} {env : Env} (h : notSet e = true) : ∀ x, foldedSetIterable e env x = pure x := by
  intro x
  cases e <;> first | rfl | cases h
def notStar : Expr → Bool
  | .Starred .. => false | _ => true
theorem se_cons {e : Expr} {es : List Expr} {env : Env} (h : notStar e = true) : starEach (e :: es) env = (false, eval e env) :: starEach es env := by
  cases e <;> first | rfl | cases h
theorem se_any {env : Env} {pos : Pos} : ∀ {es : List Expr}, es.all notStar = true → (backTo pos (starEach es env)).any (·.1) = false
  | [], _ => rfl
  | e :: es, h => by
    simp only [List.all_cons, Bool.and_eq_true] at h
    rw [se_cons h.1]
    show (false || (backTo pos (starEach es env)).any (·.1)) = false
    rw [se_any h.2]; rfl
theorem se_all {env : Env} {pos : Pos} : ∀ {es : List Expr}, es.all notStar = true → (backTo pos (starEach es env)).all (fun x => !x.1) = true
  | [], _ => rfl
  | e :: es, h => by
    simp only [List.all_cons, Bool.and_eq_true] at h
    rw [se_cons h.1]
    show (true && (backTo pos (starEach es env)).all (fun x => !x.1)) = true
    rw [se_all h.2]; rfl
section
variable {X : Cx} {K : PySem.W.Frag} {e : Expr} {es : List Expr} {te : TE} {t : TA} {pos p : Pos}
theorem paC (ha : PE X e te) (hr : PA X es t) (h : notStar e = true := by rfl) : PA X (e :: es) (tCons te t) := pa_cons ha hr (se_cons h)
theorem callH {k : Nat} {x : Str} {ps : List Str} {sp : Sp} (F : Has X.prog X.w X.K X.mg X.base k x ps sp) (hr : Room k X.A) (hg : Gl X x) (ha : PA X (e :: es) t) (hdb : (x == ("__debug__" : Str)) = false) (h : (e :: es).all notStar = true := by rfl) :
    PE X (.Call (.Name x p) (e :: es) [] pos) (tCall sp [] E0 t) := by
  simp only [List.all_cons, Bool.and_eq_true] at h
  exact pe_callH F hr hg ha hdb (se_cons h.1) (se_any h.2)
theorem callB {x : Str} {id : String} {r : List V → Hp → VK → Prop} (hc : CallR X (.builtin id) r) (hg : Gl X x) (hm : X.mg x = none) (hv : bootBuiltins x = some (.builtin id)) (ha : PA X (e :: es) t) (hn : x ≠ "__name__") (hdb : (x == ("__debug__" : Str)) = false) (h : (e :: es).all notStar = true := by rfl) :
    PE X (.Call (.Name x p) (e :: es) [] pos) (tCB r t) := by
  simp only [List.all_cons, Bool.and_eq_true] at h
  exact pe_callB hc hg hm hv ha hn hdb (se_cons h.1) (se_any h.2)
theorem callTy {x : Str} {T : String} {r : List V → Hp → VK → Prop} (hc : CallR X (.type T) r) (hg : Gl X x) (hm : X.mg x = none) (hv : bootBuiltins x = some (.type T)) (ha : PA X (e :: es) t) (hn : x ≠ "__name__") (hdb : (x == ("__debug__" : Str)) = false) (h : (e :: es).all notStar = true := by rfl) :
    PE X (.Call (.Name x p) (e :: es) [] pos) (tCB r t) := by
  simp only [List.all_cons, Bool.and_eq_true] at h
  exact pe_callTy hc hg hm hv ha hn hdb (se_cons h.1) (se_any h.2)
def notCall : Expr → Bool
  | .Call .. => false | _ => true
theorem ab_no {o : Expr} {f : Str} {env : Env} {w : Sem Value} (h : notCall o = true) : attributeBase o f env w = w := by
  cases o <;> first | rfl | cases h
theorem methK {o : Expr} {to : TE} {name : Str} {apos cpos : Pos} {T id : String} {r : V → List V → Hp → VK → Prop} (hK : X.K = K) (pa : PlainAttrs T) (slot : Slot T name id) (hty : typeOf (.builtin id) = pure (.type "method_descriptor")) (hm : MtR X id r) (ho : PE X o to) (ha : PA X (e :: es) t)
    (hbase : notCall o = true := by rfl) (hl : es.length < 20 := by decide) (hline : (apos.endLine == cpos.line) = true := by rfl) (h : (e :: es).all notStar = true := by rfl) :
    PE X (.Call (.Attribute o name apos) (e :: es) [] cpos) (tBM K T r to t) := by
  have hA := se_all (env := X.env) (pos := cpos) h
  simp only [List.all_cons, Bool.and_eq_true] at h
  refine pe_bmK hK pa slot hty hm ho ha (ab_no hbase) ?_ hline (se_cons h.1) (se_any h.2)
  rw [hA]
  have : (e :: es).length + ([] : List Keyword).length + (if ([] : List Keyword).isEmpty then 0 else 1) < 30 := by simp; omega
  rw [decide_eq_true this]; rfl
theorem meth0K {o : Expr} {to : TE} {name : Str} {apos cpos : Pos} {T id : String} {r : V → List V → Hp → VK → Prop} (hK : X.K = K) (pa : PlainAttrs T) (slot : Slot T name id) (hty : typeOf (.builtin id) = pure (.type "method_descriptor")) (hm : MtR X id r) (ho : PE X o to)
    (hbase : notCall o = true := by rfl) (hline : (apos.endLine == cpos.line) = true := by rfl) : PE X (.Call (.Attribute o name apos) [] [] cpos) (tBM0 K T r to) :=
  pe_bm0K hK pa slot hty hm ho (ab_no hbase) hline
theorem psSet {i : Nat} {x : Str} {pos' : Pos} (hN : X.N.Nodup) (hi : X.N[i]? = some x) (hx : Loc X.env.scope x) (he : PE X e te) (hf : X.fn x = true) (h : notComp e = true := by rfl) : PS X (.Assign [.Name x pos'] e pos) (tAsg te (gName i)) :=
  ps_set hN hi hx he (sw_no h) (.inl hf)
theorem psExpr (he : PE X e te) (h : notComp e = true := by rfl) : PS X (.Expr e pos) (tDrop te) := ps_expr he (sw_no h)
theorem ixE {a b : Expr} {ta tb : TE} (hK : X.K = K) (ha : PE X a ta) (hb : PE X b tb) (h : notSlice b = true := by rfl) : PE X (.Subscript a b pos) (tOp (rIx K) ta tb) := pe_ix (ix_seqK hK) ha hb (pix h)
theorem psFor {tg iter : Expr} {body : List Stmt} {wi : TI} {g : TG} {tb : TS} (hp : PassesOwn (model X.prog X.w) X.A X.env X.xe) (hc : X.calm = true) (hi : PI X tg iter wi) (hg : PG X tg g) (hb : PSs X body tb) (h : notSet iter = true := by rfl) : PS X (.For tg iter body [] pos) (tFor wi g tb) :=
  ps_for hp hc hi hg hb (fs_no h)
end
section
variable {X : Cx} {tg iter elt : Expr} {ifs : List Expr} {scope : Scope} {pos : Pos} {N' : List Str} {sub : List (Option Nat)} {wi : TI} {g : TG} {tt : TT} {te : TE} {N : List Str} {sc : Scope}
theorem compE (S : SubOk N sc N' scope sub) (hc : X.calm = true) (hN : X.N = N) (hsc : X.env.scope = sc) (hi : PI X tg iter wi)
    (hg : ∀ (C : Addr) (s₀ : Shared) (H₀ : Hp) (ex : List Addr), PG (cxC X N' scope C s₀ H₀ ex) tg g)
    (ht : ∀ (C : Addr) (s₀ : Shared) (H₀ : Hp) (ex : List Addr), PIfs (cxC X N' scope C s₀ H₀ ex) ifs tt)
    (he : ∀ (C : Addr) (s₀ : Shared) (H₀ : Hp) (ex : List Addr), PE (cxC X N' scope C s₀ H₀ ex) elt te) (h : notSet iter = true := by rfl) :
    PE X (.ListComp elt [⟨tg, iter, ifs, 0⟩] scope pos) (tComp sub wi g tt te) := pe_comp S hc hN hsc hi hg ht he (fs_no h)
end
theorem bt_len : bootBuiltins "len" = some (.builtin "len") := by decide +kernel
theorem bt_max : bootBuiltins "max" = some (.builtin "max") := by decide +kernel
theorem bt_isinstance : bootBuiltins "isinstance" = some (.builtin "isinstance") := by decide +kernel
theorem bt_all : bootBuiltins "all" = some (.builtin "all") := by decide +kernel
theorem bt_repr : bootBuiltins "repr" = some (.builtin "repr") := by decide +kernel
theorem bt_list : bootBuiltins "list" = some (.type "list") := by decide +kernel
theorem bt_tuple : bootBuiltins "tuple" = some (.type "tuple") := by decide +kernel
theorem bt_int : bootBuiltins "int" = some (.type "int") := by decide +kernel
theorem bt_str : bootBuiltins "str" = some (.type "str") := by decide +kernel
theorem bt_enumerate : bootBuiltins "enumerate" = some (.type "enumerate") := by decide +kernel
theorem bt_reversed : bootBuiltins "reversed" = some (.type "reversed") := by decide +kernel
theorem bt_bool : bootBuiltins "bool" = some (.type "bool") := by decide +kernel
theorem iteD {c A B : Prop} [Decidable c] (h1 : c → A) (h2 : ¬ c → B) : if decide c = true then A else B := by
  by_cases h : c
  · rw [if_pos (decide_eq_true h)]; exact h1 h
  · rw [if_neg (by rw [decide_eq_false h]; exact Bool.false_ne_true)]; exact h2 h
theorem atI_int {α : Type} {xs : List α} {k : Int} {v : α} (h0 : 0 ≤ k) (h : xs[k.toNat]? = some v) : atI xs k = some v := by
  have e : ((k.toNat : Nat) : Int) = k := by omega
  rw [← e]
  exact atI_nat h
end L2

namespace L2
open PySem PySem.Spec PyProof.Rows
section
variable {σ : St} {H : Hp} {D : Ends} {ta tb te tc : TE} {tt tu : TT} {Q : VK} {t u : TS} {g : TG}
theorem r_seq (h : t { D with nx := u D } σ H) : tSeq t u D σ H := h
theorem r_next (h : D.nx σ H) : tNext D σ H := h
theorem r_asg (h : te σ H fun x H1 => g x σ H1 D.nx) : tAsg te g D σ H := h
theorem r_name {i : Nat} {v : V} {R : St → Hp → Prop} (h : R (σ.set i (some v)) H) : gName i v σ H R := h
theorem r_sub {to ti : TE} {ts : TSet} {v : V} {R : St → Hp → Prop} (h : to σ H fun o H1 => ti σ H1 fun i H2 => ts o i v H2 fun H3 => R σ H3) : gSub to ti ts v σ H R := h
theorem r_ret (h : te σ H D.rt) : tRet te D σ H := h
theorem r_drop (h : te σ H fun _ H1 => D.nx σ H1) : tDrop te D σ H := h
theorem r_if (h : tt σ H fun b H1 => if b = true then t D σ H1 else u D σ H1) : tIfS tt t u D σ H := h
theorem r_test {R : Bool → Hp → Prop} (h : te σ H fun x H1 => ∃ k, x = .bl k ∧ R k H1) : tTest te σ H R := h
theorem r_tb {R : Bool → Hp → Prop} (h : te σ H fun x H1 => ∃ k, x = .bl k ∧ R k H1) : tB te σ H R := h
theorem r_not {R : Bool → Hp → Prop} (h : tt σ H fun c H1 => R (!c) H1) : tNot tt σ H R := h
theorem r_and {R : Bool → Hp → Prop} (h : tt σ H fun c H1 => if c = true then tu σ H1 R else R false H1) : tAnd tt tu σ H R := h
theorem r_or {R : Bool → Hp → Prop} (h : tt σ H fun c H1 => if c = true then R true H1 else tu σ H1 R) : tOr tt tu σ H R := h
theorem r_andV (h : ta σ H fun x H1 => ∃ c, x = .bl c ∧ if c = true then tb σ H1 Q else Q (.bl false) H1) : tAndV ta tb σ H Q := h
theorem r_notV (h : ta σ H fun x H1 => ∃ c, x = .bl c ∧ Q (.bl (!c)) H1) : tNotV ta σ H Q := h
theorem r_var {i : Nat} {v : V} (e : σ[i]? = some (some v)) (h : Q v H) : tVar i σ H Q := ⟨v, e, h⟩
theorem r_C {v : V} (h : Q v H) : tC v σ H Q := h
theorem r_op {r : R2} (h : ta σ H fun x H1 => tb σ H1 fun y H2 => r x y H2 Q) : tOp r ta tb σ H Q := h
theorem r_un {r : V → Hp → VK → Prop} (h : ta σ H fun x H1 => r x H1 Q) : tUn r ta σ H Q := h
theorem r_cb {r : List V → Hp → VK → Prop} {a : TA} (h : a σ H fun vs H1 => r vs H1 Q) : tCB r a σ H Q := h
theorem r_cons {a : TA} {R : List V → Hp → Prop} (h : te σ H fun x H1 => a σ H1 fun xs H2 => R (x :: xs) H2) : tCons te a σ H R := h
theorem r_nil {R : List V → Hp → Prop} (h : R [] H) : tNil σ H R := h
theorem r_call {sp : Sp} {E : XK} {a : TA} (h : a σ H fun vs H1 => sp vs H1 Q E) : tCall sp [] E a σ H Q := by
  unfold tCall
  simpa only [List.append_nil] using h
theorem r_tup {a : TA} (h : a σ H fun xs H1 => xs.length ≤ sizeLine ∧ ∀ p, H1 p = none → Q (.ref p) (upd H1 p (.tup xs))) : tTup a σ H Q := h
theorem r_lst {a : TA} (h : a σ H fun xs H1 => xs.length ≤ sizeLine ∧ ∀ p, H1 p = none → Q (.ref p) (upd H1 p (.lst xs))) : tLst a σ H Q := h
theorem r_bm {K : PySem.W.Frag} {T : String} {r : V → List V → Hp → VK → Prop} {a : TA} (h : te σ H fun x H1 => tyV K T x H1 ∧ a σ H1 fun xs H2 => r x xs H2 Q) : tBM K T r te a σ H Q := h
theorem r_bm0 {K : PySem.W.Frag} {T : String} {r : V → List V → Hp → VK → Prop} (h : te σ H fun x H1 => tyV K T x H1 ∧ r x [] H1 Q) : tBM0 K T r te σ H Q := h
theorem r_sl {r : V → Option Int → Option Int → Hp → VK → Prop} {tl th : TO} (h : te σ H fun x H1 => tl σ H1 fun l H2 => th σ H2 fun u H3 => r x l u H3 Q) : tSl r te tl th σ H Q := h
theorem r_nop {R : Option Int → Hp → Prop} (h : R none H) : tNoPart σ H R := h
theorem r_part {R : Option Int → Hp → Prop} (h : te σ H fun x H1 => ∃ i, x = .int i ∧ R (some i) H1) : tPart te σ H R := h
theorem r_true {R : Bool → Hp → Prop} (h : R true H) : tTrue σ H R := h
theorem r_rng1 {a : TA} {R : It → Hp → Prop} (h : a σ H fun vs H1 => ∃ j : Int, vs = [.int j] ∧ -(2 ^ 62) ≤ j ∧ j < 2 ^ 62 ∧ R (Itr 0 j.toNat) H1) : iRng1 a σ H R := h
theorem r_iseq {K : PySem.W.Frag} {R : It → Hp → Prop} (h : te σ H fun x H1 => (∃ a, x = .ref a ∧ (∃ xs, SqL K H1 a xs) ∧ R (Itl K a) H1) ∨ (∃ a, x = .ref a ∧ (∃ xs, SqT K H1 a xs) ∧ R (Itt K a) H1) ∨ (∃ z, x = .str z ∧ R (Its z) H1)) : iSeq K te σ H R := h
theorem r_comp {sub : List (Option Nat)} {wi : TI} (h : wi σ H fun J H1 => CompR sub g tt te σ Q J H1) : tComp sub wi g tt te σ H Q := h
theorem r_for {wi : TI} {tbd : TS} (h : wi σ H fun J H1 => ∃ W : Nat → Nat → St → Hp → Prop, (∃ m, W 0 m σ H1) ∧ ∀ i m σ H, W i m σ H →
  (J.stop i H ∧ D.nx σ H) ∨ (J.go i H ∧ ∃ N : St → Hp → Prop, (∀ σ' H', N σ' H' → ∃ m', m' < m ∧ W (i + 1) m' σ' H') ∧ ∀ x H', J.yld i H x H' → g x σ H' fun σ2 H2 => tbd { D with nx := N, ct := N, bk := D.nx } σ2 H2)) : tFor wi g tbd D σ H := h
variable {i j : Int} {x y : Str} {f : Int → Int → V} {C : Int → Int → Prop} {K : PySem.W.Frag}
theorem r_i0 (h : Q (f i j) H) : rI0 f (.int i) (.int j) H Q := ⟨_, _, rfl, rfl, h⟩
theorem r_i (c : C i j) (h : Q (f i j) H) : rI C f (.int i) (.int j) H Q := ⟨_, _, rfl, rfl, c, h⟩
theorem r_addI (h : Q (.int (i + j)) H) : rAddA (.int i) (.int j) H Q := .inl ⟨_, _, rfl, rfl, h⟩
theorem r_addS (c : x.length + y.length ≤ sizeLine) (h : Q (.str (x ++ y)) H) : rAddA (.str x) (.str y) H Q := .inr (.inl ⟨_, _, rfl, rfl, c, h⟩)
theorem r_addL {a b : Addr} {xs ys : List V} (ha : H a = some (.lst xs)) (hb : H b = some (.lst ys)) (c : xs.length + ys.length ≤ sizeLine) (h : ∀ p, H p = none → Q (.ref p) (upd H p (.lst (xs ++ ys)))) : rAddA (.ref a) (.ref b) H Q :=
  .inr (.inr ⟨a, b, xs, ys, rfl, rfl, ha, hb, c, h⟩)
theorem r_mulI (c : CMul i j) (h : Q (.int (i * j)) H) : rMulA (.int i) (.int j) H Q := .inl ⟨_, _, rfl, rfl, c, h⟩
theorem r_ixL {p : Addr} {xs : List V} {v : V} (s : SqL K H p xs) (e : atI xs i = some v) (h : Q v H) : rIx K (.ref p) (.int i) H Q := .inl ⟨p, xs, i, v, rfl, rfl, s, e, h⟩
theorem r_ixT {p : Addr} {xs : List V} {v : V} (s : SqT K H p xs) (e : atI xs i = some v) (h : Q v H) : rIx K (.ref p) (.int i) H Q := .inr (.inl ⟨p, xs, i, v, rfl, rfl, s, e, h⟩)
theorem r_ixS {c : Nat} (s : x.length ≤ sizeLine) (e : atI x.cps.toList i = some c) (h : Q (.str ⟨#[c]⟩) H) : rIx K (.str x) (.int i) H Q := .inr (.inr ⟨x, i, c, rfl, rfl, s, e, h⟩)
theorem r_setL {p : Addr} {xs : List V} {n : Nat} {v : V} {R : Hp → Prop} (hp : H p = some (.lst xs)) (e : ixN xs.length i = some n) (h : R (upd H p (.lst (xs.set n v)))) : rSetL (.ref p) (.int i) v H R := ⟨p, xs, i, n, rfl, rfl, hp, e, h⟩
theorem r_inS (h : Q (.bl (!(Builtin.Str.occurrences y x 0 y.length 1).isEmpty)) H) : rInA K (.str x) (.str y) H Q := .inl ⟨_, _, rfl, rfl, h⟩
theorem r_bl {b : Bool} {R : Bool → Prop} (h : R b) : ∃ k, V.bl b = .bl k ∧ R k := ⟨b, rfl, h⟩
theorem r_intE {n : Int} {R : Int → Prop} (h : R n) : ∃ k, V.int n = .int k ∧ R k := ⟨n, rfl, h⟩
end
/-- what a def that only looks may do: all that was tracked stands -/
theorem Same.upd {H H' : Hp} {p : Addr} {o : HO} (s : Same H H') (hn : H' p = none) : Same H (upd H' p o) := fun b u e => by
  have q := s b u e
  rw [upd_ne (fun z => by rw [z, hn] at q; cases q)]
  exact q
end L2

namespace L2
open PySem PySem.Spec PyProof.Rows
def Chg (p : Addr) (H H' : Hp) : Prop := ∀ b o, b ≠ p → H b = some o → H' b = some o
def Pur (H : Hp) (p : Addr) : Prop := ∃ a b c : Int, H p = some (.lst [.int a, .int b, .int c]) ∧ 0 ≤ a ∧ 0 ≤ b ∧ b < 2147483629
theorem Chg.refl (p : Addr) (H : Hp) : Chg p H H := fun _ _ _ e => e
theorem Chg.trans {p : Addr} {H H1 H2 : Hp} (a : Chg p H H1) (b : Chg p H1 H2) : Chg p H H2 := fun c o n e => b c o n (a c o n e)
theorem Chg.of_same {p : Addr} {H H' : Hp} (s : Same H H') : Chg p H H' := fun b o _ e => s b o e
theorem Chg.new {p q : Addr} {H H1 : Hp} {o : HO} (a : Chg p H H1) (hn : H1 q = none) : Chg p H (upd H1 q o) := fun b u n e => by
  have z := a b u n e
  rw [upd_ne (fun k => by rw [k, hn] at z; cases z)]
  exact z
theorem Chg.at_ {p q : Addr} {H H' : Hp} {o : HO} (a : Chg p H H') (hq : H q = some o) (hn : q ≠ p) : H' q = some o := a q o hn hq
theorem Chg.none_ {p q : Addr} {H H' : Hp} (a : Chg p H H') (hq : H' q = none) (hn : q ≠ p) : H q = none := by
  cases e : H q with
  | none => rfl
  | some o => rw [a q o hn e] at hq; cases hq
theorem Pur.ne {H : Hp} {p q : Addr} (h : Pur H p) (hq : H q = none) : q ≠ p := by
  obtain ⟨a, b, c, e, _⟩ := h
  intro z; subst z; rw [e] at hq; cases hq
theorem Pur.new {H : Hp} {p q : Addr} {o : HO} (h : Pur H p) (hq : H q = none) : Pur (upd H q o) p := by
  have n := h.ne hq
  obtain ⟨a, b, c, e, r⟩ := h
  exact ⟨a, b, c, by rw [upd_ne (Ne.symm n)]; exact e, r⟩
theorem upd_old {H : Hp} {q b : Addr} {o u : HO} (hq : H q = none) (hb : H b = some u) : upd H q o b = some u := by
  rw [upd_ne (fun z => by rw [z, hq] at hb; cases hb)]; exact hb
theorem pickI {ns : List Int} {d : Int} (h0 : 0 ≤ d) (h1 : d < ns.length) : ∃ n, n ∈ ns ∧ atI (ns.map V.int) d = some (.int n) := by
  have hl : d.toNat < ns.length := by omega
  refine ⟨ns[d.toNat], List.getElem_mem hl, atI_int h0 ?_⟩
  rw [List.getElem?_map, List.getElem?_eq_getElem hl]; rfl
theorem pickS {ns : List Str} {d : Int} (h0 : 0 ≤ d) (h1 : d < ns.length) : ∃ n, n ∈ ns ∧ atI (ns.map V.str) d = some (.str n) := by
  have hl : d.toNat < ns.length := by omega
  refine ⟨ns[d.toNat], List.getElem_mem hl, atI_int h0 ?_⟩
  rw [List.getElem?_map, List.getElem?_eq_getElem hl]; rfl
theorem pickN {ns : List Nat} {d : Int} (h0 : 0 ≤ d) (h1 : d < ns.length) : ∃ n, n ∈ ns ∧ atI ns d = some n := by
  have hl : d.toNat < ns.length := by omega
  exact ⟨ns[d.toNat], List.getElem_mem hl, atI_int h0 (List.getElem?_eq_getElem hl)⟩
theorem pickV {vs : List V} {d : Int} (h0 : 0 ≤ d) (h1 : d < vs.length) : ∃ v, v ∈ vs ∧ atI vs d = some v := by
  have hl : d.toNat < vs.length := by omega
  exact ⟨vs[d.toNat], List.getElem_mem hl, atI_int h0 (List.getElem?_eq_getElem hl)⟩
theorem glued_join (sep : Str) (ys : List Str) : Txt.join sep ys = Str.join sep ys := by
  show Builtin.Str.glued sep ys = Str.join sep ys
  exact PySem.StrLaws.glued_eq_join sep ys
theorem join_cps (ys : List Str) : (Txt.join (Str.ofString "") ys).cps.toList = (ys.map fun y => y.cps.toList).flatten := by
  rw [glued_join]
  have e0 : (Str.ofString "").cps = #[] := by decide +kernel
  have key : ∀ ys : List Str, (Str.join (Str.ofString "") ys).cps.toList = (ys.map fun y => y.cps.toList).flatten := by
    intro ys
    induction ys with
    | nil => rfl
    | cons y r ih =>
      cases r with
      | nil => simp [Str.join]
      | cons z r =>
        show ((y ++ Str.ofString "") ++ Str.join (Str.ofString "") (z :: r)).cps.toList = _
        rw [Str.cps_append, Str.cps_append, e0]
        simp only [Array.append_empty, Array.toList_append, ih, List.map_cons, List.flatten_cons]
  exact key ys
theorem len_cps (x : Str) : x.length = x.cps.toList.length := by simp [Str.length]
theorem join_len {ys : List Str} (h : ∀ y ∈ ys, y.length = 1) : (Txt.join (Str.ofString "") ys).length = ys.length := by
  rw [len_cps, join_cps]
  induction ys with
  | nil => rfl
  | cons y r ih =>
    have h1 := h y (by simp)
    rw [len_cps] at h1
    simp only [List.map_cons, List.flatten_cons, List.length_append, List.length_cons, h1]
    rw [ih fun z hz => h z (by simp [hz])]
    omega
theorem sum_ones {ys : List Str} (h : ∀ y ∈ ys, y.length = 1) : (ys.map (·.length)).sum = ys.length := by
  induction ys with
  | nil => rfl
  | cons y r ih =>
    simp only [List.map_cons, List.sum_cons, List.length_cons, h y (by simp), ih fun z hz => h z (by simp [hz])]
    omega
theorem len1 (c : Nat) : (⟨#[c]⟩ : Str).length = 1 := by simp [Str.length]
section
variable {H : Hp} {Q : VK} {K : PySem.W.Frag}
theorem r_lenL {p : Addr} {xs : List V} (s : SqL K H p xs) (h : Q (.int xs.length) H) : rLen K [V.ref p] H Q := ⟨_, _, rfl, .inl ⟨_, s, rfl⟩, h⟩
theorem r_lenT {p : Addr} {xs : List V} (s : SqT K H p xs) (h : Q (.int xs.length) H) : rLen K [V.ref p] H Q := ⟨_, _, rfl, .inr ⟨_, s, rfl⟩, h⟩
theorem r_lenS {z : Str} (s : z.length ≤ sizeLine) (h : Q (.int z.length) H) : rLen K [V.str z] H Q := ⟨_, _, rfl, ⟨s, rfl⟩, h⟩
theorem r_ii {i j : Int} {R : Int → Int → Prop} (h : R i j) : ∃ a b, [V.int i, V.int j] = [.int a, .int b] ∧ R a b := ⟨_, _, rfl, h⟩
theorem r_isi {x : V} {T : String} {t : Value} {b : Bool} (ty : TyOf K H x t) (e : PySem.W.kitOne K t (.type T) = some b) (h : Q (.bl b) H) : rIsi K [x, .ty T] H Q := ⟨x, T, t, b, rfl, ty, e, h⟩
theorem r_join {sep : Str} {p : Addr} {ys : List Str} (hp : H p = some (.lst (ys.map V.str))) (hz : (ys.map (·.length)).sum + ys.length * sep.length ≤ 16777216) (h : Q (.str (Txt.join sep ys)) H) : rJoin (.str sep) [.ref p] H Q := ⟨sep, p, ys, rfl, rfl, hp, hz, h⟩
theorem r_slL {p : Addr} {xs : List V} {lo hi : Option Int} (s : SqL K H p xs) (h : ∀ q, H q = none → Q (.ref q) (upd H q (.lst (cutV xs lo hi)))) : rSl K (.ref p) lo hi H Q := .inl ⟨p, xs, rfl, s, h⟩
end
section
variable {σ : St} {H : Hp} {Q : VK}
theorem r_listL {K : PySem.W.Frag} {a : Addr} {xs : List V} (s : SqL K H a xs) (h : ∀ p, H p = none → Q (.ref p) (upd H p (.lst xs))) : rListA K [.ref a] H Q := .inl ⟨a, xs, rfl, .inl s, h⟩
end
/-- a comprehension over a range -/
theorem comp_rng {sub : List (Option Nat)} {g : TG} {tt : TT} {te : TE} {σ : St} {Q : VK} {H : Hp} {lo : Int} {n : Nat} (Pv : Nat → List V → Hp → Prop) (hn : n ≤ sizeLine) (h0 : Pv 0 [] H) (hl : ∀ i ys H, Pv i ys H → ys.length ≤ i)
    (hs : ∀ i ys H, i < n → Pv i ys H → g (.int (lo + i)) (subSt sub σ) H fun σ2 H2 => KeepSt (subSt sub σ) σ2 ∧ tt σ2 H2 fun b H3 => if b = true then te σ2 H3 fun y H4 => Pv (i + 1) (ys ++ [y]) H4 else Pv (i + 1) ys H3)
    (hd : ∀ ys H, Pv n ys H → ∀ D, H D = none → Q (.ref D) (upd H D (.lst ys))) : CompR sub g tt te σ Q (Itr lo n) H :=
  comp_by (n := n) Pv hn h0 hl (fun i ys H hi _ => hi) (fun ys H _ => Nat.le_refl _) (fun i ys H x H' hi p y => by
    obtain ⟨e1, e2⟩ := y
    subst e1 e2
    exact hs i ys _ hi p) hd
theorem comp_str {sub : List (Option Nat)} {g : TG} {tt : TT} {te : TE} {σ : St} {Q : VK} {H : Hp} {z : Str} (Pv : Nat → List V → Hp → Prop) (hn : z.cps.size ≤ sizeLine) (h0 : Pv 0 [] H) (hl : ∀ i ys H, Pv i ys H → ys.length ≤ i)
    (hs : ∀ i ys H c, z.cps.toList[i]? = some c → Pv i ys H → g (.str ⟨#[c]⟩) (subSt sub σ) H fun σ2 H2 => KeepSt (subSt sub σ) σ2 ∧ tt σ2 H2 fun b H3 => if b = true then te σ2 H3 fun y H4 => Pv (i + 1) (ys ++ [y]) H4 else Pv (i + 1) ys H3)
    (hd : ∀ ys H, Pv z.cps.size ys H → ∀ D, H D = none → Q (.ref D) (upd H D (.lst ys))) : CompR sub g tt te σ Q (Its z) H :=
  comp_by (n := z.cps.size) Pv hn h0 hl (fun i ys H hi _ => hi) (fun ys H _ => rfl) (fun i ys H x H' hi p y => by
    obtain ⟨e1, c, e2, e3⟩ := y
    subst e1 e3
    exact hs i ys _ c (by simpa using e2) p) hd
theorem comp_list {sub : List (Option Nat)} {g : TG} {tt : TT} {te : TE} {σ : St} {Q : VK} {H : Hp} {K : PySem.W.Frag} {a : Addr} {xs : List V} (Pv : Nat → List V → Hp → Prop) (hn : xs.length ≤ sizeLine) (h0 : Pv 0 [] H) (hl : ∀ i ys H, Pv i ys H → ys.length ≤ i)
    (hq : ∀ i ys H, Pv i ys H → SqL K H a xs)
    (hs : ∀ i ys H x, xs[i]? = some x → Pv i ys H → g x (subSt sub σ) H fun σ2 H2 => KeepSt (subSt sub σ) σ2 ∧ tt σ2 H2 fun b H3 => if b = true then te σ2 H3 fun y H4 => Pv (i + 1) (ys ++ [y]) H4 else Pv (i + 1) ys H3)
    (hd : ∀ ys H, Pv xs.length ys H → ∀ D, H D = none → Q (.ref D) (upd H D (.lst ys))) : CompR sub g tt te σ Q (Itl K a) H :=
  comp_by (n := xs.length) Pv hn h0 hl (fun i ys H hi p => ⟨xs, xs[i], hq i ys H p, List.getElem?_eq_getElem hi⟩) (fun ys H p => ⟨xs, hq _ ys H p, Nat.le_refl _⟩) (fun i ys H x H' hi p y => by
    obtain ⟨e1, e2⟩ := y
    subst e1
    exact hs i ys _ x (e2 xs (hq i ys _ p)) p) hd
end L2

namespace L2
open PySem PySem.Spec PyProof.Rows
structure JE (X : Cx) (e : Expr) (t : TE) : Prop where
  run : PE X e t
structure JT (X : Cx) (e : Expr) (t : TT) : Prop where
  run : PT X e t
structure JW (X : Cx) (e : Expr) (t : TT) : Prop where
  run : PW X e t
structure JA (X : Cx) (es : List Expr) (t : TA) : Prop where
  run : PA X es t
structure JS (X : Cx) (s : Stmt) (t : TS) : Prop where
  run : PS X s t
structure JB (X : Cx) (s : List Stmt) (t : TS) : Prop where
  run : PSs X s t
structure JI (X : Cx) (tg iter : Expr) (t : TI) : Prop where
  run : PI X tg iter t
structure JG (X : Cx) (tg : Expr) (t : TG) : Prop where
  run : PG X tg t
structure JGs (X : Cx) (tg : List Expr) (t : TGs) : Prop where
  run : PGs X tg t
structure JO (X : Cx) (e : Option Expr) (t : TO) : Prop where
  run : PO X e t
structure JPs (X : Cx) (pos : Pos) (keys : List (Option Expr)) (values : List Expr) (t : List (TE × TE)) : Prop where
  run : PPs X pos keys values t
structure JIfs (X : Cx) (ifs : List Expr) (t : TT) : Prop where
  run : PIfs X ifs t
section
variable {X : Cx} {K : PySem.W.Frag} {sc scope : Scope} {N' : List Str} {C : Addr} {s₀ : Shared} {H₀ : Hp} {ex : List Addr} {x : Str} {pos p p2 pos' apos cpos tpos : Pos} {a b c e o : Expr} {es : List Expr} {ta tb tc te to ti : TE} {t : TA} {tA tB' tt : TT} {rest : List Expr}
theorem j_vL (i : Nat) (h : sc.names.lookup x = some .local) (hN : X.N[i]? = some x := by rfl) (hsc : X.env.scope = sc := by rfl) (hd : (x == ("__debug__" : Str)) = false := by decide +kernel) (hcd : (x == ("__classdict__" : Str)) = false := by decide +kernel) : JE X (.Name x pos) (tVar i) := ⟨pvL i h hN hsc hd hcd⟩
theorem j_vC (i : Nat) (h : sc.names.lookup x = some .cell) (hN : X.N[i]? = some x := by rfl) (hsc : X.env.scope = sc := by rfl) (hd : (x == ("__debug__" : Str)) = false := by decide +kernel) (hcd : (x == ("__classdict__" : Str)) = false := by decide +kernel) : JE X (.Name x pos) (tVar i) := ⟨pvC i h hN hsc hd hcd⟩
theorem j_vBL (i : Nat) (h : scope.names.lookup x = some .local) (hN : N'[i]? = some x := by rfl) (hd : (x == ("__debug__" : Str)) = false := by decide +kernel) (hcd : (x == ("__classdict__" : Str)) = false := by decide +kernel) : JE (cxC X N' scope C s₀ H₀ ex) (.Name x pos) (tVar i) := ⟨pvBL i h hN hd hcd⟩
theorem j_vBF (i : Nat) (h : scope.names.lookup x = some .free) (hN : N'[i]? = some x := by rfl) (hd : (x == ("__debug__" : Str)) = false := by decide +kernel) (hcd : (x == ("__classdict__" : Str)) = false := by decide +kernel) : JE (cxC X N' scope C s₀ H₀ ex) (.Name x pos) (tVar i) := ⟨pvBF i h hN hd hcd⟩
theorem j_int {i j} : JE X (.Constant (.int i) j pos) (tC (.int i)) := ⟨pe_int⟩
theorem j_bl {i j} : JE X (.Constant (.bool i) j pos) (tC (.bl i)) := ⟨pe_bl⟩
theorem j_non {j} : JE X (.Constant .none j pos) (tC .non) := ⟨pe_non⟩
theorem j_str {i j} : JE X (.Constant (.str i) j pos) (tC (.str i)) := ⟨pe_str⟩
theorem j_gstr {z : Str} (hg : Gl X x) (hm : ∃ t, X.mg x = some (.str z t)) (hd : (x == ("__debug__" : Str)) = false) : JE X (.Name x pos) (tC (.str z)) := ⟨glob_str hg hm hd⟩
theorem j_gint {z : Int} (hg : Gl X x) (hm : ∃ t, X.mg x = some (.int z t)) (hd : (x == ("__debug__" : Str)) = false) : JE X (.Name x pos) (tC (.int z)) := ⟨glob_int hg hm hd⟩
theorem j_ty {T : String} (hg : Gl X x) (hm : X.mg x = none) (hv : bootBuiltins x = some (.type T)) (hn : x ≠ "__name__") (hd : (x == ("__debug__" : Str)) = false) : JE X (.Name x pos) (tC (.ty T)) := ⟨pe_ty hg hm hv hn hd⟩
theorem j_op {op : Operator} {r : R2} (ho : OpR X (binaryOp op) r) (ha : JE X a ta) (hb : JE X b tb) : JE X (.BinOp a op b pos) (tOp r ta tb) := ⟨pe_op ho ha.run hb.run⟩
theorem j_un {op : UnaryOp} {r : V → Hp → VK → Prop} (ho : UnR X (unaryOp op) r) (ha : JE X a ta) : JE X (.UnaryOp op a pos) (tUn r ta) := ⟨pe_un ho ha.run⟩
theorem j_cmp {op : CmpOp} {r : R2} (ho : OpR X (compareOp op) r) (ha : JE X a ta) (hb : JE X b tb) (hm : behindInMarks op b = false) : JE X (.Compare a [op] [b] pos) (tOp r ta tb) := ⟨pe_cmpR ho ha.run hb.run hm⟩
theorem jt_cmp {op : CmpOp} {r : R2} (ho : OpR X (compareOp op) r) (ha : JE X a ta) (hb : JE X b tb) (hm : behindInMarks op b = false) : JT X (.Compare a [op] [b] pos) (tTest (tOp r ta tb)) := ⟨pt_cmpR ho ha.run hb.run hm⟩
theorem jw_and1 (ha : JT X a tA) : JW X (.BoolOp .And [a] pos) tA := ⟨pw_and1 ha.run⟩
theorem jw_or1 (ha : JT X a tA) : JW X (.BoolOp .Or [a] pos) tA := ⟨pw_or1 ha.run⟩
theorem jw_and (ha : JT X a tA) (hb : JW X (.BoolOp .And (b :: rest) pos) tB') : JW X (.BoolOp .And (a :: b :: rest) pos) (tAnd tA tB') := ⟨pw_and ha.run hb.run⟩
theorem jw_or (ha : JT X a tA) (hb : JW X (.BoolOp .Or (b :: rest) pos) tB') : JW X (.BoolOp .Or (a :: b :: rest) pos) (tOr tA tB') := ⟨pw_or ha.run hb.run⟩
theorem jw_pt (h : JW X e tt) : JT X e tt := ⟨h.run.pt⟩
theorem jt_not (ha : JT X a tA) : JT X (.UnaryOp .Not a pos) (tNot tA) := ⟨pt_not ha.run⟩
def plainT : Expr → Bool
  | .BoolOp .. => false | .UnaryOp .. => false | .Compare .. => false | .IfExp .. => false | _ => true
theorem jt_val (h : JE X e te) (hp : plainT e = true := by rfl) : JT X e (tB te) := ⟨pt_val h.run (by
  intro whole
  cases e <;> first | rfl | cases hp)⟩
theorem j_one {op} (h : JE X a te) : JE X (.BoolOp op [a] pos) te := ⟨pe_one h.run⟩
theorem j_and (ha : JE X a ta) (hb : JE X (.BoolOp .And (b :: rest) pos) tb) : JE X (.BoolOp .And (a :: b :: rest) pos) (tAndV ta tb) := ⟨pe_and ha.run hb.run⟩
theorem j_not (ha : JE X a ta) : JE X (.UnaryOp .Not a pos) (tNotV ta) := ⟨pe_not ha.run⟩
theorem j_tup {x1} (h : JA X es t) : JE X (.Tuple es x1 pos) (tTup t) := ⟨pe_tup h.run⟩
theorem j_lst (h : JA X es t) : JE X (.List es pos) (tLst t) := ⟨pe_lst h.run⟩
theorem ja_nil : JA X [] tNil := ⟨pa_nil⟩
theorem ja_cons (ha : JE X e te) (hr : JA X es t) (h : notStar e = true := by rfl) : JA X (e :: es) (tCons te t) := ⟨paC ha.run hr.run h⟩
theorem jo_none : JO X none tNoPart := ⟨po_none⟩
theorem jo_some (h : JE X e te) : JO X (some e) (tPart te) := ⟨po_some h.run⟩
theorem j_slice {r : V → Option Int → Option Int → Hp → VK → Prop} {lo hi : Option Expr} {tl th : TO} (hr : SlR X r) (he : JE X e te) (hl : JO X lo tl) (hu : JO X hi th) : JE X (.Subscript e (.Slice lo hi none p2) pos) (tSl r te tl th) := ⟨pe_slice hr he.run hl.run hu.run⟩
theorem j_ix (hK : X.K = K) (ha : JE X a ta) (hb : JE X b tb) (h : notSlice b = true := by rfl) : JE X (.Subscript a b pos) (tOp (rIx K) ta tb) := ⟨ixE hK ha.run hb.run h⟩
theorem j_call {k : Nat} {ps : List Str} {sp : Sp} (F : Has X.prog X.w X.K X.mg X.base k x ps sp) (hr : Room k X.A) (hg : Gl X x) (ha : JA X (e :: es) t) (hdb : (x == ("__debug__" : Str)) = false) (h : (e :: es).all notStar = true := by rfl) :
    JE X (.Call (.Name x p) (e :: es) [] pos) (tCall sp [] E0 t) := ⟨callH F hr hg ha.run hdb h⟩
theorem j_callB {id : String} {r : List V → Hp → VK → Prop} (hc : CallR X (.builtin id) r) (hg : Gl X x) (hm : X.mg x = none) (hv : bootBuiltins x = some (.builtin id)) (ha : JA X (e :: es) t) (hn : x ≠ "__name__") (hdb : (x == ("__debug__" : Str)) = false) (h : (e :: es).all notStar = true := by rfl) :
    JE X (.Call (.Name x p) (e :: es) [] pos) (tCB r t) := ⟨callB hc hg hm hv ha.run hn hdb h⟩
theorem j_callTy {T : String} {r : List V → Hp → VK → Prop} (hc : CallR X (.type T) r) (hg : Gl X x) (hm : X.mg x = none) (hv : bootBuiltins x = some (.type T)) (ha : JA X (e :: es) t) (hn : x ≠ "__name__") (hdb : (x == ("__debug__" : Str)) = false) (h : (e :: es).all notStar = true := by rfl) :
    JE X (.Call (.Name x p) (e :: es) [] pos) (tCB r t) := ⟨callTy hc hg hm hv ha.run hn hdb h⟩
theorem j_meth {name : Str} {T id : String} {r : V → List V → Hp → VK → Prop} (hK : X.K = K) (pa : PlainAttrs T) (slot : Slot T name id) (hty : typeOf (.builtin id) = pure (.type "method_descriptor")) (hm : MtR X id r) (ho : JE X o to) (ha : JA X (e :: es) t)
    (hbase : notCall o = true := by rfl) (hl : es.length < 20 := by decide) (hline : (apos.endLine == cpos.line) = true := by rfl) (h : (e :: es).all notStar = true := by rfl) : JE X (.Call (.Attribute o name apos) (e :: es) [] cpos) (tBM K T r to t) := ⟨methK hK pa slot hty hm ho.run ha.run hbase hl hline h⟩
theorem j_meth0 {name : Str} {T id : String} {r : V → List V → Hp → VK → Prop} (hK : X.K = K) (pa : PlainAttrs T) (slot : Slot T name id) (hty : typeOf (.builtin id) = pure (.type "method_descriptor")) (hm : MtR X id r) (ho : JE X o to)
    (hbase : notCall o = true := by rfl) (hline : (apos.endLine == cpos.line) = true := by rfl) : JE X (.Call (.Attribute o name apos) [] [] cpos) (tBM0 K T r to) := ⟨meth0K hK pa slot hty hm ho.run hbase hline⟩
theorem jif_nil : JIfs X [] tTrue := ⟨pifs_nil⟩
theorem jif_one (hc : JT X c tt) : JIfs X [c] tt := ⟨pifs_one hc.run⟩
variable {tg iter elt : Expr} {ifs : List Expr} {sub : List (Option Nat)} {wi : TI} {g : TG} {N : List Str}
theorem ji_range1 {ta : TA} (hg : Gl X "range") (hm : X.mg "range" = none) (ha : JA X [a] ta) (h : notStar a = true := by rfl) : JI X tg (.Call (.Name "range" p) [a] [] pos) (iRng1 ta) := ⟨pi_range1 hg hm ha.run (se_cons h)⟩
theorem ji_seq (hK : X.K = K) (hl : JE X e te) : JI X tg e (iSeq K te) := ⟨pi_seqK hK hl.run⟩
theorem jg_name {i : Nat} (hN : X.N.Nodup) (hi : X.N[i]? = some x) (hx : Loc X.env.scope x) (hf : X.fn x = true) : JG X (.Name x pos) (gName i) := ⟨pg_name hN hi hx (.inl hf)⟩
theorem jg_B (i : Nat) (h : scope.names.lookup x = some .local) (hN : N'.Nodup) (hi : N'[i]? = some x := by rfl) : JG (cxC X N' scope C s₀ H₀ ex) (.Name x pos) (gName i) := ⟨pgB i h hN hi⟩
theorem jgs_nil : JGs X [] gNil := ⟨pgs_nil⟩
theorem jgs_cons {gs : TGs} (h1 : JG X e g) (h2 : JGs X es gs) (hs : (assignEach (e :: es) X.env).map (·.2) = assign e X.env :: (assignEach es X.env).map (·.2) := by rfl) : JGs X (e :: es) (gCons g gs) := ⟨pgs_cons h1.run h2.run hs⟩
theorem jg_tup {ts : List Expr} {k : Nat} {gs : TGs} {n : Nat} (hK : X.K = K) (hc : X.calm = true) (h : JGs X ts gs) (hn : (assignEach ts X.env).length = n := by rfl) (hst : (assignEach ts X.env).findIdx? (·.1) = none := by rfl) : JG X (.Tuple ts k pos) (gTup K n gs) := ⟨pg_tupK hK hc h.run hn hst⟩
theorem jg_sub {ts : TSet} (ho : JE X a ta) (hi : JE X b tb) (hs : PSet X ts) (h : notSlice b = true := by rfl) : JG X (.Subscript a b pos) (gSub ta tb ts) := ⟨pg_sub ho.run hi.run hs (by
  intro v
  cases b <;> first | rfl | cases h)⟩
theorem j_comp (S : SubOk N sc N' scope sub) (hc : X.calm = true) (hN : X.N = N) (hsc : X.env.scope = sc) (hi : JI X tg iter wi)
    (hg : ∀ (C : Addr) (s₀ : Shared) (H₀ : Hp) (ex : List Addr), JG (cxC X N' scope C s₀ H₀ ex) tg g)
    (ht : ∀ (C : Addr) (s₀ : Shared) (H₀ : Hp) (ex : List Addr), JIfs (cxC X N' scope C s₀ H₀ ex) ifs tt)
    (he : ∀ (C : Addr) (s₀ : Shared) (H₀ : Hp) (ex : List Addr), JE (cxC X N' scope C s₀ H₀ ex) elt te) (h : notSet iter = true := by rfl) :
    JE X (.ListComp elt [⟨tg, iter, ifs, 0⟩] scope pos) (tComp sub wi g tt te) := ⟨compE S hc hN hsc hi.run (fun C s₀ H₀ ex => (hg C s₀ H₀ ex).run) (fun C s₀ H₀ ex => (ht C s₀ H₀ ex).run) (fun C s₀ H₀ ex => (he C s₀ H₀ ex).run) h⟩
variable {st : Stmt} {sts : List Stmt} {u v : TS}
theorem js_set {i : Nat} (hN : X.N.Nodup) (hi : X.N[i]? = some x) (hx : Loc X.env.scope x) (he : JE X e te) (hf : X.fn x = true) (h : notComp e = true := by rfl) : JS X (.Assign [.Name x pos'] e pos) (tAsg te (gName i)) := ⟨psSet hN hi hx he.run hf h⟩
theorem js_asgS {ts : TSet} (he : JE X e te) (hg : JG X (.Subscript a b pos') g) (h : notComp e = true := by rfl) : JS X (.Assign [.Subscript a b pos'] e pos) (tAsg te g) := ⟨ps_asg he.run hg.run (by show swapsWith e (some (.Subscript a b pos')) pos.line X.env = pure false; exact sw_no h) (by cases e <;> rfl) rfl⟩
theorem js_ret (he : JE X e te) : JS X (.Return (some e) pos) (tRet te) := ⟨ps_ret he.run⟩
theorem js_expr (he : JE X e te) (h : notComp e = true := by rfl) : JS X (.Expr e pos) (tDrop te) := ⟨psExpr he.run h⟩
theorem js_if {sa sb : List Stmt} (hc : JT X c tt) (ha : JB X sa u) (hb : JB X sb v) : JS X (.If c sa sb pos) (tIfS tt u v) := ⟨ps_if hc.run ha.run hb.run⟩
theorem js_for {body : List Stmt} (hp : PassesOwn (model X.prog X.w) X.A X.env X.xe) (hc : X.calm = true) (hi : JI X tg iter wi) (hg : JG X tg g) (hb : JB X body u) (h : notSet iter = true := by rfl) : JS X (.For tg iter body [] pos) (tFor wi g u) := ⟨psFor hp hc hi.run hg.run hb.run h⟩
theorem js_while {body : List Stmt} (hp : PassesOwn (model X.prog X.w) X.A X.env X.xe) (hc : JT X c tt) (hb : JB X body u) : JS X (.While c body [] pos) (tWhile tt u) := ⟨ps_while hp hc.run hb.run⟩
theorem jb_nil : JB X [] tNext := ⟨pss_nil⟩
theorem jb_one (h : JS X st u) : JB X [st] u := ⟨pss_one h.run⟩
theorem jb_cons (h : JS X st u) (h2 : JB X sts v) : JB X (st :: sts) (tSeq u v) := ⟨pss_cons h.run h2.run⟩
end
section
variable {P : Program} {w : World} {K : PySem.W.Frag} {mg : Str → Option Value} {base : Heap}
theorem hasJ {x : Str} {st : Stmt} {N ps : List Str} {k : Nat} {sp : Sp} (D : Def K mg x st) (S : FnScope N ps (defScope st))
    (hb : ∀ (kV doc pm : Value) (an : Option Addr) (cdv ct : Value) (us : List Value), us.length = ps.length → bindArgs (PySem.W.fnOf x x (defArgs st) (defBody st) (defScope st) .none kV doc pm an cdv ct) ⟨us, []⟩ = pure (ps.zip us))
    (len : ∀ vs H Q E, sp vs H Q E → vs.length = ps.length)
    (hbody : ∀ (f : Addr) (cdv : Value) (A : Around) (outer : List Env) (s : Shared) (H : Hp) (vs : List V) (Q : VK) (E : XK), Room k (A.deeper (envOfC x (defScope st) s.heap.objs.size f cdv)) → sp vs H Q E →
      ∃ t, JB (cxOf CX0 P w K mg base N x (defScope st) f cdv A outer s H E).nox (defBody st) t ∧ t { nx := fun _ H' => Q .non H', rt := Q } (start N vs) H) : Has P w K mg base (k + 1) x ps sp :=
  has_of D S hb len fun f cdv A outer s H vs Q E hr h => let ⟨t, j, q⟩ := hbody f cdv A outer s H vs Q E hr h; ⟨t, j.run, q⟩
theorem okJ {x : Str} {st : Stmt} {N ps : List Str} {k : Nat} {sp : Sp} {f : Addr} {fd : FuncData} (F : Fun K x x st f fd) (S : FnScope N ps (defScope st)) (len : ∀ vs H Q E, sp vs H Q E → vs.length = ps.length)
    (hbody : ∀ (f : Addr) (cdv : Value) (A : Around) (outer : List Env) (s : Shared) (H : Hp) (vs : List V) (Q : VK) (E : XK), Room k (A.deeper (envOfC x (defScope st) s.heap.objs.size f cdv)) → sp vs H Q E →
      ∃ t, JB (cxOf CX0 P w K mg base N x (defScope st) f cdv A outer s H E).nox (defBody st) t ∧ t { nx := fun _ H' => Q .non H', rt := Q } (start N vs) H) : FnOk P w K mg base CX0 (k + 1) f fd ps sp :=
  F.ok S len fun cdv A outer s H vs Q E hr h => let ⟨t, j, q⟩ := hbody f cdv A outer s H vs Q E hr h; ⟨t, j.run, q⟩
end
theorem const_mk {K : PySem.W.Frag} {mg : Str → Option Value} {h : Heap} (X : K.In h) (G : h.Ns mainGlobals mg) {x : Str} {v : Value} {f : Tok → Value} (a : PySem.W.nsIn K mainGlobals x = some (some v)) (e : ∃ t, v = f t) : ∃ t, mg x = some (f t) := by
  obtain ⟨t, rfl⟩ := e
  exact ⟨t, PySem.W.mg_of X G a⟩
/-- the law's own head -/
theorem walkJ {l : PySem.W.OpenLaw} {q : Program} {loose : List Str} {XP : (Str → Option Value) → Heap → Prop} {YP : World → Heap → Prop} {d : DefRec} {K : Params → PySem.W.Frag} {st : Stmt} {k : Nat} {sp : PySem.W.Frag → Sp} {x : Str}
    (hn : l.most = some 63) (hdf : d.params.defaults = []) (hdn : d.name = "law") (hk : Room k callerA) (hY : ∀ (w : World) (h : Heap), YP w h → (K w.params).In h)
    (hb : ∀ (kV doc pm : Value) (an : Option Addr) (cdv ct : Value) (us : List Value), us.length = [x].length → bindArgs (PySem.W.fnOf "law" "law" (defArgs st) (defBody st) (defScope st) .none kV doc pm an cdv ct) ⟨us, []⟩ = pure ([x].zip us))
    (F : ∀ (w : World) (mg : Str → Option Value) (h : Heap), (K w.params).In h → h.Ns mainGlobals mg → Def (K w.params) mg "law" st ∧ ∀ (base : Heap) (f : Addr) (fd : FuncData), Fun (K w.params) "law" "law" st f fd → FnOk l.prog w (K w.params) mg base CX0 k f fd [x] (sp (K w.params)))
    (hsp : ∀ (K : PySem.W.Frag) (H : Hp) (a : Addr) (ns : List Int), ns.length ≤ 63 → SqL K H a (ns.map V.int) → sp K [.ref a] H (fun v _ => v = .bl true) fun _ _ _ => False) (him : importsNone q = true := by decide +kernel) :
    PySem.W.WalkO q loose XP YP l.row.toRowW d [] (fun f vs => PySem.call f vs) :=
  L2.walk_of (n := 63) (k := k) (x := x) (CX := fun _ => CX0) (sp := fun w => sp (K w.params)) hn (by decide) hdf hk hY (fun w mg fa h X G e => by
    obtain ⟨⟨f, fd, Fn, hm⟩, ok⟩ := F w mg h X G
    rw [hdn, hm] at e
    have ef : f = fa := by injection (Option.some.inj e)
    subst ef
    refine ⟨fd, fun s u => ?_, fun base _ _ => ok base f fd Fn⟩
    obtain ⟨oc, od, kV, doc, pm, an, cdv, ct, osl, rfl, lk, hcd⟩ := Fn.ex
    exact .of_eq (hb kV doc pm an cdv ct [u] rfl)) (fun w H a ns hl _ hS => hsp _ H a ns hl hS) (fun _ _ _ _ _ z => z) him
end L2

namespace L2
open PySem PySem.Spec PyProof.Rows
def Itp (xs : Nat → List V) (n : Nat) : It := ⟨fun i _ => i < n, fun i H v H' => ∃ T, H T = none ∧ v = .ref T ∧ H' = upd H T (.tup (xs i)), fun i _ => i = n⟩
theorem turn_T {P : Program} {w : World} {K : PySem.W.Frag} {elts : List Expr} {k : Nat} {pos : Pos} {it : Addr} {fp wr : List Addr} {n : Nat} {xs : Nat → List V} {Pt : Nat → Array Value → Prop} {St : Nat → Heap → Prop} {Mid : Nat → Addr → Heap → Prop}
    (W : ∀ A : Around, A.handled = none → WalksT P w A it fp wr n Pt St Mid) (hxs : ∀ i, (xs i).length ≤ sizeLine) (hPt : ∀ i vals, Pt i vals → Vals (xs i) vals.toList) (hmem : it ∈ fp)
    (hobj : ∀ i h, St i h → ∀ b ∈ fp, ∃ o, h.get? b = some o ∧ ∀ v, o.data ≠ .cell v)
    (hself : ∀ (A : Around) (i : Nat) (s : Shared) (Q : Value → Shared → Prop) (E : Value → Shared → Prop), St i s.heap → Q (.ref it) s → wpAny (model P w) A (pyIter (.ref it)) Q E s) :
    Turn P w K (.Tuple elts k pos) (Itp xs n) fp it St where
  mem := hmem
  obj := hobj
  keep := fun i h h' st kk => (W {} rfl).frame i h h' st kk
  item := by
    intro X hP hw hK hc i pins s σ H E I hf st hg
    subst hP hw hK
    have W' := W X.A (I.ok.hd hc)
    refine W'.item i s _ _ hg st fun T vals h' tk hPv hT isT mid kk => ?_
    refine ⟨.ref T, rfl, W'.go elts k pos i T _ _ _ mid fun h'' st'' kk2 => ?_⟩
    have hTn : H T = none := I.hok.fresh hT
    have hTw : T ∉ wr := W'.apart i T h' mid
    have kall : ∀ b o, b ∉ wr → s.heap.get? b = some o → h''.get? b = some o := fun b o hb e => kk2 b o hb (kk b o hb e)
    have nT : ∀ b o, s.heap.get? b = some o → b ≠ T := fun b o e => Nat.ne_of_lt (Nat.lt_of_lt_of_le (Heap.lt_size e) hT)
    have nTH : ∀ b u, H b = some u → b ≠ T := fun b u e z => by rw [z, hTn] at e; cases e
    have nW : ∀ b u, H b = some u → b ∉ wr := fun b u e hb => by rw [(hf b (W'.sub b hb)).1] at e; cases e
    have isT' : h''.IsTuple T vals := by
      obtain ⟨o, ho, r⟩ := isT
      exact ⟨o, kk2 T o hTw ho, r⟩
    have hlT : ∃ o, h''.get? T = some o := let ⟨o, ho, _⟩ := isT'; ⟨o, ho⟩
    have I' : Inv X pins σ (upd H T (.tup (xs i))) { s with heap := h'', toks := tk } := by
      refine I.step (g' := s.gens) (d' := s.drawn) (ch := wr) (fun b hb => ?_) (fun b o _ _ hc e _ => kall b o hc e) (fun b o _ _ hc e _ => ⟨o.slots, kall b o hc e⟩) (fun b o _ e hn => by rw [upd_ne (nT b o e)]; exact hn)
        (fun b o hc e => ⟨o, kall b o hc e⟩) (fun b ys e => by rw [upd_ne (nTH b _ e)]; exact e) (fun b o u e => by rw [upd_ne (nTH b _ e)]; exact e) (fun b ps e => ⟨#[], by rw [upd_ne (nTH b _ e), e]; simp⟩) (fun m hm => ?_) (fun b u e => ?_) I.bare
      · obtain ⟨f0, f1, f2, f3, f4, f5⟩ := hf b (W'.sub b hb)
        exact ⟨f3, f1, f4, f5⟩
      · obtain ⟨o, es, ep, ho, r⟩ := hm
        exact ⟨o, es, ep, kall _ o (fun hb => (hf _ (W'.sub _ hb)).2.1 rfl) ho, r⟩
      · by_cases hb : b = T
        · subst hb
          rw [upd_same] at e; cases e
          obtain ⟨o, ho, hcl, nn, hd⟩ := isT'
          exact ⟨hxs i, vals.toList, hPt i vals hPv, o, ho, hcl, nn, by simpa using hd⟩
        · rw [upd_ne hb] at e
          refine (I.hok b u e).stay (fun c v hc' q => kall c v ?_ q) (fun c q => by rw [upd_ne (nTH c _ q)]; exact q) fun c ys q => by rw [upd_ne (nTH c _ q)]; exact q
          rcases hc' with z | z
          · rw [z]; exact nW b u e
          · exact nW c _ z
    refine ⟨.ref T, upd H T (.tup (xs i)), I', rfl, ⟨T, hTn, rfl, rfl⟩, st'', fun b hb => ?_⟩
    obtain ⟨o, e, _⟩ := hobj i _ st b hb
    rw [upd_ne (nT b o e)]
    exact (hf b hb).1
  done := by
    intro X hP hw hK hc i pins s σ H E I hf st hg
    subst hP hw hK
    have W' := W X.A (I.ok.hd hc)
    have hg : i = n := hg
    subst hg
    refine W'.done s _ _ st fun h' tk kk => ⟨rfl, ?_⟩
    have nW : ∀ b u, H b = some u → b ∉ wr := fun b u e hb => by rw [(hf b (W'.sub b hb)).1] at e; cases e
    refine I.step (g' := s.gens) (d' := s.drawn) (ch := wr) (fun b hb => ?_) (fun b o _ _ hc e _ => kk b o hc e) (fun b o _ _ hc e _ => ⟨o.slots, kk b o hc e⟩) (fun b o _ e hn => hn)
        (fun b o hc e => ⟨o, kk b o hc e⟩) (fun b ys e => e) (fun b o u e => e) (fun b ps e => ⟨#[], by rw [e]; simp⟩) (fun m hm => ?_) (fun b u e => ?_) I.bare
    · obtain ⟨f0, f1, f2, f3, f4, f5⟩ := hf b (W'.sub b hb)
      exact ⟨f3, f1, f4, f5⟩
    · obtain ⟨o, es, ep, ho, r⟩ := hm
      exact ⟨o, es, ep, kk _ o (fun hb => (hf _ (W'.sub _ hb)).2.1 rfl) ho, r⟩
    · refine (I.hok b u e).stay (fun c v hc' q => kk c v ?_ q) (fun c q => q) fun c ys q => q
      rcases hc' with z | z
      · rw [z]; exact nW b u e
      · exact nW c _ z
  self := hself
def enumS (x : Str) (i : Nat) : List V := [.int i, .str ⟨#[x.cps.getD i 0]⟩]
end L2

namespace L2
open PySem PySem.Spec PyProof.Rows
section
variable {prog : Program} {w : World} {A : Around} {E : Value → Shared → Prop} {s : Shared}
theorem draw_listU {it l : Addr} {items : Array Value} (hne : l ≠ it) : ∀ (n i : Nat) (s : Shared) (Q : List Value → Shared → Prop), s.heap.IsListIter it l i → s.heap.IsList l items → i + n ≤ items.size →
    (∀ h', h'.IsListIter it l (i + n) → Heap.SameBut it s.heap h' → Q ((items.toList.drop i).take n) { s with heap := h' }) → wpAny (model prog w) A (draw (.ref it) n) Q E s
  | 0, i, s, Q, hit, _, _, hQ => by
    show wpAny _ _ (pure []) Q E s
    exact wpAny_pure (by simpa using hQ s.heap hit (Heap.SameBut.refl ..))
  | n + 1, i, s, Q, hit, ht, hle, hQ => by
    have hlt : i < items.size := by omega
    show wpAny _ _ (pyNext (.ref it) >>= _) Q E s
    refine wpAny_bind (wpAny_pyNext_list_item hit ht (x := items[i]) (by simp [hlt]) fun h₁ hit₁ hs₁ => ?_)
    refine wpAny_bind (wpAny_holding (draw_listU hne n (i + 1) _ _ hit₁ (ht.extBut hs₁.extBut hne) (by omega) fun h₂ hit₂ hs₂ => wpAny_pure ?_))
    have hd : items.toList.drop i = items[i] :: items.toList.drop (i + 1) := by simp [List.drop_eq_getElem_cons, hlt]
    have := hQ h₂ (by rw [show i + (n + 1) = i + 1 + n by omega]; exact hit₂) (hs₁.trans hs₂)
    rw [hd, List.take_succ_cons] at this
    exact this
theorem unpackItems_listU {l : Addr} {items : Array Value} {Q : List Value → Shared → Prop} (hh : A.handled = none) (ht : s.heap.IsList l items)
    (hQ : ∀ h', Heap.ExtBut s.heap.objs.size s.heap h' → Q items.toList { s with heap := h' }) : wpAny (model prog w) A (unpackItems (.ref l) items.size none) Q E s := by
  have hlt : l ≠ s.heap.objs.size := by obtain ⟨o, ho, _⟩ := ht; exact Nat.ne_of_lt (Heap.lt_size ho)
  unfold unpackItems
  refine wpAny_bind ?_
  · unfold notIterableAtAll
    refine wpAny_bind (wpAny_specialOf ht.typeIs slot_list_iter.lookup ?_)
    refine wpAny_pure ?_
    simp only [Bool.false_eq_true, if_false]
    refine wpAny_bind (wpAny_holding (wpAny_pyIter_list ht ?_))
    refine wpAny_bind (wpAny_holding (draw_listU hlt items.size 0 _ _ ⟨_, Heap.get?_push_size _ rfl, rfl, rfl⟩ (let ⟨o, ho, r⟩ := ht; ⟨o, Heap.get?_push_of_some _ ho, r⟩) (by omega) fun h₁ hit₁ hs₁ => ?_))
    have hall : List.take items.size (List.drop 0 items.toList) = items.toList := by
      rw [List.drop_zero]; exact List.take_of_length_le (by simp)
    rw [hall]
    rw [if_neg (by simp)]
    have ht₁ : h₁.IsList l items := by
      have : (s.heap.push { cls := .type "list_iterator", data := .fields #[.ref l, .int 0 0] }).IsList l items := let ⟨o, ho, r⟩ := ht; ⟨o, Heap.get?_push_of_some _ ho, r⟩
      exact this.extBut hs₁.extBut hlt
    refine wpAny_bind (wpAny_holding (wpAny_pyNext_list_end hh hit₁ ht₁ (by simp) fun h₂ he₂ => ?_))
    simp only [Option.isSome_none, Bool.false_eq_true, if_false]
    refine wpAny_pure (hQ h₂ fun b o hb e => he₂ b o hb (hs₁.extBut b o hb (Heap.get?_push_of_some _ e)))
theorem assign_Tuple_listU {env : Env} {elts : List Expr} {x1} {pos : Pos} {l : Addr} {items : Array Value} {Q : Unit → Shared → Prop} (hh : A.handled = none) (ht : s.heap.IsList l items)
    (hn : (assignEach elts env).length = items.size) (hstar : (assignEach elts env).findIdx? (·.1) = none)
    (h : ∀ h', Heap.ExtBut s.heap.objs.size s.heap h' → wpAny (model prog w) A (assignInOrder ((assignEach elts env).map (·.2)) items.toList) Q E { s with heap := h' }) :
    wpAny (model prog w) A (assign (.Tuple elts x1 pos) env (.ref l)) Q E s := by
  rw [assign_Tuple]
  refine wpAny_bind (wpAny_standAt ?_)
  unfold unpack
  rw [hn, hstar]
  exact wpAny_bind (wpAny_holding (unpackItems_listU hh ht h))
end
/-- (a, b, ..) = a list or a tuple of that length -/
def gSeqT (K : PySem.W.Frag) (n : Nat) (t : TGs) : TG := fun v σ H Q => ∃ a xs, v = .ref a ∧ (SqT K H a xs ∨ SqL K H a xs) ∧ xs.length = n ∧ t xs σ H Q
theorem jg_seqT {X : Cx} {K : PySem.W.Frag} {ts : List Expr} {k : Nat} {gs : TGs} {n : Nat} {pos : Pos} (hK : X.K = K) (hc : X.calm = true) (h : JGs X ts gs) (hn : (assignEach ts X.env).length = n := by rfl) (hst : (assignEach ts X.env).findIdx? (·.1) = none := by rfl) : JG X (.Tuple ts k pos) (gSeqT K n gs) := ⟨by
  subst hK
  intro pins s σ H v u Q I r hw
  obtain ⟨a, xs, e1, hq, hl, hw⟩ := hw
  subst e1
  cases r
  rcases hq with hq | hq
  · exact (pg_tup hc h.run hn hst) pins s σ H (.ref a) (.ref a) Q I (show RelV (.ref a) (Value.ref a) from rfl) ⟨a, xs, rfl, hq, hl, hw⟩
  · obtain ⟨its, rv, ht, hz⟩ := I.list hq
    refine assign_Tuple_listU (I.ok.hd hc) ht.isList (by simp [hn, ← hl, rv.length]) hst fun h' hx => ?_
    have I1 : Inv X pins σ H { s with heap := h' } := I.kept (t' := s.toks) fun b o e => hx b o (Nat.ne_of_lt (Heap.lt_size e)) e
    exact h.run pins _ σ H xs _ Q I1 (by simpa using rv) hw⟩
/-- name, name = .. (more targets than one name): no swap -/
theorem js_asgT {X : Cx} {ts : List Expr} {k : Nat} {e : Expr} {te : TE} {g : TG} {pos pos' : Pos} (he : JE X e te) (hg : JG X (.Tuple ts k pos') g) (h : notComp e = true := by rfl) (h2 : (match e with | .Tuple .. => false | _ => true) = true := by rfl) : JS X (.Assign [.Tuple ts k pos'] e pos) (tAsg te g) :=
  ⟨ps_asg he.run hg.run (by show swapsWith e (some (.Tuple ts k pos')) pos.line X.env = pure false; exact sw_no h) (by cases e <;> first | rfl | cases h2) rfl⟩
def rNeA (K : PySem.W.Frag) : R2 := fun x y H Q => rNe x y H Q ∨ ∃ (a b : Addr) (ns ms : List Int), x = .ref a ∧ y = .ref b ∧ SqL K H a (ns.map V.int) ∧ SqL K H b (ms.map V.int) ∧ Q (.bl (!decide (ns = ms))) H
theorem op_neK {X : Cx} {K : PySem.W.Frag} (hK : X.K = K) (hu : X.A.units + 64 < cLine) : OpR X (compareOp .NotEq) (rNeA K) := by
  subst hK
  intro pins s σ H x y v u Q I rx ry h
  rcases h with h | ⟨a, b, ns, ms, rfl, rfl, ha, hb, q⟩
  · exact op_ne pins s σ H x y v u Q I rx ry h
  · cases rx
    cases ry
    obtain ⟨its, r1, p1, z1⟩ := I.list ha
    obtain ⟨jts, r2, p2, z2⟩ := I.list hb
    exact PySem.W.ne_intsK p1.isList (intsAre_of r1) p2.isList (intsAre_of r2) hu ⟨.bl _, H, I, rfl, q⟩
section
variable {H : Hp} {Q : VK} {K : PySem.W.Frag} {σ : St}
theorem r_gtup {n : Nat} {gs : TGs} {p : Addr} {xs : List V} {R : St → Hp → Prop} (s : SqT K H p xs) (hl : xs.length = n) (h : gs xs σ H R) : gTup K n gs (.ref p) σ H R := ⟨p, xs, rfl, s, hl, h⟩
theorem r_gcons {t : TG} {u : TGs} {v : V} {vs : List V} {R : St → Hp → Prop} (h : t v σ H fun σ' H' => u vs σ' H' R) : gCons t u (v :: vs) σ H R := ⟨v, vs, rfl, h⟩
theorem r_gnil {R : St → Hp → Prop} (h : R σ H) : gNil [] σ H R := ⟨rfl, h⟩
theorem r_append {p : Addr} {xs : List V} {y : V} (hp : H p = some (.lst xs)) (c : xs.length < sizeLine) (h : Q .non (upd H p (.lst (xs ++ [y])))) : rAppend (.ref p) [y] H Q := ⟨p, xs, y, rfl, rfl, hp, c, h⟩
theorem for_Tp {xs : Nat → List V} {n : Nat} {g : TG} {tb : TS} {D : Ends} {H : Hp} (Pv : Nat → St → Hp → Prop) (h0 : Pv 0 σ H)
    (hs : ∀ i σ H T, i < n → Pv i σ H → H T = none → g (.ref T) σ (upd H T (.tup (xs i))) fun σ2 H2 => tb { D with nx := Pv (i + 1), ct := Pv (i + 1), bk := D.nx } σ2 H2) (hd : ∀ σ H, Pv n σ H → D.nx σ H) :
    ∃ W : Nat → Nat → St → Hp → Prop, (∃ m, W 0 m σ H) ∧ ∀ i m σ H, W i m σ H →
      ((Itp xs n).stop i H ∧ D.nx σ H) ∨ ((Itp xs n).go i H ∧ ∃ N : St → Hp → Prop, (∀ σ' H', N σ' H' → ∃ m', m' < m ∧ W (i + 1) m' σ' H') ∧ ∀ x H', (Itp xs n).yld i H x H' → g x σ H' fun σ2 H2 => tb { D with nx := N, ct := N, bk := D.nx } σ2 H2) := by
  refine ⟨fun i m σ H => m = n - i ∧ i ≤ n ∧ Pv i σ H, ⟨n, by simp, Nat.zero_le _, h0⟩, ?_⟩
  rintro i m σ H ⟨rfl, hi, p⟩
  by_cases hlt : i < n
  · refine .inr ⟨hlt, Pv (i + 1), fun σ' H' p' => ⟨n - (i + 1), by omega, rfl, hlt, p'⟩, fun x H' y => ?_⟩
    obtain ⟨T, hT, e1, e2⟩ := y
    subst e1 e2
    exact hs i σ H T hlt p hT
  · have e : i = n := by omega
    subst e
    exact .inl ⟨rfl, hd σ H p⟩
theorem r_u {f : Int → V} {i : Int} (h : Q (f i) H) : rU f (.int i) H Q := ⟨i, rfl, h⟩
theorem r_mulL {a : Addr} {xs : List V} {k : Int} (ha : H a = some (.lst xs)) (h0 : -(2 ^ 63) ≤ k) (h1 : k < 2 ^ 63) (hz : xs.length * k.toNat ≤ sizeLine) (h : ∀ p, H p = none → Q (.ref p) (upd H p (.lst (List.replicate k.toNat xs).flatten))) : rMulA (.ref a) (.int k) H Q :=
  .inr (.inr ⟨a, k, xs, rfl, rfl, ha, h0, h1, hz, h⟩)
theorem for_str {z : Str} {g : TG} {tb : TS} {D : Ends} {H : Hp} (Pv : Nat → St → Hp → Prop) (h0 : Pv 0 σ H)
    (hs : ∀ i σ H c, z.cps.toList[i]? = some c → Pv i σ H → g (.str ⟨#[c]⟩) σ H fun σ2 H2 => tb { D with nx := Pv (i + 1), ct := Pv (i + 1), bk := D.nx } σ2 H2) (hd : ∀ σ H, Pv z.length σ H → D.nx σ H) :
    ∃ W : Nat → Nat → St → Hp → Prop, (∃ m, W 0 m σ H) ∧ ∀ i m σ H, W i m σ H →
      ((Its z).stop i H ∧ D.nx σ H) ∨ ((Its z).go i H ∧ ∃ N : St → Hp → Prop, (∀ σ' H', N σ' H' → ∃ m', m' < m ∧ W (i + 1) m' σ' H') ∧ ∀ x H', (Its z).yld i H x H' → g x σ H' fun σ2 H2 => tb { D with nx := N, ct := N, bk := D.nx } σ2 H2) := by
  refine ⟨fun i m σ H => m = z.cps.size - i ∧ i ≤ z.cps.size ∧ Pv i σ H, ⟨z.cps.size, by simp, Nat.zero_le _, h0⟩, ?_⟩
  rintro i m σ H ⟨rfl, hi, p⟩
  by_cases hlt : i < z.cps.size
  · refine .inr ⟨hlt, Pv (i + 1), fun σ' H' p' => ⟨z.cps.size - (i + 1), by omega, rfl, hlt, p'⟩, fun x H' y => ?_⟩
    obtain ⟨e1, c, e2, e3⟩ := y
    subst e1 e3
    exact hs i σ _ c (by simpa using e2) p
  · have e : i = z.cps.size := by omega
    subst e
    exact .inl ⟨rfl, hd σ H p⟩
end
end L2

namespace L2
open PySem PySem.Spec PyProof.Rows
section
variable {X : Cx} {tg iter elt : Expr} {ifs : List Expr} {scope : Scope} {pos : Pos} {N' : List Str} {sub : List (Option Nat)} {wi : TI} {g : TG} {tt : TT} {te : TE}
theorem comp_use {N : List Str} {sc : Scope} {use : Option (Value → Sem Unit)} {R : Value → Shared → Prop} {p0 : Pos} (S : SubOk N sc N' scope sub) (hc : X.calm = true) (hN : X.N = N) (hsc : X.env.scope = sc) (hi : PI X tg iter wi)
    (hg : ∀ (C : Addr) (s₀ : Shared) (H₀ : Hp) (ex : List Addr), PG (cxC X N' scope C s₀ H₀ ex) tg g)
    (ht : ∀ (C : Addr) (s₀ : Shared) (H₀ : Hp) (ex : List Addr), PIfs (cxC X N' scope C s₀ H₀ ex) ifs tt)
    (he : ∀ (C : Addr) (s₀ : Shared) (H₀ : Hp) (ex : List Addr), PE (cxC X N' scope C s₀ H₀ ex) elt te)
    (hs : ∀ x, foldedSetIterable iter X.env x = pure x) (pins : List (Addr × Obj)) (s : Shared) (σ : St) (H : Hp) (Q : VK) (I : Inv X pins σ H s) (h : tComp sub wi g tt te σ H Q)
    (hend : ∀ (D C : Addr) (s5 : Shared) (H5 : Hp) (m : Str → Option Value), Inv X pins σ H5 s5 → FpOk X pins H5 C → s5.heap.Ns C m → Q (.ref D) H5 → compPost (model X.prog X.w) X.A X.xe use R (.ref D) C (.ok .next) s5) :
    wpAny (model X.prog X.w) X.A (comprehension (.ListComp elt [⟨tg, iter, ifs, 0⟩] scope pos) scope X.env p0 (newList []) false (eval iter X.env) use) R X.xe s := by
  have hcl : ∀ x ∈ scope.names, x.2 = NameKind.free → ∃ c, X.env.cells.lookup x.1 = some c := fun x hx hk => I.ok.has x.1 (by have := S.free x hx hk; rw [← hsc] at this; exact this)
  refine wpAny_comprehension_free (use := use) rfl hs (closureFor_cl hcl) S.kind S.loc ?_
  refine thn (hi pins s σ H _ I h) fun v s1 h1 => thn h1 fun itv s2 h2 => ?_
  obtain ⟨it, fp, tn, J, H2, e, I2, T, st2, f2, W, ⟨m0, w0⟩, turn⟩ := h2
  subst e
  refine wpAny_newObj_type (wpAny_newFunctionEnv S.nocell (by intro y hy; simp at hy) (fun h₁ hns₁ hsb₁ => ?_) S.kind)
  dsimp only at hns₁ hsb₁ ⊢
  generalize hs3 : ({ s2 with heap := s2.heap.push { cls := .type "list", dict := none, data := .seq ([] : List Value).toArray } } : Shared) = s3
  have e3 : s2.heap.push { cls := .type "list", dict := none, data := .seq ([] : List Value).toArray } = s3.heap := by rw [← hs3]
  rw [e3] at hns₁ hsb₁ ⊢
  have hD3 : s3.heap.get? s2.heap.objs.size = some { cls := .type "list", dict := none, data := .seq ([] : List Value).toArray } := by rw [← e3]; exact Heap.get?_push_size _ rfl
  have I3 : Inv X pins σ H2 s3 := by
    rw [← hs3]
    exact I2.kept (t' := s2.toks) fun b o e => Heap.get?_push_of_some _ e
  have k23 : ∀ b o, s2.heap.get? b = some o → s3.heap.get? b = some o := fun b o e => by rw [← e3]; exact Heap.get?_push_of_some _ e
  have hsz : s3.heap.objs.size = s2.heap.objs.size + 1 := by rw [← e3, Heap.size_push]
  have hk31 : ∀ b o, s3.heap.get? b = some o → h₁.get? b = some o := fun b o e => hsb₁.extBut b o (Nat.ne_of_lt (Heap.lt_size e)) (Heap.get?_push_of_some _ e)
  have hDn : H2 s2.heap.objs.size = none := I2.hok.fresh (Nat.le_refl _)
  have fD : FpOk X pins H2 s2.heap.objs.size := I2.fpOk (Nat.le_refl _) hDn
  have hfo : ∀ b ∈ fp, b < s2.heap.objs.size := fun b hb => let ⟨o, e, _⟩ := T.obj _ _ st2 b hb; Heap.lt_size e
  have hDfp : s2.heap.objs.size ∉ fp := fun z => absurd (hfo _ z) (Nat.lt_irrefl _)
  have I4 := inv_block (tk := s3.toks + ([] : List (Str × Value)).length) S hN hsc I3 f2 (fun b hb => by rw [hsz]; exact Nat.lt_succ_of_lt (hfo b hb)) (D := s2.heap.objs.size) (by rw [hsz]; exact Nat.lt_succ_self _) fD hns₁ hk31
  -- facts of the block
  have stat : ∀ {H' : Hp} {ob : Obj}, (∀ b ∈ fp, H' b = none) → ∀ b ∈ fp, FpOk (cxC X N' scope s3.heap.objs.size s3 H2 (s2.heap.objs.size :: fp)) [(s2.heap.objs.size, ob)] H' b := fun {H' ob} hn b hb => by
    obtain ⟨q1, q2⟩ := I4.ok.exf b (List.mem_cons_of_mem _ hb)
    refine ⟨hn b hb, q1, I4.ok.exfs b (List.mem_cons_of_mem _ hb), .inl (List.mem_cons_of_mem _ hb), q2, fun p hp z => ?_⟩
    have hp' : p = (s2.heap.objs.size, ob) := by simpa [cxC] using hp
    subst hp'
    have z' : s2.heap.objs.size = b := z
    exact hDfp (by rw [z']; exact hb)
  generalize hXC : cxC X N' scope s3.heap.objs.size s3 H2 (s2.heap.objs.size :: fp) = XC at I4 stat
  have eP : XC.prog = X.prog := by rw [← hXC]; rfl
  have eW : XC.w = X.w := by rw [← hXC]; rfl
  have eK : XC.K = X.K := by rw [← hXC]; rfl
  have eA : XC.A = X.A := by rw [← hXC]; rfl
  have eE : XC.env = compEnvC scope (clOf X.env scope.names []) s3.heap.objs.size X.env := by rw [← hXC]; rfl
  have eC : XC.calm = true := by rw [← hXC]; exact hc
  have eX : XC.xe = fun _ _ => False := by rw [← hXC]; rfl
  have eH : XC.H₀ = H2 := by rw [← hXC]; rfl
  have eS : XC.s₀ = s3 := by rw [← hXC]; rfl
  have eF : XC.fs = frs X.stack := by rw [← hXC]; rfl
  have eEx : XC.ex = s2.heap.objs.size :: fp := by rw [← hXC]; rfl
  have ePn : XC.pn = [] := by rw [← hXC]; rfl
  have hgC : PG XC tg g := by rw [← hXC]; exact hg _ _ _ _
  have htC : PIfs XC ifs tt := by rw [← hXC]; exact ht _ _ _ _
  have heC : PE XC elt te := by rw [← hXC]; exact he _ _ _ _
  have pinD : ∀ {σ' : St} {H' : Hp} {s' : Shared} {ob : Obj}, Inv XC [] σ' H' s' → H' s2.heap.objs.size = none → s'.heap.get? s2.heap.objs.size = some ob → (∀ v, ob.data ≠ .cell v) → Inv XC [(s2.heap.objs.size, ob)] σ' H' s' := fun {σ' H' s' ob} J hn hg hd =>
    J.pins_of fun p hp => by
      have hp' : p = (s2.heap.objs.size, ob) := by simpa using hp
      subst hp'
      refine ⟨hg, hn, (J.ok.exf _ (by rw [eEx]; exact List.mem_cons_self)).1, J.ok.exfs _ (by rw [eEx]; exact List.mem_cons_self), hd⟩
  have loop : codeAny (model X.prog X.w) X.A (.compLoop (.ListComp elt [⟨tg, iter, ifs, 0⟩] scope pos) 0 (.ref it) (.ref s2.heap.objs.size) (compEnvC scope (clOf X.env scope.names []) s3.heap.objs.size X.env))
      (compPost (model X.prog X.w) X.A X.xe use R (.ref s2.heap.objs.size) s3.heap.objs.size) { s3 with heap := h₁, toks := s3.toks + ([] : List (Str × Value)).length } := by
    refine comp_loop (fun n s' => ∃ (i : Nat) (ys : List V) (its : List Value) (nn : Nat) (H' : Hp), Inv XC [] (subSt sub σ) H' s' ∧ tn i s'.heap ∧ (∀ b ∈ fp, H' b = none) ∧ H' s2.heap.objs.size = none ∧
      s'.heap.get? s2.heap.objs.size = some { cls := .type "list", data := .seq its.toArray nn } ∧ Vals ys its ∧ W i n ys H') ?_ m0
      ⟨0, [], [], _, H2, I4, T.keep _ _ _ st2 fun b _ o e => hk31 b o (k23 b o e), fun b hb => (f2 b hb).1, hDn, hk31 _ _ hD3, .nil, w0⟩
    rintro n s4 ⟨i, ys, its, nn, H4, J4, st4, fr4, dn4, dg4, rv4, w4⟩
    have P4 := pinD J4 dn4 dg4 (fun v z => by cases z)
    rcases turn i n ys H4 w4 with ⟨stop, hyl, qn⟩ | ⟨go, hyl, N, hN, step⟩
    · have hdone := T.done XC eP eW eK eC i _ s4 _ H4 (fun _ _ => False) P4 (stat fr4) st4 stop
      rw [eA] at hdone
      refine wpAny_mono hdone (fun r s5 ⟨hr, I5⟩ => ?_) fun _ _ z => z
      subst hr
      -- the end
      obtain ⟨m, hn, _⟩ := id I5.loc
      have hCe : XC.env.locals = s3.heap.objs.size := by rw [eE]; rfl
      rw [hCe] at hn
      have hDg := (I5.pin (s2.heap.objs.size, _) (by rw [ePn]; exact List.mem_cons_self)).1
      have hDne : s2.heap.objs.size ≠ s3.heap.objs.size := by rw [hsz]; exact Nat.ne_of_lt (Nat.lt_succ_self _)
      have hHC : H4 s3.heap.objs.size = none := by have := I5.free; rw [hCe] at this; exact this
      have k56 : ∀ b o, b ≠ s3.heap.objs.size → s5.heap.get? b = some o → s5.heap.get? b = some o := fun b o hb e => e
      have un := I5.base
      rw [eF, eEx, eH, eS] at un
      have nC : ∀ b o, s3.heap.get? b = some o → b ≠ s3.heap.objs.size := fun b o e => Nat.ne_of_lt (Heap.lt_size e)
      have hok6 : HOk X.prog X.w (upd H4 s2.heap.objs.size (.lst ys)) s5.heap := by
        have h5 := I5.hok
        rw [eP, eW] at h5
        have trk : ∀ b u, H4 b = some u → b ≠ s3.heap.objs.size := fun b u e z => by rw [z, hHC] at e; cases e
        intro b u e
        by_cases hb : b = s2.heap.objs.size
        · subst hb
          rw [upd_same] at e; cases e
          exact ⟨hyl, its, nn, rv4, k56 _ _ hDne hDg⟩
        · rw [upd_ne hb] at e
          have nD : ∀ c u, H4 c = some u → c ≠ s2.heap.objs.size := fun c u e z => by rw [z, dn4] at e; cases e
          refine (h5 b u e).stay (fun c v hc' q => k56 c v ?_ q) (fun c q => by rw [upd_ne (nD c _ q)]; exact q) fun c xs q => by rw [upd_ne (nD c _ q)]; exact q
          rcases hc' with z | z
          · rw [z]; exact trk b u e
          · exact trk c _ z
      have nD2 : ∀ c u, H4 c = some u → c ≠ s2.heap.objs.size := fun c u e z => by rw [z, dn4] at e; cases e
      have un6 : Un (frs X.stack) (s2.heap.objs.size :: fp) H2 (upd H4 s2.heap.objs.size (.lst ys)) s3.heap s5.heap :=
        ⟨fun b o e nn' hb hx => k56 b o (nC b o e) (un.keep b o e nn' hb hx), fun b o e nn' hb hx => let ⟨sl, q⟩ := un.slot b o e nn' hb hx; ⟨sl, k56 b _ (nC b o e) q⟩,
          fun b o e nn' hx => by rw [upd_ne (fun z => hx (by rw [z]; exact List.mem_cons_self))]; exact un.free b o e nn' hx,
          fun b o e hx => let ⟨o', q⟩ := un.there b o e hx; ⟨o', k56 b o' (nC b o e) q⟩,
          fun b xs e => by have q := un.tups b xs e; rw [upd_ne (nD2 b _ q)]; exact q,
          fun b o u e => by have q := un.frzs b o u e; rw [upd_ne (nD2 b _ q)]; exact q,
          fun b ps e => let ⟨more, q⟩ := un.tbls b ps e; ⟨more, by rw [upd_ne (nD2 b _ q)]; exact q⟩⟩
      have I6 : Inv X pins σ (upd H4 s2.heap.objs.size (.lst ys)) s5 := by
        refine I3.call' (s' := s5) (ch := s2.heap.objs.size :: fp) ?_ un6 hok6 I5.bare fun b hb => ?_
        · show s5.os = s3.os
          have := I5.os
          rw [eS] at this
          exact this
        · have q : FpOk X pins H2 b := by
            rcases List.mem_cons.mp hb with rfl | z
            · exact fD
            · exact f2 b z
          obtain ⟨f0, f1, f2', f3, f4, f5⟩ := q
          exact ⟨f3, f1, f4, f5⟩
      have dC : upd H4 s2.heap.objs.size (.lst ys) s3.heap.objs.size = none := by rw [upd_ne (Ne.symm hDne)]; exact hHC
      exact hend _ _ s5 _ m I6 (I3.fpOk (Nat.le_refl _) dC) hn (qn _ dn4)
    · have hitem := T.item XC eP eW eK eC i _ s4 _ H4 (fun _ _ => False) P4 (stat fr4) st4 go
      rw [eA] at hitem
      refine wpAny_mono hitem (fun r s5 ⟨u, hr, h5⟩ => ?_) fun _ _ z => z
      subst hr
      dsimp only
      refine wpAny_mono h5 (fun _ s6 ⟨x, H6, I6, r6, y6, st6, fr6⟩ => ?_) fun _ _ z => z
      have P6 := I6.pinned (stat fr6) (T.obj _ _ st6)
      rw [← eE, ← eP, ← eW, ← eA]
      refine wpAny_mono (hgC _ s6 _ H6 x u _ P6 r6 (step x H6 y6)) (fun _ s7 ⟨σ7, H7, I7, kp7, q7⟩ => ?_) fun _ _ z => by rw [eX] at z; exact z
      refine wpAny_mono (htC _ s7 σ7 H7 _ I7 q7) (fun ok s8 ⟨H8, I8, q8⟩ => ?_) fun _ _ z => by rw [eX] at z; exact z
      -- back to the turn's start
      have fin : ∀ {H9 : Hp} {s9 : Shared}, Inv XC ([(s2.heap.objs.size, ({ cls := .type "list", data := .seq its.toArray nn } : Obj))] ++ pinsAt fp s6.heap) σ7 H9 s9 → Inv XC [] (subSt sub σ) H9 s9 ∧ tn (i + 1) s9.heap ∧ (∀ b ∈ fp, H9 b = none) ∧ H9 s2.heap.objs.size = none ∧
          s9.heap.get? s2.heap.objs.size = some { cls := .type "list", data := .seq its.toArray nn } := fun {H9 s9} J => by
        have pD := J.pin (s2.heap.objs.size, ({ cls := .type "list", data := .seq its.toArray nn } : Obj)) (by rw [ePn]; simp)
        have pF : ∀ b ∈ fp, ∀ o, s6.heap.get? b = some o → s9.heap.get? b = some o ∧ H9 b = none := fun b hb o e => by
          have q := J.pin (b, o) (by rw [ePn]; exact List.mem_append_right _ (List.mem_append_right _ (mem_pinsAt hb e)))
          exact ⟨q.1, q.2.1⟩
        refine ⟨?_, T.keep _ _ _ st6 fun b hb o e => (pF b hb o e).1, fun b hb => ?_, pD.2.1, pD.1⟩
        · have J0 : Inv XC [] σ7 H9 s9 := J.pins_of fun p hp => nomatch hp
          exact J0.weak kp7.1.symm fun j v e => kp7.2 j v e
        · obtain ⟨o, e, _⟩ := T.obj _ _ st6 b hb
          exact (pF b hb o e).2
      cases ok with
      | false =>
        rw [if_neg (by simp)]
        rw [if_neg (by simp)] at q8
        obtain ⟨m', hm, w8⟩ := hN _ _ q8
        obtain ⟨a1, a2, a3, a4, a5⟩ := fin I8
        exact ⟨m', hm, i + 1, ys, its, nn, H8, a1, a2, a3, a4, a5, rv4, w8⟩
      | true =>
        rw [if_pos rfl]
        rw [if_pos rfl] at q8
        refine wpAny_mono (heC _ s8 σ7 H8 _ I8 q8) (fun xv s9 ⟨y, H9, I9, r9, n9⟩ => ?_) fun _ _ z => by rw [eX] at z; exact z
        obtain ⟨m', hm, w9⟩ := hN _ _ n9
        obtain ⟨a1, a2, a3, a4, a5⟩ := fin I9
        refine wpAny_list_append_plain (items := its.toArray) ⟨nn, a5⟩ (fun h' ⟨n', hp'⟩ sb => ?_) (by simp; rw [← rv4.length]; omega)
        obtain ⟨q1, q2⟩ := I4.ok.exf s2.heap.objs.size (by rw [eEx]; exact List.mem_cons_self)
        have a1' : Inv XC [] (subSt sub σ) H9 { s9 with heap := h' } := a1.turned (t' := s9.toks) (fun b o hb e => (sb.2 b hb).trans e) a4 q1 (.inl (by rw [eEx]; exact List.mem_cons_self)) q2 (fun p hp => by rw [ePn] at hp; exact nomatch hp)
        refine ⟨m', hm, i + 1, ys ++ [y], its ++ [xv], n', H9, a1', T.keep _ _ _ a2 fun b hb o e => (sb.2 b (fun z => hDfp (by rw [← z]; exact hb))).trans e, a3, a4, ?_, rv4.append (.cons r9 .nil), w9⟩
        rw [hp']
        simp
  subst hs3
  exact codeAny_compStart_list loop (T.self _ 0 _ _ _ (T.keep _ _ _ st2 fun b _ o e => hk31 b o (k23 b o e)) loop)
theorem ps_setComp {N : List Str} {sc : Scope} {i : Nat} {x : Str} {pos' spos : Pos} (hNd : X.N.Nodup) (hxi : X.N[i]? = some x) (hx : Loc X.env.scope x) (hf : X.fn x = true) (S : SubOk N sc N' scope sub) (hc : X.calm = true) (hN : X.N = N) (hsc : X.env.scope = sc) (hi : PI X tg iter wi)
    (hg : ∀ (C : Addr) (s₀ : Shared) (H₀ : Hp) (ex : List Addr), PG (cxC X N' scope C s₀ H₀ ex) tg g)
    (ht : ∀ (C : Addr) (s₀ : Shared) (H₀ : Hp) (ex : List Addr), PIfs (cxC X N' scope C s₀ H₀ ex) ifs tt)
    (he : ∀ (C : Addr) (s₀ : Shared) (H₀ : Hp) (ex : List Addr), PE (cxC X N' scope C s₀ H₀ ex) elt te)
    (hs : ∀ x, foldedSetIterable iter X.env x = pure x) : PS X (.Assign [.Name x pos'] (.ListComp elt [⟨tg, iter, ifs, 0⟩] scope pos) spos) (tAsg (tComp sub wi g tt te) (gName i)) := by
  intro pins s σ H D I h
  have hsw : ∃ b, swapsWith (.ListComp elt [⟨tg, iter, ifs, 0⟩] scope pos) (some (.Name x pos')) spos.line X.env = pure b := ⟨_, rfl⟩
  obtain ⟨b, hsw⟩ := hsw
  cases b with
  | false => exact ps_set hNd hxi hx (pe_comp S hc hN hsc hi hg ht he hs) hsw (.inl hf) pins s σ H D I h
  | true =>
    rw [exec_Assign_Name_used _ _ _ _ hsw]
    refine wpAny_bind (wpAny_standAt (wpAny_bind ?_))
    show wpAny _ X.A (do let _ ← comprehension (.ListComp elt [⟨tg, iter, ifs, 0⟩] scope pos) scope X.env _ (newList []) false (eval iter X.env) (some (assign (.Name x pos') X.env))) _ _ s
    refine wpAny_bind (wpAny_mono (comp_use (use := some (assign (.Name x pos') X.env)) (R := fun _ s' => SP X pins D .next s') S hc hN hsc hi hg ht he hs pins s σ H _ I h ?_) (fun _ s' hq => wpAny_pure (wpAny_pure hq)) fun _ _ e => e)
    intro Da C s5 H5 m I5 fC hn q
    show wpAny _ X.A (assign (.Name x pos') X.env (.ref Da)) _ _ _
    refine wpAny_assign_Name (store_ok2 I5 hNd hxi hx (v := .ref Da) rfl (fun s6 I6 ⟨a, sb, ha⟩ => ?_) (.inl hf))
    obtain ⟨f0, f1, f2, f3, f4, f5⟩ := fC
    have hCa : C ≠ a := fun z => by
      rcases ha with e | e
      · exact f1 (z.trans e)
      · exact f4 x a e z.symm
    exact ⟨m, hn.sameBut sb hCa, fun h' hs' => ⟨_, H5, I6.turned (t' := s6.toks) (fun b o hb e => hs'.extBut b o hb e) f0 f1 f3 f4 f5, q⟩⟩
end
section
variable {X : Cx} {tg iter elt : Expr} {ifs : List Expr} {scope : Scope} {pos : Pos} {N' : List Str} {sub : List (Option Nat)} {wi : TI} {g : TG} {tt : TT} {te : TE} {N : List Str} {sc : Scope}
theorem js_setC {i : Nat} {x : Str} {pos' spos : Pos} (hNd : X.N.Nodup) (hxi : X.N[i]? = some x) (hx : Loc X.env.scope x) (S : SubOk N sc N' scope sub) (hc : X.calm = true) (hN : X.N = N) (hsc : X.env.scope = sc) (hi : JI X tg iter wi)
    (hg : ∀ (C : Addr) (s₀ : Shared) (H₀ : Hp) (ex : List Addr), JG (cxC X N' scope C s₀ H₀ ex) tg g)
    (ht : ∀ (C : Addr) (s₀ : Shared) (H₀ : Hp) (ex : List Addr), JIfs (cxC X N' scope C s₀ H₀ ex) ifs tt)
    (he : ∀ (C : Addr) (s₀ : Shared) (H₀ : Hp) (ex : List Addr), JE (cxC X N' scope C s₀ H₀ ex) elt te) (hf : X.fn x = true) (h : notSet iter = true := by rfl) :
    JS X (.Assign [.Name x pos'] (.ListComp elt [⟨tg, iter, ifs, 0⟩] scope pos) spos) (tAsg (tComp sub wi g tt te) (gName i)) :=
  ⟨ps_setComp hNd hxi hx hf S hc hN hsc hi.run (fun C s₀ H₀ ex => (hg C s₀ H₀ ex).run) (fun C s₀ H₀ ex => (ht C s₀ H₀ ex).run) (fun C s₀ H₀ ex => (he C s₀ H₀ ex).run) (fs_no h)⟩
end
end L2

namespace L2
open PySem PySem.Spec PyProof.Rows
section
variable {X : Cx} {pins : List (Addr × Obj)} {σ : St} {H : Hp} {s : Shared}
/-- a new tuple came, and nothing but wr changed -/
theorem Inv.newtup {wr : List Addr} {T : Addr} {vals : Array Value} {xs : List V} {h'' : Heap} {tk : Nat} (I : Inv X pins σ H s) (hf : ∀ b ∈ wr, FpOk X pins H b) (hT : s.heap.objs.size ≤ T)
    (kall : ∀ b o, b ∉ wr → s.heap.get? b = some o → h''.get? b = some o) (isT' : h''.IsTuple T vals) (hv : Vals xs vals.toList) (hx : xs.length ≤ sizeLine) : Inv X pins σ (upd H T (.tup xs)) { s with heap := h'', toks := tk } := by
  have hTn : H T = none := I.hok.fresh hT
  have nT : ∀ b o, s.heap.get? b = some o → b ≠ T := fun b o e => Nat.ne_of_lt (Nat.lt_of_lt_of_le (Heap.lt_size e) hT)
  have nTH : ∀ b u, H b = some u → b ≠ T := fun b u e z => by rw [z, hTn] at e; cases e
  have nW : ∀ b u, H b = some u → b ∉ wr := fun b u e hb => by rw [(hf b hb).1] at e; cases e
  refine I.step (g' := s.gens) (d' := s.drawn) (ch := wr) (fun b hb => ?_) (fun b o _ _ hc e _ => kall b o hc e) (fun b o _ _ hc e _ => ⟨o.slots, kall b o hc e⟩) (fun b o _ e hn => by rw [upd_ne (nT b o e)]; exact hn)
    (fun b o hc e => ⟨o, kall b o hc e⟩) (fun b ys e => by rw [upd_ne (nTH b _ e)]; exact e) (fun b o u e => by rw [upd_ne (nTH b _ e)]; exact e) (fun b ps e => ⟨#[], by rw [upd_ne (nTH b _ e), e]; simp⟩) (fun m hm => ?_) (fun b u e => ?_) I.bare
  · obtain ⟨f0, f1, f2, f3, f4, f5⟩ := hf b hb
    exact ⟨f3, f1, f4, f5⟩
  · obtain ⟨o, es, ep, ho, r⟩ := hm
    exact ⟨o, es, ep, kall _ o (fun hb => (hf _ hb).2.1 rfl) ho, r⟩
  · by_cases hb : b = T
    · subst hb
      rw [upd_same] at e; cases e
      obtain ⟨o, ho, hcl, nn, hd⟩ := isT'
      exact ⟨hx, vals.toList, hv, o, ho, hcl, nn, by simpa using hd⟩
    · rw [upd_ne hb] at e
      refine (I.hok b u e).stay (fun c v hc' q => kall c v ?_ q) (fun c q => by rw [upd_ne (nTH c _ q)]; exact q) fun c ys q => by rw [upd_ne (nTH c _ q)]; exact q
      rcases hc' with z | z
      · rw [z]; exact nW b u e
      · exact nW c _ z
/-- nothing but wr changed -/
theorem Inv.only {wr : List Addr} {h' : Heap} {tk : Nat} (I : Inv X pins σ H s) (hf : ∀ b ∈ wr, FpOk X pins H b) (kk : ∀ b o, b ∉ wr → s.heap.get? b = some o → h'.get? b = some o) : Inv X pins σ H { s with heap := h', toks := tk } := by
  have nW : ∀ b u, H b = some u → b ∉ wr := fun b u e hb => by rw [(hf b hb).1] at e; cases e
  refine I.step (g' := s.gens) (d' := s.drawn) (ch := wr) (fun b hb => ?_) (fun b o _ _ hc e _ => kk b o hc e) (fun b o _ _ hc e _ => ⟨o.slots, kk b o hc e⟩) (fun b o _ e hn => hn)
      (fun b o hc e => ⟨o, kk b o hc e⟩) (fun b ys e => e) (fun b o u e => e) (fun b ps e => ⟨#[], by rw [e]; simp⟩) (fun m hm => ?_) (fun b u e => ?_) I.bare
  · obtain ⟨f0, f1, f2, f3, f4, f5⟩ := hf b hb
    exact ⟨f3, f1, f4, f5⟩
  · obtain ⟨o, es, ep, ho, r⟩ := hm
    exact ⟨o, es, ep, kk _ o (fun hb => (hf _ hb).2.1 rfl) ho, r⟩
  · refine (I.hok b u e).stay (fun c v hc' q => kk c v ?_ q) (fun c q => q) fun c ys q => q
    rcases hc' with z | z
    · rw [z]; exact nW b u e
    · exact nW c _ z
end
def Ite (K : PySem.W.Frag) (a : Addr) : It :=
  ⟨fun i H => ∃ xs x, SqL K H a xs ∧ xs[i]? = some x,
   fun i H v H' => ∃ T x, H T = none ∧ v = .ref T ∧ (∀ xs, SqL K H a xs → xs[i]? = some x) ∧ H' = upd H T (.tup [.int i, x]),
   fun i H => ∃ xs, SqL K H a xs ∧ xs.length ≤ i⟩
theorem turn_enumL {P : Program} {w : World} {K : PySem.W.Frag} {elts : List Expr} {k : Nat} {pos : Pos} {e it a : Addr} (hne : e ≠ it) :
    Turn P w K (.Tuple elts k pos) (Ite K a) [e, it] e (fun i h => (∃ old, IsEnum h e it i old) ∧ h.IsListIter it a i) where
  mem := by simp
  obj := fun i h st c hc => by
    obtain ⟨⟨old, he⟩, ⟨o1, e1, c1, d1⟩⟩ := st
    simp only [List.mem_cons, List.mem_nil_iff, or_false] at hc
    rcases hc with rfl | rfl
    · exact ⟨_, he, fun v z => by cases z⟩
    · exact ⟨_, e1, fun v z => by rw [d1] at z; cases z⟩
  keep := fun i h h' st kk => by
    obtain ⟨⟨old, he⟩, h1⟩ := st
    exact ⟨⟨old, kk e (by simp) _ he⟩, h1.at fun o q => kk it (by simp) o q⟩
  item := by
    intro X hP hw hK hc i pins s σ H E I hf st hg
    subst hP hw hK
    obtain ⟨⟨old, he⟩, h1⟩ := st
    obtain ⟨xs, x, hq, hx⟩ := hg
    obtain ⟨its, rv, p, _⟩ := I.list hq
    obtain ⟨u, hu, ru⟩ := rv.get hx
    refine wpAny_pyNext_enum_item he h1 p.isList (x := u) (by simpa using hu) hne fun h' a1 a2 a3 a4 hk => ?_
    refine ⟨_, rfl, wpAny_letOwnedTupleGo_enum a1 fun h'' a1' sb => ?_⟩
    have lt : ∀ {c o}, s.heap.get? c = some o → s.heap.objs.size ≠ c := fun e => Nat.ne_of_gt (Heap.lt_size e)
    have lti : s.heap.objs.size ≠ it := by obtain ⟨o, q, _⟩ := h1; exact lt q
    have isT : h''.IsTuple s.heap.objs.size #[.int i s.toks, u] := ⟨_, sb.extBut _ _ (lt he) a3, rfl, _, rfl⟩
    have kall : ∀ b o, b ∉ [e, it] → s.heap.get? b = some o → h''.get? b = some o := fun b o hb q => by
      simp only [List.mem_cons, List.mem_nil_iff, or_false, not_or] at hb
      exact sb.extBut _ _ hb.1 (hk b o hb.1 hb.2 q)
    have hTn : H s.heap.objs.size = none := I.hok.fresh (Nat.le_refl _)
    refine ⟨.ref s.heap.objs.size, _, I.newtup (tk := s.toks + 1) hf (Nat.le_refl _) kall isT (xs := [.int i, x]) (.cons ⟨_, rfl⟩ (.cons ru .nil)) (by simp; decide), rfl, ⟨_, x, hTn, rfl, fun zs hs => by rw [I.list_inj hs hq]; exact hx, rfl⟩, ?_, fun b hb => ?_⟩
    · exact ⟨⟨_, a1'⟩, a2.extBut sb.extBut (Ne.symm hne)⟩
    · have : s.heap.objs.size ≠ b := by
        simp only [List.mem_cons, List.mem_nil_iff, or_false] at hb
        rcases hb with rfl | rfl
        · exact lt he
        · exact lti
      rw [upd_ne (Ne.symm this)]
      exact (hf b hb).1
  done := by
    intro X hP hw hK hc i pins s σ H E I hf st hg
    subst hP hw hK
    obtain ⟨⟨old, he⟩, h1⟩ := st
    obtain ⟨xs, hq, hx⟩ := hg
    obtain ⟨its, rv, p, _⟩ := I.list hq
    have l1 := rv.length
    refine wpAny_pyNext_enum_end (I.ok.hd hc) he h1 p.isList (by simp; omega) fun h' hk => ⟨rfl, I.only (tk := s.toks) hf fun b o hb q => ?_⟩
    simp only [List.mem_cons, List.mem_nil_iff, or_false, not_or] at hb
    exact hk b o hb.2 q
  self := fun _ _ _ _ _ st h => let ⟨⟨_, he⟩, _⟩ := st; wpAny_pyIter_enum he h
theorem enumS_run {X : Cx} {elts : List Expr} {k : Nat} {tp : Pos} {pins : List (Addr × Obj)} {σ : St} {H1 : Hp} {s1 : Shared} {x : Str} {t : Tok} {R : It → Hp → Prop} (hc : X.calm = true) (I1 : Inv X pins σ H1 s1) (q : R (Itp (enumS x) x.cps.size) H1) :
    wpAny (model X.prog X.w) X.A (call (.type "enumerate") [.str x t]) (fun v s1 => wpAny (model X.prog X.w) X.A (pyIter v) (PIE X pins σ (.Tuple elts k tp) R) X.xe s1) X.xe s1 := by
  refine call_enumerate_str fun h' he hit hsz hk => ?_
  have J1 : Inv X pins σ H1 { s1 with heap := h' } := I1.kept (t' := s1.toks) hk
  have ne1 : s1.heap.objs.size + 1 ≠ s1.heap.objs.size := Nat.succ_ne_self _
  have nm : s1.heap.objs.size + 1 ∉ [s1.heap.objs.size] := fun z => ne1 (List.mem_singleton.mp z)
  have hPt : ∀ (i : Nat) (vals : Array Value), (∃ t y, SignAt x i y ∧ vals = #[.int i t, y]) → Vals (enumS x i) vals.toList := by
    rintro i vals ⟨t, y, ⟨c, u, e1, rfl⟩, rfl⟩
    refine .cons ⟨t, rfl⟩ (.cons ⟨u, ?_⟩ .nil)
    rw [show x.cps.getD i 0 = c by simp [Array.getD_eq_getD_getElem?, e1]]
  have fin : ∀ (ty : String) (Dr : ∀ A : Around, A.handled = none → Draws X.prog X.w A s1.heap.objs.size [s1.heap.objs.size] x.cps.size (SignAt x) fun i h => h.IsStrIter s1.heap.objs.size ty x t i), h'.IsStrIter s1.heap.objs.size ty x t 0 →
      wpAny (model X.prog X.w) X.A (pyIter (.ref (s1.heap.objs.size + 1))) (PIE X pins σ (.Tuple elts k tp) R) X.xe { s1 with heap := h' } := by
    intro ty Dr hit'
    have W : ∀ A : Around, A.handled = none → WalksT X.prog X.w A (s1.heap.objs.size + 1) [s1.heap.objs.size + 1, s1.heap.objs.size] [s1.heap.objs.size + 1, s1.heap.objs.size] x.cps.size
        (fun i vals => ∃ t y, SignAt x i y ∧ vals = #[.int i t, y]) (fun i h => (∃ old, IsEnum h (s1.heap.objs.size + 1) s1.heap.objs.size i old) ∧ h.IsStrIter s1.heap.objs.size ty x t i)
        (fun i T h => (∃ y, IsEnumOut h (s1.heap.objs.size + 1) s1.heap.objs.size ((i : Int) + 1) y T) ∧ h.IsStrIter s1.heap.objs.size ty x t (i + 1) ∧ T ≠ s1.heap.objs.size + 1 ∧ T ≠ s1.heap.objs.size) :=
      fun A hA => WalksT.enumerateD (Dr A.in1 hA) (s1.heap.objs.size + 1) ne1 nm (by simp)
    have hself : ∀ (A : Around) (i : Nat) (s : Shared) (Q : Value → Shared → Prop) (E : Value → Shared → Prop), ((∃ old, IsEnum s.heap (s1.heap.objs.size + 1) s1.heap.objs.size i old) ∧ s.heap.IsStrIter s1.heap.objs.size ty x t i) → Q (.ref (s1.heap.objs.size + 1)) s → wpAny (model X.prog X.w) A (pyIter (.ref (s1.heap.objs.size + 1))) Q E s := by
      rintro A i s Q E ⟨⟨old, he⟩, _⟩ hQ
      exact wpAny_pyIter_enum he hQ
    refine hself _ 0 _ _ _ ⟨⟨_, he⟩, hit'⟩ ?_
    refine ⟨s1.heap.objs.size + 1, [s1.heap.objs.size + 1, s1.heap.objs.size], _, _, H1, rfl, J1, turn_T W (fun i => by simp [enumS]; decide) hPt (by simp) ?_ hself, ⟨⟨_, he⟩, hit'⟩, fun b hb => ?_, q⟩
    · rintro i h ⟨⟨old, he⟩, o, ho, hcl, hd⟩ b hb
      rcases List.mem_cons.mp hb with rfl | hb
      · exact ⟨_, he, fun v z => by cases z⟩
      · rw [List.mem_singleton.mp hb]
        exact ⟨o, ho, fun v z => by rw [hd] at z; cases z⟩
    · have hb' : s1.heap.objs.size ≤ b := by
        rcases List.mem_cons.mp hb with rfl | hb
        · exact Nat.le_succ _
        · rw [List.mem_singleton.mp hb]; exact Nat.le_refl _
      exact I1.fpOk hb' (I1.hok.fresh hb')
  cases hx : x.cps.all (· < 128)
  · exact fin "str_iterator" (fun A hA => Draws.strWide hA _ x t) (by simpa [strIterType, hx] using hit)
  · exact fin "str_ascii_iterator" (fun A hA => Draws.strAscii hA _ x t) (by simpa [strIterType, hx] using hit)
/-- enumerate of a list or a text -/
def iEnum (K : PySem.W.Frag) (ta : TA) : TI := fun σ H R => ta σ H fun vs H1 => (∃ x : Str, vs = [.str x] ∧ R (Itp (enumS x) x.cps.size) H1) ∨ ∃ a xs, vs = [.ref a] ∧ SqL K H1 a xs ∧ R (Ite K a) H1
theorem ji_enum {X : Cx} {K : PySem.W.Frag} {a : Expr} {ta : TA} {elts : List Expr} {k : Nat} {tp p pos : Pos} (hK : X.K = K) (hc : X.calm = true) (hg : Gl X "enumerate") (hm : X.mg "enumerate" = none) (ha : JA X [a] ta) (h : notStar a = true := by rfl) :
    JI X (.Tuple elts k tp) (.Call (.Name "enumerate" p) [a] [] pos) (iEnum K ta) := ⟨by
  subst hK
  intro pins s σ H R I hq
  -- the text's rule wants the reading's own form: split behind the argument
  refine Call_ (ld_blt I hg hm bt_enumerate (PyProof.Rows.callWith_type1 (thn (ha.run pos pins s σ H _ I hq) fun us s1 ⟨vs, H1, I1, r1, q1⟩ => ?_) (se_cons h) rfl))
  rcases q1 with ⟨x, e, q⟩ | ⟨l, xs, e, hl, q⟩
  · subst e
    obtain ⟨u, rfl, t, rfl⟩ := vals1 r1
    exact enumS_run hc I1 q
  · subst e
    obtain ⟨u, rfl, ru⟩ := vals1 r1
    cases ru
    obtain ⟨its, rv, p1, _⟩ := I1.list hl
    refine call_enumerate_list p1.isList fun h' z1 z2 z3 hk => ?_
    have J1 : Inv X pins σ H1 { s1 with heap := h' } := I1.kept (t' := s1.toks) hk
    refine wpAny_pyIter_enum z1 ?_
    refine ⟨s1.heap.objs.size + 1, _, _, _, H1, rfl, J1, turn_enumL (Nat.succ_ne_self _), ⟨⟨_, z1⟩, z2⟩, fun b hb => ?_, q⟩
    have hb' : s1.heap.objs.size ≤ b := by
      simp only [List.mem_cons, List.mem_nil_iff, or_false] at hb
      have key : ∀ n c : Nat, (c = n + 1 ∨ c = n) → n ≤ c := fun n c h => by omega
      exact key _ _ hb
    exact I1.fpOk hb' (I1.hok.fresh hb')⟩
end L2

namespace L2
open PySem PySem.Spec PyProof.Rows PySem.SeqAt
mutual
def DR (H : Hp) : PyData → V → Prop
  | .none, v => v = .non
  | .bool b, v => v = .bl b
  | .int n, v => v = .int n
  | .str x, v => v = .str x
  | .list ds, v => ∃ a vs, v = .ref a ∧ H a = some (.lst vs) ∧ DRs H ds vs
  | .tuple ds, v => ∃ a vs, v = .ref a ∧ H a = some (.tup vs) ∧ DRs H ds vs
  | .dict _, _ => False
def DRs (H : Hp) : List PyData → List V → Prop
  | [], vs => vs = []
  | d :: ds, vs => ∃ v r, vs = v :: r ∧ DR H d v ∧ DRs H ds r
end
mutual
theorem DR.same {H H' : Hp} (s : Same H H') : ∀ (d : PyData) (v : V), DR H d v → DR H' d v
  | .none, _, h => by rw [DR] at h ⊢; exact h
  | .bool _, _, h => by rw [DR] at h ⊢; exact h
  | .int _, _, h => by rw [DR] at h ⊢; exact h
  | .str _, _, h => by rw [DR] at h ⊢; exact h
  | .list ds, v, h => by rw [DR] at h ⊢; obtain ⟨a, vs, e, q, r⟩ := h; exact ⟨a, vs, e, s _ _ q, DRs.same s ds vs r⟩
  | .tuple ds, v, h => by rw [DR] at h ⊢; obtain ⟨a, vs, e, q, r⟩ := h; exact ⟨a, vs, e, s _ _ q, DRs.same s ds vs r⟩
  | .dict _, _, h => by rw [DR] at h; exact h.elim
theorem DRs.same {H H' : Hp} (s : Same H H') : ∀ (ds : List PyData) (vs : List V), DRs H ds vs → DRs H' ds vs
  | [], _, h => by rw [DRs] at h ⊢; exact h
  | d :: ds, vs, h => by rw [DRs] at h ⊢; obtain ⟨v, r, e, q, t⟩ := h; exact ⟨v, r, e, DR.same s d v q, DRs.same s ds r t⟩
end
theorem DR_int {H : Hp} {n : Int} {v : V} : DR H (.int n) v ↔ v = .int n := by rw [DR]
theorem DR_list {H : Hp} {ds : List PyData} {v : V} : DR H (.list ds) v ↔ ∃ a vs, v = .ref a ∧ H a = some (.lst vs) ∧ DRs H ds vs := by rw [DR]
theorem DR_tuple {H : Hp} {ds : List PyData} {v : V} : DR H (.tuple ds) v ↔ ∃ a vs, v = .ref a ∧ H a = some (.tup vs) ∧ DRs H ds vs := by rw [DR]
theorem DRs_nil {H : Hp} {vs : List V} : DRs H [] vs ↔ vs = [] := by rw [DRs]
theorem DRs_cons {H : Hp} {d : PyData} {ds : List PyData} {vs : List V} : DRs H (d :: ds) vs ↔ ∃ v r, vs = v :: r ∧ DR H d v ∧ DRs H ds r := by rw [DRs]
theorem DRs_append {H : Hp} : ∀ {ds es : List PyData} {vs ws : List V}, DRs H ds vs → DRs H es ws → DRs H (ds ++ es) (vs ++ ws)
  | [], _, _, _, h, q => by rw [DRs_nil] at h; subst h; exact q
  | d :: ds, _, _, _, h, q => by
    rw [DRs_cons] at h
    obtain ⟨v, r, rfl, hd, hr⟩ := h
    exact DRs_cons.mpr ⟨v, r ++ _, rfl, hd, DRs_append hr q⟩
theorem DRs_one {H : Hp} {d : PyData} {v : V} (h : DR H d v) : DRs H [d] [v] := DRs_cons.mpr ⟨v, [], rfl, h, DRs_nil.mpr rfl⟩
theorem DRs_len {H : Hp} : ∀ {ds : List PyData} {vs : List V}, DRs H ds vs → vs.length = ds.length
  | [], _, h => by rw [DRs_nil] at h; subst h; rfl
  | d :: ds, _, h => by rw [DRs_cons] at h; obtain ⟨v, r, rfl, _, hr⟩ := h; simp [DRs_len hr]
mutual
theorem DR.reads {P : Program} {w : World} {H : Hp} {h : Heap} (ok : HOk P w H h) : ∀ (d : PyData) (v : V) (u : Value), DR H d v → RelV v u → ∃ as, Reads h u d as
  | .none, _, u, q, r => by rw [DR] at q; subst q; cases r; exact ⟨_, .none⟩
  | .bool b, _, u, q, r => by rw [DR] at q; subst q; cases r; exact ⟨_, .bool _⟩
  | .int n, _, u, q, r => by rw [DR] at q; subst q; obtain ⟨t, rfl⟩ := r; exact ⟨_, .int _ _⟩
  | .str n, _, u, q, r => by rw [DR] at q; subst q; obtain ⟨t, rfl⟩ := r; exact ⟨_, .str _ _⟩
  | .list ds, v, u, q, r => by
    rw [DR] at q
    obtain ⟨a, vs, rfl, e, t⟩ := q
    cases r
    obtain ⟨_, its, n, rv, g⟩ := ok a _ e
    obtain ⟨as, ra⟩ := DRs.reads ok ds vs its t rv
    exact ⟨_, .list g rfl rfl (by simpa using ra)⟩
  | .tuple ds, v, u, q, r => by
    rw [DR] at q
    obtain ⟨a, vs, rfl, e, t⟩ := q
    cases r
    obtain ⟨_, its, rv, g⟩ := ok a _ e
    obtain ⟨as, ra⟩ := DRs.reads ok ds vs its t rv
    obtain ⟨o, ho, hc, n, hd⟩ := g
    exact ⟨_, .tuple ho hc hd (by simpa using ra)⟩
  | .dict _, _, _, q, _ => by rw [DR] at q; exact q.elim
theorem DRs.reads {P : Program} {w : World} {H : Hp} {h : Heap} (ok : HOk P w H h) : ∀ (ds : List PyData) (vs : List V) (us : List Value), DRs H ds vs → Vals vs us → ∃ as, ReadsAll h us ds as
  | [], _, us, q, r => by rw [DRs] at q; subst q; cases r; exact ⟨_, .nil⟩
  | d :: ds, _, us, q, r => by
    rw [DRs] at q
    obtain ⟨v, r', rfl, q1, q2⟩ := q
    cases r with
    | cons a b =>
      obtain ⟨as, h1⟩ := DR.reads ok d v _ q1 a
      obtain ⟨bs, h2⟩ := DRs.reads ok ds r' _ q2 b
      exact ⟨_, .cons h1 h2⟩
end
def rEqD : R2 := fun x y H Q => ∃ d e, DR H d x ∧ DR H e y ∧ shaped d = true ∧ shaped e = true ∧ Q (.bl (PyData.eqv d e)) H
def rNeD : R2 := fun x y H Q => ∃ d e, DR H d x ∧ DR H e y ∧ shaped d = true ∧ shaped e = true ∧ Q (.bl (!PyData.eqv d e)) H
section
variable {X : Cx}
theorem op_eqD (hu : X.A.units + 64 < cLine) : OpR X (compareOp .Eq) rEqD := by
  intro pins s σ H x y v u Q I rx ry h
  obtain ⟨d, e, h1, h2, h3, h4, q⟩ := h
  obtain ⟨as, r1⟩ := DR.reads I.hok d x v h1 rx
  obtain ⟨bs, r2⟩ := DR.reads I.hok e y u h2 ry
  exact eq_dataH r1 r2 h3 h4 hu ⟨.bl _, H, I, rfl, q⟩
theorem op_neD (hu : X.A.units + 64 < cLine) : OpR X (compareOp .NotEq) rNeD := by
  intro pins s σ H x y v u Q I rx ry h
  obtain ⟨d, e, h1, h2, h3, h4, q⟩ := h
  obtain ⟨as, r1⟩ := DR.reads I.hok d x v h1 rx
  obtain ⟨bs, r2⟩ := DR.reads I.hok e y u h2 ry
  exact ne_dataH r1 r2 h3 h4 hu ⟨.bl _, H, I, rfl, q⟩
def rEqB (K : PySem.W.Frag) : R2 := fun x y H Q => rEqA K x y H Q ∨ rEqD x y H Q
def rNeB (K : PySem.W.Frag) : R2 := fun x y H Q => rNeA K x y H Q ∨ rNeD x y H Q
theorem op_eqX {K : PySem.W.Frag} (hK : X.K = K) (hu : X.A.units + 64 < cLine) : OpR X (compareOp .Eq) (rEqB K) := (op_eqK hK (Nat.lt_of_le_of_lt (Nat.le_add_right _ _) hu)).or (op_eqD hu)
theorem op_neX {K : PySem.W.Frag} (hK : X.K = K) (hu : X.A.units + 64 < cLine) : OpR X (compareOp .NotEq) (rNeB K) := (op_neK hK hu).or (op_neD hu)
end
section
variable {H : Hp} {Q : VK} {K : PySem.W.Frag} {σ : St}
theorem r_eqBI {i j : Int} (h : Q (.bl (decide (V.int i = V.int j))) H) : rEqB K (.int i) (.int j) H Q := .inl (.inl ⟨rfl, h⟩)
theorem r_eqBS {i j : Str} (h : Q (.bl (decide (V.str i = V.str j))) H) : rEqB K (.str i) (.str j) H Q := .inl (.inl ⟨rfl, h⟩)
theorem r_eqBB {i j : Bool} (h : Q (.bl (decide (V.bl i = V.bl j))) H) : rEqB K (.bl i) (.bl j) H Q := .inl (.inl ⟨rfl, h⟩)
theorem r_neBI {i j : Int} (h : Q (.bl (!decide (V.int i = V.int j))) H) : rNeB K (.int i) (.int j) H Q := .inl (.inl ⟨rfl, h⟩)
theorem r_neBS {i j : Str} (h : Q (.bl (!decide (V.str i = V.str j))) H) : rNeB K (.str i) (.str j) H Q := .inl (.inl ⟨rfl, h⟩)
theorem r_neSame {x y : V} {d : PyData} (h1 : DR H d x) (h2 : DR H d y) (hs : shaped d = true) (h : Q (.bl false) H) : rNeB K x y H Q :=
  .inr ⟨d, d, h1, h2, hs, hs, by rw [PySem.SeqAt.eqv_refl d (canLay_of_shaped hs)]; exact h⟩
theorem r_eqData {x y : V} {d e : PyData} (h1 : DR H d x) (h2 : DR H e y) (hs : shaped d = true) (hs2 : shaped e = true) (h : Q (.bl (PyData.eqv d e)) H) : rEqB K x y H Q := .inr ⟨d, e, h1, h2, hs, hs2, h⟩
theorem r_enumA {a : TA} {R : It → Hp → Prop} (h : a σ H fun vs H1 => (∃ x : Str, vs = [.str x] ∧ R (Itp (enumS x) x.cps.size) H1) ∨ ∃ a xs, vs = [.ref a] ∧ SqL K H1 a xs ∧ R (Ite K a) H1) : iEnum K a σ H R := h
end
end L2

namespace L2
open PySem PySem.Spec PyProof.Rows
theorem lri_len0 : typeLookup (.type "list_reverseiterator") "__len__" = pure none := by rw [typeLookup_type, builtinLookup_eq_fast]; kernel_rfl
theorem lri_hint1 : typeLookup (.type "list_reverseiterator") "__length_hint__" = pure (some (.builtin "list_reverseiterator.__length_hint__")) := by rw [typeLookup_type, builtinLookup_eq_fast]; kernel_rfl
section
variable {prog : Program} {w : World} {A : Around} {E : Value → Shared → Prop} {s : Shared}
theorem hint_rev {it l : Addr} {i : Int} {Q : Bool → Shared → Prop} (hit : s.heap.IsRevIter it l i) (h : Q false s) : wpAny (model prog w) A (Builtin.List.listLengthHint (.ref it)) Q E s := by
  unfold Builtin.List.listLengthHint
  refine wpAny_bind (wpAny_specialOf hit.typeIs lri_len0 ?_)
  show wpAny _ _ (specialOf (Value.ref it) (Str.ofString "__length_hint__") >>= _) _ _ _
  refine wpAny_bind (wpAny_specialOf hit.typeIs lri_hint1 ?_)
  generalize hid : ("list_reverseiterator.__length_hint__" : String) = id0
  wp_delta
  rw [show splitId id0 = some ("list_reverseiterator", "__length_hint__") from by subst hid; decide +kernel]
  subst hid
  refine wpAny_bind (wpAny_isInstance (T := "list_reverseiterator") (b := true) hit.typeIs (by rw [isSubtype_type]; kernel_rfl) ?_)
  refine wpAny_ite_split (fun hab => absurd hab (by decide)) (fun _ => ?_)
  refine wpAny_ite_split (fun _ => ?_) (fun hab => absurd (by decide +kernel) hab)
  refine wpAny_ite_split (fun hab => absurd hab (by decide +kernel)) (fun _ => ?_)
  exact wpAny_pure h
theorem list_rev {it l : Addr} {items : Array Value} {Q : Value → Shared → Prop} (hh : A.handled = none) (hit : s.heap.IsRevIter it l ((items.size : Int) - 1)) (hl : s.heap.IsList l items) (hne : l ≠ it) (hn : items.size ≤ sizeLine)
    (hQ : ∀ h' tk acc' c', (∀ b o, b ≠ it → s.heap.get? b = some o → h'.get? b = some o) → h'.get? s.heap.objs.size = some { cls := .type "list", dict := none, data := .seq acc' c', slots := #[] } →
      ItemsOf (fun i v => items[items.size - 1 - i]? = some v) acc' items.size → Q (.ref s.heap.objs.size) { s with heap := h', toks := tk }) :
    wpAny (model prog w) A (call (.type "list") [.ref it]) Q E s := by
  refine callType_codes (Q₁ := fun obj s₁ => obj = .ref s.heap.objs.size ∧ s₁ = { s with heap := s.heap.push { cls := .type "list", data := .seq #[] } }) F.called_list (F.typeCall_list_1 _) F.entry_list_init
    (code_list_new _ ⟨rfl, rfl⟩) fun obj s₁ h₁ => ?_
  obtain ⟨rfl, rfl⟩ := h₁
  have iti : it < s.heap.objs.size := by obtain ⟨o, e, _⟩ := hit; exact Heap.lt_size e
  have itl : l < s.heap.objs.size := by obtain ⟨o, e, _⟩ := hl; exact Heap.lt_size e
  generalize hS0 : s.heap.objs.size = S at iti itl hQ
  have hS : (s.heap.push { cls := .type "list", data := .seq #[] }).get? S = some { cls := .type "list", data := .seq #[] } := by rw [← hS0]; exact Heap.get?_push_size _ rfl
  have kp : ∀ b o, s.heap.get? b = some o → (s.heap.push { cls := .type "list", data := .seq #[] }).get? b = some o := fun b o e => Heap.get?_push_of_some _ e
  generalize s.heap.push { cls := .type "list", data := .seq #[] } = h1 at hS kp
  have hit1 : h1.IsRevIter it l ((items.size : Int) - 1) := hit.at fun o e => kp it o e
  have hl1 : h1.IsList l items := hl.at fun o e => kp l o e
  refine ⟨⟨_, hS, rfl⟩, F.args_list_init_2 _ _, ?_⟩
  have nSi : S ≠ it := Nat.ne_of_gt iti
  have nSl : S ≠ l := Nat.ne_of_gt itl
  have hSf : S ∉ [it, l] := by simp [nSi, nSl]
  have W := (Walks.listRev (prog := prog) (w := w) (A := A.in1.in1) hh it l hne items).toS
  show wpAny _ A.in1.in1 (do let old ← Builtin.List.listItems (.ref S); Builtin.List.listUpdate (.ref S) (fun _ => #[]); letGo old.toList.reverse; Builtin.List.listExtendWith (.ref S) (.ref it) .none) _ _ _
  unfold Builtin.List.listItems
  refine wpAny_bind (wpAny_bind (wpAny_seqItems hS rfl (wpAny_pure ?_)))
  show wpAny _ A.in1.in1 (updateSeq S (fun _ => #[]) >>= fun _ => letGo (#[] : Array Value).toList.reverse >>= fun _ => Builtin.List.listExtendWith (.ref S) (.ref it) .none) _ _ _
  refine wpAny_bind (wpAny_updateSeq hS rfl ?_)
  have hS2 := Heap.get?_update_self (Obj.mapSeq (fun _ => (#[] : Array Value))) hS rfl
  have k2 : ∀ b o, b ≠ S → h1.get? b = some o → (h1.update S (Obj.mapSeq (fun _ => (#[] : Array Value)))).get? b = some o := fun b o hb e => (Heap.get?_update_other _ _ (Ne.symm hb)).trans e
  generalize h1.update S (Obj.mapSeq (fun _ => (#[] : Array Value))) = h2 at hS2 k2
  have hit2 := hit1.at (h' := h2) fun o e => k2 it o (Ne.symm nSi) e
  have hl2 := hl1.at (h' := h2) fun o e => k2 l o (Ne.symm nSl) e
  refine wpAny_bind (wpAny_letGo ?_)
  unfold Builtin.List.listExtendWith
  refine wpAny_bind (wpAny_typeOf (T := "list_reverseiterator") (Heap.IsRevIter.typeIs (s := { s with heap := h2 }) hit2) ?_)
  have e1 : Builtin.List.listSameRef (.ref S) (.ref it) = false := by simp [Builtin.List.listSameRef, nSi]
  have e2 : (Value.type "list_reverseiterator" == Value.type "list") = false := by decide
  have e3 : (Value.type "list_reverseiterator" == Value.type "tuple") = false := by decide
  simp only [e1, e2, e3, Bool.or_false, Bool.false_eq_true, if_false]
  refine wpAny_bind (wpAny_pyIter_revIter (s := { s with heap := h2 }) hit2 ?_)
  refine wpAny_bind (wpAny_holding (hint_rev (s := { s with heap := h2 }) hit2 ?_))
  refine wpAny_ite_split (fun hab => absurd hab (by decide +kernel)) (fun _ => ?_)
  refine wpAny_pure ⟨plainId_quiet F.plain_extend_loop _, ?_⟩
  refine codeAny_extend_loopS W hn S hSf .none items.size 0 _ #[] _ rfl (Nat.zero_le _) ⟨Nat.zero_le _, by simpa using hit2, hl2⟩ hS2 (ItemsOf.nil _) fun s' acc' c' hm hS' hacc => ?_
  rw [Moved.eq_with hm]
  refine ⟨rfl, hQ s'.heap s'.toks acc' c' (fun b o hb e => hm.heap b o (fun hmem => ?_) (k2 b o (fun z => ?_) (kp b o e))) hS' hacc⟩
  · rcases List.mem_cons.mp hmem with e' | hmem
    · exact absurd (Heap.lt_size e) (by rw [e', hS0]; exact Nat.lt_irrefl _)
    · exact hb (List.mem_singleton.mp hmem)
  · exact absurd (Heap.lt_size e) (by rw [z, hS0]; exact Nat.lt_irrefl _)
end
end L2

namespace L2
open PySem PySem.Spec PyProof.Rows
section
variable {X : Cx} {K : PySem.W.Frag} {a b c e : Expr} {ta tb tc te : TE} {pos p p2 p3 : Pos}
theorem j_chain {op op' : CmpOp} {r r' : R2} (ho : OpR X (compareOp op) r) (ho' : OpR X (compareOp op') r') (ha : JE X a ta) (hb : JE X b tb) (hc : JE X c tc) (hm : lastMarks [op, op'] [b, c] = false := by with_unfolding_all rfl) :
    JE X (.Compare a [op, op'] [b, c] pos) (tChain r r' ta tb tc) := ⟨pe_chain ho ho' ha.run hb.run hc.run hm⟩
theorem jt_chain {op op' : CmpOp} {r r' : R2} (ho : OpR X (compareOp op) r) (ho' : OpR X (compareOp op') r') (ha : JE X a ta) (hb : JE X b tb) (hc : JE X c tc) (hm : lastMarks [op, op'] [b, c] = false := by with_unfolding_all rfl) :
    JT X (.Compare a [op, op'] [b, c] pos) (tTest (tChain r r' ta tb tc)) := ⟨pt_chain ho ho' ha.run hb.run hc.run hm⟩
theorem arg1 {Q : List Value → Shared → Prop} {E : Value → Shared → Prop} {s : Shared} (hs : notStar e = true) (h : wpAny (model X.prog X.w) X.A (eval e X.env) (fun u s1 => Q [u] s1) E s) : wpAny (model X.prog X.w) X.A (spliced (backTo pos (starEach [e] X.env))) Q E s := by
  rw [se_cons hs]
  show wpAny _ _ (spliced ((false, eval e X.env) :: backTo pos (starEach [] X.env))) _ _ s
  exact Calls.spliced_cons (wpAny_mono h (fun u s1 q => Calls.spliced_nil q) fun _ _ z => z)
/-- list(reversed(xs)) -/
def tListRev (K : PySem.W.Frag) (ta : TE) : TE := fun σ H Q => ta σ H fun x H1 => ∃ l xs, x = .ref l ∧ SqL K H1 l xs ∧ ∀ q, H1 q = none → Q (.ref q) (upd H1 q (.lst xs.reverse))
theorem j_listRev (hK : X.K = K) (hc : X.calm = true) (hg : Gl X "list") (hm : X.mg "list" = none) (hg2 : Gl X "reversed") (hm2 : X.mg "reversed" = none) (ha : JE X a ta) (h : notStar a = true := by rfl) :
    JE X (.Call (.Name "list" p) [.Call (.Name "reversed" p2) [a] [] p3] [] pos) (tListRev K ta) := ⟨by
  subst hK
  intro pins s σ H Q I hq
  refine wpAny_Call_Name_kw (ld_blt I hg hm bt_list (PyProof.Rows.callWith_type1 (arg1 rfl (wpAny_Call_Name_kw (ld_blt I hg2 hm2 bt_reversed (PyProof.Rows.callWith_type1 (arg1 h (thn (ha.run pins s σ H _ I hq) fun u s1 ⟨x, H1, I1, rx, l, xs, ex, hx, q⟩ => ?_)) (se_cons h) rfl)))) rfl rfl))
  subst ex
  cases rx
  obtain ⟨its, r, ht, hz⟩ := I1.list hx
  have hlen := r.length
  refine call_reversed_list ht.isList ?_
  have lt : l < s1.heap.objs.size := by obtain ⟨o, ho, _⟩ := ht.isList; exact Heap.lt_size ho
  have e0 : (s1.heap.push (PySem.revObj l ((its.toArray.size : Int) - 1))).get? s1.heap.objs.size = some (PySem.revObj l ((its.toArray.size : Int) - 1)) := Heap.get?_push_size _ rfl
  have k0 : ∀ b o, s1.heap.get? b = some o → (s1.heap.push (PySem.revObj l ((its.toArray.size : Int) - 1))).get? b = some o := fun b o q => Heap.get?_push_of_some _ q
  have s0 : (s1.heap.push (PySem.revObj l ((its.toArray.size : Int) - 1))).objs.size = s1.heap.objs.size + 1 := Heap.size_push ..
  refine list_rev (it := s1.heap.objs.size) (l := l) (I1.ok.hd hc) ⟨_, e0, rfl, rfl⟩ (ht.isList.at fun o q => k0 l o q) (Nat.ne_of_lt lt) (by simp; omega) fun h' tk acc' c' hk hS hacc => ?_
  have eacc : acc'.toList = its.reverse := by
    apply List.ext_getElem?
    intro i
    have a1 : acc'.size = its.length := by have := hacc.1; simpa using this
    by_cases hi : i < its.length
    · have hi' : i < acc'.size := by omega
      have a2 := hacc.2 i acc'[i] (Array.getElem?_eq_getElem hi')
      rw [List.getElem?_reverse hi]
      simp at a2
      rw [a2]
      simp [hi']
    · rw [List.getElem?_eq_none (by simp; omega), List.getElem?_eq_none (by simp; omega)]
  have rr : Vals xs.reverse acc'.toList := by rw [eacc]; exact r.reverse
  have k1 : ∀ b o, s1.heap.get? b = some o → h'.get? b = some o := fun b o z => hk b o (Nat.ne_of_lt (Heap.lt_size z)) (k0 b o z)
  have hle : s1.heap.objs.size ≤ (s1.heap.push (PySem.revObj l ((its.toArray.size : Int) - 1))).objs.size := by rw [s0]; exact Nat.le_succ _
  refine ⟨.ref _, _, I1.laid (t' := tk) (o := .lst xs.reverse) k1 hle ⟨by simp; omega, acc'.toList, c', rr, by simpa using hS⟩, rfl, q _ (I1.hok.fresh hle)⟩⟩
end
end L2

namespace L2
open PySem PySem.Spec PyProof.Rows
def TbOk (h : Heap) (T : Addr) : Prop := ∃ oT ts, h.get? T = some oT ∧ oT.data = .fields ts ∧ 3 < ts.size
/-- the exception's object: its class, its dict, its fields -/
def XObj (C : Addr) (dd : Option Addr) (vs : Array Value) : Obj := { cls := .ref C, dict := dd, data := .fields vs }
def frA (l : List Env) : List Addr := l.filterMap (·.frame)
section
variable {M : Model} {A : Around} {E : Value → Shared → Prop}
/-- a new entry is laid and becomes the head -/
theorem entry_new {base : Heap} {env : Env} {outer : List Env} {L x C : Addr} {dd : Option Addr} {vs : Array Value} {hd : Value} {had : Bool} {Q : Unit → Shared → Prop} {s : Shared}
    (fr : A.frames = some (env :: outer)) (ff : s.heap.FunFrames base (env :: outer)) (fL : env.frame = some L) (ex : s.heap.get? x = some (XObj C dd vs)) (sz : 1 < vs.size) (nx : x ∉ frA (env :: outer))
    (k : ∀ h' T, h'.get? x = some (XObj C dd (vs.setIfInBounds 1 (.ref T))) → s.heap.objs.size ≤ T → TbOk h' T → (∀ b o, b ≠ x → b ∉ frA (env :: outer) → s.heap.get? b = some o → h'.get? b = some o) →
      (∀ b o, b ≠ x → s.heap.get? b = some o → ∃ sl, h'.get? b = some { o with slots := sl }) → Q () { s with heap := h' }) :
    wpAny M A (do let c ← frameOf env; let pl ← entryPlaceOf L had; let t ← EntryCells.newEntry hd c .none (rawInt L) .none pl; setField (.ref x) 1 t) Q E s := by
  refine wpAny_bind (wpAny_frameOf_fun fr ff fL fun g1 so => ?_)
  refine wpAny_bind (wpAny_entryPlaceOf fun pl isp => ?_)
  unfold EntryCells.newEntry newFields
  refine wpAny_bind (wpAny_newObj_type ?_ (isp.sizeOk5 _ _ _ _ _))
  have x1 : g1.get? x = some (XObj C dd vs) := (so.2.1 x nx).trans ex
  have lts : ([hd, Value.ref L, .none, rawInt L, .none] ++ (if pl.isEmpty then List.replicate 6 Value.none else pl)).toArray.size > 3 := by
    simp only [List.size_toArray, List.length_append, List.length_cons, List.length_nil]; omega
  generalize ([hd, Value.ref L, .none, rawInt L, .none] ++ (if pl.isEmpty then List.replicate 6 Value.none else pl)).toArray = tv at lts
  have x2 : (g1.push { cls := .type "traceback", dict := none, data := .fields tv }).get? x = some (XObj C dd vs) := Heap.get?_push_of_some _ x1
  have nTx : g1.objs.size ≠ x := Nat.ne_of_gt (Heap.lt_size x1)
  have t2 : (g1.push { cls := .type "traceback", dict := none, data := .fields tv }).get? g1.objs.size = some { cls := .type "traceback", dict := none, data := .fields tv } := Heap.get?_push_size _ rfl
  have o2 : ∀ b o, g1.get? b = some o → (g1.push { cls := .type "traceback", dict := none, data := .fields tv }).get? b = some o := fun b o e => Heap.get?_push_of_some _ e
  refine wpAny_setField (vs := vs) x2 rfl sz ?_
  have e3 := Heap.get?_update_self (Obj.mapFields (·.setIfInBounds 1 (Value.ref g1.objs.size))) x2 rfl
  have ot : ∀ b, b ≠ x → ((g1.push { cls := .type "traceback", dict := none, data := .fields tv }).update x (Obj.mapFields (·.setIfInBounds 1 (Value.ref g1.objs.size)))).get? b = (g1.push { cls := .type "traceback", dict := none, data := .fields tv }).get? b := fun b hb => Heap.get?_update_other _ _ (Ne.symm hb)
  refine k _ g1.objs.size e3 (by rw [so.1]; exact Nat.le_refl _) ⟨_, tv, (ot _ nTx).trans t2, rfl, lts⟩ (fun b o hb hf e => ?_) (fun b o hb e => ?_)
  · rw [ot b hb]; exact o2 b o ((so.2.1 b hf).trans e)
  · obtain ⟨sl, q⟩ := so.2.2 b o e
    exact ⟨sl, by rw [ot b hb]; exact o2 b _ q⟩
/-- what a note leaves -/
structure NoteK (fs : List Addr) (x C : Addr) (dd : Option Addr) (hd : Option Addr) (h h' : Heap) (T : Addr) : Prop where
  obj : ∃ vs, h'.get? x = some (XObj C dd vs) ∧ vs[1]? = some (.ref T)
  tb : TbOk h' T
  ne : T ≠ x
  new : h.objs.size ≤ T ∨ hd = some T
  keep : ∀ b o, b ≠ x → some b ≠ hd → b ∉ fs → h.get? b = some o → h'.get? b = some o
  slot : ∀ b o, b ≠ x → some b ≠ hd → h.get? b = some o → ∃ sl, h'.get? b = some { o with slots := sl }
  tail : ∀ b o, hd = some b → h.get? b = some o → ∃ o', h'.get? b = some o'
theorem note1 {base : Heap} {env : Env} {outer : List Env} {L x C : Addr} {dd : Option Addr} {vs : Array Value} {Q : Unit → Shared → Prop} {s : Shared}
    (fr : A.frames = some (env :: outer)) (ff : s.heap.FunFrames base (env :: outer)) (fL : env.frame = some L) (ex : s.heap.get? x = some (XObj C dd vs)) (h1 : vs[1]? = some .none) (nx : x ∉ frA (env :: outer))
    (k : ∀ h' T, NoteK (frA (env :: outer)) x C dd none s.heap h' T → Q () { s with heap := h' }) : wpAny M A (noteFrame (.ref x) env) Q E s := by
  unfold noteFrame
  simp only [fL]
  refine wpAny_bind (wpAny_field ex rfl h1 ?_)
  rw [if_neg (by decide)]
  have sz : 1 < vs.size := (Array.getElem?_eq_some_iff.mp h1).1
  refine entry_new fr ff fL ex sz nx fun h' T a1 a2 a3 a4 a5 => k h' T ⟨⟨_, a1, by simp [sz]⟩, a3, ?_, .inl a2, fun b o hb _ hf e => a4 b o hb hf e, fun b o hb _ e => a5 b o hb e, fun b o z => by cases z⟩
  exact Nat.ne_of_gt (Nat.lt_of_lt_of_le (Heap.lt_size ex) a2)
theorem note2 {base : Heap} {env : Env} {outer : List Env} {L x C T0 : Addr} {dd : Option Addr} {vs : Array Value} {Q : Unit → Shared → Prop} {s : Shared}
    (fr : A.frames = some (env :: outer)) (ff : s.heap.FunFrames base (env :: outer)) (fL : env.frame = some L) (ex : s.heap.get? x = some (XObj C dd vs)) (h1 : vs[1]? = some (.ref T0)) (t0 : TbOk s.heap T0) (ne : T0 ≠ x) (nx : x ∉ frA (env :: outer)) (nT : T0 ∉ frA (env :: outer))
    (k : ∀ h' T, NoteK (frA (env :: outer)) x C dd (some T0) s.heap h' T → Q () { s with heap := h' }) : wpAny M A (noteFrame (.ref x) env) Q E s := by
  obtain ⟨oT, ts, g, d, l3⟩ := id t0
  unfold noteFrame
  simp only [fL]
  refine wpAny_bind (wpAny_field ex rfl h1 ?_)
  rw [if_pos (show (Value.ref T0 != Value.none) = true from by simp)]
  refine wpAny_bind (wpAny_field g d (Array.getElem?_eq_getElem l3) ?_)
  by_cases q : (ts[3] == rawInt L) = true
  · rw [if_pos q]
    exact wpAny_pure (k _ T0 ⟨⟨vs, ex, h1⟩, t0, ne, .inr rfl, fun b o _ _ _ e => e, fun b o _ _ e => ⟨o.slots, e⟩, fun b o _ e => ⟨o, e⟩⟩)
  · rw [if_neg q]
    refine wpAny_bind (wpAny_setField g d l3 ?_)
    have tT := Heap.get?_update_self (Obj.mapFields (·.setIfInBounds 3 Value.none)) g (Obj.isFreed_of_fields (Obj.data_mapFields d _))
    have ot : ∀ b, b ≠ T0 → (s.heap.update T0 (Obj.mapFields (·.setIfInBounds 3 Value.none))).get? b = s.heap.get? b := fun b hb => Heap.get?_update_other _ _ (Ne.symm hb)
    have sz : 1 < vs.size := (Array.getElem?_eq_some_iff.mp h1).1
    have ff2 : (s.heap.update T0 (Obj.mapFields (·.setIfInBounds 3 Value.none))).FunFrames base (env :: outer) := ff.of_keeps fun b o hb hn => by
      refine ⟨o, (ot b (fun z => ?_)).trans hb, rfl⟩
      rw [z, g] at hb; cases hb; exact hn _ d
    refine entry_new (s := { s with heap := s.heap.update T0 (Obj.mapFields (·.setIfInBounds 3 Value.none)) }) fr ff2 fL ((ot x (Ne.symm ne)).trans ex) sz nx fun h' T a1 a2 a3 a4 a5 => k h' T ⟨⟨_, a1, by simp [sz]⟩, a3, ?_, .inl (by rw [Heap.size_update] at a2; exact a2), fun b o hb h0 hf e => a4 b o hb hf ((ot b (fun z => h0 (by rw [z]))).trans e), fun b o hb h0 e => a5 b o hb ((ot b (fun z => h0 (by rw [z]))).trans e), fun b o hb e => ?_⟩
    · exact Nat.ne_of_gt (Nat.lt_of_lt_of_le (Heap.lt_size ex) (by rw [Heap.size_update] at a2; exact a2))
    · cases hb
      obtain ⟨sl, z⟩ := a5 T0 _ ne tT
      exact ⟨_, z⟩
/-- out of flight -/
theorem land1 {x C T0 : Addr} {dd : Option Addr} {vs : Array Value} {Q : Unit → Shared → Prop} {s : Shared} (ex : s.heap.get? x = some (XObj C dd vs)) (h1 : vs[1]? = some (.ref T0)) (t0 : TbOk s.heap T0) (ne : T0 ≠ x)
    (k : ∀ h', NoteK [] x C dd (some T0) s.heap h' T0 → Q () { s with heap := h' }) : wpAny M A (setFlight (.ref x) none) Q E s := by
  obtain ⟨oT, ts, g, d, l3⟩ := id t0
  unfold setFlight
  refine wpAny_bind (wpAny_field ex rfl h1 ?_)
  rw [if_pos (show (Value.ref T0 != Value.none) = true from by simp)]
  refine wpAny_setField g d l3 (k _ ?_)
  have d2 := Obj.data_mapFields d (·.setIfInBounds 3 ((none : Option Addr).elim Value.none fun f => rawInt f))
  have tT := Heap.get?_update_self (Obj.mapFields (·.setIfInBounds 3 ((none : Option Addr).elim Value.none fun f => rawInt f))) g (Obj.isFreed_of_fields d2)
  have ot : ∀ b, b ≠ T0 → (s.heap.update T0 (Obj.mapFields (·.setIfInBounds 3 ((none : Option Addr).elim Value.none fun f => rawInt f)))).get? b = s.heap.get? b := fun b hb => Heap.get?_update_other _ _ (Ne.symm hb)
  exact ⟨⟨vs, (ot x (Ne.symm ne)).trans ex, h1⟩, ⟨_, _, tT, d2, by simpa using l3⟩, ne, .inr rfl, fun b o _ h0 _ e => (ot b (fun z => h0 (by rw [z]))).trans e, fun b o _ h0 e => ⟨o.slots, (ot b (fun z => h0 (by rw [z]))).trans e⟩, fun b o hb e => by cases hb; exact ⟨_, tT⟩⟩
end
end L2

namespace L2
open PySem PySem.Spec PyProof.Rows
def VEm : List Value := [.type "ValueError", .type "Exception", .type "BaseException", .type "object"]
/-- a class of the text that stands under ValueError, and is made as that one is -/
def xIn (K : PySem.W.Frag) (D : Addr) : Bool := match K.lookup D with
  | some ⟨.type "type", _, .cls cd, sl⟩ => (match cd.mro, sl.toList with
    | .ref E :: bm, [_, _, _, _, some (.builtin n), _] => E == D && n == "ValueError.__new__" && cd.hasDel == false && cd.hasDict && PySem.W.tailIn K VEm bm
    | _, _ => false)
  | _ => false
theorem xIn_of {K : PySem.W.Frag} {D : Addr} (q : xIn K D = true) : ∃ nm qn N bs bm sn sub ab col dd k0 k1 k2 k3 k5, K.lookup D = some (excClassObj nm qn D N bs bm true sn sub ab col dd k0 k1 k2 k3 k5 "ValueError.__new__") ∧ ∀ h, K.In h → OwnTail h VEm bm := by
  unfold xIn at q
  split at q
  · rename_i dd cd sl ho
    split at q
    · rename_i D' bm k0 k1 k2 k3 n k5 hm hs
      simp only [Bool.and_eq_true, beq_iff_eq] at q
      obtain ⟨⟨⟨⟨e1, e2⟩, e3⟩, e4⟩, e5⟩ := q
      subst e1 e2
      obtain ⟨nm, bs, mro, ns, qn, hd, sn, sub, ab, col, del⟩ := cd
      dsimp only at hm e3 e4
      subst hm e3 e4
      have hsl : sl = #[k0, k1, k2, k3, some (.builtin "ValueError.__new__"), k5] := by
        obtain ⟨l⟩ := sl
        dsimp only at hs
        rw [hs]
      subst hsl
      exact ⟨nm, qn, ns, bs, bm, sn, sub, ab, col, dd, k0, k1, k2, k3, k5, ho, fun h X => PySem.W.tail_of_in X e5⟩
    · cases q
  · cases q
section
variable {prog : Program} {w : World} {A : Around} {K : PySem.W.Frag} {D f : Addr} {E : Value → Shared → Prop}
/-- D(..): the tuple of the arguments, the exception, then its own __init__ -/
theorem type_call_x {h : Heap} {g : Array GenState} {d : Drawn} {t : Nat} {os : OsState} {us : List Value} {Q : Fin → Shared → Prop} (X : K.In h) (hx : xIn K D = true)
    (hi : PySem.W.findIn K (.ref D) "__init__" = some (some (.ref f))) (hf : PySem.W.typeIn K (.ref f) = some (.type "function")) (hl : us.length ≤ sizeLine)
    (k : wpAny (model prog w) A (call (.ref f) (.ref (h.objs.size + 1) :: us)) (fun r s' => r = .none ∧ Q (.done (.ret (.ref (h.objs.size + 1)))) s') E
      ⟨(h.push { cls := .type "tuple", data := .seq us.toArray }).push (XObj D none #[.ref h.objs.size, .none, .none, .none, .bool false, .none]), g, d, t, os⟩) :
    wpAny (model prog w) A (Builtin.«type.__call__» ⟨.ref D :: us, []⟩) Q E ⟨h, g, d, t, os⟩ := by
  obtain ⟨nm, qn, N, bs, bm, sn, sub, ab, col, dd, k0, k1, k2, k3, k5, lk0, tl⟩ := xIn_of hx
  have T := tl h X
  have hD := X _ _ lk0
  have L3 := PySem.W.looks_findIn (M := model prog w) X hi
  have L4 := PySem.W.bind_fn (M := model prog w) X (.ref (h.objs.size + 1)) hf
  repeat (first | with_reducible refine wpAny_loadPart_at hD ?_ | with_reducible refine wpAny_madeBy_exc hD ?_ | wp_step)
  refine codeAny_call_builtin_code (Code.quiet_builtin _ F.excBase_ValueError.quiet) (wpAny_check_new_subT F.excBase_ValueError T hD (codeAny_exc_new_subT F.excBase_ValueError T hD ?_ hl))
  show wpAny _ _ _ _ _ _
  have keep : ∀ b o, h.get? b = some o → ((h.push { cls := .type "tuple", data := .seq us.toArray }).push (XObj D none #[.ref h.objs.size, .none, .none, .none, .bool false, .none])).get? b = some o := fun b o q => Heap.get?_push_of_some _ (Heap.get?_push_of_some _ q)
  have gx : ((h.push { cls := .type "tuple", data := .seq us.toArray }).push (XObj D none #[.ref h.objs.size, .none, .none, .none, .bool false, .none])).get? (h.objs.size + 1) = some (XObj D none #[.ref h.objs.size, .none, .none, .none, .bool false, .none]) := by
    have := Heap.get?_push_size (h.push { cls := .type "tuple", data := .seq us.toArray }) (o := XObj D none #[.ref h.objs.size, .none, .none, .none, .bool false, .none]) rfl
    rwa [Heap.size_push] at this
  have hD1 := keep _ _ hD
  have M3 := L3.keeps keep
  have M4 := L4.keeps keep
  have cD : (Value.ref D :: bm).contains (.ref D) = true := by simp
  unfold XObj at gx M3 M4 hD1 k
  unfold isInstance
  repeat (first | with_reducible refine wpAny_loadPart_at gx ?_ | (with_reducible refine wpAny_isSubtype_exc hD1 ?_; rw [cD]) | wp_step)
  show wpAny _ _ (typeLookup (.ref D) _) _ _ _
  refine M3.at ?_
  refine wpAny_holding (wpAny_bind (M4.at ?_))
  dsimp only
  refine wpAny_bind (wpAny_mono k (fun r s' hr => ?_) fun _ _ z => z)
  obtain ⟨rfl, z⟩ := hr
  wp_walk
  exact z
theorem call_x {s : Shared} {us : List Value} {Q : Value → Shared → Prop} (X : K.In s.heap) (hx : xIn K D = true)
    (hi : PySem.W.findIn K (.ref D) "__init__" = some (some (.ref f))) (hf : PySem.W.typeIn K (.ref f) = some (.type "function")) (hl : us.length ≤ sizeLine)
    (k : wpAny (model prog w) (A.under (.builtin "type.__call__" ⟨.ref D :: us, []⟩)) (call (.ref f) (.ref (s.heap.objs.size + 1) :: us)) (fun r s' => r = .none ∧ Q (.ref (s.heap.objs.size + 1)) s') E
      { s with heap := (s.heap.push { cls := .type "tuple", data := .seq us.toArray }).push (XObj D none #[.ref s.heap.objs.size, .none, .none, .none, .bool false, .none]) }) :
    wpAny (model prog w) A (call (.ref D) us) Q E s := by
  obtain ⟨h, g, d, t, os⟩ := s
  obtain ⟨nm, qn, N, bs, bm, sn, sub, ab, col, dd, k0, k1, k2, k3, k5, lk0, tl⟩ := xIn_of hx
  have hD := X _ _ lk0
  have f1 := tc_lookup
  have f2 := tc_bind (.ref D)
  have hT : (⟨h, g, d, t, os⟩ : Shared).TypeIs (.ref D) "type" := ⟨_, hD, rfl⟩
  refine wpAny_call (codeAny_of_tree ?_)
  show wpAny _ _ (callAny (.ref D) _) _ _ _
  repeat (any_goals (first | assumption | with_reducible refine wpAny_loadPart_at hD ?_ | wp_step))
  refine ⟨rfl, codeAny_call_builtin_at (Code.quiet_builtin _ (by decide +kernel)) entry_typeCall (wpAny_check_type_call_sub hD (type_call_x X hx hi hf hl ?_))⟩
  exact k
end
end L2

namespace L2
open PySem PySem.Spec PyProof.Rows
/-- the exception at x, of class C, its dict at dx -/
def excO (x C dx : Addr) : HO := .ext fun h => ∃ vs, h.get? x = some (XObj C (some dx) vs)
def excRaw (x C : Addr) : HO := .ext fun h => ∃ t, h.get? x = some (XObj C none #[.ref t, .none, .none, .none, .bool false, .none])
theorem excO_ok {P : Program} {w : World} {H : Hp} {h : Heap} {x C dx : Addr} {vs : Array Value} (e : h.get? x = some (XObj C (some dx) vs)) : ObjOk P w H h x (excO x C dx) :=
  ⟨⟨vs, e⟩, ⟨_, e⟩, fun h1 h2 ⟨vs, e⟩ k => ⟨vs, k _ e⟩⟩
theorem excO_of {P : Program} {w : World} {H : Hp} {h : Heap} {x C dx : Addr} (ok : HOk P w H h) (e : H x = some (excO x C dx)) : ∃ vs, h.get? x = some (XObj C (some dx) vs) := (ok _ _ e).1
structure Head (X : Cx) (pins : List (Addr × Obj)) (H : Hp) (x C dx T : Addr) (h : Heap) : Prop where
  obj : ∃ vs, h.get? x = some (XObj C (some dx) vs) ∧ vs[1]? = some (.ref T)
  tb : TbOk h T
  fp : FpOk X pins H T
  tr : H x = some (excO x C dx)
theorem Head.ne {X : Cx} {pins : List (Addr × Obj)} {H : Hp} {x C dx T : Addr} {h : Heap} (a : Head X pins H x C dx T h) : T ≠ x := fun z => by
  have := a.fp.1
  rw [z, a.tr] at this; cases this
/-- in flight: no entry yet, or one at T -/
def Fly (X : Cx) (pins : List (Addr × Obj)) (H : Hp) (x C dx : Addr) (h : Heap) : Prop :=
  H x = some (excO x C dx) ∧ ((∃ vs, h.get? x = some (XObj C (some dx) vs) ∧ vs[1]? = some .none) ∨ ∃ T, Head X pins H x C dx T h)
section
variable {X : Cx} {pins : List (Addr × Obj)} {σ : St} {H : Hp} {s : Shared} {x C dx : Addr} {h' : Heap} {T : Addr} {hd : Option Addr}
/-- a note keeps all that is known -/
theorem Inv.noted {fs : List Addr} (I : Inv X pins σ H s) (hx : H x = some (excO x C dx)) (hh : ∀ b, hd = some b → FpOk X pins H b) (hf : ∀ b ∈ fs, b ∈ X.env.locals :: X.fs) (N : NoteK fs x C (some dx) hd s.heap h' T) : Inv X pins σ H { s with heap := h' } := by
  obtain ⟨m, ⟨oL, esL, epL, hoL, rL⟩, _⟩ := id I.loc
  have fsF : ∀ b ∈ fs, H b = none := fun b hb => by
    rcases List.mem_cons.mp (hf b hb) with e | hb
    · rw [e]; exact I.free
    · obtain ⟨_, o, ho, _⟩ := I.ok.funs.mem hb
      exact I.base.free b o ho (I.ok.frf b hb) fun z => I.ok.exfs b z hb
  have nx : ∀ b, H b = none → b ≠ x := fun b n z => by rw [z, hx] at n; cases n
  have hdF : ∀ b, hd = some b → H b = none := fun b e => (hh b e).1
  have mem : ∀ b, b ∉ hd.toList → some b ≠ hd := fun b nb z => nb (by rw [← z]; simp)
  refine I.step (g' := s.gens) (d' := s.drawn) (t' := s.toks) (ch := hd.toList) (fun b hb => ?_) (fun b o hL hb hc e n => ?_) (fun b o hL hb hc e n => ?_) (fun _ _ _ _ n => n) (fun b o hc e => ?_) (fun _ _ e => e) (fun _ _ _ e => e) (fun b ps e => ⟨#[], by rw [e]; simp⟩) (fun m hm => ?_) (fun b u e => ?_) I.bare
  · have e : hd = some b := by cases hd <;> simp_all
    obtain ⟨_, a2, _, a4, a5, a6⟩ := hh b e
    exact ⟨a4, a2, a5, a6⟩
  · refine N.keep b o (nx b n) (mem b hc) (fun z => ?_) e
    rcases List.mem_cons.mp (hf b z) with q | q
    · exact hL q
    · exact hb q
  · exact N.slot b o (nx b n) (mem b hc) e
  · by_cases q : b = x
    · obtain ⟨vs, z, _⟩ := N.obj
      exact ⟨_, by rw [q]; exact z⟩
    · obtain ⟨sl, z⟩ := N.slot b o q (mem b hc) e
      exact ⟨_, z⟩
  · obtain ⟨o, es, ep, ho, r⟩ := hm
    obtain ⟨sl, z⟩ := N.slot _ o (nx _ I.free) (fun q => (hh _ q.symm).2.1 rfl) ho
    exact ⟨_, es, ep, z, r⟩
  · by_cases q : b = x
    · subst q
      rw [hx] at e; cases e
      obtain ⟨vs, z, _⟩ := N.obj
      exact excO_ok z
    · refine (I.hok b u e).stay (fun c v hc z => ?_) (fun _ q => q) fun _ _ q => q
      have tc : ∃ u, H c = some u := by
        rcases hc with rfl | hc
        · exact ⟨_, e⟩
        · exact ⟨_, hc⟩
      obtain ⟨uc, tc⟩ := tc
      refine N.keep c v (fun zz => ?_) (fun zz => ?_) (fun zz => ?_) z
      · rcases hc with rfl | hc
        · exact q zz
        · rw [zz, hx] at hc; cases hc
      · rw [hdF c zz.symm] at tc; cases tc
      · rw [fsF c zz] at tc; cases tc
/-- the note at a frame -/
theorem fly_note {A : Around} {E : Value → Shared → Prop} {Q : Unit → Shared → Prop} (I : Inv X pins σ H s) (hst : X.stack = X.env :: X.outer) (hfr : X.env.frame = some X.env.locals) (hA : A.frames = some X.stack) (F : Fly X pins H x C dx s.heap)
    (k : ∀ h' T, Inv X pins σ H { s with heap := h' } → Head X pins H x C dx T h' → Q () { s with heap := h' }) : wpAny (model X.prog X.w) A (noteFrame (.ref x) X.env) Q E s := by
  have ff : s.heap.FunFrames X.base (X.env :: X.outer) := hst ▸ I.stack
  have sub : ∀ b ∈ frA (X.env :: X.outer), b ∈ X.env.locals :: X.fs := fun b hb => I.stkSub b (by rw [hst]; exact hb)
  have nf : ∀ b u, H b = some u → b ∉ frA (X.env :: X.outer) := fun b u e z => by
    rw [I.stkFree b (by rw [hst]; exact z)] at e; cases e
  obtain ⟨hx, ⟨vs, e, h1⟩ | ⟨T0, hT⟩⟩ := F
  · refine note1 (hst ▸ hA) ff hfr e h1 (nf x _ hx) fun h' T N => ?_
    have J := I.noted hx (fun b z => by cases z) sub N
    refine k h' T J ⟨N.obj, N.tb, ?_, hx⟩
    have zT : s.heap.objs.size ≤ T := by rcases N.new with z | z; exact z; cases z
    exact I.fpOk zT (I.hok.fresh zT)
  · obtain ⟨vs, e, h1⟩ := hT.obj
    refine note2 (hst ▸ hA) ff hfr e h1 hT.tb hT.ne (nf x _ hx) (fun z => ?_) fun h' T N => ?_
    · rcases List.mem_cons.mp (sub T0 z) with q | q
      · exact hT.fp.2.1 q
      · exact hT.fp.2.2.1 q
    · have J := I.noted hx (fun b z => by cases z; exact hT.fp) sub N
      refine k h' T J ⟨N.obj, N.tb, ?_, hx⟩
      rcases N.new with z | z
      · exact I.fpOk z (I.hok.fresh z)
      · cases z; exact hT.fp
/-- out of flight -/
theorem fly_land {A : Around} {E : Value → Shared → Prop} {Q : Unit → Shared → Prop} (I : Inv X pins σ H s) (F : Head X pins H x C dx T s.heap)
    (k : ∀ h', Inv X pins σ H { s with heap := h' } → Head X pins H x C dx T h' → Q () { s with heap := h' }) : wpAny (model X.prog X.w) A (setFlight (.ref x) none) Q E s := by
  obtain ⟨vs, e, h1⟩ := F.obj
  refine land1 e h1 F.tb F.ne fun h' N => ?_
  exact k h' (I.noted F.tr (fun b z => by cases z; exact F.fp) (fun b z => absurd z (by simp)) N) ⟨N.obj, N.tb, F.fp, F.tr⟩
def CX1 (P : Program) (w : World) : CXT := fun outer H s E e s' => ∃ x C dx T H', e = .ref x ∧ s'.os = s.os ∧ AllBare s'.gens ∧ Un (frs outer) [] H H' s.heap s'.heap ∧ HOk P w H' s'.heap ∧ H' x = some (excO x C dx) ∧ H' T = none ∧ s.heap.objs.size ≤ T ∧
  (∃ vs, s'.heap.get? x = some (XObj C (some dx) vs) ∧ vs[1]? = some (.ref T)) ∧ TbOk s'.heap T ∧ E (.ref C) (some x) H'
/-- what a body knows of an exception that a callee let out, or that it raised itself -/
def XE (X : Cx) (pins : List (Addr × Obj)) (R : St → XK) (e : Value) (s' : Shared) : Prop := ∃ x C dx σ H', e = .ref x ∧ Inv X pins σ H' s' ∧ Fly X pins H' x C dx s'.heap ∧ R σ (.ref C) (some x) H'
/-- behind a callee -/
theorem xe_call {R : St → XK} {e : Value} {s' : Shared} (I : Inv X pins σ H s) (c : CX1 X.prog X.w X.stack H s (R σ) e s') : XE X pins R e s' := by
  obtain ⟨x, C, dx, T, H', rfl, os, bare, un, hok, tx, tT, zT, ob, tb, r⟩ := c
  obtain ⟨hh, g, d, t, os'⟩ := s'
  obtain rfl : os' = s.os := os
  have J := I.call (h' := hh) (g' := g) (d' := d) (t' := t) (ch := []) un hok bare (fun b z => absurd z (by simp))
  exact ⟨x, C, dx, σ, H', rfl, J, ⟨tx, .inr ⟨T, ob, tb, I.fpOk zT tT, tx⟩⟩, r⟩
/-- calls pass on -/
def PassX (X : Cx) (R : St → XK) : Prop := ∀ (pins : List (Addr × Obj)) (e : Value) (s' : Shared), XE X pins R e s' → X.xe e s'
end
/-- a def's frame is left -/
theorem pass_def {P : Program} {w : World} {K : PySem.W.Frag} {mg : Str → Option Value} {base : Heap} {N : List Str} {qual : Str} {scope : Scope} {f : Addr} {cd : Value} {A : Around} {outer : List Env} {s : Shared} {H : Hp} {E : XK} :
    PassX (cxOf (CX1 P w) P w K mg base N qual scope f cd A outer s H E) (fun _ => E) := by
  intro pins e s' ⟨x, C, dx, σ, H', he, I, F, r⟩
  subst he
  show wpAny _ _ (leaving _ _) _ _ _
  unfold leaving
  refine wpAny_bind (fly_note (X := cxOf (CX1 P w) P w K mg base N qual scope f cd A outer s H E) I rfl rfl I.ok.frames F fun h1 T J1 F1 => ?_)
  refine fly_land (X := cxOf (CX1 P w) P w K mg base N qual scope f cd A outer s H E) J1 F1 fun h2 J2 F2 => ?_
  refine ⟨x, C, dx, T, H', rfl, J2.os, J2.bare, J2.base, J2.hok, F2.tr, F2.fp.1, ?_, F2.obj, F2.tb, r⟩
  rcases F2.fp.2.2.2.1 with z | z
  · exact absurd (show T ∈ ([] : List Addr) from z) (by simp)
  · exact z
end L2

namespace L2
open PySem PySem.Spec PyProof.Rows
/-- the dict of an exception -/
def excD (d : Addr) (fs : List (Str × V)) : HO := .ext fun h => ∃ mA, h.Ns1 d mA ∧ ∀ f, RelO (fs.lookup f) (mA f)
theorem excD_ok {P : Program} {w : World} {H : Hp} {h : Heap} {d : Addr} {fs : List (Str × V)} {mA : Str → Option Value} (n : h.Ns1 d mA) (r : ∀ f, RelO (fs.lookup f) (mA f)) : ObjOk P w H h d (excD d fs) := by
  refine ⟨⟨mA, n, r⟩, let ⟨o, _, _, e, _⟩ := n; ⟨o, e⟩, fun h1 h2 ⟨m, n, r⟩ k => ⟨m, ?_, r⟩⟩
  obtain ⟨o, es, ep, e, q⟩ := n
  exact ⟨o, es, ep, k _ e, q⟩
theorem excD_of {P : Program} {w : World} {H : Hp} {h : Heap} {d : Addr} {fs : List (Str × V)} (ok : HOk P w H h) (e : H d = some (excD d fs)) : ∃ mA, h.Ns1 d mA ∧ ∀ f, RelO (fs.lookup f) (mA f) := (ok _ _ e).1
/-- just made, its fields being set -/
def excNew (x C d : Addr) : HO := .ext fun h => ∃ t, h.get? x = some (XObj C (some d) #[.ref t, .none, .none, .none, .bool false, .none])
theorem excNew_ok {P : Program} {w : World} {H : Hp} {h : Heap} {x C d t : Addr} (e : h.get? x = some (XObj C (some d) #[.ref t, .none, .none, .none, .bool false, .none])) : ObjOk P w H h x (excNew x C d) :=
  ⟨⟨t, e⟩, ⟨_, e⟩, fun h1 h2 ⟨t, e⟩ k => ⟨t, k _ e⟩⟩
theorem excNew_of {P : Program} {w : World} {H : Hp} {h : Heap} {x C d : Addr} (ok : HOk P w H h) (e : H x = some (excNew x C d)) : ∃ t, h.get? x = some (XObj C (some d) #[.ref t, .none, .none, .none, .bool false, .none]) := (ok _ _ e).1
def refsThen : List Value → Bool
  | [.type a, .type b, .type c, .type d] => a == "ValueError" && b == "Exception" && c == "BaseException" && d == "object"
  | .ref _ :: r => refsThen r
  | _ => false
theorem refsThen_ve {l : List Value} (e : refsThen l = true) : (∃ a r, l = .ref a :: r ∧ refsThen r = true) ∨ l = VEm := by
  unfold refsThen at e
  split at e
  · simp only [Bool.and_eq_true, beq_iff_eq] at e
    obtain ⟨⟨⟨rfl, rfl⟩, rfl⟩, rfl⟩ := e
    exact .inr rfl
  · exact .inl ⟨_, _, rfl, e⟩
  · cases e
theorem refuse_refs (self : Value) : ∀ (l : List Value), refsThen l = true → refuseLoop self "__setattr__" l = pure ()
  | [], e => by cases e
  | v :: r, e => by
    rcases refsThen_ve e with ⟨a, r', q, e'⟩ | q
    · cases q
      rw [refuseLoop_ref]
      exact refuse_refs self r e'
    · rw [q]
      exact F.store_ValueError.passes self
theorem refs_has : ∀ (l : List Value), refsThen l = true → l.contains (.type "object") = true ∧ l.contains (.type "BaseException") = true
  | [], e => by cases e
  | v :: r, e => by
    rcases refsThen_ve e with ⟨a, r', q, e'⟩ | q
    · cases q
      obtain ⟨h1, h2⟩ := refs_has r e'
      exact ⟨by rw [List.contains_cons, h1, Bool.or_true], by rw [List.contains_cons, h2, Bool.or_true]⟩
    · rw [q]
      decide
/-- all that is asked of the text about an own exception class -/
def xcIn (K : PySem.W.Frag) (C : Addr) : Bool := xIn K C && (PySem.W.clsIn K C).any (fun cd => refsThen cd.mro && cd.hasDict) && PySem.W.findIn K (.ref C) "__setattr__" == some (some (.builtin "object.__setattr__")) &&
  PySem.W.findIn K (.ref C) "__getattribute__" == some (some (.builtin "BaseException.__getattribute__")) && PySem.W.findIn K (.ref C) "__getattr__" == some none
structure XCls (K : PySem.W.Frag) (C : Addr) : Prop where
  xi : xIn K C = true
  ov : ∃ cd, PySem.W.clsIn K C = some cd ∧ refsThen cd.mro = true ∧ cd.hasDict = true
  sa : PySem.W.findIn K (.ref C) "__setattr__" = some (some (.builtin "object.__setattr__"))
  ga : PySem.W.findIn K (.ref C) "__getattribute__" = some (some (.builtin "BaseException.__getattribute__"))
  gh : PySem.W.findIn K (.ref C) "__getattr__" = some none
theorem xcIn_of {K : PySem.W.Frag} {C : Addr} (h : xcIn K C = true) : XCls K C := by
  unfold xcIn at h
  simp only [Bool.and_eq_true, beq_iff_eq] at h
  obtain ⟨⟨⟨⟨h1, h2⟩, h3⟩, h4⟩, h5⟩ := h
  obtain ⟨cd, a, b⟩ := PySem.W.any_some h2
  simp only [Bool.and_eq_true] at b
  exact ⟨h1, ⟨cd, a, b.1, b.2⟩, h3, h4, h5⟩
theorem refs_ne {l : List Value} (e : refsThen l = true) : l.isEmpty = false := by
  cases l with
  | nil => cases e
  | cons _ _ => rfl
section
variable {prog : Program} {w : World} {A : Around} {s : Shared} {K : PySem.W.Frag} {x C : Addr} {R : Result → Shared → Prop}
theorem XCls.mro {c : Value} {b : Bool} (k : XCls K C) (h : ∀ cd, PySem.W.clsIn K C = some cd → refsThen cd.mro = true → cd.mro.contains c = b) : PySem.W.mroIn K C c = some b := by
  obtain ⟨cd, a, o, _⟩ := k.ov
  unfold PySem.W.mroIn
  rw [a, Option.bind_some, if_neg (by rw [refs_ne o]; decide), h cd a o]
theorem XCls.isObj (k : XCls K C) : PySem.W.mroIn K C (.type "object") = some true := k.mro fun cd _ o => (refs_has _ o).1
theorem XCls.isExc (k : XCls K C) : PySem.W.mroIn K C (.type "BaseException") = some true := k.mro fun cd _ o => (refs_has _ o).2
theorem osa_x {ox : Obj} {od : Option Obj} {name : Str} {tk : Tok} {v : Value} (X : K.In s.heap) (I : PySem.W.InstAt s.heap x ox C od) (c : XCls K C) (ht : NoAttr K C name)
    (h : wpAny (model prog w) A.in1 (Builtin.ObjectAttr.storeInOwnDict (.ref x) (.ref C) (.str name tk) name v false)
      (fun fin s' => match fin with | .done f => R (.ok f) s' | .again c' => c'.quiet = true ∧ codeAny (model prog w) A c' R s') (fun e s' => R (.error e) s') s) :
    codeAny (model prog w) A (.call (.builtin "object.__setattr__") ⟨[.ref x, .str name tk, v], []⟩) R s := by
  obtain ⟨cd, hc, ho, _⟩ := c.ov
  have sub : PySem.W.Looks (model prog w) s.heap (isInstance (.ref x) (.type "object")) true := I.type.andThen (PySem.W.looks_mroIn X c.isObj)
  refine codeAny_call_builtin F.store_object.slot.plain F.store_object.entry (@PySem.W.check_slot (model prog w) _ _ s "object.__setattr__" "object" "__setattr__" (.ref x) [.str name tk, v] [] _ F.store_object.kind F.store_object.split sub (F.store_object.args (.ref x) (.str name tk) v) ?_)
  have hm : PySem.W.Looks (model prog w) s.heap (mroOf (.ref C)) cd.mro := (PySem.W.looks_clsIn X hc).andThen .now
  have L3 : PySem.W.Looks (model prog w) s.heap (Builtin.ObjectAttr.storeTaker? none) none := .now
  rw [PySem.W.osa_eq, refuse_eq]
  refine wpAny_bind (wpAny_bind (I.type.here (wpAny_bind (hm.here ?_))))
  rw [refuse_refs _ _ ho]
  refine wpAny_pure (wpAny_bind (I.type.here (wpAny_bind ((PySem.W.looks_findIn X ht).here (wpAny_bind (L3.here ?_))))))
  exact h
end
theorem upd_swap {H : Hp} {d x : Addr} {a b c : HO} (n : d ≠ x) : upd (upd (upd H d a) x b) d c = upd (upd H x b) d c := by
  funext y
  unfold upd
  by_cases h : y = d
  · simp [h]
  · simp [h]
section
variable {X : Cx} {pins : List (Addr × Obj)} {σ : St} {H : Hp} {s : Shared} {x C d : Addr} {fs : List (Str × V)} {f : Str} {v y : V} {u : Value} {A : Around} {E : Value → Shared → Prop}
/-- the first field: the dict is made -/
theorem setx0 {Q : Unit → Shared → Prop} (I : Inv X pins σ H s) (e : H x = some (excRaw x C)) (c : XCls X.K C) (n : NoAttr X.K C f) (ry : RelV y u)
    (h : ∀ s' d, H d = none → d ≠ x → Inv X pins σ (upd (upd H x (excNew x C d)) d (excD d [(f, y)])) s' → Q () s') : wpAny (model X.prog X.w) A (setAttr (.ref x) f u) Q E s := by
  obtain ⟨⟨t, hx⟩, -, -⟩ : ObjOk X.prog X.w H s.heap x (excRaw x C) := I.hok x _ e
  obtain ⟨cd, hc, ho, hd⟩ := c.ov
  have J : PySem.W.InstAt s.heap x (XObj C none #[.ref t, .none, .none, .none, .bool false, .none]) C none := ⟨hx, rfl, rfl, True.intro⟩
  refine PySem.W.set_plain I.kIn J c.sa (osa_x (s := { s with toks := s.toks + 1 }) I.kIn J c n ?_)
  refine wpAny_bind (wpAny_pure (wpAny_bind (wpAny_bind (wpAny_loadPart hx (wpAny_bind ((PySem.W.looks_clsIn (M := model X.prog X.w) I.kIn hc).here (s := { s with toks := s.toks + 1 }) ?_))))))
  rw [hd]
  have hp : s.heap.objs.size ≠ x := Nat.ne_of_gt (Heap.lt_size hx)
  have hx1 : (s.heap.push { cls := .type "dict", data := .dict #[] }).get? x = some (XObj C none #[.ref t, .none, .none, .none, .bool false, .none]) := Heap.get?_push_of_some _ hx
  have d1 : (s.heap.push { cls := .type "dict", data := .dict #[] }).get? s.heap.objs.size = some { cls := .type "dict", data := .dict #[] } := Heap.get?_push_size _ rfl
  have n1 : ∀ {hh : Heap}, hh.get? s.heap.objs.size = some { cls := .type "dict", data := .dict #[] } → hh.Ns1 s.heap.objs.size (fun _ => none) := fun q => Heap.Ns1.of_empty ⟨_, #[], _, q, rfl, fun e he => absurd he (by simp), fun _ => rfl⟩
  have I1 : Inv X pins σ (upd H s.heap.objs.size (excD s.heap.objs.size [])) { s with heap := s.heap.push { cls := .type "dict", data := .dict #[] }, toks := s.toks + 1 } :=
    I.laid (t' := s.toks + 1) (fun b o q => Heap.get?_push_of_some _ q) (Nat.le_refl _) (excD_ok (n1 d1) fun g => True.intro)
  refine wpAny_bind (wpAny_alloc' ?_)
  refine wpAny_bind (wpAny_update' hx1 ?_)
  have hx2 := Heap.get?_update_self (fun o : Obj => ({ o with dict := some s.heap.objs.size } : Obj)) hx1 rfl
  have ot : ∀ b, b ≠ x → ((s.heap.push { cls := .type "dict", data := .dict #[] }).update x fun o => { o with dict := some s.heap.objs.size }).get? b = (s.heap.push { cls := .type "dict", data := .dict #[] }).get? b := fun b hb => Heap.get?_update_other _ _ (Ne.symm hb)
  have e1 : upd H s.heap.objs.size (excD s.heap.objs.size []) x = some (excRaw x C) := (upd_ne (Ne.symm hp)).trans e
  have I2 : Inv X pins σ (upd (upd H s.heap.objs.size (excD s.heap.objs.size [])) x (excNew x C s.heap.objs.size)) { s with heap := (s.heap.push { cls := .type "dict", data := .dict #[] }).update x fun o => { o with dict := some s.heap.objs.size }, toks := s.toks + 1 } :=
    I1.write (t' := s.toks + 1) (x := x) (e := x) (by rw [e1]; exact True.intro) (.inl rfl) (fun b o hb q => (ot b hb).trans q) ⟨_, hx2⟩ (excNew_ok hx2)
  refine wpAny_pure (wpAny_bind (wpAny_pure (wpAny_bind ?_)))
  refine wpAny_nsSet1 (n1 ((ot _ hp).trans d1)) fun h' hn' hs => ?_
  obtain ⟨oD, esD, epD, hoD, hdD, hcD⟩ := hn'.count (PySem.Within.cons f u PySem.Within.nil)
  refine wpAny_bind (wpAny_lookBehind hoD (by rw [hdD]; exact pastItsLine_dict (Nat.le_trans hcD (by rw [List.length_cons, List.length_nil, sizeLine_eq]; omega))) ?_)
  refine wpAny_pure (h _ s.heap.objs.size (I.hok.fresh (Nat.le_refl _)) hp ?_)
  rw [← upd_swap (a := excD s.heap.objs.size []) hp]
  refine I2.write (x := s.heap.objs.size) (e := s.heap.objs.size) (by rw [upd_ne hp, upd_same]; exact True.intro) (.inl rfl) (fun b o hb q => (hs.2 b hb).trans q) ⟨_, hoD⟩ (excD_ok hn' fun g => ?_)
  by_cases q : g = f
  · have qb : (g == f) = true := beq_iff_eq.mpr q
    simp only [List.lookup, qb, if_pos q]
    exact ry
  · have qb : (g == f) = false := beq_eq_false_iff_ne.mpr q
    simp only [List.lookup, qb, if_neg q]
    exact True.intro
end
end L2

namespace L2
open PySem PySem.Spec PyProof.Rows
section
variable {X : Cx} {pins : List (Addr × Obj)} {σ : St} {H : Hp} {s : Shared} {x C d : Addr} {fs : List (Str × V)} {f : Str} {v y : V} {u : Value} {A : Around} {E : Value → Shared → Prop}
theorem excN_ne {h : Heap} {P : Program} {w : World} (ok : HOk P w H h) (e : H x = some (excNew x C d)) (e2 : H d = some (excD d fs)) : d ≠ x := fun z => by
  subst z
  obtain ⟨t, a⟩ := excNew_of ok e
  obtain ⟨mA, ⟨o, es, ep, b, q, _⟩, _⟩ := excD_of ok e2
  rw [a] at b; cases b; cases q
/-- a further field -/
theorem setx1 {Q : Unit → Shared → Prop} (I : Inv X pins σ H s) (e : H x = some (excNew x C d)) (e2 : H d = some (excD d fs)) (hl : fs.length < 1000) (c : XCls X.K C) (n : NoAttr X.K C f) (ry : RelV y u)
    (h : ∀ s', Inv X pins σ (upd H d (excD d (putF f y fs))) s' → Q () s') : wpAny (model X.prog X.w) A (setAttr (.ref x) f u) Q E s := by
  have ne := excN_ne I.hok e e2
  obtain ⟨vs, hx⟩ := excNew_of I.hok e
  obtain ⟨mA, nA, rA⟩ := excD_of I.hok e2
  obtain ⟨cd, hc, ho, hd⟩ := c.ov
  have J : PySem.W.InstAt s.heap x (XObj C (some d) #[.ref vs, .none, .none, .none, .bool false, .none]) C (some (Classical.choose nA)) := ⟨hx, rfl, rfl, let ⟨_, _, q, _⟩ := Classical.choose_spec nA; q⟩
  refine PySem.W.set_plain I.kIn J c.sa (osa_x (s := { s with toks := s.toks + 1 }) I.kIn J c n ?_)
  refine wpAny_bind (wpAny_pure (wpAny_bind (wpAny_bind (wpAny_loadPart hx (wpAny_bind ((PySem.W.looks_clsIn (M := model X.prog X.w) I.kIn hc).here (s := { s with toks := s.toks + 1 }) ?_))))))
  rw [hd]
  refine wpAny_pure (a := some d) (wpAny_bind (wpAny_pure (wpAny_bind ?_)))
  refine wpAny_nsSet1 (s := { s with toks := s.toks + 1 }) nA fun h' hn' hs => ?_
  have wi : PySem.Within mA (fs.map (·.1)) := fun z hz => by
    have r := rA z
    cases q : fs.lookup z with
    | none => rw [q] at r; exact absurd (RelO.none_of r) hz
    | some a => exact List.mem_map.mpr ⟨(z, a), PySem.mem_of_lookup q, rfl⟩
  obtain ⟨oD, esD, epD, hoD, hdD, hcD⟩ := hn'.count (PySem.Within.cons f u wi)
  refine wpAny_bind (wpAny_lookBehind hoD (by rw [hdD]; exact pastItsLine_dict (Nat.le_trans hcD (by rw [List.length_cons, List.length_map, sizeLine_eq]; omega))) ?_)
  refine wpAny_pure (h _ ?_)
  refine I.write (x := d) (e := d) (by rw [e2]; exact True.intro) (.inl rfl) (fun b o hb q => (hs.2 b hb).trans q) ⟨_, hoD⟩ (excD_ok hn' fun g => ?_)
  rw [lookup_putF]
  by_cases q : g = f
  · rw [if_pos q, if_pos q]; exact ry
  · rw [if_neg q, if_neg q]; exact rA g
/-- a field read -/
theorem getx {b : Bool} {Q : Value → Shared → Prop} (I : Inv X pins σ H s) (e : H x = some (excO x C d)) (e2 : H d = some (excD d fs)) (c : XCls X.K C) (n : NoAttr X.K C f) (l : fs.lookup f = some v)
    (h : ∀ u s', Inv X pins σ H s' → RelV v u → Q u s') : wpAny (model X.prog X.w) A (getAttr (.ref x) f b) Q E s := by
  obtain ⟨vs, hx⟩ := excO_of I.hok e
  obtain ⟨mA, nA, rA⟩ := excD_of I.hok e2
  obtain ⟨cd, hc, ho, hd⟩ := c.ov
  obtain ⟨od, hod, lk⟩ := lookIn_ns nA
  obtain ⟨u, hu, ru⟩ := RelO.some_of (v := v) (o := mA f) (by rw [← l]; exact rA f)
  have J : PySem.W.InstAt s.heap x (XObj C (some d) vs) C (some od) := ⟨hx, rfl, rfl, hod⟩
  have hf : PySem.W.findObj X.K C (some od) f = some (.value u) := PySem.W.findObj_own (by unfold PySem.W.hasDictIn; rw [hc]; exact hd) n rfl (by rw [lk, hu])
  have Z := h u { s with toks := s.toks + 1 } (I.tok _) ru
  have KI := I.kIn
  obtain ⟨hh, g, dr, t, os⟩ := s
  have L0 := J.type (M := model X.prog X.w)
  have L1 := PySem.W.looks_findIn (M := model X.prog X.w) KI c.ga
  have L2 := PySem.W.looks_findIn (M := model X.prog X.w) KI c.gh
  have L3 := PySem.W.looks_find (M := model X.prog X.w) KI J hf
  have sub : PySem.W.Looks (model X.prog X.w) hh (isInstance (.ref x) (.type "BaseException")) true := L0.andThen (PySem.W.looks_mroIn KI c.isExc)
  have hb0 : (onTheHeap (Value.ref C) && Value.builtin "BaseException.__getattribute__" == Value.builtin "object.__getattribute__") = false := by
    rw [show (Value.builtin "BaseException.__getattribute__" == Value.builtin "object.__getattribute__") = false from by decide +kernel, Bool.and_false]
  unfold getAttr getAttrBy
  refine wpAny_bind (wpAny_mkText (wpAny_holding (wpAny_bind (L0.at (wpAny_bind (L1.at ?_))))))
  dsimp only
  rw [hb0]
  rw [if_neg Bool.false_ne_true]
  unfold getAttrByItsOwn hookBefore
  refine wpAny_bind ?_
  rw [if_pos (show onTheHeap (Value.ref C) = true from rfl)]
  refine L2.at ?_
  refine wpAny_bind (wpAny_attempt (wpAny_holding ?_))
  have hb1 : (b && onTheHeap (Value.builtin "BaseException.__getattribute__")) = false := by cases b <;> rfl
  unfold callGetattribute
  rw [hb1, if_neg Bool.false_ne_true]
  unfold boundAndCalled
  refine wpAny_bind (wpAny_of_eq (F.attrBase_ValueError.ga.bind (.ref x)) ?_)
  refine wpAny_call (codeAny_call_builtin F.attrBase_ValueError.ga.plain F.entry_bexc_ga (@PySem.W.check_slot (model X.prog X.w) _ _ ⟨hh, g, dr, t + 1, os⟩ "BaseException.__getattribute__" "BaseException" "__getattribute__" (.ref x) [.str f t] [] _ (by decide +kernel) (by decide +kernel) sub (F.args_bexc_ga (.ref x) (.str f t)) ?_))
  refine wpAny_bind (wpAny_pure (wpAny_bind (wpAny_pure (wpAny_bind (L0.at (wpAny_bind (L3.at ?_)))))))
  refine wpAny_pure ?_
  show wpAny _ _ (handedOut u) _ _ _
  rw [PySem.W.handedOut_of (handed_of ru)]
  exact wpAny_pure Z
end
end L2

namespace L2
open PySem PySem.Spec PyProof.Rows
def xclIn (K : PySem.W.Frag) (C : Addr) : Bool := xcIn K C && PySem.W.findIn K (.ref C) "__class__" == some (some (.builtin "object.__class__")) && PySem.W.specialIn K (.builtin "object.__class__") "__get__" == some (some (.builtin "getset_descriptor.__get__")) && PySem.W.takesIn K (.builtin "object.__class__") == some true
structure XCl (K : PySem.W.Frag) (C : Addr) : Prop where
  cls : XCls K C
  ca : PySem.W.findIn K (.ref C) "__class__" = some (some (.builtin "object.__class__"))
  cg : PySem.W.specialIn K (.builtin "object.__class__") "__get__" = some (some (.builtin "getset_descriptor.__get__"))
  ct : PySem.W.takesIn K (.builtin "object.__class__") = some true
theorem xclIn_of {K : PySem.W.Frag} {C : Addr} (h : xclIn K C = true) : XCl K C := by
  unfold xclIn at h
  simp only [Bool.and_eq_true, beq_iff_eq] at h
  exact ⟨xcIn_of h.1.1.1, h.1.1.2, h.1.2, h.2⟩
section
variable {prog : Program} {w : World} {A : Around} {E : Value → Shared → Prop} {s : Shared} {K : PySem.W.Frag} {x C : Addr} {ox od : Obj}
end
/-- an exception: its class, its fields -/
def IsX (H : Hp) (x C : Addr) (fs : List (Str × V)) : Prop := ∃ d, H x = some (excO x C d) ∧ H d = some (excD d fs)
section
variable {X : Cx} {pins : List (Addr × Obj)} {σ : St} {H : Hp} {s : Shared} {A : Around} {E : Value → Shared → Prop} {Q : Value → Shared → Prop} {c : Value} {b : Bool}
end
end L2

namespace L2
open PySem PySem.Spec PyProof.Rows
def HasX (P : Program) (w : World) (K : PySem.W.Frag) (mg : Str → Option Value) (base : Heap) (k : Nat) (x : Str) (ps : List Str) (sp : Sp) : Prop :=
  ∃ f fd, mg x = some (.ref f) ∧ PySem.W.keepIn K (.ref f) = true ∧ Binds K fd ps [] ∧ FnOk P w K mg base (CX1 P w) k f fd ps sp
def tCallX (sp : Sp) (R : St → XK) (t : TA) : TE := fun σ H Q => t σ H fun vs H1 => sp vs H1 Q (R σ)
theorem passN {X : Cx} (h : ∀ (e : Value) (s : Shared), X.xe e s = False) : PassX X (fun _ _ _ _ => False) := fun _ _ _ ⟨_, _, _, _, _, _, _, _, z⟩ => z.elim
section
variable {X : Cx} {k : Nat} {f C : Addr} {fd : FuncData} {ps : List Str} {sp : Sp} {R : St → XK} {x : Str} {p pos : Pos} {e : Expr} {es : List Expr} {t : TA} {pins : List (Addr × Obj)} {σ : St} {H : Hp} {s : Shared} {Q : VK} {us : List Value} {vs : List V}
theorem run_fnX (F : FnOk X.prog X.w X.K X.mg X.base (CX1 X.prog X.w) k f fd ps sp) (hr : Room k X.A) (hb : Binds X.K fd ps []) (hx : PassX X R) (I : Inv X pins σ H s) (r : Vals vs us) (h : sp vs H Q (R σ)) :
    wpAny (model X.prog X.w) X.A (call (.ref f) us) (EP X pins σ Q) X.xe s := by
  have hl : (us ++ []).length = ps.length := by rw [List.append_nil, ← r.length]; exact F.len _ _ _ _ h
  have bd := hb s us I.kIn hl
  rw [List.append_nil] at bd
  refine wpAny_call (codeAny_mono (F.run X.A X.stack s H ⟨us, []⟩ us vs Q (R σ) hr I.env0 bd r h) fun rr s' hq => ?_)
  cases rr with
  | error e => exact hx pins e s' (xe_call I hq)
  | ok fl =>
    cases fl with
    | ret u => exact I.after hq
    | next => exact False.elim hq
    | brk => exact False.elim hq
    | cont => exact False.elim hq
theorem pe_callX (F : HasX X.prog X.w X.K X.mg X.base k x ps sp) (hr : Room k X.A) (hg : Gl X x) (hx : PassX X R) (ha : PA X (e :: es) t) (hdb : (x == ("__debug__" : Str)) = false)
    (he : starEach (e :: es) X.env = (false, eval e X.env) :: starEach es X.env) (hpl : (backTo pos (starEach es X.env)).any (·.1) = false) : PE X (.Call (.Name x p) (e :: es) [] pos) (tCallX sp R t) := by
  obtain ⟨f, fd, a, b, c, d⟩ := F
  intro pins s σ H Q I h
  refine wpAny_Call_Name_kw (ld_glob I hg a ?_ hdb)
  refine PySem.W.callWith_K (h₀ := X.base) I.ok.mod.kin b (thn (ha pos pins s σ H _ I h) fun us s1 ⟨vs, H1, I1, r, q⟩ => ⟨I1.kIn, ?_⟩) he hpl
  exact run_fnX d hr c hx I1 r q
def sFldX (K : PySem.W.Frag) (ta tv : TE) (f : Str) : TS := fun D σ H => tv σ H fun y H1 => ta σ H1 fun x H2 => ∃ a C, x = .ref a ∧ XCls K C ∧ NoAttr K C f ∧
  ((H2 a = some (excRaw a C) ∧ ∀ d, H2 d = none → d ≠ a → D.nx σ (upd (upd H2 a (excNew a C d)) d (excD d [(f, y)]))) ∨
   (∃ d fs, H2 a = some (excNew a C d) ∧ H2 d = some (excD d fs) ∧ fs.length < 1000 ∧ D.nx σ (upd H2 d (excD d (putF f y fs)))))
theorem ps_fldX {o value : Expr} {ta tv : TE} {fn : Str} {pos' : Pos} (ha : PE X o ta) (hv : PE X value tv) (hs : swapsWith value (some (.Attribute o fn pos')) pos.line X.env = pure false) : PS X (.Assign [.Attribute o fn pos'] value pos) (sFldX X.K ta tv fn) := by
  intro pins s σ H D I h
  refine plainObj_wpAny_Assign_Attribute (thn (hv pins s σ H _ I h) fun u s1 ⟨y, H1, I1, ry, q⟩ => thn (ha pins s1 σ H1 _ I1 q) fun ov s2 ⟨x, H2, I2, rx, a, C, ex, c, n, q2⟩ => ?_) hs
  subst ex
  obtain rfl : ov = Value.ref a := rx
  rcases q2 with ⟨e, q2⟩ | ⟨d, fs, e, e2, hl, q2⟩
  · exact setx0 I2 e c n ry fun s3 d z1 z2 I3 => ⟨σ, _, I3, q2 d z1 z2⟩
  · exact setx1 I2 e e2 hl c n ry fun s3 I3 => ⟨σ, _, I3, q2⟩
def tFldX (K : PySem.W.Frag) (ta : TE) (f : Str) : TE := fun σ H Q => ta σ H fun x H1 => ∃ a C fs v, x = .ref a ∧ IsX H1 a C fs ∧ XCls K C ∧ NoAttr K C f ∧ fs.lookup f = some v ∧ Q v H1
theorem pe_fldX {ta : TE} {fn : Str} (he : PE X e ta) (hb : attributeBase e fn X.env (eval e X.env) = eval e X.env) : PE X (.Attribute e fn pos) (tFldX X.K ta fn) := by
  intro pins s σ H Q I h
  refine attr_of hb (thn (he pins s σ H _ I h) fun u s1 ⟨x, H1, I1, rx, a, C, fs, v, ex, ⟨d, e1, e2⟩, c, n, l, q⟩ => ?_)
  subst ex
  obtain rfl : u = Value.ref a := rx
  exact getx I1 e1 e2 c n l fun u2 s2 I2 ru => ⟨v, H1, I2, ru, q⟩
/-- the __init__ of an exception class: it sets the fields fl -/
def spInit (C : Addr) (fl : List Str) : Sp := fun vs H Q E => ∃ x ws, vs = .ref x :: ws ∧ ws.length = fl.length ∧ H x = some (excRaw x C) ∧ ∀ d, H d = none → d ≠ x → Q .non (upd (upd H x (excNew x C d)) d (excD d (fl.zip ws)))
structure XMk (P : Program) (w : World) (K : PySem.W.Frag) (mg : Str → Option Value) (base : Heap) (k : Nat) (x : Str) (C : Addr) (fl : List Str) : Prop where
  at_ : mg x = some (.ref C)
  cl : XCl K C
  kp : PySem.W.keepIn K (.ref C) = true
  na : ∀ f ∈ fl, NoAttr K C f
  run : ∃ f fd ps, PySem.W.findIn K (.ref C) "__init__" = some (some (.ref f)) ∧ PySem.W.typeIn K (.ref f) = some (.type "function") ∧ Binds K fd ps [] ∧ FnOk P w K mg base CX0 k f fd ps (spInit C fl)
def tRaise (C : Addr) (fl : List Str) (R : St → XK) (t : TA) : TS := fun _ σ H => t σ H fun vs H1 => vs.length = fl.length ∧ vs.length ≤ sizeLine ∧ ∀ x H2, Same H1 H2 → IsX H2 x C (fl.zip vs) → R σ (.ref C) (some x) H2
theorem made_x {Q : Value → Shared → Prop} {E : Value → Shared → Prop} {fl : List Str} (M : XMk X.prog X.w X.K X.mg X.base k x C fl) (hr : Room (k + 1) X.A) (I : Inv X pins σ H s) (r : Vals vs us) (hl : vs.length = fl.length) (hz : vs.length ≤ sizeLine)
    (q : ∀ a d s', H a = none → H d = none → d ≠ a → Inv X pins σ (upd (upd (upd H a (excRaw a C)) a (excNew a C d)) d (excD d (fl.zip vs))) s' → Q (.ref a) s') : wpAny (model X.prog X.w) X.A (call (.ref C) us) Q E s := by
  obtain ⟨f, fd, ps, hi, hf, hb, F⟩ := M.run
  refine call_x I.kIn M.cl.cls.xi hi hf (by rw [← r.length]; exact hz) ?_
  have I1 : Inv X pins σ H { s with heap := s.heap.push { cls := .type "tuple", data := .seq us.toArray } } := I.kept (t' := s.toks) fun b o e => Heap.get?_push_of_some _ e
  have sz1 : (s.heap.push { cls := .type "tuple", data := .seq us.toArray }).objs.size = s.heap.objs.size + 1 := Heap.size_push _ _
  have hfr : H (s.heap.objs.size + 1) = none := I.hok.fresh (Nat.le_succ _)
  have gx : ((s.heap.push { cls := .type "tuple", data := .seq us.toArray }).push (XObj C none #[.ref s.heap.objs.size, .none, .none, .none, .bool false, .none])).get? (s.heap.objs.size + 1) = some (XObj C none #[.ref s.heap.objs.size, .none, .none, .none, .bool false, .none]) := by
    rw [← sz1]; exact Heap.get?_push_size _ rfl
  have I2 : Inv X pins σ (upd H (s.heap.objs.size + 1) (excRaw (s.heap.objs.size + 1) C)) { s with heap := (s.heap.push { cls := .type "tuple", data := .seq us.toArray }).push (XObj C none #[.ref s.heap.objs.size, .none, .none, .none, .bool false, .none]) } :=
    I1.laid (t' := s.toks) (fun b o e => Heap.get?_push_of_some _ e) (by show (s.heap.push _).objs.size ≤ _; rw [sz1]; exact Nat.le_refl _) ⟨⟨_, gx⟩, ⟨_, gx⟩, fun h1 h2 ⟨t, z⟩ kk => ⟨t, kk _ z⟩⟩
  have r2 : Vals (V.ref (s.heap.objs.size + 1) :: vs) (Value.ref (s.heap.objs.size + 1) :: us) := .cons rfl r
  have sp0 : spInit C fl (V.ref (s.heap.objs.size + 1) :: vs) (upd H (s.heap.objs.size + 1) (excRaw (s.heap.objs.size + 1) C)) (fun v H2 => v = .non ∧ ∃ d, H d = none ∧ d ≠ s.heap.objs.size + 1 ∧ H2 = upd (upd (upd H (s.heap.objs.size + 1) (excRaw (s.heap.objs.size + 1) C)) (s.heap.objs.size + 1) (excNew (s.heap.objs.size + 1) C d)) d (excD d (fl.zip vs))) E0 :=
    ⟨_, _, rfl, hl, upd_same, fun d hd ne => ⟨rfl, d, by rw [upd_ne ne] at hd; exact hd, ne, rfl⟩⟩
  have hl2 : ((Value.ref (s.heap.objs.size + 1) :: us) ++ []).length = ps.length := by rw [List.append_nil, ← r2.length]; exact F.len _ _ _ _ sp0
  have bd := hb _ (Value.ref (s.heap.objs.size + 1) :: us) I2.kIn hl2
  rw [List.append_nil] at bd
  refine wpAny_call (codeAny_mono (F.run _ X.stack _ _ ⟨Value.ref (s.heap.objs.size + 1) :: us, []⟩ (Value.ref (s.heap.objs.size + 1) :: us) _ _ E0 (hr.make C us []) (I2.env0.make C us []) bd r2 sp0) fun rr s' hq => ?_)
  cases rr with
  | error e => exact False.elim hq
  | ok fl =>
    cases fl with
    | ret u =>
      obtain ⟨v, H', I3, rv, ev, d, hd, ne, eH⟩ := I2.after hq
      subst ev
      rw [eH] at I3
      exact ⟨rv, q _ d s' hfr hd ne I3⟩
    | next => exact False.elim hq
    | brk => exact False.elim hq
    | cont => exact False.elim hq
/-- thrown, just made -/
theorem thrown {env : Env} {C : Addr} {Q : Flow → Shared → Prop} {m : Sem Value} (hc : X.calm = true) (c : XCl X.K C) (hx : PassX X R)
    (h : wpAny (model X.prog X.w) X.A m (fun v s1 => ∃ x d H1, v = .ref x ∧ Inv X pins σ H1 s1 ∧ H1 x = some (excNew x C d) ∧ R σ (.ref C) (some x) (upd H1 x (excO x C d))) X.xe s) :
    wpAny (model X.prog X.w) X.A (raiseStmt env (some m) none) Q X.xe s := by
  obtain ⟨nm, qn, N, bs, bm, sn, sub, ab, col, dd, k0, k1, k2, k3, k5, lk0, tl⟩ := xIn_of c.cls.xi
  unfold raiseStmt
  refine wpAny_bind (thn h fun v s1 ⟨x, d, H1, ev, I1, e1, r1⟩ => ?_)
  subst ev
  have KI := I1.kIn
  obtain ⟨t, he⟩ := excNew_of I1.hok e1
  have hh : X.A.handled = none := I1.ok.hd hc
  have hcB : (Value.ref C :: bm).contains (.type "BaseException") = true := by
    rw [List.contains_cons, (tl _ KI).hasType (show VEm.contains (.type "BaseException") = true from by decide)]; rfl
  have fin : X.xe (.ref x) s1 := by
    have I2 : Inv X pins σ (upd H1 x (excO x C d)) s1 := I1.write (t' := s1.toks) (x := x) (e := x) (h' := s1.heap) (by rw [e1]; exact True.intro) (.inl rfl) (fun b o _ z => z) ⟨_, he⟩ (excO_ok he)
    exact hx pins _ s1 ⟨x, C, d, σ, _, rfl, I2, ⟨upd_same, .inl ⟨_, he, rfl⟩⟩, r1⟩
  have hD := KI _ _ lk0
  obtain ⟨hp, g, dr, tk, os⟩ := s1
  unfold XObj at he
  repeat (first | with_reducible refine wpAny_loadPart_at he ?_ | with_reducible refine wpAny_loadPart_at hD ?_ | (with_reducible refine wpAny_isSubtype_exc hD ?_; rw [hcB]) | wp_step)
  exact wpAny_raiseNew_none hh fin
end
end L2

namespace L2
open PySem PySem.Spec PyProof.Rows
section
variable {X : Cx} {k : Nat} {C : Addr} {R : St → XK} {x : Str} {p cpos pos : Pos} {e : Expr} {es : List Expr} {t : TA} {fl : List Str}
theorem raised_heap {H : Hp} {a d : Addr} {vs : List V} (ha : H a = none) (hd : H d = none) (ne : d ≠ a) : Same H (upd (upd (upd (upd H a (excRaw a C)) a (excNew a C d)) d (excD d (fl.zip vs))) a (excO a C d)) ∧
    IsX (upd (upd (upd (upd H a (excRaw a C)) a (excNew a C d)) d (excD d (fl.zip vs))) a (excO a C d)) a C (fl.zip vs) := by
  refine ⟨fun b o h => ?_, d, upd_same, by rw [upd_ne ne, upd_same]⟩
  have na : b ≠ a := fun z => by rw [z, ha] at h; cases h
  have nd : b ≠ d := fun z => by rw [z, hd] at h; cases h
  rw [upd_ne na, upd_ne nd, upd_ne na, upd_ne na]
  exact h
/-- raise C(e, ..) -/
theorem ps_raise (M : XMk X.prog X.w X.K X.mg X.base k x C fl) (hr : Room (k + 1) X.A) (hc : X.calm = true) (hg : Gl X x) (hx : PassX X R) (ha : PA X (e :: es) t) (hdb : (x == ("__debug__" : Str)) = false)
    (he : starEach (e :: es) X.env = (false, eval e X.env) :: starEach es X.env) (hpl : (backTo cpos (starEach es X.env)).any (·.1) = false) : PS X (.Raise (some (.Call (.Name x p) (e :: es) [] cpos)) none pos) (tRaise C fl R t) := by
  intro pins s σ H D I h
  rw [arm_exec_Raise]
  refine wpAny_bind (wpAny_standAt (thrown (pins := pins) (σ := σ) (C := C) hc M.cl hx (wpAny_bind (thn (Q := fun v s1 => ∃ x d H1, v = .ref x ∧ Inv X pins σ H1 s1 ∧ H1 x = some (excNew x C d) ∧ R σ (.ref C) (some x) (upd H1 x (excO x C d))) ?_ fun v s3 h3 => wpAny_bind (wpAny_standAt (wpAny_pure h3))))))
  refine wpAny_Call_Name_kw (ld_glob I hg M.at_ ?_ hdb)
  refine PySem.W.callWith_K (h₀ := X.base) I.ok.mod.kin M.kp (thn (ha cpos pins s σ H _ I h) fun us s1 ⟨vs, H1, I1, r, hl, hz, q⟩ => ⟨I1.kIn, ?_⟩) he hpl
  refine made_x M hr I1 r hl hz fun a d s2 z1 z2 ne I2 => ⟨a, d, _, rfl, I2, ?_, ?_⟩
  · rw [upd_ne (Ne.symm ne), upd_same]
  · obtain ⟨w1, w2⟩ := raised_heap (C := C) (fl := fl) (vs := vs) z1 z2 ne
    exact q a _ w1 w2
theorem PS.nox {st : Stmt} {t : TS} (h : PS X.nox st t) : PS X st t := fun pins s σ H D I hw =>
  wpAny_mono (h pins s σ H D (I.wish _) hw) (fun _ _ q => q.unwish) fun _ _ z => False.elim z
end
section
variable {X : Cx} {pins : List (Addr × Obj)} {σ σ' : St} {H : Hp} {s : Shared} {h' : Heap}
theorem Inv.reloc {t' : Nat} (I : Inv X pins σ H s) (hs : Heap.SameBut X.env.locals s.heap h') (len : σ'.length = σ.length)
    (l : ∃ m', h'.Ns X.env.locals m' ∧ ∀ (i : Nat) (x : Str) (v : V), X.N[i]? = some x → σ'[i]? = some (some v) → Vis X.env.scope x → ∃ u, RelV v u ∧ Look X.env h' m' x u) : Inv X pins σ' H { s with heap := h', toks := t' } := by
  have cne := I.cne
  obtain ⟨mm, ⟨oL, _, _, hoL, _⟩, _⟩ := id I.loc
  have away : ∀ b o, X.s₀.heap.get? b = some o → b ≠ X.env.locals := fun b o e => Nat.ne_of_lt (Nat.lt_of_lt_of_le (Heap.lt_size e) I.ok.above)
  refine ⟨I.ok, I.os, I.bare, ⟨fun b o e n hb hx => (hs.2 b (away b o e)).trans (I.base.keep b o e n hb hx), fun b o e n hb hx => ?_, I.base.free, fun b o e hx => ?_, I.base.tups, I.base.frzs, I.base.tbls⟩, l, fun y c e => ?_, I.free, I.freeC, fun q hq => ?_, fun b ob e => ?_, len.trans I.len⟩
  · obtain ⟨sl, e1⟩ := I.base.slot b o e n hb hx
    exact ⟨sl, (hs.2 b (away b o e)).trans e1⟩
  · obtain ⟨o2, e1⟩ := I.base.there b o e hx
    exact ⟨o2, (hs.2 b (away b o e)).trans e1⟩
  · obtain ⟨w2, z⟩ := I.cell y c e
    exact ⟨w2, z.sameBut hs (cne y c e)⟩
  · obtain ⟨e, n, ne, nf, d⟩ := I.pin q hq
    exact ⟨(hs.2 q.1 ne).trans e, n, ne, nf, d⟩
  · refine (I.hok b ob e).stay (fun c w2 hc q => (hs.2 c ?_).trans q) (fun _ q => q) fun _ _ q => q
    rintro rfl
    rcases hc with rfl | hc
    · rw [I.free] at e; cases e
    · rw [I.free] at hc; cases hc
theorem name_goes {A : Around} {E : Value → Shared → Prop} {i : Nat} {n : Str} {pos : Pos} {Q : Unit → Shared → Prop} (I : Inv X pins σ H s) (hN : X.N.Nodup) (hi : X.N[i]? = some n) (hl : X.env.scope.names.lookup n = some .local)
    (h : ∀ s', Inv X pins (σ.set i none) H s' → Q () s') : wpAny (model X.prog X.w) A (do bindName X.env n .none; unbindBehindTheSuite X.env n pos) Q E s := by
  have hcls : (X.env.scope.kind == .class || (X.env.scope.kind == .module && X.env.locals != X.env.globals)) = false := by rw [I.ok.kind]; rfl
  have hk : X.env.kindOf n = some .local := hl
  refine wpAny_bind (wpAny_bindName (store_ok (v := .non) I hN hi (.inl hl) rfl (fun s1 I1 => ?_) (.inr hl)))
  obtain ⟨m1, hn1, hl1⟩ := id I1.loc
  have hiσ : i < σ.length := by rw [I.len]; exact (List.getElem?_eq_some_iff.mp hi).1
  obtain ⟨u1, ru1, lk1⟩ := hl1 i n .non hi (by rw [List.getElem?_set_self hiσ]) (.inl hl)
  have m1n : m1 n = some u1 := by
    rcases lk1 with ⟨_, z⟩ | ⟨z | z, _⟩
    · exact z
    · rw [hk] at z; cases z
    · rw [hk] at z; cases z
  unfold unbindBehindTheSuite
  refine wpAny_onRaise ?_
  unfold unbindName
  refine wpAny_bind (wpAny_point (wpAny_bind ?_))
  unfold deleteName
  simp only [hk, hcls]
  rw [if_neg (by decide)]
  refine wpAny_bind (wpAny_nsDel_keeps hn1 fun h2 v2 hn2 hs2 => ?_)
  rw [m1n]
  simp only [if_true, Option.isSome_some, Bool.not_true, Bool.false_eq_true, if_false]
  refine wpAny_pure (wpAny_point (h _ (I1.reloc (t' := s1.toks) hs2 (by rw [List.length_set, List.length_set]) ⟨_, hn2, fun j y v e1 e2 e3 => ?_⟩)))
  have hj : j ≠ i := fun z => by
    subst z
    rw [List.getElem?_set_self hiσ] at e2; cases e2
  rw [List.getElem?_set_ne (Ne.symm hj)] at e2
  obtain ⟨u, r, q⟩ := hl1 j y v e1 (by rw [List.getElem?_set_ne (Ne.symm hj)]; exact e2) e3
  refine ⟨u, r, ?_⟩
  rcases q with ⟨k, z⟩ | ⟨k, c, z1, z2⟩
  · have ny : y ≠ n := fun z => hj (nodup_ix hN e1 (z ▸ hi))
    exact .inl ⟨k, by show (if y = n then v2 else m1 y) = some u; rw [if_neg ny]; exact z⟩
  · exact .inr ⟨k, c, z1, z2.sameBut hs2 (I1.cne y c z1)⟩
end
end L2

namespace L2
open PySem PySem.Spec PyProof.Rows
/-- the context of a suite: the exception at x is being handled; none leaves -/
abbrev Cx.sui (X : Cx) (x : Addr) : Cx := { X with A := X.A.mark (some (.ref x)), calm := false, xe := fun _ _ => False }
/-- the context of a try's body -/
abbrev Cx.bod (X : Cx) (pins : List (Addr × Obj)) (R : St → XK) : Cx := { X with pn := X.pn ++ pins, xe := XE X pins R }
section
variable {X : Cx} {pins pins' : List (Addr × Obj)} {σ : St} {H : Hp} {s : Shared} {x C d T : Addr} {R : St → XK} {D : Ends}
theorem Inv.sui (I : Inv X pins σ H s) (x : Addr) : Inv (X.sui x) pins σ H s :=
  ⟨⟨I.ok.mod, I.ok.kind, I.ok.glob, I.ok.blt, I.ok.above, I.ok.inj, I.ok.has, I.ok.cab, fun h => absurd h Bool.false_ne_true, I.ok.frames, I.ok.stk, I.ok.exf, I.ok.bs, I.ok.bsz, I.ok.noex, I.ok.exfs, I.ok.funs, I.ok.frf⟩, I.os, I.bare, I.base, I.loc, I.cell, I.free, I.freeC, I.pin, I.hok, I.len⟩
theorem Inv.unsui (ok : X.Ok) (I : Inv (X.sui x) pins σ H s) : Inv X pins σ H s := ⟨ok, I.os, I.bare, I.base, I.loc, I.cell, I.free, I.freeC, I.pin, I.hok, I.len⟩
theorem Inv.bod (I : Inv X pins σ H s) (R : St → XK) : Inv (X.bod pins R) [] σ H s :=
  ⟨⟨I.ok.mod, I.ok.kind, I.ok.glob, I.ok.blt, I.ok.above, I.ok.inj, I.ok.has, I.ok.cab, I.ok.hd, I.ok.frames, I.ok.stk, I.ok.exf, I.ok.bs, I.ok.bsz, I.ok.noex, I.ok.exfs, I.ok.funs, I.ok.frf⟩, I.os, I.bare, I.base, I.loc, I.cell, I.free, I.freeC, fun p hp => I.pin p (by simpa using hp), I.hok, I.len⟩
theorem Inv.unbod (I : Inv (X.bod pins R) pins' σ H s) : Inv X pins σ H s :=
  ⟨⟨I.ok.mod, I.ok.kind, I.ok.glob, I.ok.blt, I.ok.above, I.ok.inj, I.ok.has, I.ok.cab, I.ok.hd, I.ok.frames, I.ok.stk, I.ok.exf, I.ok.bs, I.ok.bsz, I.ok.noex, I.ok.exfs, I.ok.funs, I.ok.frf⟩, I.os, I.bare, I.base, I.loc, I.cell, I.free, I.freeC, fun p hp => I.pin p (List.mem_append_left _ hp), I.hok, I.len⟩
theorem SP.unbod {f : Flow} (h : SP (X.bod pins R) pins' D f s) : SP X pins D f s := by
  cases f with
  | next => obtain ⟨σ', H', I, q⟩ := h; exact ⟨σ', H', I.unbod, q⟩
  | brk => obtain ⟨σ', H', I, q⟩ := h; exact ⟨σ', H', I.unbod, q⟩
  | cont => obtain ⟨σ', H', I, q⟩ := h; exact ⟨σ', H', I.unbod, q⟩
  | ret u => obtain ⟨v, σ', H', I, r, q⟩ := h; exact ⟨v, σ', H', I.unbod, r, q⟩
theorem SP.unsui (ok : X.Ok) {f : Flow} (h : SP (X.sui x) pins D f s) : SP X pins D f s := by
  cases f with
  | next => obtain ⟨σ', H', I, q⟩ := h; exact ⟨σ', H', I.unsui ok, q⟩
  | brk => obtain ⟨σ', H', I, q⟩ := h; exact ⟨σ', H', I.unsui ok, q⟩
  | cont => obtain ⟨σ', H', I, q⟩ := h; exact ⟨σ', H', I.unsui ok, q⟩
  | ret u => obtain ⟨v, σ', H', I, r, q⟩ := h; exact ⟨v, σ', H', I.unsui ok, r, q⟩
theorem pass_try : PassX (X.bod pins R) R := by
  intro pins' e s' ⟨x, C, d, σ, H', he, I, ⟨tx, F⟩, r⟩
  refine ⟨x, C, d, σ, H', he, I.unbod, ⟨tx, ?_⟩, r⟩
  rcases F with F | ⟨T, F⟩
  · exact .inl F
  · obtain ⟨a1, a2, a3, a4, a5, a6⟩ := F.fp
    exact .inr ⟨T, F.obj, F.tb, ⟨a1, a2, a3, a4, a5, fun p hp => a6 p (List.mem_append_left _ hp)⟩, F.tr⟩
theorem exc_match {A : Around} {E : Value → Shared → Prop} {P : Addr} {b : Bool} {Q : Bool → Shared → Prop} {vs : Array Value} {M : Model} {K : PySem.W.Frag} (KI : K.In s.heap) (c : XCls K C) (cP : XCls K P) (e : s.heap.get? x = some (XObj C (some d) vs)) (hm : PySem.W.mroIn K C (.ref P) = some b) (h : Q b s) :
    wpAny M A (excMatches (.ref x) (.ref P)) Q E s := by
  obtain ⟨nm, qn, N, bs, bm, sn, sub, ab, col, dd, k0, k1, k2, k3, k5, lk, tl⟩ := xIn_of c.xi
  obtain ⟨nm', qn', N', bs', bm', sn', sub', ab', col', dd', k0', k1', k2', k3', k5', lk', tl'⟩ := xIn_of cP.xi
  have hC := KI _ _ lk
  have hP := KI _ _ lk'
  have hPB : (Value.ref P :: bm').contains (.type "BaseException") = true := by
    rw [List.contains_cons, (tl' _ KI).hasType (show VEm.contains (.type "BaseException") = true from by decide)]; rfl
  have hCP : (Value.ref C :: bm).contains (.ref P) = b := by
    unfold PySem.W.mroIn PySem.W.clsIn at hm
    rw [lk] at hm
    exact Option.some.inj hm
  have f := tc_notTuple
  obtain ⟨hp, g, dr, tk, os⟩ := s
  unfold XObj at e
  unfold excMatches
  by_cases hh : P = C
  · subst hh
    have hb : b = true := by rw [← hCP]; simp
    subst hb
    rw [lk] at lk'
    cases lk'
    repeat (first | with_reducible refine wpAny_loadPart_at e ?_ | with_reducible refine wpAny_loadPart_at hC ?_ | (with_reducible refine wpAny_isSubtype_exc hC ?_; first | rw [hPB] | rw [hCP]) | wp_step)
    exact h
  · repeat (first | with_reducible refine wpAny_loadPart_at e ?_ | with_reducible refine wpAny_loadPart_at hP ?_ | (with_reducible refine wpAny_isSubtype_exc hP ?_; rw [hPB]) | (with_reducible refine wpAny_isSubtype_exc hC ?_; rw [hCP]) | wp_step)
    cases b <;> (wp_walk; exact h)
abbrev TH := Ends → St → Addr → Addr → Hp → Prop
def PH (X : Cx) (hs : List ExceptHandler) (th : TH) : Prop := ∀ (pins : List (Addr × Obj)) (s : Shared) (σ : St) (H : Hp) (D : Ends) (x C d T : Addr), Inv X pins σ H s → Head X pins H x C d T s.heap → th D σ x C H →
  wpAny (model X.prog X.w) X.A (handleBy (.ref x) X.env hs) (SP X pins D) X.xe s
theorem ph_nil : PH X [] (fun _ _ _ _ _ => False) := fun _ _ _ _ _ _ _ _ _ _ _ h => h.elim
/-- what is wanted behind a suite whose name goes -/
def Ends.gone (D : Ends) (i : Nat) : Ends := { nx := fun σ H => D.nx (σ.set i none) H, rt := D.rt, bk := fun σ H => D.bk (σ.set i none) H, ct := fun σ H => D.ct (σ.set i none) H }
def hAs (K : PySem.W.Frag) (P : Addr) (i : Nat) (ts : TS) (th : TH) : TH := fun D σ x C H => ∃ b, XCls K C ∧ PySem.W.mroIn K C (.ref P) = some b ∧ if b = true then ts (D.gone i) (σ.set i (some (.ref x))) H else th D σ x C H
def hNo (K : PySem.W.Frag) (P : Addr) (ts : TS) (th : TH) : TH := fun D σ x C H => ∃ b, XCls K C ∧ PySem.W.mroIn K C (.ref P) = some b ∧ if b = true then ts D σ H else th D σ x C H
variable {nm n : Str} {P : Addr} {i : Nat} {p pos : Pos} {b0 : Stmt} {suite : List Stmt} {ts : TS} {th : TH} {hs : List ExceptHandler}
theorem ph_as (hg : Gl X nm) (hm : X.mg nm = some (.ref P)) (cP : XCls X.K P) (hdb : (nm == ("__debug__" : Str)) = false) (hN : X.N.Nodup) (hi : X.N[i]? = some n) (hl : X.env.scope.names.lookup n = some .local)
    (hsu : ∀ x, PSs (X.sui x) (b0 :: suite) ts) (hr : PH X hs th) : PH X (.ExceptHandler (some (.Name nm p)) (some n) (b0 :: suite) pos :: hs) (hAs X.K P i ts th) := by
  intro pins s σ H D x C d T I F ⟨b, c, mb, q⟩
  obtain ⟨vs, ex, h1⟩ := F.obj
  refine wpAny_handleBy_cons (codeAny_handlers_test (ld_glob (I.sui x) hg hm ?_ hdb)) (fun z => nomatch z)
  refine exc_match I.kIn c cP ex mb ?_
  cases b with
  | false =>
    rw [if_neg Bool.false_ne_true] at q
    exact hr pins s σ H D x C d T I F q
  | true =>
    rw [if_pos rfl] at q
    refine codeAny_handlers_suite_as ?_
    refine fly_land I F fun h2 I2 F2 => ?_
    refine store_ok (X := X.sui x) (v := .ref x) (I2.sui x) hN hi (.inl hl) rfl (fun s3 I3 => ?_) (.inr hl)
    refine wpAny_mono (hsu x pins s3 _ H (D.gone i) I3 q) (fun f s4 w => ?_) fun _ _ z => False.elim z
    cases f with
    | next => obtain ⟨σ', H', J, r⟩ := w; exact name_goes (J.unsui I.ok) hN hi hl fun s5 I5 => ⟨_, H', I5, r⟩
    | brk => obtain ⟨σ', H', J, r⟩ := w; exact name_goes (J.unsui I.ok) hN hi hl fun s5 I5 => ⟨_, H', I5, r⟩
    | cont => obtain ⟨σ', H', J, r⟩ := w; exact name_goes (J.unsui I.ok) hN hi hl fun s5 I5 => ⟨_, H', I5, r⟩
    | ret u => obtain ⟨v, σ', H', J, rv, r⟩ := w; exact name_goes (J.unsui I.ok) hN hi hl fun s5 I5 => ⟨v, _, H', I5, rv, r⟩
theorem ph_no (hg : Gl X nm) (hm : X.mg nm = some (.ref P)) (cP : XCls X.K P) (hdb : (nm == ("__debug__" : Str)) = false) (hsu : ∀ x, PSs (X.sui x) (b0 :: suite) ts) (hr : PH X hs th) :
    PH X (.ExceptHandler (some (.Name nm p)) none (b0 :: suite) pos :: hs) (hNo X.K P ts th) := by
  intro pins s σ H D x C d T I F ⟨b, c, mb, q⟩
  obtain ⟨vs, ex, h1⟩ := F.obj
  refine wpAny_handleBy_cons (codeAny_handlers_test (ld_glob (I.sui x) hg hm ?_ hdb)) (fun z => nomatch z)
  refine exc_match I.kIn c cP ex mb ?_
  cases b with
  | false =>
    rw [if_neg Bool.false_ne_true] at q
    exact hr pins s σ H D x C d T I F q
  | true =>
    rw [if_pos rfl] at q
    refine codeAny_handlers_suite ?_
    refine fly_land I F fun h2 I2 F2 => ?_
    exact wpAny_mono (hsu x pins _ _ H D (I2.sui x) q) (fun f s4 w => w.unsui I.ok) fun _ _ z => False.elim z
/-- try: body except .. -/
def tTry (tb : (St → XK) → TS) (th : TH) : TS := fun D σ H => tb (fun σ' c x H' => ∃ C a, c = .ref C ∧ x = some a ∧ th D σ' a C H') D σ H
theorem ps_try {body : List Stmt} {h0 : ExceptHandler} {tb : (St → XK) → TS} (hst : X.stack = X.env :: X.outer) (hfr : X.env.frame = some X.env.locals) (hb : ∀ (pins : List (Addr × Obj)) (R : St → XK), PSs (X.bod pins R) body (tb R)) (hh : PH X (h0 :: hs) th) :
    PS X (.Try body (h0 :: hs) [] [] pos) (tTry tb th) := by
  intro pins s σ H D I h
  refine wpAny_Try_except (wpAny_mono (hb pins _ [] s σ H D (I.bod _) h) (fun f s1 q => ?_) fun e s1 q => ?_)
  · have q' := q.unbod
    cases f with
    | next => exact wpAny_execs_nil q'
    | brk => exact q'
    | cont => exact q'
    | ret u => exact q'
  · obtain ⟨x, C, d, σ', H', rfl, I1, F1, C', a', eC, ea, r⟩ := q
    cases eC
    cases ea
    refine fly_note I1 hst hfr I1.ok.frames F1 fun h2 T I2 F2 => ?_
    refine fly_land I2 F2 fun h3 I3 F3 => ?_
    exact hh pins _ σ' H' D x C d T I3 F3 r
end
end L2

namespace L2
open PySem PySem.Spec PyProof.Rows
/-- the address of a class of the text -/
def clsA (mg : Str → Option Value) (x : Str) : Addr := match mg x with
  | some (.ref a) => a
  | _ => 0
theorem clsA_of {mg : Str → Option Value} {x : Str} {C : Addr} (h : mg x = some (.ref C)) : clsA mg x = C := by unfold clsA; rw [h]
/-- a class of the text -/
structure CTxt (K : PySem.W.Frag) (mg : Str → Option Value) (x : Str) : Prop where
  at_ : mg x = some (.ref (clsA mg x))
  cl : XCl K (clsA mg x)
theorem ct_mk {K : PySem.W.Frag} {mg : Str → Option Value} {h : Heap} (X : K.In h) (G : h.Ns mainGlobals mg) {x : Str} {C : Addr} (a : PySem.W.nsIn K mainGlobals x = some (some (.ref C))) (b : xclIn K C = true) : CTxt K mg x := by
  have m := PySem.W.mg_of X G a
  have e := clsA_of m
  exact ⟨by rw [e]; exact m, by rw [e]; exact xclIn_of b⟩
/-- .. with an __init__ that sets the fields fl -/
structure XTxt (K : PySem.W.Frag) (mg : Str → Option Value) (x : Str) (fl : List Str) (qual : Str) (st : Stmt) : Prop where
  c : CTxt K mg x
  kp : PySem.W.keepIn K (.ref (clsA mg x)) = true
  na : ∀ f ∈ fl, NoAttr K (clsA mg x) f
  ini : ∃ f fd, PySem.W.findIn K (.ref (clsA mg x)) "__init__" = some (some (.ref f)) ∧ PySem.W.typeIn K (.ref f) = some (.type "function") ∧ Fun K "__init__" qual st f fd
def noneOf (K : PySem.W.Frag) (C : Addr) (fl : List Str) : Bool := fl.all fun n => PySem.W.findIn K (.ref C) n == some none
theorem xt_mk {K : PySem.W.Frag} {mg : Str → Option Value} {h : Heap} (X : K.In h) (G : h.Ns mainGlobals mg) {x qual : Str} {C f : Addr} {fl : List Str} {st : Stmt} {oc : Value} {od an : Option Addr} {osl : Array (Option Value)} {kV doc pm cdv ct : Value}
    (a : PySem.W.nsIn K mainGlobals x = some (some (.ref C))) (b : xclIn K C = true) (kp : PySem.W.keepIn K (.ref C) = true) (na : noneOf K C fl = true)
    (i : PySem.W.findIn K (.ref C) "__init__" = some (some (.ref f))) (t : PySem.W.typeIn K (.ref f) = some (.type "function"))
    (l : K.lookup f = some ⟨oc, od, .func (PySem.W.fnOf "__init__" qual (defArgs st) (defBody st) (defScope st) .none kV doc pm an cdv ct), osl⟩) (c : PySem.W.codeIn K cdv qual = true) (k : PySem.W.keepIn K (.ref f) = true) : XTxt K mg x fl qual st := by
  have m := PySem.W.mg_of X G a
  have e := clsA_of m
  refine ⟨ct_mk X G a b, by rw [e]; exact kp, fun n hn => ?_, f, _, by rw [e]; exact i, t, fun_mk l c k⟩
  rw [e]
  have := List.all_eq_true.mp na n hn
  exact beq_iff_eq.mp this
/-- how two classes stand to each other -/
structure Sub (K : PySem.W.Frag) (mg : Str → Option Value) (x y : Str) (b : Bool) : Prop where
  mro : PySem.W.mroIn K (clsA mg x) (.ref (clsA mg y)) = some b
  one : PySem.W.kitOne K (.ref (clsA mg x)) (.ref (clsA mg y)) = some b
theorem sub_mk {K : PySem.W.Frag} {mg : Str → Option Value} {h : Heap} (X : K.In h) (G : h.Ns mainGlobals mg) {x y : Str} {C P : Addr} {r : Bool} (a : PySem.W.nsIn K mainGlobals x = some (some (.ref C))) (b : PySem.W.nsIn K mainGlobals y = some (some (.ref P)))
    (m : PySem.W.mroIn K C (.ref P) = some r) (o : PySem.W.kitOne K (.ref C) (.ref P) = some r) : Sub K mg x y r := by
  have e := clsA_of (PySem.W.mg_of X G a)
  have e2 := clsA_of (PySem.W.mg_of X G b)
  exact ⟨by rw [e, e2]; exact m, by rw [e, e2]; exact o⟩
structure JH (X : Cx) (hs : List ExceptHandler) (th : TH) : Prop where
  run : PH X hs th
section
variable {X : Cx} {K : PySem.W.Frag} {k : Nat} {x n fn : Str} {ps : List Str} {sp : Sp} {R : St → XK} {p pos cpos pos' : Pos} {e o value : Expr} {es : List Expr} {t : TA} {ta tv : TE} {st : Stmt} {u ts : TS} {th : TH} {hs : List ExceptHandler} {i : Nat}
theorem j_callX (F : HasX X.prog X.w X.K X.mg X.base k x ps sp) (hr : Room k X.A) (hg : Gl X x) (hx : PassX X R) (ha : JA X (e :: es) t) (hdb : (x == ("__debug__" : Str)) = false) (h : (e :: es).all notStar = true := by rfl) :
    JE X (.Call (.Name x p) (e :: es) [] pos) (tCallX sp R t) := by
  have h1 : notStar e = true := by simp only [List.all_cons, Bool.and_eq_true] at h; exact h.1
  have h2 : es.all notStar = true := by simp only [List.all_cons, Bool.and_eq_true] at h; exact h.2
  exact ⟨pe_callX F hr hg hx ha.run hdb (se_cons h1) (se_any h2)⟩
theorem js_nox (h : JS X.nox st u) : JS X st u := ⟨h.run.nox⟩
theorem j_fldX (hK : X.K = K) (he : JE X e ta) (h : notCall e = true := by rfl) : JE X (.Attribute e fn pos) (tFldX K ta fn) := by
  subst hK
  exact ⟨pe_fldX he.run (by cases e <;> first | rfl | cases h)⟩
theorem js_fldX (hK : X.K = K) (ha : JE X o ta) (hv : JE X value tv) (h : notComp value = true := by rfl) : JS X (.Assign [.Attribute o fn pos'] value pos) (sFldX K ta tv fn) := by
  subst hK
  exact ⟨ps_fldX ha.run hv.run (sw_no h)⟩
theorem js_raise {fl : List Str} (M : XMk X.prog X.w X.K X.mg X.base k x (clsA X.mg x) fl) (hr : Room (k + 1) X.A) (hc : X.calm = true) (hg : Gl X x) (hx : PassX X R) (ha : JA X (e :: es) t) (hdb : (x == ("__debug__" : Str)) = false) (h : (e :: es).all notStar = true := by rfl) :
    JS X (.Raise (some (.Call (.Name x p) (e :: es) [] cpos)) none pos) (tRaise (clsA X.mg x) fl R t) := by
  have h1 : notStar e = true := by simp only [List.all_cons, Bool.and_eq_true] at h; exact h.1
  have h2 : es.all notStar = true := by simp only [List.all_cons, Bool.and_eq_true] at h; exact h.2
  exact ⟨ps_raise M hr hc hg hx ha.run hdb (se_cons h1) (se_any h2)⟩
theorem jh_nil : JH X [] (fun _ _ _ _ _ => False) := ⟨ph_nil⟩
theorem jh_as {b0 : Stmt} {suite : List Stmt} (hK : X.K = K) (c : CTxt K X.mg x) (hg : Gl X x) (hdb : (x == ("__debug__" : Str)) = false) (hN : X.N.Nodup) (hi : X.N[i]? = some n) (hl : X.env.scope.names.lookup n = some .local)
    (hsu : ∀ x, JB (X.sui x) (b0 :: suite) ts) (hr : JH X hs th) : JH X (.ExceptHandler (some (.Name x p)) (some n) (b0 :: suite) pos :: hs) (hAs K (clsA X.mg x) i ts th) := by
  subst hK
  exact ⟨ph_as hg c.at_ c.cl.cls hdb hN hi hl (fun x => (hsu x).run) hr.run⟩
theorem jh_no {b0 : Stmt} {suite : List Stmt} (hK : X.K = K) (c : CTxt K X.mg x) (hg : Gl X x) (hdb : (x == ("__debug__" : Str)) = false)
    (hsu : ∀ x, JB (X.sui x) (b0 :: suite) ts) (hr : JH X hs th) : JH X (.ExceptHandler (some (.Name x p)) none (b0 :: suite) pos :: hs) (hNo K (clsA X.mg x) ts th) := by
  subst hK
  exact ⟨ph_no hg c.at_ c.cl.cls hdb (fun x => (hsu x).run) hr.run⟩
theorem js_try {body : List Stmt} {h0 : ExceptHandler} {tb : (St → XK) → TS} (hst : X.stack = X.env :: X.outer) (hfr : X.env.frame = some X.env.locals) (hb : ∀ (pins : List (Addr × Obj)) (R : St → XK), JB (X.bod pins R) body (tb R)) (hh : JH X (h0 :: hs) th) :
    JS X (.Try body (h0 :: hs) [] [] pos) (tTry tb th) := ⟨ps_try hst hfr (fun pins R => (hb pins R).run) hh.run⟩
end
section
variable {P : Program} {w : World} {K : PySem.W.Frag} {mg : Str → Option Value} {base : Heap}
theorem hasJX {x : Str} {st : Stmt} {N ps : List Str} {k : Nat} {sp : Sp} (D : Def K mg x st) (S : FnScope N ps (defScope st))
    (hb : ∀ (kV doc pm : Value) (an : Option Addr) (cdv ct : Value) (us : List Value), us.length = ps.length → bindArgs (PySem.W.fnOf x x (defArgs st) (defBody st) (defScope st) .none kV doc pm an cdv ct) ⟨us, []⟩ = pure (ps.zip us))
    (len : ∀ vs H Q E, sp vs H Q E → vs.length = ps.length)
    (hbody : ∀ (f : Addr) (cdv : Value) (A : Around) (outer : List Env) (s : Shared) (H : Hp) (vs : List V) (Q : VK) (E : XK), Room k (A.deeper (envOfC x (defScope st) s.heap.objs.size f cdv)) → sp vs H Q E →
      ∃ t, JB (cxOf (CX1 P w) P w K mg base N x (defScope st) f cdv A outer s H E) (defBody st) t ∧ t { nx := fun _ H' => Q .non H', rt := Q } (start N vs) H) : HasX P w K mg base (k + 1) x ps sp := by
  obtain ⟨f, fd, F, hm⟩ := D
  refine ⟨f, fd, hm, F.kp, F.binds hb, ?_⟩
  obtain ⟨oc, od, kV, doc, pm, an, cdv, ct, osl, rfl, lk, hcd⟩ := F.ex
  exact fn_of lk hcd S len fun A outer s H vs Q E hr h => let ⟨t, j, q⟩ := hbody f cdv A outer s H vs Q E hr h; ⟨t, j.run, q⟩
/-- the maker of an exception, its __init__ read by its body -/
theorem mkX {x qual : Str} {st : Stmt} {N ps : List Str} {fl : List Str} {k : Nat} (D : XTxt K mg x fl qual st) (S : FnScope N ps (defScope st))
    (hb : ∀ (kV doc pm : Value) (an : Option Addr) (cdv ct : Value) (us : List Value), us.length = ps.length → bindArgs (PySem.W.fnOf "__init__" qual (defArgs st) (defBody st) (defScope st) .none kV doc pm an cdv ct) ⟨us, []⟩ = pure (ps.zip us))
    (hl : ps.length = fl.length + 1)
    (hbody : ∀ (f : Addr) (cdv : Value) (A : Around) (outer : List Env) (s : Shared) (H : Hp) (vs : List V) (Q : VK) (E : XK), Room k (A.deeper (envOfC qual (defScope st) s.heap.objs.size f cdv)) → spInit (clsA mg x) fl vs H Q E →
      ∃ t, JB (cxOf CX0 P w K mg base N qual (defScope st) f cdv A outer s H E).nox (defBody st) t ∧ t { nx := fun _ H' => Q .non H', rt := Q } (start N vs) H) : XMk P w K mg base (k + 1) x (clsA mg x) fl := by
  obtain ⟨f, fd, a, b, F⟩ := D.ini
  refine ⟨D.c.at_, D.c.cl, D.kp, D.na, f, fd, ps, a, b, F.binds hb, F.ok S (fun vs H Q E h => ?_) fun cdv A outer s H vs Q E hr h => let ⟨t, j, q⟩ := hbody f cdv A outer s H vs Q E hr h; ⟨t, j.run, q⟩⟩
  obtain ⟨y, ws, rfl, hw, _⟩ := h
  rw [List.length_cons, hw, hl]
end
end L2

namespace L2
open PySem PySem.Spec PyProof.Rows
def initOf : Stmt → Stmt
  | .ClassDef _ _ _ (s :: _) _ _ _ _ _ _ _ => s
  | s => s
section
variable {σ : St} {H : Hp} {D : Ends} {Q : VK} {sp : Sp} {R : St → XK} {a : TA} {K : PySem.W.Frag} {C P : Addr} {fl : List Str} {th : TH} {ts : TS} {i : Nat} {ta : TE} {f : Str}
theorem r_callX (h : a σ H fun vs H1 => sp vs H1 Q (R σ)) : tCallX sp R a σ H Q := h
theorem r_try {tb : (St → XK) → TS} (h : tb (fun σ' c x H' => ∃ C a, c = .ref C ∧ x = some a ∧ th D σ' a C H') D σ H) : tTry tb th D σ H := h
theorem r_raise (h : a σ H fun vs H1 => vs.length = fl.length ∧ vs.length ≤ sizeLine ∧ ∀ x H2, Same H1 H2 → IsX H2 x C (fl.zip vs) → R σ (.ref C) (some x) H2) : tRaise C fl R a D σ H := h
theorem r_fldX (h : ta σ H fun x H1 => ∃ a C fs v, x = .ref a ∧ IsX H1 a C fs ∧ XCls K C ∧ NoAttr K C f ∧ fs.lookup f = some v ∧ Q v H1) : tFldX K ta f σ H Q := h
theorem r_asT {x C : Addr} (c : XCls K C) (m : PySem.W.mroIn K C (.ref P) = some true) (h : ts (D.gone i) (σ.set i (some (.ref x))) H) : hAs K P i ts th D σ x C H := ⟨true, c, m, by rw [if_pos rfl]; exact h⟩
theorem r_gone (h : D.nx (σ.set i none) H) : (D.gone i).nx σ H := h
theorem rd1 {f1 p0 p1 : Str} {vs : List V} {E : XK} (c : XCls K C) (n : NoAttr K C f1) (h : spInit C [f1] vs H Q E) : sFldX K (tVar 0) (tVar 1) f1 { nx := fun _ H' => Q .non H', rt := Q } (start [p0, p1] vs) H := by
  obtain ⟨x, ws, rfl, hw, hx, q⟩ := h
  match ws, hw with
  | [v], _ => exact ⟨v, rfl, .ref x, rfl, x, C, rfl, c, n, .inl ⟨hx, fun d hd ne => q d hd ne⟩⟩
end
end L2

namespace L2
open PySem PySem.Spec PyProof.Rows
section
variable {X : Cx} {tg : Expr}
end
section
variable {σ : St} {H : Hp} {Q : VK}
end
section
variable {X : Cx} {e : Expr} {te : TE} {lo hi : Option Expr} {st : Expr} {tl th ts : TO} {pos p2 : Pos}
theorem j_dnewK : JE X (.Dict [] [] pos) tDNewK := ⟨pe_dnewK⟩
end
section
variable {σ : St} {H : Hp} {Q : VK} {te : TE}
theorem r_dnew (h : ∀ p, H p = none → Q (.ref p) (upd H p (.dK []))) : tDNewK σ H Q := h
end
section
variable {X : Cx}
end
section
variable {H : Hp} {Q : VK} {K : PySem.W.Frag}
end
end L2

namespace L2
open PySem PySem.Spec PyProof.Rows
open AutoSeq1 (wpAny_loadPart')
section
variable {X : Cx}
end
section
variable {H : Hp} {Q : VK} {K : PySem.W.Frag}
theorem r_chain {σ : St} {r r' : R2} {ta tb tc : TE} (h : ta σ H fun x H1 => tb σ H1 fun y H2 => r x y H2 fun z H3 => ∃ k, z = .bl k ∧ if k = true then tc σ H3 fun w H4 => r' y w H4 Q else Q (.bl false) H3) : tChain r r' ta tb tc σ H Q := h
end
end L2

namespace L2
open PySem PySem.Spec PyProof.Rows PySem.SeqAt
theorem r_new {xs : List V} {H : Hp} {R : Addr → Prop} (c : Nat.ble xs.length 64 = true) (h : ∀ p, H p = none → R p) : xs.length ≤ sizeLine ∧ ∀ p, H p = none → R p :=
  ⟨Nat.le_trans (Nat.le_of_ble_eq_true c) (by decide), h⟩
theorem iteNT {A B : Prop} (h : A) : if (!false) = true then A else B := (if_pos (show (!false) = true from rfl)).mpr h
theorem iteNF {A B : Prop} (h : B) : if (!true) = true then A else B := by rw [if_neg (by simp)]; exact h
end L2

namespace L2
open PySem PySem.Spec PyProof.Rows PySem.SeqAt
open AutoSeq1 (wpAny_loadPart')
section
variable {X : Cx}
end
section
variable {X : Cx}
end
section
variable {H : Hp} {Q : VK} {K : PySem.W.Frag} {σ : St} {D : Ends}
end
end L2

namespace L2
open PySem PySem.Spec PyProof.Rows
section
variable {X : Cx}
theorem js_aug {i : Nat} {x : Str} {e : Expr} {te : TE} {op : Operator} {r : R2} {pos pos' : Pos} (hN : X.N.Nodup) (hi : X.N[i]? = some x) (hx : Loc X.env.scope x) (he : JE X e te) (ho : OpR X (inplaceOp op) r) (hf : X.fn x = true) :
    JS X (.AugAssign (.Name x pos') op e pos) (tAug i te r) := ⟨ps_aug hN hi hx he.run ho (.inl hf)⟩
end
section
variable {σ : St} {H : Hp} {Q : VK} {D : Ends}
theorem r_aug {i : Nat} {te : TE} {r : R2} {v : V} (e : σ[i]? = some (some v)) (h : te σ H fun y H1 => r v y H1 fun z H2 => D.nx (σ.set i (some z)) H2) : tAug i te r D σ H := ⟨v, e, h⟩
end
end L2

namespace L2
open PySem PySem.Spec PyProof.Rows
section
variable {X : Cx}
end
section
variable {X : Cx}
end
section
variable {σ : St} {H : Hp} {Q : VK} {K : PySem.W.Frag}
end
end L2

namespace L2
open PySem PySem.Spec PyProof.Rows
section
variable {X : Cx}
end
end L2

namespace L2
open PySem PySem.Spec PyProof.Rows
open PySem.Sem (wp)
open PySem.AutoSeq1 (wpAny_loadPart')
section
variable {prog : Program} {w : World} {A : Around} {E : Value → Shared → Prop} {s : Shared}
end
end L2

namespace L2
open PySem PySem.Spec PyProof.Rows
section
variable {K : PySem.W.Frag} {σ : St} {H : Hp}
end
section
variable {X : Cx} {e : Expr} {te : TE} {lo hi : Option Expr} {st : Expr} {tl th ts : TO} {pos p2 : Pos}
end
end L2

namespace L2
open PySem PySem.Spec PyProof.Rows
mutual
theorem DR.noDict {H : Hp} : ∀ (d : PyData) (v : V), DR H d v → d.hasDict = false
  | .none, _, _ => by simp only [PyData.hasDict]
  | .bool _, _, _ => by simp only [PyData.hasDict]
  | .int _, _, _ => by simp only [PyData.hasDict]
  | .str _, _, _ => by simp only [PyData.hasDict]
  | .list ds, v, q => by
    rw [DR] at q
    obtain ⟨a, vs, _, _, t⟩ := q
    simp only [PyData.hasDict]
    exact DRs.noDict ds vs t
  | .tuple ds, v, q => by
    rw [DR] at q
    obtain ⟨a, vs, _, _, t⟩ := q
    simp only [PyData.hasDict]
    exact DRs.noDict ds vs t
  | .dict _, _, q => by rw [DR] at q; exact q.elim
theorem DRs.noDict {H : Hp} : ∀ (ds : List PyData) (vs : List V), DRs H ds vs → PyData.hasDictAll ds = false
  | [], _, _ => by simp only [PyData.hasDictAll]
  | d :: ds, _, q => by
    rw [DRs] at q
    obtain ⟨v, r', _, q1, q2⟩ := q
    simp only [PyData.hasDictAll, Bool.or_eq_false_iff]
    exact ⟨DR.noDict d v q1, DRs.noDict ds r' q2⟩
end
end L2

namespace L2
open PySem PySem.Spec PyProof.Rows
open PySem.Sem (wp)
open PySem.AutoSeq1 (wpAny_loadPart')
section
variable {prog : Program} {w : World} {A : Around} {E : Value → Shared → Prop} {s : Shared}
end
end L2

namespace L2
open PySem PySem.Spec PyProof.Rows
section
variable {prog : Program} {w : World} {A : Around} {E : Value → Shared → Prop} {s : Shared}
end
end L2

namespace L2
open PySem PySem.Spec PyProof.Rows
section
variable {K : PySem.W.Frag} {σ : St} {H : Hp}
end
end L2

namespace L2
open PySem PySem.Spec PyProof.Rows
theorem Inv.nosys {X : Cx} {pins : List (Addr × Obj)} {σ : St} {H : Hp} {s : Shared} (I : Inv X pins σ H s) : H sysModules = none :=
  let ⟨_, o, _, _, e, _⟩ := I.mod.sysm
  (I.bs _ o e).2
def flD : V → Option PyData
  | .non => some .none
  | .bl b => some (.bool b)
  | .int n => some (.int n)
  | .str z => some (.str z)
  | _ => none
def keyD : Key → PyData
  | .inl i => .int i
  | .inr x => .str x
mutual
def RD (H : Hp) : PyData → V → Prop
  | .none, v => v = .non
  | .bool b, v => v = .bl b
  | .int n, v => v = .int n
  | .str z, v => v = .str z
  | .list ds, v => ∃ a vs, v = .ref a ∧ H a = some (.lst vs) ∧ RDs H ds vs
  | .tuple ds, v => ∃ a vs, v = .ref a ∧ H a = some (.tup vs) ∧ RDs H ds vs
  | .dict kvs, v => ∃ a ks, v = .ref a ∧ H a = some (.dK ks) ∧ ks.map (fun p => (keyD p.1, flD p.2)) = kvs.map (fun q => (q.1, some q.2))
def RDs (H : Hp) : List PyData → List V → Prop
  | [], vs => vs = []
  | d :: ds, vs => ∃ v r, vs = v :: r ∧ RD H d v ∧ RDs H ds r
end
mutual
theorem RD.same {H H' : Hp} (s : Same H H') : ∀ (d : PyData) (v : V), RD H d v → RD H' d v
  | .none, _, h => by rw [RD] at h ⊢; exact h
  | .bool _, _, h => by rw [RD] at h ⊢; exact h
  | .int _, _, h => by rw [RD] at h ⊢; exact h
  | .str _, _, h => by rw [RD] at h ⊢; exact h
  | .list ds, v, h => by rw [RD] at h ⊢; obtain ⟨a, vs, e, q, r⟩ := h; exact ⟨a, vs, e, s _ _ q, RDs.same s ds vs r⟩
  | .tuple ds, v, h => by rw [RD] at h ⊢; obtain ⟨a, vs, e, q, r⟩ := h; exact ⟨a, vs, e, s _ _ q, RDs.same s ds vs r⟩
  | .dict _, _, h => by rw [RD] at h ⊢; obtain ⟨a, vs, e, q, r⟩ := h; exact ⟨a, vs, e, s _ _ q, r⟩
theorem RDs.same {H H' : Hp} (s : Same H H') : ∀ (ds : List PyData) (vs : List V), RDs H ds vs → RDs H' ds vs
  | [], _, h => by rw [RDs] at h ⊢; exact h
  | d :: ds, vs, h => by rw [RDs] at h ⊢; obtain ⟨v, r, e, q, t⟩ := h; exact ⟨v, r, e, RD.same s d v q, RDs.same s ds r t⟩
end
theorem RD_int {H : Hp} {n : Int} {v : V} : RD H (.int n) v ↔ v = .int n := by rw [RD]
theorem RD_str {H : Hp} {n : Str} {v : V} : RD H (.str n) v ↔ v = .str n := by rw [RD]
theorem RD_bool {H : Hp} {n : Bool} {v : V} : RD H (.bool n) v ↔ v = .bl n := by rw [RD]
theorem RD_none {H : Hp} {v : V} : RD H .none v ↔ v = .non := by rw [RD]
theorem RD_list {H : Hp} {ds : List PyData} {v : V} : RD H (.list ds) v ↔ ∃ a vs, v = .ref a ∧ H a = some (.lst vs) ∧ RDs H ds vs := by rw [RD]
theorem RD_tuple {H : Hp} {ds : List PyData} {v : V} : RD H (.tuple ds) v ↔ ∃ a vs, v = .ref a ∧ H a = some (.tup vs) ∧ RDs H ds vs := by rw [RD]
theorem RD_dict {H : Hp} {kvs : List (PyData × PyData)} {v : V} : RD H (.dict kvs) v ↔ ∃ a ks, v = .ref a ∧ H a = some (.dK ks) ∧ ks.map (fun p => (keyD p.1, flD p.2)) = kvs.map (fun q => (q.1, some q.2)) := by rw [RD]
theorem RDs_nil {H : Hp} {vs : List V} : RDs H [] vs ↔ vs = [] := by rw [RDs]
theorem RDs_cons {H : Hp} {d : PyData} {ds : List PyData} {vs : List V} : RDs H (d :: ds) vs ↔ ∃ v r, vs = v :: r ∧ RD H d v ∧ RDs H ds r := by rw [RDs]
theorem RDs_one {H : Hp} {d : PyData} {v : V} {ds : List PyData} {vs : List V} (h : RD H d v) (t : RDs H ds vs) : RDs H (d :: ds) (v :: vs) := RDs_cons.mpr ⟨v, vs, rfl, h, t⟩
theorem flD_reads {h : Heap} {v : V} {d : PyData} {u : Value} (e : flD v = some d) (r : RelV v u) : Reads h u d [] := by
  cases v <;> simp only [flD, Option.some.injEq, reduceCtorEq] at e
  · subst e; cases r; exact .none
  · subst e; cases r; exact .bool _
  · subst e; obtain ⟨t, rfl⟩ := r; exact .int _ _
  · subst e; obtain ⟨t, rfl⟩ := r; exact .str _ _
theorem pairs_reads {P : Program} {w : World} {h : Heap} : ∀ {es : List DictEntry} {vs : List (Key × Value)} {ks : List (Key × V)} {kvs : List (PyData × PyData)}, Pairs (mixKind P w) es vs → KV ks vs →
    ks.map (fun p => (keyD p.1, flD p.2)) = kvs.map (fun q => (q.1, some q.2)) → ReadsAll h (es.map (·.key)) (kvs.map (·.1)) [] ∧ ReadsAll h (es.map (·.val)) (kvs.map (·.2)) []
  | _, _, _, kvs, .nil, r, e => by
    cases r
    cases kvs with
    | nil => exact ⟨.nil, .nil⟩
    | cons _ _ => simp at e
  | _, _, _, kvs, .cons (e := en) (kv := kv) h1 h2 t, r, e => by
    cases r with
    | cons a b =>
      rename_i p ks'
      cases kvs with
      | nil => simp at e
      | cons q kvs =>
        simp only [List.map_cons, List.cons.injEq, Prod.mk.injEq] at e
        obtain ⟨⟨e1, e2⟩, e3⟩ := e
        obtain ⟨i1, i2⟩ := pairs_reads t b e3
        obtain ⟨a1, a2⟩ := a
        have k1 : Reads h en.key q.1 [] := by
          rcases keyIs_shape h1 with ⟨i, t', ek, ev⟩ | ⟨x, t', ek, ev⟩
          · rw [ev, ← e1, a1, ek]; exact .int _ _
          · rw [ev, ← e1, a1, ek]; exact .str _ _
        have k2 : Reads h en.val q.2 [] := by rw [h2]; exact flD_reads e2 a2
        exact ⟨.cons (as := []) (bs := []) k1 i1, .cons (as := []) (bs := []) k2 i2⟩
mutual
theorem RD.reads {P : Program} {w : World} {H : Hp} {h : Heap} (ok : HOk P w H h) : ∀ (d : PyData) (v : V) (u : Value), RD H d v → RelV v u → ∃ as, Reads h u d as ∧ ∀ b ∈ as, ∃ o, H b = some o
  | .none, _, u, q, r => by rw [RD] at q; subst q; cases r; exact ⟨_, .none, by simp⟩
  | .bool b, _, u, q, r => by rw [RD] at q; subst q; cases r; exact ⟨_, .bool _, by simp⟩
  | .int n, _, u, q, r => by rw [RD] at q; subst q; obtain ⟨t, rfl⟩ := r; exact ⟨_, .int _ _, by simp⟩
  | .str n, _, u, q, r => by rw [RD] at q; subst q; obtain ⟨t, rfl⟩ := r; exact ⟨_, .str _ _, by simp⟩
  | .list ds, v, u, q, r => by
    rw [RD] at q
    obtain ⟨a, vs, rfl, e, t⟩ := q
    cases r
    obtain ⟨_, its, n, rv, g⟩ := ok a _ e
    obtain ⟨as, ra, ha⟩ := RDs.reads ok ds vs its t rv
    refine ⟨_, .list g rfl rfl (by simpa using ra), fun b hb => ?_⟩
    rcases List.mem_cons.mp hb with rfl | hb
    · exact ⟨_, e⟩
    · exact ha b hb
  | .tuple ds, v, u, q, r => by
    rw [RD] at q
    obtain ⟨a, vs, rfl, e, t⟩ := q
    cases r
    obtain ⟨_, its, rv, g⟩ := ok a _ e
    obtain ⟨as, ra, ha⟩ := RDs.reads ok ds vs its t rv
    obtain ⟨o, ho, hc, n, hd⟩ := g
    exact ⟨_, .tuple ho hc hd (by simpa using ra), ha⟩
  | .dict kvs, v, u, q, r => by
    rw [RD] at q
    obtain ⟨a, ks, rfl, e, t⟩ := q
    cases r
    obtain ⟨_, _, vs, kv, o, es, ep, ho, xd, hd, _, prs, _⟩ := ok a _ e
    obtain ⟨i1, i2⟩ := pairs_reads (h := h) prs kv t
    refine ⟨_, .dict ho xd.1 hd i1 i2, fun b hb => ?_⟩
    simp only [List.append_nil, List.mem_singleton] at hb
    subst hb
    exact ⟨_, e⟩
theorem RDs.reads {P : Program} {w : World} {H : Hp} {h : Heap} (ok : HOk P w H h) : ∀ (ds : List PyData) (vs : List V) (us : List Value), RDs H ds vs → Vals vs us → ∃ as, ReadsAll h us ds as ∧ ∀ b ∈ as, ∃ o, H b = some o
  | [], _, us, q, r => by rw [RDs] at q; subst q; cases r; exact ⟨_, .nil, by simp⟩
  | d :: ds, _, us, q, r => by
    rw [RDs] at q
    obtain ⟨v, r', rfl, q1, q2⟩ := q
    cases r with
    | cons a b =>
      obtain ⟨as, h1, t1⟩ := RD.reads ok d v _ q1 a
      obtain ⟨bs, h2, t2⟩ := RDs.reads ok ds r' _ q2 b
      exact ⟨_, .cons h1 h2, fun b hb => (List.mem_append.mp hb).elim (t1 b) (t2 b)⟩
end
def rReprR : List V → Hp → VK → Prop := fun xs H Q => ∃ (x : V) (d : PyData), xs = [x] ∧ RD H d x ∧ d.showable = true ∧ d.depth ≤ 60 ∧ d.shown.length ≤ sizeLine ∧ Q (.str d.shown) H
theorem call_reprR {X : Cx} (hg : X.A.guards = some []) (hu : X.A.units + 64 < cLine) : CallR X (.builtin "repr") rReprR := by
  intro pins s σ H xs us Q I r h
  obtain ⟨x, d, rfl, hd, hs, hdp, hz, q⟩ := h
  obtain ⟨u, rfl, ru⟩ := vals1 r
  obtain ⟨as, rd, ha⟩ := RD.reads I.hok d x u hd ru
  have nsy : d.hasDict = true → sysModules ∉ as := fun _ hm => by
    obtain ⟨o, e⟩ := ha _ hm
    rw [I.nosys] at e; cases e
  have key : ∀ (a : Addr), u = .ref a → wpAny (model X.prog X.w) X.A (call (.builtin "repr") [u]) (EP X pins σ Q) X.xe s := fun a e => by
    subst e
    refine repr_of_reads' rd hs nsy hg (by omega) (fun _ _ e => e) (fun h' u tk hk => ?_) hz
    exact ⟨.str d.shown, H, I.kept (t' := tk) hk, ⟨u, rfl⟩, q⟩
  cases rd with
  | none =>
    simp only [PyData.shown] at q
    exact P.repr_of_none ⟨.str _, H, I.tok _, ⟨_, rfl⟩, q⟩
  | bool b =>
    simp only [PyData.shown] at q
    exact P.repr_of_bool ⟨.str _, H, I.tok _, ⟨_, rfl⟩, q⟩
  | int i t =>
    simp only [PyData.shown] at q
    exact P.repr_of_int (by simpa [PyData.showable] using hs) ⟨.str _, H, I.tok _, ⟨_, rfl⟩, q⟩
  | str z t =>
    simp only [PyData.shown] at q hz
    exact P.repr_of_str ⟨.str _, H, I.tok _, ⟨_, rfl⟩, q⟩ hz
  | list h1 h2 h3 h4 => exact key _ rfl
  | tuple h1 h2 h3 h4 => exact key _ rfl
  | dict h1 h2 h3 h4 h5 => exact key _ rfl
theorem r_reprR {H : Hp} {Q : VK} {x : V} {d : PyData} (hd : RD H d x) (hs : d.showable = true) (hp : d.depth ≤ 60) (hz : d.shown.length ≤ sizeLine) (h : Q (.str d.shown) H) : rReprR [x] H Q := ⟨x, d, rfl, hd, hs, hp, hz, h⟩
/-- things that may be shown: not deep, no long leaves, not wide -/
structure Sml (d : PyData) : Prop where
  sh : d.showable = true
  dp : d.depth ≤ 58
  lv : d.leavesShort 60 = true
  bk : d.bulk ≤ 10000
end L2

namespace L2
open PySem PySem.Spec PyProof.Rows
open PySem.Sem (wp)
section
variable {X : Cx} {pos : Pos} {σ : St} {H : Hp} {Q : VK} {K : PySem.W.Frag}
end
end L2

namespace L2
open PySem PySem.Spec PyProof.Rows
def rStrI : List V → Hp → VK → Prop := fun xs H Q => ∃ i : Int, xs = [.int i] ∧ i.natAbs.log2 < 1920 ∧ Q (.str (toString i)) H
theorem call_strI {X : Cx} : CallR X (.type "str") rStrI := by
  intro pins s σ H xs us Q I r h
  obtain ⟨i, rfl, hi, q⟩ := h
  obtain ⟨u, rfl, t, rfl⟩ := vals1 r
  exact P.str_of_int hi ⟨.str _, H, I.tok _, ⟨_, rfl⟩, q⟩
theorem r_strI {H : Hp} {Q : VK} {i : Int} (hi : i.natAbs.log2 < 1920) (h : Q (.str (toString i)) H) : rStrI [.int i] H Q := ⟨i, rfl, hi, h⟩
end L2

namespace My
open PySem L2
def top (i : Nat) : Stmt := PySem.Challenge.pw_panethread_k05_threads_told_and_spoilt.main.body.getD i (.Pass ⟨0, 0, 0, 0⟩)
abbrev s_is_number : Stmt := top 8
abbrev s_is_pair : Stmt := top 9
abbrev s_is_row : Stmt := top 11
abbrev s_need_row : Stmt := top 12
abbrev s_need_rows : Stmt := top 13
abbrev s_lengths_below : Stmt := top 15
abbrev s_lengths : Stmt := top 16
abbrev s_thread_of : Stmt := top 17
abbrev s_is_match : Stmt := top 18
abbrev s_is_ahead : Stmt := top 19
abbrev s_is_thread : Stmt := top 20
abbrev s_said : Stmt := top 21
abbrev s_law_cell : Stmt := top 23
abbrev s_law_purse : Stmt := top 24
abbrev s_law_take : Stmt := top 25
abbrev s_law_letters : Stmt := top 26
abbrev s_law_drawn : Stmt := top 27
abbrev s_law_row : Stmt := top 28
abbrev s_law_longest : Stmt := top 29
abbrev s_law_whole : Stmt := top 30
abbrev s_law_reads : Stmt := top 31
abbrev s_law_pair : Stmt := top 32
abbrev s_law_spoilt : Stmt := top 33
abbrev s_law_said : Stmt := top 34
abbrev s_law_right : Stmt := top 35
abbrev s_law : Stmt := top 36
abbrev i_NoRow : Stmt := initOf (top 2)
abbrev i_NoThread : Stmt := initOf (top 3)
local macro_rules | `(tactic| walk_at "sts") => `(tactic| (repeat (first | (with_reducible refine r_op ?_) | (with_reducible refine iteT ?_) | (with_reducible refine iteF ?_) | (with_reducible refine iteNT ?_) | (with_reducible refine iteNF ?_) | (with_reducible refine iteNNT ?_) | (with_reducible refine iteNNF ?_) | (with_reducible refine r_var (by with_unfolding_all rfl) ?_) | (with_reducible refine r_C ?_) | (with_reducible refine r_i0 ?_) | (with_reducible refine r_addI ?_) | (with_reducible refine r_cons ?_) | (with_reducible refine r_nil ?_) | (with_reducible refine r_seq ?_) | (with_reducible refine r_asg ?_) | (with_reducible refine r_name ?_) | (with_reducible refine r_ret ?_) | (with_reducible refine r_next ?_) | (with_reducible refine r_if ?_) | (with_reducible refine r_test ?_) | (with_reducible refine r_bl ?_) | (with_reducible refine r_cb ?_) | (with_reducible refine r_call ?_) | (with_reducible refine r_tb ?_) | (with_reducible refine r_not ?_) | (with_reducible refine r_and ?_) | (with_reducible refine r_or ?_) | (with_reducible refine r_andV ?_) | (with_reducible refine r_orV ?_) | (with_reducible refine r_notV ?_) | (with_reducible refine r_ifE ?_) | (with_reducible refine r_sub ?_) | (with_reducible refine r_retN ?_) | (with_reducible refine r_drop ?_) | (with_reducible refine r_un ?_) | (with_reducible refine r_tup ?_) | (with_reducible refine r_lst ?_) | (with_reducible refine r_bm ?_) | (with_reducible refine r_bm0 ?_) | (with_reducible refine r_sl ?_) | (with_reducible refine r_nop ?_) | (with_reducible refine r_part ?_) | (with_reducible refine r_true ?_) | (with_reducible refine r_rng1 ?_) | (with_reducible refine r_rng2 ?_) | (with_reducible refine r_iseq ?_) | (with_reducible refine r_comp ?_) | (with_reducible refine r_for ?_) | (with_reducible refine r_pcons ?_) | (with_reducible refine r_pnil ?_) | (with_reducible refine r_u ?_) | (with_reducible refine r_strE ?_) | (with_reducible refine r_gcons ?_) | (with_reducible refine r_gnil ?_) | (with_reducible refine r_gtup (SqT.of (by first | assumption | exact upd_same)) (by rfl) ?_) | (with_reducible refine r_callX ?_) | (with_reducible refine r_chain ?_) | (with_reducible refine r_gone ?_) | (with_reducible refine r_try ?_) | (with_reducible refine r_raise ?_) | (with_reducible refine r_fldX ?_) | (with_reducible refine r_rng3 ?_) | (with_reducible refine r_sl3 ?_) | (with_reducible refine r_dnew ?_) | (with_reducible refine r_eqCI ?_) | (with_reducible refine r_eqCS ?_) | (with_reducible refine r_eqCB ?_) | (with_reducible refine r_eqEI ?_) | (with_reducible refine r_eqES ?_) | (with_reducible refine r_eqEB ?_) | (with_reducible refine r_isA ?_) | (with_reducible refine r_isB ?_) | (with_reducible refine r_isNotB ?_) | (with_reducible refine r_isNotA ?_) | (with_reducible refine r_ii ?_) | (with_reducible refine r_eqBI ?_) | (with_reducible refine r_eqBS ?_) | (with_reducible refine r_eqBB ?_) | (with_reducible refine r_neBI ?_) | (with_reducible refine r_neBS ?_) | (with_reducible refine r_neBB ?_) | (with_reducible refine r_zip ?_) | (with_reducible refine r_enumA ?_) | (with_reducible refine r_inS ?_) | (with_reducible refine r_notInS ?_) | (with_reducible refine r_intE ?_) | (with_reducible refine r_i (by with_unfolding_all first | assumption | omega | (dsimp only <;> omega) | exact ⟨by omega, by omega⟩ | exact .inl ⟨by omega, by omega⟩ | exact .inr ⟨by omega, by omega⟩ | exact ⟨by decide, by decide, by decide⟩) ?_) | (with_reducible refine r_mulI (by with_unfolding_all first | assumption | omega | (dsimp only <;> omega) | exact ⟨by omega, by omega⟩ | exact .inl ⟨by omega, by omega⟩ | exact .inr ⟨by omega, by omega⟩ | exact ⟨by decide, by decide, by decide⟩) ?_) | (with_reducible refine r_ixL (SqL.of (by first | assumption | exact upd_same)) (by with_unfolding_all rfl) ?_) | (with_reducible refine r_ixT (SqT.of (by first | assumption | exact upd_same)) (by with_unfolding_all rfl) ?_) | (with_reducible refine r_setL (by first | assumption | exact upd_same) (by with_unfolding_all rfl) ?_) )))
local macro_rules | `(tactic| walk_at "stn") => `(tactic| (repeat (first | (with_reducible refine r_op ?_) | (with_reducible refine iteT ?_) | (with_reducible refine iteF ?_) | (with_reducible refine iteNT ?_) | (with_reducible refine iteNF ?_) | (with_reducible refine iteNNT ?_) | (with_reducible refine iteNNF ?_) | (with_reducible refine r_var (by with_unfolding_all rfl) ?_) | (with_reducible refine r_C ?_) | (with_reducible refine r_i0 ?_) | (with_reducible refine r_addI ?_) | (with_reducible refine r_cons ?_) | (with_reducible refine r_nil ?_) | (with_reducible refine r_asg ?_) | (with_reducible refine r_name ?_) | (with_reducible refine r_ret ?_) | (with_reducible refine r_next ?_) | (with_reducible refine r_if ?_) | (with_reducible refine r_test ?_) | (with_reducible refine r_bl ?_) | (with_reducible refine r_cb ?_) | (with_reducible refine r_call ?_) | (with_reducible refine r_tb ?_) | (with_reducible refine r_not ?_) | (with_reducible refine r_and ?_) | (with_reducible refine r_or ?_) | (with_reducible refine r_andV ?_) | (with_reducible refine r_orV ?_) | (with_reducible refine r_notV ?_) | (with_reducible refine r_ifE ?_) | (with_reducible refine r_sub ?_) | (with_reducible refine r_retN ?_) | (with_reducible refine r_drop ?_) | (with_reducible refine r_un ?_) | (with_reducible refine r_tup ?_) | (with_reducible refine r_lst ?_) | (with_reducible refine r_bm ?_) | (with_reducible refine r_bm0 ?_) | (with_reducible refine r_sl ?_) | (with_reducible refine r_nop ?_) | (with_reducible refine r_part ?_) | (with_reducible refine r_true ?_) | (with_reducible refine r_rng1 ?_) | (with_reducible refine r_rng2 ?_) | (with_reducible refine r_iseq ?_) | (with_reducible refine r_comp ?_) | (with_reducible refine r_for ?_) | (with_reducible refine r_pcons ?_) | (with_reducible refine r_pnil ?_) | (with_reducible refine r_u ?_) | (with_reducible refine r_strE ?_) | (with_reducible refine r_gcons ?_) | (with_reducible refine r_gnil ?_) | (with_reducible refine r_gtup (SqT.of (by first | assumption | exact upd_same)) (by rfl) ?_) | (with_reducible refine r_callX ?_) | (with_reducible refine r_chain ?_) | (with_reducible refine r_gone ?_) | (with_reducible refine r_try ?_) | (with_reducible refine r_raise ?_) | (with_reducible refine r_fldX ?_) | (with_reducible refine r_rng3 ?_) | (with_reducible refine r_sl3 ?_) | (with_reducible refine r_dnew ?_) | (with_reducible refine r_eqCI ?_) | (with_reducible refine r_eqCS ?_) | (with_reducible refine r_eqCB ?_) | (with_reducible refine r_eqEI ?_) | (with_reducible refine r_eqES ?_) | (with_reducible refine r_eqEB ?_) | (with_reducible refine r_isA ?_) | (with_reducible refine r_isB ?_) | (with_reducible refine r_isNotB ?_) | (with_reducible refine r_isNotA ?_) | (with_reducible refine r_ii ?_) | (with_reducible refine r_eqBI ?_) | (with_reducible refine r_eqBS ?_) | (with_reducible refine r_eqBB ?_) | (with_reducible refine r_neBI ?_) | (with_reducible refine r_neBS ?_) | (with_reducible refine r_neBB ?_) | (with_reducible refine r_zip ?_) | (with_reducible refine r_enumA ?_) | (with_reducible refine r_inS ?_) | (with_reducible refine r_notInS ?_) | (with_reducible refine r_intE ?_) | (with_reducible refine r_i (by with_unfolding_all first | assumption | omega | (dsimp only <;> omega) | exact ⟨by omega, by omega⟩ | exact .inl ⟨by omega, by omega⟩ | exact .inr ⟨by omega, by omega⟩ | exact ⟨by decide, by decide, by decide⟩) ?_) | (with_reducible refine r_mulI (by with_unfolding_all first | assumption | omega | (dsimp only <;> omega) | exact ⟨by omega, by omega⟩ | exact .inl ⟨by omega, by omega⟩ | exact .inr ⟨by omega, by omega⟩ | exact ⟨by decide, by decide, by decide⟩) ?_) | (with_reducible refine r_ixL (SqL.of (by first | assumption | exact upd_same)) (by with_unfolding_all rfl) ?_) | (with_reducible refine r_ixT (SqT.of (by first | assumption | exact upd_same)) (by with_unfolding_all rfl) ?_) | (with_reducible refine r_setL (by first | assumption | exact upd_same) (by with_unfolding_all rfl) ?_) )))
def mx (i j : Int) : Int := if j > i then j else i
def lt (S P : List Nat) (i j : Nat) : Int := match i, j with
  | 0, _ => 0
  | _ + 1, 0 => 0
  | i + 1, j + 1 => if S[i]? = P[j]? then mx (mx (lt S P i (j + 1)) (lt S P (i + 1) j)) (lt S P i j + 1) else mx (lt S P i (j + 1)) (lt S P (i + 1) j)
termination_by i + j
theorem lt_0 (S P : List Nat) (j : Nat) : lt S P 0 j = 0 := by rw [lt]
theorem lt_z (S P : List Nat) (i : Nat) : lt S P i 0 = 0 := by cases i <;> rw [lt]
theorem lt_s (S P : List Nat) (i j : Nat) : lt S P (i + 1) (j + 1) = if S[i]? = P[j]? then mx (mx (lt S P i (j + 1)) (lt S P (i + 1) j)) (lt S P i j + 1) else mx (lt S P i (j + 1)) (lt S P (i + 1) j) := by rw [lt]
/-- the row i of the table -/
def rowT (S P : List Nat) (i n : Nat) : List Int := (List.range n).map (lt S P i)
theorem rowT_len (S P : List Nat) (i n : Nat) : (rowT S P i n).length = n := by simp [rowT]
theorem rowT_at {S P : List Nat} {i n j : Nat} (h : j < n) : (rowT S P i n)[j]? = some (lt S P i j) := by
  unfold rowT
  rw [List.getElem?_map, List.getElem?_range h]; rfl
theorem rowT_succ (S P : List Nat) (i n : Nat) : rowT S P i (n + 1) = rowT S P i n ++ [lt S P i n] := by
  unfold rowT
  rw [List.range_succ, List.map_append]; rfl
def LETT : Str := Str.ofString "abcdefghijklmnopqrstuvwxyz"
def GOOD : List Nat := (LETT ++ Str.ofString ".").cps.toList
def Row (z : Str) : Prop := z.length ≤ 48 ∧ ∀ c ∈ z.cps.toList, c ∈ GOOD
def badC (l : Str) (c : Nat) : Bool := (Builtin.Str.occurrences l ⟨#[c]⟩ 0 l.length 1).isEmpty
theorem good_ok : ∀ c ∈ GOOD, badC (LETT ++ Str.ofString ".") c = false := by decide +kernel
def spBelow : Sp := fun vs H Q _ => ∃ (a : Addr) (S : List Nat) (i c : Nat) (top : Str), vs = [.ref a, .str ⟨#[c]⟩, .str top] ∧ S[i]? = some c ∧ top.length ≤ 48 ∧ H a = some (.lst ((rowT S top.cps.toList i (top.length + 1)).map V.int)) ∧
  ∀ r H', H r = none → Same H H' → H' r = some (.lst ((rowT S top.cps.toList (i + 1) (top.length + 1)).map V.int)) → Q (.ref r) H'
def spCell (K : PySem.W.Frag) : Sp := fun vs H Q _ => ∃ (a : Addr) (ns : List Int) (k : Int), vs = [.ref a, .int k] ∧ SqL K H a (ns.map V.int) ∧ 0 ≤ k ∧ ∀ n, Q (.int n) H
def spPurse : Sp := fun vs H Q _ => ∃ n : Int, vs = [.int n] ∧ ∀ p H', H p = none → Chg p H H' → Pur H' p → Q (.ref p) H'
def spTake : Sp := fun vs H Q _ => ∃ (p : Addr) (n : Int), vs = [.ref p, .int n] ∧ Pur H p ∧ 0 < n ∧ n < 1073741824 ∧ ∀ d H', 0 ≤ d → d < n → Pur H' p → Chg p H H' → Q (.int d) H'
def GoodS (ys : List Str) : Prop := ∀ y ∈ ys, ∃ c, y = ⟨#[c]⟩ ∧ c ∈ GOOD
theorem GoodS.ones {ys : List Str} (h : GoodS ys) : ∀ y ∈ ys, y.length = 1 := fun y hy => by
  obtain ⟨c, rfl, _⟩ := h y hy
  exact len1 c
theorem lett_good : ∀ c ∈ (Str.ofString "abcdefghijklmnopqrstuvwxyz").cps.toList, c ∈ GOOD := by decide +kernel
theorem row_of {zs : List Str} (h : GoodS zs) (hl : zs.length ≤ 48) : Row (Txt.join (Str.ofString "") zs) := by
  refine ⟨by rw [join_len h.ones]; exact hl, fun c hc => ?_⟩
  rw [join_cps] at hc
  obtain ⟨l, hl1, hl2⟩ := List.mem_flatten.mp hc
  obtain ⟨y, hy, e⟩ := List.mem_map.mp hl1
  obtain ⟨d, rfl, hd⟩ := h y hy
  subst e
  simp at hl2
  subst hl2
  exact hd
def spLetters : Sp := fun vs H Q _ => ∃ (p : Addr), vs = [.ref p] ∧ Pur H p ∧ ∀ (q : Addr) (ys : List Str) (H' : Hp), H q = none → Pur H' p → Chg p H H' → H' q = some (.lst (ys.map V.str)) → ys ≠ [] → ys.length ≤ 26 → GoodS ys → Q (.ref q) H'
def spDrawn : Sp := fun vs H Q _ => ∃ (p q : Addr) (ys : List Str) (m : Int), vs = [.ref p, .ref q, .int m] ∧ Pur H p ∧ H q = some (.lst (ys.map V.str)) ∧ ys ≠ [] ∧ ys.length ≤ 27 ∧ GoodS ys ∧ 0 ≤ m ∧ m ≤ 48 ∧
  ∀ (z : Str) (H' : Hp), Row z → Pur H' p → Chg p H H' → Q (.str z) H'
def spRow : Sp := fun vs H Q _ => ∃ (p q : Addr) (ys : List Str), vs = [.ref p, .ref q] ∧ Pur H p ∧ H q = some (.lst (ys.map V.str)) ∧ ys ≠ [] ∧ ys.length ≤ 26 ∧ GoodS ys ∧
  ∀ (z : Str) (H' : Hp), Row z → Pur H' p → Chg p H H' → Q (.str z) H'
theorem over {H H' : Hp} {r : Addr} {o : HO} (s : Same H H') (hn : H r = none) : Same H (upd H' r o) := fun b u e => by
  rw [upd_ne (fun z => by rw [z, hn] at e; cases e)]; exact s b u e
theorem at_row {S P : List Nat} {i n j : Nat} (h : j < n) : atI ((rowT S P i n).map V.int) (j : Int) = some (.int (lt S P i j)) := by
  refine atI_nat ?_
  rw [List.getElem?_map, rowT_at h]; rfl
/-- a thing: a text, or of another kind -/
def Thing (K : PySem.W.Frag) (H : Hp) (v : V) : Prop := (∃ z, v = .str z ∧ z.length ≤ 5000) ∨ ∃ T, TyOf K H v (.type T) ∧ PySem.W.kitOne K (.type T) (.type "str") = some false
/-- the signs of z are all among l -/
def among (z l : Str) : Bool := z.cps.toList.all fun c => !(Builtin.Str.occurrences l ⟨#[c]⟩ 0 l.length 1).isEmpty
def readB (v : V) (l : Str) (m : Int) : Bool := match v with
  | .str z => decide ((z.length : Int) ≤ m) && among z l
  | _ => false
def spIs (K : PySem.W.Frag) (l : Str) (m : Int) : Sp := fun vs H Q _ => ∃ (v : V), vs = [v] ∧ Thing K H v ∧ ∀ H', Same H H' → Q (.bl (readB v l m)) H'
structure Txt (K : PySem.W.Frag) (mg : Str → Option Value) : Prop where
  b_all : mg "all" = none
  b_bool : mg "bool" = none
  b_enumerate : mg "enumerate" = none
  b_int : mg "int" = none
  b_isinstance : mg "isinstance" = none
  b_len : mg "len" = none
  b_list : mg "list" = none
  b_max : mg "max" = none
  b_range : mg "range" = none
  b_repr : mg "repr" = none
  b_reversed : mg "reversed" = none
  b_str : mg "str" = none
  b_tuple : mg "tuple" = none
  c_LETTERS : ∃ t, mg "LETTERS" = some (.str "abcdefghijklmnopqrstuvwxyz" t)
  c_MOST_SIGNS : ∃ t, mg "MOST_SIGNS" = some (.int 48 t)
  c_POINT : ∃ t, mg "POINT" = some (.str "." t)
  d_is_number : Def K mg "is_number" s_is_number
  d_is_pair : Def K mg "is_pair" s_is_pair
  d_is_row : Def K mg "is_row" s_is_row
  d_need_row : Def K mg "need_row" s_need_row
  d_need_rows : Def K mg "need_rows" s_need_rows
  d_lengths_below : Def K mg "lengths_below" s_lengths_below
  d_lengths : Def K mg "lengths" s_lengths
  d_thread_of : Def K mg "thread_of" s_thread_of
  d_is_match : Def K mg "is_match" s_is_match
  d_is_ahead : Def K mg "is_ahead" s_is_ahead
  d_is_thread : Def K mg "is_thread" s_is_thread
  d_said : Def K mg "said" s_said
  d_law_cell : Def K mg "_law_cell" s_law_cell
  d_law_purse : Def K mg "_law_purse" s_law_purse
  d_law_take : Def K mg "_law_take" s_law_take
  d_law_letters : Def K mg "_law_letters" s_law_letters
  d_law_drawn : Def K mg "_law_drawn" s_law_drawn
  d_law_row : Def K mg "_law_row" s_law_row
  d_law_longest : Def K mg "_law_longest" s_law_longest
  d_law_whole : Def K mg "_law_whole" s_law_whole
  d_law_reads : Def K mg "_law_reads" s_law_reads
  d_law_pair : Def K mg "_law_pair" s_law_pair
  d_law_spoilt : Def K mg "_law_spoilt" s_law_spoilt
  d_law_said : Def K mg "_law_said" s_law_said
  d_law_right : Def K mg "_law_right" s_law_right
  d_law : Def K mg "law" s_law
  x_PaneError : CTxt K mg "PaneError"
  x_NoRow : XTxt K mg "NoRow" ["found"] "NoRow.__init__" i_NoRow
  x_NoThread : XTxt K mg "NoThread" ["found"] "NoThread.__init__" i_NoThread
  u_NoRow_PaneError : Sub K mg "NoRow" "PaneError" true
  u_NoRow_NoThread : Sub K mg "NoRow" "NoThread" false
  u_NoThread_PaneError : Sub K mg "NoThread" "PaneError" true
  u_NoThread_NoThread : Sub K mg "NoThread" "NoThread" true
section
variable {P : Program} {w : World} {K : PySem.W.Frag} {mg : Str → Option Value} {base : Heap}
theorem nd_is_row_0 : (["sign"] : List Str).Nodup := by decide +kernel
theorem k_need_row_is_row : (defScope s_need_row).names.lookup ("is_row" : Str) = some NameKind.globalImplicit := by decide +kernel
theorem k_need_row_thing : (defScope s_need_row).names.lookup ("thing" : Str) = some NameKind.local := by decide +kernel
theorem k_need_row_NoRow : (defScope s_need_row).names.lookup ("NoRow" : Str) = some NameKind.globalImplicit := by decide +kernel
theorem k_need_rows_need_row : (defScope s_need_rows).names.lookup ("need_row" : Str) = some NameKind.globalImplicit := by decide +kernel
theorem k_need_rows_top : (defScope s_need_rows).names.lookup ("top" : Str) = some NameKind.local := by decide +kernel
theorem k_need_rows_side : (defScope s_need_rows).names.lookup ("side" : Str) = some NameKind.local := by decide +kernel
theorem k_lengths_table : (defScope s_lengths).names.lookup ("table" : Str) = some NameKind.local := by decide +kernel
theorem k_lengths_side : (defScope s_lengths).names.lookup ("side" : Str) = some NameKind.local := by decide +kernel
theorem k_lengths_sign : (defScope s_lengths).names.lookup ("sign" : Str) = some NameKind.local := by decide +kernel
theorem k_lengths_lengths_below : (defScope s_lengths).names.lookup ("lengths_below" : Str) = some NameKind.globalImplicit := by decide +kernel
theorem k_lengths_top : (defScope s_lengths).names.lookup ("top" : Str) = some NameKind.local := by decide +kernel
theorem k_lengths_len : (defScope s_lengths).names.lookup ("len" : Str) = some NameKind.globalImplicit := by decide +kernel
theorem k_lengths_need_rows : (defScope s_lengths).names.lookup ("need_rows" : Str) = some NameKind.globalImplicit := by decide +kernel
theorem ki_NoRow_self : (defScope i_NoRow).names.lookup ("self" : Str) = some NameKind.local := by decide +kernel
theorem ki_NoRow_found : (defScope i_NoRow).names.lookup ("found" : Str) = some NameKind.local := by decide +kernel
theorem k_is_row_all : (defScope s_is_row).names.lookup ("all" : Str) = some NameKind.globalImplicit := by decide +kernel
theorem k_is_row_thing : (defScope s_is_row).names.lookup ("thing" : Str) = some NameKind.local := by decide +kernel
theorem k_is_row_len : (defScope s_is_row).names.lookup ("len" : Str) = some NameKind.globalImplicit := by decide +kernel
theorem k_is_row_MOST_SIGNS : (defScope s_is_row).names.lookup ("MOST_SIGNS" : Str) = some NameKind.globalImplicit := by decide +kernel
theorem k_is_row_isinstance : (defScope s_is_row).names.lookup ("isinstance" : Str) = some NameKind.globalImplicit := by decide +kernel
theorem k_is_row_str : (defScope s_is_row).names.lookup ("str" : Str) = some NameKind.globalImplicit := by decide +kernel
theorem k_lengths_below_row : (defScope s_lengths_below).names.lookup ("row" : Str) = some NameKind.local := by decide +kernel
theorem k_lengths_below_enumerate : (defScope s_lengths_below).names.lookup ("enumerate" : Str) = some NameKind.globalImplicit := by decide +kernel
theorem k_lengths_below_top : (defScope s_lengths_below).names.lookup ("top" : Str) = some NameKind.local := by decide +kernel
theorem k_lengths_below_other : (defScope s_lengths_below).names.lookup ("other" : Str) = some NameKind.local := by decide +kernel
theorem k_lengths_below_column : (defScope s_lengths_below).names.lookup ("column" : Str) = some NameKind.local := by decide +kernel
theorem k_lengths_below_length : (defScope s_lengths_below).names.lookup ("length" : Str) = some NameKind.local := by decide +kernel
theorem k_lengths_below_sign : (defScope s_lengths_below).names.lookup ("sign" : Str) = some NameKind.local := by decide +kernel
theorem k_lengths_below_max : (defScope s_lengths_below).names.lookup ("max" : Str) = some NameKind.globalImplicit := by decide +kernel
theorem k_lengths_below_above : (defScope s_lengths_below).names.lookup ("above" : Str) = some NameKind.local := by decide +kernel
def RB (v : V) : Bool := readB v (LETT ++ Str.ofString ".") 48
def RowB (z : Str) : Prop := z.length ≤ 48 ∧ RB (.str z) = true
/-- the one of both that is refused -/
def bf (v u : V) : Option V := if RB v = true then (if RB u = true then none else some u) else some v
theorem notStr {H : Hp} {v : V} {ty : String} {l : Str} {m : Int} (h : TyOf K H v (.type ty)) (k : PySem.W.kitOne K (.type ty) (.type "str") = some false) : readB v l m = false := by
  cases v with
  | str z =>
    cases h
    have : PySem.W.kitOne K (.type "str") (.type "str") = some true := rfl
    rw [this] at k; cases k
  | _ => rfl
theorem sc_is_row : FnScope ["thing"] ["thing"] (defScope s_is_row) := ⟨rfl, rfl, rfl, by decide +kernel, rfl, by decide +kernel, by decide +kernel⟩
theorem h_is_row (T : Txt K mg) : Has P w K mg base 1 "is_row" ["thing"] (spIs K (LETT ++ Str.ofString ".") 48) := by
  refine hasJ T.d_is_row sc_is_row (fun _ _ _ _ _ _ us hl => match us, hl with | [_], _ => rfl) ?_ fun f cdv A outer s H vs Q E hr h => ?_
  · rintro vs H Q E ⟨p, rfl, _⟩; rfl
  obtain ⟨v, rfl, hT, q⟩ := h
  have hu := hr.units0
  have hu64 := hr.units
  refine ⟨_, (jb_cons (js_if (jw_pt (jw_or (jt_not (jt_val (j_callB (call_isiK (K := K) rfl) (glF k_is_row_isinstance) T.b_isinstance bt_isinstance (ja_cons (j_vL 0 k_is_row_thing) (ja_cons (j_ty (glF k_is_row_str) T.b_str bt_str (by decide +kernel) (by decide +kernel)) ja_nil)) (by decide +kernel) (by decide +kernel)))) (jw_or1 (jt_cmp op_gt (j_callB (call_lenK (K := K) rfl) (glF k_is_row_len) T.b_len bt_len (ja_cons (j_vL 0 k_is_row_thing) ja_nil) (by decide +kernel) (by decide +kernel)) (j_gint (glF k_is_row_MOST_SIGNS) T.c_MOST_SIGNS (by decide +kernel)) (by first | exact nomark _ | with_unfolding_all rfl))))) (jb_one (js_ret j_bl)) jb_nil) (jb_one (js_ret (j_callB (call_all rfl) (glF k_is_row_all) T.b_all bt_all (ja_cons (j_comp (sub := [none]) (subOk_of (N := ["thing"]) (sc := defScope s_is_row) (N' := ["sign"]) (by decide +kernel)) rfl rfl rfl (ji_seq (K := K) rfl (j_vL 0 k_is_row_thing)) (fun C s₀ H₀ ex => (jg_B 0 (by decide +kernel) nd_is_row_0)) (fun C s₀ H₀ ex => jif_nil) (fun C s₀ H₀ ex => (j_cmp (op_inK (K := K) rfl) (j_vBL 0 (by decide +kernel)) (j_op op_addA (j_gstr (glB (by decide +kernel)) T.c_LETTERS (by decide +kernel)) (j_gstr (glB (by decide +kernel)) T.c_POINT (by decide +kernel))) (by first | exact nomark _ | with_unfolding_all rfl)))) ja_nil) (by decide +kernel) (by decide +kernel))))), ?_⟩
  walk_at "sts"
  rcases hT with ⟨z, rfl, hz⟩ | ⟨ty, hty, hk⟩
  · have hz1 : z.length ≤ sizeLine := Nat.le_trans hz (by decide)
    refine r_isi (.str z) rfl ?_
    walk_at "sts"
    try with_reducible refine iteF ?_
    walk_at "sts"
    refine r_lenS hz1 ?_
    walk_at "sts"
    refine iteD (fun h1 => ?_) (fun h1 => ?_)
    · walk_at "sts"
      have : readB (.str z) (LETT ++ Str.ofString ".") 48 = false := by
        unfold readB
        dsimp only
        rw [decide_eq_false (by omega)]; rfl
      have q' := q H (Same.refl H)
      rw [this] at q'
      exact q'
    · walk_at "sts"
      refine .inr (.inr ⟨z, rfl, ?_⟩)
      refine comp_str (fun i us H' => H' = H ∧ us = ((z.cps.toList.take i).map fun c => !badC (LETT ++ Str.ofString ".") c).map V.bl) hz1 ⟨rfl, rfl⟩ ?_ ?_ ?_
      · rintro i us H' ⟨rfl, rfl⟩
        simp; omega
      · rintro i us H' c hc ⟨rfl, rfl⟩
        walk_at "sts"
        refine ⟨KeepSt.set rfl, ?_⟩
        walk_at "sts"
        try with_reducible refine iteT ?_
        walk_at "sts"
        refine r_addS (Nat.le_trans (show (Str.ofString "abcdefghijklmnopqrstuvwxyz").length + (Str.ofString ".").length ≤ 1000 by decide +kernel) (by decide)) ?_
        walk_at "sts"
        refine ⟨rfl, ?_⟩
        rw [List.take_add_one, hc]
        simp [LETT, badC]
      · rintro us H' ⟨rfl, rfl⟩ D hD
        walk_at "sts"
        refine ⟨D, _, rfl, upd_same, ?_⟩
        have e1 : z.cps.toList.take z.cps.size = z.cps.toList := List.take_of_length_le (by simp)
        have e2 : readB (.str z) (LETT ++ Str.ofString ".") 48 = (List.map (fun c => !badC (LETT ++ Str.ofString ".") c) (z.cps.toList.take z.cps.size)).all id := by
          unfold readB
          dsimp only
          rw [decide_eq_true (by omega), Bool.true_and, e1, List.all_map]; rfl
        have q' := q _ ((Same.refl H').upd hD (o := .lst (List.map V.bl (List.map (fun c => !badC (LETT ++ Str.ofString ".") c) (List.take z.cps.size z.cps.toList)))))
        rw [e2] at q'
        exact q'
  · refine r_isi hty hk ?_
    walk_at "sts"
    try with_reducible refine iteT ?_
    walk_at "sts"
    try with_reducible refine iteT ?_
    walk_at "sts"
    have q' := q H (Same.refl H)
    rw [notStr hty hk] at q'
    exact q'
theorem sci_NoRow : FnScope ["self", "found"] ["self", "found"] (defScope i_NoRow) := ⟨rfl, rfl, rfl, by decide +kernel, rfl, by decide +kernel, by decide +kernel⟩
theorem mk_NoRow (T : Txt K mg) : XMk P w K mg base 1 "NoRow" (clsA mg "NoRow") ["found"] := mkX T.x_NoRow sci_NoRow (fun _ _ _ _ _ _ us hl => match us, hl with | [_, _], _ => rfl) rfl fun f cdv A outer s H vs Q E hr h => ⟨_, (jb_one (js_fldX (K := K) rfl (j_vL 0 ki_NoRow_self) (j_vL 1 ki_NoRow_found))), rd1 T.x_NoRow.c.cl.cls (T.x_NoRow.na _ (by simp)) h⟩
def spNeedX (K : PySem.W.Frag) (mg : Str → Option Value) : Sp := fun vs H Q E => ∃ v : V, vs = [v] ∧ Thing K H v ∧ (RB v = true → ∀ H', Same H H' → Q .non H') ∧
  (RB v = false → ∀ e H', Same H H' → IsX H' e (clsA mg "NoRow") [("found", v)] → E (.ref (clsA mg "NoRow")) (some e) H')
theorem sc_need_row : FnScope ["thing"] ["thing"] (defScope s_need_row) := ⟨rfl, rfl, rfl, by decide +kernel, rfl, by decide +kernel, by decide +kernel⟩
theorem h_need_row (T : Txt K mg) : HasX P w K mg base 3 "need_row" ["thing"] (spNeedX K mg) := by
  have h_is_row := h_is_row (P := P) (w := w) (base := base) T
  refine hasJX T.d_need_row sc_need_row (fun _ _ _ _ _ _ us hl => match us, hl with | [_], _ => rfl) ?_ fun f cdv A outer s H vs Q E hr h => ?_
  · rintro vs H Q E ⟨v, rfl, _⟩; rfl
  obtain ⟨v, rfl, hT, q1, q2⟩ := h
  have hu := hr.units0
  have hu64 := hr.units
  refine ⟨_, (jb_one (js_if (jt_not (jt_val (j_call h_is_row (hr.mono (by decide)) (glF k_need_row_is_row) (ja_cons (j_vL 0 k_need_row_thing) ja_nil) (by decide +kernel)))) (jb_one (js_raise (mk_NoRow (P := P) (w := w) (base := base) T) (hr.mono (by decide)) rfl (glF k_need_row_NoRow) pass_def (ja_cons (j_vL 0 k_need_row_thing) ja_nil) (by decide +kernel))) jb_nil)), ?_⟩
  walk_at "sts"
  refine ⟨v, rfl, hT, fun H1 S1 => ?_⟩
  cases hb : readB v (LETT ++ Str.ofString ".") 48 with
  | true =>
    walk_at "sts"
    try with_reducible refine iteF ?_
    walk_at "sts"
    exact q1 hb _ S1
  | false =>
    walk_at "sts"
    try with_reducible refine iteT ?_
    walk_at "sts"
    exact ⟨rfl, (show 1 ≤ sizeLine by decide), fun x H2 S2 X2 => q2 hb x H2 (S1.trans S2) X2⟩
/-- a door of two rows: what is no row is refused, the side ahead of the top; else g -/
def spX (K : PySem.W.Frag) (mg : Str → Option Value) (g : Str → Str → Hp → VK → Prop) : Sp := fun vs H Q E => ∃ v u : V, vs = [v, u] ∧ Thing K H v ∧ Thing K H u ∧
  (∀ w, bf v u = some w → ∀ e H', Same H H' → IsX H' e (clsA mg "NoRow") [("found", w)] → E (.ref (clsA mg "NoRow")) (some e) H') ∧
  (∀ side top : Str, v = .str side → u = .str top → RowB side → RowB top → g side top H Q)
theorem RB_row {v : V} (h : RB v = true) : ∃ z, v = .str z ∧ RowB z := by
  cases v with
  | str z =>
    refine ⟨z, rfl, ?_, h⟩
    unfold RB readB at h
    simp only [Bool.and_eq_true, decide_eq_true_eq] at h
    omega
  | _ => cases h
theorem row_RB {z : Str} (h : Row z) : RB (.str z) = true := by
  unfold RB readB
  simp only [Bool.and_eq_true, decide_eq_true_eq]
  refine ⟨by have := h.1; omega, List.all_eq_true.mpr fun c hc => ?_⟩
  have := good_ok c (h.2 c hc)
  unfold badC at this
  rw [this]; rfl
theorem Row.b {z : Str} (h : Row z) : RowB z := ⟨h.1, row_RB h⟩
theorem row_thing {H : Hp} {z : Str} (h : RowB z) : Thing K H (.str z) := .inl ⟨z, rfl, by have := h.1; omega⟩
theorem bf_rows {z y : Str} (h : RowB z) (h' : RowB y) : bf (.str z) (.str y) = none := by
  unfold bf; rw [if_pos h.2, if_pos h'.2]
theorem spX.good {g : Str → Str → Hp → VK → Prop} {H : Hp} {Q : VK} {E : XK} {z y : Str} (h : RowB z) (h' : RowB y) (q : g z y H Q) : spX K mg g [.str z, .str y] H Q E :=
  ⟨_, _, rfl, row_thing h, row_thing h', (fun w e => by rw [bf_rows h h'] at e; cases e), fun s t e1 e2 _ _ => by cases e1; cases e2; exact q⟩
def gNon : Str → Str → Hp → VK → Prop := fun _ _ H Q => ∀ H', Same H H' → Q .non H'
theorem Thing.same {H H' : Hp} {v : V} (h : Thing K H v) (s : Same H H') : Thing K H' v := by
  rcases h with h | ⟨T, t, k⟩
  · exact .inl h
  · refine .inr ⟨T, ?_, k⟩
    cases t with
    | non => exact .non
    | bl x => exact .bl x
    | int i => exact .int i
    | str x => exact .str x
    | flt x => exact .flt x
    | lst e => exact .lst (s _ _ e)
    | frz e => exact .frz (s _ _ e)
    | tup e => exact .tup (s _ _ e)
    | dK e => exact .dK (s _ _ e)
    | dT e => exact .dT (s _ _ e)
theorem sc_need_rows : FnScope ["side", "top"] ["side", "top"] (defScope s_need_rows) := ⟨rfl, rfl, rfl, by decide +kernel, rfl, by decide +kernel, by decide +kernel⟩
theorem h_need_rows (T : Txt K mg) : HasX P w K mg base 4 "need_rows" ["side", "top"] (spX K mg gNon) := by
  have h_need_row := h_need_row (P := P) (w := w) (base := base) T
  refine hasJX T.d_need_rows sc_need_rows (fun _ _ _ _ _ _ us hl => match us, hl with | [_, _], _ => rfl) ?_ fun f cdv A outer s H vs Q E hr h => ?_
  · rintro vs H Q E ⟨v, u, rfl, _⟩; rfl
  obtain ⟨v, u, rfl, hv, hu', qx, q⟩ := h
  have hu := hr.units0
  have hu64 := hr.units
  refine ⟨_, (jb_cons (js_expr (j_callX h_need_row (hr.mono (by decide)) (glF k_need_rows_need_row) pass_def (ja_cons (j_vL 0 k_need_rows_side) ja_nil) (by decide +kernel))) (jb_one (js_expr (j_callX h_need_row (hr.mono (by decide)) (glF k_need_rows_need_row) pass_def (ja_cons (j_vL 1 k_need_rows_top) ja_nil) (by decide +kernel))))), ?_⟩
  walk_at "sts"
  refine ⟨v, rfl, hv, fun hb H1 S1 => ?_, fun hb e H' S X => qx v (by unfold bf; rw [if_neg (by rw [hb]; decide)]) e H' S X⟩
  walk_at "sts"
  refine ⟨u, rfl, hu'.same S1, fun hb2 H2 S2 => ?_, fun hb2 e H' S X => qx u (by unfold bf; rw [if_pos hb, if_neg (by rw [hb2]; decide)]) e H' (S1.trans S) X⟩
  walk_at "sts"
  obtain ⟨z, rfl, hz⟩ := RB_row hb
  obtain ⟨y, rfl, hy⟩ := RB_row hb2
  exact q z y rfl rfl hz hy _ (S1.trans S2)
theorem sc_lengths_below : FnScope ["above", "sign", "top", "row", "column", "other", "length"] ["above", "sign", "top"] (defScope s_lengths_below) := ⟨rfl, rfl, rfl, by decide +kernel, rfl, by decide +kernel, by decide +kernel⟩
theorem h_lengths_below (T : Txt K mg) : Has P w K mg base 1 "lengths_below" ["above", "sign", "top"] spBelow := by
  refine hasJ T.d_lengths_below sc_lengths_below (fun _ _ _ _ _ _ us hl => match us, hl with | [_, _, _], _ => rfl) ?_ fun f cdv A outer s H vs Q E hr h => ?_
  · rintro vs H Q E ⟨a, S, i, c, top, rfl, _⟩; rfl
  obtain ⟨a, S, i, c, top, rfl, hc, ht, ha, q⟩ := h
  have hu := hr.units0
  have hu64 := hr.units
  refine ⟨_, (jb_cons (js_set (i := 3) sc_lengths_below.nd rfl (Or.inl k_lengths_below_row) (j_lst (ja_cons j_int ja_nil)) rfl) (jb_cons (js_for PassesOwn.never rfl (ji_enum (K := K) rfl rfl (glF k_lengths_below_enumerate) T.b_enumerate (ja_cons (j_vL 2 k_lengths_below_top) ja_nil)) (jg_tup (K := K) rfl rfl (jgs_cons (jg_name (i := 4) sc_lengths_below.nd rfl (Or.inl k_lengths_below_column) rfl) (jgs_cons (jg_name (i := 5) sc_lengths_below.nd rfl (Or.inl k_lengths_below_other) rfl) jgs_nil))) (jb_cons (js_set (i := 6) sc_lengths_below.nd rfl (Or.inl k_lengths_below_length) (j_callB (call_max2 rfl) (glF k_lengths_below_max) T.b_max bt_max (ja_cons (j_ix (K := K) rfl (j_vL 0 k_lengths_below_above) (j_op op_addA (j_vL 4 k_lengths_below_column) j_int)) (ja_cons (j_ix (K := K) rfl (j_vL 3 k_lengths_below_row) (j_vL 4 k_lengths_below_column)) ja_nil)) (by decide +kernel) (by decide +kernel)) rfl) (jb_cons (js_if (jt_cmp (op_eqX (K := K) rfl hu64) (j_vL 1 k_lengths_below_sign) (j_vL 5 k_lengths_below_other) (by first | exact nomark _ | with_unfolding_all rfl)) (jb_one (js_set (i := 6) sc_lengths_below.nd rfl (Or.inl k_lengths_below_length) (j_callB (call_max2 rfl) (glF k_lengths_below_max) T.b_max bt_max (ja_cons (j_vL 6 k_lengths_below_length) (ja_cons (j_op op_addA (j_ix (K := K) rfl (j_vL 0 k_lengths_below_above) (j_vL 4 k_lengths_below_column)) j_int) ja_nil)) (by decide +kernel) (by decide +kernel)) rfl)) jb_nil) (jb_one (js_expr (j_meth (K := K) rfl PySem.F.plainAttrs_list PySem.F.slot_list_append PySem.F.type_list_append mt_append (j_vL 3 k_lengths_below_row) (ja_cons (j_vL 6 k_lengths_below_length) ja_nil))))))) (jb_one (js_ret (j_vL 3 k_lengths_below_row))))), ?_⟩
  walk_at "sts"
  refine ⟨by decide, fun r nr => ?_⟩
  walk_at "sts"
  refine .inl ⟨top, rfl, ?_⟩
  have hsz : top.cps.size = top.length := rfl
  refine for_Tp (fun j σ H' => Same H H' ∧ H' r = some (.lst ((rowT S top.cps.toList (i + 1) (j + 1)).map V.int)) ∧ ∃ x4 x5 x6, σ = [some (.ref a), some (.str ⟨#[c]⟩), some (.str top), some (.ref r), x4, x5, x6])
    ⟨(Same.refl H).upd nr, by rw [upd_same]; unfold rowT; simp [lt_z], none, none, none, rfl⟩ ?_ ?_
  · rintro j σ H1 T0 hj ⟨S1, hr1, x4, x5, x6, rfl⟩ nT
    have hj' : j < top.length := hj
    have ed : top.cps.toList[j]? = some (top.cps.getD j 0) := by
      rw [Array.getD_eq_getD_getElem?]
      have : top.cps[j]? = some top.cps[j] := Array.getElem?_eq_getElem hj
      simp [this, hj]
    refine r_gtup (xs := [.int j, .str ⟨#[top.cps.getD j 0]⟩]) (SqT.of upd_same) rfl ?_
    have ha2 : upd H1 T0 (.tup (enumS top j)) a = some (.lst ((rowT S top.cps.toList i (top.length + 1)).map V.int)) := upd_old nT (S1 _ _ ha)
    have hr2 : upd H1 T0 (.tup (enumS top j)) r = some (.lst ((rowT S top.cps.toList (i + 1) (j + 1)).map V.int)) := upd_old nT hr1
    have S2 : Same H (upd H1 T0 (.tup (enumS top j))) := S1.upd nT
    have hl : ((rowT S top.cps.toList (i + 1) (j + 1)).map V.int).length < sizeLine := by
      rw [List.length_map, rowT_len]
      exact Nat.lt_of_lt_of_le (show j + 1 < 1000 by omega) (by decide)
    walk_at "sts"
    refine r_ixL (SqL.of ha2) (at_row (j := j + 1) (by omega)) ?_
    walk_at "sts"
    refine r_ixL (SqL.of hr2) (at_row (j := j) (by omega)) ?_
    walk_at "sts"
    refine iteD (fun hk => ?_) (fun hk => ?_)
    · have ec : c = top.cps.getD j 0 := by
        have := Str.mk.inj (V.str.inj hk)
        simpa using this
      walk_at "sts"
      refine r_ixL (SqL.of ha2) (at_row (j := j) (by omega)) ?_
      walk_at "sts"
      refine ⟨.inl ⟨rfl, _, SqL.of hr2⟩, ?_⟩
      walk_at "sts"
      refine r_append hr2 hl ?_
      refine ⟨over S2 nr, ?_, _, _, _, rfl⟩
      have ev : lt S top.cps.toList (i + 1) (j + 1) = mx (mx (lt S top.cps.toList i (j + 1)) (lt S top.cps.toList (i + 1) j)) (lt S top.cps.toList i j + 1) := by rw [lt_s, if_pos (by rw [hc, ed, ec])]
      rw [upd_same, rowT_succ S _ (i + 1) (j + 1), ev, List.map_append]; rfl
    · have ec : ¬ S[i]? = top.cps.toList[j]? := by
        rw [hc, ed]
        intro z
        exact hk (by rw [Option.some.inj z])
      walk_at "sts"
      refine ⟨.inl ⟨rfl, _, SqL.of hr2⟩, ?_⟩
      walk_at "sts"
      refine r_append hr2 hl ?_
      refine ⟨over S2 nr, ?_, _, _, _, rfl⟩
      have ev : lt S top.cps.toList (i + 1) (j + 1) = mx (lt S top.cps.toList i (j + 1)) (lt S top.cps.toList (i + 1) j) := by rw [lt_s, if_neg ec]
      rw [upd_same, rowT_succ S _ (i + 1) (j + 1), ev, List.map_append]; rfl
  · rintro σ H1 ⟨S1, hr1, x4, x5, x6, rfl⟩
    walk_at "sts"
    exact q r H1 nr S1 hr1
/-- a list of rows at t: each at an address of its own -/
structure Tab (H : Hp) (t : Addr) (rs : List Addr) (rows : List (List Int)) : Prop where
  at_ : H t = some (.lst (rs.map V.ref))
  len : rs.length = rows.length
  nd : rs.Nodup
  ne : t ∉ rs
  row : ∀ (i : Nat) (r : Addr) (xs : List Int), rs[i]? = some r → rows[i]? = some xs → H r = some (.lst (xs.map V.int))
theorem zeros (S P : List Nat) (n : Nat) : (List.replicate n [V.int 0]).flatten = (rowT S P 0 n).map V.int := by
  induction n with
  | zero => rfl
  | succ n ih =>
    rw [rowT_succ, List.map_append, ← ih, lt_0, List.replicate_succ', List.flatten_append]; rfl
theorem atI_m1 {α : Type} {xs : List α} {n : Nat} {v : α} (h : xs.length = n + 1) (e : xs[n]? = some v) : atI xs (-1) = some v := by
  unfold atI ixN
  rw [h, if_neg (by omega), if_pos (by omega)]
  show xs[((-1 : Int) + ((n + 1 : Nat) : Int)).toNat]? = some v
  rw [show ((-1 : Int) + ((n + 1 : Nat) : Int)).toNat = n by omega]; exact e
def tabT (S P : List Nat) (m n : Nat) : List (List Int) := (List.range m).map fun i => rowT S P i n
def gLens : Str → Str → Hp → VK → Prop := fun side top H Q =>
  ∀ t rs H', H t = none → (∀ r ∈ rs, H r = none) → Same H H' → Tab H' t rs (tabT side.cps.toList top.cps.toList (side.length + 1) (top.length + 1)) → Q (.ref t) H'
theorem sc_lengths : FnScope ["side", "top", "table", "sign"] ["side", "top"] (defScope s_lengths) := ⟨rfl, rfl, rfl, by decide +kernel, rfl, by decide +kernel, by decide +kernel⟩
theorem h_lengths (T : Txt K mg) : HasX P w K mg base 5 "lengths" ["side", "top"] (spX K mg gLens) := by
  have h_need_rows := h_need_rows (P := P) (w := w) (base := base) T
  have h_lengths_below := h_lengths_below (P := P) (w := w) (base := base) T
  refine hasJX T.d_lengths sc_lengths (fun _ _ _ _ _ _ us hl => match us, hl with | [_, _], _ => rfl) ?_ fun f cdv A outer s H vs Q E hr h => ?_
  · rintro vs H Q E ⟨v, u, rfl, _⟩; rfl
  obtain ⟨v, u, rfl, hv, hu', qx, q⟩ := h
  have hu := hr.units0
  have hu64 := hr.units
  refine ⟨_, (jb_cons (js_expr (j_callX h_need_rows (hr.mono (by decide)) (glF k_lengths_need_rows) pass_def (ja_cons (j_vL 0 k_lengths_side) (ja_cons (j_vL 1 k_lengths_top) ja_nil)) (by decide +kernel))) (jb_cons (js_set (i := 2) sc_lengths.nd rfl (Or.inl k_lengths_table) (j_lst (ja_cons (j_op op_mulA (j_lst (ja_cons j_int ja_nil)) (j_op op_addA (j_callB (call_lenK (K := K) rfl) (glF k_lengths_len) T.b_len bt_len (ja_cons (j_vL 1 k_lengths_top) ja_nil) (by decide +kernel) (by decide +kernel)) j_int)) ja_nil)) rfl) (jb_cons (js_nox (js_for PassesOwn.never rfl (ji_seq (K := K) rfl (j_vL 0 k_lengths_side)) (jg_name (i := 3) sc_lengths.nd rfl (Or.inl k_lengths_sign) rfl) (jb_one (js_expr (j_meth (K := K) rfl PySem.F.plainAttrs_list PySem.F.slot_list_append PySem.F.type_list_append mt_append (j_vL 2 k_lengths_table) (ja_cons (j_call h_lengths_below (hr.mono (by decide)) (glF k_lengths_lengths_below) (ja_cons (j_ix (K := K) rfl (j_vL 2 k_lengths_table) (j_un un_neg j_int)) (ja_cons (j_vL 3 k_lengths_sign) (ja_cons (j_vL 1 k_lengths_top) ja_nil))) (by decide +kernel)) ja_nil)))))) (jb_one (js_ret (j_vL 2 k_lengths_table)))))), ?_⟩
  walk_at "sts"
  refine ⟨v, u, rfl, hv, hu', qx, fun side top e1 e2 hs ht H1 S1 => ?_⟩
  subst e1 e2
  have lt1 : top.length ≤ sizeLine := Nat.le_trans ht.1 (by decide)
  walk_at "sts"
  refine ⟨by simp; decide, fun p0 n0 => ?_⟩
  walk_at "sts"
  refine r_lenS lt1 ?_
  walk_at "sts"
  refine r_mulL upd_same (by omega) (by have := ht.1; omega) (Nat.le_trans (show [V.int 0].length * ((top.length : Int) + 1).toNat ≤ 1000 by have := ht.1; simp; omega) (by decide)) fun p1 n1 => ?_
  walk_at "sts"
  refine ⟨by simp; decide, fun t n2 => ?_⟩
  walk_at "sts"
  refine .inr (.inr ⟨side, rfl, ?_⟩)
  have e0 : (List.replicate ((top.length : Int) + 1).toNat [V.int 0]).flatten = (rowT side.cps.toList top.cps.toList 0 (top.length + 1)).map V.int := by
    rw [show ((top.length : Int) + 1).toNat = top.length + 1 by omega]
    exact zeros _ _ _
  rw [e0] at n2 ⊢
  have nt1 : H1 t = none := (((Same.refl H1).upd n0).upd n1).free n2
  have nt : H t = none := S1.free nt1
  have npt : p1 ≠ t := fun z => by rw [z, upd_same] at n2; cases n2
  refine for_str (z := side) (fun i σ H' => Same H H' ∧ (∃ rs, (∀ r ∈ rs, H r = none) ∧ Tab H' t rs (tabT side.cps.toList top.cps.toList (i + 1) (top.length + 1))) ∧ ∃ x3, σ = [some (.str side), some (.str top), some (.ref t), x3])
    ⟨(((S1.upd n0).upd n1).upd n2), ⟨[p1], fun r hr => by rw [List.mem_singleton.mp hr]; exact S1.free (((Same.refl H1).upd n0).free n1), ⟨upd_same, by simp [tabT], by simp, by simpa using Ne.symm npt, fun i r xs e1 e2 => ?_⟩⟩, none, rfl⟩ ?_ ?_
  · have hi : i = 0 := by
      have := (List.getElem?_eq_some_iff.mp e1).1
      simp at this; exact this
    subst hi
    simp [tabT] at e1 e2
    subst e1 e2
    exact upd_old n2 upd_same
  · rintro i σ H2 c hc ⟨S2, ⟨rs, fr, TB⟩, x3, rfl⟩
    have hi : i < side.length := by
      have := (List.getElem?_eq_some_iff.mp hc).1
      simpa [Str.length] using this
    have hrl : rs.length = i + 1 := by rw [TB.len]; simp [tabT]
    obtain ⟨r, er⟩ : ∃ r, rs[i]? = some r := ⟨_, List.getElem?_eq_getElem (show i < rs.length by omega)⟩
    have hrow := TB.row i r (rowT side.cps.toList top.cps.toList i (top.length + 1)) er (by unfold tabT; rw [List.getElem?_map, List.getElem?_range (by omega)]; rfl)
    walk_at "sts"
    refine ⟨.inl ⟨rfl, _, SqL.of TB.at_⟩, ?_⟩
    walk_at "sts"
    refine r_ixL (SqL.of TB.at_) (atI_m1 (n := i) (v := .ref r) (by simp [hrl]) (by rw [List.getElem?_map, er]; rfl)) ?_
    walk_at "sts"
    refine ⟨r, side.cps.toList, i, c, top, rfl, hc, ht.1, hrow, fun r2 H3 nr2 S3 hr2 => ?_⟩
    walk_at "sts"
    refine r_append (S3 _ _ TB.at_) (by rw [List.length_map, hrl]; exact Nat.lt_of_lt_of_le (show i + 1 < 1000 by have := hs.1; omega) (by decide)) ?_
    have nr2t : r2 ≠ t := fun z => by rw [z, TB.at_] at nr2; cases nr2
    have nrs : ∀ r' ∈ rs, r' ≠ t := fun r' hr' z => TB.ne (by rw [← z]; exact hr')
    have nin : r2 ∉ rs := fun z => by
      obtain ⟨k, hk, ek⟩ := List.mem_iff_getElem.mp z
      have hk2 : k < (tabT side.cps.toList top.cps.toList (i + 1) (top.length + 1)).length := by rw [← TB.len]; exact hk
      have := TB.row k r2 _ (by rw [List.getElem?_eq_getElem hk, ek]) (List.getElem?_eq_getElem hk2)
      rw [this] at nr2; cases nr2
    refine ⟨over (S2.trans S3) nt, ⟨rs ++ [r2], fun r hr => (List.mem_append.mp hr).elim (fr r) fun z => by rw [List.mem_singleton.mp z]; exact S2.free nr2, ⟨by rw [upd_same]; simp, by simp [hrl, tabT], ?_, ?_, fun k r' xs e1 e2 => ?_⟩⟩, _, rfl⟩
    · rw [List.nodup_append]
      exact ⟨TB.nd, by simp, fun a ha b hb z => nin (by rw [List.mem_singleton.mp hb] at z; rw [← z]; exact ha)⟩
    · intro z
      rcases List.mem_append.mp z with z | z
      · exact TB.ne z
      · exact nr2t (List.mem_singleton.mp z).symm
    · by_cases hk : k < rs.length
      · rw [List.getElem?_append_left hk] at e1
        rw [upd_ne (nrs r' (List.mem_of_getElem? e1))]
        refine S3 _ _ (TB.row k r' xs e1 ?_)
        unfold tabT at e2 ⊢
        rw [List.getElem?_map, List.getElem?_range (by omega)] at e2
        rw [List.getElem?_map, List.getElem?_range (by omega)]
        exact e2
      · have hk2 : k < (rs ++ [r2]).length := (List.getElem?_eq_some_iff.mp e1).1
        simp at hk2
        have hk3 : k = i + 1 := by omega
        subst hk3
        rw [List.getElem?_append_right (by omega), hrl] at e1
        simp at e1
        subst e1
        unfold tabT at e2
        rw [List.getElem?_map, List.getElem?_range (by omega)] at e2
        have e3 := Option.some.inj e2
        rw [upd_ne nr2t, ← e3]
        exact hr2
  · rintro σ H2 ⟨S2, ⟨rs, fr, TB⟩, x3, rfl⟩
    walk_at "sts"
    exact q _ _ rfl rfl hs ht t rs H2 nt fr S2 TB
end

theorem mx_l (i j : Int) : i ≤ mx i j := by unfold mx; split <;> omega
theorem mx_r (i j : Int) : j ≤ mx i j := by unfold mx; split <;> omega
theorem mx_le {i j k : Int} (h : i ≤ k) (h' : j ≤ k) : mx i j ≤ k := by unfold mx; split <;> omega
theorem lt_m1 (S P : List Nat) (i j : Nat) : lt S P i j ≤ lt S P (i + 1) j := by
  cases j with
  | zero => rw [lt_z, lt_z]; exact Int.le_refl _
  | succ j =>
    rw [lt_s]
    split
    · exact Int.le_trans (mx_l _ _) (mx_l _ _)
    · exact mx_l _ _
theorem lt_m2 (S P : List Nat) (i j : Nat) : lt S P i j ≤ lt S P i (j + 1) := by
  cases i with
  | zero => rw [lt_0, lt_0]; exact Int.le_refl _
  | succ i =>
    rw [lt_s S P i j]
    split
    · exact Int.le_trans (mx_r _ _) (mx_l _ _)
    · exact mx_r _ _
theorem lt_st (S P : List Nat) : ∀ (n i j : Nat), i + j ≤ n → lt S P (i + 1) j ≤ lt S P i j + 1 ∧ lt S P i (j + 1) ≤ lt S P i j + 1
  | n, i, j, h => by
    have key1 : lt S P (i + 1) j ≤ lt S P i j + 1 := by
      cases j with
      | zero => rw [lt_z, lt_z]; omega
      | succ j =>
        cases n with
        | zero => omega
        | succ n =>
          have a := (lt_st S P n i j (by omega)).1
          have b := lt_m2 S P i j
          rw [lt_s]
          split
          · exact mx_le (mx_le (by omega) (by omega)) (by omega)
          · exact mx_le (by omega) (by omega)
    have key2 : lt S P i (j + 1) ≤ lt S P i j + 1 := by
      cases i with
      | zero => rw [lt_0, lt_0]; omega
      | succ i =>
        cases n with
        | zero => omega
        | succ n =>
          have a := (lt_st S P n i j (by omega)).2
          have b := lt_m1 S P i j
          rw [lt_s]
          split
          · exact mx_le (mx_le (by omega) (by omega)) (by omega)
          · exact mx_le (by omega) (by omega)
    exact ⟨key1, key2⟩
theorem lt_eq {S P : List Nat} {i j : Nat} (h : S[i]? = P[j]?) : lt S P (i + 1) (j + 1) = lt S P i j + 1 := by
  have a := lt_st S P (i + j) i j (Nat.le_refl _)
  rw [lt_s, if_pos h]
  have l : mx (mx (lt S P i (j + 1)) (lt S P (i + 1) j)) (lt S P i j + 1) ≤ lt S P i j + 1 := mx_le (mx_le a.2 a.1) (Int.le_refl _)
  have r := mx_r (mx (lt S P i (j + 1)) (lt S P (i + 1) j)) (lt S P i j + 1)
  omega
abbrev PP := Nat × Nat
def pD (p : PP) : PyData := .tuple [.int p.1, .int p.2]
def TK (H H' : Hp) : Prop := ∀ b xs, H b = some (.tup xs) → H' b = some (.tup xs)
theorem TK.same {H H' : Hp} (s : Same H H') : TK H H' := fun b xs e => s b _ e
theorem TK.lst {H : Hp} {q : Addr} {xs : List V} {o : HO} (h : H q = some (.lst xs)) : TK H (upd H q o) := fun b ys e => by
  rw [upd_ne (fun z => by rw [z, h] at e; cases e)]; exact e
theorem DR_pD {H : Hp} {p : PP} {v : V} : DR H (pD p) v ↔ ∃ a, v = .ref a ∧ H a = some (.tup [.int p.1, .int p.2]) := by
  unfold pD
  rw [DR_tuple]
  constructor
  · rintro ⟨a, vs, e, h, r⟩
    rw [DRs_cons] at r
    obtain ⟨v1, r1, rfl, h1, r2⟩ := r
    rw [DRs_cons] at r2
    obtain ⟨v2, r3, rfl, h2, r4⟩ := r2
    rw [DRs_nil] at r4
    rw [DR_int] at h1 h2
    subst h1 h2 r4
    exact ⟨a, e, h⟩
  · rintro ⟨a, e, h⟩
    exact ⟨a, _, e, h, DRs_cons.mpr ⟨_, _, rfl, DR_int.mpr rfl, DRs_one (DR_int.mpr rfl)⟩⟩
theorem DRs_keep {H H' : Hp} (t : TK H H') : ∀ (ps : List PP) (vs : List V), DRs H (ps.map pD) vs → DRs H' (ps.map pD) vs
  | [], vs, h => by rw [List.map_nil, DRs_nil] at h ⊢; exact h
  | p :: ps, vs, h => by
    rw [List.map_cons, DRs_cons] at h ⊢
    obtain ⟨v, r, e, hd, hr⟩ := h
    obtain ⟨a, ea, ha⟩ := DR_pD.mp hd
    exact ⟨v, r, e, DR_pD.mpr ⟨a, ea, t _ _ ha⟩, DRs_keep t ps r hr⟩
/-- a list of pairs -/
def PL (H : Hp) (q : Addr) (ps : List PP) : Prop := ∃ vs, H q = some (.lst vs) ∧ DRs H (ps.map pD) vs
theorem PL.keep {H H' : Hp} {q : Addr} {ps : List PP} (h : PL H q ps) (t : TK H H') (e : ∀ vs, H q = some (.lst vs) → H' q = some (.lst vs)) : PL H' q ps := by
  obtain ⟨vs, h1, h2⟩ := h
  exact ⟨vs, e vs h1, DRs_keep t ps vs h2⟩
theorem PL.same {H H' : Hp} {q : Addr} {ps : List PP} (h : PL H q ps) (s : Same H H') : PL H' q ps := h.keep (TK.same s) fun _ e => s _ _ e
theorem PL.len {H : Hp} {q : Addr} {ps : List PP} (h : PL H q ps) : ∃ vs, H q = some (.lst vs) ∧ vs.length = ps.length ∧ DRs H (ps.map pD) vs := by
  obtain ⟨vs, h1, h2⟩ := h
  exact ⟨vs, h1, by have := DRs_len h2; simpa using this, h2⟩
theorem PL.push {H : Hp} {q T : Addr} {ps : List PP} {i j : Nat} (h : PL H q ps) (hT : H T = some (.tup [.int i, .int j])) : ∃ vs, H q = some (.lst vs) ∧ vs.length = ps.length ∧ PL (upd H q (.lst (vs ++ [.ref T]))) q (ps ++ [(i, j)]) := by
  obtain ⟨vs, h1, hl, h2⟩ := h.len
  refine ⟨vs, h1, hl, vs ++ [.ref T], upd_same, ?_⟩
  rw [List.map_append]
  refine DRs_append (DRs_keep (TK.lst h1) ps vs h2) (DRs_one (DR_pD.mpr ⟨T, rfl, TK.lst h1 _ _ hT⟩))
theorem shaped_ps (ps : List PP) : PySem.SeqAt.shaped (.list (ps.map pD)) = true := by
  have key : ∀ ps : List PP, PyData.canLayAll0 (ps.map pD) = true ∧ PyData.depthAll (ps.map pD) ≤ 1 := by
    intro ps
    induction ps with
    | nil => exact ⟨rfl, by simp [PyData.depthAll]⟩
    | cons p ps ih =>
      rw [List.map_cons]
      refine ⟨?_, ?_⟩
      · rw [PyData.canLayAll0, ih.1]; simp [pD, PyData.canLay0, PyData.canLayAll0]
      · rw [PyData.depthAll]
        have : PyData.depth (pD p) ≤ 1 := by simp [pD, PyData.depth, PyData.depthAll]
        omega
  obtain ⟨a, b⟩ := key ps
  unfold PySem.SeqAt.shaped
  rw [PyData.canLay0, a, PyData.depth, decide_eq_true (by omega)]; rfl
structure HTab (H : Hp) (t : Addr) (rs : List Addr) (hs : List (List PP)) : Prop where
  at_ : H t = some (.lst (rs.map V.ref))
  len : rs.length = hs.length
  nd : rs.Nodup
  ne : t ∉ rs
  row : ∀ (i : Nat) (r : Addr) (ps : List PP), rs[i]? = some r → hs[i]? = some ps → PL H r ps
theorem Tab.same {H H' : Hp} {t : Addr} {rs : List Addr} {hs : List (List Int)} (h : Tab H t rs hs) (s : Same H H') : Tab H' t rs hs :=
  ⟨s _ _ h.at_, h.len, h.nd, h.ne, fun i r ps e1 e2 => s _ _ (h.row i r ps e1 e2)⟩
theorem sign_eq {a b : Nat} : V.str ⟨#[a]⟩ = V.str ⟨#[b]⟩ ↔ a = b := by
  constructor
  · intro h
    have := Str.mk.inj (V.str.inj h)
    simpa using this
  · rintro rfl; rfl
/-- all but rs is as it was -/
def Out (rs : List Addr) (H H' : Hp) : Prop := ∀ b o, b ∉ rs → H b = some o → H' b = some o
theorem Out.refl (rs : List Addr) (H : Hp) : Out rs H H := fun _ _ _ e => e
theorem Out.step {rs : List Addr} {H H' : Hp} {r : Addr} {o : HO} (h : Out rs H H') (hr : r ∈ rs) : Out rs H (upd H' r o) := fun b u hb e => by
  rw [upd_ne (fun z => hb (by rw [z]; exact hr))]; exact h b u hb e
theorem Tab.out {rs : List Addr} {H H' : Hp} {t : Addr} {ts : List Addr} {rows : List (List Int)} (h : Tab H t ts rows) (o : Out rs H H') (n : t ∉ rs) (m : ∀ r ∈ ts, r ∉ rs) : Tab H' t ts rows :=
  ⟨o _ _ n h.at_, h.len, h.nd, h.ne, fun i r xs e1 e2 => o _ _ (m r (List.mem_of_getElem? e1)) (h.row i r xs e1 e2)⟩
theorem Tab.mem {H : Hp} {t : Addr} {rs : List Addr} {rows : List (List Int)} (h : Tab H t rs rows) {r : Addr} (hr : r ∈ rs) : ∃ xs, H r = some (.lst xs) := by
  obtain ⟨k, hk, ek⟩ := List.mem_iff_getElem.mp hr
  have hk2 : k < rows.length := by rw [← h.len]; exact hk
  exact ⟨_, h.row k r _ (by rw [List.getElem?_eq_getElem hk, ek]) (List.getElem?_eq_getElem hk2)⟩
theorem tab_at {H : Hp} {t : Addr} {rs : List Addr} {S P : List Nat} {m n : Nat} (TB : Tab H t rs (tabT S P m n)) {k : Int} {i : Nat} (hk : k = (i : Int)) (hi : i < m) : ∃ r, atI (rs.map V.ref) k = some (.ref r) ∧ rs[i]? = some r ∧ H r = some (.lst ((rowT S P i n).map V.int)) := by
  subst hk
  have hrl : rs.length = m := by rw [TB.len]; simp [tabT]
  obtain ⟨r, er⟩ : ∃ r, rs[i]? = some r := ⟨_, List.getElem?_eq_getElem (show i < rs.length by omega)⟩
  refine ⟨r, atI_nat (by rw [List.getElem?_map, er]; rfl), er, TB.row i r _ er (by unfold tabT; rw [List.getElem?_map, List.getElem?_range hi]; rfl)⟩
theorem row_at {S P : List Nat} {i n j : Nat} {k : Int} (hk : k = (j : Int)) (h : j < n) : atI ((rowT S P i n).map V.int) k = some (.int (lt S P i j)) := by
  subst hk; exact at_row h
theorem sgn_at {z : Str} {k : Int} {j : Nat} (hk : k = (j : Int)) (h : j < z.length) : ∃ c, z.cps.toList[j]? = some c ∧ atI z.cps.toList k = some c := by
  subst hk
  have : j < z.cps.toList.length := by simpa [Str.length] using h
  exact ⟨_, List.getElem?_eq_getElem this, atI_nat (List.getElem?_eq_getElem this)⟩

section
variable {P : Program} {w : World} {K : PySem.W.Frag} {mg : Str → Option Value} {base : Heap}
theorem k_thread_of_list : (defScope s_thread_of).names.lookup ("list" : Str) = some NameKind.globalImplicit := by decide +kernel
theorem k_thread_of_reversed : (defScope s_thread_of).names.lookup ("reversed" : Str) = some NameKind.globalImplicit := by decide +kernel
theorem k_thread_of_found : (defScope s_thread_of).names.lookup ("found" : Str) = some NameKind.local := by decide +kernel
theorem k_thread_of_j : (defScope s_thread_of).names.lookup ("j" : Str) = some NameKind.local := by decide +kernel
theorem k_thread_of_i : (defScope s_thread_of).names.lookup ("i" : Str) = some NameKind.local := by decide +kernel
theorem k_thread_of_side : (defScope s_thread_of).names.lookup ("side" : Str) = some NameKind.local := by decide +kernel
theorem k_thread_of_top : (defScope s_thread_of).names.lookup ("top" : Str) = some NameKind.local := by decide +kernel
theorem k_thread_of_table : (defScope s_thread_of).names.lookup ("table" : Str) = some NameKind.local := by decide +kernel
theorem k_thread_of_len : (defScope s_thread_of).names.lookup ("len" : Str) = some NameKind.globalImplicit := by decide +kernel
theorem k_thread_of_lengths : (defScope s_thread_of).names.lookup ("lengths" : Str) = some NameKind.globalImplicit := by decide +kernel
def MR (r : R2) : Prop := ∀ x y H Q Q', (∀ v H1, Q v H1 → Q' v H1) → r x y H Q → r x y H Q'
def ME (te : TE) : Prop := ∀ σ H Q Q', (∀ v H1, Q v H1 → Q' v H1) → te σ H Q → te σ H Q'
def MT (te : TT) : Prop := ∀ σ H Q Q', (∀ v H1, Q v H1 → Q' v H1) → te σ H Q → te σ H Q'
theorem mr_I0 (g : Int → Int → V) : MR (rI0 g) := by
  rintro x y H Q Q' h ⟨i, j, e1, e2, q⟩
  exact ⟨i, j, e1, e2, h _ _ q⟩
theorem me_var (i : Nat) : ME (tVar i) := by
  rintro σ H Q Q' h ⟨v, e, q⟩
  exact ⟨v, e, h _ _ q⟩
theorem me_c (v : V) : ME (tC v) := fun σ H Q Q' h q => h _ _ q
theorem me_op {r : R2} {ta tb : TE} (hr : MR r) (ha : ME ta) (hb : ME tb) : ME (tOp r ta tb) := fun σ H Q Q' h q => ha σ H _ _ (fun x H1 q1 => hb σ H1 _ _ (fun y H2 q2 => hr _ _ _ _ _ h q2) q1) q
theorem mt_test {te : TE} (h : ME te) : MT (tTest te) := fun σ H Q Q' hq q => h σ H _ _ (fun x H1 ⟨k, e, q1⟩ => ⟨k, e, hq _ _ q1⟩) q
theorem mt_and {t u : TT} (h : MT t) (h2 : MT u) : MT (tAnd t u) := fun σ H Q Q' hq q => h σ H _ _ (fun c H1 q1 => by
  cases c with
  | true => rw [if_pos rfl] at q1 ⊢; exact h2 _ _ _ _ hq q1
  | false => rw [if_neg Bool.false_ne_true] at q1 ⊢; exact hq _ _ q1) q
/-- the pairs that the way back meets, the last one first -/
def wb (S P : List Nat) (i j : Nat) : List PP := match i, j with
  | 0, _ => []
  | _ + 1, 0 => []
  | i + 1, j + 1 => if S[i]? = P[j]? then (i, j) :: wb S P i j else if lt S P i (j + 1) = lt S P (i + 1) (j + 1) then wb S P i (j + 1) else wb S P (i + 1) j
termination_by i + j
theorem wb_0 (S P : List Nat) (j : Nat) : wb S P 0 j = [] := by rw [wb]
theorem wb_z (S P : List Nat) (i : Nat) : wb S P i 0 = [] := by cases i <;> rw [wb]
theorem wb_s (S P : List Nat) (i j : Nat) : wb S P (i + 1) (j + 1) = if S[i]? = P[j]? then (i, j) :: wb S P i j else if lt S P i (j + 1) = lt S P (i + 1) (j + 1) then wb S P i (j + 1) else wb S P (i + 1) j := by rw [wb]
theorem wb_len (S P : List Nat) : ∀ (n i j : Nat), i + j ≤ n → (wb S P i j).length ≤ i
  | _, 0, j, _ => by rw [wb_0]; simp
  | _, i + 1, 0, _ => by rw [wb_z]; simp
  | 0, i + 1, j + 1, h => by omega
  | n + 1, i + 1, j + 1, h => by
    rw [wb_s]
    split
    · have := wb_len S P n i j (by omega); simp; omega
    · split
      · have := wb_len S P n i (j + 1) (by omega); omega
      · have := wb_len S P n (i + 1) j (by omega); omega
def mu34 (σ : St) (_ : Hp) : Nat := match σ[3]?, σ[4]? with
  | some (some (V.int z)), some (some (V.int y)) => z.toNat + y.toNat
  | _, _ => 0
theorem DRs_rev {H : Hp} : ∀ {ds : List PyData} {vs : List V}, DRs H ds vs → DRs H ds.reverse vs.reverse
  | [], _, h => by rw [DRs_nil] at h; subst h; exact DRs_nil.mpr rfl
  | d :: ds, _, h => by
    rw [DRs_cons] at h
    obtain ⟨v, r, rfl, hd, hr⟩ := h
    rw [List.reverse_cons, List.reverse_cons]
    exact DRs_append (DRs_rev hr) (DRs_one hd)
def gThread : Str → Str → Hp → VK → Prop := fun side top H Q => ∀ (q : Addr) (H' : Hp), H q = none → Same H H' → PL H' q (wb side.cps.toList top.cps.toList side.length top.length).reverse → Q (.ref q) H'
theorem sc_thread_of : FnScope ["side", "top", "table", "i", "j", "found"] ["side", "top"] (defScope s_thread_of) := ⟨rfl, rfl, rfl, by decide +kernel, rfl, by decide +kernel, by decide +kernel⟩
theorem h_thread_of (T : Txt K mg) : HasX P w K mg base 6 "thread_of" ["side", "top"] (spX K mg gThread) := by
  have h_lengths := h_lengths (P := P) (w := w) (base := base) T
  refine hasJX T.d_thread_of sc_thread_of (fun _ _ _ _ _ _ us hl => match us, hl with | [_, _], _ => rfl) ?_ fun f cdv A outer s H vs Q E hr h => ?_
  · rintro vs H Q E ⟨v, u, rfl, _⟩; rfl
  obtain ⟨v, u, rfl, hv, hu', qx, q⟩ := h
  have hu := hr.units0
  have hu64 := hr.units
  refine ⟨_, (jb_cons (js_set (i := 2) sc_thread_of.nd rfl (Or.inl k_thread_of_table) (j_callX h_lengths (hr.mono (by decide)) (glF k_thread_of_lengths) pass_def (ja_cons (j_vL 0 k_thread_of_side) (ja_cons (j_vL 1 k_thread_of_top) ja_nil)) (by decide +kernel)) rfl) (jb_cons (js_set (i := 3) sc_thread_of.nd rfl (Or.inl k_thread_of_i) (j_callB (call_lenK (K := K) rfl) (glF k_thread_of_len) T.b_len bt_len (ja_cons (j_vL 0 k_thread_of_side) ja_nil) (by decide +kernel) (by decide +kernel)) rfl) (jb_cons (js_set (i := 4) sc_thread_of.nd rfl (Or.inl k_thread_of_j) (j_callB (call_lenK (K := K) rfl) (glF k_thread_of_len) T.b_len bt_len (ja_cons (j_vL 1 k_thread_of_top) ja_nil) (by decide +kernel) (by decide +kernel)) rfl) (jb_cons (js_set (i := 5) sc_thread_of.nd rfl (Or.inl k_thread_of_found) (j_lst ja_nil) rfl) (jb_cons (js_nox (js_while PassesOwn.never (jw_pt (jw_and (jt_cmp op_gt (j_vL 3 k_thread_of_i) j_int (by first | exact nomark _ | with_unfolding_all rfl)) (jw_and1 (jt_cmp op_gt (j_vL 4 k_thread_of_j) j_int (by first | exact nomark _ | with_unfolding_all rfl))))) (jb_one (js_if (jt_cmp (op_eqX (K := K) rfl hu64) (j_ix (K := K) rfl (j_vL 0 k_thread_of_side) (j_op op_sub (j_vL 3 k_thread_of_i) j_int)) (j_ix (K := K) rfl (j_vL 1 k_thread_of_top) (j_op op_sub (j_vL 4 k_thread_of_j) j_int)) (by first | exact nomark _ | with_unfolding_all rfl)) (jb_cons (js_aug (i := 3) sc_thread_of.nd rfl (Or.inl k_thread_of_i) j_int iop_sub rfl) (jb_cons (js_aug (i := 4) sc_thread_of.nd rfl (Or.inl k_thread_of_j) j_int iop_sub rfl) (jb_one (js_expr (j_meth (K := K) rfl PySem.F.plainAttrs_list PySem.F.slot_list_append PySem.F.type_list_append mt_append (j_vL 5 k_thread_of_found) (ja_cons (j_tup (ja_cons (j_vL 3 k_thread_of_i) (ja_cons (j_vL 4 k_thread_of_j) ja_nil))) ja_nil)))))) (jb_one (js_if (jt_cmp (op_eqX (K := K) rfl hu64) (j_ix (K := K) rfl (j_ix (K := K) rfl (j_vL 2 k_thread_of_table) (j_op op_sub (j_vL 3 k_thread_of_i) j_int)) (j_vL 4 k_thread_of_j)) (j_ix (K := K) rfl (j_ix (K := K) rfl (j_vL 2 k_thread_of_table) (j_vL 3 k_thread_of_i)) (j_vL 4 k_thread_of_j)) (by first | exact nomark _ | with_unfolding_all rfl)) (jb_one (js_aug (i := 3) sc_thread_of.nd rfl (Or.inl k_thread_of_i) j_int iop_sub rfl)) (jb_one (js_aug (i := 4) sc_thread_of.nd rfl (Or.inl k_thread_of_j) j_int iop_sub rfl)))))))) (jb_one (js_ret (j_listRev (K := K) rfl rfl (glF k_thread_of_list) T.b_list (glF k_thread_of_reversed) T.b_reversed (j_vL 5 k_thread_of_found))))))))), ?_⟩
  walk_at "sts"
  refine ⟨v, u, rfl, hv, hu', qx, fun side top e1 e2 hs ht t rs H1 nt fr S1 TB => ?_⟩
  subst e1 e2
  have lz : side.length ≤ sizeLine := Nat.le_trans hs.1 (by decide)
  have ly : top.length ≤ sizeLine := Nat.le_trans ht.1 (by decide)
  walk_at "sts"
  refine r_lenS lz ?_
  walk_at "sts"
  refine r_lenS ly ?_
  walk_at "sts"
  refine r_new rfl fun fd nfd => ?_
  walk_at "sts"
  have nH : H fd = none := S1.free nfd
  refine while_by (fun σ H' => ∃ (i j : Nat) (fs : List PP), σ = [some (.str side), some (.str top), some (.ref t), some (.int i), some (.int j), some (.ref fd)] ∧ Same H H' ∧ Tab H' t rs (tabT side.cps.toList top.cps.toList (side.length + 1) (top.length + 1)) ∧ PL H' fd fs ∧ i ≤ side.length ∧ j ≤ top.length ∧ fs.length + i ≤ side.length ∧ fs ++ wb side.cps.toList top.cps.toList i j = wb side.cps.toList top.cps.toList side.length top.length) mu34
    ⟨side.length, top.length, [], rfl, S1.upd nfd, TB.same ((Same.refl H1).upd nfd), ⟨[], upd_same, DRs_nil.mpr rfl⟩, Nat.le_refl _, Nat.le_refl _, by simp, rfl⟩ ?_ ?_
  · rintro σ H' ⟨i, j, fs, rfl, s, TB', hf, hi, hj, hfl, hb⟩
    walk_at "sts"
    cases i with
    | zero =>
      rw [decide_eq_false (by omega)]
      walk_at "sts"
      rw [wb_0, List.append_nil] at hb
      obtain ⟨vs, h1, h2⟩ := hf
      refine ⟨_, rfl, _, _, rfl, SqL.of h1, fun r nr => ?_⟩
      exact q _ _ rfl rfl hs ht r _ (s.free nr) (s.upd nr) ⟨_, upd_same, by rw [← hb, List.map_reverse]; exact DRs.same ((Same.refl H').upd nr) _ _ (DRs_rev h2)⟩
    | succ i =>
      rw [decide_eq_true (by omega)]
      walk_at "sts"
      cases j with
      | zero =>
        rw [decide_eq_false (by omega)]
        walk_at "sts"
        rw [wb_z, List.append_nil] at hb
        obtain ⟨vs, h1, h2⟩ := hf
        refine ⟨_, rfl, _, _, rfl, SqL.of h1, fun r nr => ?_⟩
        exact q _ _ rfl rfl hs ht r _ (s.free nr) (s.upd nr) ⟨_, upd_same, by rw [← hb, List.map_reverse]; exact DRs.same ((Same.refl H').upd nr) _ _ (DRs_rev h2)⟩
      | succ j =>
        rw [decide_eq_true (by omega)]
        walk_at "sts"
        obtain ⟨c, hc, ac⟩ := sgn_at (z := side) (k := ((i + 1 : Nat) : Int) - 1) (j := i) (by omega) (by omega)
        obtain ⟨d, hd, ad⟩ := sgn_at (z := top) (k := ((j + 1 : Nat) : Int) - 1) (j := j) (by omega) (by omega)
        refine r_ixS lz ac ?_
        walk_at "sts"
        refine r_ixS ly ad ?_
        walk_at "sts"
        refine iteD (fun hk => ?_) (fun hk => ?_)
        · have ec : side.cps.toList[i]? = top.cps.toList[j]? := by rw [hc, hd, sign_eq.mp hk]
          walk_at "sts"
          refine r_aug (by with_unfolding_all rfl) ?_
          walk_at "sts"
          refine r_aug (by with_unfolding_all rfl) ?_
          walk_at "sts"
          rw [show ((i + 1 : Nat) : Int) - 1 = (i : Int) by omega, show ((j + 1 : Nat) : Int) - 1 = (j : Int) by omega]
          obtain ⟨vs0, h0, _⟩ := id hf
          refine ⟨.inl ⟨rfl, _, SqL.of h0⟩, ?_⟩
          walk_at "sts"
          refine ⟨by simp; decide, fun T1 nT1 => ?_⟩
          walk_at "sts"
          have s1 := (Same.refl H').upd nT1 (o := .tup [.int i, .int j])
          obtain ⟨vs, h1, hl, h2⟩ := (hf.same s1).push (T := T1) upd_same
          refine r_append h1 (by rw [hl]; exact Nat.lt_of_lt_of_le (show fs.length < 1000 by have := hs.1; omega) (by decide)) ?_
          have nfT : ∀ r ∈ t :: rs, r ≠ fd := fun r hr z => by
            subst z
            have : H1 r ≠ none := by
              rcases List.mem_cons.mp hr with rfl | hr
              · rw [TB.at_]; simp
              · obtain ⟨xs, e⟩ := TB.mem hr; rw [e]; simp
            exact this nfd
          refine ⟨⟨i, j, fs ++ [(i, j)], rfl, over (s.trans s1) nH, (TB'.same s1).out (rs := [fd]) ((Out.refl [fd] _).step (by simp)) (by simpa using nfT t (by simp)) (fun r hr => by simpa using nfT r (List.mem_cons_of_mem _ hr)), h2, by omega, by omega, by simp; omega, ?_⟩, ?_⟩
          · rw [← hb, wb_s, if_pos ec, List.append_assoc]; rfl
          · show (i : Int).toNat + (j : Int).toNat < ((i + 1 : Nat) : Int).toNat + ((j + 1 : Nat) : Int).toNat
            omega
        · have ec : ¬ side.cps.toList[i]? = top.cps.toList[j]? := by
            rw [hc, hd]
            intro z
            exact hk (by rw [Option.some.inj z])
          obtain ⟨r1, a1, _, b1⟩ := tab_at TB' (k := ((i + 1 : Nat) : Int) - 1) (i := i) (by omega) (by omega)
          obtain ⟨r2, a2, _, b2⟩ := tab_at TB' (k := ((i + 1 : Nat) : Int)) (i := i + 1) rfl (by omega)
          walk_at "sts"
          refine r_ixL (SqL.of TB'.at_) a1 ?_
          walk_at "sts"
          refine r_ixL (SqL.of b1) (row_at (j := j + 1) rfl (by omega)) ?_
          walk_at "sts"
          refine r_ixL (SqL.of TB'.at_) a2 ?_
          walk_at "sts"
          refine r_ixL (SqL.of b2) (row_at (j := j + 1) rfl (by omega)) ?_
          walk_at "sts"
          refine iteD (fun hk2 => ?_) (fun hk2 => ?_)
          · have el : lt side.cps.toList top.cps.toList i (j + 1) = lt side.cps.toList top.cps.toList (i + 1) (j + 1) := by injection hk2
            walk_at "sts"
            refine r_aug (by with_unfolding_all rfl) ?_
            walk_at "sts"
            refine ⟨⟨i, j + 1, fs, by rw [show ((i + 1 : Nat) : Int) - 1 = (i : Int) by omega]; rfl, s, TB', hf, by omega, by omega, by omega, ?_⟩, ?_⟩
            · rw [← hb, wb_s, if_neg ec, if_pos el]
            · show (((i + 1 : Nat) : Int) - 1).toNat + ((j + 1 : Nat) : Int).toNat < ((i + 1 : Nat) : Int).toNat + ((j + 1 : Nat) : Int).toNat
              omega
          · have el : ¬ lt side.cps.toList top.cps.toList i (j + 1) = lt side.cps.toList top.cps.toList (i + 1) (j + 1) := fun z => hk2 (by rw [z])
            walk_at "sts"
            refine r_aug (by with_unfolding_all rfl) ?_
            walk_at "sts"
            refine ⟨⟨i + 1, j, fs, by rw [show ((j + 1 : Nat) : Int) - 1 = (j : Int) by omega]; rfl, s, TB', hf, by omega, by omega, by omega, ?_⟩, ?_⟩
            · rw [← hb, wb_s, if_neg ec, if_neg el]
            · show ((i + 1 : Nat) : Int).toNat + (((j + 1 : Nat) : Int) - 1).toNat < ((i + 1 : Nat) : Int).toNat + ((j + 1 : Nat) : Int).toNat
              omega
  · exact mt_and (mt_test (me_op (mr_I0 _) (me_var _) (me_c _))) (mt_test (me_op (mr_I0 _) (me_var _) (me_c _)))
end

section
variable {P : Program} {w : World} {K : PySem.W.Frag} {mg : Str → Option Value} {base : Heap}
theorem k_is_number_isinstance : (defScope s_is_number).names.lookup ("isinstance" : Str) = some NameKind.globalImplicit := by decide +kernel
theorem k_is_number_bool : (defScope s_is_number).names.lookup ("bool" : Str) = some NameKind.globalImplicit := by decide +kernel
theorem k_is_number_thing : (defScope s_is_number).names.lookup ("thing" : Str) = some NameKind.local := by decide +kernel
theorem k_is_number_int : (defScope s_is_number).names.lookup ("int" : Str) = some NameKind.globalImplicit := by decide +kernel
theorem k_is_pair_is_number : (defScope s_is_pair).names.lookup ("is_number" : Str) = some NameKind.globalImplicit := by decide +kernel
theorem k_is_pair_thing : (defScope s_is_pair).names.lookup ("thing" : Str) = some NameKind.local := by decide +kernel
theorem k_is_pair_len : (defScope s_is_pair).names.lookup ("len" : Str) = some NameKind.globalImplicit := by decide +kernel
theorem k_is_pair_isinstance : (defScope s_is_pair).names.lookup ("isinstance" : Str) = some NameKind.globalImplicit := by decide +kernel
theorem k_is_pair_tuple : (defScope s_is_pair).names.lookup ("tuple" : Str) = some NameKind.globalImplicit := by decide +kernel
def tyN : PyData → String
  | .none => "NoneType" | .bool _ => "bool" | .int _ => "int" | .str _ => "str" | .list _ => "list" | .tuple _ => "tuple" | .dict _ => "dict"
theorem rd_ty {H : Hp} {d : PyData} {v : V} (h : RD H d v) : TyOf K H v (.type (tyN d)) := by
  cases d with
  | none => rw [RD_none] at h; subst h; exact .non
  | bool b => rw [RD_bool] at h; subst h; exact .bl _
  | int n => rw [RD_int] at h; subst h; exact .int _
  | str n => rw [RD_str] at h; subst h; exact .str _
  | list ds => obtain ⟨a, vs, rfl, e, _⟩ := RD_list.mp h; exact .lst e
  | tuple ds => obtain ⟨a, vs, rfl, e, _⟩ := RD_tuple.mp h; exact .tup e
  | dict ds => obtain ⟨a, vs, rfl, e, _⟩ := RD_dict.mp h; exact .dK e
def isNumD : PyData → Bool
  | .int _ => true
  | _ => false
def isTupD : PyData → Bool
  | .tuple _ => true
  | _ => false
def isLstD : PyData → Bool
  | .list _ => true
  | _ => false
theorem kit_tup (d : PyData) : PySem.W.kitOne K (.type (tyN d)) (.type "tuple") = some (isTupD d) := by cases d <;> rfl
theorem kit_lst (d : PyData) : PySem.W.kitOne K (.type (tyN d)) (.type "list") = some (isLstD d) := by cases d <;> rfl
def spNum : Sp := fun vs H Q _ => ∃ (v : V) (d : PyData), vs = [v] ∧ RD H d v ∧ Q (.bl (isNumD d)) H
theorem sc_is_number : FnScope ["thing"] ["thing"] (defScope s_is_number) := ⟨rfl, rfl, rfl, by decide +kernel, rfl, by decide +kernel, by decide +kernel⟩
theorem h_is_number (T : Txt K mg) : Has P w K mg base 1 "is_number" ["thing"] spNum := by
  refine hasJ T.d_is_number sc_is_number (fun _ _ _ _ _ _ us hl => match us, hl with | [_], _ => rfl) ?_ fun f cdv A outer s H vs Q E hr h => ?_
  · rintro vs H Q E ⟨v, d, rfl, _⟩; rfl
  obtain ⟨v, d, rfl, hd, q⟩ := h
  have hu := hr.units0
  have hu64 := hr.units
  refine ⟨_, (jb_one (js_ret (j_and (j_callB (call_isiK (K := K) rfl) (glF k_is_number_isinstance) T.b_isinstance bt_isinstance (ja_cons (j_vL 0 k_is_number_thing) (ja_cons (j_ty (glF k_is_number_int) T.b_int bt_int (by decide +kernel) (by decide +kernel)) ja_nil)) (by decide +kernel) (by decide +kernel)) (j_one (j_not (j_callB (call_isiK (K := K) rfl) (glF k_is_number_isinstance) T.b_isinstance bt_isinstance (ja_cons (j_vL 0 k_is_number_thing) (ja_cons (j_ty (glF k_is_number_bool) T.b_bool bt_bool (by decide +kernel) (by decide +kernel)) ja_nil)) (by decide +kernel) (by decide +kernel))))))), ?_⟩
  walk_at "sts"
  cases d with
  | int n =>
    refine r_isi (rd_ty hd) rfl ?_
    walk_at "sts"
    refine r_isi (rd_ty hd) rfl ?_
    walk_at "sts"
    exact q
  | bool n =>
    refine r_isi (b := true) (rd_ty hd) rfl ?_
    walk_at "sts"
    refine r_isi (b := true) (rd_ty hd) rfl ?_
    walk_at "sts"
    exact q
  | none =>
    refine r_isi (rd_ty hd) rfl ?_
    walk_at "sts"
    exact q
  | str n =>
    refine r_isi (rd_ty hd) rfl ?_
    walk_at "sts"
    exact q
  | list n =>
    refine r_isi (rd_ty hd) rfl ?_
    walk_at "sts"
    exact q
  | tuple n =>
    refine r_isi (rd_ty hd) rfl ?_
    walk_at "sts"
    exact q
  | dict n =>
    refine r_isi (rd_ty hd) rfl ?_
    walk_at "sts"
    exact q
def isPairD : PyData → Bool
  | .tuple [a, b] => isNumD a && isNumD b
  | _ => false
def spPair : Sp := fun vs H Q _ => ∃ (v : V) (d : PyData), vs = [v] ∧ RD H d v ∧ Q (.bl (isPairD d)) H
theorem RDs_len {H : Hp} : ∀ {ds : List PyData} {vs : List V}, RDs H ds vs → vs.length = ds.length
  | [], _, h => by rw [RDs_nil] at h; subst h; rfl
  | d :: ds, _, h => by rw [RDs_cons] at h; obtain ⟨v, r, rfl, _, hr⟩ := h; simp [RDs_len hr]
theorem RDs_two {H : Hp} {a b : PyData} {vs : List V} (h : RDs H [a, b] vs) : ∃ v u, vs = [v, u] ∧ RD H a v ∧ RD H b u := by
  rw [RDs_cons] at h
  obtain ⟨v, r, rfl, h1, h2⟩ := h
  rw [RDs_cons] at h2
  obtain ⟨u, r, rfl, h3, h4⟩ := h2
  rw [RDs_nil] at h4
  subst h4
  exact ⟨v, u, rfl, h1, h3⟩
theorem isPair_len {ds : List PyData} (h : ds.length ≠ 2) : isPairD (.tuple ds) = false := by
  match ds, h with
  | [], _ => rfl
  | [_], _ => rfl
  | [_, _], h => exact absurd rfl h
  | _ :: _ :: _ :: _, _ => rfl
theorem sc_is_pair : FnScope ["thing"] ["thing"] (defScope s_is_pair) := ⟨rfl, rfl, rfl, by decide +kernel, rfl, by decide +kernel, by decide +kernel⟩
theorem h_is_pair (T : Txt K mg) : Has P w K mg base 2 "is_pair" ["thing"] spPair := by
  have h_is_number := h_is_number (P := P) (w := w) (base := base) T
  refine hasJ T.d_is_pair sc_is_pair (fun _ _ _ _ _ _ us hl => match us, hl with | [_], _ => rfl) ?_ fun f cdv A outer s H vs Q E hr h => ?_
  · rintro vs H Q E ⟨v, d, rfl, _⟩; rfl
  obtain ⟨v, d, rfl, hd, q⟩ := h
  have hu := hr.units0
  have hu64 := hr.units
  refine ⟨_, (jb_one (js_ret (j_and (j_callB (call_isiK (K := K) rfl) (glF k_is_pair_isinstance) T.b_isinstance bt_isinstance (ja_cons (j_vL 0 k_is_pair_thing) (ja_cons (j_ty (glF k_is_pair_tuple) T.b_tuple bt_tuple (by decide +kernel) (by decide +kernel)) ja_nil)) (by decide +kernel) (by decide +kernel)) (j_and (j_cmp (op_eqX (K := K) rfl hu64) (j_callB (call_lenK (K := K) rfl) (glF k_is_pair_len) T.b_len bt_len (ja_cons (j_vL 0 k_is_pair_thing) ja_nil) (by decide +kernel) (by decide +kernel)) j_int (by first | exact nomark _ | with_unfolding_all rfl)) (j_and (j_call h_is_number (hr.mono (by decide)) (glF k_is_pair_is_number) (ja_cons (j_ix (K := K) rfl (j_vL 0 k_is_pair_thing) j_int) ja_nil) (by decide +kernel)) (j_one (j_call h_is_number (hr.mono (by decide)) (glF k_is_pair_is_number) (ja_cons (j_ix (K := K) rfl (j_vL 0 k_is_pair_thing) j_int) ja_nil) (by decide +kernel)))))))), ?_⟩
  walk_at "sts"
  refine r_isi (rd_ty hd) (kit_tup d) ?_
  by_cases ht : isTupD d = true
  · cases d with
    | tuple ds =>
      rw [ht]
      obtain ⟨a, us, rfl, e, r⟩ := RD_tuple.mp hd
      have hl := RDs_len r
      walk_at "sts"
      refine r_lenT (SqT.of e) ?_
      walk_at "sts"
      by_cases h2 : ds.length = 2
      · rw [decide_eq_true (by rw [hl, h2]; rfl)]
        match ds, h2, r with
        | [d1, d2], _, r =>
          obtain ⟨v1, v2, rfl, r1, r2⟩ := RDs_two r
          walk_at "sts"
          refine ⟨v1, d1, rfl, r1, ?_⟩
          walk_at "sts"
          cases hn : isNumD d1 with
          | true =>
            walk_at "sts"
            refine ⟨v2, d2, rfl, r2, ?_⟩
            walk_at "sts"
            have : isPairD (.tuple [d1, d2]) = isNumD d2 := by show (isNumD d1 && isNumD d2) = _; rw [hn]; rfl
            rw [this] at q
            exact q
          | false =>
            walk_at "sts"
            have : isPairD (.tuple [d1, d2]) = false := by show (isNumD d1 && isNumD d2) = _; rw [hn]; rfl
            rw [this] at q
            exact q
      · rw [decide_eq_false (by intro z; injection z with z; omega)]
        walk_at "sts"
        rw [isPair_len h2] at q
        exact q
    | _ => cases ht
  · have : isTupD d = false := by simpa using ht
    rw [this]
    walk_at "sts"
    have : isPairD d = false := by cases d <;> first | rfl | cases this
    rw [this] at q
    exact q
end

section
variable {P : Program} {w : World} {K : PySem.W.Frag} {mg : Str → Option Value} {base : Heap}
theorem k_is_match_side : (defScope s_is_match).names.lookup ("side" : Str) = some NameKind.local := by decide +kernel
theorem k_is_match_i : (defScope s_is_match).names.lookup ("i" : Str) = some NameKind.local := by decide +kernel
theorem k_is_match_top : (defScope s_is_match).names.lookup ("top" : Str) = some NameKind.local := by decide +kernel
theorem k_is_match_j : (defScope s_is_match).names.lookup ("j" : Str) = some NameKind.local := by decide +kernel
theorem k_is_match_len : (defScope s_is_match).names.lookup ("len" : Str) = some NameKind.globalImplicit := by decide +kernel
theorem k_is_match_thing : (defScope s_is_match).names.lookup ("thing" : Str) = some NameKind.local := by decide +kernel
theorem k_is_match_is_pair : (defScope s_is_match).names.lookup ("is_pair" : Str) = some NameKind.globalImplicit := by decide +kernel
theorem k_is_ahead_pair : (defScope s_is_ahead).names.lookup ("pair" : Str) = some NameKind.local := by decide +kernel
theorem k_is_ahead_other : (defScope s_is_ahead).names.lookup ("other" : Str) = some NameKind.local := by decide +kernel
def matchI (z y : Str) (i j : Int) : Bool := decide (0 ≤ i) && decide (i < z.length) && decide (0 ≤ j) && decide (j < y.length) && decide (z.cps.toList[i.toNat]? = y.cps.toList[j.toNat]?)
def matchD (z y : Str) : PyData → Bool
  | .tuple [.int i, .int j] => matchI z y i j
  | _ => false
theorem matchD_no {z y : Str} {d : PyData} (h : isPairD d = false) : matchD z y d = false := by
  unfold matchD
  split
  · cases h
  · rfl
theorem pair_of {d : PyData} (h : isPairD d = true) : ∃ i j, d = .tuple [.int i, .int j] := by
  unfold isPairD at h
  split at h
  · rename_i a b
    rw [Bool.and_eq_true] at h
    cases a <;> cases b <;> simp only [isNumD, Bool.false_eq_true, and_false, false_and] at h <;> exact ⟨_, _, rfl⟩
  · cases h
theorem RD_pair {H : Hp} {i j : Int} {v : V} : RD H (.tuple [.int i, .int j]) v ↔ ∃ a, v = .ref a ∧ H a = some (.tup [.int i, .int j]) := by
  rw [RD_tuple]
  constructor
  · rintro ⟨a, vs, rfl, e, r⟩
    obtain ⟨v1, v2, rfl, r1, r2⟩ := RDs_two r
    rw [RD_int] at r1 r2
    subst r1 r2
    exact ⟨a, rfl, e⟩
  · rintro ⟨a, rfl, e⟩
    exact ⟨a, _, rfl, e, RDs_one (RD_int.mpr rfl) (RDs_one (RD_int.mpr rfl) (RDs_nil.mpr rfl))⟩
def spMatch : Sp := fun vs H Q _ => ∃ (z y : Str) (v : V) (d : PyData), vs = [.str z, .str y, v] ∧ RD H d v ∧ z.length ≤ 48 ∧ y.length ≤ 48 ∧ Q (.bl (matchD z y d)) H
theorem sc_is_match : FnScope ["side", "top", "thing", "i", "j"] ["side", "top", "thing"] (defScope s_is_match) := ⟨rfl, rfl, rfl, by decide +kernel, rfl, by decide +kernel, by decide +kernel⟩
theorem h_is_match (T : Txt K mg) : Has P w K mg base 3 "is_match" ["side", "top", "thing"] spMatch := by
  have h_is_pair := h_is_pair (P := P) (w := w) (base := base) T
  refine hasJ T.d_is_match sc_is_match (fun _ _ _ _ _ _ us hl => match us, hl with | [_, _, _], _ => rfl) ?_ fun f cdv A outer s H vs Q E hr h => ?_
  · rintro vs H Q E ⟨z, y, v, d, rfl, _⟩; rfl
  obtain ⟨z, y, v, d, rfl, hd, hz, hy, q⟩ := h
  have hu := hr.units0
  have hu64 := hr.units
  refine ⟨_, (jb_cons (js_if (jt_not (jt_val (j_call h_is_pair (hr.mono (by decide)) (glF k_is_match_is_pair) (ja_cons (j_vL 2 k_is_match_thing) ja_nil) (by decide +kernel)))) (jb_one (js_ret j_bl)) jb_nil) (jb_cons (js_set (i := 3) sc_is_match.nd rfl (Or.inl k_is_match_i) (j_ix (K := K) rfl (j_vL 2 k_is_match_thing) j_int) rfl) (jb_cons (js_set (i := 4) sc_is_match.nd rfl (Or.inl k_is_match_j) (j_ix (K := K) rfl (j_vL 2 k_is_match_thing) j_int) rfl) (jb_one (js_ret (j_and (j_chain op_le op_lt j_int (j_vL 3 k_is_match_i) (j_callB (call_lenK (K := K) rfl) (glF k_is_match_len) T.b_len bt_len (ja_cons (j_vL 0 k_is_match_side) ja_nil) (by decide +kernel) (by decide +kernel))) (j_and (j_chain op_le op_lt j_int (j_vL 4 k_is_match_j) (j_callB (call_lenK (K := K) rfl) (glF k_is_match_len) T.b_len bt_len (ja_cons (j_vL 1 k_is_match_top) ja_nil) (by decide +kernel) (by decide +kernel))) (j_one (j_cmp (op_eqX (K := K) rfl hu64) (j_ix (K := K) rfl (j_vL 0 k_is_match_side) (j_vL 3 k_is_match_i)) (j_ix (K := K) rfl (j_vL 1 k_is_match_top) (j_vL 4 k_is_match_j)) (by first | exact nomark _ | with_unfolding_all rfl)))))))))), ?_⟩
  walk_at "sts"
  refine ⟨v, d, rfl, hd, ?_⟩
  walk_at "sts"
  have lz : z.length ≤ sizeLine := Nat.le_trans hz (by decide)
  have ly : y.length ≤ sizeLine := Nat.le_trans hy (by decide)
  cases hp : isPairD d with
  | false =>
    walk_at "sts"
    rw [matchD_no hp] at q
    exact q
  | true =>
    obtain ⟨i, j, rfl⟩ := pair_of hp
    obtain ⟨a, rfl, e⟩ := RD_pair.mp hd
    walk_at "sts"
    replace q : Q (.bl (matchI z y i j)) H := q
    unfold matchI at q
    by_cases h1 : 0 ≤ i
    · rw [decide_eq_true h1] at q ⊢
      walk_at "sts"
      refine r_lenS lz ?_
      walk_at "sts"
      by_cases h2 : i < z.length
      · rw [decide_eq_true h2] at q ⊢
        walk_at "sts"
        by_cases h3 : 0 ≤ j
        · rw [decide_eq_true h3] at q ⊢
          walk_at "sts"
          refine r_lenS ly ?_
          walk_at "sts"
          by_cases h4 : j < y.length
          · rw [decide_eq_true h4] at q ⊢
            obtain ⟨c, hc, ac⟩ := sgn_at (z := z) (k := i) (j := i.toNat) (by omega) (by omega)
            obtain ⟨d, hd, ad⟩ := sgn_at (z := y) (k := j) (j := j.toNat) (by omega) (by omega)
            rw [hc, hd] at q
            walk_at "sts"
            refine r_ixS lz ac ?_
            walk_at "sts"
            refine r_ixS ly ad ?_
            walk_at "sts"
            have : decide (V.str ⟨#[c]⟩ = V.str ⟨#[d]⟩) = decide (some c = some d) := by
              refine decide_eq_decide.mpr ?_
              rw [sign_eq]; simp
            rw [this]
            exact q
          · rw [decide_eq_false h4] at q ⊢
            walk_at "sts"
            simpa using q
        · rw [decide_eq_false h3] at q ⊢
          walk_at "sts"
          simpa using q
      · rw [decide_eq_false h2] at q ⊢
        walk_at "sts"
        simpa using q
    · rw [decide_eq_false h1] at q ⊢
      walk_at "sts"
      simpa using q
def spAhead : Sp := fun vs H Q _ => ∃ (a b : Addr) (i j k l : Int), vs = [.ref a, .ref b] ∧ H a = some (.tup [.int i, .int j]) ∧ H b = some (.tup [.int k, .int l]) ∧ Q (.bl (decide (i < k) && decide (j < l))) H
theorem sc_is_ahead : FnScope ["pair", "other"] ["pair", "other"] (defScope s_is_ahead) := ⟨rfl, rfl, rfl, by decide +kernel, rfl, by decide +kernel, by decide +kernel⟩
theorem h_is_ahead (T : Txt K mg) : Has P w K mg base 1 "is_ahead" ["pair", "other"] spAhead := by
  refine hasJ T.d_is_ahead sc_is_ahead (fun _ _ _ _ _ _ us hl => match us, hl with | [_, _], _ => rfl) ?_ fun f cdv A outer s H vs Q E hr h => ?_
  · rintro vs H Q E ⟨a, b, i, j, k, l, rfl, _⟩; rfl
  obtain ⟨a, b, i, j, k, l, rfl, ha, hb, q⟩ := h
  have hu := hr.units0
  have hu64 := hr.units
  refine ⟨_, (jb_one (js_ret (j_and (j_cmp op_lt (j_ix (K := K) rfl (j_vL 0 k_is_ahead_pair) j_int) (j_ix (K := K) rfl (j_vL 1 k_is_ahead_other) j_int) (by first | exact nomark _ | with_unfolding_all rfl)) (j_one (j_cmp op_lt (j_ix (K := K) rfl (j_vL 0 k_is_ahead_pair) j_int) (j_ix (K := K) rfl (j_vL 1 k_is_ahead_other) j_int) (by first | exact nomark _ | with_unfolding_all rfl)))))), ?_⟩
  walk_at "sts"
  by_cases h1 : i < k
  · rw [decide_eq_true h1] at q ⊢
    walk_at "sts"
    exact q
  · rw [decide_eq_false h1] at q ⊢
    walk_at "sts"
    exact q
end

section
variable {P : Program} {w : World} {K : PySem.W.Frag} {mg : Str → Option Value} {base : Heap}
theorem nd_is_thread_0 : (["place", "thing"] : List Str).Nodup := by decide +kernel
theorem nd_is_thread_1 : (["pair", "side", "top"] : List Str).Nodup := by decide +kernel
theorem k_is_thread_all : (defScope s_is_thread).names.lookup ("all" : Str) = some NameKind.globalImplicit := by decide +kernel
theorem k_is_thread_range : (defScope s_is_thread).names.lookup ("range" : Str) = some NameKind.globalImplicit := by decide +kernel
theorem k_is_thread_len : (defScope s_is_thread).names.lookup ("len" : Str) = some NameKind.globalImplicit := by decide +kernel
theorem k_is_thread_thing : (defScope s_is_thread).names.lookup ("thing" : Str) = some NameKind.cell := by decide +kernel
theorem k_is_thread_isinstance : (defScope s_is_thread).names.lookup ("isinstance" : Str) = some NameKind.globalImplicit := by decide +kernel
theorem k_is_thread_list : (defScope s_is_thread).names.lookup ("list" : Str) = some NameKind.globalImplicit := by decide +kernel
theorem k_is_thread_need_rows : (defScope s_is_thread).names.lookup ("need_rows" : Str) = some NameKind.globalImplicit := by decide +kernel
theorem k_is_thread_top : (defScope s_is_thread).names.lookup ("top" : Str) = some NameKind.cell := by decide +kernel
theorem k_is_thread_side : (defScope s_is_thread).names.lookup ("side" : Str) = some NameKind.cell := by decide +kernel
theorem RDs_at {H : Hp} : ∀ {ds : List PyData} {vs : List V} {i : Nat} {x : V}, RDs H ds vs → vs[i]? = some x → ∃ d, ds[i]? = some d ∧ RD H d x
  | [], _, i, x, h, e => by rw [RDs_nil] at h; subst h; simp at e
  | d :: ds, _, 0, x, h, e => by
    rw [RDs_cons] at h
    obtain ⟨v, r, rfl, hd, _⟩ := h
    simp at e
    subst e
    exact ⟨d, rfl, hd⟩
  | d :: ds, _, i + 1, x, h, e => by
    rw [RDs_cons] at h
    obtain ⟨v, r, rfl, _, hr⟩ := h
    obtain ⟨d', h1, h2⟩ := RDs_at hr (by simpa using e)
    exact ⟨d', by simpa using h1, h2⟩
def aheadD : PyData → PyData → Bool
  | .tuple [.int i, .int j], .tuple [.int k, .int l] => decide (i < k) && decide (j < l)
  | _, _ => false
def threadD (z y : Str) : PyData → Bool
  | .list ds => ds.all (matchD z y) && (List.range (ds.length - 1)).all fun k => aheadD (ds.getD k .none) (ds.getD (k + 1) .none)
  | _ => false
theorem match_pair {z y : Str} {d : PyData} (h : matchD z y d = true) : ∃ i j, d = .tuple [.int i, .int j] := by
  refine pair_of ?_
  cases hp : isPairD d with
  | true => rfl
  | false => rw [matchD_no hp] at h; cases h
/-- a door of two rows and a thing -/
def spX3 (K : PySem.W.Frag) (mg : Str → Option Value) (g : Str → Str → V → Hp → VK → Prop) : Sp := fun vs H Q E => ∃ v u t : V, vs = [v, u, t] ∧ Thing K H v ∧ Thing K H u ∧
  (∀ w, bf v u = some w → ∀ e H', Same H H' → IsX H' e (clsA mg "NoRow") [("found", w)] → E (.ref (clsA mg "NoRow")) (some e) H') ∧
  (∀ side top : Str, v = .str side → u = .str top → RowB side → RowB top → g side top t H Q)
theorem spX3.good {g : Str → Str → V → Hp → VK → Prop} {H : Hp} {Q : VK} {E : XK} {z y : Str} {t : V} (h : RowB z) (h' : RowB y) (q : g z y t H Q) : spX3 K mg g [.str z, .str y, t] H Q E :=
  ⟨_, _, _, rfl, row_thing h, row_thing h', (fun w e => by rw [bf_rows h h'] at e; cases e), fun s t e1 e2 _ _ => by cases e1; cases e2; exact q⟩
def gIsTh : Str → Str → V → Hp → VK → Prop := fun side top t H Q => ∃ d, RD H d t ∧ (∀ ds, d = .list ds → ds.length ≤ 5000) ∧ ∀ H', Same H H' → Q (.bl (threadD side top d)) H'
theorem sc_is_thread : FnScope ["side", "top", "thing"] ["side", "top", "thing"] (defScope s_is_thread) := ⟨rfl, rfl, rfl, by decide +kernel, rfl, by decide +kernel, by decide +kernel⟩
theorem h_is_thread (T : Txt K mg) : HasX P w K mg base 5 "is_thread" ["side", "top", "thing"] (spX3 K mg gIsTh) := by
  have h_need_rows := h_need_rows (P := P) (w := w) (base := base) T
  have h_is_ahead := h_is_ahead (P := P) (w := w) (base := base) T
  have h_is_match := h_is_match (P := P) (w := w) (base := base) T
  refine hasJX T.d_is_thread sc_is_thread (fun _ _ _ _ _ _ us hl => match us, hl with | [_, _, _], _ => rfl) ?_ fun f cdv A outer s H vs Q E hr h => ?_
  · rintro vs H Q E ⟨v, u, t, rfl, _⟩; rfl
  obtain ⟨v, u, t, rfl, hv, hu', qx, q⟩ := h
  have hu := hr.units0
  have hu64 := hr.units
  refine ⟨_, (jb_cons (js_expr (j_callX h_need_rows (hr.mono (by decide)) (glF k_is_thread_need_rows) pass_def (ja_cons (j_vC 0 k_is_thread_side) (ja_cons (j_vC 1 k_is_thread_top) ja_nil)) (by decide +kernel))) (jb_cons (js_if (jw_pt (jw_or (jt_not (jt_val (j_callB (call_isiK (K := K) rfl) (glF k_is_thread_isinstance) T.b_isinstance bt_isinstance (ja_cons (j_vC 2 k_is_thread_thing) (ja_cons (j_ty (glF k_is_thread_list) T.b_list bt_list (by decide +kernel) (by decide +kernel)) ja_nil)) (by decide +kernel) (by decide +kernel)))) (jw_or1 (jt_not (jt_val (j_callB (call_all rfl) (glF k_is_thread_all) T.b_all bt_all (ja_cons (j_comp (sub := [none, some 0, some 1]) (subOk_of (N := ["side", "top", "thing"]) (sc := defScope s_is_thread) (N' := ["pair", "side", "top"]) (by decide +kernel)) rfl rfl rfl (ji_seq (K := K) rfl (j_vC 2 k_is_thread_thing)) (fun C s₀ H₀ ex => (jg_B 0 (by decide +kernel) nd_is_thread_1)) (fun C s₀ H₀ ex => jif_nil) (fun C s₀ H₀ ex => (j_call h_is_match (hr.mono (by decide)) (glB (by decide +kernel)) (ja_cons (j_vBF 1 (by decide +kernel)) (ja_cons (j_vBF 2 (by decide +kernel)) (ja_cons (j_vBL 0 (by decide +kernel)) ja_nil))) (by decide +kernel)))) ja_nil) (by decide +kernel) (by decide +kernel))))))) (jb_one (js_ret j_bl)) jb_nil) (jb_one (js_ret (j_callB (call_all rfl) (glF k_is_thread_all) T.b_all bt_all (ja_cons (j_comp (sub := [none, some 2]) (subOk_of (N := ["side", "top", "thing"]) (sc := defScope s_is_thread) (N' := ["place", "thing"]) (by decide +kernel)) rfl rfl rfl (ji_range1 (glF k_is_thread_range) T.b_range (ja_cons (j_op op_sub (j_callB (call_lenK (K := K) rfl) (glF k_is_thread_len) T.b_len bt_len (ja_cons (j_vC 2 k_is_thread_thing) ja_nil) (by decide +kernel) (by decide +kernel)) j_int) ja_nil)) (fun C s₀ H₀ ex => (jg_B 0 (by decide +kernel) nd_is_thread_0)) (fun C s₀ H₀ ex => jif_nil) (fun C s₀ H₀ ex => (j_call h_is_ahead (hr.mono (by decide)) (glB (by decide +kernel)) (ja_cons (j_ix (K := K) rfl (j_vBF 1 (by decide +kernel)) (j_vBL 0 (by decide +kernel))) (ja_cons (j_ix (K := K) rfl (j_vBF 1 (by decide +kernel)) (j_op op_addA (j_vBL 0 (by decide +kernel)) j_int)) ja_nil)) (by decide +kernel)))) ja_nil) (by decide +kernel) (by decide +kernel)))))), ?_⟩
  walk_at "sts"
  refine ⟨v, u, rfl, hv, hu', qx, fun side top e1 e2 hs ht H1 S1 => ?_⟩
  subst e1 e2
  obtain ⟨d, hd0, hsz, q2⟩ := q _ _ rfl rfl hs ht
  have hd := RD.same S1 _ _ hd0
  walk_at "sts"
  cases hL : isLstD d with
  | true =>
    obtain ⟨ds, rfl⟩ : ∃ ds, d = .list ds := by cases d <;> first | exact ⟨_, rfl⟩ | cases hL
    obtain ⟨a, us, rfl, e, r⟩ := RD_list.mp hd
    have hl := RDs_len r
    have h5 := hsz ds rfl
    have hz : us.length ≤ sizeLine := Nat.le_trans (show us.length ≤ 5000 by omega) (by decide)
    refine r_isi (.lst e) rfl ?_
    walk_at "sts"
    refine .inl ⟨a, rfl, ⟨_, SqL.of e⟩, ?_⟩
    refine comp_list (xs := us) (fun i ys H' => H' = H1 ∧ ys = ((ds.take i).map (matchD side top)).map V.bl) hz ⟨rfl, rfl⟩ ?_ ?_ ?_ ?_
    · rintro i ys H' ⟨_, rfl⟩
      simp; omega
    · rintro i ys H' ⟨rfl, rfl⟩
      exact SqL.of e
    · rintro i ys H' x hx ⟨rfl, rfl⟩
      obtain ⟨d, h1, h2⟩ := RDs_at r hx
      walk_at "sts"
      refine ⟨KeepSt.set rfl, ?_⟩
      walk_at "sts"
      refine ⟨side, top, x, d, rfl, h2, hs.1, ht.1, rfl, ?_⟩
      rw [List.take_add_one, h1]
      simp
    · rintro ys H' ⟨rfl, rfl⟩ D hD
      rw [hl, List.take_length]
      walk_at "sts"
      refine ⟨D, _, rfl, upd_same, ?_⟩
      walk_at "sts"
      have e2 : ((ds.map (matchD side top)).all id) = ds.all (matchD side top) := by rw [List.all_map]; rfl
      rw [e2]
      have S2 : Same H' (upd H' D (.lst ((ds.map (matchD side top)).map V.bl))) := (Same.refl H').upd hD
      cases hm : ds.all (matchD side top) with
      | false =>
        walk_at "sts"
        have : threadD side top (.list ds) = false := by
          show (ds.all (matchD side top) && _) = false
          rw [hm, Bool.false_and]
        rw [this] at q2
        exact q2 _ (S1.trans S2)
      | true =>
        have e3 := S2 _ _ e
        have r3 := RDs.same S2 _ _ r
        generalize upd H' D (.lst ((ds.map (matchD side top)).map V.bl)) = H3 at S2 e3 r3 ⊢
        walk_at "sts"
        refine r_lenL (SqL.of e3) ?_
        walk_at "sts"
        refine ⟨_, rfl, by omega, by omega, ?_⟩
        rw [show ((us.length : Int) - 1).toNat = ds.length - 1 by omega]
        refine comp_rng (n := ds.length - 1) (fun i ys H' => H' = H3 ∧ ys = ((List.range i).map fun k => aheadD (ds.getD k .none) (ds.getD (k + 1) .none)).map V.bl) (by omega) ⟨rfl, rfl⟩ ?_ ?_ ?_
        · rintro i ys H' ⟨_, rfl⟩
          simp
        · rintro i ys H' hi ⟨rfl, rfl⟩
          have g1 : us[i]? = some (us[i]'(by omega)) := List.getElem?_eq_getElem _
          have g2 : us[i + 1]? = some (us[i + 1]'(by omega)) := List.getElem?_eq_getElem _
          obtain ⟨d1, h1, k1⟩ := RDs_at r3 g1
          obtain ⟨d2, h2, k2⟩ := RDs_at r3 g2
          obtain ⟨i1, j1, rfl⟩ := match_pair (List.all_eq_true.mp hm d1 (List.mem_of_getElem? h1))
          obtain ⟨i2, j2, rfl⟩ := match_pair (List.all_eq_true.mp hm d2 (List.mem_of_getElem? h2))
          obtain ⟨a1, ea1, f1⟩ := RD_pair.mp k1
          obtain ⟨a2, ea2, f2⟩ := RD_pair.mp k2
          rw [ea1] at g1
          rw [ea2] at g2
          walk_at "sts"
          refine ⟨KeepSt.set rfl, ?_⟩
          walk_at "sts"
          refine r_ixL (SqL.of e3) (atI_int (by omega) (by rw [show (0 + (i : Int)).toNat = i by omega]; exact g1)) ?_
          walk_at "sts"
          refine r_ixL (SqL.of e3) (atI_int (by omega) (by rw [show (0 + (i : Int) + 1).toNat = i + 1 by omega]; exact g2)) ?_
          walk_at "sts"
          refine ⟨a1, a2, i1, j1, i2, j2, rfl, f1, f2, rfl, ?_⟩
          rw [List.range_succ, List.map_append, List.map_append]
          simp [h1, h2, aheadD]
        · rintro ys H' ⟨rfl, rfl⟩ D2 hD2
          walk_at "sts"
          refine ⟨D2, _, rfl, upd_same, ?_⟩
          walk_at "sts"
          have : threadD side top (.list ds) = (((List.range (ds.length - 1)).map fun k => aheadD (ds.getD k .none) (ds.getD (k + 1) .none)).all id) := by
            show (ds.all (matchD side top) && _) = _
            rw [hm, Bool.true_and, List.all_map]; rfl
          rw [this] at q2
          exact q2 _ ((S1.trans S2).upd hD2)
  | false =>
    refine r_isi (rd_ty hd) (by rw [kit_lst, hL]) ?_
    walk_at "sts"
    have : threadD side top d = false := by unfold threadD; split <;> first | rfl | cases hL
    rw [this] at q2
    exact q2 _ S1
end

def dec (p q : PP) : Prop := q.1 < p.1 ∧ q.2 < p.2
theorem wb_ok (S P : List Nat) : ∀ (n i j : Nat), i + j ≤ n → (∀ p ∈ wb S P i j, p.1 < i ∧ p.2 < j ∧ S[p.1]? = P[p.2]?) ∧ (wb S P i j).Pairwise dec ∧ ((wb S P i j).length : Int) = lt S P i j
  | _, 0, j, _ => by rw [wb_0, lt_0]; exact ⟨by simp, .nil, rfl⟩
  | _, i + 1, 0, _ => by rw [wb_z, lt_z]; exact ⟨by simp, .nil, rfl⟩
  | 0, i + 1, j + 1, h => by omega
  | n + 1, i + 1, j + 1, h => by
    rw [wb_s]
    by_cases e : S[i]? = P[j]?
    · rw [if_pos e, lt_eq e]
      obtain ⟨a, b, c⟩ := wb_ok S P n i j (by omega)
      refine ⟨fun p hp => ?_, .cons (fun p hp => ?_) b, by rw [← c]; simp⟩
      · rcases List.mem_cons.mp hp with rfl | hp
        · exact ⟨by simp, by simp, e⟩
        · obtain ⟨x, y, z⟩ := a p hp; exact ⟨by omega, by omega, z⟩
      · obtain ⟨x, y, z⟩ := a p hp; exact ⟨x, y⟩
    · rw [if_neg e]
      by_cases e2 : lt S P i (j + 1) = lt S P (i + 1) (j + 1)
      · rw [if_pos e2, ← e2]
        obtain ⟨a, b, c⟩ := wb_ok S P n i (j + 1) (by omega)
        exact ⟨fun p hp => by obtain ⟨x, y, z⟩ := a p hp; exact ⟨by omega, by omega, z⟩, b, c⟩
      · rw [if_neg e2]
        obtain ⟨a, b, c⟩ := wb_ok S P n (i + 1) j (by omega)
        refine ⟨fun p hp => by obtain ⟨x, y, z⟩ := a p hp; exact ⟨by omega, by omega, z⟩, b, ?_⟩
        rw [c]
        rw [lt_s, if_neg e] at e2 ⊢
        unfold mx at e2 ⊢
        split <;> split at e2 <;> omega
def adj : List PyData → Bool
  | [] => true
  | [_] => true
  | a :: b :: r => aheadD a b && adj (b :: r)
theorem adj_range : ∀ ds : List PyData, ((List.range (ds.length - 1)).all fun k => aheadD (ds.getD k .none) (ds.getD (k + 1) .none)) = adj ds
  | [] => rfl
  | [_] => rfl
  | a :: b :: r => by
    have ih := adj_range (b :: r)
    rw [adj, ← ih]
    simp only [List.length_cons, Nat.add_sub_cancel]
    rw [List.range_succ_eq_map, List.all_cons, List.all_map]
    rfl
def rdL (z y : Str) : Int → Int → List PyData → Bool
  | _, _, [] => true
  | l0, l1, d :: r => match d with
    | .tuple [.int i, .int j] => decide (l0 < i) && decide (i < z.length) && decide (l1 < j) && decide (j < y.length) && decide (z.cps.toList[i.toNat]? = y.cps.toList[j.toNat]?) && rdL z y i j r
    | _ => false
def readsD (z y : Str) : PyData → Bool
  | .list ds => rdL z y (-1) (-1) ds
  | _ => false
def headOk (l0 l1 : Int) : List PyData → Bool
  | [] => true
  | d :: _ => aheadD (.tuple [.int l0, .int l1]) d
theorem rdL_no {z y : Str} {l0 l1 : Int} {d : PyData} {r : List PyData} (h : isPairD d = false) : rdL z y l0 l1 (d :: r) = false := by
  rw [rdL]
  intro i j e
  subst e
  cases h
theorem rdL_pair {z y : Str} {l0 l1 i j : Int} {r : List PyData} : rdL z y l0 l1 (.tuple [.int i, .int j] :: r) = (decide (l0 < i) && decide (i < z.length) && decide (l1 < j) && decide (j < y.length) && decide (z.cps.toList[i.toNat]? = y.cps.toList[j.toNat]?) && rdL z y i j r) := by rw [rdL]
theorem adj_cons (i j : Int) (r : List PyData) : adj (.tuple [.int i, .int j] :: r) = (headOk i j r && adj r) := by
  cases r with
  | nil => rfl
  | cons b r => rfl
theorem rdL_eq {z y : Str} : ∀ (ds : List PyData) (l0 l1 : Int), -1 ≤ l0 → -1 ≤ l1 → rdL z y l0 l1 ds = (ds.all (matchD z y) && (adj ds && headOk l0 l1 ds))
  | [], _, _, _, _ => rfl
  | d :: r, l0, l1, h0, h1 => by
    cases hp : isPairD d with
    | false => rw [rdL_no hp, List.all_cons, matchD_no hp]; rfl
    | true =>
      obtain ⟨i, j, rfl⟩ := pair_of hp
      rw [rdL_pair, List.all_cons, adj_cons]
      show _ = ((matchI z y i j && r.all (matchD z y)) && ((headOk i j r && adj r) && (decide (l0 < i) && decide (l1 < j))))
      by_cases a : l0 < i
      · by_cases b : l1 < j
        · rw [rdL_eq r i j (by omega) (by omega)]
          unfold matchI
          rw [decide_eq_true a, decide_eq_true b, decide_eq_true (show 0 ≤ i by omega), decide_eq_true (show 0 ≤ j by omega)]
          cases decide (i < (z.length : Int)) <;> cases decide (j < (y.length : Int)) <;> cases decide (z.cps.toList[i.toNat]? = y.cps.toList[j.toNat]?) <;> cases r.all (matchD z y) <;> cases adj r <;> cases headOk i j r <;> rfl
        · rw [decide_eq_false b]; simp
      · rw [decide_eq_false a]; simp
theorem reads_thread (z y : Str) (d : PyData) : readsD z y d = threadD z y d := by
  cases d with
  | list ds =>
    show rdL z y (-1) (-1) ds = (ds.all (matchD z y) && _)
    rw [rdL_eq ds _ _ (by omega) (by omega), adj_range]
    cases hm : ds.all (matchD z y) with
    | false => rfl
    | true =>
      have : headOk (-1) (-1) ds = true := by
        cases ds with
        | nil => rfl
        | cons d r =>
          obtain ⟨i, j, rfl⟩ := match_pair (List.all_eq_true.mp hm d (by simp))
          have hm1 := List.all_eq_true.mp hm (.tuple [.int i, .int j]) (by simp)
          have hm2 : matchI z y i j = true := hm1
          unfold matchI at hm2
          simp only [Bool.and_eq_true, decide_eq_true_eq] at hm2
          show (decide ((-1 : Int) < i) && decide ((-1 : Int) < j)) = true
          rw [decide_eq_true (by omega), decide_eq_true (by omega)]; rfl
      rw [this, Bool.and_true]
  | _ => rfl
/-- pairs that rise and are of equal signs are a thread -/
theorem thread_ps {z y : Str} {ps : List PP} (hm : ∀ p ∈ ps, p.1 < z.length ∧ p.2 < y.length ∧ z.cps.toList[p.1]? = y.cps.toList[p.2]?) (hp : ps.Pairwise fun p q => p.1 < q.1 ∧ p.2 < q.2) : threadD z y (.list (ps.map pD)) = true := by
  show ((ps.map pD).all (matchD z y) && _) = true
  rw [adj_range, Bool.and_eq_true]
  constructor
  · rw [List.all_map, List.all_eq_true]
    intro p h
    obtain ⟨a, b, c⟩ := hm p h
    show matchI z y p.1 p.2 = true
    unfold matchI
    simp only [Bool.and_eq_true, decide_eq_true_eq, Int.toNat_natCast]
    exact ⟨⟨⟨⟨by omega, by omega⟩, by omega⟩, by omega⟩, c⟩
  · clear hm
    induction ps with
    | nil => rfl
    | cons p ps ih =>
      have := ih (List.Pairwise.of_cons hp)
      cases ps with
      | nil => rfl
      | cons q ps =>
        show (aheadD (pD p) (pD q) && adj (pD q :: ps.map pD)) = true
        have h := List.rel_of_pairwise_cons hp (List.mem_cons_self ..)
        rw [Bool.and_eq_true]
        refine ⟨?_, this⟩
        show (decide ((p.1 : Int) < q.1) && decide ((p.2 : Int) < q.2)) = true
        rw [decide_eq_true (by omega), decide_eq_true (by omega)]; rfl
/-- a thread that was told: pairs of equal signs, rising, few -/
structure ThP (z y : Str) (ps : List PP) : Prop where
  mem : ∀ p ∈ ps, p.1 < z.length ∧ p.2 < y.length ∧ z.cps.toList[p.1]? = y.cps.toList[p.2]?
  up : ps.Pairwise fun p q => p.1 < q.1 ∧ p.2 < q.2
  few : ps.length ≤ z.length
theorem wb_th (z y : Str) : ThP z y (wb z.cps.toList y.cps.toList z.length y.length).reverse ∧ (((wb z.cps.toList y.cps.toList z.length y.length).reverse.length : Nat) : Int) = lt z.cps.toList y.cps.toList z.length y.length := by
  obtain ⟨a, b, c⟩ := wb_ok z.cps.toList y.cps.toList _ z.length y.length (Nat.le_refl _)
  refine ⟨⟨fun p hp => a p (List.mem_reverse.mp hp), ?_, ?_⟩, by rw [List.length_reverse]; exact c⟩
  · rw [List.pairwise_reverse]
    exact b.imp fun h => h
  · rw [List.length_reverse]
    exact wb_len _ _ _ _ _ (Nat.le_refl _)
theorem ThP.sub {z y : Str} {ps qs : List PP} (h : ThP z y ps) (s : qs.Sublist ps) : ThP z y qs := ⟨fun p hp => h.mem p (s.subset hp), h.up.sublist s, Nat.le_trans s.length_le h.few⟩

section
variable {P : Program} {w : World} {K : PySem.W.Frag} {mg : Str → Option Value} {base : Heap}
theorem nd_said_0 : (["pair", "side"] : List Str).Nodup := by decide +kernel
theorem k_said_thread : (defScope s_said).names.lookup ("thread" : Str) = some NameKind.local := by decide +kernel
theorem k_said_is_thread : (defScope s_said).names.lookup ("is_thread" : Str) = some NameKind.globalImplicit := by decide +kernel
theorem k_said_top : (defScope s_said).names.lookup ("top" : Str) = some NameKind.local := by decide +kernel
theorem k_said_side : (defScope s_said).names.lookup ("side" : Str) = some NameKind.cell := by decide +kernel
theorem k_said_NoThread : (defScope s_said).names.lookup ("NoThread" : Str) = some NameKind.globalImplicit := by decide +kernel
theorem k_law_whole_isinstance : (defScope s_law_whole).names.lookup ("isinstance" : Str) = some NameKind.globalImplicit := by decide +kernel
theorem k_law_whole_bool : (defScope s_law_whole).names.lookup ("bool" : Str) = some NameKind.globalImplicit := by decide +kernel
theorem k_law_whole__law_found : (defScope s_law_whole).names.lookup ("_law_found" : Str) = some NameKind.local := by decide +kernel
theorem k_law_whole_int : (defScope s_law_whole).names.lookup ("int" : Str) = some NameKind.globalImplicit := by decide +kernel
theorem k_law_reads__law_thing : (defScope s_law_reads).names.lookup ("_law_thing" : Str) = some NameKind.local := by decide +kernel
theorem k_law_reads__law_pair_here : (defScope s_law_reads).names.lookup ("_law_pair_here" : Str) = some NameKind.local := by decide +kernel
theorem k_law_reads__law_last : (defScope s_law_reads).names.lookup ("_law_last" : Str) = some NameKind.local := by decide +kernel
theorem k_law_reads__law_side : (defScope s_law_reads).names.lookup ("_law_side" : Str) = some NameKind.local := by decide +kernel
theorem k_law_reads__law_top : (defScope s_law_reads).names.lookup ("_law_top" : Str) = some NameKind.local := by decide +kernel
theorem k_law_reads_len : (defScope s_law_reads).names.lookup ("len" : Str) = some NameKind.globalImplicit := by decide +kernel
theorem k_law_reads__law_whole : (defScope s_law_reads).names.lookup ("_law_whole" : Str) = some NameKind.globalImplicit := by decide +kernel
theorem k_law_reads_isinstance : (defScope s_law_reads).names.lookup ("isinstance" : Str) = some NameKind.globalImplicit := by decide +kernel
theorem k_law_reads_tuple : (defScope s_law_reads).names.lookup ("tuple" : Str) = some NameKind.globalImplicit := by decide +kernel
theorem k_law_reads_list : (defScope s_law_reads).names.lookup ("list" : Str) = some NameKind.globalImplicit := by decide +kernel
theorem ki_NoThread_self : (defScope i_NoThread).names.lookup ("self" : Str) = some NameKind.local := by decide +kernel
theorem ki_NoThread_found : (defScope i_NoThread).names.lookup ("found" : Str) = some NameKind.local := by decide +kernel
theorem sci_NoThread : FnScope ["self", "found"] ["self", "found"] (defScope i_NoThread) := ⟨rfl, rfl, rfl, by decide +kernel, rfl, by decide +kernel, by decide +kernel⟩
theorem mk_NoThread (T : Txt K mg) : XMk P w K mg base 1 "NoThread" (clsA mg "NoThread") ["found"] := mkX T.x_NoThread sci_NoThread (fun _ _ _ _ _ _ us hl => match us, hl with | [_, _], _ => rfl) rfl fun f cdv A outer s H vs Q E hr h => ⟨_, (jb_one (js_fldX (K := K) rfl (j_vL 0 ki_NoThread_self) (j_vL 1 ki_NoThread_found))), rd1 T.x_NoThread.c.cl.cls (T.x_NoThread.na _ (by simp)) h⟩
def sgnD (z : Str) : PyData → Str
  | .tuple [.int i, _] => ⟨#[z.cps.toList.getD i.toNat 0]⟩
  | _ => ⟨#[]⟩
def saidT (z : Str) : PyData → Str
  | .list ds => Txt.join (Str.ofString "") (ds.map (sgnD z))
  | _ => ⟨#[]⟩
def spSaid (K : PySem.W.Frag) (mg : Str → Option Value) : Sp := fun vs H Q E => ∃ (z y : Str) (t : V) (d : PyData), vs = [.str z, .str y, t] ∧ RowB z ∧ RowB y ∧ RD H d t ∧ (∀ ds, d = .list ds → ds.length ≤ 5000) ∧
  (threadD z y d = true → ∀ H', Same H H' → Q (.str (saidT z d)) H') ∧ (threadD z y d = false → ∀ e H', Same H H' → IsX H' e (clsA mg "NoThread") [("found", t)] → E (.ref (clsA mg "NoThread")) (some e) H')
theorem sc_said : FnScope ["side", "top", "thread"] ["side", "top", "thread"] (defScope s_said) := ⟨rfl, rfl, rfl, by decide +kernel, rfl, by decide +kernel, by decide +kernel⟩
theorem h_said (T : Txt K mg) : HasX P w K mg base 6 "said" ["side", "top", "thread"] (spSaid K mg) := by
  have h_is_thread := h_is_thread (P := P) (w := w) (base := base) T
  refine hasJX T.d_said sc_said (fun _ _ _ _ _ _ us hl => match us, hl with | [_, _, _], _ => rfl) ?_ fun f cdv A outer s H vs Q E hr h => ?_
  · rintro vs H Q E ⟨z, y, t, d, rfl, _⟩; rfl
  obtain ⟨z, y, t, d, rfl, hz, hy, hd, hsz, q1, q2⟩ := h
  have hu := hr.units0
  have hu64 := hr.units
  refine ⟨_, (jb_cons (js_if (jt_not (jt_val (j_callX h_is_thread (hr.mono (by decide)) (glF k_said_is_thread) pass_def (ja_cons (j_vC 0 k_said_side) (ja_cons (j_vL 1 k_said_top) (ja_cons (j_vL 2 k_said_thread) ja_nil))) (by decide +kernel)))) (jb_one (js_raise (mk_NoThread (P := P) (w := w) (base := base) T) (hr.mono (by decide)) rfl (glF k_said_NoThread) pass_def (ja_cons (j_vL 2 k_said_thread) ja_nil) (by decide +kernel))) jb_nil) (jb_one (js_ret (j_meth (K := K) rfl PySem.F.plainAttrs_str PySem.F.slot_str_join PySem.F.type_str_join mt_join j_str (ja_cons (j_comp (sub := [none, some 0]) (subOk_of (N := ["side", "top", "thread"]) (sc := defScope s_said) (N' := ["pair", "side"]) (by decide +kernel)) rfl rfl rfl (ji_seq (K := K) rfl (j_vL 2 k_said_thread)) (fun C s₀ H₀ ex => (jg_B 0 (by decide +kernel) nd_said_0)) (fun C s₀ H₀ ex => jif_nil) (fun C s₀ H₀ ex => (j_ix (K := K) rfl (j_vBF 1 (by decide +kernel)) (j_ix (K := K) rfl (j_vBL 0 (by decide +kernel)) j_int)))) ja_nil))))), ?_⟩
  walk_at "sts"
  refine spX3.good hz hy ⟨d, hd, hsz, fun H1 S1 => ?_⟩
  have lz : z.length ≤ sizeLine := Nat.le_trans hz.1 (by decide)
  cases ht : threadD z y d with
  | false =>
    walk_at "sts"
    exact ⟨rfl, (show 1 ≤ sizeLine by decide), fun x H2 S2 X2 => q2 ht x H2 (S1.trans S2) X2⟩
  | true =>
    obtain ⟨ds, rfl⟩ : ∃ ds, d = .list ds := by cases d <;> first | exact ⟨_, rfl⟩ | cases ht
    have hm : ds.all (matchD z y) = true := by
      have : (ds.all (matchD z y) && _) = true := ht
      rw [Bool.and_eq_true] at this
      exact this.1
    obtain ⟨a, us, rfl, e, r⟩ := RD_list.mp (RD.same S1 _ _ hd)
    have hl := RDs_len r
    have h5 := hsz ds rfl
    have hz5 : us.length ≤ sizeLine := Nat.le_trans (show us.length ≤ 5000 by omega) (by decide)
    walk_at "sts"
    refine ⟨rfl, ?_⟩
    walk_at "sts"
    refine .inl ⟨a, rfl, ⟨_, SqL.of e⟩, ?_⟩
    refine comp_list (xs := us) (fun i ys H' => H' = H1 ∧ ys = ((ds.take i).map (sgnD z)).map V.str) hz5 ⟨rfl, rfl⟩ ?_ ?_ ?_ ?_
    · rintro i ys H' ⟨_, rfl⟩
      simp; omega
    · rintro i ys H' ⟨rfl, rfl⟩
      exact SqL.of e
    · rintro i ys H' x hx ⟨rfl, rfl⟩
      obtain ⟨d, h1, h2⟩ := RDs_at r hx
      have md := List.all_eq_true.mp hm d (List.mem_of_getElem? h1)
      obtain ⟨p1, p2, rfl⟩ := match_pair md
      obtain ⟨b, rfl, hb⟩ := RD_pair.mp h2
      have md2 : matchI z y p1 p2 = true := md
      unfold matchI at md2
      simp only [Bool.and_eq_true, decide_eq_true_eq] at md2
      obtain ⟨c, hc, ac⟩ := sgn_at (z := z) (k := p1) (j := p1.toNat) (by omega) (by omega)
      walk_at "sts"
      refine ⟨KeepSt.set rfl, ?_⟩
      walk_at "sts"
      refine r_ixS lz ac ⟨rfl, ?_⟩
      rw [List.take_add_one, h1]
      simp [sgnD, hc]
    · rintro ys H' ⟨rfl, rfl⟩ D hD
      rw [hl, List.take_length]
      walk_at "sts"
      have e0 : (Str.ofString "").length = 0 := by decide +kernel
      have hs1 : ((ds.map (sgnD z)).map (·.length)).sum = (ds.map (sgnD z)).length := sum_ones fun x hx => by
        obtain ⟨d, hd, rfl⟩ := List.mem_map.mp hx
        obtain ⟨p1, p2, rfl⟩ := match_pair (List.all_eq_true.mp hm d hd)
        exact len1 _
      refine r_join upd_same (by rw [hs1, e0, List.length_map]; omega) ?_
      exact q1 ht _ (S1.upd hD)
theorem sc_law_whole : FnScope ["_law_found"] ["_law_found"] (defScope s_law_whole) := ⟨rfl, rfl, rfl, by decide +kernel, rfl, by decide +kernel, by decide +kernel⟩
theorem h_law_whole (T : Txt K mg) : Has P w K mg base 1 "_law_whole" ["_law_found"] spNum := by
  refine hasJ T.d_law_whole sc_law_whole (fun _ _ _ _ _ _ us hl => match us, hl with | [_], _ => rfl) ?_ fun f cdv A outer s H vs Q E hr h => ?_
  · rintro vs H Q E ⟨v, d, rfl, _⟩; rfl
  obtain ⟨v, d, rfl, hd, q⟩ := h
  have hu := hr.units0
  have hu64 := hr.units
  refine ⟨_, (jb_one (js_ret (j_and (j_callB (call_isiK (K := K) rfl) (glF k_law_whole_isinstance) T.b_isinstance bt_isinstance (ja_cons (j_vL 0 k_law_whole__law_found) (ja_cons (j_ty (glF k_law_whole_int) T.b_int bt_int (by decide +kernel) (by decide +kernel)) ja_nil)) (by decide +kernel) (by decide +kernel)) (j_one (j_not (j_callB (call_isiK (K := K) rfl) (glF k_law_whole_isinstance) T.b_isinstance bt_isinstance (ja_cons (j_vL 0 k_law_whole__law_found) (ja_cons (j_ty (glF k_law_whole_bool) T.b_bool bt_bool (by decide +kernel) (by decide +kernel)) ja_nil)) (by decide +kernel) (by decide +kernel))))))), ?_⟩
  walk_at "sts"
  cases d with
  | int n =>
    refine r_isi (rd_ty hd) rfl ?_
    walk_at "sts"
    refine r_isi (rd_ty hd) rfl ?_
    walk_at "sts"
    exact q
  | bool n =>
    refine r_isi (b := true) (rd_ty hd) rfl ?_
    walk_at "sts"
    refine r_isi (b := true) (rd_ty hd) rfl ?_
    walk_at "sts"
    exact q
  | none =>
    refine r_isi (rd_ty hd) rfl ?_
    walk_at "sts"
    exact q
  | str n =>
    refine r_isi (rd_ty hd) rfl ?_
    walk_at "sts"
    exact q
  | list n =>
    refine r_isi (rd_ty hd) rfl ?_
    walk_at "sts"
    exact q
  | tuple n =>
    refine r_isi (rd_ty hd) rfl ?_
    walk_at "sts"
    exact q
  | dict n =>
    refine r_isi (rd_ty hd) rfl ?_
    walk_at "sts"
    exact q
def spReads : Sp := fun vs H Q _ => ∃ (z y : Str) (t : V) (d : PyData), vs = [.str z, .str y, t] ∧ z.length ≤ 48 ∧ y.length ≤ 48 ∧ RD H d t ∧ ∀ H', Same H H' → Q (.bl (readsD z y d)) H'
theorem sc_law_reads : FnScope ["_law_side", "_law_top", "_law_thing", "_law_last", "_law_pair_here"] ["_law_side", "_law_top", "_law_thing"] (defScope s_law_reads) := ⟨rfl, rfl, rfl, by decide +kernel, rfl, by decide +kernel, by decide +kernel⟩
theorem h_law_reads (T : Txt K mg) : Has P w K mg base 2 "_law_reads" ["_law_side", "_law_top", "_law_thing"] spReads := by
  have h_law_whole := h_law_whole (P := P) (w := w) (base := base) T
  refine hasJ T.d_law_reads sc_law_reads (fun _ _ _ _ _ _ us hl => match us, hl with | [_, _, _], _ => rfl) ?_ fun f cdv A outer s H vs Q E hr h => ?_
  · rintro vs H Q E ⟨z, y, t, d, rfl, _⟩; rfl
  obtain ⟨z, y, t, d, rfl, hz, hy, hd, q⟩ := h
  have hu := hr.units0
  have hu64 := hr.units
  refine ⟨_, (jb_cons (js_if (jt_not (jt_val (j_callB (call_isiK (K := K) rfl) (glF k_law_reads_isinstance) T.b_isinstance bt_isinstance (ja_cons (j_vL 2 k_law_reads__law_thing) (ja_cons (j_ty (glF k_law_reads_list) T.b_list bt_list (by decide +kernel) (by decide +kernel)) ja_nil)) (by decide +kernel) (by decide +kernel)))) (jb_one (js_ret j_bl)) jb_nil) (jb_cons (js_set (i := 3) sc_law_reads.nd rfl (Or.inl k_law_reads__law_last) (j_tup (ja_cons (j_un un_neg j_int) (ja_cons (j_un un_neg j_int) ja_nil))) rfl) (jb_cons (js_for PassesOwn.never rfl (ji_seq (K := K) rfl (j_vL 2 k_law_reads__law_thing)) (jg_name (i := 4) sc_law_reads.nd rfl (Or.inl k_law_reads__law_pair_here) rfl) (jb_cons (js_if (jw_pt (jw_or (jt_not (jt_val (j_callB (call_isiK (K := K) rfl) (glF k_law_reads_isinstance) T.b_isinstance bt_isinstance (ja_cons (j_vL 4 k_law_reads__law_pair_here) (ja_cons (j_ty (glF k_law_reads_tuple) T.b_tuple bt_tuple (by decide +kernel) (by decide +kernel)) ja_nil)) (by decide +kernel) (by decide +kernel)))) (jw_or (jt_cmp (op_neX (K := K) rfl hu64) (j_callB (call_lenK (K := K) rfl) (glF k_law_reads_len) T.b_len bt_len (ja_cons (j_vL 4 k_law_reads__law_pair_here) ja_nil) (by decide +kernel) (by decide +kernel)) j_int (by first | exact nomark _ | with_unfolding_all rfl)) (jw_or (jt_not (jt_val (j_call h_law_whole (hr.mono (by decide)) (glF k_law_reads__law_whole) (ja_cons (j_ix (K := K) rfl (j_vL 4 k_law_reads__law_pair_here) j_int) ja_nil) (by decide +kernel)))) (jw_or1 (jt_not (jt_val (j_call h_law_whole (hr.mono (by decide)) (glF k_law_reads__law_whole) (ja_cons (j_ix (K := K) rfl (j_vL 4 k_law_reads__law_pair_here) j_int) ja_nil) (by decide +kernel))))))))) (jb_one (js_ret j_bl)) jb_nil) (jb_cons (js_if (jw_pt (jw_or (jt_not (jt_chain op_lt op_lt (j_ix (K := K) rfl (j_vL 3 k_law_reads__law_last) j_int) (j_ix (K := K) rfl (j_vL 4 k_law_reads__law_pair_here) j_int) (j_callB (call_lenK (K := K) rfl) (glF k_law_reads_len) T.b_len bt_len (ja_cons (j_vL 0 k_law_reads__law_side) ja_nil) (by decide +kernel) (by decide +kernel)))) (jw_or (jt_not (jt_chain op_lt op_lt (j_ix (K := K) rfl (j_vL 3 k_law_reads__law_last) j_int) (j_ix (K := K) rfl (j_vL 4 k_law_reads__law_pair_here) j_int) (j_callB (call_lenK (K := K) rfl) (glF k_law_reads_len) T.b_len bt_len (ja_cons (j_vL 1 k_law_reads__law_top) ja_nil) (by decide +kernel) (by decide +kernel)))) (jw_or1 (jt_cmp (op_neX (K := K) rfl hu64) (j_ix (K := K) rfl (j_vL 0 k_law_reads__law_side) (j_ix (K := K) rfl (j_vL 4 k_law_reads__law_pair_here) j_int)) (j_ix (K := K) rfl (j_vL 1 k_law_reads__law_top) (j_ix (K := K) rfl (j_vL 4 k_law_reads__law_pair_here) j_int)) (by first | exact nomark _ | with_unfolding_all rfl)))))) (jb_one (js_ret j_bl)) jb_nil) (jb_one (js_set (i := 3) sc_law_reads.nd rfl (Or.inl k_law_reads__law_last) (j_vL 4 k_law_reads__law_pair_here) rfl))))) (jb_one (js_ret j_bl))))), ?_⟩
  walk_at "sts"
  have lz : z.length ≤ sizeLine := Nat.le_trans hz (by decide)
  have ly : y.length ≤ sizeLine := Nat.le_trans hy (by decide)
  cases hL : isLstD d with
  | false =>
    refine r_isi (rd_ty hd) (by rw [kit_lst, hL]) ?_
    walk_at "sts"
    have : readsD z y d = false := by unfold readsD; split <;> first | rfl | cases hL
    rw [this] at q
    exact q _ (Same.refl _)
  | true =>
    obtain ⟨ds, rfl⟩ : ∃ ds, d = .list ds := by cases d <;> first | exact ⟨_, rfl⟩ | cases hL
    obtain ⟨a, us, rfl, e, r⟩ := RD_list.mp hd
    have hl := RDs_len r
    refine r_isi (.lst e) rfl ?_
    walk_at "sts"
    refine r_new rfl fun c0 n0 => ?_
    walk_at "sts"
    refine .inl ⟨a, rfl, ⟨_, SqL.of (upd_old n0 e)⟩, ?_⟩
    refine for_list (xs := us) (fun i σ H' => Same H H' ∧ (∃ (c : Addr) (l0 l1 : Int) (x4 : Option V), H' c = some (.tup [.int l0, .int l1]) ∧ σ = [some (.str z), some (.str y), some (.ref a), some (.ref c), x4] ∧ (-1 ≤ l0 ∧ -1 ≤ l1) ∧ rdL z y l0 l1 (ds.drop i) = readsD z y (.list ds)))
      ⟨(Same.refl H).upd n0, c0, -1, -1, none, upd_same, rfl, ⟨by omega, by omega⟩, rfl⟩ (fun i σ H' _ h => SqL.of (h.1 _ _ e)) ?_ ?_
    · rintro i x σ H1 hi ⟨S1, c, l0, l1, x4, hc, rfl, hlo, hr⟩
      obtain ⟨d, g1, g2⟩ := RDs_at (RDs.same S1 _ _ r) hi
      have hd1 : ds.drop i = d :: ds.drop (i + 1) := by
        obtain ⟨h1, h2⟩ := List.getElem?_eq_some_iff.mp g1
        rw [List.drop_eq_getElem_cons h1, h2]
      rw [hd1] at hr
      walk_at "sts"
      cases hT : isTupD d with
      | false =>
        have : rdL z y l0 l1 (d :: ds.drop (i + 1)) = false := rdL_no (by cases d <;> first | rfl | cases hT)
        rw [← hr, this] at q
        refine r_isi (rd_ty g2) (by rw [kit_tup, hT]) ?_
        walk_at "sts"
        exact q _ S1
      | true =>
        obtain ⟨es, rfl⟩ : ∃ es, d = .tuple es := by cases d <;> first | exact ⟨_, rfl⟩ | cases hT
        obtain ⟨b, ws, rfl, hb, rw'⟩ := RD_tuple.mp g2
        have hl2 := RDs_len rw'
        refine r_isi (.tup hb) rfl ?_
        walk_at "sts"
        refine r_lenT (SqT.of hb) ?_
        walk_at "sts"
        by_cases h2 : es.length = 2
        · rw [decide_eq_true (show V.int (ws.length : Int) = V.int 2 by rw [hl2, h2]; rfl)]
          match es, h2, rw', hr, hd1 with
          | [d1, d2], _, rw', hr, hd1 =>
            obtain ⟨v1, v2, rfl, r1, r2⟩ := RDs_two rw'
            walk_at "sts"
            refine ⟨v1, d1, rfl, r1, ?_⟩
            walk_at "sts"
            cases hn1 : isNumD d1 with
            | false =>
              have : rdL z y l0 l1 (.tuple [d1, d2] :: ds.drop (i + 1)) = false := rdL_no (by show (isNumD d1 && isNumD d2) = false; rw [hn1]; rfl)
              rw [← hr, this] at q
              walk_at "sts"
              exact q _ S1
            | true =>
              walk_at "sts"
              refine ⟨v2, d2, rfl, r2, ?_⟩
              walk_at "sts"
              cases hn2 : isNumD d2 with
              | false =>
                have : rdL z y l0 l1 (.tuple [d1, d2] :: ds.drop (i + 1)) = false := rdL_no (by show (isNumD d1 && isNumD d2) = false; rw [hn1, hn2]; rfl)
                rw [← hr, this] at q
                walk_at "sts"
                exact q _ S1
              | true =>
                obtain ⟨p1, p2, ep⟩ := pair_of (d := .tuple [d1, d2]) (by show (isNumD d1 && isNumD d2) = true; rw [hn1, hn2]; rfl)
                cases ep
                rw [RD_int] at r1 r2
                subst r1 r2
                rw [rdL_pair] at hr
                walk_at "sts"
                by_cases k1 : l0 < p1
                · rw [decide_eq_true k1] at hr ⊢
                  walk_at "sts"
                  refine r_lenS lz ?_
                  walk_at "sts"
                  by_cases k2 : p1 < z.length
                  · rw [decide_eq_true k2] at hr ⊢
                    walk_at "sts"
                    by_cases k3 : l1 < p2
                    · rw [decide_eq_true k3] at hr ⊢
                      walk_at "sts"
                      refine r_lenS ly ?_
                      walk_at "sts"
                      by_cases k4 : p2 < y.length
                      · rw [decide_eq_true k4] at hr ⊢
                        obtain ⟨s1, hs1, as1⟩ := sgn_at (z := z) (k := p1) (j := p1.toNat) (by omega) (by omega)
                        obtain ⟨s2, hs2, as2⟩ := sgn_at (z := y) (k := p2) (j := p2.toNat) (by omega) (by omega)
                        rw [hs1, hs2] at hr
                        walk_at "sts"
                        refine r_ixS lz as1 ?_
                        walk_at "sts"
                        refine r_ixS ly as2 ?_
                        walk_at "sts"
                        by_cases k5 : s1 = s2
                        · rw [decide_eq_true (sign_eq.mpr k5)]
                          rw [decide_eq_true (by rw [k5])] at hr
                          walk_at "sts"
                          exact ⟨S1, b, p1, p2, _, hb, rfl, ⟨by omega, by omega⟩, hr⟩
                        · rw [decide_eq_false (fun z => k5 (sign_eq.mp z))]
                          rw [decide_eq_false (fun z => k5 (Option.some.inj z))] at hr
                          simp only [Bool.and_false, Bool.false_and] at hr
                          rw [← hr] at q
                          walk_at "sts"
                          exact q _ S1
                      · rw [decide_eq_false k4] at hr ⊢
                        simp only [Bool.and_false, Bool.false_and] at hr
                        rw [← hr] at q
                        walk_at "sts"
                        exact q _ S1
                    · rw [decide_eq_false k3] at hr ⊢
                      simp only [Bool.and_false, Bool.false_and] at hr
                      rw [← hr] at q
                      walk_at "sts"
                      exact q _ S1
                  · rw [decide_eq_false k2] at hr ⊢
                    simp only [Bool.and_false, Bool.false_and] at hr
                    rw [← hr] at q
                    walk_at "sts"
                    exact q _ S1
                · rw [decide_eq_false k1] at hr ⊢
                  simp only [Bool.false_and] at hr
                  rw [← hr] at q
                  walk_at "sts"
                  exact q _ S1
        · rw [decide_eq_false (show ¬ V.int (ws.length : Int) = V.int 2 by intro z; injection z with z; omega)]
          have : rdL z y l0 l1 (.tuple es :: ds.drop (i + 1)) = false := rdL_no (isPair_len h2)
          rw [← hr, this] at q
          walk_at "sts"
          exact q _ S1
    · rintro σ H1 ⟨S1, c, l0, l1, x4, hc, rfl, hlo, hr⟩
      rw [hl, List.drop_length] at hr
      walk_at "sts"
      rw [← hr] at q
      exact q _ S1
end

section
variable {P : Program} {w : World} {K : PySem.W.Frag} {mg : Str → Option Value} {base : Heap}
theorem k_law_longest__law_row_here : (defScope s_law_longest).names.lookup ("_law_row_here" : Str) = some NameKind.local := by decide +kernel
theorem k_law_longest__law_side : (defScope s_law_longest).names.lookup ("_law_side" : Str) = some NameKind.local := by decide +kernel
theorem k_law_longest__law_sign : (defScope s_law_longest).names.lookup ("_law_sign" : Str) = some NameKind.local := by decide +kernel
theorem k_law_longest_range : (defScope s_law_longest).names.lookup ("range" : Str) = some NameKind.globalImplicit := by decide +kernel
theorem k_law_longest_len : (defScope s_law_longest).names.lookup ("len" : Str) = some NameKind.globalImplicit := by decide +kernel
theorem k_law_longest__law_top : (defScope s_law_longest).names.lookup ("_law_top" : Str) = some NameKind.local := by decide +kernel
theorem k_law_longest__law_at : (defScope s_law_longest).names.lookup ("_law_at" : Str) = some NameKind.local := by decide +kernel
theorem k_law_longest__law_ahead : (defScope s_law_longest).names.lookup ("_law_ahead" : Str) = some NameKind.local := by decide +kernel
theorem k_law_longest__law_above : (defScope s_law_longest).names.lookup ("_law_above" : Str) = some NameKind.local := by decide +kernel
theorem k_law_longest_max : (defScope s_law_longest).names.lookup ("max" : Str) = some NameKind.globalImplicit := by decide +kernel
/-- the row of lengths while the next one is laid over it -/
def mixT (S P : List Nat) (i n at_ : Nat) : List Int := (List.range (n + 1)).map fun k => if k ≤ at_ then lt S P (i + 1) k else lt S P i k
theorem mixT_len (S P : List Nat) (i n at_ : Nat) : (mixT S P i n at_).length = n + 1 := by simp [mixT]
theorem mixT_at {S P : List Nat} {i n at_ k : Nat} (h : k ≤ n) : (mixT S P i n at_)[k]? = some (if k ≤ at_ then lt S P (i + 1) k else lt S P i k) := by
  unfold mixT
  rw [List.getElem?_map, List.getElem?_range (by omega)]; rfl
theorem mixT_0 (S P : List Nat) (i n : Nat) : mixT S P i n 0 = rowT S P i (n + 1) := by
  unfold mixT rowT
  refine List.map_congr_left fun k _ => ?_
  split
  · rename_i h
    rw [show k = 0 by omega, lt_z, lt_z]
  · rfl
theorem mixT_n (S P : List Nat) (i n : Nat) : mixT S P i n n = rowT S P (i + 1) (n + 1) := by
  unfold mixT rowT
  refine List.map_congr_left fun k hk => ?_
  rw [List.mem_range] at hk
  rw [if_pos (by omega)]
theorem mixT_set {S P : List Nat} {i n at_ : Nat} (h : at_ < n) : (mixT S P i n at_).set (at_ + 1) (lt S P (i + 1) (at_ + 1)) = mixT S P i n (at_ + 1) := by
  refine List.ext_getElem? fun k => ?_
  by_cases hk : k ≤ n
  · rw [mixT_at hk, List.getElem?_set]
    by_cases e : at_ + 1 = k
    · rw [if_pos e, mixT_len, if_pos (by omega), if_pos (by omega), e]
    · rw [if_neg e, mixT_at hk]
      by_cases l : k ≤ at_
      · rw [if_pos l, if_pos (by omega)]
      · rw [if_neg l, if_neg (by omega)]
  · rw [List.getElem?_eq_none (by rw [List.length_set, mixT_len]; omega), List.getElem?_eq_none (by rw [mixT_len]; omega)]
def spLongest : Sp := fun vs H Q _ => ∃ z y : Str, vs = [.str z, .str y] ∧ z.length ≤ 48 ∧ y.length ≤ 48 ∧ ∀ H', Same H H' → Q (.int (lt z.cps.toList y.cps.toList z.length y.length)) H'
theorem sc_law_longest : FnScope ["_law_side", "_law_top", "_law_row_here", "_law_sign", "_law_ahead", "_law_at", "_law_above"] ["_law_side", "_law_top"] (defScope s_law_longest) := ⟨rfl, rfl, rfl, by decide +kernel, rfl, by decide +kernel, by decide +kernel⟩
theorem h_law_longest (T : Txt K mg) : Has P w K mg base 1 "_law_longest" ["_law_side", "_law_top"] spLongest := by
  refine hasJ T.d_law_longest sc_law_longest (fun _ _ _ _ _ _ us hl => match us, hl with | [_, _], _ => rfl) ?_ fun f cdv A outer s H vs Q E hr h => ?_
  · rintro vs H Q E ⟨z, y, rfl, _⟩; rfl
  obtain ⟨z, y, rfl, hz, hy, q⟩ := h
  have hu := hr.units0
  have hu64 := hr.units
  refine ⟨_, (jb_cons (js_set (i := 2) sc_law_longest.nd rfl (Or.inl k_law_longest__law_row_here) (j_op op_mulA (j_lst (ja_cons j_int ja_nil)) (j_op op_addA (j_callB (call_lenK (K := K) rfl) (glF k_law_longest_len) T.b_len bt_len (ja_cons (j_vL 1 k_law_longest__law_top) ja_nil) (by decide +kernel) (by decide +kernel)) j_int)) rfl) (jb_cons (js_for PassesOwn.never rfl (ji_seq (K := K) rfl (j_vL 0 k_law_longest__law_side)) (jg_name (i := 3) sc_law_longest.nd rfl (Or.inl k_law_longest__law_sign) rfl) (jb_cons (js_set (i := 4) sc_law_longest.nd rfl (Or.inl k_law_longest__law_ahead) j_int rfl) (jb_one (js_for PassesOwn.never rfl (ji_range1 (glF k_law_longest_range) T.b_range (ja_cons (j_callB (call_lenK (K := K) rfl) (glF k_law_longest_len) T.b_len bt_len (ja_cons (j_vL 1 k_law_longest__law_top) ja_nil) (by decide +kernel) (by decide +kernel)) ja_nil)) (jg_name (i := 5) sc_law_longest.nd rfl (Or.inl k_law_longest__law_at) rfl) (jb_cons (js_set (i := 6) sc_law_longest.nd rfl (Or.inl k_law_longest__law_above) (j_ix (K := K) rfl (j_vL 2 k_law_longest__law_row_here) (j_op op_addA (j_vL 5 k_law_longest__law_at) j_int)) rfl) (jb_cons (js_if (jt_cmp (op_eqX (K := K) rfl hu64) (j_vL 3 k_law_longest__law_sign) (j_ix (K := K) rfl (j_vL 1 k_law_longest__law_top) (j_vL 5 k_law_longest__law_at)) (by first | exact nomark _ | with_unfolding_all rfl)) (jb_one (js_asgS (ts := rSetL) (j_op op_addA (j_vL 4 k_law_longest__law_ahead) j_int) (jg_sub (j_vL 2 k_law_longest__law_row_here) (j_op op_addA (j_vL 5 k_law_longest__law_at) j_int) set_list))) (jb_one (js_asgS (ts := rSetL) (j_callB (call_max2 rfl) (glF k_law_longest_max) T.b_max bt_max (ja_cons (j_vL 6 k_law_longest__law_above) (ja_cons (j_ix (K := K) rfl (j_vL 2 k_law_longest__law_row_here) (j_vL 5 k_law_longest__law_at)) ja_nil)) (by decide +kernel) (by decide +kernel)) (jg_sub (j_vL 2 k_law_longest__law_row_here) (j_op op_addA (j_vL 5 k_law_longest__law_at) j_int) set_list)))) (jb_one (js_set (i := 4) sc_law_longest.nd rfl (Or.inl k_law_longest__law_ahead) (j_vL 6 k_law_longest__law_above) rfl)))))))) (jb_one (js_ret (j_ix (K := K) rfl (j_vL 2 k_law_longest__law_row_here) (j_un un_neg j_int)))))), ?_⟩
  walk_at "sts"
  have lz : z.length ≤ sizeLine := Nat.le_trans hz (by decide)
  have ly : y.length ≤ sizeLine := Nat.le_trans hy (by decide)
  refine r_new rfl fun p0 n0 => ?_
  walk_at "sts"
  refine r_lenS ly ?_
  walk_at "sts"
  refine r_mulL upd_same (by omega) (by omega) (Nat.le_trans (show [V.int 0].length * ((y.length : Int) + 1).toNat ≤ 1000 by simp; omega) (by decide)) fun b nb => ?_
  have e0 : (List.replicate ((y.length : Int) + 1).toNat [V.int 0]).flatten = (rowT z.cps.toList y.cps.toList 0 (y.length + 1)).map V.int := by
    rw [show ((y.length : Int) + 1).toNat = y.length + 1 by omega]
    exact zeros _ _ _
  rw [e0]
  have nb0 : H b = none := ((Same.refl H).upd n0).free nb
  walk_at "sts"
  refine .inr (.inr ⟨z, rfl, ?_⟩)
  refine for_str (z := z) (fun i σ H' => Same H H' ∧ H' b = some (.lst ((rowT z.cps.toList y.cps.toList i (y.length + 1)).map V.int)) ∧ ∃ x3 x4 x5 x6, σ = [some (.str z), some (.str y), some (.ref b), x3, x4, x5, x6])
    ⟨((Same.refl H).upd n0).upd nb, upd_same, none, none, none, none, rfl⟩ ?_ ?_
  · rintro i σ H1 c hc ⟨S1, hb, x3, x4, x5, x6, rfl⟩
    walk_at "sts"
    refine r_lenS ly ?_
    walk_at "sts"
    refine ⟨_, rfl, by omega, by omega, ?_⟩
    rw [Int.toNat_natCast]
    refine for_range (n := y.length) (fun j σ H' => Same H H' ∧ H' b = some (.lst ((mixT z.cps.toList y.cps.toList i y.length j).map V.int)) ∧ ∃ x5 x6, σ = [some (.str z), some (.str y), some (.ref b), some (.str ⟨#[c]⟩), some (.int (lt z.cps.toList y.cps.toList i j)), x5, x6])
      ⟨S1, by rw [mixT_0]; exact hb, _, _, by rw [lt_z]; rfl⟩ ?_ ?_
    · rintro j σ H2 hj ⟨S2, hb2, x5, x6, rfl⟩
      obtain ⟨d, hd, ad⟩ := sgn_at (z := y) (k := 0 + (j : Int)) (j := j) (by omega) (by omega)
      have g1 : atI ((mixT z.cps.toList y.cps.toList i y.length j).map V.int) (0 + (j : Int) + 1) = some (.int (lt z.cps.toList y.cps.toList i (j + 1))) := by
        refine atI_int (by omega) ?_
        rw [show (0 + (j : Int) + 1).toNat = j + 1 by omega, List.getElem?_map, mixT_at (by omega), if_neg (by omega)]; rfl
      have g2 : atI ((mixT z.cps.toList y.cps.toList i y.length j).map V.int) (0 + (j : Int)) = some (.int (lt z.cps.toList y.cps.toList (i + 1) j)) := by
        refine atI_int (by omega) ?_
        rw [show (0 + (j : Int)).toNat = j by omega, List.getElem?_map, mixT_at (by omega), if_pos (by omega)]; rfl
      have ix : ixN ((mixT z.cps.toList y.cps.toList i y.length j).map V.int).length (0 + (j : Int) + 1) = some (j + 1) := by
        unfold ixN
        rw [List.length_map, mixT_len, if_pos (by omega), if_pos (by omega)]
        rw [show (0 + (j : Int) + 1).toNat = j + 1 by omega]
      walk_at "sts"
      refine r_ixL (SqL.of hb2) g1 ?_
      walk_at "sts"
      refine r_ixS ly ad ?_
      walk_at "sts"
      refine iteD (fun hk => ?_) (fun hk => ?_)
      · have ec : z.cps.toList[i]? = y.cps.toList[j]? := by rw [hc, hd, sign_eq.mp hk]
        walk_at "sts"
        refine r_setL hb2 ix ?_
        walk_at "sts"
        refine ⟨over S2 nb0, ?_, _, _, rfl⟩
        rw [upd_same, ← mixT_set hj, lt_eq ec, List.map_set]
      · have ec : ¬ z.cps.toList[i]? = y.cps.toList[j]? := by
          rw [hc, hd]
          intro z
          exact hk (by rw [Option.some.inj z])
        walk_at "sts"
        refine r_ixL (SqL.of hb2) g2 ?_
        walk_at "sts"
        refine r_setL hb2 ix ?_
        walk_at "sts"
        refine ⟨over S2 nb0, ?_, _, _, rfl⟩
        rw [upd_same, ← mixT_set hj, lt_s, if_neg ec, List.map_set]; rfl
    · rintro σ H2 ⟨S2, hb2, x5, x6, rfl⟩
      rw [mixT_n] at hb2
      exact ⟨S2, hb2, _, _, _, _, rfl⟩
  · rintro σ H1 ⟨S1, hb, x3, x4, x5, x6, rfl⟩
    walk_at "sts"
    refine r_ixL (SqL.of hb) (atI_m1 (n := y.length) (v := .int (lt z.cps.toList y.cps.toList z.length y.length)) (by rw [List.length_map, rowT_len]) (by rw [List.getElem?_map, rowT_at (by omega)]; rfl)) ?_
    exact q _ S1
end

section
variable {P : Program} {w : World} {K : PySem.W.Frag} {mg : Str → Option Value} {base : Heap}
theorem nd_law_letters_0 : (["_law_k", "_law_letters_here", "_law_first", "_law_step"] : List Str).Nodup := by decide +kernel
theorem nd_law_drawn_1 : (["_law_k", "_law_signs", "_law_purse_here"] : List Str).Nodup := by decide +kernel
theorem k_law_pair__law_some : (defScope s_law_pair).names.lookup ("_law_some" : Str) = some NameKind.local := by decide +kernel
theorem k_law_pair__law_take : (defScope s_law_pair).names.lookup ("_law_take" : Str) = some NameKind.globalImplicit := by decide +kernel
theorem k_law_pair__law_purse_here : (defScope s_law_pair).names.lookup ("_law_purse_here" : Str) = some NameKind.local := by decide +kernel
theorem k_law_pair__law_other : (defScope s_law_pair).names.lookup ("_law_other" : Str) = some NameKind.local := by decide +kernel
theorem k_law_pair__law_one : (defScope s_law_pair).names.lookup ("_law_one" : Str) = some NameKind.local := by decide +kernel
theorem k_law_pair_str : (defScope s_law_pair).names.lookup ("str" : Str) = some NameKind.globalImplicit := by decide +kernel
theorem k_law_pair_len : (defScope s_law_pair).names.lookup ("len" : Str) = some NameKind.globalImplicit := by decide +kernel
theorem k_law_pair__law_top : (defScope s_law_pair).names.lookup ("_law_top" : Str) = some NameKind.local := by decide +kernel
theorem k_law_pair__law_side : (defScope s_law_pair).names.lookup ("_law_side" : Str) = some NameKind.local := by decide +kernel
theorem k_law_pair__law_way : (defScope s_law_pair).names.lookup ("_law_way" : Str) = some NameKind.local := by decide +kernel
theorem k_law_pair__law_pair_here : (defScope s_law_pair).names.lookup ("_law_pair_here" : Str) = some NameKind.local := by decide +kernel
theorem k_law_cell__law_k : (defScope s_law_cell).names.lookup ("_law_k" : Str) = some NameKind.local := by decide +kernel
theorem k_law_cell_len : (defScope s_law_cell).names.lookup ("len" : Str) = some NameKind.globalImplicit := by decide +kernel
theorem k_law_cell__law_script : (defScope s_law_cell).names.lookup ("_law_script" : Str) = some NameKind.local := by decide +kernel
theorem k_law_purse__law_cell_here : (defScope s_law_purse).names.lookup ("_law_cell_here" : Str) = some NameKind.local := by decide +kernel
theorem k_law_purse_max : (defScope s_law_purse).names.lookup ("max" : Str) = some NameKind.globalImplicit := by decide +kernel
theorem k_law_take__law_number : (defScope s_law_take).names.lookup ("_law_number" : Str) = some NameKind.local := by decide +kernel
theorem k_law_take__law_many : (defScope s_law_take).names.lookup ("_law_many" : Str) = some NameKind.local := by decide +kernel
theorem k_law_take__law_purse_here : (defScope s_law_take).names.lookup ("_law_purse_here" : Str) = some NameKind.local := by decide +kernel
theorem k_law_take__law_digit : (defScope s_law_take).names.lookup ("_law_digit" : Str) = some NameKind.local := by decide +kernel
theorem k_law_letters_range : (defScope s_law_letters).names.lookup ("range" : Str) = some NameKind.globalImplicit := by decide +kernel
theorem k_law_letters__law_many : (defScope s_law_letters).names.lookup ("_law_many" : Str) = some NameKind.local := by decide +kernel
theorem k_law_letters__law_take : (defScope s_law_letters).names.lookup ("_law_take" : Str) = some NameKind.globalImplicit := by decide +kernel
theorem k_law_letters__law_purse_here : (defScope s_law_letters).names.lookup ("_law_purse_here" : Str) = some NameKind.local := by decide +kernel
theorem k_law_letters__law_step : (defScope s_law_letters).names.lookup ("_law_step" : Str) = some NameKind.cell := by decide +kernel
theorem k_law_letters__law_first : (defScope s_law_letters).names.lookup ("_law_first" : Str) = some NameKind.cell := by decide +kernel
theorem k_law_letters__law_letters_here : (defScope s_law_letters).names.lookup ("_law_letters_here" : Str) = some NameKind.cell := by decide +kernel
theorem k_law_drawn_range : (defScope s_law_drawn).names.lookup ("range" : Str) = some NameKind.globalImplicit := by decide +kernel
theorem k_law_drawn__law_size : (defScope s_law_drawn).names.lookup ("_law_size" : Str) = some NameKind.local := by decide +kernel
theorem k_law_drawn__law_take : (defScope s_law_drawn).names.lookup ("_law_take" : Str) = some NameKind.globalImplicit := by decide +kernel
theorem k_law_drawn__law_most : (defScope s_law_drawn).names.lookup ("_law_most" : Str) = some NameKind.local := by decide +kernel
theorem k_law_drawn__law_purse_here : (defScope s_law_drawn).names.lookup ("_law_purse_here" : Str) = some NameKind.cell := by decide +kernel
theorem k_law_row__law_drawn : (defScope s_law_row).names.lookup ("_law_drawn" : Str) = some NameKind.globalImplicit := by decide +kernel
theorem k_law_row__law_signs : (defScope s_law_row).names.lookup ("_law_signs" : Str) = some NameKind.local := by decide +kernel
theorem k_law_row__law_purse_here : (defScope s_law_row).names.lookup ("_law_purse_here" : Str) = some NameKind.local := by decide +kernel
theorem k_law_row__law_take : (defScope s_law_row).names.lookup ("_law_take" : Str) = some NameKind.globalImplicit := by decide +kernel
/-- the heap without the purse -/
def Hx (p : Addr) (H : Hp) : Hp := fun b => if b = p then none else H b
theorem Hx_same (p : Addr) (H : Hp) : Same (Hx p H) H := fun b o e => by
  unfold Hx at e
  split at e
  · cases e
  · exact e
theorem Hx_at {p b : Addr} {H : Hp} {o : HO} (h : H b = some o) (n : b ≠ p) : Hx p H b = some o := by unfold Hx; rw [if_neg n]; exact h
theorem Hx_chg {p : Addr} {H H' : Hp} (c : Chg p H H') : Same (Hx p H) (Hx p H') := fun b o e => by
  unfold Hx at e ⊢
  split at e
  · cases e
  · rename_i h
    rw [if_neg h]; exact c b o h e
theorem good_sml : ∀ c ∈ GOOD, c < 16 ^ 8 := by decide +kernel
/-- a leaf that is short -/
structure Lf (d : PyData) : Prop where
  sh : d.showable = true
  dp : d.depth = 0
  lv : d.leavesShort 60 = true
  bk : d.bulk ≤ 19
/-- an element of a thing: flat, of few leaves -/
structure SmE (d : PyData) : Prop where
  sh : d.showable = true
  dp : d.depth ≤ 1
  lv : d.leavesShort 60 = true
  bk : d.bulk ≤ 60
theorem lf_int {n : Int} (h0 : -100 ≤ n) (h1 : n ≤ 100) : Lf (.int n) := by
  have key : ∀ m : Fin 201, (PyData.int ((m : Nat) - 100 : Int)).showable = true ∧ (PyData.int ((m : Nat) - 100 : Int)).leavesShort 60 = true := by decide +kernel
  have := key ⟨(n + 100).toNat, by omega⟩
  rw [show (((⟨(n + 100).toNat, by omega⟩ : Fin 201) : Nat) : Int) - 100 = n by show (((n + 100).toNat : Nat) : Int) - 100 = n; omega] at this
  exact ⟨this.1, rfl, this.2, by show 0 ≤ 19; omega⟩
theorem lf_dig {n : Nat} (h : n ≤ 48) : Lf (.str (toString (n : Int))) := by
  have key : ∀ m : Fin 49, (PyData.str (toString ((m : Nat) : Int))).leavesShort 60 = true ∧ (PyData.str (toString ((m : Nat) : Int))).bulk ≤ 19 := by decide +kernel
  have := key ⟨n, by omega⟩
  exact ⟨rfl, rfl, this.1, this.2⟩
theorem lf_log {n : Nat} (h : n ≤ 48) : (n : Int).natAbs.log2 < 1920 := by
  have key : ∀ m : Fin 49, (((m : Nat) : Int)).natAbs.log2 < 1920 := by decide +kernel
  exact key ⟨n, by omega⟩
theorem lf_bool (b : Bool) : Lf (.bool b) := ⟨rfl, rfl, rfl, by show 0 ≤ 19; omega⟩
theorem lf_none : Lf .none := ⟨rfl, rfl, rfl, by show 0 ≤ 19; omega⟩
theorem Lf.e {d : PyData} (h : Lf d) : SmE d := ⟨h.sh, by rw [h.dp]; omega, h.lv, by have := h.bk; omega⟩
theorem lf_all : ∀ {ds : List PyData}, (∀ d ∈ ds, Lf d) → PyData.showableAll ds = true ∧ PyData.depthAll ds = 0 ∧ PyData.leavesShortAll 60 ds = true ∧ PyData.bulkAll ds ≤ 20 * ds.length
  | [], _ => ⟨rfl, rfl, rfl, by simp [PyData.bulkAll]⟩
  | d :: ds, h => by
    obtain ⟨a, b, c, e⟩ := lf_all fun x hx => h x (List.mem_cons_of_mem _ hx)
    have hd := h d (by simp)
    have := hd.bk
    simp only [PyData.showableAll, PyData.depthAll, PyData.leavesShortAll, PyData.bulkAll, a, b, c, hd.sh, hd.dp, hd.lv, List.length_cons]
    exact ⟨rfl, rfl, rfl, by omega⟩
theorem sme_tup {ds : List PyData} (h : ∀ d ∈ ds, Lf d) (hl : ds.length ≤ 3) : SmE (.tuple ds) := by
  obtain ⟨a, b, c, e⟩ := lf_all h
  exact ⟨by simp only [PyData.showable]; exact a, by simp only [PyData.depth, b]; omega, by simp only [PyData.leavesShort]; exact c, by simp only [PyData.bulk]; omega⟩
theorem sme_lst {ds : List PyData} (h : ∀ d ∈ ds, Lf d) (hl : ds.length ≤ 3) : SmE (.list ds) := by
  obtain ⟨a, b, c, e⟩ := lf_all h
  exact ⟨by simp only [PyData.showable]; exact a, by simp only [PyData.depth, b]; omega, by simp only [PyData.leavesShort]; exact c, by simp only [PyData.bulk]; omega⟩
theorem RDs_flat {H : Hp} : ∀ {ds : List PyData} {vs : List V}, vs.map flD = ds.map some → RDs H ds vs
  | [], vs, h => by
    cases vs with
    | nil => exact RDs_nil.mpr rfl
    | cons _ _ => simp at h
  | d :: ds, vs, h => by
    cases vs with
    | nil => simp at h
    | cons v vs =>
      simp only [List.map_cons, List.cons.injEq] at h
      refine RDs_one ?_ (RDs_flat h.2)
      have e := h.1
      cases v <;> simp only [flD, Option.some.injEq, reduceCtorEq] at e
      · subst e; exact RD_none.mpr rfl
      · subst e; exact RD_bool.mpr rfl
      · subst e; exact RD_int.mpr rfl
      · subst e; exact RD_str.mpr rfl
theorem rd_tup {H : Hp} {e : Addr} {vs : List V} {ds : List PyData} (h : H e = some (.tup vs)) (f : vs.map flD = ds.map some) : RD H (.tuple ds) (.ref e) := RD_tuple.mpr ⟨e, vs, rfl, h, RDs_flat f⟩
theorem rd_lst {H : Hp} {e : Addr} {vs : List V} {ds : List PyData} (h : H e = some (.lst vs)) (f : vs.map flD = ds.map some) : RD H (.list ds) (.ref e) := RD_list.mpr ⟨e, vs, rfl, h, RDs_flat f⟩
theorem sc_law_cell : FnScope ["_law_script", "_law_k"] ["_law_script", "_law_k"] (defScope s_law_cell) := ⟨rfl, rfl, rfl, by decide +kernel, rfl, by decide +kernel, by decide +kernel⟩
theorem h_law_cell (T : Txt K mg) : Has P w K mg base 1 "_law_cell" ["_law_script", "_law_k"] (spCell K) := by
  refine hasJ T.d_law_cell sc_law_cell (fun _ _ _ _ _ _ us hl => match us, hl with | [_, _], _ => rfl) ?_ fun f cdv A outer s H vs Q E hr h => ?_
  · rintro vs H Q E ⟨a, ns, k, rfl, _⟩; rfl
  obtain ⟨a, ns, k, rfl, hS, h0, q⟩ := h
  refine ⟨_, (jb_cons (js_if (jt_cmp op_lt (j_vL 1 k_law_cell__law_k) (j_callB (call_lenK (K := K) rfl) (glF k_law_cell_len) T.b_len bt_len (ja_cons (j_vL 0 k_law_cell__law_script) ja_nil) (by decide +kernel) (by decide +kernel)) (by first | exact nomark _ | with_unfolding_all rfl)) (jb_one (js_ret (j_ix (K := K) rfl (j_vL 0 k_law_cell__law_script) (j_vL 1 k_law_cell__law_k)))) jb_nil) (jb_one (js_ret (j_op op_addA (j_op op_mulA j_int (j_vL 1 k_law_cell__law_k)) j_int)))), ?_⟩
  walk_at "sts"
  refine ⟨_, _, rfl, .inl ⟨_, hS, rfl⟩, ?_⟩
  walk_at "sts"
  refine iteD (fun hk => ?_) (fun hk => ?_)
  · rw [List.length_map] at hk
    walk_at "sts"
    refine r_ixL hS (atI_int (v := .int (ns.getD k.toNat 0)) h0 ?_) (q _)
    rw [List.getElem?_map, List.getD_eq_getElem?_getD, List.getElem?_eq_getElem (by omega)]; rfl
  · walk_at "sts"
    exact q _
theorem sc_law_purse : FnScope ["_law_cell_here"] ["_law_cell_here"] (defScope s_law_purse) := ⟨rfl, rfl, rfl, by decide +kernel, rfl, by decide +kernel, by decide +kernel⟩
theorem h_law_purse (T : Txt K mg) : Has P w K mg base 1 "_law_purse" ["_law_cell_here"] spPurse := by
  refine hasJ T.d_law_purse sc_law_purse (fun _ _ _ _ _ _ us hl => match us, hl with | [_], _ => rfl) ?_ fun f cdv A outer s H vs Q E hr h => ?_
  · rintro vs H Q E ⟨a, rfl, _⟩; rfl
  obtain ⟨n, rfl, q⟩ := h
  refine ⟨_, (jb_one (js_ret (j_lst (ja_cons (j_callB (call_max2 rfl) (glF k_law_purse_max) T.b_max bt_max (ja_cons j_int (ja_cons (j_op op_sub (j_vL 0 k_law_purse__law_cell_here) (j_op op_pow j_int j_int)) ja_nil)) (by decide +kernel) (by decide +kernel)) (ja_cons (j_op op_mod (j_vL 0 k_law_purse__law_cell_here) j_int) (ja_cons j_int ja_nil)))))), ?_⟩
  walk_at "sts"
  refine ⟨by simp; decide, fun p hp => q p _ hp ((Chg.refl p H).new hp) ⟨_, _, _, upd_same, ?_, ?_, ?_⟩⟩
  · split <;> omega
  · omega
  · omega
theorem sc_law_take : FnScope ["_law_purse_here", "_law_many", "_law_digit", "_law_number"] ["_law_purse_here", "_law_many"] (defScope s_law_take) := ⟨rfl, rfl, rfl, by decide +kernel, rfl, by decide +kernel, by decide +kernel⟩
theorem h_law_take (T : Txt K mg) : Has P w K mg base 1 "_law_take" ["_law_purse_here", "_law_many"] spTake := by
  refine hasJ T.d_law_take sc_law_take (fun _ _ _ _ _ _ us hl => match us, hl with | [_, _], _ => rfl) ?_ fun f cdv A outer s H vs Q E hr h => ?_
  · rintro vs H Q E ⟨a, n, rfl, _⟩; rfl
  obtain ⟨p, n, rfl, ⟨a, b, c, hp, ha, hb, hb2⟩, hn, hn2, q⟩ := h
  refine ⟨_, (jb_cons (js_asgS (ts := rSetL) (j_op op_addA (j_ix (K := K) rfl (j_vL 0 k_law_take__law_purse_here) j_int) j_int) (jg_sub (j_vL 0 k_law_take__law_purse_here) j_int set_list)) (jb_cons (js_if (jt_cmp op_gt (j_ix (K := K) rfl (j_vL 0 k_law_take__law_purse_here) j_int) j_int (by first | exact nomark _ | with_unfolding_all rfl)) (jb_cons (js_set (i := 2) sc_law_take.nd rfl (Or.inl k_law_take__law_digit) (j_op op_mod (j_ix (K := K) rfl (j_vL 0 k_law_take__law_purse_here) j_int) (j_vL 1 k_law_take__law_many)) rfl) (jb_cons (js_asgS (ts := rSetL) (j_op op_fdiv (j_ix (K := K) rfl (j_vL 0 k_law_take__law_purse_here) j_int) (j_vL 1 k_law_take__law_many)) (jg_sub (j_vL 0 k_law_take__law_purse_here) j_int set_list)) (jb_one (js_ret (j_vL 2 k_law_take__law_digit))))) jb_nil) (jb_cons (js_set (i := 3) sc_law_take.nd rfl (Or.inl k_law_take__law_number) (j_op op_mod (j_op op_addA (j_op op_addA (j_op op_mulA (j_ix (K := K) rfl (j_vL 0 k_law_take__law_purse_here) j_int) j_int) (j_op op_mulA j_int (j_ix (K := K) rfl (j_vL 0 k_law_take__law_purse_here) j_int))) j_int) j_int) rfl) (jb_cons (js_set (i := 3) sc_law_take.nd rfl (Or.inl k_law_take__law_number) (j_op op_mod (j_op op_mulA (j_vL 3 k_law_take__law_number) (j_vL 3 k_law_take__law_number)) j_int) rfl) (jb_cons (js_set (i := 3) sc_law_take.nd rfl (Or.inl k_law_take__law_number) (j_op op_mod (j_op op_mulA (j_op op_addA (j_vL 3 k_law_take__law_number) (j_op op_mulA j_int (j_ix (K := K) rfl (j_vL 0 k_law_take__law_purse_here) j_int))) j_int) j_int) rfl) (jb_one (js_ret (j_op op_mod (j_op op_fdiv (j_op op_mod (j_op op_mulA (j_vL 3 k_law_take__law_number) (j_vL 3 k_law_take__law_number)) j_int) j_int) (j_vL 1 k_law_take__law_many))))))))), ?_⟩
  walk_at "sts"
  refine iteD (fun h1 => ?_) (fun h1 => ?_)
  · walk_at "sts"
    refine q _ _ (Int.emod_nonneg _ (by omega)) (Int.emod_lt_of_pos _ hn) ⟨_, _, _, upd_same, Int.ediv_nonneg ha (by omega), hb, hb2⟩ fun b' o hb' e => ?_
    rw [upd_ne hb', upd_ne hb']; exact e
  · walk_at "sts"
    refine q _ _ (Int.emod_nonneg _ (by omega)) (Int.emod_lt_of_pos _ hn) ⟨_, _, _, upd_same, ha, hb, hb2⟩ fun b' o hb' e => ?_
    rw [upd_ne hb']; exact e
theorem sc_law_letters : FnScope ["_law_purse_here", "_law_letters_here", "_law_first", "_law_step", "_law_many"] ["_law_purse_here"] (defScope s_law_letters) := ⟨rfl, rfl, rfl, by decide +kernel, rfl, by decide +kernel, by decide +kernel⟩
theorem h_law_letters (T : Txt K mg) : Has P w K mg base 2 "_law_letters" ["_law_purse_here"] spLetters := by
  have h_law_take := h_law_take (P := P) (w := w) (base := base) T
  refine hasJ T.d_law_letters sc_law_letters (fun _ _ _ _ _ _ us hl => match us, hl with | [_], _ => rfl) ?_ fun f cdv A outer s H vs Q E hr h => ?_
  · rintro vs H Q E ⟨a, rfl, _⟩; rfl
  obtain ⟨p, rfl, hP, q⟩ := h
  refine ⟨_, (jb_cons (js_set (i := 1) sc_law_letters.nd rfl (Or.inr k_law_letters__law_letters_here) j_str rfl) (jb_cons (js_set (i := 2) sc_law_letters.nd rfl (Or.inr k_law_letters__law_first) (j_call h_law_take (hr.mono (by decide)) (glF k_law_letters__law_take) (ja_cons (j_vL 0 k_law_letters__law_purse_here) (ja_cons j_int ja_nil)) (by decide +kernel)) rfl) (jb_cons (js_set (i := 3) sc_law_letters.nd rfl (Or.inr k_law_letters__law_step) (j_ix (K := K) rfl (j_lst (ja_cons j_int (ja_cons j_int (ja_cons j_int (ja_cons j_int (ja_cons j_int (ja_cons j_int ja_nil))))))) (j_call h_law_take (hr.mono (by decide)) (glF k_law_letters__law_take) (ja_cons (j_vL 0 k_law_letters__law_purse_here) (ja_cons j_int ja_nil)) (by decide +kernel))) rfl) (jb_cons (js_set (i := 4) sc_law_letters.nd rfl (Or.inl k_law_letters__law_many) (j_ix (K := K) rfl (j_lst (ja_cons j_int (ja_cons j_int (ja_cons j_int (ja_cons j_int (ja_cons j_int (ja_cons j_int (ja_cons j_int (ja_cons j_int ja_nil))))))))) (j_call h_law_take (hr.mono (by decide)) (glF k_law_letters__law_take) (ja_cons (j_vL 0 k_law_letters__law_purse_here) (ja_cons j_int ja_nil)) (by decide +kernel))) rfl) (jb_one (js_ret (j_comp (sub := [none, some 1, some 2, some 3]) (subOk_of (N := ["_law_purse_here", "_law_letters_here", "_law_first", "_law_step", "_law_many"]) (sc := defScope s_law_letters) (N' := ["_law_k", "_law_letters_here", "_law_first", "_law_step"]) (by decide +kernel)) rfl rfl rfl (ji_range1 (glF k_law_letters_range) T.b_range (ja_cons (j_vL 4 k_law_letters__law_many) ja_nil)) (fun C s₀ H₀ ex => (jg_B 0 (by decide +kernel) nd_law_letters_0)) (fun C s₀ H₀ ex => jif_nil) (fun C s₀ H₀ ex => (j_ix (K := K) rfl (j_vBF 1 (by decide +kernel)) (j_op op_mod (j_op op_addA (j_vBF 2 (by decide +kernel)) (j_op op_mulA (j_vBF 3 (by decide +kernel)) (j_vBL 0 (by decide +kernel)))) j_int)))))))))), ?_⟩
  walk_at "sts"
  refine ⟨p, 26, rfl, hP, by omega, by omega, fun d1 H1 a1 b1 P1 C1 => ?_⟩
  walk_at "sts"
  refine ⟨by decide, fun m1 n1 => ?_⟩
  walk_at "sts"
  refine ⟨p, 6, rfl, P1.new n1, by omega, by omega, fun d2 H2 a2 b2 P2 C2 => ?_⟩
  obtain ⟨w1, hw1, e1⟩ := pickI (ns := [1, 3, 5, 7, 9, 11]) a2 b2
  refine r_ixL (SqL.of (C2.at_ upd_same (P1.ne n1))) e1 ?_
  walk_at "sts"
  refine ⟨by decide, fun m2 n2 => ?_⟩
  walk_at "sts"
  refine ⟨p, 8, rfl, P2.new n2, by omega, by omega, fun d3 H3 a3 b3 P3 C3 => ?_⟩
  obtain ⟨w2, hw2, e2⟩ := pickI (ns := [1, 2, 2, 3, 3, 4, 5, 26]) a3 b3
  refine r_ixL (SqL.of (C3.at_ upd_same (P2.ne n2))) e2 ?_
  walk_at "sts"
  have g2 : 1 ≤ w2 ∧ w2 ≤ 26 := by
    have : ∀ n ∈ ([1, 2, 2, 3, 3, 4, 5, 26] : List Int), 1 ≤ n ∧ n ≤ 26 := by decide
    exact this w2 hw2
  refine ⟨_, rfl, by omega, by omega, ?_⟩
  refine comp_rng (fun i ys H' => H' = H3 ∧ ∃ zs : List Str, ys = zs.map V.str ∧ zs.length = i ∧ GoodS zs) (Nat.le_trans (show w2.toNat ≤ 1000 by omega) (by decide)) ⟨rfl, [], rfl, rfl, by intro y hy; cases hy⟩ (by rintro i ys H ⟨_, zs, rfl, hl, _⟩; simp [hl]) ?_ ?_
  · rintro i ys H' hi ⟨rfl, zs, rfl, hl, hz⟩
    walk_at "sts"
    refine ⟨KeepSt.set rfl, ?_⟩
    walk_at "sts"
    try with_reducible refine iteT ?_
    walk_at "sts"
    obtain ⟨c, hc, ec⟩ := pickN (ns := (Str.ofString "abcdefghijklmnopqrstuvwxyz").cps.toList) (d := (d1 + w1 * (0 + (i : Int))) % 26) (by omega) (by
      have : (Str.ofString "abcdefghijklmnopqrstuvwxyz").cps.toList.length = 26 := by decide +kernel
      omega)
    refine r_ixS (by decide +kernel) ec ⟨rfl, zs ++ [⟨#[c]⟩], by simp, by simp [hl], fun y hy => ?_⟩
    rcases List.mem_append.mp hy with h | h
    · exact hz y h
    · rw [List.mem_singleton.mp h]; exact ⟨c, rfl, lett_good c hc⟩
  · rintro ys H' ⟨rfl, zs, rfl, hl, hz⟩ D hD
    have nP : D ≠ p := P3.ne hD
    refine q D zs _ ?_ (P3.new hD) ?_ upd_same (by intro z; subst z; simp at hl; omega) (by omega) hz
    · exact C1.none_ ((Chg.new (Chg.refl p H1) n1).trans C2 |>.none_ (((Chg.new (Chg.refl p H2) n2).trans C3).none_ hD nP) nP) nP
    · exact (C1.trans ((Chg.new (Chg.refl p H1) n1).trans (C2.trans ((Chg.new (Chg.refl p H2) n2).trans C3)))).new hD
theorem sc_law_drawn : FnScope ["_law_purse_here", "_law_signs", "_law_most", "_law_size"] ["_law_purse_here", "_law_signs", "_law_most"] (defScope s_law_drawn) := ⟨rfl, rfl, rfl, by decide +kernel, rfl, by decide +kernel, by decide +kernel⟩
theorem h_law_drawn (T : Txt K mg) : Has P w K mg base 2 "_law_drawn" ["_law_purse_here", "_law_signs", "_law_most"] spDrawn := by
  have h_law_take := h_law_take (P := P) (w := w) (base := base) T
  refine hasJ T.d_law_drawn sc_law_drawn (fun _ _ _ _ _ _ us hl => match us, hl with | [_, _, _], _ => rfl) ?_ fun f cdv A outer s H vs Q E hr h => ?_
  · rintro vs H Q E ⟨p, q, ys, m, rfl, _⟩; rfl
  obtain ⟨p, r, ys, m, rfl, hP, hr0, hne, hle, hone, hm0, hm1, q⟩ := h
  have nrp : r ≠ p := by
    obtain ⟨a, b, c, e, _⟩ := hP
    intro z; subst z; rw [hr0] at e
    have e' := HO.lst.inj (Option.some.inj e)
    cases ys with
    | nil => cases e'
    | cons y ys => cases e'
  refine ⟨_, (jb_cons (js_set (i := 3) sc_law_drawn.nd rfl (Or.inl k_law_drawn__law_size) (j_call h_law_take (hr.mono (by decide)) (glF k_law_drawn__law_take) (ja_cons (j_vC 0 k_law_drawn__law_purse_here) (ja_cons (j_ix (K := K) rfl (j_lst (ja_cons j_int (ja_cons j_int (ja_cons j_int (ja_cons j_int (ja_cons j_int (ja_cons j_int (ja_cons j_int (ja_cons (j_op op_addA (j_vL 2 k_law_drawn__law_most) j_int) ja_nil))))))))) (j_call h_law_take (hr.mono (by decide)) (glF k_law_drawn__law_take) (ja_cons (j_vC 0 k_law_drawn__law_purse_here) (ja_cons j_int ja_nil)) (by decide +kernel))) ja_nil)) (by decide +kernel)) rfl) (jb_one (js_ret (j_meth (K := K) rfl PySem.F.plainAttrs_str PySem.F.slot_str_join PySem.F.type_str_join mt_join j_str (ja_cons (j_comp (sub := [none, some 1, some 0]) (subOk_of (N := ["_law_purse_here", "_law_signs", "_law_most", "_law_size"]) (sc := defScope s_law_drawn) (N' := ["_law_k", "_law_signs", "_law_purse_here"]) (by decide +kernel)) rfl rfl rfl (ji_range1 (glF k_law_drawn_range) T.b_range (ja_cons (j_vL 3 k_law_drawn__law_size) ja_nil)) (fun C s₀ H₀ ex => (jg_B 0 (by decide +kernel) nd_law_drawn_1)) (fun C s₀ H₀ ex => jif_nil) (fun C s₀ H₀ ex => (j_ix (K := K) rfl (j_vBF 1 (by decide +kernel)) (j_call h_law_take (hr.mono (by decide)) (glB (by decide +kernel)) (ja_cons (j_vBF 2 (by decide +kernel)) (ja_cons (j_callB (call_lenK (K := K) rfl) (glB (by decide +kernel)) T.b_len bt_len (ja_cons (j_vBF 1 (by decide +kernel)) ja_nil) (by decide +kernel) (by decide +kernel)) ja_nil)) (by decide +kernel))))) ja_nil))))), ?_⟩
  walk_at "sts"
  refine ⟨by simp; decide, fun m1 n1 => ?_⟩
  walk_at "sts"
  refine ⟨p, 8, rfl, hP.new n1, by omega, by omega, fun d2 H2 a2 b2 P2 C2 => ?_⟩
  obtain ⟨w1, hw1, e1⟩ := pickI (ns := [3, 5, 7, 9, 9, 9, 13, m + 1]) a2 b2
  refine r_ixL (SqL.of (C2.at_ upd_same (hP.ne n1))) e1 ?_
  have g1 : 1 ≤ w1 ∧ w1 ≤ 49 := by
    simp only [List.mem_cons, List.mem_nil_iff, or_false] at hw1
    omega
  walk_at "sts"
  refine ⟨p, w1, rfl, P2, by omega, by omega, fun d3 H3 a3 b3 P3 C3 => ?_⟩
  have C03 : Chg p H H3 := ((Chg.refl p H).new n1).trans (C2.trans C3)
  walk_at "sts"
  refine ⟨rfl, ?_⟩
  walk_at "sts"
  refine ⟨_, rfl, by omega, by omega, ?_⟩
  refine comp_rng (fun i us H' => Pur H' p ∧ Chg p H3 H' ∧ ∃ zs : List Str, us = zs.map V.str ∧ zs.length = i ∧ GoodS zs) (Nat.le_trans (show d3.toNat ≤ 1000 by omega) (by decide)) ⟨P3, Chg.refl _ _, [], rfl, rfl, by intro y hy; cases hy⟩ (by rintro i ys H ⟨_, _, zs, rfl, hl, _⟩; simp [hl]) ?_ ?_
  · rintro i us H4 hi ⟨P4, C4, zs, rfl, hl, hz⟩
    have hr4 : H4 r = some (.lst (ys.map V.str)) := C4.at_ (C03.at_ hr0 nrp) nrp
    walk_at "sts"
    refine ⟨KeepSt.set rfl, ?_⟩
    walk_at "sts"
    try with_reducible refine iteT ?_
    walk_at "sts"
    refine r_lenL (SqL.of hr4) ?_
    walk_at "sts"
    have hlen : 0 < ys.length := List.length_pos_iff.mpr hne
    refine ⟨p, _, rfl, P4, by simp; omega, by simp; omega, fun d5 H5 a5 b5 P5 C5 => ?_⟩
    rw [List.length_map] at b5
    obtain ⟨y, hy, ey⟩ := pickS (ns := ys) a5 b5
    refine r_ixL (SqL.of (C5.at_ hr4 nrp)) ey ⟨P5, C4.trans C5, zs ++ [y], by simp, by simp [hl], fun x hx => ?_⟩
    rcases List.mem_append.mp hx with h | h
    · exact hz x h
    · rw [List.mem_singleton.mp h]; exact hone y hy
  · rintro us H4 ⟨P4, C4, zs, rfl, hl, hz⟩ D hD
    walk_at "sts"
    have hs1 := sum_ones hz.ones
    have e0 : (Str.ofString "").length = 0 := by decide +kernel
    refine r_join upd_same (by rw [hs1, e0]; omega) ?_
    exact q _ _ (row_of hz (by omega)) (P4.new hD) ((C03.trans C4).new hD)
theorem sc_law_row : FnScope ["_law_purse_here", "_law_signs"] ["_law_purse_here", "_law_signs"] (defScope s_law_row) := ⟨rfl, rfl, rfl, by decide +kernel, rfl, by decide +kernel, by decide +kernel⟩
theorem h_law_row (T : Txt K mg) : Has P w K mg base 3 "_law_row" ["_law_purse_here", "_law_signs"] spRow := by
  have h_law_take := h_law_take (P := P) (w := w) (base := base) T
  have h_law_drawn := h_law_drawn (P := P) (w := w) (base := base) T
  refine hasJ T.d_law_row sc_law_row (fun _ _ _ _ _ _ us hl => match us, hl with | [_, _], _ => rfl) ?_ fun f cdv A outer s H vs Q E hr h => ?_
  · rintro vs H Q E ⟨p, q, ys, rfl, _⟩; rfl
  obtain ⟨p, r, ys, rfl, hP, hr0, hne, hle, hone, q⟩ := h
  have nrp : r ≠ p := by
    obtain ⟨a, b, c, e, _⟩ := hP
    intro z; subst z; rw [hr0] at e
    have e' := HO.lst.inj (Option.some.inj e)
    cases ys with
    | nil => cases e'
    | cons y ys => cases e'
  have hu64 := hr.units
  refine ⟨_, (jb_cons (js_if (jt_cmp (op_eqX (K := K) rfl hu64) (j_call h_law_take (hr.mono (by decide)) (glF k_law_row__law_take) (ja_cons (j_vL 0 k_law_row__law_purse_here) (ja_cons j_int ja_nil)) (by decide +kernel)) j_int (by first | exact nomark _ | with_unfolding_all rfl)) (jb_one (js_ret (j_call h_law_drawn (hr.mono (by decide)) (glF k_law_row__law_drawn) (ja_cons (j_vL 0 k_law_row__law_purse_here) (ja_cons (j_op op_addA (j_vL 1 k_law_row__law_signs) (j_lst (ja_cons j_str ja_nil))) (ja_cons j_int ja_nil))) (by decide +kernel)))) jb_nil) (jb_one (js_ret (j_call h_law_drawn (hr.mono (by decide)) (glF k_law_row__law_drawn) (ja_cons (j_vL 0 k_law_row__law_purse_here) (ja_cons (j_vL 1 k_law_row__law_signs) (ja_cons j_int ja_nil))) (by decide +kernel))))), ?_⟩
  walk_at "sts"
  refine ⟨p, 3, rfl, hP, by omega, by omega, fun d2 H2 a2 b2 P2 C2 => ?_⟩
  walk_at "sts"
  have hr2 := C2.at_ hr0 nrp
  refine iteD (fun h1 => ?_) (fun h1 => ?_)
  · walk_at "sts"
    refine ⟨by simp; decide, fun m1 n1 => ?_⟩
    refine r_addL (upd_old n1 hr2) upd_same (by simp; exact Nat.le_trans (show ys.length + 1 ≤ 1000 by omega) (by decide)) fun m2 n2 => ?_
    walk_at "sts"
    refine ⟨p, m2, ys ++ [Str.ofString "."], 48, rfl, (P2.new n1).new n2, by rw [upd_same]; simp, by simp, by simp; omega, fun y hy => ?_, by omega, by omega, fun z H' hz P' C' => q z H' hz P' ((((C2.new n1).new n2)).trans C')⟩
    rcases List.mem_append.mp hy with h | h
    · exact hone y h
    · rw [List.mem_singleton.mp h]; exact ⟨46, by decide +kernel, by decide +kernel⟩
  · walk_at "sts"
    exact ⟨p, r, ys, 48, rfl, P2, hr2, hne, by omega, hone, by omega, by omega, fun z H' hz P' C' => q z H' hz P' (C2.trans C')⟩
theorem purNe {H : Hp} {p r : Addr} {ys : List Str} (hP : Pur H p) (hr0 : H r = some (.lst (ys.map V.str))) : r ≠ p := by
  obtain ⟨a, b, c, e, _⟩ := hP
  intro z; subst z; rw [hr0] at e
  have e' := HO.lst.inj (Option.some.inj e)
  cases ys with
  | nil => cases e'
  | cons y ys => cases e'
def spPairL : Sp := fun vs H Q _ => ∃ (p b : Addr) (i j : Nat) (z y : Str), vs = [.ref p, .ref b, .str z, .str y] ∧ Pur H p ∧ H b = some (.tup [.int i, .int j]) ∧ i ≤ 48 ∧ j ≤ 48 ∧ z.length ≤ 48 ∧ y.length ≤ 48 ∧
  ∀ v d H', RD (Hx p H') d v → SmE d → Pur H' p → Chg p H H' → Q v H'
theorem sc_law_pair : FnScope ["_law_purse_here", "_law_pair_here", "_law_side", "_law_top", "_law_one", "_law_other", "_law_way", "_law_some"] ["_law_purse_here", "_law_pair_here", "_law_side", "_law_top"] (defScope s_law_pair) := ⟨rfl, rfl, rfl, by decide +kernel, rfl, by decide +kernel, by decide +kernel⟩
theorem h_law_pair (T : Txt K mg) : Has P w K mg base 2 "_law_pair" ["_law_purse_here", "_law_pair_here", "_law_side", "_law_top"] spPairL := by
  have h_law_take := h_law_take (P := P) (w := w) (base := base) T
  refine hasJ T.d_law_pair sc_law_pair (fun _ _ _ _ _ _ us hl => match us, hl with | [_, _, _, _], _ => rfl) ?_ fun f cdv A outer s H vs Q E hr h => ?_
  · rintro vs H Q E ⟨p, b, i, j, z, y, rfl, _⟩; rfl
  obtain ⟨p, b, i, j, z, y, rfl, hP, hb, hi, hj, hz, hy, q⟩ := h
  have hu := hr.units0
  have hu64 := hr.units
  refine ⟨_, (jb_cons (js_asgT (j_vL 1 k_law_pair__law_pair_here) (jg_seqT (K := K) rfl rfl (jgs_cons (jg_name (i := 4) sc_law_pair.nd rfl (Or.inl k_law_pair__law_one) rfl) (jgs_cons (jg_name (i := 5) sc_law_pair.nd rfl (Or.inl k_law_pair__law_other) rfl) jgs_nil)))) (jb_cons (js_set (i := 6) sc_law_pair.nd rfl (Or.inl k_law_pair__law_way) (j_call h_law_take (hr.mono (by decide)) (glF k_law_pair__law_take) (ja_cons (j_vL 0 k_law_pair__law_purse_here) (ja_cons j_int ja_nil)) (by decide +kernel)) rfl) (jb_cons (js_if (jt_cmp op_lt (j_vL 6 k_law_pair__law_way) j_int (by first | exact nomark _ | with_unfolding_all rfl)) (jb_one (js_ret (j_ix (K := K) rfl (j_lst (ja_cons (j_tup (ja_cons (j_op op_addA (j_vL 4 k_law_pair__law_one) j_int) (ja_cons (j_vL 5 k_law_pair__law_other) ja_nil))) (ja_cons (j_tup (ja_cons (j_op op_sub (j_vL 4 k_law_pair__law_one) j_int) (ja_cons (j_vL 5 k_law_pair__law_other) ja_nil))) (ja_cons (j_tup (ja_cons (j_vL 4 k_law_pair__law_one) (ja_cons (j_op op_addA (j_vL 5 k_law_pair__law_other) j_int) ja_nil))) (ja_cons (j_tup (ja_cons (j_vL 4 k_law_pair__law_one) (ja_cons (j_op op_sub (j_vL 5 k_law_pair__law_other) j_int) ja_nil))) ja_nil))))) (j_vL 6 k_law_pair__law_way)))) jb_nil) (jb_cons (js_set (i := 7) sc_law_pair.nd rfl (Or.inl k_law_pair__law_some) (j_lst (ja_cons (j_tup (ja_cons (j_vL 5 k_law_pair__law_other) (ja_cons (j_vL 4 k_law_pair__law_one) ja_nil))) (ja_cons (j_tup (ja_cons (j_callB (call_lenK (K := K) rfl) (glF k_law_pair_len) T.b_len bt_len (ja_cons (j_vL 2 k_law_pair__law_side) ja_nil) (by decide +kernel) (by decide +kernel)) (ja_cons (j_vL 5 k_law_pair__law_other) ja_nil))) (ja_cons (j_tup (ja_cons (j_vL 4 k_law_pair__law_one) (ja_cons (j_callB (call_lenK (K := K) rfl) (glF k_law_pair_len) T.b_len bt_len (ja_cons (j_vL 3 k_law_pair__law_top) ja_nil) (by decide +kernel) (by decide +kernel)) ja_nil))) (ja_cons (j_tup (ja_cons (j_un un_neg j_int) (ja_cons (j_vL 5 k_law_pair__law_other) ja_nil))) (ja_cons (j_tup (ja_cons (j_vL 4 k_law_pair__law_one) (ja_cons (j_un un_neg j_int) ja_nil))) (ja_cons (j_lst (ja_cons (j_vL 4 k_law_pair__law_one) (ja_cons (j_vL 5 k_law_pair__law_other) ja_nil))) (ja_cons (j_tup (ja_cons (j_vL 4 k_law_pair__law_one) (ja_cons (j_vL 5 k_law_pair__law_other) (ja_cons j_int ja_nil)))) ja_nil)))))))) rfl) (jb_cons (js_set (i := 7) sc_law_pair.nd rfl (Or.inl k_law_pair__law_some) (j_op op_addA (j_vL 7 k_law_pair__law_some) (j_lst (ja_cons j_non (ja_cons (j_tup (ja_cons (j_vL 4 k_law_pair__law_one) ja_nil)) (ja_cons (j_tup (ja_cons (j_cmp (op_eqX (K := K) rfl hu64) (j_vL 4 k_law_pair__law_one) (j_vL 4 k_law_pair__law_one) (by first | exact nomark _ | with_unfolding_all rfl)) (ja_cons (j_vL 5 k_law_pair__law_other) ja_nil))) (ja_cons (j_tup (ja_cons (j_vL 4 k_law_pair__law_one) (ja_cons (j_callTy call_strI (glF k_law_pair_str) T.b_str bt_str (ja_cons (j_vL 5 k_law_pair__law_other) ja_nil) (by decide +kernel) (by decide +kernel)) ja_nil))) (ja_cons (j_vL 4 k_law_pair__law_one) (ja_cons (j_tup (ja_cons (j_vL 4 k_law_pair__law_one) (ja_cons (j_cmp (op_eqX (K := K) rfl hu64) (j_vL 5 k_law_pair__law_other) (j_vL 5 k_law_pair__law_other) (by first | exact nomark _ | with_unfolding_all rfl)) ja_nil))) ja_nil)))))))) rfl) (jb_cons (js_set (i := 7) sc_law_pair.nd rfl (Or.inl k_law_pair__law_some) (j_op op_addA (j_vL 7 k_law_pair__law_some) (j_lst (ja_cons (j_tup (ja_cons (j_cmp (op_neX (K := K) rfl hu64) (j_vL 4 k_law_pair__law_one) (j_vL 4 k_law_pair__law_one) (by first | exact nomark _ | with_unfolding_all rfl)) (ja_cons (j_vL 5 k_law_pair__law_other) ja_nil))) (ja_cons (j_tup (ja_cons (j_vL 4 k_law_pair__law_one) (ja_cons (j_cmp (op_neX (K := K) rfl hu64) (j_vL 5 k_law_pair__law_other) (j_vL 5 k_law_pair__law_other) (by first | exact nomark _ | with_unfolding_all rfl)) ja_nil))) ja_nil)))) rfl) (jb_one (js_ret (j_ix (K := K) rfl (j_vL 7 k_law_pair__law_some) (j_call h_law_take (hr.mono (by decide)) (glF k_law_pair__law_take) (ja_cons (j_vL 0 k_law_pair__law_purse_here) (ja_cons j_int ja_nil)) (by decide +kernel))))))))))), ?_⟩
  walk_at "sts"
  have lz : z.length ≤ sizeLine := Nat.le_trans hz (by decide)
  have ly : y.length ≤ sizeLine := Nat.le_trans hy (by decide)
  refine ⟨b, _, rfl, .inl (SqT.of hb), rfl, ?_⟩
  walk_at "sts"
  refine ⟨p, 8, rfl, hP, by omega, by omega, fun way G0 w0 w1 Q0 C0 => ?_⟩
  walk_at "sts"
  refine iteD (fun h4 => ?_) (fun h4 => ?_)
  · walk_at "sts"
    refine r_new rfl fun e1 n1 => ?_
    walk_at "sts"
    have m1 := Q0.ne n1
    have Q1 := Q0.new (o := .tup [.int ((i : Int) + 1), .int j]) n1
    have S1 := (Same.refl G0).upd (o := .tup [.int ((i : Int) + 1), .int j]) n1
    have f1 := upd_same (H := G0) (a := e1) (o := .tup [.int ((i : Int) + 1), .int j])
    generalize upd G0 e1 (.tup [.int ((i : Int) + 1), .int j]) = G1 at Q1 S1 f1 ⊢
    refine r_new rfl fun e2 n2 => ?_
    walk_at "sts"
    have m2 := Q1.ne n2
    have Q2 := Q1.new (o := .tup [.int ((i : Int) - 1), .int j]) n2
    have S2 := (Same.refl G1).upd (o := .tup [.int ((i : Int) - 1), .int j]) n2
    have f2 := upd_same (H := G1) (a := e2) (o := .tup [.int ((i : Int) - 1), .int j])
    generalize upd G1 e2 (.tup [.int ((i : Int) - 1), .int j]) = G2 at Q2 S2 f2 ⊢
    refine r_new rfl fun e3 n3 => ?_
    walk_at "sts"
    have m3 := Q2.ne n3
    have Q3 := Q2.new (o := .tup [.int i, .int ((j : Int) + 1)]) n3
    have S3 := (Same.refl G2).upd (o := .tup [.int i, .int ((j : Int) + 1)]) n3
    have f3 := upd_same (H := G2) (a := e3) (o := .tup [.int i, .int ((j : Int) + 1)])
    generalize upd G2 e3 (.tup [.int i, .int ((j : Int) + 1)]) = G3 at Q3 S3 f3 ⊢
    refine r_new rfl fun e4 n4 => ?_
    walk_at "sts"
    have m4 := Q3.ne n4
    have Q4 := Q3.new (o := .tup [.int i, .int ((j : Int) - 1)]) n4
    have S4 := (Same.refl G3).upd (o := .tup [.int i, .int ((j : Int) - 1)]) n4
    have f4 := upd_same (H := G3) (a := e4) (o := .tup [.int i, .int ((j : Int) - 1)])
    generalize upd G3 e4 (.tup [.int i, .int ((j : Int) - 1)]) = G4 at Q4 S4 f4 ⊢
    refine r_new rfl fun L nL => ?_
    walk_at "sts"
    have C8 : Chg p G4 _ := (Chg.refl p G4).new nL (o := .lst [.ref e1, .ref e2, .ref e3, .ref e4])
    have T4 := Same.refl G4
    have T3 := S4.trans T4
    have T2 := S3.trans T3
    have T1 := S2.trans T2
    have T0 := S1.trans T1
    have g1 := Hx_at (C8.at_ (T1 _ _ f1) m1) m1
    have g2 := Hx_at (C8.at_ (T2 _ _ f2) m2) m2
    have g3 := Hx_at (C8.at_ (T3 _ _ f3) m3) m3
    have g4 := Hx_at (C8.at_ (T4 _ _ f4) m4) m4
    obtain ⟨t, ht, et⟩ := pickV (vs := [.ref e1, .ref e2, .ref e3, .ref e4]) (d := way) w0 (by simpa using h4)
    refine r_ixL (SqL.of upd_same) et ?_
    have fin : ∀ ds, RD (Hx p _) (.tuple ds) t → (∀ d ∈ ds, Lf d) → ds.length ≤ 3 → Q t _ := fun ds r l n => q t _ _ r (sme_tup l n) (Q4.new nL) ((C0.trans (Chg.of_same T0)).trans C8)
    simp only [List.mem_cons, List.mem_nil_iff, or_false] at ht
    rcases ht with rfl | rfl | rfl | rfl
    · exact fin [.int ((i : Int) + 1), .int j] (rd_tup g1 rfl) (by simp only [List.mem_cons, List.mem_nil_iff, or_false]; rintro d (rfl | rfl) <;> exact lf_int (by omega) (by omega)) (by simp)
    · exact fin [.int ((i : Int) - 1), .int j] (rd_tup g2 rfl) (by simp only [List.mem_cons, List.mem_nil_iff, or_false]; rintro d (rfl | rfl) <;> exact lf_int (by omega) (by omega)) (by simp)
    · exact fin [.int i, .int ((j : Int) + 1)] (rd_tup g3 rfl) (by simp only [List.mem_cons, List.mem_nil_iff, or_false]; rintro d (rfl | rfl) <;> exact lf_int (by omega) (by omega)) (by simp)
    · exact fin [.int i, .int ((j : Int) - 1)] (rd_tup g4 rfl) (by simp only [List.mem_cons, List.mem_nil_iff, or_false]; rintro d (rfl | rfl) <;> exact lf_int (by omega) (by omega)) (by simp)
  · walk_at "sts"
    refine r_new rfl fun e1 n1 => ?_
    walk_at "sts"
    have m1 := Q0.ne n1
    have Q1 := Q0.new (o := .tup [.int j, .int i]) n1
    have S1 := (Same.refl G0).upd (o := .tup [.int j, .int i]) n1
    have f1 := upd_same (H := G0) (a := e1) (o := .tup [.int j, .int i])
    generalize upd G0 e1 (.tup [.int j, .int i]) = G1 at Q1 S1 f1 ⊢
    refine r_lenS lz ?_
    walk_at "sts"
    refine r_new rfl fun e2 n2 => ?_
    walk_at "sts"
    have m2 := Q1.ne n2
    have Q2 := Q1.new (o := .tup [.int z.length, .int j]) n2
    have S2 := (Same.refl G1).upd (o := .tup [.int z.length, .int j]) n2
    have f2 := upd_same (H := G1) (a := e2) (o := .tup [.int z.length, .int j])
    generalize upd G1 e2 (.tup [.int z.length, .int j]) = G2 at Q2 S2 f2 ⊢
    refine r_lenS ly ?_
    walk_at "sts"
    refine r_new rfl fun e3 n3 => ?_
    walk_at "sts"
    have m3 := Q2.ne n3
    have Q3 := Q2.new (o := .tup [.int i, .int y.length]) n3
    have S3 := (Same.refl G2).upd (o := .tup [.int i, .int y.length]) n3
    have f3 := upd_same (H := G2) (a := e3) (o := .tup [.int i, .int y.length])
    generalize upd G2 e3 (.tup [.int i, .int y.length]) = G3 at Q3 S3 f3 ⊢
    refine r_new rfl fun e4 n4 => ?_
    walk_at "sts"
    have m4 := Q3.ne n4
    have Q4 := Q3.new (o := .tup [.int (-1), .int j]) n4
    have S4 := (Same.refl G3).upd (o := .tup [.int (-1), .int j]) n4
    have f4 := upd_same (H := G3) (a := e4) (o := .tup [.int (-1), .int j])
    generalize upd G3 e4 (.tup [.int (-1), .int j]) = G4 at Q4 S4 f4 ⊢
    refine r_new rfl fun e5 n5 => ?_
    walk_at "sts"
    have m5 := Q4.ne n5
    have Q5 := Q4.new (o := .tup [.int i, .int (-1)]) n5
    have S5 := (Same.refl G4).upd (o := .tup [.int i, .int (-1)]) n5
    have f5 := upd_same (H := G4) (a := e5) (o := .tup [.int i, .int (-1)])
    generalize upd G4 e5 (.tup [.int i, .int (-1)]) = G5 at Q5 S5 f5 ⊢
    refine r_new rfl fun e6 n6 => ?_
    walk_at "sts"
    have m6 := Q5.ne n6
    have Q6 := Q5.new (o := .lst [.int i, .int j]) n6
    have S6 := (Same.refl G5).upd (o := .lst [.int i, .int j]) n6
    have f6 := upd_same (H := G5) (a := e6) (o := .lst [.int i, .int j])
    generalize upd G5 e6 (.lst [.int i, .int j]) = G6 at Q6 S6 f6 ⊢
    refine r_new rfl fun e7 n7 => ?_
    walk_at "sts"
    have m7 := Q6.ne n7
    have Q7 := Q6.new (o := .tup [.int i, .int j, .int 0]) n7
    have S7 := (Same.refl G6).upd (o := .tup [.int i, .int j, .int 0]) n7
    have f7 := upd_same (H := G6) (a := e7) (o := .tup [.int i, .int j, .int 0])
    generalize upd G6 e7 (.tup [.int i, .int j, .int 0]) = G7 at Q7 S7 f7 ⊢
    refine r_new rfl fun e8 n8 => ?_
    walk_at "sts"
    have m8 := Q7.ne n8
    have Q8 := Q7.new (o := .lst [.ref e1, .ref e2, .ref e3, .ref e4, .ref e5, .ref e6, .ref e7]) n8
    have S8 := (Same.refl G7).upd (o := .lst [.ref e1, .ref e2, .ref e3, .ref e4, .ref e5, .ref e6, .ref e7]) n8
    have f8 := upd_same (H := G7) (a := e8) (o := .lst [.ref e1, .ref e2, .ref e3, .ref e4, .ref e5, .ref e6, .ref e7])
    generalize upd G7 e8 (.lst [.ref e1, .ref e2, .ref e3, .ref e4, .ref e5, .ref e6, .ref e7]) = G8 at Q8 S8 f8 ⊢
    refine r_new rfl fun e9 n9 => ?_
    walk_at "sts"
    have m9 := Q8.ne n9
    have Q9 := Q8.new (o := .tup [.int i]) n9
    have S9 := (Same.refl G8).upd (o := .tup [.int i]) n9
    have f9 := upd_same (H := G8) (a := e9) (o := .tup [.int i])
    generalize upd G8 e9 (.tup [.int i]) = G9 at Q9 S9 f9 ⊢
    rw [decide_eq_true rfl]
    refine r_new rfl fun e10 n10 => ?_
    walk_at "sts"
    have m10 := Q9.ne n10
    have Q10 := Q9.new (o := .tup [.bl true, .int j]) n10
    have S10 := (Same.refl G9).upd (o := .tup [.bl true, .int j]) n10
    have f10 := upd_same (H := G9) (a := e10) (o := .tup [.bl true, .int j])
    generalize upd G9 e10 (.tup [.bl true, .int j]) = G10 at Q10 S10 f10 ⊢
    refine r_strI (lf_log hj) ?_
    walk_at "sts"
    refine r_new rfl fun e11 n11 => ?_
    walk_at "sts"
    have m11 := Q10.ne n11
    have Q11 := Q10.new (o := .tup [.int i, .str (toString (j : Int))]) n11
    have S11 := (Same.refl G10).upd (o := .tup [.int i, .str (toString (j : Int))]) n11
    have f11 := upd_same (H := G10) (a := e11) (o := .tup [.int i, .str (toString (j : Int))])
    generalize upd G10 e11 (.tup [.int i, .str (toString (j : Int))]) = G11 at Q11 S11 f11 ⊢
    rw [decide_eq_true rfl]
    refine r_new rfl fun e12 n12 => ?_
    walk_at "sts"
    have m12 := Q11.ne n12
    have Q12 := Q11.new (o := .tup [.int i, .bl true]) n12
    have S12 := (Same.refl G11).upd (o := .tup [.int i, .bl true]) n12
    have f12 := upd_same (H := G11) (a := e12) (o := .tup [.int i, .bl true])
    generalize upd G11 e12 (.tup [.int i, .bl true]) = G12 at Q12 S12 f12 ⊢
    refine r_new rfl fun e13 n13 => ?_
    walk_at "sts"
    have m13 := Q12.ne n13
    have Q13 := Q12.new (o := .lst [.non, .ref e9, .ref e10, .ref e11, .int i, .ref e12]) n13
    have S13 := (Same.refl G12).upd (o := .lst [.non, .ref e9, .ref e10, .ref e11, .int i, .ref e12]) n13
    have f13 := upd_same (H := G12) (a := e13) (o := .lst [.non, .ref e9, .ref e10, .ref e11, .int i, .ref e12])
    generalize upd G12 e13 (.lst [.non, .ref e9, .ref e10, .ref e11, .int i, .ref e12]) = G13 at Q13 S13 f13 ⊢
    have T8_13 := S9.trans (S10.trans (S11.trans (S12.trans (S13))))
    refine r_addL (T8_13 _ _ f8) f13 (by simp; decide) fun e14 n14 => ?_
    walk_at "sts"
    have m14 := Q13.ne n14
    have Q14 := Q13.new (o := .lst ([.ref e1, .ref e2, .ref e3, .ref e4, .ref e5, .ref e6, .ref e7] ++ [.non, .ref e9, .ref e10, .ref e11, .int i, .ref e12])) n14
    have S14 := (Same.refl G13).upd (o := .lst ([.ref e1, .ref e2, .ref e3, .ref e4, .ref e5, .ref e6, .ref e7] ++ [.non, .ref e9, .ref e10, .ref e11, .int i, .ref e12])) n14
    have f14 := upd_same (H := G13) (a := e14) (o := .lst ([.ref e1, .ref e2, .ref e3, .ref e4, .ref e5, .ref e6, .ref e7] ++ [.non, .ref e9, .ref e10, .ref e11, .int i, .ref e12]))
    generalize upd G13 e14 (.lst ([.ref e1, .ref e2, .ref e3, .ref e4, .ref e5, .ref e6, .ref e7] ++ [.non, .ref e9, .ref e10, .ref e11, .int i, .ref e12])) = G14 at Q14 S14 f14 ⊢
    rw [decide_eq_true rfl]
    refine r_new rfl fun e15 n15 => ?_
    walk_at "sts"
    have m15 := Q14.ne n15
    have Q15 := Q14.new (o := .tup [.bl (!true), .int j]) n15
    have S15 := (Same.refl G14).upd (o := .tup [.bl (!true), .int j]) n15
    have f15 := upd_same (H := G14) (a := e15) (o := .tup [.bl (!true), .int j])
    generalize upd G14 e15 (.tup [.bl (!true), .int j]) = G15 at Q15 S15 f15 ⊢
    rw [decide_eq_true rfl]
    refine r_new rfl fun e16 n16 => ?_
    walk_at "sts"
    have m16 := Q15.ne n16
    have Q16 := Q15.new (o := .tup [.int i, .bl (!true)]) n16
    have S16 := (Same.refl G15).upd (o := .tup [.int i, .bl (!true)]) n16
    have f16 := upd_same (H := G15) (a := e16) (o := .tup [.int i, .bl (!true)])
    generalize upd G15 e16 (.tup [.int i, .bl (!true)]) = G16 at Q16 S16 f16 ⊢
    refine r_new rfl fun e17 n17 => ?_
    walk_at "sts"
    have m17 := Q16.ne n17
    have Q17 := Q16.new (o := .lst [.ref e15, .ref e16]) n17
    have S17 := (Same.refl G16).upd (o := .lst [.ref e15, .ref e16]) n17
    have f17 := upd_same (H := G16) (a := e17) (o := .lst [.ref e15, .ref e16])
    generalize upd G16 e17 (.lst [.ref e15, .ref e16]) = G17 at Q17 S17 f17 ⊢
    have T14_17 := S15.trans (S16.trans (S17))
    refine r_addL (T14_17 _ _ f14) f17 (by simp; decide) fun e18 n18 => ?_
    walk_at "sts"
    have m18 := Q17.ne n18
    have Q18 := Q17.new (o := .lst ([.ref e1, .ref e2, .ref e3, .ref e4, .ref e5, .ref e6, .ref e7] ++ [.non, .ref e9, .ref e10, .ref e11, .int i, .ref e12] ++ [.ref e15, .ref e16])) n18
    have S18 := (Same.refl G17).upd (o := .lst ([.ref e1, .ref e2, .ref e3, .ref e4, .ref e5, .ref e6, .ref e7] ++ [.non, .ref e9, .ref e10, .ref e11, .int i, .ref e12] ++ [.ref e15, .ref e16])) n18
    have f18 := upd_same (H := G17) (a := e18) (o := .lst ([.ref e1, .ref e2, .ref e3, .ref e4, .ref e5, .ref e6, .ref e7] ++ [.non, .ref e9, .ref e10, .ref e11, .int i, .ref e12] ++ [.ref e15, .ref e16]))
    generalize upd G17 e18 (.lst ([.ref e1, .ref e2, .ref e3, .ref e4, .ref e5, .ref e6, .ref e7] ++ [.non, .ref e9, .ref e10, .ref e11, .int i, .ref e12] ++ [.ref e15, .ref e16])) = G18 at Q18 S18 f18 ⊢
    refine ⟨p, 15, rfl, Q18, by omega, by omega, fun c H8 c0 c1 P8 C8 => ?_⟩
    walk_at "sts"
    have T18 := Same.refl G18
    have T17 := S18.trans T18
    have T16 := S17.trans T17
    have T15 := S16.trans T16
    have T14 := S15.trans T15
    have T13 := S14.trans T14
    have T12 := S13.trans T13
    have T11 := S12.trans T12
    have T10 := S11.trans T11
    have T9 := S10.trans T10
    have T8 := S9.trans T9
    have T7 := S8.trans T8
    have T6 := S7.trans T7
    have T5 := S6.trans T6
    have T4 := S5.trans T5
    have T3 := S4.trans T4
    have T2 := S3.trans T3
    have T1 := S2.trans T2
    have T0 := S1.trans T1
    have g1 := Hx_at (C8.at_ (T1 _ _ f1) m1) m1
    have g2 := Hx_at (C8.at_ (T2 _ _ f2) m2) m2
    have g3 := Hx_at (C8.at_ (T3 _ _ f3) m3) m3
    have g4 := Hx_at (C8.at_ (T4 _ _ f4) m4) m4
    have g5 := Hx_at (C8.at_ (T5 _ _ f5) m5) m5
    have g6 := Hx_at (C8.at_ (T6 _ _ f6) m6) m6
    have g7 := Hx_at (C8.at_ (T7 _ _ f7) m7) m7
    have g8 := Hx_at (C8.at_ (T8 _ _ f8) m8) m8
    have g9 := Hx_at (C8.at_ (T9 _ _ f9) m9) m9
    have g10 := Hx_at (C8.at_ (T10 _ _ f10) m10) m10
    have g11 := Hx_at (C8.at_ (T11 _ _ f11) m11) m11
    have g12 := Hx_at (C8.at_ (T12 _ _ f12) m12) m12
    have g13 := Hx_at (C8.at_ (T13 _ _ f13) m13) m13
    have g14 := Hx_at (C8.at_ (T14 _ _ f14) m14) m14
    have g15 := Hx_at (C8.at_ (T15 _ _ f15) m15) m15
    have g16 := Hx_at (C8.at_ (T16 _ _ f16) m16) m16
    have g17 := Hx_at (C8.at_ (T17 _ _ f17) m17) m17
    have g18 := Hx_at (C8.at_ (T18 _ _ f18) m18) m18
    obtain ⟨t, ht, et⟩ := pickV (vs := [.ref e1, .ref e2, .ref e3, .ref e4, .ref e5, .ref e6, .ref e7, .non, .ref e9, .ref e10, .ref e11, .int i, .ref e12, .ref e15, .ref e16]) c0 c1
    refine r_ixL (SqL.of (show H8 e18 = some (.lst [.ref e1, .ref e2, .ref e3, .ref e4, .ref e5, .ref e6, .ref e7, .non, .ref e9, .ref e10, .ref e11, .int i, .ref e12, .ref e15, .ref e16]) from C8.at_ f18 m18)) et ?_
    have fin : ∀ d, RD (Hx p H8) d t → SmE d → Q t H8 := fun d r l => q t d _ r l P8 ((C0.trans (Chg.of_same T0)).trans C8)
    simp only [List.mem_cons, List.mem_nil_iff, or_false] at ht
    rcases ht with rfl | rfl | rfl | rfl | rfl | rfl | rfl | rfl | rfl | rfl | rfl | rfl | rfl | rfl | rfl
    · exact fin (.tuple [.int j, .int i]) (rd_tup g1 rfl) (sme_tup (by simp only [List.mem_cons, List.mem_nil_iff, or_false]; rintro d (rfl | rfl) <;> first | exact lf_int (by omega) (by omega) | exact lf_bool _ | exact lf_dig hj) (by simp))
    · exact fin (.tuple [.int z.length, .int j]) (rd_tup g2 rfl) (sme_tup (by simp only [List.mem_cons, List.mem_nil_iff, or_false]; rintro d (rfl | rfl) <;> first | exact lf_int (by omega) (by omega) | exact lf_bool _ | exact lf_dig hj) (by simp))
    · exact fin (.tuple [.int i, .int y.length]) (rd_tup g3 rfl) (sme_tup (by simp only [List.mem_cons, List.mem_nil_iff, or_false]; rintro d (rfl | rfl) <;> first | exact lf_int (by omega) (by omega) | exact lf_bool _ | exact lf_dig hj) (by simp))
    · exact fin (.tuple [.int (-1), .int j]) (rd_tup g4 rfl) (sme_tup (by simp only [List.mem_cons, List.mem_nil_iff, or_false]; rintro d (rfl | rfl) <;> first | exact lf_int (by omega) (by omega) | exact lf_bool _ | exact lf_dig hj) (by simp))
    · exact fin (.tuple [.int i, .int (-1)]) (rd_tup g5 rfl) (sme_tup (by simp only [List.mem_cons, List.mem_nil_iff, or_false]; rintro d (rfl | rfl) <;> first | exact lf_int (by omega) (by omega) | exact lf_bool _ | exact lf_dig hj) (by simp))
    · exact fin (.list [.int i, .int j]) (rd_lst g6 rfl) (sme_lst (by simp only [List.mem_cons, List.mem_nil_iff, or_false]; rintro d (rfl | rfl) <;> first | exact lf_int (by omega) (by omega) | exact lf_bool _ | exact lf_dig hj) (by simp))
    · exact fin (.tuple [.int i, .int j, .int 0]) (rd_tup g7 rfl) (sme_tup (by simp only [List.mem_cons, List.mem_nil_iff, or_false]; rintro d (rfl | rfl | rfl) <;> first | exact lf_int (by omega) (by omega) | exact lf_bool _ | exact lf_dig hj) (by simp))
    · exact fin .none (RD_none.mpr rfl) lf_none.e
    · exact fin (.tuple [.int i]) (rd_tup g9 rfl) (sme_tup (by simp only [List.mem_cons, List.mem_nil_iff, or_false]; rintro d (rfl) <;> first | exact lf_int (by omega) (by omega) | exact lf_bool _ | exact lf_dig hj) (by simp))
    · exact fin (.tuple [.bool true, .int j]) (rd_tup g10 rfl) (sme_tup (by simp only [List.mem_cons, List.mem_nil_iff, or_false]; rintro d (rfl | rfl) <;> first | exact lf_int (by omega) (by omega) | exact lf_bool _ | exact lf_dig hj) (by simp))
    · exact fin (.tuple [.int i, .str (toString (j : Int))]) (rd_tup g11 rfl) (sme_tup (by simp only [List.mem_cons, List.mem_nil_iff, or_false]; rintro d (rfl | rfl) <;> first | exact lf_int (by omega) (by omega) | exact lf_bool _ | exact lf_dig hj) (by simp))
    · exact fin (.int i) (RD_int.mpr rfl) (lf_int (by omega) (by omega)).e
    · exact fin (.tuple [.int i, .bool true]) (rd_tup g12 rfl) (sme_tup (by simp only [List.mem_cons, List.mem_nil_iff, or_false]; rintro d (rfl | rfl) <;> first | exact lf_int (by omega) (by omega) | exact lf_bool _ | exact lf_dig hj) (by simp))
    · exact fin (.tuple [.bool false, .int j]) (rd_tup g15 rfl) (sme_tup (by simp only [List.mem_cons, List.mem_nil_iff, or_false]; rintro d (rfl | rfl) <;> first | exact lf_int (by omega) (by omega) | exact lf_bool _ | exact lf_dig hj) (by simp))
    · exact fin (.tuple [.int i, .bool false]) (rd_tup g16 rfl) (sme_tup (by simp only [List.mem_cons, List.mem_nil_iff, or_false]; rintro d (rfl | rfl) <;> first | exact lf_int (by omega) (by omega) | exact lf_bool _ | exact lf_dig hj) (by simp))
end

section
variable {P : Program} {w : World} {K : PySem.W.Frag} {mg : Str → Option Value} {base : Heap}
theorem k_law_spoilt__law_found : (defScope s_law_spoilt).names.lookup ("_law_found" : Str) = some NameKind.local := by decide +kernel
theorem k_law_spoilt__law_pair : (defScope s_law_spoilt).names.lookup ("_law_pair" : Str) = some NameKind.globalImplicit := by decide +kernel
theorem k_law_spoilt__law_top : (defScope s_law_spoilt).names.lookup ("_law_top" : Str) = some NameKind.local := by decide +kernel
theorem k_law_spoilt__law_side : (defScope s_law_spoilt).names.lookup ("_law_side" : Str) = some NameKind.local := by decide +kernel
theorem k_law_spoilt__law_at : (defScope s_law_spoilt).names.lookup ("_law_at" : Str) = some NameKind.local := by decide +kernel
theorem k_law_spoilt__law_purse_here : (defScope s_law_spoilt).names.lookup ("_law_purse_here" : Str) = some NameKind.local := by decide +kernel
theorem k_law_spoilt__law_way : (defScope s_law_spoilt).names.lookup ("_law_way" : Str) = some NameKind.local := by decide +kernel
theorem k_law_spoilt__law_take : (defScope s_law_spoilt).names.lookup ("_law_take" : Str) = some NameKind.globalImplicit := by decide +kernel
theorem k_law_spoilt_len : (defScope s_law_spoilt).names.lookup ("len" : Str) = some NameKind.globalImplicit := by decide +kernel
theorem k_law_spoilt__law_one : (defScope s_law_spoilt).names.lookup ("_law_one" : Str) = some NameKind.local := by decide +kernel
theorem k_law_spoilt__law_two : (defScope s_law_spoilt).names.lookup ("_law_two" : Str) = some NameKind.local := by decide +kernel
theorem k_law_spoilt__law_some : (defScope s_law_spoilt).names.lookup ("_law_some" : Str) = some NameKind.local := by decide +kernel
theorem k_law_spoilt_tuple : (defScope s_law_spoilt).names.lookup ("tuple" : Str) = some NameKind.globalImplicit := by decide +kernel
theorem k_law_spoilt_list : (defScope s_law_spoilt).names.lookup ("list" : Str) = some NameKind.globalImplicit := by decide +kernel
theorem k_law_spoilt__law_thread : (defScope s_law_spoilt).names.lookup ("_law_thread" : Str) = some NameKind.local := by decide +kernel
structure Sm (d : PyData) : Prop where
  sh : d.showable = true
  dp : d.depth ≤ 3
  lv : d.leavesShort 60 = true
  bk : d.bulk ≤ 10000
def cutG {α : Type} (xs : List α) (lo hi : Option Int) : List α := (xs.drop (HT.sIx xs.length 0 lo)).take (HT.sIx xs.length xs.length hi - HT.sIx xs.length 0 lo)
theorem RDs_drop {H : Hp} : ∀ (n : Nat) {ds : List PyData} {vs : List V}, RDs H ds vs → RDs H (ds.drop n) (vs.drop n)
  | 0, _, _, h => h
  | n + 1, [], vs, h => by rw [RDs_nil] at h; subst h; exact RDs_nil.mpr rfl
  | n + 1, d :: ds, vs, h => by
    rw [RDs_cons] at h
    obtain ⟨v, r, rfl, _, hr⟩ := h
    exact RDs_drop n hr
theorem RDs_take {H : Hp} : ∀ (n : Nat) {ds : List PyData} {vs : List V}, RDs H ds vs → RDs H (ds.take n) (vs.take n)
  | 0, _, _, h => RDs_nil.mpr rfl
  | n + 1, [], vs, h => by rw [RDs_nil] at h; subst h; exact RDs_nil.mpr rfl
  | n + 1, d :: ds, vs, h => by
    rw [RDs_cons] at h
    obtain ⟨v, r, rfl, hd, hr⟩ := h
    exact RDs_one hd (RDs_take n hr)
theorem RDs_append {H : Hp} : ∀ {ds es : List PyData} {vs ws : List V}, RDs H ds vs → RDs H es ws → RDs H (ds ++ es) (vs ++ ws)
  | [], _, _, _, h, q => by rw [RDs_nil] at h; subst h; exact q
  | d :: ds, _, _, _, h, q => by
    rw [RDs_cons] at h
    obtain ⟨v, r, rfl, hd, hr⟩ := h
    exact RDs_one hd (RDs_append hr q)
theorem RDs_set {H : Hp} {d' : PyData} {v' : V} (h' : RD H d' v') : ∀ (n : Nat) {ds : List PyData} {vs : List V}, RDs H ds vs → RDs H (ds.set n d') (vs.set n v')
  | _, [], vs, h => by rw [RDs_nil] at h; subst h; exact RDs_nil.mpr rfl
  | 0, d :: ds, vs, h => by
    rw [RDs_cons] at h
    obtain ⟨v, r, rfl, _, hr⟩ := h
    exact RDs_one h' hr
  | n + 1, d :: ds, vs, h => by
    rw [RDs_cons] at h
    obtain ⟨v, r, rfl, hd, hr⟩ := h
    exact RDs_one hd (RDs_set h' n hr)
theorem RDs_cut {H : Hp} {ds : List PyData} {vs : List V} (h : RDs H ds vs) (lo hi : Option Int) : RDs H (cutG ds lo hi) (cutV vs lo hi) := by
  unfold cutG cutV
  rw [RDs_len h]
  exact RDs_take _ (RDs_drop _ h)
theorem cutG_mem {α : Type} {xs : List α} {lo hi : Option Int} {x : α} (h : x ∈ cutG xs lo hi) : x ∈ xs := List.mem_of_mem_drop (List.mem_of_mem_take h)
theorem cutG_len {α : Type} {xs : List α} {lo hi : Option Int} : (cutG xs lo hi).length ≤ xs.length := by unfold cutG; rw [List.length_take, List.length_drop]; omega
/-- elements, few of them -/
structure Els (ds : List PyData) (n : Nat) : Prop where
  el : ∀ d ∈ ds, SmE d
  few : ds.length ≤ n
theorem Els.cut {ds : List PyData} {n : Nat} (h : Els ds n) (lo hi : Option Int) : Els (cutG ds lo hi) n := ⟨fun d hd => h.el d (cutG_mem hd), Nat.le_trans cutG_len h.few⟩
theorem Els.app {ds es : List PyData} {n m : Nat} (h : Els ds n) (h' : Els es m) : Els (ds ++ es) (n + m) := ⟨fun d hd => (List.mem_append.mp hd).elim (h.el d) (h'.el d), by rw [List.length_append]; have := h.few; have := h'.few; omega⟩
theorem els_all : ∀ {ds : List PyData}, (∀ d ∈ ds, SmE d) → PyData.showableAll ds = true ∧ PyData.depthAll ds ≤ 1 ∧ PyData.leavesShortAll 60 ds = true ∧ PyData.bulkAll ds ≤ 61 * ds.length
  | [], _ => ⟨rfl, by simp [PyData.depthAll], rfl, by simp [PyData.bulkAll]⟩
  | d :: ds, h => by
    obtain ⟨a, b, c, e⟩ := els_all fun x hx => h x (List.mem_cons_of_mem _ hx)
    have hd := h d (by simp)
    have := hd.bk
    have := hd.dp
    simp only [PyData.showableAll, PyData.depthAll, PyData.leavesShortAll, PyData.bulkAll, a, c, hd.sh, hd.lv, List.length_cons]
    exact ⟨rfl, by omega, rfl, by omega⟩
theorem Els.lst {ds : List PyData} (h : Els ds 150) : Sm (.list ds) := by
  obtain ⟨a, b, c, e⟩ := els_all h.el
  have := h.few
  exact ⟨by simp only [PyData.showable]; exact a, by simp only [PyData.depth]; omega, by simp only [PyData.leavesShort]; exact c, by simp only [PyData.bulk]; omega⟩
theorem Els.tup {ds : List PyData} (h : Els ds 150) : Sm (.tuple ds) := by
  obtain ⟨a, b, c, e⟩ := els_all h.el
  have := h.few
  exact ⟨by simp only [PyData.showable]; exact a, by simp only [PyData.depth]; omega, by simp only [PyData.leavesShort]; exact c, by simp only [PyData.bulk]; omega⟩
theorem Els.lst2 {ds : List PyData} (h : Els ds 150) : Sm (.list [.list ds]) := by
  obtain ⟨a, b, c, e⟩ := els_all h.el
  have := h.few
  refine ⟨by simp only [PyData.showable, PyData.showableAll, a, Bool.and_self], by simp only [PyData.depth, PyData.depthAll]; omega, by simp only [PyData.leavesShort, PyData.leavesShortAll, c, Bool.and_self], by simp only [PyData.bulk, PyData.bulkAll]; omega⟩
theorem Els.wk {ds : List PyData} {n m : Nat} (h : Els ds n) (l : n ≤ m) : Els ds m := ⟨h.el, Nat.le_trans h.few l⟩
theorem sme_pair {i j : Nat} (hi : i ≤ 48) (hj : j ≤ 48) : SmE (.tuple [.int i, .int j]) := sme_tup (by simp only [List.mem_cons, List.mem_nil_iff, or_false]; rintro d (rfl | rfl) <;> exact lf_int (by omega) (by omega)) (by simp)
theorem els_ps {z y : Str} {ps : List PP} (h : ThP z y ps) (hz : z.length ≤ 48) (hy : y.length ≤ 48) : Els (ps.map pD) 48 := ⟨fun d hd => by
  obtain ⟨p, hp, rfl⟩ := List.mem_map.mp hd
  obtain ⟨a, b, _⟩ := h.mem p hp
  exact sme_pair (by omega) (by omega), by rw [List.length_map]; have := h.few; omega⟩
theorem RDs_pD {H : Hp} {ps : List PP} {us : List V} {k : Nat} {x : V} (h : RDs H (ps.map pD) us) (e : us[k]? = some x) : ∃ (p : PP) (a : Addr), ps[k]? = some p ∧ x = .ref a ∧ H a = some (.tup [.int p.1, .int p.2]) := by
  obtain ⟨d, h1, h2⟩ := RDs_at h e
  rw [List.getElem?_map] at h1
  cases hp : ps[k]? with
  | none => rw [hp] at h1; cases h1
  | some p =>
    rw [hp] at h1
    cases h1
    obtain ⟨a, rfl, ha⟩ := RD_pair.mp h2
    exact ⟨p, a, rfl, rfl, ha⟩
theorem DRs_pD {H : Hp} : ∀ {ps : List PP} {us : List V}, RDs H (ps.map pD) us → DRs H (ps.map pD) us
  | [], us, h => by rw [List.map_nil, RDs_nil] at h; subst h; exact DRs_nil.mpr rfl
  | p :: ps, us, h => by
    rw [List.map_cons, RDs_cons] at h
    obtain ⟨v, r, rfl, hd, hr⟩ := h
    obtain ⟨a, rfl, ha⟩ := RD_pair.mp hd
    exact DRs_cons.mpr ⟨_, _, rfl, DR_tuple.mpr ⟨a, _, rfl, ha, DRs_cons.mpr ⟨_, _, rfl, DR_int.mpr rfl, DRs_cons.mpr ⟨_, _, rfl, DR_int.mpr rfl, DRs_nil.mpr rfl⟩⟩⟩, DRs_pD hr⟩
theorem eqv_nil (ps : List PP) : PyData.eqv (.list (ps.map pD)) (.list []) = ps.isEmpty := by
  cases ps with
  | nil => simp [PyData.eqv, PyData.eqvAll]
  | cons p ps => simp [PyData.eqv, PyData.eqvAll]
theorem rd_leaf {H H' : Hp} {d : PyData} {v : V} (h : d.depth = 0) (r : RD H d v) : RD H' d v ∧ ∀ a, v ≠ .ref a := by
  cases d with
  | none => rw [RD_none] at r ⊢; subst r; exact ⟨rfl, nofun⟩
  | bool b => rw [RD_bool] at r ⊢; subst r; exact ⟨rfl, nofun⟩
  | int b => rw [RD_int] at r ⊢; subst r; exact ⟨rfl, nofun⟩
  | str b => rw [RD_str] at r ⊢; subst r; exact ⟨rfl, nofun⟩
  | list ds => simp [PyData.depth] at h
  | tuple ds => simp [PyData.depth] at h
  | dict ds => simp [PyData.depth] at h
theorem rd_leafs {H H' : Hp} : ∀ {ds : List PyData} {vs : List V}, PyData.depthAll ds = 0 → RDs H ds vs → RDs H' ds vs ∧ ∀ v ∈ vs, ∀ a, v ≠ .ref a
  | [], vs, _, r => by rw [RDs_nil] at r; subst r; exact ⟨RDs_nil.mpr rfl, by simp⟩
  | d :: ds, vs, h, r => by
    rw [RDs_cons] at r
    obtain ⟨v, t, rfl, r1, r2⟩ := r
    rw [PyData.depthAll] at h
    obtain ⟨a1, a2⟩ := rd_leaf (H' := H') (by omega) r1
    obtain ⟨b1, b2⟩ := rd_leafs (H' := H') (by omega) r2
    exact ⟨RDs_one a1 b1, fun x hx => (List.mem_cons.mp hx).elim (fun e => by rw [e]; exact a2) (b2 x)⟩
theorem rd_off {H5 : Hp} {p l0 a : Addr} {d : PyData} {v : V} {us : List V} {k : Nat} {o : HO} (r : RD (Hx p H5) d v) (s : SmE d) (f : H5 l0 = some (.lst us)) (g : us[k]? = some (.ref a)) : RD (Hx p (upd H5 l0 o)) d v := by
  have at_ : ∀ {e : Addr} {u : HO}, Hx p H5 e = some u → e ≠ l0 → Hx p (upd H5 l0 o) e = some u := fun {e u} h n => by
    unfold Hx at h ⊢
    split at h
    · cases h
    · rename_i hn
      rw [if_neg hn, upd_ne n]; exact h
  have dp := s.dp
  cases d with
  | none => rw [RD_none] at r ⊢; exact r
  | bool b => rw [RD_bool] at r ⊢; exact r
  | int b => rw [RD_int] at r ⊢; exact r
  | str b => rw [RD_str] at r ⊢; exact r
  | dict ks =>
    obtain ⟨e, kv, rfl, h, x⟩ := RD_dict.mp r
    refine RD_dict.mpr ⟨e, kv, rfl, at_ h (fun w => ?_), x⟩
    have := Hx_same p H5 _ _ h
    rw [w, f] at this; cases this
  | tuple ds =>
    obtain ⟨e, vs, rfl, h, x⟩ := RD_tuple.mp r
    rw [PyData.depth] at dp
    refine RD_tuple.mpr ⟨e, vs, rfl, at_ h (fun w => ?_), (rd_leafs (by omega) x).1⟩
    have := Hx_same p H5 _ _ h
    rw [w, f] at this; cases this
  | list ds =>
    obtain ⟨e, vs, rfl, h, x⟩ := RD_list.mp r
    rw [PyData.depth] at dp
    refine RD_list.mpr ⟨e, vs, rfl, at_ h (fun w => ?_), (rd_leafs (by omega) x).1⟩
    have := Hx_same p H5 _ _ h
    rw [w, f] at this
    cases this
    exact (rd_leafs (H' := H5) (by omega) x).2 _ (List.mem_of_getElem? g) a rfl
def spSpoilt : Sp := fun vs H Q _ => ∃ (p r : Addr) (us : List V) (ps : List PP) (z y : Str), vs = [.ref p, .ref r, .str z, .str y] ∧ Pur H p ∧ H r = some (.lst us) ∧ RDs (Hx p H) (ps.map pD) us ∧ ThP z y ps ∧ z.length ≤ 48 ∧ y.length ≤ 48 ∧
  ∀ v d H', RD (Hx p H') d v → Sm d → (∀ ds, d = .list ds → ds.length ≤ 5000) → Pur H' p → Chg p H H' → Q v H'
theorem sc_law_spoilt : FnScope ["_law_purse_here", "_law_thread", "_law_side", "_law_top", "_law_way", "_law_found", "_law_some", "_law_at", "_law_two", "_law_one"] ["_law_purse_here", "_law_thread", "_law_side", "_law_top"] (defScope s_law_spoilt) := ⟨rfl, rfl, rfl, by decide +kernel, rfl, by decide +kernel, by decide +kernel⟩
theorem h_law_spoilt (T : Txt K mg) : Has P w K mg base 3 "_law_spoilt" ["_law_purse_here", "_law_thread", "_law_side", "_law_top"] spSpoilt := by
  have h_law_take := h_law_take (P := P) (w := w) (base := base) T
  have h_law_pair := h_law_pair (P := P) (w := w) (base := base) T
  refine hasJ T.d_law_spoilt sc_law_spoilt (fun _ _ _ _ _ _ us hl => match us, hl with | [_, _, _, _], _ => rfl) ?_ fun f cdv A outer s H vs Q E hr h => ?_
  · rintro vs H Q E ⟨p, r, us, ps, z, y, rfl, _⟩; rfl
  obtain ⟨p, r, us, ps, z, y, rfl, hP, hr0, hu0, hth, hz, hy, q⟩ := h
  have hu := hr.units0
  have hu64 := hr.units
  refine ⟨_, (jb_cons (js_set (i := 4) sc_law_spoilt.nd rfl (Or.inl k_law_spoilt__law_way) (j_call h_law_take (hr.mono (by decide)) (glF k_law_spoilt__law_take) (ja_cons (j_vL 0 k_law_spoilt__law_purse_here) (ja_cons j_int ja_nil)) (by decide +kernel)) rfl) (jb_cons (js_set (i := 5) sc_law_spoilt.nd rfl (Or.inl k_law_spoilt__law_found) (j_callTy (call_listK (K := K) rfl rfl) (glF k_law_spoilt_list) T.b_list bt_list (ja_cons (j_vL 1 k_law_spoilt__law_thread) ja_nil) (by decide +kernel) (by decide +kernel)) rfl) (jb_cons (js_if (jw_pt (jw_or (jt_cmp (op_eqX (K := K) rfl hu64) (j_vL 4 k_law_spoilt__law_way) j_int (by first | exact nomark _ | with_unfolding_all rfl)) (jw_or1 (jt_cmp (op_eqX (K := K) rfl hu64) (j_vL 5 k_law_spoilt__law_found) (j_lst ja_nil) (by first | exact nomark _ | with_unfolding_all rfl))))) (jb_cons (js_set (i := 6) sc_law_spoilt.nd rfl (Or.inl k_law_spoilt__law_some) (j_lst (ja_cons (j_callTy (call_tupleK (K := K) rfl rfl) (glF k_law_spoilt_tuple) T.b_tuple bt_tuple (ja_cons (j_vL 5 k_law_spoilt__law_found) ja_nil) (by decide +kernel) (by decide +kernel)) (ja_cons j_non (ja_cons j_int (ja_cons j_str (ja_cons j_dnewK (ja_cons j_bl (ja_cons (j_lst (ja_cons (j_vL 5 k_law_spoilt__law_found) ja_nil)) (ja_cons (j_op op_addA (j_vL 5 k_law_spoilt__law_found) (j_lst (ja_cons (j_tup (ja_cons j_int (ja_cons j_int ja_nil))) ja_nil))) (ja_cons (j_tup ja_nil) (ja_cons (j_lst (ja_cons (j_lst ja_nil) ja_nil)) ja_nil))))))))))) rfl) (jb_one (js_ret (j_ix (K := K) rfl (j_vL 6 k_law_spoilt__law_some) (j_call h_law_take (hr.mono (by decide)) (glF k_law_spoilt__law_take) (ja_cons (j_vL 0 k_law_spoilt__law_purse_here) (ja_cons j_int ja_nil)) (by decide +kernel)))))) jb_nil) (jb_cons (js_set (i := 7) sc_law_spoilt.nd rfl (Or.inl k_law_spoilt__law_at) (j_call h_law_take (hr.mono (by decide)) (glF k_law_spoilt__law_take) (ja_cons (j_vL 0 k_law_spoilt__law_purse_here) (ja_cons (j_callB (call_lenK (K := K) rfl) (glF k_law_spoilt_len) T.b_len bt_len (ja_cons (j_vL 5 k_law_spoilt__law_found) ja_nil) (by decide +kernel) (by decide +kernel)) ja_nil)) (by decide +kernel)) rfl) (jb_cons (js_if (jt_cmp (op_eqX (K := K) rfl hu64) (j_vL 4 k_law_spoilt__law_way) j_int (by first | exact nomark _ | with_unfolding_all rfl)) (jb_one (js_ret (j_op op_addA (j_slice (sl_seqK (K := K) rfl) (j_vL 5 k_law_spoilt__law_found) jo_none (jo_some (j_op op_addA (j_vL 7 k_law_spoilt__law_at) j_int))) (j_slice (sl_seqK (K := K) rfl) (j_vL 5 k_law_spoilt__law_found) (jo_some (j_vL 7 k_law_spoilt__law_at)) jo_none)))) jb_nil) (jb_cons (js_if (jt_cmp (op_eqX (K := K) rfl hu64) (j_vL 4 k_law_spoilt__law_way) j_int (by first | exact nomark _ | with_unfolding_all rfl)) (jb_cons (js_set (i := 8) sc_law_spoilt.nd rfl (Or.inl k_law_spoilt__law_two) (j_op op_addA (j_slice (sl_seqK (K := K) rfl) (j_vL 5 k_law_spoilt__law_found) (jo_some (j_op op_addA (j_vL 7 k_law_spoilt__law_at) j_int)) (jo_some (j_op op_addA (j_vL 7 k_law_spoilt__law_at) j_int))) (j_slice (sl_seqK (K := K) rfl) (j_vL 5 k_law_spoilt__law_found) (jo_some (j_vL 7 k_law_spoilt__law_at)) (jo_some (j_op op_addA (j_vL 7 k_law_spoilt__law_at) j_int)))) rfl) (jb_one (js_ret (j_op op_addA (j_op op_addA (j_slice (sl_seqK (K := K) rfl) (j_vL 5 k_law_spoilt__law_found) jo_none (jo_some (j_vL 7 k_law_spoilt__law_at))) (j_vL 8 k_law_spoilt__law_two)) (j_slice (sl_seqK (K := K) rfl) (j_vL 5 k_law_spoilt__law_found) (jo_some (j_op op_addA (j_vL 7 k_law_spoilt__law_at) j_int)) jo_none))))) jb_nil) (jb_cons (js_if (jt_cmp (op_eqX (K := K) rfl hu64) (j_vL 4 k_law_spoilt__law_way) j_int (by first | exact nomark _ | with_unfolding_all rfl)) (jb_cons (js_set (i := 9) sc_law_spoilt.nd rfl (Or.inl k_law_spoilt__law_one) (j_call h_law_take (hr.mono (by decide)) (glF k_law_spoilt__law_take) (ja_cons (j_vL 0 k_law_spoilt__law_purse_here) (ja_cons (j_callB (call_lenK (K := K) rfl) (glF k_law_spoilt_len) T.b_len bt_len (ja_cons (j_vL 2 k_law_spoilt__law_side) ja_nil) (by decide +kernel) (by decide +kernel)) ja_nil)) (by decide +kernel)) rfl) (jb_one (js_ret (j_op op_addA (j_op op_addA (j_slice (sl_seqK (K := K) rfl) (j_vL 5 k_law_spoilt__law_found) jo_none (jo_some (j_vL 7 k_law_spoilt__law_at))) (j_lst (ja_cons (j_tup (ja_cons (j_vL 9 k_law_spoilt__law_one) (ja_cons (j_call h_law_take (hr.mono (by decide)) (glF k_law_spoilt__law_take) (ja_cons (j_vL 0 k_law_spoilt__law_purse_here) (ja_cons (j_callB (call_lenK (K := K) rfl) (glF k_law_spoilt_len) T.b_len bt_len (ja_cons (j_vL 3 k_law_spoilt__law_top) ja_nil) (by decide +kernel) (by decide +kernel)) ja_nil)) (by decide +kernel)) ja_nil))) ja_nil))) (j_slice (sl_seqK (K := K) rfl) (j_vL 5 k_law_spoilt__law_found) (jo_some (j_vL 7 k_law_spoilt__law_at)) jo_none))))) jb_nil) (jb_cons (js_asgS (ts := rSetL) (j_call h_law_pair (hr.mono (by decide)) (glF k_law_spoilt__law_pair) (ja_cons (j_vL 0 k_law_spoilt__law_purse_here) (ja_cons (j_ix (K := K) rfl (j_vL 5 k_law_spoilt__law_found) (j_vL 7 k_law_spoilt__law_at)) (ja_cons (j_vL 2 k_law_spoilt__law_side) (ja_cons (j_vL 3 k_law_spoilt__law_top) ja_nil)))) (by decide +kernel)) (jg_sub (j_vL 5 k_law_spoilt__law_found) (j_vL 7 k_law_spoilt__law_at) set_list)) (jb_one (js_ret (j_vL 5 k_law_spoilt__law_found))))))))))), ?_⟩
  walk_at "sts"
  have lz : z.length ≤ sizeLine := Nat.le_trans hz (by decide)
  have ly : y.length ≤ sizeLine := Nat.le_trans hy (by decide)
  have hs5 : 20000 < sizeLine := by decide
  have hnp : r ≠ p := fun w => by
    subst w
    obtain ⟨a, b, c, e, _⟩ := hP
    rw [e] at hr0
    cases hr0
    obtain ⟨_, _, _, e2, _⟩ := RDs_pD (k := 0) hu0 rfl
    cases e2
  refine ⟨p, 7, rfl, hP, by omega, by omega, fun way H1 w0 w1 P1 C1 => ?_⟩
  walk_at "sts"
  refine r_listL (SqL.of (C1.at_ hr0 hnp)) fun l0 n0 => ?_
  walk_at "sts"
  have m0 := P1.ne n0
  have Q0 := P1.new (o := .lst us) n0
  have C01 := C1.trans ((Chg.refl p H1).new (o := .lst us) n0)
  have f0 := upd_same (H := H1) (a := l0) (o := .lst us)
  generalize upd H1 l0 (.lst us) = G0 at Q0 C01 f0 ⊢
  have hu1 := RDs.same (Hx_chg C01) _ _ hu0
  have hlen := RDs_len hu0
  rw [List.length_map] at hlen
  have hel := els_ps hth hz hy
  have h48 := hel.few
  rw [List.length_map] at h48
  refine iteD (fun h0 => ?_) (fun h0 => ?_)
  · walk_at "sts"
    refine .inl ⟨l0, _, rfl, .inl ⟨SqL.of f0, fun e1 n1 => ?_⟩⟩
    walk_at "sts"
    have m1 := Q0.ne n1
    have Q1 := Q0.new (o := .tup us) n1
    have S1 := (Same.refl G0).upd (o := .tup us) n1
    have f1 := upd_same (H := G0) (a := e1) (o := .tup us)
    generalize upd G0 e1 (.tup us) = G1 at Q1 S1 f1 ⊢
    intro e2 n2
    walk_at "sts"
    have m2 := Q1.ne n2
    have Q2 := Q1.new (o := .dK []) n2
    have S2 := (Same.refl G1).upd (o := .dK []) n2
    have f2 := upd_same (H := G1) (a := e2) (o := .dK [])
    generalize upd G1 e2 (.dK []) = G2 at Q2 S2 f2 ⊢
    refine r_new rfl fun e3 n3 => ?_
    walk_at "sts"
    have m3 := Q2.ne n3
    have Q3 := Q2.new (o := .lst [.ref l0]) n3
    have S3 := (Same.refl G2).upd (o := .lst [.ref l0]) n3
    have f3 := upd_same (H := G2) (a := e3) (o := .lst [.ref l0])
    generalize upd G2 e3 (.lst [.ref l0]) = G3 at Q3 S3 f3 ⊢
    refine r_new rfl fun e4 n4 => ?_
    walk_at "sts"
    have m4 := Q3.ne n4
    have Q4 := Q3.new (o := .tup [.int 0, .int 0]) n4
    have S4 := (Same.refl G3).upd (o := .tup [.int 0, .int 0]) n4
    have f4 := upd_same (H := G3) (a := e4) (o := .tup [.int 0, .int 0])
    generalize upd G3 e4 (.tup [.int 0, .int 0]) = G4 at Q4 S4 f4 ⊢
    refine r_new rfl fun e5 n5 => ?_
    walk_at "sts"
    have m5 := Q4.ne n5
    have Q5 := Q4.new (o := .lst [.ref e4]) n5
    have S5 := (Same.refl G4).upd (o := .lst [.ref e4]) n5
    have f5 := upd_same (H := G4) (a := e5) (o := .lst [.ref e4])
    generalize upd G4 e5 (.lst [.ref e4]) = G5 at Q5 S5 f5 ⊢
    have T0_5 := S1.trans (S2.trans (S3.trans (S4.trans S5)))
    refine r_addL (T0_5 _ _ f0) f5 (by simp; omega) fun e6 n6 => ?_
    walk_at "sts"
    have m6 := Q5.ne n6
    have Q6 := Q5.new (o := .lst (us ++ [.ref e4])) n6
    have S6 := (Same.refl G5).upd (o := .lst (us ++ [.ref e4])) n6
    have f6 := upd_same (H := G5) (a := e6) (o := .lst (us ++ [.ref e4]))
    generalize upd G5 e6 (.lst (us ++ [.ref e4])) = G6 at Q6 S6 f6 ⊢
    refine r_new rfl fun e7 n7 => ?_
    walk_at "sts"
    have m7 := Q6.ne n7
    have Q7 := Q6.new (o := .tup []) n7
    have S7 := (Same.refl G6).upd (o := .tup []) n7
    have f7 := upd_same (H := G6) (a := e7) (o := .tup [])
    generalize upd G6 e7 (.tup []) = G7 at Q7 S7 f7 ⊢
    refine r_new rfl fun e8 n8 => ?_
    walk_at "sts"
    have m8 := Q7.ne n8
    have Q8 := Q7.new (o := .lst []) n8
    have S8 := (Same.refl G7).upd (o := .lst []) n8
    have f8 := upd_same (H := G7) (a := e8) (o := .lst [])
    generalize upd G7 e8 (.lst []) = G8 at Q8 S8 f8 ⊢
    refine r_new rfl fun e9 n9 => ?_
    walk_at "sts"
    have m9 := Q8.ne n9
    have Q9 := Q8.new (o := .lst [.ref e8]) n9
    have S9 := (Same.refl G8).upd (o := .lst [.ref e8]) n9
    have f9 := upd_same (H := G8) (a := e9) (o := .lst [.ref e8])
    generalize upd G8 e9 (.lst [.ref e8]) = G9 at Q9 S9 f9 ⊢
    refine r_new rfl fun e10 n10 => ?_
    walk_at "sts"
    have m10 := Q9.ne n10
    have Q10 := Q9.new (o := .lst [.ref e1, .non, .int 5, .str (Str.ofString ""), .ref e2, .bl true, .ref e3, .ref e6, .ref e7, .ref e9]) n10
    have S10 := (Same.refl G9).upd (o := .lst [.ref e1, .non, .int 5, .str (Str.ofString ""), .ref e2, .bl true, .ref e3, .ref e6, .ref e7, .ref e9]) n10
    have f10 := upd_same (H := G9) (a := e10) (o := .lst [.ref e1, .non, .int 5, .str (Str.ofString ""), .ref e2, .bl true, .ref e3, .ref e6, .ref e7, .ref e9])
    generalize upd G9 e10 (.lst [.ref e1, .non, .int 5, .str (Str.ofString ""), .ref e2, .bl true, .ref e3, .ref e6, .ref e7, .ref e9]) = G10 at Q10 S10 f10 ⊢
    refine ⟨p, 10, rfl, Q10, by omega, by omega, fun c H8 c0 c1 P8 C8 => ?_⟩
    walk_at "sts"
    have T10 := Same.refl G10
    have T9 := S10.trans T10
    have T8 := S9.trans T9
    have T7 := S8.trans T8
    have T6 := S7.trans T7
    have T5 := S6.trans T6
    have T4 := S5.trans T5
    have T3 := S4.trans T4
    have T2 := S3.trans T3
    have T1 := S2.trans T2
    have T0 := S1.trans T1
    have g1 := Hx_at (C8.at_ (T1 _ _ f1) m1) m1
    have g2 := Hx_at (C8.at_ (T2 _ _ f2) m2) m2
    have g3 := Hx_at (C8.at_ (T3 _ _ f3) m3) m3
    have g4 := Hx_at (C8.at_ (T4 _ _ f4) m4) m4
    have g5 := Hx_at (C8.at_ (T5 _ _ f5) m5) m5
    have g6 := Hx_at (C8.at_ (T6 _ _ f6) m6) m6
    have g7 := Hx_at (C8.at_ (T7 _ _ f7) m7) m7
    have g8 := Hx_at (C8.at_ (T8 _ _ f8) m8) m8
    have g9 := Hx_at (C8.at_ (T9 _ _ f9) m9) m9
    have g10 := Hx_at (C8.at_ (T10 _ _ f10) m10) m10
    have g0 := Hx_at (C8.at_ (T0 _ _ f0) m0) m0
    have hu8 := RDs.same (Hx_chg ((Chg.of_same T0).trans C8)) _ _ hu1
    obtain ⟨t, ht, et⟩ := pickV (vs := [.ref e1, .non, .int 5, .str (Str.ofString ""), .ref e2, .bl true, .ref e3, .ref e6, .ref e7, .ref e9]) c0 c1
    refine r_ixL (SqL.of (C8.at_ f10 m10)) et ?_
    have fin : ∀ d, RD (Hx p H8) d t → Sm d → (∀ ds, d = .list ds → ds.length ≤ 5000) → Q t H8 := fun d r l n => q t d _ r l n P8 ((C01.trans (Chg.of_same T0)).trans C8)
    have rp4 : RD (Hx p H8) (.tuple [.int 0, .int 0]) (.ref e4) := rd_tup g4 rfl
    simp only [List.mem_cons, List.mem_nil_iff, or_false] at ht
    rcases ht with rfl | rfl | rfl | rfl | rfl | rfl | rfl | rfl | rfl | rfl
    · exact fin (.tuple (ps.map pD)) (RD_tuple.mpr ⟨e1, _, rfl, g1, hu8⟩) (hel.wk (by omega)).tup (fun ds e => by cases e)
    · exact fin .none (RD_none.mpr rfl) ⟨rfl, by decide, rfl, by decide⟩ (fun ds e => by cases e)
    · exact fin (.int 5) (RD_int.mpr rfl) ⟨by decide +kernel, by decide, by decide +kernel, by decide⟩ (fun ds e => by cases e)
    · exact fin (.str (Str.ofString "")) (RD_str.mpr rfl) ⟨rfl, by decide, by decide +kernel, by decide +kernel⟩ (fun ds e => by cases e)
    · exact fin (.dict []) (RD_dict.mpr ⟨e2, [], rfl, g2, rfl⟩) ⟨rfl, by decide, rfl, by decide⟩ (fun ds e => by cases e)
    · exact fin (.bool true) (RD_bool.mpr rfl) ⟨rfl, by decide, rfl, by decide⟩ (fun ds e => by cases e)
    · exact fin (.list [.list (ps.map pD)]) (RD_list.mpr ⟨e3, _, rfl, g3, RDs_one (RD_list.mpr ⟨l0, _, rfl, g0, hu8⟩) (RDs_nil.mpr rfl)⟩) (hel.wk (by omega)).lst2 (fun ds e => by cases e; simp)
    · exact fin (.list (ps.map pD ++ [.tuple [.int 0, .int 0]])) (RD_list.mpr ⟨e6, _, rfl, g6, RDs_append hu8 (RDs_one rp4 (RDs_nil.mpr rfl))⟩) ((hel.app (m := 1) ⟨by simp only [List.mem_singleton]; rintro d rfl; exact sme_pair (i := 0) (j := 0) (by omega) (by omega), by simp⟩).wk (by omega)).lst (fun ds e => by cases e; simp; omega)
    · exact fin (.tuple []) (RD_tuple.mpr ⟨e7, _, rfl, g7, RDs_nil.mpr rfl⟩) ⟨rfl, by decide, rfl, by decide⟩ (fun ds e => by cases e)
    · exact fin (.list [.list []]) (RD_list.mpr ⟨e9, _, rfl, g9, RDs_one (RD_list.mpr ⟨e8, _, rfl, g8, RDs_nil.mpr rfl⟩) (RDs_nil.mpr rfl)⟩) ⟨rfl, by decide, rfl, by decide⟩ (fun ds e => by cases e; simp)
  · walk_at "sts"
    refine r_new rfl fun eL nL => ?_
    walk_at "sts"
    have Q0 := Q0.new (o := .lst []) nL
    have C01 := C01.trans ((Chg.refl p G0).new (o := .lst []) nL)
    have fL := upd_same (H := G0) (a := eL) (o := .lst [])
    have f0 := upd_old (o := .lst []) nL f0
    have hu1 := RDs.same (Hx_chg ((Chg.refl p G0).new (o := .lst []) nL)) _ _ hu1
    generalize upd G0 eL (.lst []) = G0 at Q0 C01 f0 fL hu1 ⊢
    refine r_eqData (d := .list (ps.map pD)) (e := .list []) (DR_list.mpr ⟨l0, us, rfl, f0, DRs.same (Hx_same p G0) _ _ (DRs_pD hu1)⟩) (DR_list.mpr ⟨eL, [], rfl, fL, DRs_nil.mpr rfl⟩) (shaped_ps ps) rfl ?_
    walk_at "sts"
    rw [eqv_nil]
    cases hps : ps.isEmpty with
    | true =>
      walk_at "sts"
      refine .inl ⟨l0, _, rfl, .inl ⟨SqL.of f0, fun e1 n1 => ?_⟩⟩
      walk_at "sts"
      have m1 := Q0.ne n1
      have Q1 := Q0.new (o := .tup us) n1
      have S1 := (Same.refl G0).upd (o := .tup us) n1
      have f1 := upd_same (H := G0) (a := e1) (o := .tup us)
      generalize upd G0 e1 (.tup us) = G1 at Q1 S1 f1 ⊢
      intro e2 n2
      walk_at "sts"
      have m2 := Q1.ne n2
      have Q2 := Q1.new (o := .dK []) n2
      have S2 := (Same.refl G1).upd (o := .dK []) n2
      have f2 := upd_same (H := G1) (a := e2) (o := .dK [])
      generalize upd G1 e2 (.dK []) = G2 at Q2 S2 f2 ⊢
      refine r_new rfl fun e3 n3 => ?_
      walk_at "sts"
      have m3 := Q2.ne n3
      have Q3 := Q2.new (o := .lst [.ref l0]) n3
      have S3 := (Same.refl G2).upd (o := .lst [.ref l0]) n3
      have f3 := upd_same (H := G2) (a := e3) (o := .lst [.ref l0])
      generalize upd G2 e3 (.lst [.ref l0]) = G3 at Q3 S3 f3 ⊢
      refine r_new rfl fun e4 n4 => ?_
      walk_at "sts"
      have m4 := Q3.ne n4
      have Q4 := Q3.new (o := .tup [.int 0, .int 0]) n4
      have S4 := (Same.refl G3).upd (o := .tup [.int 0, .int 0]) n4
      have f4 := upd_same (H := G3) (a := e4) (o := .tup [.int 0, .int 0])
      generalize upd G3 e4 (.tup [.int 0, .int 0]) = G4 at Q4 S4 f4 ⊢
      refine r_new rfl fun e5 n5 => ?_
      walk_at "sts"
      have m5 := Q4.ne n5
      have Q5 := Q4.new (o := .lst [.ref e4]) n5
      have S5 := (Same.refl G4).upd (o := .lst [.ref e4]) n5
      have f5 := upd_same (H := G4) (a := e5) (o := .lst [.ref e4])
      generalize upd G4 e5 (.lst [.ref e4]) = G5 at Q5 S5 f5 ⊢
      have T0_5 := S1.trans (S2.trans (S3.trans (S4.trans S5)))
      refine r_addL (T0_5 _ _ f0) f5 (by simp; omega) fun e6 n6 => ?_
      walk_at "sts"
      have m6 := Q5.ne n6
      have Q6 := Q5.new (o := .lst (us ++ [.ref e4])) n6
      have S6 := (Same.refl G5).upd (o := .lst (us ++ [.ref e4])) n6
      have f6 := upd_same (H := G5) (a := e6) (o := .lst (us ++ [.ref e4]))
      generalize upd G5 e6 (.lst (us ++ [.ref e4])) = G6 at Q6 S6 f6 ⊢
      refine r_new rfl fun e7 n7 => ?_
      walk_at "sts"
      have m7 := Q6.ne n7
      have Q7 := Q6.new (o := .tup []) n7
      have S7 := (Same.refl G6).upd (o := .tup []) n7
      have f7 := upd_same (H := G6) (a := e7) (o := .tup [])
      generalize upd G6 e7 (.tup []) = G7 at Q7 S7 f7 ⊢
      refine r_new rfl fun e8 n8 => ?_
      walk_at "sts"
      have m8 := Q7.ne n8
      have Q8 := Q7.new (o := .lst []) n8
      have S8 := (Same.refl G7).upd (o := .lst []) n8
      have f8 := upd_same (H := G7) (a := e8) (o := .lst [])
      generalize upd G7 e8 (.lst []) = G8 at Q8 S8 f8 ⊢
      refine r_new rfl fun e9 n9 => ?_
      walk_at "sts"
      have m9 := Q8.ne n9
      have Q9 := Q8.new (o := .lst [.ref e8]) n9
      have S9 := (Same.refl G8).upd (o := .lst [.ref e8]) n9
      have f9 := upd_same (H := G8) (a := e9) (o := .lst [.ref e8])
      generalize upd G8 e9 (.lst [.ref e8]) = G9 at Q9 S9 f9 ⊢
      refine r_new rfl fun e10 n10 => ?_
      walk_at "sts"
      have m10 := Q9.ne n10
      have Q10 := Q9.new (o := .lst [.ref e1, .non, .int 5, .str (Str.ofString ""), .ref e2, .bl true, .ref e3, .ref e6, .ref e7, .ref e9]) n10
      have S10 := (Same.refl G9).upd (o := .lst [.ref e1, .non, .int 5, .str (Str.ofString ""), .ref e2, .bl true, .ref e3, .ref e6, .ref e7, .ref e9]) n10
      have f10 := upd_same (H := G9) (a := e10) (o := .lst [.ref e1, .non, .int 5, .str (Str.ofString ""), .ref e2, .bl true, .ref e3, .ref e6, .ref e7, .ref e9])
      generalize upd G9 e10 (.lst [.ref e1, .non, .int 5, .str (Str.ofString ""), .ref e2, .bl true, .ref e3, .ref e6, .ref e7, .ref e9]) = G10 at Q10 S10 f10 ⊢
      refine ⟨p, 10, rfl, Q10, by omega, by omega, fun c H8 c0 c1 P8 C8 => ?_⟩
      walk_at "sts"
      have T10 := Same.refl G10
      have T9 := S10.trans T10
      have T8 := S9.trans T9
      have T7 := S8.trans T8
      have T6 := S7.trans T7
      have T5 := S6.trans T6
      have T4 := S5.trans T5
      have T3 := S4.trans T4
      have T2 := S3.trans T3
      have T1 := S2.trans T2
      have T0 := S1.trans T1
      have g1 := Hx_at (C8.at_ (T1 _ _ f1) m1) m1
      have g2 := Hx_at (C8.at_ (T2 _ _ f2) m2) m2
      have g3 := Hx_at (C8.at_ (T3 _ _ f3) m3) m3
      have g4 := Hx_at (C8.at_ (T4 _ _ f4) m4) m4
      have g5 := Hx_at (C8.at_ (T5 _ _ f5) m5) m5
      have g6 := Hx_at (C8.at_ (T6 _ _ f6) m6) m6
      have g7 := Hx_at (C8.at_ (T7 _ _ f7) m7) m7
      have g8 := Hx_at (C8.at_ (T8 _ _ f8) m8) m8
      have g9 := Hx_at (C8.at_ (T9 _ _ f9) m9) m9
      have g10 := Hx_at (C8.at_ (T10 _ _ f10) m10) m10
      have g0 := Hx_at (C8.at_ (T0 _ _ f0) m0) m0
      have hu8 := RDs.same (Hx_chg ((Chg.of_same T0).trans C8)) _ _ hu1
      obtain ⟨t, ht, et⟩ := pickV (vs := [.ref e1, .non, .int 5, .str (Str.ofString ""), .ref e2, .bl true, .ref e3, .ref e6, .ref e7, .ref e9]) c0 c1
      refine r_ixL (SqL.of (C8.at_ f10 m10)) et ?_
      have fin : ∀ d, RD (Hx p H8) d t → Sm d → (∀ ds, d = .list ds → ds.length ≤ 5000) → Q t H8 := fun d r l n => q t d _ r l n P8 ((C01.trans (Chg.of_same T0)).trans C8)
      have rp4 : RD (Hx p H8) (.tuple [.int 0, .int 0]) (.ref e4) := rd_tup g4 rfl
      simp only [List.mem_cons, List.mem_nil_iff, or_false] at ht
      rcases ht with rfl | rfl | rfl | rfl | rfl | rfl | rfl | rfl | rfl | rfl
      · exact fin (.tuple (ps.map pD)) (RD_tuple.mpr ⟨e1, _, rfl, g1, hu8⟩) (hel.wk (by omega)).tup (fun ds e => by cases e)
      · exact fin .none (RD_none.mpr rfl) ⟨rfl, by decide, rfl, by decide⟩ (fun ds e => by cases e)
      · exact fin (.int 5) (RD_int.mpr rfl) ⟨by decide +kernel, by decide, by decide +kernel, by decide⟩ (fun ds e => by cases e)
      · exact fin (.str (Str.ofString "")) (RD_str.mpr rfl) ⟨rfl, by decide, by decide +kernel, by decide +kernel⟩ (fun ds e => by cases e)
      · exact fin (.dict []) (RD_dict.mpr ⟨e2, [], rfl, g2, rfl⟩) ⟨rfl, by decide, rfl, by decide⟩ (fun ds e => by cases e)
      · exact fin (.bool true) (RD_bool.mpr rfl) ⟨rfl, by decide, rfl, by decide⟩ (fun ds e => by cases e)
      · exact fin (.list [.list (ps.map pD)]) (RD_list.mpr ⟨e3, _, rfl, g3, RDs_one (RD_list.mpr ⟨l0, _, rfl, g0, hu8⟩) (RDs_nil.mpr rfl)⟩) (hel.wk (by omega)).lst2 (fun ds e => by cases e; simp)
      · exact fin (.list (ps.map pD ++ [.tuple [.int 0, .int 0]])) (RD_list.mpr ⟨e6, _, rfl, g6, RDs_append hu8 (RDs_one rp4 (RDs_nil.mpr rfl))⟩) ((hel.app (m := 1) ⟨by simp only [List.mem_singleton]; rintro d rfl; exact sme_pair (i := 0) (j := 0) (by omega) (by omega), by simp⟩).wk (by omega)).lst (fun ds e => by cases e; simp; omega)
      · exact fin (.tuple []) (RD_tuple.mpr ⟨e7, _, rfl, g7, RDs_nil.mpr rfl⟩) ⟨rfl, by decide, rfl, by decide⟩ (fun ds e => by cases e)
      · exact fin (.list [.list []]) (RD_list.mpr ⟨e9, _, rfl, g9, RDs_one (RD_list.mpr ⟨e8, _, rfl, g8, RDs_nil.mpr rfl⟩) (RDs_nil.mpr rfl)⟩) ⟨rfl, by decide, rfl, by decide⟩ (fun ds e => by cases e; simp)
    | false =>
      walk_at "sts"
      have hpl : 0 < us.length := by
        cases ps with
        | nil => cases hps
        | cons _ _ => rw [hlen]; simp
      refine r_lenL (SqL.of f0) ?_
      walk_at "sts"
      refine ⟨p, _, rfl, Q0, by omega, by omega, fun at_ H3 a0 a1 P3 C3 => ?_⟩
      walk_at "sts"
      obtain ⟨k, rfl⟩ : ∃ k : Nat, at_ = (k : Int) := ⟨at_.toNat, by omega⟩
      have hk : k < us.length := by omega
      have f3 := C3.at_ f0 m0
      have hu3 := RDs.same (Hx_chg C3) _ _ hu1
      have C03 := C01.trans C3
      have h48' : us.length ≤ 48 := by omega
      have cl := fun lo hi => cutV_length us lo hi
      refine iteD (fun h1 => ?_) (fun h1 => ?_)
      · walk_at "sts"
        refine r_slL (SqL.of f3) fun s1 k1 => ?_
        walk_at "sts"
        refine r_slL (SqL.of (upd_old k1 f3)) fun s2 k2 => ?_
        walk_at "sts"
        have a1 := cl none (some ((k : Int) + 1))
        have a2 := cl (some (k : Int)) none
        refine r_addL (upd_old k2 upd_same) upd_same (by omega) fun s3 k3 => ?_
        refine q (.ref s3) (.list (cutG (ps.map pD) none (some ((k : Int) + 1)) ++ cutG (ps.map pD) (some (k : Int)) none)) _ (RD_list.mpr ⟨s3, _, rfl, Hx_at upd_same (((P3.new k1).new k2).ne k3), ?_⟩) (((hel.cut _ _).app (hel.cut _ _)).wk (by omega)).lst (fun ds e => ?_) (((P3.new k1).new k2).new k3) (C03.trans ((((Chg.refl p H3).new k1).new k2).new k3))
        · exact RDs.same (Hx_chg ((((Chg.refl p H3).new k1).new k2).new k3)) _ _ (RDs_append (RDs_cut hu3 _ _) (RDs_cut hu3 _ _))
        · cases e
          have := ((hel.cut none (some ((k : Int) + 1))).app (hel.cut (some (k : Int)) none)).few
          omega
      · walk_at "sts"
        refine iteD (fun h2 => ?_) (fun h2 => ?_)
        · walk_at "sts"
          refine r_slL (SqL.of f3) fun s1 k1 => ?_
          walk_at "sts"
          refine r_slL (SqL.of (upd_old k1 f3)) fun s2 k2 => ?_
          walk_at "sts"
          have a1 := cl (some ((k : Int) + 1)) (some ((k : Int) + 2))
          have a2 := cl (some (k : Int)) (some ((k : Int) + 1))
          refine r_addL (upd_old k2 upd_same) upd_same (by omega) fun s3 k3 => ?_
          walk_at "sts"
          have D3 := (((Chg.refl p H3).new (o := .lst (cutV us (some ((k : Int) + 1)) (some ((k : Int) + 2)))) k1).new (o := .lst (cutV us (some (k : Int)) (some ((k : Int) + 1)))) k2).new (o := .lst (cutV us (some ((k : Int) + 1)) (some ((k : Int) + 2)) ++ cutV us (some (k : Int)) (some ((k : Int) + 1)))) k3
          have P4 := (((P3.new (o := .lst (cutV us (some ((k : Int) + 1)) (some ((k : Int) + 2)))) k1).new (o := .lst (cutV us (some (k : Int)) (some ((k : Int) + 1)))) k2)).new (o := .lst (cutV us (some ((k : Int) + 1)) (some ((k : Int) + 2)) ++ cutV us (some (k : Int)) (some ((k : Int) + 1)))) k3
          have f4 := upd_old (o := .lst (cutV us (some ((k : Int) + 1)) (some ((k : Int) + 2)) ++ cutV us (some (k : Int)) (some ((k : Int) + 1)))) k3 (upd_old (o := .lst (cutV us (some (k : Int)) (some ((k : Int) + 1)))) k2 (upd_old (o := .lst (cutV us (some ((k : Int) + 1)) (some ((k : Int) + 2)))) k1 f3))
          have t4 := upd_same (H := upd (upd H3 s1 (.lst (cutV us (some ((k : Int) + 1)) (some ((k : Int) + 2))))) s2 (.lst (cutV us (some (k : Int)) (some ((k : Int) + 1))))) (a := s3) (o := .lst (cutV us (some ((k : Int) + 1)) (some ((k : Int) + 2)) ++ cutV us (some (k : Int)) (some ((k : Int) + 1))))
          generalize upd (upd (upd H3 s1 (.lst (cutV us (some ((k : Int) + 1)) (some ((k : Int) + 2))))) s2 (.lst (cutV us (some (k : Int)) (some ((k : Int) + 1))))) s3 (.lst (cutV us (some ((k : Int) + 1)) (some ((k : Int) + 2)) ++ cutV us (some (k : Int)) (some ((k : Int) + 1)))) = H4 at D3 P4 f4 t4 ⊢
          refine r_slL (SqL.of f4) fun s4 k4 => ?_
          walk_at "sts"
          have a4 := cl none (some (k : Int))
          refine r_addL upd_same (upd_old k4 t4) (by rw [List.length_append]; omega) fun s5 k5 => ?_
          walk_at "sts"
          refine r_slL (SqL.of (upd_old k5 (upd_old k4 f4))) fun s6 k6 => ?_
          walk_at "sts"
          have a6 := cl (some ((k : Int) + 2)) none
          refine r_addL (upd_old k6 upd_same) upd_same (by rw [List.length_append, List.length_append]; omega) fun s7 k7 => ?_
          have hu4 := RDs.same (Hx_chg D3) _ _ hu3
          have he := ((hel.cut none (some (k : Int))).app ((hel.cut (some ((k : Int) + 1)) (some ((k : Int) + 2))).app (hel.cut (some (k : Int)) (some ((k : Int) + 1))))).app (hel.cut (some ((k : Int) + 2)) none)
          refine q (.ref s7) (.list (cutG (ps.map pD) none (some (k : Int)) ++ (cutG (ps.map pD) (some ((k : Int) + 1)) (some ((k : Int) + 2)) ++ cutG (ps.map pD) (some (k : Int)) (some ((k : Int) + 1))) ++ cutG (ps.map pD) (some ((k : Int) + 2)) none)) _ (RD_list.mpr ⟨s7, _, rfl, Hx_at upd_same ((((P4.new k4).new k5).new k6).ne k7), ?_⟩) ?_ (fun ds e => ?_) ((((P4.new k4).new k5).new k6).new k7) ((C03.trans D3).trans (((((Chg.refl p H4).new k4).new k5).new k6).new k7))
          · exact RDs.same (Hx_chg (((((Chg.refl p H4).new k4).new k5).new k6).new k7)) _ _ (RDs_append (RDs_append (RDs_cut hu4 _ _) (RDs_append (RDs_cut hu4 _ _) (RDs_cut hu4 _ _))) (RDs_cut hu4 _ _))
          · exact Els.lst ⟨he.el, by
              rw [List.length_append, List.length_append, List.length_append]
              have b1 := cutG_len (xs := ps.map pD) (lo := none) (hi := some (k : Int))
              have b2 := cutG_len (xs := ps.map pD) (lo := some ((k : Int) + 1)) (hi := some ((k : Int) + 2))
              have b3 : (cutG (ps.map pD) (some (k : Int)) (some ((k : Int) + 1))).length ≤ 1 := by
                unfold cutG
                rw [show ((k : Int) + 1) = ((k + 1 : Nat) : Int) by omega, HT.sIx_nat, HT.sIx_nat, List.length_take]
                omega
              have b4 := cutG_len (xs := ps.map pD) (lo := some ((k : Int) + 2)) (hi := none)
              rw [List.length_map] at b1 b2 b4
              omega⟩
          · cases e
            have := he.few
            omega
        · walk_at "sts"
          refine iteD (fun h3 => ?_) (fun h3 => ?_)
          · have hzp : 0 < z.length ∧ 0 < y.length := by
              cases ps with
              | nil => cases hps
              | cons p0 _ =>
                obtain ⟨a, b, _⟩ := hth.mem p0 (by simp)
                exact ⟨by omega, by omega⟩
            walk_at "sts"
            refine r_lenS lz ?_
            walk_at "sts"
            refine ⟨p, _, rfl, P3, by omega, by omega, fun one H4 o0 o1 P4 C4 => ?_⟩
            walk_at "sts"
            refine r_slL (SqL.of (C4.at_ f3 m0)) fun s1 k1 => ?_
            walk_at "sts"
            have a1 := cl none (some (k : Int))
            have a2 := cl (some (k : Int)) none
            refine r_lenS ly ?_
            walk_at "sts"
            refine ⟨p, _, rfl, P4.new k1, by omega, by omega, fun two H5 t0 t1 P5 C5 => ?_⟩
            walk_at "sts"
            have g1 := C5.at_ upd_same (P4.ne k1)
            have f5 := C5.at_ (upd_old (o := .lst (cutV us none (some (k : Int)))) k1 (C4.at_ f3 m0)) m0
            have D5 : Chg p H3 H5 := C4.trans (((Chg.refl p H4).new k1).trans C5)
            have hu5 := RDs.same (Hx_chg D5) _ _ hu3
            obtain ⟨o, rfl⟩ : ∃ o : Nat, one = (o : Int) := ⟨one.toNat, by omega⟩
            obtain ⟨w, rfl⟩ : ∃ w : Nat, two = (w : Int) := ⟨two.toNat, by omega⟩
            refine r_new rfl fun s2 k2 => ?_
            walk_at "sts"
            refine r_new rfl fun s3 k3 => ?_
            walk_at "sts"
            refine r_addL (upd_old k3 (upd_old k2 g1)) upd_same (by simp; omega) fun s4 k4 => ?_
            walk_at "sts"
            refine r_slL (SqL.of (upd_old k4 (upd_old k3 (upd_old k2 f5)))) fun s5 k5 => ?_
            walk_at "sts"
            refine r_addL (upd_old k5 upd_same) upd_same (by rw [List.length_append]; simp; omega) fun s6 k6 => ?_
            have n2 := P5.ne k2
            have D6 := (((((Chg.refl p H5).new (o := .tup [.int o, .int w]) k2).new (o := .lst [.ref s2]) k3).new (o := .lst (cutV us none (some (k : Int)) ++ [.ref s2])) k4).new (o := .lst (cutV us (some (k : Int)) none)) k5).new (o := .lst (cutV us none (some (k : Int)) ++ [.ref s2] ++ cutV us (some (k : Int)) none)) k6
            have he := ((hel.cut none (some (k : Int))).app (m := 1) (es := [.tuple [.int o, .int w]]) ⟨by simp only [List.mem_singleton]; rintro d rfl; exact sme_pair (i := o) (j := w) (by omega) (by omega), by simp⟩).app (hel.cut (some (k : Int)) none)
            have e2 := upd_same (H := H5) (a := s2) (o := .tup [.int o, .int w])
            refine q (.ref s6) (.list (cutG (ps.map pD) none (some (k : Int)) ++ [.tuple [.int o, .int w]] ++ cutG (ps.map pD) (some (k : Int)) none)) _ (RD_list.mpr ⟨s6, _, rfl, Hx_at upd_same (((((P5.new k2).new k3).new k4).new k5).ne k6), ?_⟩) (he.wk (by omega)).lst (fun ds e => by cases e; have := he.few; omega) (((((P5.new k2).new k3).new k4).new k5).new k6) ((C03.trans D5).trans D6)
            refine RDs_append (RDs_append (RDs.same (Hx_chg D6) _ _ (RDs_cut hu5 _ _)) (RDs_one (RD_pair.mpr ⟨s2, rfl, Hx_at ?_ n2⟩) (RDs_nil.mpr rfl))) (RDs.same (Hx_chg D6) _ _ (RDs_cut hu5 _ _))
            exact upd_old k6 (upd_old k5 (upd_old k4 (upd_old k3 e2)))
          · have gx : us[k]? = some (us[k]'hk) := List.getElem?_eq_getElem hk
            obtain ⟨p0, a, hp0, ea, ha⟩ := RDs_pD hu3 gx
            obtain ⟨b1, b2, _⟩ := hth.mem p0 (List.mem_of_getElem? hp0)
            rw [ea] at gx
            walk_at "sts"
            refine r_ixL (SqL.of f3) (atI_nat gx) ?_
            walk_at "sts"
            refine ⟨p, a, p0.1, p0.2, z, y, rfl, P3, Hx_same p H3 _ _ ha, by omega, by omega, hz, hy, fun v d H5 R5 D5 P5 C5 => ?_⟩
            walk_at "sts"
            have f5 := C5.at_ f3 m0
            refine r_setL f5 (n := k) ?_ ?_
            · unfold ixN
              rw [if_pos (by omega), if_pos (by omega), Int.toNat_natCast]
            walk_at "sts"
            have nl0 : ∀ b o, H b = some o → b ≠ l0 := fun b o e w => by
              subst w
              rw [C1 _ _ m0 e] at n0
              cases n0
            have C05 := C03.trans C5
            have Cz : Chg p H (upd H5 l0 (.lst (us.set k v))) := fun b o hb e => by
              rw [upd_ne (nl0 b o e)]
              exact C05 b o hb e
            refine q (.ref l0) (.list ((ps.map pD).set k d)) _ (RD_list.mpr ⟨l0, _, rfl, Hx_at upd_same m0, ?_⟩) (Els.lst ⟨fun x hx => ?_, by rw [List.length_set, List.length_map]; omega⟩) (fun ds e => by cases e; rw [List.length_set, List.length_map]; omega) ?_ Cz
            · exact RDs_set (rd_off R5 D5 f5 gx) k (RDs.same (Hx_chg Cz) _ _ hu0)
            · rcases List.mem_or_eq_of_mem_set hx with hx | rfl
              · exact hel.el x hx
              · exact D5
            · obtain ⟨a1, a2, a3, e, r⟩ := P5
              exact ⟨a1, a2, a3, by rw [upd_ne (Ne.symm m0)]; exact e, r⟩
end

section
variable {P : Program} {w : World} {K : PySem.W.Frag} {mg : Str → Option Value} {base : Heap}
theorem nd_law_right_0 : (["_law_pair_here", "_law_side"] : List Str).Nodup := by decide +kernel
theorem k_law_said__law_found : (defScope s_law_said).names.lookup ("_law_found" : Str) = some NameKind.local := by decide +kernel
theorem k_law_said_PaneError : (defScope s_law_said).names.lookup ("PaneError" : Str) = some NameKind.globalImplicit := by decide +kernel
theorem k_law_said_NoThread : (defScope s_law_said).names.lookup ("NoThread" : Str) = some NameKind.globalImplicit := by decide +kernel
theorem k_law_said_e : (defScope s_law_said).names.lookup ("e" : Str) = some NameKind.local := by decide +kernel
theorem k_law_said_said : (defScope s_law_said).names.lookup ("said" : Str) = some NameKind.globalImplicit := by decide +kernel
theorem k_law_said__law_thing : (defScope s_law_said).names.lookup ("_law_thing" : Str) = some NameKind.local := by decide +kernel
theorem k_law_said__law_top : (defScope s_law_said).names.lookup ("_law_top" : Str) = some NameKind.local := by decide +kernel
theorem k_law_said__law_side : (defScope s_law_said).names.lookup ("_law_side" : Str) = some NameKind.local := by decide +kernel
theorem k_law_right_repr : (defScope s_law_right).names.lookup ("repr" : Str) = some NameKind.globalImplicit := by decide +kernel
theorem k_law_right__law_thing : (defScope s_law_right).names.lookup ("_law_thing" : Str) = some NameKind.local := by decide +kernel
theorem k_law_right__law_kept : (defScope s_law_right).names.lookup ("_law_kept" : Str) = some NameKind.local := by decide +kernel
theorem k_law_right__law_found : (defScope s_law_right).names.lookup ("_law_found" : Str) = some NameKind.local := by decide +kernel
theorem k_law_right__law_due : (defScope s_law_right).names.lookup ("_law_due" : Str) = some NameKind.local := by decide +kernel
theorem k_law_right_isinstance : (defScope s_law_right).names.lookup ("isinstance" : Str) = some NameKind.globalImplicit := by decide +kernel
theorem k_law_right_bool : (defScope s_law_right).names.lookup ("bool" : Str) = some NameKind.globalImplicit := by decide +kernel
theorem k_law_right_is_thread : (defScope s_law_right).names.lookup ("is_thread" : Str) = some NameKind.globalImplicit := by decide +kernel
theorem k_law_right__law_top : (defScope s_law_right).names.lookup ("_law_top" : Str) = some NameKind.local := by decide +kernel
theorem k_law_right__law_side : (defScope s_law_right).names.lookup ("_law_side" : Str) = some NameKind.cell := by decide +kernel
theorem k_law_right__law_said : (defScope s_law_right).names.lookup ("_law_said" : Str) = some NameKind.globalImplicit := by decide +kernel
theorem k_law_right__law_wish : (defScope s_law_right).names.lookup ("_law_wish" : Str) = some NameKind.local := by decide +kernel
theorem k_law_right__law_reads : (defScope s_law_right).names.lookup ("_law_reads" : Str) = some NameKind.globalImplicit := by decide +kernel
def spSaidL (K : PySem.W.Frag) : Sp := fun vs H Q _ => ∃ (z y : Str) (t : V) (d : PyData), vs = [.str z, .str y, t] ∧ RowB z ∧ RowB y ∧ RD H d t ∧ (∀ ds, d = .list ds → ds.length ≤ 5000) ∧
  (threadD z y d = true → ∀ (r : Addr) (H' : Hp), Same H H' → H' r = some (.lst [.str (Str.ofString "told"), .str (saidT z d)]) → Q (.ref r) H') ∧
  (threadD z y d = false → ∀ (r : Addr) (H' : Hp), Same H H' → H' r = some (.lst [.str (Str.ofString "thread"), t]) → Q (.ref r) H')
theorem sc_law_said : FnScope ["_law_side", "_law_top", "_law_thing", "_law_found", "e"] ["_law_side", "_law_top", "_law_thing"] (defScope s_law_said) := ⟨rfl, rfl, rfl, by decide +kernel, rfl, by decide +kernel, by decide +kernel⟩
theorem h_law_said (T : Txt K mg) : Has P w K mg base 7 "_law_said" ["_law_side", "_law_top", "_law_thing"] (spSaidL K) := by
  have h_said := h_said (P := P) (w := w) (base := base) T
  refine hasJ T.d_law_said sc_law_said (fun _ _ _ _ _ _ us hl => match us, hl with | [_, _, _], _ => rfl) ?_ fun f cdv A outer s H vs Q E hr h => ?_
  · rintro vs H Q E ⟨z, y, t, d, rfl, _⟩; rfl
  obtain ⟨z, y, t, d, rfl, hz, hy, hd, hsz, q1, q2⟩ := h
  have hu := hr.units0
  have hu64 := hr.units
  refine ⟨_, (jb_cons (js_set (i := 3) sc_law_said.nd rfl (Or.inl k_law_said__law_found) (j_lst (ja_cons j_str (ja_cons j_non ja_nil))) rfl) (jb_cons (js_try rfl rfl (fun pins R => (jb_one (js_set (i := 3) sc_law_said.nd rfl (Or.inl k_law_said__law_found) (j_lst (ja_cons j_str (ja_cons (j_callX h_said (hr.mono (by decide)) (glF k_law_said_said) pass_try (ja_cons (j_vL 0 k_law_said__law_side) (ja_cons (j_vL 1 k_law_said__law_top) (ja_cons (j_vL 2 k_law_said__law_thing) ja_nil))) (by decide +kernel)) ja_nil))) rfl))) (jh_as (K := K) (i := 4) rfl T.x_NoThread.c (glF k_law_said_NoThread) (by decide +kernel) sc_law_said.nd rfl k_law_said_e (fun x => (jb_one (js_set (i := 3) sc_law_said.nd rfl (Or.inl k_law_said__law_found) (j_lst (ja_cons j_str (ja_cons (j_fldX (K := K) rfl (j_vL 4 k_law_said_e)) ja_nil))) rfl))) (jh_no (K := K) rfl T.x_PaneError (glF k_law_said_PaneError) (by decide +kernel) (fun x => (jb_one (js_set (i := 3) sc_law_said.nd rfl (Or.inl k_law_said__law_found) (j_lst (ja_cons j_str (ja_cons j_non ja_nil))) rfl))) jh_nil))) (jb_one (js_ret (j_vL 3 k_law_said__law_found))))), ?_⟩
  walk_at "sts"
  refine r_new rfl fun l0 n0 => ?_
  walk_at "sts"
  have S0 := (Same.refl H).upd (o := .lst [.str (Str.ofString "other"), .non]) n0
  generalize upd H l0 (.lst [.str (Str.ofString "other"), .non]) = H0 at S0 ⊢
  refine ⟨z, y, t, d, rfl, hz, hy, RD.same S0 _ _ hd, hsz, fun ht H1 S1 => ?_, fun ht e H1 S1 X1 => ?_⟩
  · walk_at "sts"
    refine r_new rfl fun r nr => ?_
    walk_at "sts"
    exact q1 ht r _ ((S0.trans S1).upd nr) upd_same
  · refine ⟨_, e, rfl, rfl, ?_⟩
    refine r_asT T.x_NoThread.c.cl.cls T.u_NoThread_NoThread.mro ?_
    walk_at "sts"
    refine ⟨e, _, _, t, rfl, X1, T.x_NoThread.c.cl.cls, T.x_NoThread.na _ (by simp), rfl, ?_⟩
    walk_at "sts"
    refine r_new rfl fun r nr => ?_
    walk_at "sts"
    exact q2 ht r _ ((S0.trans S1).upd nr) upd_same
theorem lv_str {z : Str} (h : ∀ c ∈ z.cps.toList, c < 16 ^ 8) : PyData.leavesShort 60 (.str z) = true := by
  simp only [PyData.leavesShort, List.all_eq_true, decide_eq_true_eq]; exact h
theorem fit_of {d : PyData} (lv : d.leavesShort 60 = true) (bk : d.bulk ≤ 20000) : d.shown.length ≤ sizeLine := by
  have e := PyData.shown_le_bulk 60 (by omega) d lv
  have := Nat.mul_le_mul_left (60 + 2) bk
  exact Nat.le_trans (show d.shown.length ≤ 62 * 20000 + 60 by omega) (by decide)
theorem sgnD_lt {z : Str} (h : ∀ c ∈ z.cps.toList, c < 16 ^ 8) (d : PyData) : ∀ c ∈ (sgnD z d).cps.toList, c < 16 ^ 8 := by
  unfold sgnD
  split
  · rename_i i _
    intro c hc
    simp at hc
    subst hc
    cases hg : z.cps[i.toNat]? with
    | none => simp
    | some x =>
      simp
      exact h x (by have := Array.mem_of_getElem? hg; simpa using this)
  · intro c hc; simp at hc
theorem sgnD_len (z : Str) (d : PyData) : (sgnD z d).length ≤ 1 := by
  unfold sgnD
  split <;> simp [Str.length]
theorem said_ok {z : Str} (h : ∀ c ∈ z.cps.toList, c < 16 ^ 8) {ds : List PyData} (hl : ds.length ≤ 5000) : (∀ c ∈ (saidT z (.list ds)).cps.toList, c < 16 ^ 8) ∧ (saidT z (.list ds)).cps.toList.length ≤ 5000 := by
  have e : (saidT z (.list ds)).cps.toList = ((ds.map (sgnD z)).map fun y => y.cps.toList).flatten := join_cps _
  rw [e]
  refine ⟨fun c hc => ?_, ?_⟩
  · obtain ⟨l, hl1, hl2⟩ := List.mem_flatten.mp hc
    obtain ⟨y, hy, rfl⟩ := List.mem_map.mp hl1
    obtain ⟨d, hd, rfl⟩ := List.mem_map.mp hy
    exact sgnD_lt h d c hl2
  · refine Nat.le_trans ?_ hl
    clear hl e
    induction ds with
    | nil => simp
    | cons d ds ih =>
      have := sgnD_len z d
      have l1 : (sgnD z d).cps.toList.length = (sgnD z d).length := by simp [Str.length]
      simp only [List.map_cons, List.flatten_cons, List.length_append, List.length_cons]
      omega
def twoD (s : Str) (d : PyData) : PyData := .list [.str s, d]
theorem two_rd {H : Hp} {s : Str} {d : PyData} {v : V} {r : Addr} (h : RD H d v) (e : H r = some (.lst [.str s, v])) : RD H (twoD s d) (.ref r) := RD_list.mpr ⟨r, _, rfl, e, RDs_one (RD_str.mpr rfl) (RDs_one h (RDs_nil.mpr rfl))⟩
theorem two_ok {s : Str} {d : PyData} (hs : PyData.leavesShort 60 (.str s) = true) (hl : s.cps.size ≤ 100) (h1 : d.showable = true) (h2 : d.depth ≤ 3) (h3 : d.leavesShort 60 = true) (h4 : d.bulk ≤ 10000) : (twoD s d).showable = true ∧ (twoD s d).depth ≤ 60 ∧ (twoD s d).shown.length ≤ sizeLine := by
  refine ⟨by simp only [twoD, PyData.showable, PyData.showableAll, h1, Bool.and_self], by simp only [twoD, PyData.depth, PyData.depthAll]; omega, fit_of ?_ ?_⟩
  · rw [twoD, PyData.leavesShort, PyData.leavesShortAll, PyData.leavesShortAll, PyData.leavesShortAll, hs, h3]; rfl
  · simp only [twoD, PyData.bulk, PyData.bulkAll]; omega
def spRight (K : PySem.W.Frag) : Sp := fun vs H Q _ => ∃ (z y : Str) (t : V) (d : PyData), vs = [.str z, .str y, t] ∧ Row z ∧ Row y ∧ RD H d t ∧ Sm d ∧ (∀ ds, d = .list ds → ds.length ≤ 5000) ∧ ∀ H', Same H H' → Q (.bl true) H'
theorem sc_law_right : FnScope ["_law_side", "_law_top", "_law_thing", "_law_due", "_law_kept", "_law_wish", "_law_found"] ["_law_side", "_law_top", "_law_thing"] (defScope s_law_right) := ⟨rfl, rfl, rfl, by decide +kernel, rfl, by decide +kernel, by decide +kernel⟩
theorem h_law_right (T : Txt K mg) : Has P w K mg base 8 "_law_right" ["_law_side", "_law_top", "_law_thing"] (spRight K) := by
  have h_law_reads := h_law_reads (P := P) (w := w) (base := base) T
  have h_is_thread := h_is_thread (P := P) (w := w) (base := base) T
  have h_law_said := h_law_said (P := P) (w := w) (base := base) T
  refine hasJ T.d_law_right sc_law_right (fun _ _ _ _ _ _ us hl => match us, hl with | [_, _, _], _ => rfl) ?_ fun f cdv A outer s H vs Q E hr h => ?_
  · rintro vs H Q E ⟨z, y, t, d, rfl, _⟩; rfl
  obtain ⟨z, y, t, d, rfl, hz, hy, hd, hsm, hsz, q⟩ := h
  have hu := hr.units0
  have hu64 := hr.units
  refine ⟨_, (jb_cons (js_set (i := 3) sc_law_right.nd rfl (Or.inl k_law_right__law_due) (j_call h_law_reads (hr.mono (by decide)) (glF k_law_right__law_reads) (ja_cons (j_vC 0 k_law_right__law_side) (ja_cons (j_vL 1 k_law_right__law_top) (ja_cons (j_vL 2 k_law_right__law_thing) ja_nil))) (by decide +kernel)) rfl) (jb_cons (js_set (i := 4) sc_law_right.nd rfl (Or.inl k_law_right__law_kept) (j_callB (call_reprR hr.gd hu64) (glF k_law_right_repr) T.b_repr bt_repr (ja_cons (j_vL 2 k_law_right__law_thing) ja_nil) (by decide +kernel) (by decide +kernel)) rfl) (jb_cons (js_set (i := 5) sc_law_right.nd rfl (Or.inl k_law_right__law_wish) (j_lst (ja_cons j_str (ja_cons (j_vL 2 k_law_right__law_thing) ja_nil))) rfl) (jb_cons (js_if (jt_val (j_vL 3 k_law_right__law_due)) (jb_one (js_set (i := 5) sc_law_right.nd rfl (Or.inl k_law_right__law_wish) (j_lst (ja_cons j_str (ja_cons (j_meth (K := K) rfl PySem.F.plainAttrs_str PySem.F.slot_str_join PySem.F.type_str_join mt_join j_str (ja_cons (j_comp (sub := [none, some 0]) (subOk_of (N := ["_law_side", "_law_top", "_law_thing", "_law_due", "_law_kept", "_law_wish", "_law_found"]) (sc := defScope s_law_right) (N' := ["_law_pair_here", "_law_side"]) (by decide +kernel)) rfl rfl rfl (ji_seq (K := K) rfl (j_vL 2 k_law_right__law_thing)) (fun C s₀ H₀ ex => (jg_B 0 (by decide +kernel) nd_law_right_0)) (fun C s₀ H₀ ex => jif_nil) (fun C s₀ H₀ ex => (j_ix (K := K) rfl (j_vBF 1 (by decide +kernel)) (j_ix (K := K) rfl (j_vBL 0 (by decide +kernel)) j_int)))) ja_nil)) ja_nil))) rfl)) jb_nil) (jb_cons (js_if (jt_cmp (op_neX (K := K) rfl hu64) (j_callB (call_reprR hr.gd hu64) (glF k_law_right_repr) T.b_repr bt_repr (ja_cons (j_call h_law_said (hr.mono (by decide)) (glF k_law_right__law_said) (ja_cons (j_vC 0 k_law_right__law_side) (ja_cons (j_vL 1 k_law_right__law_top) (ja_cons (j_vL 2 k_law_right__law_thing) ja_nil))) (by decide +kernel)) ja_nil) (by decide +kernel) (by decide +kernel)) (j_callB (call_reprR hr.gd hu64) (glF k_law_right_repr) T.b_repr bt_repr (ja_cons (j_vL 5 k_law_right__law_wish) ja_nil) (by decide +kernel) (by decide +kernel)) (by first | exact nomark _ | with_unfolding_all rfl)) (jb_one (js_ret j_bl)) jb_nil) (jb_cons (js_set (i := 6) sc_law_right.nd rfl (Or.inl k_law_right__law_found) (j_callX h_is_thread (hr.mono (by decide)) (glF k_law_right_is_thread) (passN fun _ _ => rfl) (ja_cons (j_vC 0 k_law_right__law_side) (ja_cons (j_vL 1 k_law_right__law_top) (ja_cons (j_vL 2 k_law_right__law_thing) ja_nil))) (by decide +kernel)) rfl) (jb_one (js_ret (j_and (j_callB (call_isiK (K := K) rfl) (glF k_law_right_isinstance) T.b_isinstance bt_isinstance (ja_cons (j_vL 6 k_law_right__law_found) (ja_cons (j_ty (glF k_law_right_bool) T.b_bool bt_bool (by decide +kernel) (by decide +kernel)) ja_nil)) (by decide +kernel) (by decide +kernel)) (j_and (j_cmp (op_eqX (K := K) rfl hu64) (j_vL 6 k_law_right__law_found) (j_vL 3 k_law_right__law_due) (by first | exact nomark _ | with_unfolding_all rfl)) (j_one (j_cmp (op_eqX (K := K) rfl hu64) (j_callB (call_reprR hr.gd hu64) (glF k_law_right_repr) T.b_repr bt_repr (ja_cons (j_vL 2 k_law_right__law_thing) ja_nil) (by decide +kernel) (by decide +kernel)) (j_vL 4 k_law_right__law_kept) (by first | exact nomark _ | with_unfolding_all rfl))))))))))))), ?_⟩
  walk_at "sts"
  have lz : z.length ≤ sizeLine := Nat.le_trans hz.1 (by decide)
  have hzc := fun c hc => good_sml c (hz.2 c hc)
  have dfit := fit_of hsm.lv (by have := hsm.bk; omega)
  have ddp : d.depth ≤ 60 := by have := hsm.dp; omega
  obtain ⟨o1, o2, o3⟩ := two_ok (s := Str.ofString "thread") (d := d) (by decide +kernel) (by decide +kernel) hsm.sh hsm.dp hsm.lv hsm.bk
  refine ⟨z, y, t, d, rfl, hz.1, hy.1, hd, fun H1 S1 => ?_⟩
  walk_at "sts"
  rw [reads_thread]
  refine r_reprR (RD.same S1 _ _ hd) hsm.sh ddp dfit ?_
  walk_at "sts"
  refine r_new rfl fun w0 n0 => ?_
  walk_at "sts"
  have S2 := S1.upd (o := .lst [.str (Str.ofString "thread"), t]) n0
  have hw := upd_same (H := H1) (a := w0) (o := .lst [.str (Str.ofString "thread"), t])
  generalize upd H1 w0 (.lst [.str (Str.ofString "thread"), t]) = H2 at S2 hw ⊢
  cases ht : threadD z y d with
  | false =>
    walk_at "sts"
    refine ⟨z, y, t, d, rfl, hz.b, hy.b, RD.same S2 _ _ hd, hsz, (fun h => by rw [ht] at h; cases h), fun _ r H3 S3 hr3 => ?_⟩
    walk_at "sts"
    have S13 := S2.trans S3
    refine r_reprR (two_rd (RD.same S13 _ _ hd) hr3) o1 o2 o3 ?_
    walk_at "sts"
    refine r_reprR (two_rd (RD.same S13 _ _ hd) (S3 _ _ hw)) o1 o2 o3 ?_
    walk_at "sts"
    rw [decide_eq_true rfl]
    walk_at "sts"
    refine spX3.good hz.b hy.b ⟨d, RD.same S13 _ _ hd, hsz, fun H4 S4 => ?_⟩
    rw [ht]
    walk_at "sts"
    refine r_isi (.bl _) rfl ?_
    walk_at "sts"
    rw [decide_eq_true rfl]
    walk_at "sts"
    refine r_reprR (RD.same (S13.trans S4) _ _ hd) hsm.sh ddp dfit ?_
    walk_at "sts"
    have q4 := q _ (S13.trans S4)
    first | exact q4 | (rw [decide_eq_true rfl]; exact q4)
  | true =>
    obtain ⟨ds, rfl⟩ : ∃ ds, d = .list ds := by cases d <;> first | exact ⟨_, rfl⟩ | cases ht
    have hm : ds.all (matchD z y) = true := by
      have : (ds.all (matchD z y) && _) = true := ht
      rw [Bool.and_eq_true] at this
      exact this.1
    have h5 := hsz ds rfl
    obtain ⟨c1, c2⟩ := said_ok hzc h5
    have c3 : (saidT z (.list ds)).cps.size ≤ 5000 := by simpa using c2
    obtain ⟨t1, t2, t3⟩ := two_ok (s := Str.ofString "told") (d := .str (saidT z (.list ds))) (by decide +kernel) (by decide +kernel) rfl (by show 0 ≤ 3; omega) (lv_str c1) (by show (saidT z (.list ds)).cps.size ≤ 10000; omega)
    obtain ⟨a, us, rfl, e, r⟩ := RD_list.mp (RD.same S2 _ _ hd)
    have hl := RDs_len r
    have hz5 : us.length ≤ sizeLine := Nat.le_trans (show us.length ≤ 5000 by omega) (by decide)
    walk_at "sts"
    refine ⟨rfl, ?_⟩
    walk_at "sts"
    refine .inl ⟨a, rfl, ⟨_, SqL.of e⟩, ?_⟩
    refine comp_list (xs := us) (fun i ys H' => H' = H2 ∧ ys = ((ds.take i).map (sgnD z)).map V.str) hz5 ⟨rfl, rfl⟩ ?_ ?_ ?_ ?_
    · rintro i ys H' ⟨_, rfl⟩
      simp; omega
    · rintro i ys H' ⟨rfl, rfl⟩
      exact SqL.of e
    · rintro i ys H' x hx ⟨rfl, rfl⟩
      obtain ⟨d, h1, h2⟩ := RDs_at r hx
      have md := List.all_eq_true.mp hm d (List.mem_of_getElem? h1)
      obtain ⟨p1, p2, rfl⟩ := match_pair md
      obtain ⟨b, rfl, hb⟩ := RD_pair.mp h2
      have md2 : matchI z y p1 p2 = true := md
      unfold matchI at md2
      simp only [Bool.and_eq_true, decide_eq_true_eq] at md2
      obtain ⟨c, hc, ac⟩ := sgn_at (z := z) (k := p1) (j := p1.toNat) (by omega) (by omega)
      walk_at "sts"
      refine ⟨KeepSt.set rfl, ?_⟩
      walk_at "sts"
      refine r_ixS lz ac ⟨rfl, ?_⟩
      rw [List.take_add_one, h1]
      simp [sgnD, hc]
    · rintro ys H' ⟨rfl, rfl⟩ D hD
      rw [hl, List.take_length]
      walk_at "sts"
      have e0 : (Str.ofString "").length = 0 := by decide +kernel
      have hs1 : ((ds.map (sgnD z)).map (·.length)).sum = (ds.map (sgnD z)).length := sum_ones fun x hx => by
        obtain ⟨d, hd, rfl⟩ := List.mem_map.mp hx
        obtain ⟨p1, p2, rfl⟩ := match_pair (List.all_eq_true.mp hm d hd)
        exact len1 _
      refine r_join upd_same (by rw [hs1, e0, List.length_map]; omega) ?_
      have SD := S2.upd hD (o := .lst ((ds.map (sgnD z)).map V.str))
      generalize upd H' D (.lst ((ds.map (sgnD z)).map V.str)) = H9 at SD ⊢
      walk_at "sts"
      refine r_new rfl fun w1 n1 => ?_
      walk_at "sts"
      replace S2 := SD.upd (o := .lst [.str (Str.ofString "told"), .str (Txt.join (Str.ofString "") (ds.map (sgnD z)))]) n1
      have hw1 : upd H9 w1 (.lst [.str (Str.ofString "told"), .str (Txt.join (Str.ofString "") (ds.map (sgnD z)))]) w1 = some (.lst [.str (Str.ofString "told"), .str (saidT z (.list ds))]) := upd_same
      generalize upd H9 w1 (.lst [.str (Str.ofString "told"), .str (Txt.join (Str.ofString "") (ds.map (sgnD z)))]) = HA at S2 hw1 ⊢
      refine ⟨z, y, .ref a, .list ds, rfl, hz.b, hy.b, RD.same S2 _ _ hd, hsz, (fun _ r H3 S3 hr3 => ?_), (fun h => by rw [ht] at h; cases h)⟩
      walk_at "sts"
      have S13 := S2.trans S3
      refine r_reprR (two_rd (d := .str (saidT z (.list ds))) (RD_str.mpr rfl) hr3) t1 t2 t3 ?_
      walk_at "sts"
      refine r_reprR (two_rd (d := .str (saidT z (.list ds))) (RD_str.mpr rfl) (S3 _ _ hw1)) t1 t2 t3 ?_
      walk_at "sts"
      rw [decide_eq_true rfl]
      walk_at "sts"
      refine spX3.good hz.b hy.b ⟨.list ds, RD.same S13 _ _ hd, hsz, fun H4 S4 => ?_⟩
      rw [ht]
      walk_at "sts"
      refine r_isi (.bl _) rfl ?_
      walk_at "sts"
      rw [decide_eq_true rfl]
      walk_at "sts"
      refine r_reprR (RD.same (S13.trans S4) _ _ hd) hsm.sh ddp dfit ?_
      walk_at "sts"
      have q4 := q _ (S13.trans S4)
      first | exact q4 | (rw [decide_eq_true rfl]; exact q4)
end

section
variable {P : Program} {w : World} {K : PySem.W.Frag} {mg : Str → Option Value} {base : Heap}
theorem nd_law_0 : (["_law_pair_here", "_law_purse_here"] : List Str).Nodup := by decide +kernel
theorem k_law__law_script : (defScope s_law).names.lookup ("_law_script" : Str) = some NameKind.local := by decide +kernel
theorem k_law__law_cell : (defScope s_law).names.lookup ("_law_cell" : Str) = some NameKind.globalImplicit := by decide +kernel
theorem k_law__law_cell_here : (defScope s_law).names.lookup ("_law_cell_here" : Str) = some NameKind.local := by decide +kernel
theorem k_law_range : (defScope s_law).names.lookup ("range" : Str) = some NameKind.globalImplicit := by decide +kernel
theorem k_law__law_k : (defScope s_law).names.lookup ("_law_k" : Str) = some NameKind.local := by decide +kernel
theorem k_law__law_right : (defScope s_law).names.lookup ("_law_right" : Str) = some NameKind.globalImplicit := by decide +kernel
theorem k_law__law_spoilt : (defScope s_law).names.lookup ("_law_spoilt" : Str) = some NameKind.globalImplicit := by decide +kernel
theorem k_law__law_top : (defScope s_law).names.lookup ("_law_top" : Str) = some NameKind.local := by decide +kernel
theorem k_law__law_side : (defScope s_law).names.lookup ("_law_side" : Str) = some NameKind.local := by decide +kernel
theorem k_law__law_some : (defScope s_law).names.lookup ("_law_some" : Str) = some NameKind.local := by decide +kernel
theorem k_law__law_kept : (defScope s_law).names.lookup ("_law_kept" : Str) = some NameKind.local := by decide +kernel
theorem k_law__law_purse_here : (defScope s_law).names.lookup ("_law_purse_here" : Str) = some NameKind.cell := by decide +kernel
theorem k_law_thread_of : (defScope s_law).names.lookup ("thread_of" : Str) = some NameKind.globalImplicit := by decide +kernel
theorem k_law__law_thread : (defScope s_law).names.lookup ("_law_thread" : Str) = some NameKind.local := by decide +kernel
theorem k_law_list : (defScope s_law).names.lookup ("list" : Str) = some NameKind.globalImplicit := by decide +kernel
theorem k_law_len : (defScope s_law).names.lookup ("len" : Str) = some NameKind.globalImplicit := by decide +kernel
theorem k_law__law_longest : (defScope s_law).names.lookup ("_law_longest" : Str) = some NameKind.globalImplicit := by decide +kernel
theorem k_law__law_reads : (defScope s_law).names.lookup ("_law_reads" : Str) = some NameKind.globalImplicit := by decide +kernel
theorem k_law__law_row : (defScope s_law).names.lookup ("_law_row" : Str) = some NameKind.globalImplicit := by decide +kernel
theorem k_law__law_letters_here : (defScope s_law).names.lookup ("_law_letters_here" : Str) = some NameKind.local := by decide +kernel
theorem k_law__law_letters : (defScope s_law).names.lookup ("_law_letters" : Str) = some NameKind.globalImplicit := by decide +kernel
theorem k_law__law_purse : (defScope s_law).names.lookup ("_law_purse" : Str) = some NameKind.globalImplicit := by decide +kernel
def spLaw (K : PySem.W.Frag) : Sp := fun vs H Q _ => ∃ (a : Addr) (ns : List Int), vs = [.ref a] ∧ SqL K H a (ns.map V.int) ∧ ns.length ≤ 63 ∧ ∀ H', Q (.bl true) H'
theorem cut_map (ns : List Int) (lo hi : Option Int) : ∃ ms : List Int, cutV (ns.map V.int) lo hi = ms.map V.int := by
  unfold cutV
  exact ⟨_, by rw [← List.map_drop, ← List.map_take]⟩
theorem rds_of_DRs {H : Hp} : ∀ {ps : List PP} {us : List V}, DRs H (ps.map pD) us → RDs H (ps.map pD) us
  | [], us, h => by rw [List.map_nil, DRs_nil] at h; subst h; exact RDs_nil.mpr rfl
  | p :: ps, us, h => by
    rw [List.map_cons, DRs_cons] at h
    obtain ⟨v, r, rfl, hd, hr⟩ := h
    obtain ⟨a, ws, rfl, ha, hw⟩ := DR_tuple.mp hd
    rw [DRs_cons] at hw
    obtain ⟨v1, r1, rfl, h1, hw⟩ := hw
    rw [DRs_cons] at hw
    obtain ⟨v2, r2, rfl, h2, hw⟩ := hw
    rw [DRs_nil] at hw
    rw [DR_int] at h1 h2
    subst hw h1 h2
    exact RDs_one (RD_pair.mpr ⟨a, rfl, ha⟩) (rds_of_DRs hr)
theorem pur_same {H H' : Hp} {p : Addr} (h : Pur H p) (s : Same H H') : Pur H' p := by
  obtain ⟨a, b, c, e, r⟩ := h
  exact ⟨a, b, c, s _ _ e, r⟩
/-- the purse stands apart from what is read -/
theorem rds_hx {H : Hp} {p : Addr} (hP : Pur H p) : ∀ {ps : List PP} {us : List V}, RDs H (ps.map pD) us → RDs (Hx p H) (ps.map pD) us
  | [], us, h => h
  | q :: ps, us, h => by
    rw [List.map_cons, RDs_cons] at h
    obtain ⟨v, r, rfl, hd, hr⟩ := h
    obtain ⟨a, rfl, ha⟩ := RD_pair.mp hd
    refine RDs_one (RD_pair.mpr ⟨a, rfl, Hx_at ha fun z => ?_⟩) (rds_hx hP hr)
    obtain ⟨x, y, c, e, _⟩ := hP
    rw [z, e] at ha; cases ha
theorem sc_law : FnScope ["_law_script", "_law_cell_here", "_law_purse_here", "_law_letters_here", "_law_side", "_law_top", "_law_thread", "_law_kept", "_law_some", "_law_k"] ["_law_script"] (defScope s_law) := ⟨rfl, rfl, rfl, by decide +kernel, rfl, by decide +kernel, by decide +kernel⟩
theorem ok_law (T : Txt K mg) {f0 : Addr} {fd0 : FuncData} (F0 : Fun K "law" "law" s_law f0 fd0) : FnOk P w K mg base CX0 9 f0 fd0 ["_law_script"] (spLaw K) := by
  have h_law_purse := h_law_purse (P := P) (w := w) (base := base) T
  have h_law_letters := h_law_letters (P := P) (w := w) (base := base) T
  have h_law_row := h_law_row (P := P) (w := w) (base := base) T
  have h_thread_of := h_thread_of (P := P) (w := w) (base := base) T
  have h_law_cell := h_law_cell (P := P) (w := w) (base := base) T
  have h_law_right := h_law_right (P := P) (w := w) (base := base) T
  have h_law_reads := h_law_reads (P := P) (w := w) (base := base) T
  have h_law_longest := h_law_longest (P := P) (w := w) (base := base) T
  have h_law_take := h_law_take (P := P) (w := w) (base := base) T
  have h_law_spoilt := h_law_spoilt (P := P) (w := w) (base := base) T
  refine okJ F0 sc_law ?_ fun f cdv A outer s H vs Q E hr h => ?_
  · rintro vs H Q E ⟨a, ns, rfl, _⟩; rfl
  obtain ⟨a, ns, rfl, hS, hlen, q⟩ := h
  have hu := hr.units0
  have hu64 := hr.units
  refine ⟨_, (jb_cons (js_for PassesOwn.never rfl (ji_seq (K := K) rfl (j_op op_addA (j_slice (sl_seqK (K := K) rfl) (j_vL 0 k_law__law_script) jo_none (jo_some j_int)) (j_lst (ja_cons (j_call h_law_cell (hr.mono (by decide)) (glF k_law__law_cell) (ja_cons (j_vL 0 k_law__law_script) (ja_cons j_int ja_nil)) (by decide +kernel)) ja_nil)))) (jg_name (i := 1) sc_law.nd rfl (Or.inl k_law__law_cell_here) rfl) (jb_cons (js_set (i := 2) sc_law.nd rfl (Or.inr k_law__law_purse_here) (j_call h_law_purse (hr.mono (by decide)) (glF k_law__law_purse) (ja_cons (j_vL 1 k_law__law_cell_here) ja_nil) (by decide +kernel)) rfl) (jb_cons (js_set (i := 3) sc_law.nd rfl (Or.inl k_law__law_letters_here) (j_call h_law_letters (hr.mono (by decide)) (glF k_law__law_letters) (ja_cons (j_vC 2 k_law__law_purse_here) ja_nil) (by decide +kernel)) rfl) (jb_cons (js_set (i := 4) sc_law.nd rfl (Or.inl k_law__law_side) (j_call h_law_row (hr.mono (by decide)) (glF k_law__law_row) (ja_cons (j_vC 2 k_law__law_purse_here) (ja_cons (j_vL 3 k_law__law_letters_here) ja_nil)) (by decide +kernel)) rfl) (jb_cons (js_set (i := 5) sc_law.nd rfl (Or.inl k_law__law_top) (j_call h_law_row (hr.mono (by decide)) (glF k_law__law_row) (ja_cons (j_vC 2 k_law__law_purse_here) (ja_cons (j_vL 3 k_law__law_letters_here) ja_nil)) (by decide +kernel)) rfl) (jb_cons (js_set (i := 6) sc_law.nd rfl (Or.inl k_law__law_thread) (j_callX h_thread_of (hr.mono (by decide)) (glF k_law_thread_of) (passN fun _ _ => rfl) (ja_cons (j_vL 4 k_law__law_side) (ja_cons (j_vL 5 k_law__law_top) ja_nil)) (by decide +kernel)) rfl) (jb_cons (js_if (jw_pt (jw_or (jt_not (jt_val (j_call h_law_reads (hr.mono (by decide)) (glF k_law__law_reads) (ja_cons (j_vL 4 k_law__law_side) (ja_cons (j_vL 5 k_law__law_top) (ja_cons (j_vL 6 k_law__law_thread) ja_nil))) (by decide +kernel)))) (jw_or1 (jt_cmp (op_neX (K := K) rfl hu64) (j_callB (call_lenK (K := K) rfl) (glF k_law_len) T.b_len bt_len (ja_cons (j_vL 6 k_law__law_thread) ja_nil) (by decide +kernel) (by decide +kernel)) (j_call h_law_longest (hr.mono (by decide)) (glF k_law__law_longest) (ja_cons (j_vL 4 k_law__law_side) (ja_cons (j_vL 5 k_law__law_top) ja_nil)) (by decide +kernel)) (by first | exact nomark _ | with_unfolding_all rfl))))) (jb_one (js_ret j_bl)) jb_nil) (jb_cons (js_set (i := 7) sc_law.nd rfl (Or.inl k_law__law_kept) (j_callTy (call_listK (K := K) rfl rfl) (glF k_law_list) T.b_list bt_list (ja_cons (j_vL 6 k_law__law_thread) ja_nil) (by decide +kernel) (by decide +kernel)) rfl) (jb_cons (js_expr (j_meth0 (K := K) rfl PySem.F.plainAttrs_list PySem.F.slot_list_clear PySem.F.type_list_clear mt_clear (j_vL 6 k_law__law_thread))) (jb_cons (js_if (jw_pt (jw_or (jt_cmp (op_neX (K := K) rfl hu64) (j_callX h_thread_of (hr.mono (by decide)) (glF k_law_thread_of) (passN fun _ _ => rfl) (ja_cons (j_vL 4 k_law__law_side) (ja_cons (j_vL 5 k_law__law_top) ja_nil)) (by decide +kernel)) (j_vL 7 k_law__law_kept) (by first | exact nomark _ | with_unfolding_all rfl)) (jw_or1 (jt_not (jt_val (j_call h_law_right (hr.mono (by decide)) (glF k_law__law_right) (ja_cons (j_vL 4 k_law__law_side) (ja_cons (j_vL 5 k_law__law_top) (ja_cons (j_vL 7 k_law__law_kept) ja_nil))) (by decide +kernel))))))) (jb_one (js_ret j_bl)) jb_nil) (jb_cons (js_setC (i := 8) sc_law.nd rfl (Or.inl k_law__law_some) (sub := [none, some 2]) (subOk_of (N := ["_law_script", "_law_cell_here", "_law_purse_here", "_law_letters_here", "_law_side", "_law_top", "_law_thread", "_law_kept", "_law_some", "_law_k"]) (sc := defScope s_law) (N' := ["_law_pair_here", "_law_purse_here"]) (by decide +kernel)) rfl rfl rfl (ji_seq (K := K) rfl (j_vL 7 k_law__law_kept)) (fun C s₀ H₀ ex => (jg_B 0 (by decide +kernel) nd_law_0)) (fun C s₀ H₀ ex => (jif_one (jt_cmp op_gt (j_call h_law_take (hr.mono (by decide)) (glB (by decide +kernel)) (ja_cons (j_vBF 1 (by decide +kernel)) (ja_cons j_int ja_nil)) (by decide +kernel)) j_int (by first | exact nomark _ | with_unfolding_all rfl)))) (fun C s₀ H₀ ex => (j_vBL 0 (by decide +kernel))) rfl) (jb_cons (js_if (jt_not (jt_val (j_call h_law_right (hr.mono (by decide)) (glF k_law__law_right) (ja_cons (j_vL 4 k_law__law_side) (ja_cons (j_vL 5 k_law__law_top) (ja_cons (j_vL 8 k_law__law_some) ja_nil))) (by decide +kernel)))) (jb_one (js_ret j_bl)) jb_nil) (jb_one (js_for PassesOwn.never rfl (ji_range1 (glF k_law_range) T.b_range (ja_cons j_int ja_nil)) (jg_name (i := 9) sc_law.nd rfl (Or.inl k_law__law_k) rfl) (jb_one (js_if (jt_not (jt_val (j_call h_law_right (hr.mono (by decide)) (glF k_law__law_right) (ja_cons (j_vL 4 k_law__law_side) (ja_cons (j_vL 5 k_law__law_top) (ja_cons (j_call h_law_spoilt (hr.mono (by decide)) (glF k_law__law_spoilt) (ja_cons (j_vC 2 k_law__law_purse_here) (ja_cons (j_ix (K := K) rfl (j_lst (ja_cons (j_vL 7 k_law__law_kept) (ja_cons (j_vL 8 k_law__law_some) ja_nil))) (j_op op_mod (j_vL 9 k_law__law_k) j_int)) (ja_cons (j_vL 4 k_law__law_side) (ja_cons (j_vL 5 k_law__law_top) ja_nil)))) (by decide +kernel)) ja_nil))) (by decide +kernel)))) (jb_one (js_ret j_bl)) jb_nil)))))))))))))))) (jb_one (js_ret j_bl))), ?_⟩
  walk_at "sts"
  refine r_slL hS fun m1 n1 => ?_
  obtain ⟨ms, hms⟩ := cut_map ns none (some 8)
  have lm : ms.length ≤ 63 := by
    have := cutV_length (ns.map V.int) none (some 8)
    rw [hms] at this
    simp at this
    omega
  rw [hms]
  walk_at "sts"
  refine ⟨a, ns, 8, rfl, ((Same.refl H).upd n1).seq hS, by omega, fun c5 => ?_⟩
  walk_at "sts"
  refine ⟨by simp; decide, fun m2 n2 => ?_⟩
  refine r_addL (upd_old n2 upd_same) upd_same (by simp; exact Nat.le_trans (show ms.length + 1 ≤ 1000 by omega) (by decide)) fun L n3 => ?_
  have e3 : ms.map V.int ++ [V.int c5] = (ms ++ [c5]).map V.int := by simp
  rw [e3]
  refine .inl ⟨L, rfl, ⟨_, SqL.of upd_same⟩, ?_⟩
  refine for_list (xs := (ms ++ [c5]).map V.int) (fun i σ H' => H' L = some (.lst ((ms ++ [c5]).map V.int)) ∧ ∃ x1 x2 x3 x4 x5 x6 x7 x8 x9, σ = [some (.ref a), x1, x2, x3, x4, x5, x6, x7, x8, x9])
    ⟨upd_same, none, none, none, none, none, none, none, none, none, rfl⟩ (fun i σ H' _ h => SqL.of h.1) ?_ ?_
  · rintro i y σ H1 hi ⟨hL, x1, x2, x3, x4, x5, x6, x7, x8, x9, rfl⟩
    obtain ⟨n, rfl⟩ : ∃ n, y = V.int n := by
      rw [List.getElem?_map] at hi
      cases e : (ms ++ [c5])[i]? with
      | none => rw [e] at hi; cases hi
      | some n => rw [e] at hi; exact ⟨n, (Option.some.inj hi).symm⟩
    walk_at "sts"
    refine ⟨n, rfl, fun p H2 hp C2 P2 => ?_⟩
    have nLp : L ≠ p := fun z => by rw [z, hp] at hL; cases hL
    walk_at "sts"
    refine ⟨p, rfl, P2, fun r ys H3 nr P3 C3 hr3 hne hle hg => ?_⟩
    have nrp := purNe P3 hr3
    walk_at "sts"
    refine ⟨p, r, ys, rfl, P3, hr3, hne, hle, hg, fun side H4 hs P4 C4 => ?_⟩
    walk_at "sts"
    refine ⟨p, r, ys, rfl, P4, C4.at_ hr3 nrp, hne, hle, hg, fun top H5 ht P5 C5 => ?_⟩
    have hL5 : H5 L = some (.lst ((ms ++ [c5]).map V.int)) := (C3.trans (C4.trans C5)).at_ (C2.at_ hL nLp) nLp
    have hs1 := hs.1
    have ht1 := ht.1
    obtain ⟨thp, thl⟩ := wb_th side top
    walk_at "sts"
    refine spX.good hs.b ht.b fun t H6 nt S6 PL6 => ?_
    generalize hps : (wb side.cps.toList top.cps.toList side.length top.length).reverse = ps at thp thl PL6 ⊢
    have hT := thread_ps thp.mem thp.up
    obtain ⟨vs, ht6, hvl, hd6⟩ := PL6.len
    have few := thp.few
    walk_at "sts"
    refine ⟨side, top, .ref t, .list (ps.map pD), rfl, hs1, ht1, RD_list.mpr ⟨t, vs, rfl, ht6, rds_of_DRs hd6⟩, fun H7 S7 => ?_⟩
    rw [reads_thread, hT]
    have ht7 := S7 _ _ ht6
    walk_at "sts"
    refine r_lenL (SqL.of ht7) ?_
    walk_at "sts"
    refine ⟨side, top, rfl, hs1, ht1, fun H8 S8 => ?_⟩
    walk_at "sts"
    rw [decide_eq_true (show V.int (vs.length : Int) = V.int (lt side.cps.toList top.cps.toList side.length top.length) by rw [hvl, ← thl])]
    have S78 := S7.trans S8
    have ht8 := S78 _ _ ht6
    have hd8 := DRs.same S78 _ _ hd6
    walk_at "sts"
    refine r_listL (SqL.of ht8) fun kp nk => ?_
    walk_at "sts"
    refine ⟨.inl ⟨rfl, _, SqL.of (upd_old nk ht8)⟩, ?_⟩
    walk_at "sts"
    refine ⟨t, _, rfl, rfl, upd_old nk ht8, ?_⟩
    have nkt : kp ≠ t := fun z => by rw [z, ht8] at nk; cases nk
    have nk5 : H5 kp = none := (S6.trans S78).free nk
    have S9 : Same H5 (upd (upd H8 kp (.lst vs)) t (.lst [])) := over ((S6.trans S78).upd nk) nt
    have hk9 : upd (upd H8 kp (.lst vs)) t (.lst []) kp = some (.lst vs) := by rw [upd_ne nkt]; exact upd_same
    have hd9 : DRs (upd (upd H8 kp (.lst vs)) t (.lst [])) (ps.map pD) vs := DRs_keep (TK.lst (upd_old nk ht8)) _ _ (DRs.same ((Same.refl H8).upd nk) _ _ hd8)
    generalize upd (upd H8 kp (.lst vs)) t (.lst []) = H9 at S9 hk9 hd9 ⊢
    walk_at "sts"
    refine spX.good hs.b ht.b fun t2 H10 nt2 S10 PL10 => ?_
    rw [hps] at PL10
    obtain ⟨ws, ht10, _, hd10⟩ := PL10.len
    have hk10 := S10 _ _ hk9
    have hv10 := DRs.same S10 _ _ hd9
    walk_at "sts"
    refine r_neSame (d := .list (ps.map pD)) (DR_list.mpr ⟨t2, ws, rfl, ht10, hd10⟩) (DR_list.mpr ⟨kp, vs, rfl, hk10, hv10⟩) (shaped_ps ps) ?_
    walk_at "sts"
    have hel := els_ps thp hs1 ht1
    have smk : Sm (.list (ps.map pD)) := (hel.wk (by omega)).lst
    have szk : ∀ ds, PyData.list (ps.map pD) = .list ds → ds.length ≤ 5000 := fun ds e => by cases e; rw [List.length_map]; omega
    refine ⟨side, top, .ref kp, .list (ps.map pD), rfl, hs, ht, RD_list.mpr ⟨kp, vs, rfl, hk10, rds_of_DRs hv10⟩, smk, szk, fun H11 S11 => ?_⟩
    walk_at "sts"
    have S511 := (S9.trans S10).trans S11
    have P11 := pur_same P5 S511
    have hL11 := S511 _ _ hL5
    have hk11 := S11 _ _ hk10
    have nkp : kp ≠ p := P5.ne nk5
    have hv11 : RDs (Hx p H11) (ps.map pD) vs := rds_hx P11 (rds_of_DRs (DRs.same S11 _ _ hv10))
    clear hd10 ht10 PL10 hd9 hk9 hd8 ht8 ht7 hd6 ht6 PL6
    refine .inl ⟨kp, rfl, ⟨_, SqL.of hk11⟩, ?_⟩
    refine comp_list (xs := vs) (fun i ys H' => Pur H' p ∧ Chg p H11 H' ∧ ∃ qs : List PP, qs.Sublist (ps.take i) ∧ RDs (Hx p H') (qs.map pD) ys) (Nat.le_trans (show vs.length ≤ 1000 by omega) (by decide)) ⟨P11, Chg.refl _ _, [], by simp, RDs_nil.mpr rfl⟩ ?_ ?_ ?_ ?_
    · rintro i ys H' ⟨_, _, qs, hq, hr⟩
      have e1 := RDs_len hr
      have e2 := hq.length_le
      rw [List.length_map] at e1
      rw [List.length_take] at e2
      omega
    · rintro i ys H' ⟨_, C, _⟩
      exact SqL.of (C.at_ hk11 nkp)
    · rintro i ys H' x hx ⟨P', C', qs, hq, hr⟩
      obtain ⟨d, g1, g2⟩ := RDs_at (RDs.same (Hx_chg C') _ _ hv11) hx
      rw [List.getElem?_map] at g1
      cases hpi : ps[i]? with
      | none => rw [hpi] at g1; cases g1
      | some pr =>
        rw [hpi] at g1
        cases g1
        walk_at "sts"
        refine ⟨KeepSt.set rfl, ?_⟩
        walk_at "sts"
        refine ⟨p, 3, rfl, P', by omega, by omega, fun c H12 c0 c1 P12 C12 => ?_⟩
        walk_at "sts"
        have tk : ps.take (i + 1) = ps.take i ++ [pr] := by rw [List.take_add_one, hpi]; rfl
        have hr12 := RDs.same (Hx_chg C12) _ _ hr
        refine iteD (fun hc => ?_) (fun hc => ?_)
        · walk_at "sts"
          refine ⟨P12, C'.trans C12, qs ++ [pr], by rw [tk]; exact hq.append (List.Sublist.refl _), ?_⟩
          rw [List.map_append]
          exact RDs_append hr12 (RDs_one (RD.same (Hx_chg C12) _ _ g2) (RDs_nil.mpr rfl))
        · walk_at "sts"
          exact ⟨P12, C'.trans C12, qs, by rw [tk]; exact hq.trans (List.sublist_append_left _ _), hr12⟩
    · rintro ys2 H12 ⟨P12, C12, qs, hq, hr12⟩ sm nsm
      rw [List.take_of_length_le (by omega)] at hq
      have thq := thp.sub hq
      have heq := els_ps thq hs1 ht1
      have nsp : sm ≠ p := P12.ne nsm
      have P13 := P12.new (o := .lst ys2) nsm
      have C13 := C12.trans ((Chg.refl p H12).new (o := .lst ys2) nsm)
      have hr13 := RDs.same (Hx_chg ((Chg.refl p H12).new (o := .lst ys2) nsm)) _ _ hr12
      have hm13 := upd_same (H := H12) (a := sm) (o := .lst ys2)
      generalize upd H12 sm (.lst ys2) = H13 at P13 C13 hr13 hm13 ⊢
      have smq : Sm (.list (qs.map pD)) := (heq.wk (by omega)).lst
      have szq : ∀ ds, PyData.list (qs.map pD) = .list ds → ds.length ≤ 5000 := fun ds e => by cases e; rw [List.length_map]; have := thq.few; omega
      walk_at "sts"
      refine ⟨side, top, .ref sm, .list (qs.map pD), rfl, hs, ht, RD_list.mpr ⟨sm, ys2, rfl, hm13, RDs.same (Hx_same p H13) _ _ hr13⟩, smq, szq, fun H14 S14 => ?_⟩
      walk_at "sts"
      have C14 := C13.trans (Chg.of_same S14)
      have P14 := pur_same P13 S14
      have hL14 := C14.at_ hL11 nLp
      have hk14 := C14.at_ hk11 nkp
      have hm14 := S14 _ _ hm13
      have hv14 := RDs.same (Hx_chg C14) _ _ hv11
      have hr14 := RDs.same (Hx_chg (Chg.of_same S14)) _ _ hr13
      refine ⟨_, rfl, by omega, by omega, ?_⟩
      refine for_range (fun j σ H' => Pur H' p ∧ Chg p H14 H' ∧ ∃ x9, σ = [some (.ref a), some (.int n), some (.ref p), some (.ref r), some (.str side), some (.str top), some (.ref t), some (.ref kp), some (.ref sm), x9])
        ⟨P14, Chg.refl _ _, _, rfl⟩ ?_ ?_
      · rintro j σ H15 hj ⟨P15, C15, x9, rfl⟩
        walk_at "sts"
        refine r_new rfl fun l2 nl2 => ?_
        walk_at "sts"
        obtain ⟨sel, us, rs, es, hsel, hrd, hthr, _⟩ : ∃ (sel : Addr) (us : List V) (rs : List PP), atI [V.ref kp, V.ref sm] ((0 + (j : Int)) % 2) = some (.ref sel) ∧ H15 sel = some (.lst us) ∧ RDs (Hx p H15) (rs.map pD) us ∧ ThP side top rs ∧ True := by
          have : (0 + (j : Int)) % 2 = 0 ∨ (0 + (j : Int)) % 2 = 1 := by omega
          rcases this with e | e <;> rw [e]
          · exact ⟨kp, vs, ps, rfl, C15.at_ hk14 nkp, RDs.same (Hx_chg C15) _ _ hv14, thp, trivial⟩
          · exact ⟨sm, ys2, qs, rfl, C15.at_ hm14 nsp, RDs.same (Hx_chg C15) _ _ hr14, thq, trivial⟩
        have C16 := (Chg.refl p H15).new (o := .lst [.ref kp, .ref sm]) nl2
        have P16 := P15.new (o := .lst [.ref kp, .ref sm]) nl2
        refine r_ixL (SqL.of upd_same) es ?_
        walk_at "sts"
        refine ⟨p, sel, us, rs, side, top, rfl, P16, upd_old nl2 hsel, RDs.same (Hx_chg C16) _ _ hrd, hthr, hs1, ht1, fun v d H17 R17 D17 Z17 P17 C17 => ?_⟩
        walk_at "sts"
        refine ⟨side, top, v, d, rfl, hs, ht, RD.same (Hx_same p H17) _ _ R17, D17, Z17, fun H18 S18 => ?_⟩
        walk_at "sts"
        exact ⟨pur_same P17 S18, C15.trans (C16.trans (C17.trans (Chg.of_same S18))), _, rfl⟩
      · rintro σ H15 ⟨P15, C15, x9, rfl⟩
        exact ⟨C15.at_ hL14 nLp, _, _, _, _, _, _, _, _, _, rfl⟩
  · rintro σ H1 ⟨hL, x1, x2, x3, x4, x5, x6, x7, x8, x9, rfl⟩
    walk_at "sts"
    exact q _
end

end My
open PySem PySem.W PyProof.Rows
set_option maxRecDepth 100000 in
set_option maxHeartbeats 0 in
theorem PySem.Challenge.cw_panethread_k05_threads_told_and_spoilt_holds : PySem.Challenge.rw_panethread_k05_threads_told_and_spoilt.Holds := by
  w_on; o_law; k_head; (case hw => w_witness2)
  k_fill
  refine L2.walkJ (l := PySem.Challenge.rw_panethread_k05_threads_told_and_spoilt) (st := My.s_law) (k := 9) (x := "_law_script") (sp := My.spLaw) rfl rfl rfl ⟨rfl, by decide, by decide, rfl⟩ (fun w h Y => PySem.W.kIn_of Y) (fun _ _ _ _ _ _ us hl => match us, hl with | [_], _ => rfl) ?F (fun K H a ns hl hS => ⟨a, ns, rfl, hS, hl, fun _ => rfl⟩)
  case F =>
    intro w mg h KX G
    have b_all : mg "all" = none := by
      refine' PySem.W.mg_none_of KX G ?a
      (case a => k_is)
    have b_bool : mg "bool" = none := by
      refine' PySem.W.mg_none_of KX G ?a
      (case a => k_is)
    have b_enumerate : mg "enumerate" = none := by
      refine' PySem.W.mg_none_of KX G ?a
      (case a => k_is)
    have b_int : mg "int" = none := by
      refine' PySem.W.mg_none_of KX G ?a
      (case a => k_is)
    have b_isinstance : mg "isinstance" = none := by
      refine' PySem.W.mg_none_of KX G ?a
      (case a => k_is)
    have b_len : mg "len" = none := by
      refine' PySem.W.mg_none_of KX G ?a
      (case a => k_is)
    have b_list : mg "list" = none := by
      refine' PySem.W.mg_none_of KX G ?a
      (case a => k_is)
    have b_max : mg "max" = none := by
      refine' PySem.W.mg_none_of KX G ?a
      (case a => k_is)
    have b_range : mg "range" = none := by
      refine' PySem.W.mg_none_of KX G ?a
      (case a => k_is)
    have b_repr : mg "repr" = none := by
      refine' PySem.W.mg_none_of KX G ?a
      (case a => k_is)
    have b_reversed : mg "reversed" = none := by
      refine' PySem.W.mg_none_of KX G ?a
      (case a => k_is)
    have b_str : mg "str" = none := by
      refine' PySem.W.mg_none_of KX G ?a
      (case a => k_is)
    have b_tuple : mg "tuple" = none := by
      refine' PySem.W.mg_none_of KX G ?a
      (case a => k_is)
    have c_LETTERS : ∃ t, mg "LETTERS" = some (.str "abcdefghijklmnopqrstuvwxyz" t) := by
      refine' L2.const_mk KX G ?a ?h
      (case a => k_is); (case h => exact ⟨_, by with_unfolding_all rfl⟩)
    have c_MOST_SIGNS : ∃ t, mg "MOST_SIGNS" = some (.int 48 t) := by
      refine' L2.const_mk KX G ?a ?h
      (case a => k_is); (case h => exact ⟨_, by with_unfolding_all rfl⟩)
    have c_POINT : ∃ t, mg "POINT" = some (.str "." t) := by
      refine' L2.const_mk KX G ?a ?h
      (case a => k_is); (case h => exact ⟨_, by with_unfolding_all rfl⟩)
    have d_is_number : L2.Def (L2.KOf KX) mg "is_number" My.s_is_number := by
      dsimp only [L2.KOf]
      refine' L2.def_mk KX G ?a ?l ?c ?k
      (case a => k_is); (case l => k_is); (case c => k_is); (case k => k_is)
    have d_is_pair : L2.Def (L2.KOf KX) mg "is_pair" My.s_is_pair := by
      dsimp only [L2.KOf]
      refine' L2.def_mk KX G ?a ?l ?c ?k
      (case a => k_is); (case l => k_is); (case c => k_is); (case k => k_is)
    have d_is_row : L2.Def (L2.KOf KX) mg "is_row" My.s_is_row := by
      dsimp only [L2.KOf]
      refine' L2.def_mk KX G ?a ?l ?c ?k
      (case a => k_is); (case l => k_is); (case c => k_is); (case k => k_is)
    have d_need_row : L2.Def (L2.KOf KX) mg "need_row" My.s_need_row := by
      dsimp only [L2.KOf]
      refine' L2.def_mk KX G ?a ?l ?c ?k
      (case a => k_is); (case l => k_is); (case c => k_is); (case k => k_is)
    have d_need_rows : L2.Def (L2.KOf KX) mg "need_rows" My.s_need_rows := by
      dsimp only [L2.KOf]
      refine' L2.def_mk KX G ?a ?l ?c ?k
      (case a => k_is); (case l => k_is); (case c => k_is); (case k => k_is)
    have d_lengths_below : L2.Def (L2.KOf KX) mg "lengths_below" My.s_lengths_below := by
      dsimp only [L2.KOf]
      refine' L2.def_mk KX G ?a ?l ?c ?k
      (case a => k_is); (case l => k_is); (case c => k_is); (case k => k_is)
    have d_lengths : L2.Def (L2.KOf KX) mg "lengths" My.s_lengths := by
      dsimp only [L2.KOf]
      refine' L2.def_mk KX G ?a ?l ?c ?k
      (case a => k_is); (case l => k_is); (case c => k_is); (case k => k_is)
    have d_thread_of : L2.Def (L2.KOf KX) mg "thread_of" My.s_thread_of := by
      dsimp only [L2.KOf]
      refine' L2.def_mk KX G ?a ?l ?c ?k
      (case a => k_is); (case l => k_is); (case c => k_is); (case k => k_is)
    have d_is_match : L2.Def (L2.KOf KX) mg "is_match" My.s_is_match := by
      dsimp only [L2.KOf]
      refine' L2.def_mk KX G ?a ?l ?c ?k
      (case a => k_is); (case l => k_is); (case c => k_is); (case k => k_is)
    have d_is_ahead : L2.Def (L2.KOf KX) mg "is_ahead" My.s_is_ahead := by
      dsimp only [L2.KOf]
      refine' L2.def_mk KX G ?a ?l ?c ?k
      (case a => k_is); (case l => k_is); (case c => k_is); (case k => k_is)
    have d_is_thread : L2.Def (L2.KOf KX) mg "is_thread" My.s_is_thread := by
      dsimp only [L2.KOf]
      refine' L2.def_mk KX G ?a ?l ?c ?k
      (case a => k_is); (case l => k_is); (case c => k_is); (case k => k_is)
    have d_said : L2.Def (L2.KOf KX) mg "said" My.s_said := by
      dsimp only [L2.KOf]
      refine' L2.def_mk KX G ?a ?l ?c ?k
      (case a => k_is); (case l => k_is); (case c => k_is); (case k => k_is)
    have d_law_cell : L2.Def (L2.KOf KX) mg "_law_cell" My.s_law_cell := by
      dsimp only [L2.KOf]
      refine' L2.def_mk KX G ?a ?l ?c ?k
      (case a => k_is); (case l => k_is); (case c => k_is); (case k => k_is)
    have d_law_purse : L2.Def (L2.KOf KX) mg "_law_purse" My.s_law_purse := by
      dsimp only [L2.KOf]
      refine' L2.def_mk KX G ?a ?l ?c ?k
      (case a => k_is); (case l => k_is); (case c => k_is); (case k => k_is)
    have d_law_take : L2.Def (L2.KOf KX) mg "_law_take" My.s_law_take := by
      dsimp only [L2.KOf]
      refine' L2.def_mk KX G ?a ?l ?c ?k
      (case a => k_is); (case l => k_is); (case c => k_is); (case k => k_is)
    have d_law_letters : L2.Def (L2.KOf KX) mg "_law_letters" My.s_law_letters := by
      dsimp only [L2.KOf]
      refine' L2.def_mk KX G ?a ?l ?c ?k
      (case a => k_is); (case l => k_is); (case c => k_is); (case k => k_is)
    have d_law_drawn : L2.Def (L2.KOf KX) mg "_law_drawn" My.s_law_drawn := by
      dsimp only [L2.KOf]
      refine' L2.def_mk KX G ?a ?l ?c ?k
      (case a => k_is); (case l => k_is); (case c => k_is); (case k => k_is)
    have d_law_row : L2.Def (L2.KOf KX) mg "_law_row" My.s_law_row := by
      dsimp only [L2.KOf]
      refine' L2.def_mk KX G ?a ?l ?c ?k
      (case a => k_is); (case l => k_is); (case c => k_is); (case k => k_is)
    have d_law_longest : L2.Def (L2.KOf KX) mg "_law_longest" My.s_law_longest := by
      dsimp only [L2.KOf]
      refine' L2.def_mk KX G ?a ?l ?c ?k
      (case a => k_is); (case l => k_is); (case c => k_is); (case k => k_is)
    have d_law_whole : L2.Def (L2.KOf KX) mg "_law_whole" My.s_law_whole := by
      dsimp only [L2.KOf]
      refine' L2.def_mk KX G ?a ?l ?c ?k
      (case a => k_is); (case l => k_is); (case c => k_is); (case k => k_is)
    have d_law_reads : L2.Def (L2.KOf KX) mg "_law_reads" My.s_law_reads := by
      dsimp only [L2.KOf]
      refine' L2.def_mk KX G ?a ?l ?c ?k
      (case a => k_is); (case l => k_is); (case c => k_is); (case k => k_is)
    have d_law_pair : L2.Def (L2.KOf KX) mg "_law_pair" My.s_law_pair := by
      dsimp only [L2.KOf]
      refine' L2.def_mk KX G ?a ?l ?c ?k
      (case a => k_is); (case l => k_is); (case c => k_is); (case k => k_is)
    have d_law_spoilt : L2.Def (L2.KOf KX) mg "_law_spoilt" My.s_law_spoilt := by
      dsimp only [L2.KOf]
      refine' L2.def_mk KX G ?a ?l ?c ?k
      (case a => k_is); (case l => k_is); (case c => k_is); (case k => k_is)
    have d_law_said : L2.Def (L2.KOf KX) mg "_law_said" My.s_law_said := by
      dsimp only [L2.KOf]
      refine' L2.def_mk KX G ?a ?l ?c ?k
      (case a => k_is); (case l => k_is); (case c => k_is); (case k => k_is)
    have d_law_right : L2.Def (L2.KOf KX) mg "_law_right" My.s_law_right := by
      dsimp only [L2.KOf]
      refine' L2.def_mk KX G ?a ?l ?c ?k
      (case a => k_is); (case l => k_is); (case c => k_is); (case k => k_is)
    have d_law : L2.Def (L2.KOf KX) mg "law" My.s_law := by
      dsimp only [L2.KOf]
      refine' L2.def_mk KX G ?a ?l ?c ?k
      (case a => k_is); (case l => k_is); (case c => k_is); (case k => k_is)
    have x_PaneError : L2.CTxt (L2.KOf KX) mg "PaneError" := by
      dsimp only [L2.KOf]
      refine' L2.ct_mk KX G ?a ?b
      (case a => k_is); (case b => kernel_rfl)
    have x_NoRow : L2.XTxt (L2.KOf KX) mg "NoRow" ["found"] "NoRow.__init__" My.i_NoRow := by
      dsimp only [L2.KOf]
      refine' L2.xt_mk KX G ?a ?b ?kp ?na ?i ?t ?l ?c ?k
      (case a => k_is); (case b => kernel_rfl); (case kp => k_is); (case na => kernel_rfl); (case i => k_is); (case t => k_is); (case l => k_is); (case c => k_is); (case k => k_is)
    have x_NoThread : L2.XTxt (L2.KOf KX) mg "NoThread" ["found"] "NoThread.__init__" My.i_NoThread := by
      dsimp only [L2.KOf]
      refine' L2.xt_mk KX G ?a ?b ?kp ?na ?i ?t ?l ?c ?k
      (case a => k_is); (case b => kernel_rfl); (case kp => k_is); (case na => kernel_rfl); (case i => k_is); (case t => k_is); (case l => k_is); (case c => k_is); (case k => k_is)
    have u_NoRow_PaneError : L2.Sub (L2.KOf KX) mg "NoRow" "PaneError" true := by
      dsimp only [L2.KOf]
      refine' L2.sub_mk KX G ?a ?b ?m ?o
      (case a => k_is); (case b => k_is); (case m => k_is); (case o => kernel_rfl)
    have u_NoRow_NoThread : L2.Sub (L2.KOf KX) mg "NoRow" "NoThread" false := by
      dsimp only [L2.KOf]
      refine' L2.sub_mk KX G ?a ?b ?m ?o
      (case a => k_is); (case b => k_is); (case m => k_is); (case o => kernel_rfl)
    have u_NoThread_PaneError : L2.Sub (L2.KOf KX) mg "NoThread" "PaneError" true := by
      dsimp only [L2.KOf]
      refine' L2.sub_mk KX G ?a ?b ?m ?o
      (case a => k_is); (case b => k_is); (case m => k_is); (case o => kernel_rfl)
    have u_NoThread_NoThread : L2.Sub (L2.KOf KX) mg "NoThread" "NoThread" true := by
      dsimp only [L2.KOf]
      refine' L2.sub_mk KX G ?a ?b ?m ?o
      (case a => k_is); (case b => k_is); (case m => k_is); (case o => kernel_rfl)
    exact ⟨d_law, fun base f fd F => My.ok_law ⟨b_all, b_bool, b_enumerate, b_int, b_isinstance, b_len, b_list, b_max, b_range, b_repr, b_reversed, b_str, b_tuple, c_LETTERS, c_MOST_SIGNS, c_POINT, d_is_number, d_is_pair, d_is_row, d_need_row, d_need_rows, d_lengths_below, d_lengths, d_thread_of, d_is_match, d_is_ahead, d_is_thread, d_said, d_law_cell, d_law_purse, d_law_take, d_law_letters, d_law_drawn, d_law_row, d_law_longest, d_law_whole, d_law_reads, d_law_pair, d_law_spoilt, d_law_said, d_law_right, d_law, x_PaneError, x_NoRow, x_NoThread, u_NoRow_PaneError, u_NoRow_NoThread, u_NoThread_PaneError, u_NoThread_NoThread⟩ F⟩
