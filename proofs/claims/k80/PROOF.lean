import PyProof.Rows.All
import Wide.All
import OpenK.AllK
import Wide.FinOn
import Lean
import PyProof.EqAt
import PyProof.EqKinds
import PyProof.TupleCall
import PyProof.ReprRoads
import KE.KSortTup
import KE.KDictList
import KE.KMinKey
import KE.KIntText
import KE.KLam
import KE.KNestM
import PySem.Challenge.RW_panethread_k80_said_twice
noncomputable section
abbrev Wl:=@PySem.wpAny_bind
abbrev Wm:=@List.getElem?_eq_some_iff
abbrev Wn:=@List.getElem?_eq_getElem
abbrev Wo:=@List.getElem?_map
abbrev Wq:=@Nat.le_refl
abbrev Wr:=@PySem.Heap.get?_push_of_some
abbrev Ws:=@List.length_map
abbrev Wt:=@PySem.wpAny_pure
abbrev Wu:=@List.getD_eq_getElem?_getD
abbrev Wv:=@PySem.F.plainAttrs_list
abbrev Ww:=@PySem.Heap.get?_push_size
abbrev Wx:=@PySem.Heap.lt_size
abbrev Wy:=@PySem.F.slot_list_append
abbrev Wz:=@PySem.F.type_list_append
abbrev WD:=@List.mem_cons
abbrev WF:=@Bool.false_ne_true
abbrev WK:=@Nat.lt_of_lt_of_le
abbrev WL:=@List.mem_cons_of_mem
abbrev WM:=@List.getElem?_append_left
abbrev WN:=@List.getElem?_append_right
abbrev WP:=@List.mem_singleton
abbrev WQ:=@List.size_toArray
abbrev WR:=@Option.some.inj
abbrev WT:=@List.map_append
abbrev WW:=@List.mem_of_getElem?
abbrev WX:=@Bool.and_eq_true
abbrev WY:=@Nat.le_trans
abbrev W0:=@decide_eq_true
abbrev W2:=@decide_eq_false
abbrev Xa:=@PySem.PassesOwn.never
abbrev Xb:=@List.mem_nil_iff
abbrev Xc:=@Nat.ne_of_lt
abbrev Xd:=@List.getElem?_range
abbrev Xe:=@List.mem_range
abbrev Xf:=@List.mem_cons_self
abbrev Xg:=@List.mem_map
abbrev Xh:=@List.map_cons
abbrev Xi:=@List.mem_append
abbrev Xj:=@List.lookup_cons
abbrev Xk:=@PySem.W.mg_none_of
abbrev Xl:=@List.length_append
abbrev Xm:=@Option.map_eq_some_iff
abbrev Xn:=@List.mem_append_right
abbrev Xo:=@PyProof.Rows.callWith_type1
abbrev Xp:=@Array.length_toList
abbrev Xq:=@List.take_of_length_le
abbrev Xr:=@PySem.wpAny_mono
abbrev Xu:=@PySem.wpAny_field
abbrev Xv:=@List.all_cons
abbrev Xw:=@PySem.mem_of_lookup
abbrev Xx:=@Nat.zero_le
abbrev Xy:=@List.length_cons
abbrev Xz:=@List.range_succ
abbrev XD:=@PySem.wpAny_callSpecial?_slot
abbrev XF:=@List.getElem?_set_ne
abbrev XH:=@PySem.Heap.size_push
abbrev XJ:=@PySem.wpAny_newObj_type
abbrev XM:=@PySem.Heap.get?_update_self
abbrev XN:=@List.getElem?_eq_none
abbrev XQ:=@List.append_nil
abbrev XR:=@List.mem_iff_getElem
abbrev XS:=@List.getElem?_set_self
abbrev XX:=@PySem.wpAny_Call_Name_kw
abbrev X3:=@PySem.W.kia_one
abbrev X4:=@Nat.lt_irrefl
abbrev X5:=@PySem.wpAny_holding
abbrev X6:=@Nat.sub_self
abbrev X7:=@PySem.wpAny_call_entry
abbrev X8:=@PySem.Heap.get?_update_other
abbrev Yb:=@List.getElem_mem
abbrev Yc:=@Array.getElem?_eq_getElem
abbrev Yd:=@PySem.wpAny_truthy_bool
abbrev Ye:=@List.flatten_cons
abbrev Yg:=@PySem.wpAny_loadPart_at
abbrev Yh:=@PySem.Obj.data_mapFields
abbrev Yi:=@List.contains_cons
abbrev Yj:=@PySem.W.looks_findIn
abbrev Yk:=@List.length_take
abbrev Yl:=@List.all_eq_true
abbrev Ym:=@Array.getD_eq_getD_getElem?
abbrev Yn:=@Nat.ne_of_gt
abbrev Yo:=@List.append_assoc
abbrev Yp:=@List.take_add_one
abbrev Yq:=@List.replicate_succ
abbrev Yr:=@PySem.wpAny_of_eq
abbrev Ys:=@PyProof.Rows.slot_tuple_getitem
abbrev Yt:=@List.pairwise_iff_getElem
abbrev Yu:=@PySem.builtinLookup_eq_fast
abbrev Yv:=@beq_iff_eq
abbrev Yw:=@PySem.W.mg_of
abbrev Yx:=@List.map_map
abbrev Yy:=@PySem.wpAny_pyIter_revIter
abbrev Yz:=@PySem.wpAny_getItem_str_slice
abbrev YB:=@List.nodup_append
abbrev YC:=@List.count_append
abbrev YD:=@beq_eq_false_iff_ne
abbrev YF:=@List.filterMap_cons
abbrev YG:=@List.map_congr_left
abbrev YH:=@List.length_reverse
abbrev YJ:=@PySem.wpAny_attempt
abbrev YK:=@PySem.W.callWith_K
abbrev YL:=@PySem.Obj.isFreed_of_fields
abbrev YM:=@List.length_filter_le
abbrev YQ:=@PySem.wpAny_passesOwn
abbrev YS:=@List.mem_append_left
abbrev YT:=@Nat.le_of_succ_le
abbrev YW:=@PySem.wpAny_isSubtype_exc
abbrev YX:=@PySem.Heap.SameBut.update
abbrev YZ:=@Nat.lt_succ_self
abbrev Y0:=@List.length_drop
abbrev Y4:=@PySem.wpAny_seqItems
abbrev Y5:=@PySem.wpAny_setField
abbrev Y6:=@Nat.mul_le_mul
abbrev Y7:=@List.getElem?_drop
abbrev Y8:=@PySem.wpAny_setField_rec
abbrev Y9:=@Bool.eq_iff_iff
abbrev Za:=@List.find?_cons
abbrev Zb:=@PySem.typeLookup_type
abbrev Zc:=@PySem.wpAny_pyIter_enum
abbrev Zd:=@List.ext_getElem?
abbrev Ze:=@List.pairwise_map
abbrev Zf:=@PySem.wpAny_loadPart
abbrev Zg:=@PySem.wpAny_call
abbrev Zh:=@PySem.isSubtype_type
abbrev Zi:=@PySem.codeAny_call_builtin
abbrev Zj:=@Bool.or_eq_false_iff
abbrev Zk:=@PySem.wpAny_isInstance
local macro_rules | `(tactic| trivial) => `(tactic| decide +kernel)
set_option compiler.extract_closed false
set_option Elab.async false
set_option linter.all false
set_option maxRecDepth 100000
namespace L2
@[elab_as_elim] theorem p7 {p:List PySem.Value->Prop} (h:∀ a0:PySem.Value,p [a0]) (us:List PySem.Value) (hl:us.length=1):p us:=by
 rcases us with _ | ⟨a0,us0⟩
 ·cases hl
 rcases us0 with _ | ⟨b,us⟩
 ·exact h a0
 ·cases hl
@[elab_as_elim] theorem kW {p:List PySem.Value->Prop} (h:∀ a0 a1:PySem.Value,p [a0,a1]) (us:List PySem.Value) (hl:us.length=2):p us:=by
 rcases us with _ | ⟨a0,us0⟩
 ·cases hl
 rcases us0 with _ | ⟨a1,us1⟩
 ·cases hl
 rcases us1 with _ | ⟨b,us⟩
 ·exact h a0 a1
 ·cases hl
@[elab_as_elim] theorem pN {p:List PySem.Value->Prop} (h:∀ a0 a1 a2:PySem.Value,p [a0,a1,a2]) (us:List PySem.Value) (hl:us.length=3):p us:=by
 rcases us with _ | ⟨a0,us0⟩
 ·cases hl
 rcases us0 with _ | ⟨a1,us1⟩
 ·cases hl
 rcases us1 with _ | ⟨a2,us2⟩
 ·cases hl
 rcases us2 with _ | ⟨b,us⟩
 ·exact h a0 a1 a2
 ·cases hl
@[elab_as_elim] theorem usN4 {p:List PySem.Value->Prop} (h:∀ a0 a1 a2 a3:PySem.Value,p [a0,a1,a2,a3]) (us:List PySem.Value) (hl:us.length=4):p us:=by
 rcases us with _ | ⟨a0,us0⟩
 ·cases hl
 rcases us0 with _ | ⟨a1,us1⟩
 ·cases hl
 rcases us1 with _ | ⟨a2,us2⟩
 ·cases hl
 rcases us2 with _ | ⟨a3,us3⟩
 ·cases hl
 rcases us3 with _ | ⟨b,us⟩
 ·exact h a0 a1 a2 a3
 ·cases hl
@[elab_as_elim] theorem usN5 {p:List PySem.Value->Prop} (h:∀ a0 a1 a2 a3 a4:PySem.Value,p [a0,a1,a2,a3,a4]) (us:List PySem.Value) (hl:us.length=5):p us:=by
 rcases us with _ | ⟨a0,us0⟩
 ·cases hl
 rcases us0 with _ | ⟨a1,us1⟩
 ·cases hl
 rcases us1 with _ | ⟨a2,us2⟩
 ·cases hl
 rcases us2 with _ | ⟨a3,us3⟩
 ·cases hl
 rcases us3 with _ | ⟨a4,us4⟩
 ·cases hl
 rcases us4 with _ | ⟨b,us⟩
 ·exact h a0 a1 a2 a3 a4
 ·cases hl
@[elab_as_elim] theorem usN6 {p:List PySem.Value->Prop} (h:∀ a0 a1 a2 a3 a4 a5:PySem.Value,p [a0,a1,a2,a3,a4,a5]) (us:List PySem.Value) (hl:us.length=6):p us:=by
 rcases us with _ | ⟨a0,us0⟩
 ·cases hl
 rcases us0 with _ | ⟨a1,us1⟩
 ·cases hl
 rcases us1 with _ | ⟨a2,us2⟩
 ·cases hl
 rcases us2 with _ | ⟨a3,us3⟩
 ·cases hl
 rcases us3 with _ | ⟨a4,us4⟩
 ·cases hl
 rcases us4 with _ | ⟨a5,us5⟩
 ·cases hl
 rcases us5 with _ | ⟨b,us⟩
 ·exact h a0 a1 a2 a3 a4 a5
 ·cases hl
theorem auto1 (h:True:=by first | exact .inl rfl | exact .inr rfl | assumption):True:=h
theorem auto2 (h:True:=by decide):True:=h
theorem auto3 (h:True:=by intro _;rfl):True:=h
theorem auto4 (h:True:=by rfl):True:=h
theorem auto5 (h:True:=by with_unfolding_all rfl):True:=h
theorem auto6 (h:True:=by trivial):True:=h
theorem auto7 (h:True:=by kernel_rfl):True:=h
open PySem PySem.Spec PyProof.Rows
abbrev Key:=Sum Int Str
def wK:Key->Value->Bool
 | .inl k,v=>Value.isInt k v
 | .inr x,v=>Value.isStrOf x v
def keyH (w:World):Key->Int
 | .inl k=>hashInt k
 | .inr x=>hashStr w x
theorem dX:∀ {k:Key} {v:Value},wK k v=true->(∃ i t,k=Sum.inl i/\v=Value.int i t)\/(∃ x t,k=Sum.inr x/\v=Value.str x t)
 | .inl i,v,h=>by
  obtain ⟨t,e⟩:=Value.isInt_shape (k:=i) (v:=v) h
  exact .inl ⟨i,t,rfl,e⟩
 | .inr x,v,h=>by
  obtain ⟨t,e⟩:=Value.isStrOf_shape (x:=x) (v:=v) h
  exact .inr ⟨x,t,rfl,e⟩
theorem Er (i:Int) (t:Tok):wK (.inl i) (.int i t)=true:=by simp [wK,Value.isInt]
theorem Es (x:Str) (t:Tok):wK (.inr x) (.str x t)=true:=by simp [wK,Value.isStrOf]
theorem PK (a b:Int):decide ((Sum.inl a:Key)=Sum.inl b)=(a == b):=by
 by_cases e:a=b
 ·subst e;simp
 ·have h:¬ (Sum.inl a:Key)=Sum.inl b:=fun q=>e (Sum.inl.inj q)
  rw [W2 h]
  exact (YD.mpr e).symm
theorem PN (a b:Str):decide ((Sum.inr a:Key)=Sum.inr b)=decide (a=b):=by
 by_cases e:a=b
 ·subst e;simp
 ·have h:¬ (Sum.inr a:Key)=Sum.inr b:=fun q=>e (Sum.inr.inj q)
  rw [W2 h,W2 e]
theorem PQ (a:Int) (b:Str):decide ((Sum.inl a:Key)=Sum.inr b)=false:=W2 (fun q=>nomatch q)
theorem PX (a:Str) (b:Int):decide ((Sum.inr a:Key)=Sum.inl b)=false:=W2 (fun q=>nomatch q)
def dY (prog:Program) (w:World):PySem.KeyKind prog w Key where
 is:=wK
 hash:=keyH w
 inj:=fun v a b ha hb=>by
  rcases dX ha with ⟨i,t,rfl,rfl⟩ | ⟨x,t,rfl,rfl⟩
  ·rcases dX hb with ⟨j,u,rfl,e⟩ | ⟨y,u,rfl,e⟩
   ·injection e with e1 _;rw [e1]
   ·exact nomatch e
  ·rcases dX hb with ⟨j,u,rfl,e⟩ | ⟨y,u,rfl,e⟩
   ·exact nomatch e
   ·injection e with e1 _;rw [e1]
 byValue:=fun k v h=>by
  rcases dX h with ⟨i,t,rfl,rfl⟩ | ⟨x,t,rfl,rfl⟩ <;> rfl
 pyHash:=fun hv h=>by
  rcases dX hv with ⟨i,t,rfl,rfl⟩ | ⟨x,t,rfl,rfl⟩
  ·exact wpAny_pyHash_int h
  ·exact wpAny_pyHash_str h
 eqBool:=fun hu hv h=>by
  rcases dX hu with ⟨i,t,rfl,rfl⟩ | ⟨x,t,rfl,rfl⟩
  ·rcases dX hv with ⟨j,u,rfl,rfl⟩ | ⟨y,u,rfl,rfl⟩
   ·rw [PK] at h;exact wpAny_eqBool_int h
   ·rw [PQ] at h;exact SeqAt.EqAt.int_str i t y u _ _ _ _ h
  ·rcases dX hv with ⟨j,u,rfl,rfl⟩ | ⟨y,u,rfl,rfl⟩
   ·rw [PX] at h;exact SeqAt.EqAt.str_int x t j u _ _ _ _ h
   ·rw [PN] at h;exact wpAny_eqBool_str h
 «strs»:=fun k x t v h=>by
  rcases dX h with ⟨i,u,rfl,e⟩ | ⟨y,u,rfl,e⟩
  ·exact nomatch e
  ·injection e with e1 _
   subst e1
   cases v <;> rfl
theorem yZ (prog:Program) (w:World) (i:Int) (t:Tok):(dY prog w).is (.inl i) (.int i t)=true:=Er i t
theorem za (prog:Program) (w:World) (x:Str) (t:Tok):(dY prog w).is (.inr x) (.str x t)=true:=Es x t
end L2
namespace L2
open PySem PySem.Spec PyProof.Rows
inductive V where
 | non | bl (b:Bool) | int (i:Int) | str (x:Str) | byt (b:Array UInt8) | flt (b:UInt64) | ref (a:Addr) | ty (n:String)
 deriving DecidableEq
def RelV:V->Value->Prop
 | .non,u=>u=Value.none
 | .bl b,u=>u=Value.bool b
 | .int i,u=>∃ t,u=Value.int i t
 | .str x,u=>∃ t,u=Value.str x t
 | .byt b,u=>∃ t,u=Value.bytes b t
 | .flt b,u=>∃ t,u=Value.float b t
 | .ref a,u=>u=Value.ref a
 | .ty n,u=>u=Value.type n
abbrev Vals:List V->List Value->Prop:=Paired RelV
theorem Vals.length {xs:List V} {us:List Value} (r:Vals xs us):xs.length=us.length:=Paired.length r
theorem Vals.get:∀ {xs:List V} {us:List Value} {i:Nat} {x:V},Vals xs us->xs[i]?=some x->∃ u,us[i]?=some u/\RelV x u
 | _,_,_,_,.nil,e=>by simp at e
 | _,_,0,_,.cons r _,e=>by simp at e;subst e;exact ⟨_,rfl,r⟩
 | _,_,i+1,x,.cons _ t,e=>by
  obtain ⟨u,h1,h2⟩:=Vals.get (i:=i) (x:=x) t (by simpa using e)
  exact ⟨u,by simpa using h1,h2⟩
theorem Vals.set {x:V} {u:Value} (r:RelV x u):∀ {xs:List V} {us:List Value} (i:Nat),Vals xs us->Vals (xs.set i x) (us.set i u)
 | _,_,_,.nil=>.nil
 | _,_,0,.cons _ t=>.cons r t
 | _,_,i+1,.cons q t=>.cons q (Vals.set r i t)
theorem Vals.append:∀ {xs ys:List V} {us ws:List Value},Vals xs us->Vals ys ws->Vals (xs ++ ys) (us ++ ws)
 | _,_,_,_,.nil,s=>s
 | _,_,_,_,.cons r t,s=>.cons r (Vals.append t s)
theorem Vals.take:∀ {xs:List V} {us:List Value} (n:Nat),Vals xs us->Vals (xs.take n) (us.take n)
 | _,_,0,_=>.nil
 | _,_,_+1,.nil=>.nil
 | _,_,n+1,.cons r t=>.cons r (Vals.take n t)
theorem Vals.drop:∀ {xs:List V} {us:List Value} (n:Nat),Vals xs us->Vals (xs.drop n) (us.drop n)
 | _,_,0,r=>r
 | _,_,_+1,.nil=>.nil
 | _,_,n+1,.cons _ t=>Vals.drop n t
def RelO:Option V->Option Value->Prop
 | some v,some u=>RelV v u
 | none,none=>True
 | _,_=>False
def KV {κ:Type}:List (κ×V)->List (κ×Value)->Prop:=Paired fun (p:κ×V) (q:κ×Value)=>p.1=q.1/\RelV p.2 q.2
def kV:Key->V
 | .inl i=>.int i
 | .inr x=>.str x
inductive HO where
 /-- a list -/
 | lst (xs:List V)
 /-- a tuple (never changes) -/
 | tup (xs:List V)
 /-- a dict whose keys are ints and texts;one whose keys are tuples of ints and texts (the empty one is both) -/
 | dK (kvs:List (Key×V)) | dT (kvs:List (List Key×V))
 /-- a set of ints:its members,its size -/
 | set (S:Int->Bool) (n:Nat)
 /-- an instance of the class at C,its dict at dx,its attributes -/
 | ins (C dx:Addr) (fs:List (Str×V))
 /-- the dict of the instance at x -/
 | own (x:Addr)
 /-- the dict of an exception -/
 | xd (fs:List (Str×V))
 /-- a bound method,f of x -/
 | met (f x:Addr)
 /-- a range object lo,lo+1,.. below hi -/
 | rng (lo hi:Int)
 /-- a thing that is known to the object (the script;a dict while a loop walks it):read,never written while it is so -/
 | frz (o:Obj) (u:HO)
 /-- a code object's table -/
 | tbl (ps:Array Value)
 /-- any other thing,by what is true of its one object (a def of one's own:SetO a S n:=HO.ext fun h=>..) -/
 | ext (φ:Heap->Prop)
abbrev Hp:=Addr->Option HO
def upd (H:Hp) (a:Addr) (o:HO):Hp:=fun b=>if b=a then some o else H b
theorem aj {H:Hp} {a:Addr} {o:HO}:upd H a o a=some o:=by unfold upd;rw [if_pos rfl]
theorem aB {H:Hp} {a b:Addr} {o:HO} (h:b≠a):upd H a o b=H b:=by unfold upd;rw [if_neg h]
theorem T4 {H:Hp} {a b:Addr} {o u:HO} (h:H a=some o) (h':H b=some u) (d:o≠u):a≠b:=by
 intro e;subst e;rw [h] at h';exact d (WR h')
theorem jX {H:Hp} {a b:Addr} {o:HO} (h:H a=some o) (h':H b=none):a≠b:=by
 intro e;subst e;rw [h] at h';cases h'
section
variable (P:Program) (w:World)
def ObjOk (H:Hp) (h:Heap) (a:Addr):HO->Prop
 | .lst xs=>xs.length<=sizeLine/\∃ (its:List Value) (n:Nat),Vals xs its/\h.get? a=some {cls:=.type "list",data:=.seq its.toArray n}
 | .tup xs=>xs.length<=sizeLine/\∃ its:List Value,Vals xs its/\IsTup h a its.toArray
 | .dK kvs=>kvs.length<=sizeLine/\(a == sysModules)=false/\∃ vs,KV kvs vs/\h.DictOf (dY P w) a vs
 | .dT kvs=>kvs.length<=sizeLine/\(a == sysModules)=false/\∃ xs:List (List Key×Addr×Value),
   Paired (fun (p:List Key×V) (q:List Key×Addr×Value)=>p.1=q.1/\H q.2.1=some (.tup (p.1.map kV))/\RelV p.2 q.2.2) kvs xs/\
   ∃ o es ep,h.get? a=some o/\o.ExactDict/\o.data= .dict es ep/\es.toList=xs.map (entryOfKey (tupleKind (dY P w)))/\(xs.map (·.1)).Nodup
 | .set S n=>h.SetOf (intKind P w) a S n
 | .ins C dx fs=>H dx=some (.own a)/\fs.length<=1000/\dx≠a/\h.get? a=some (PySem.W.instObj C dx)/\
   ∃ mA,h.Ns1 dx mA/\(∀ f,RelO (fs.lookup f) (mA f))/\PySem.Within mA (fs.map (·.1))
 | .own _=>∃ o,h.get? a=some o
 | .xd fs=>∃ mA,h.Ns1 a mA/\∀ f,RelO (fs.lookup f) (mA f)
 | .rng lo hi=>∃ t u v,h.get? a=some {cls:=.type "range",data:=.fields #[.int lo t,.int hi u,.int 1 v]}
 | .frz o u=>h.get? a=some o/\ObjOk H h a u
 | .tbl ps=>h.get? a=some {cls:=.none,data:=.fields ps}
 | .met f x=>h.get? a=some (PySem.W.methodObj (.ref f) (.ref x))
 | .ext φ=>φ h/\(∃ o,h.get? a=some o)/\∀ h1 h2:Heap,φ h1->(∀ o,h1.get? a=some o->h2.get? a=some o)->φ h2
def HOk (H:Hp) (h:Heap):Prop:=∀ a o,H a=some o->ObjOk P w H h a o
end
section
variable {P:Program} {w:World} {H H':Hp} {h h':Heap} {a:Addr} {o:HO}
theorem ObjOk.lt (x:ObjOk P w H h a o):a < h.objs.size:=by
 cases o with
 | lst xs=>obtain ⟨_,_,_,_,e⟩:=x;exact Wx e
 | tup xs=>obtain ⟨_,_,_,p⟩:=x;exact p.lt
 | dK kvs=>obtain ⟨_,_,_,_,o,_,_,e,_⟩:=x;exact Wx e
 | dT kvs=>obtain ⟨_,_,_,_,o,_,_,e,_⟩:=x;exact Wx e
 | set S n=>obtain ⟨o,_,_,_,e,_⟩:=x;exact Wx e
 | ins C dx fs=>obtain ⟨_,_,_,e,_⟩:=x;exact Wx e
 | own y=>obtain ⟨_,e⟩:=x;exact Wx e
 | xd fs=>obtain ⟨_,⟨_,_,_,e,_⟩,_⟩:=x;exact Wx e
 | rng lo hi=>obtain ⟨_,_,_,e⟩:=x;exact Wx e
 | frz ob u=>obtain ⟨e,_⟩:=x;exact Wx e
 | tbl ps=>exact Wx (show h.get? a=some _ from x)
 | met f y=>exact Wx (show h.get? a=some _ from x)
 | ext φ=>obtain ⟨_,⟨_,e⟩,_⟩:=x;exact Wx e
theorem Paired.mapP {α β:Type} {F G:α->β->Prop}:∀ {l₁:List α} {l₂:List β},Paired F l₁ l₂->(∀ a b,F a b->G a b)->Paired G l₁ l₂
 | _,_,.nil,_=>.nil
 | _,_,.cons r t,f=>.cons (f _ _ r) (Paired.mapP t f)
theorem ObjOk.stay (x:ObjOk P w H h a o) (k:∀ b u,(b=a\/H b=some (.own a))->h.get? b=some u->h'.get? b=some u)
  (ho:∀ b,H b=some (.own a)->H' b=some (.own a)) (ht:∀ b xs,H b=some (.tup xs)->H' b=some (.tup xs)):ObjOk P w H' h' a o:=by
 induction o with
 | lst xs=>obtain ⟨z,its,n,r,e⟩:=x;exact ⟨z,its,n,r,k _ _ (.inl rfl) e⟩
 | tup xs=>obtain ⟨z,its,r,ob,e,c⟩:=x;exact ⟨z,its,r,ob,k _ _ (.inl rfl) e,c⟩
 | dK kvs=>obtain ⟨z,y,vs,r,ob,es,ep,e,c⟩:=x;exact ⟨z,y,vs,r,ob,es,ep,k _ _ (.inl rfl) e,c⟩
 | dT kvs=>
  obtain ⟨z,y,xs,r,ob,es,ep,e,c⟩:=x
  exact ⟨z,y,xs,Paired.mapP r fun p q z=>⟨z.1,ht _ _ z.2.1,z.2.2⟩,ob,es,ep,k _ _ (.inl rfl) e,c⟩
 | set S n=>obtain ⟨ob,es,ep,t,e,c⟩:=x;exact ⟨ob,es,ep,t,k _ _ (.inl rfl) e,c⟩
 | ins C dx fs=>
  obtain ⟨d,z,ne,e,mA,⟨od,es,ep,e2,c⟩,r⟩:=x
  exact ⟨ho _ d,z,ne,k _ _ (.inl rfl) e,mA,⟨od,es,ep,k _ _ (.inr d) e2,c⟩,r⟩
 | own y=>obtain ⟨ob,e⟩:=x;exact ⟨ob,k _ _ (.inl rfl) e⟩
 | xd fs=>obtain ⟨mA,⟨od,es,ep,e,c⟩,r⟩:=x;exact ⟨mA,⟨od,es,ep,k _ _ (.inl rfl) e,c⟩,r⟩
 | rng lo hi=>obtain ⟨t,u,v,e⟩:=x;exact ⟨t,u,v,k _ _ (.inl rfl) e⟩
 | frz ob u ih=>obtain ⟨e,q⟩:=x;exact ⟨k _ _ (.inl rfl) e,ih q⟩
 | tbl ps=>
  have e:h.get? a=some {cls:=.none,data:=.fields ps}:=x
  show h'.get? a=some {cls:=.none,data:=.fields ps}
  exact k a _ (.inl rfl) e
 | met f y=>
  have e:h.get? a=some (PySem.W.methodObj (.ref f) (.ref y)):=x
  show h'.get? a=some (PySem.W.methodObj (.ref f) (.ref y))
  exact k a _ (.inl rfl) e
 | ext φ=>obtain ⟨p,⟨o,e⟩,st⟩:=x;exact ⟨st _ _ p fun o q=>k _ _ (.inl rfl) q,⟨o,k _ _ (.inl rfl) e⟩,st⟩
theorem HOk.lt (x:HOk P w H h) (e:H a=some o):a < h.objs.size:=(x a o e).lt
theorem HOk.fresh (x:HOk P w H h) (e:h.objs.size<=a):H a=none:=by
 cases q:H a with
 | none=>rfl
 | some u=>exact absurd (WK (x.lt q) e) (X4 _)
theorem HOk.kept (x:HOk P w H h) (k:∀ b u,h.get? b=some u->h'.get? b=some u):HOk P w H h':=fun a o e=>
 (x a o e).stay (fun b u _ q=>k b u q) (fun _ q=>q) fun _ _ q=>q
theorem HOk.laid (x:HOk P w H h) (k:∀ b u,h.get? b=some u->h'.get? b=some u) (hp:h.objs.size<=a) (new:ObjOk P w (upd H a o) h' a o):HOk P w (upd H a o) h':=fun b u e=>by
 have hn:=x.fresh hp
 by_cases hb:b=a
 ·subst hb;rw [aj] at e;cases e;exact new
 ·rw [aB hb] at e
  exact (x b u e).stay (fun c v _ q=>k c v q) (fun c q=>by rw [aB (jX q hn)];exact q) fun c xs q=>by rw [aB (jX q hn)];exact q
end
def Rd (H:Hp) (a:Addr) (u:HO):Prop:=H a=some u\/∃ o,H a=some (.frz o u)
theorem Rd.ok {P:Program} {w:World} {H:Hp} {h:Heap} {a:Addr} {u:HO} (r:Rd H a u) (x:HOk P w H h):ObjOk P w H h a u:=by
 rcases r with r | ⟨o,r⟩
 ·exact x a u r
 ·obtain ⟨_,q⟩:=x a _ r
  exact q
def T5:Option HO->Prop
 | some (.lst _)=>True
 | some (.dK _)=>True
 | some (.dT _)=>True
 | some (.set _ _)=>True
 | some (.ins _ _ _)=>True
 | some (.ext _)=>True
 | _=>False
section
variable {P:Program} {w:World} {H:Hp} {h h':Heap} {x e:Addr} {o':HO}
theorem HOk.write (ok:HOk P w H h) (mu:T5 (H x)) (he:e=x\/H e=some (.own x)) (k:∀ b u,b≠e->h.get? b=some u->h'.get? b=some u) (heo:∃ u,h'.get? e=some u)
  (new:ObjOk P w (upd H x o') h' x o'):HOk P w (upd H x o') h':=fun b u q=>by
 have nown:∀ c y,H c=some (.own y)->c≠x:=fun c y r z=>by subst z;rw [r] at mu;exact mu
 have ntup:∀ c xs,H c=some (.tup xs)->c≠x:=fun c xs r z=>by subst z;rw [r] at mu;exact mu
 by_cases hb:b=x
 ·subst hb;rw [aj] at q;cases q;exact new
 ·rw [aB hb] at q
  by_cases hbe:b=e
  ·have q':H b=some (.own x):=by
    rcases he with z | z
    ·exact absurd (hbe.trans z) hb
    ·rw [hbe];exact z
   rw [q] at q';cases q'
   obtain ⟨v,hv⟩:=heo
   exact ⟨v,by rw [hbe];exact hv⟩
  ·refine (ok b u q).stay (fun c v hc r=>k c v ?_ r) (fun c r=>by rw [aB (nown c b r)];exact r) fun c xs r=>by rw [aB (ntup c xs r)];exact r
   rcases hc with rfl | hc
   ·exact hbe
   ·rintro rfl
    rcases he with z | z
    ·exact nown c b hc z
    ·rw [hc] at z;cases z;exact hb rfl
end
structure Un (fs ex:List Addr) (H H':Hp) (h h':Heap):Prop where
 keep:∀ b o,h.get? b=some o->H b=none->b ∉ fs->b ∉ ex->h'.get? b=some o
 slot:∀ b o,h.get? b=some o->H b=none->b∈fs->b ∉ ex->∃ sl,h'.get? b=some {o with slots:=sl}
 free:∀ b o,h.get? b=some o->H b=none->b ∉ ex->H' b=none
 there:∀ b o,h.get? b=some o->b ∉ ex->∃ o',h'.get? b=some o'
 tups:∀ b xs,H b=some (.tup xs)->H' b=some (.tup xs)
 frzs:∀ b o u,H b=some (.frz o u)->H' b=some (.frz o u)
 tbls:∀ b ps,H b=some (.tbl ps)->∃ more,H' b=some (.tbl (ps ++ more))
section
variable {fs fs' ex ex':List Addr} {H H1 H2:Hp} {h h1 h2 h':Heap} {a x e:Addr} {o:HO}
theorem Un.any (u:Un fs ex H H1 h h1) {b:Addr} {ob:Obj} (q:h.get? b=some ob) (n:H b=none) (hx:b ∉ ex):∃ sl,h1.get? b=some {ob with slots:=sl}:=by
 by_cases hb:b∈fs
 ·exact u.slot b ob q n hb hx
 ·exact ⟨ob.slots,u.keep b ob q n hb hx⟩
theorem Un.kept (k:∀ b u,h.get? b=some u->h'.get? b=some u):Un fs ex H H h h':=
 ⟨fun b ob q _ _ _=>k b ob q,fun b ob q _ _ _=>⟨ob.slots,k b ob q⟩,fun _ _ _ n _=>n,fun b ob q _=>⟨ob,k b ob q⟩,fun _ _ q=>q,fun _ _ _ q=>q,fun _ ps q=>⟨#[],by rw [q];simp⟩⟩
theorem Un.refl:Un fs ex H H h h:=Un.kept fun _ _ q=>q
theorem Un.laid (k:∀ b u,h.get? b=some u->h'.get? b=some u) (hp:h.objs.size<=a) (hn:H a=none):Un fs ex H (upd H a o) h h' where
 keep:=fun b u q _ _ _=>k b u q
 slot:=fun b u q _ _ _=>⟨u.slots,k b u q⟩
 free:=fun b u q n _=>by rw [aB (Xc (WK (Wx q) hp))];exact n
 there:=fun b u q _=>⟨u,k b u q⟩
 tups:=fun b xs q=>by rw [aB (jX q hn)];exact q
 frzs:=fun b u xs q=>by rw [aB (jX q hn)];exact q
 tbls:=fun b ps q=>⟨#[],by rw [aB (jX q hn),q];simp⟩
theorem Un.write (mu:T5 (H x)) (he:e=x\/H e=some (.own x)) (k:∀ b u,b≠e->h.get? b=some u->h'.get? b=some u) (heo:∃ u,h'.get? e=some u):Un fs ex H (upd H x o) h h':=by
 have hx:∀ b,H b=none->b≠x:=fun b n z=>by subst z;rw [n] at mu;exact mu
 have hb:∀ b,H b=none->b≠e:=fun b n z=>by
  subst z
  rcases he with r | r
  ·exact hx b n r
  ·rw [n] at r;cases r
 have hm:∀ b u,H b=some u->¬ T5 (some u)->b≠x:=fun b u q nm z=>by subst z;rw [q] at mu;exact nm mu
 refine ⟨fun b u q n _ _=>k b u (hb b n) q,fun b u q n _ _=>⟨u.slots,k b u (hb b n) q⟩,fun b u q n _=>by rw [aB (hx b n)];exact n,fun b u q _=>?_,
  fun b xs q=>by rw [aB (hm b _ q fun z=>z)];exact q,fun b u xs q=>by rw [aB (hm b _ q fun z=>z)];exact q,fun b ps q=>⟨#[],by rw [aB (hm b _ q fun z=>z),q];simp⟩⟩
 by_cases hbe:b=e
 ·subst hbe;exact heo
 ·exact ⟨u,k b u hbe q⟩
end
def KN (h:Heap) (H:Hp):List Addr:=(List.range h.objs.size).filter fun a=>(H a).isSome
def xP (h:Heap) (H:Hp):Heap:=PySem.W.hideAll h (KN h H)
theorem Et (h:Heap) (H:Hp):(xP h H).objs.size=h.objs.size:=PySem.W.hideAll_size _ _
theorem Gw {h:Heap} {H:Hp} {b:Addr} {o:Obj} (e:h.get? b=some o) (n:H b=none):(xP h H).get? b=some o:=
 PySem.W.hideAll_get _ e fun hm=>by
  have q:(H b).isSome=true:=(List.mem_filter.mp hm).2
  rw [n] at q;simp at q
theorem KY {h:Heap} {H:Hp} {b:Addr} {o:Obj} (e:(xP h H).get? b=some o):h.get? b=some o/\H b=none:=by
 have e':h.get? b=some o:=PySem.W.of_hideAll (KN h H) e
 refine ⟨e',?_⟩
 cases q:H b with
 | none=>rfl
 | some x=>
  have hm:b∈KN h H:=List.mem_filter.mpr ⟨Xe.mpr (Wx e'),by simp [q]⟩
  have z:(xP h H).get? b=none:=PySem.W.hideAll_none (KN h H) hm
  rw [z] at e;cases e
structure Mod (K:W.Frag) (mg:Str->Option Value) (base:Heap):Prop where
 kin:K.In base
 glob:base.Ns mainGlobals mg
 blt:∃ mb,base.Ns builtinsNs mb/\∀ x:Str,x≠"__name__"->mb x=bootBuiltins x
 nolimit:base.NoLimit
 sysm:∃ mm,base.Ns sysModules mm
 bmn:∃ bm ob,mg "__builtins__"=some (.ref bm)/\bm≠builtinsNs/\base.get? bm=some ob/\ob.cls= .type "module"/\ob.dict=some builtinsNs/\ob.data= .plain
structure Cx where
 prog:Program
 w:World
 K:W.Frag
 mg:Str->Option Value
 base:Heap
 A:Around
 N:List Str
 s₀:Shared
 H₀:Hp
 env:Env
 outer:List Env
 stack:List Env
 ex:List Addr
 fn:Str->Bool
 calm:Bool
 pn:List (Addr×Obj)
 xe:Value->Shared->Prop
def frs (l:List Env):List Addr:=l.filterMap (·.frame)
abbrev Cx.fs (X:Cx):List Addr:=frs X.outer
def T6 (sc:Scope) (x:Str):Prop:=sc.names.lookup x=some .local\/sc.names.lookup x=some .cell\/sc.names.lookup x=some .free
def Loc (sc:Scope) (x:Str):Prop:=sc.names.lookup x=some .local\/sc.names.lookup x=some .cell
def Look (env:Env) (h:Heap) (m:Str->Option Value) (x:Str) (u:Value):Prop:=
 (env.kindOf x=some .local/\m x=some u)\/((env.kindOf x=some .cell\/env.kindOf x=some .free)/\∃ c,env.cells.lookup x=some c/\h.IsCell c (some u))
structure Cx.Ok (X:Cx):Prop where
 mod:Mod X.K X.mg X.base
 kind:X.env.scope.kind= .function
 glob:X.env.globals=mainGlobals
 blt:X.env.builtins=builtinsNs
 above:X.s₀.heap.objs.size<=X.env.locals
 inj:∀ x y c,X.env.cells.lookup x=some c->X.env.cells.lookup y=some c->x=y
 has:∀ x,(X.env.kindOf x=some .cell\/X.env.kindOf x=some .free)->∃ c,X.env.cells.lookup x=some c
 cab:∀ x c,X.fn x=true->X.env.cells.lookup x=some c->X.s₀.heap.objs.size<=c
 hd:X.calm=true->X.A.handled=none
 frames:X.A.frames=some X.stack
 stk:X.stack=X.outer\/(X.stack=X.env :: X.outer/\X.env.frame=some X.env.locals)
 exf:∀ b∈X.ex,b≠X.env.locals/\∀ x c,X.env.cells.lookup x=some c->c≠b
 bs:∀ b o,X.base.get? b=some o->X.s₀.heap.get? b=some o/\X.H₀ b=none
 bsz:X.base.objs.size<=X.s₀.heap.objs.size
 noex:∀ b o,X.base.get? b=some o->b ∉ X.ex
 exfs:∀ b∈X.ex,b ∉ X.fs
 funs:X.s₀.heap.FunFrames X.base X.outer
 frf:∀ b∈X.fs,X.H₀ b=none
structure Inv (X:Cx) (pins:List (Addr×Obj)) (U:List (Option V)) (H:Hp) (s:Shared):Prop where
 ok:X.Ok
 os:s.os=X.s₀.os
 bare:AllBare s.gens
 base:Un X.fs X.ex X.H₀ H X.s₀.heap s.heap
 loc:∃ m,s.heap.Ns X.env.locals m/\∀ (i:Nat) (x:Str) (v:V),X.N[i]?=some x->U[i]?=some (some v)->T6 X.env.scope x->∃ u,RelV v u/\Look X.env s.heap m x u
 cell:∀ x c,X.env.cells.lookup x=some c->∃ v,s.heap.IsCell c v
 free:H X.env.locals=none
 freeC:∀ x c,X.env.cells.lookup x=some c->H c=none
 pin:∀ p∈X.pn ++ pins,s.heap.get? p.1=some p.2/\H p.1=none/\p.1≠X.env.locals/\p.1 ∉ X.fs/\∀ v,p.2.data≠.cell v
 hok:HOk X.prog X.w H s.heap
 len:U.length=X.N.length
section
variable {X:Cx} {pins:List (Addr×Obj)} {U:List (Option V)} {H H':Hp} {s:Shared} {h':Heap}
theorem Cx.Ok.nofr (ok:X.Ok) {b:Addr} {o:Obj} (e:X.base.get? b=some o):b ∉ X.fs:=fun hb=>by
 have:=(ok.funs.mem hb).1
 rw [e] at this;cases this
theorem Inv.bs (I:Inv X pins U H s):∀ b o,X.base.get? b=some o->s.heap.get? b=some o/\H b=none:=fun b o e=>
 ⟨I.base.keep b o (I.ok.bs b o e).1 (I.ok.bs b o e).2 (I.ok.nofr e) (I.ok.noex b o e),I.base.free b o (I.ok.bs b o e).1 (I.ok.bs b o e).2 (I.ok.noex b o e)⟩
theorem Inv.bk (I:Inv X pins U H s):∀ b o,X.base.get? b=some o->s.heap.get? b=some o:=fun b o e=>(I.bs b o e).1
theorem Inv.mod (I:Inv X pins U H s):Mod X.K X.mg X.base:=I.ok.mod
theorem Inv.kIn (I:Inv X pins U H s):X.K.In s.heap:=I.ok.mod.kin.keeps I.bk
theorem Inv.lt (I:Inv X pins U H s):X.env.locals < s.heap.objs.size:=let ⟨_,hn,_⟩:=I.loc;hn.lt
theorem Inv.sz (I:Inv X pins U H s):X.s₀.heap.objs.size<=s.heap.objs.size:=WY I.ok.above (Nat.le_of_lt I.lt)
theorem Inv.nofs (I:Inv X pins U H s) {a:Addr} (h:s.heap.objs.size<=a):a ∉ X.fs:=fun hb=>by
 obtain ⟨_,o,ho,_⟩:=I.ok.funs.mem hb
 exact absurd (WK (Wx ho) (WY I.sz h)) (X4 _)
theorem Inv.cne (I:Inv X pins U H s):∀ x c,X.env.cells.lookup x=some c->c≠X.env.locals:=fun x c e z=>by
 obtain ⟨v,o,ho,hd⟩:=I.cell x c e
 obtain ⟨m,⟨o',es,ep,ho',hd',_⟩,_⟩:=I.loc
 rw [z,ho'] at ho;cases ho;rw [hd'] at hd;cases hd
theorem Inv.funs (I:Inv X pins U H s):s.heap.FunFrames X.base X.outer:=by
 have all:∀ (l:List Env),(∀ b∈frs l,b∈X.fs)->X.s₀.heap.FunFrames X.base l->s.heap.FunFrames X.base l:=by
  intro l
  induction l with
  | nil=>intro _ _;trivial
  | cons env r ih=>
   intro hs hl
   obtain ⟨hk,⟨L,o,hf,hn,ho,hd⟩,hr⟩:=hl
   have hL:L∈X.fs:=hs L (by unfold frs;rw [YF,hf];exact Xf)
   obtain ⟨sl,e⟩:=I.base.slot L o ho (I.ok.frf L hL) hL fun z=>I.ok.exfs L z hL
   exact ⟨hk,⟨L,_,hf,hn,e,hd⟩,ih (fun b hb=>hs b (by unfold frs;rw [YF,hf];exact WL _ hb)) hr⟩
 exact all X.outer (fun _ hb=>hb) I.ok.funs
theorem Inv.stack (I:Inv X pins U H s):s.heap.FunFrames X.base X.stack:=by
 rcases I.ok.stk with e | ⟨e,hf⟩
 ·rw [e];exact I.funs
 ·rw [e]
  obtain ⟨m,hn,_⟩:=I.loc
  refine .cons (by rw [I.ok.kind];decide) hf hn ?_ I.funs
  exact Heap.get?_none_of_le (WY I.ok.bsz I.ok.above)
theorem Inv.stkSub (I:Inv X pins U H s):∀ b∈frs X.stack,b∈X.env.locals :: X.fs:=fun b hb=>by
 rcases I.ok.stk with e | ⟨e,hf⟩
 ·rw [e] at hb;exact WL _ hb
 ·rw [e] at hb
  unfold frs at hb
  rw [YF,hf] at hb
  exact hb
theorem Inv.stkFree (I:Inv X pins U H s):∀ b∈frs X.stack,H b=none:=fun b hb=>by
 rcases WD.mp (I.stkSub b hb) with e | hb
 ·rw [e];exact I.free
 ·obtain ⟨_,o,ho,_⟩:=I.ok.funs.mem hb
  exact I.base.free b o ho (I.ok.frf b hb) fun z=>I.ok.exfs b z hb
theorem Inv.step {g':Array GenState} {t':Nat} {d':Drawn} {ch:List Addr} (I:Inv X pins U H s)
  (hch:∀ b∈ch,(b∈X.ex\/X.s₀.heap.objs.size<=b)/\b≠X.env.locals/\(∀ x c,X.env.cells.lookup x=some c->c≠b)/\∀ p∈X.pn ++ pins,p.1≠b)
  (keep:∀ b o,b≠X.env.locals->b ∉ X.fs->b ∉ ch->s.heap.get? b=some o->H b=none->h'.get? b=some o)
  (slot:∀ b o,b≠X.env.locals->b∈X.fs->b ∉ ch->s.heap.get? b=some o->H b=none->∃ sl,h'.get? b=some {o with slots:=sl}) (free:∀ b o,b ∉ ch->s.heap.get? b=some o->H b=none->H' b=none)
  (there:∀ b o,b ∉ ch->s.heap.get? b=some o->∃ o',h'.get? b=some o')
  (tups:∀ b xs,H b=some (.tup xs)->H' b=some (.tup xs)) (frzs:∀ b o u,H b=some (.frz o u)->H' b=some (.frz o u)) (tbls:∀ b ps,H b=some (.tbl ps)->∃ more,H' b=some (.tbl (ps ++ more)))
  (ns:∀ m,s.heap.Ns X.env.locals m->h'.Ns X.env.locals m) (hok:HOk X.prog X.w H' h') (hg:AllBare g'):
  Inv X pins U H' {s with heap:=h',gens:=g',drawn:=d',toks:=t'}:=by
 have neL:∀ b o,X.s₀.heap.get? b=some o->b≠X.env.locals:=fun b o e=>Xc (WK (Wx e) I.ok.above)
 have neC:∀ b o,X.s₀.heap.get? b=some o->b ∉ X.ex->b ∉ ch:=fun b o e hx hb=>by
  rcases (hch b hb).1 with z | z
  ·exact hx z
  ·exact absurd (WK (Wx e) z) (X4 _)
 have cellK:∀ x c,X.env.cells.lookup x=some c->∀ v,s.heap.IsCell c v->h'.IsCell c v:=fun x c e v ⟨o,ho,hd⟩=>by
  have nch:c ∉ ch:=fun z=>(hch c z).2.2.1 x c e rfl
  by_cases hc:c∈X.fs
  ·obtain ⟨sl,q⟩:=slot c o (I.cne x c e) hc nch ho (I.freeC x c e)
   exact ⟨_,q,hd⟩
  ·exact ⟨o,keep c o (I.cne x c e) hc nch ho (I.freeC x c e),hd⟩
 refine ⟨I.ok,I.os,hg,⟨fun b o e n hb hx=>?_,fun b o e n hb hx=>?_,fun b o e n hx=>?_,fun b o e hx=>?_,fun b xs e=>tups b xs (I.base.tups b xs e),fun b o xs e=>frzs b o xs (I.base.frzs b o xs e),fun b ps e=>?_⟩,?_,fun x c e=>?_,?_,fun x c e=>?_,fun p hp=>?_,hok,I.len⟩
 ·exact keep b o (neL b o e) hb (neC b o e hx) (I.base.keep b o e n hb hx) (I.base.free b o e n hx)
 ·obtain ⟨sl,e1⟩:=I.base.slot b o e n hb hx
  obtain ⟨sl',e2⟩:=slot b _ (neL b o e) hb (neC b o e hx) e1 (I.base.free b o e n hx)
  exact ⟨sl',e2⟩
 ·obtain ⟨o',e1⟩:=I.base.there b o e hx
  exact free b o' (neC b o e hx) e1 (I.base.free b o e n hx)
 ·obtain ⟨o',e1⟩:=I.base.there b o e hx
  exact there b o' (neC b o e hx) e1
 ·obtain ⟨m1,e1⟩:=I.base.tbls b ps e
  obtain ⟨m2,e2⟩:=tbls b _ e1
  exact ⟨m1 ++ m2,by rw [e2,Array.append_assoc]⟩
 ·obtain ⟨m,hn,hl⟩:=I.loc
  refine ⟨m,ns m hn,fun i x v e1 e2 e3=>?_⟩
  obtain ⟨u,r,l⟩:=hl i x v e1 e2 e3
  refine ⟨u,r,?_⟩
  rcases l with l | ⟨k,c,e,z⟩
  ·exact .inl l
  ·exact .inr ⟨k,c,e,cellK x c e _ z⟩
 ·obtain ⟨v,z⟩:=I.cell x c e
  exact ⟨v,cellK x c e v z⟩
 ·obtain ⟨m,⟨o,_,_,ho,_⟩,_⟩:=I.loc
  exact free _ o (fun z=>(hch _ z).2.1 rfl) ho I.free
 ·obtain ⟨v,o,ho,hd⟩:=I.cell x c e
  exact free c o (fun z=>(hch c z).2.2.1 x c e rfl) ho (I.freeC x c e)
 ·obtain ⟨e,n,ne,nf,d⟩:=I.pin p hp
  have nch:p.1 ∉ ch:=fun z=>(hch p.1 z).2.2.2 p hp rfl
  exact ⟨keep p.1 p.2 ne nf nch e n,free p.1 p.2 nch e n,ne,nf,d⟩
theorem Inv.un {t':Nat} (I:Inv X pins U H s) (u:Un X.fs [] H H' s.heap h') (hok:HOk X.prog X.w H' h'):Inv X pins U H' {s with heap:=h',toks:=t'}:=by
 obtain ⟨m,⟨o,es,ep,ho,r⟩,_⟩:=id I.loc
 obtain ⟨sl,hL⟩:=u.any ho I.free (by simp)
 exact I.step (g':=s.gens) (d':=s.drawn) (ch:=[]) (fun _ z=>nomatch z) (fun b o _ hb _ e n=>u.keep b o e n hb (by simp)) (fun b o _ hb _ e n=>u.slot b o e n hb (by simp)) (fun b o _ e n=>u.free b o e n (by simp)) (fun b o _ e=>u.there b o e (by simp)) u.tups u.frzs u.tbls (fun m' hm=>by
  obtain ⟨o',es',ep',ho',r'⟩:=hm
  rw [ho] at ho';cases ho'
  exact ⟨_,es',ep',hL,r'⟩) hok I.bare
theorem Inv.call {g':Array GenState} {t':Nat} {d':Drawn} {ch:List Addr} (I:Inv X pins U H s) (u:Un (frs X.stack) ch H H' s.heap h') (hok:HOk X.prog X.w H' h') (hg:AllBare g')
  (hch:∀ b∈ch,(b∈X.ex\/X.s₀.heap.objs.size<=b)/\b≠X.env.locals/\(∀ x c,X.env.cells.lookup x=some c->c≠b)/\∀ p∈X.pn ++ pins,p.1≠b):
  Inv X pins U H' {s with heap:=h',gens:=g',drawn:=d',toks:=t'}:=by
 obtain ⟨m,⟨o,es,ep,ho,r⟩,_⟩:=id I.loc
 obtain ⟨sl,hL⟩:=u.any ho I.free fun z=>(hch _ z).2.1 rfl
 exact I.step (ch:=ch) hch (fun b o hL hb hc e n=>u.keep b o e n (fun z=>(WD.mp (I.stkSub b z)).elim hL hb) hc) (fun b o _ _ hc e n=>u.any e n hc) (fun b o hc e n=>u.free b o e n hc) (fun b o hc e=>u.there b o e hc) u.tups u.frzs u.tbls (fun m' hm=>by
  obtain ⟨o',es',ep',ho',r'⟩:=hm
  rw [ho] at ho';cases ho'
  exact ⟨_,es',ep',hL,r'⟩) hok hg
theorem Inv.turned {t':Nat} {it:Addr} (I:Inv X pins U H s) (k:∀ b o,b≠it->s.heap.get? b=some o->h'.get? b=some o) (hn:H it=none) (hL:it≠X.env.locals)
  (h1:it∈X.ex\/X.s₀.heap.objs.size<=it) (h2:∀ x c,X.env.cells.lookup x=some c->c≠it) (h3:∀ p∈X.pn ++ pins,p.1≠it):Inv X pins U H {s with heap:=h',toks:=t'}:=by
 have nit:∀ b u,H b=some u->b≠it:=fun b u e z=>by rw [z,hn] at e;cases e
 refine I.step (g':=s.gens) (d':=s.drawn) (ch:=[it]) (fun b hb=>?_) (fun b o _ _ hc e _=>k b o (fun z=>hc (by simp [z])) e) (fun b o _ _ hc e _=>⟨o.slots,k b o (fun z=>hc (by simp [z])) e⟩) (fun _ _ _ _ n=>n)
  (fun b o hc e=>⟨o,k b o (fun z=>hc (by simp [z])) e⟩) (fun _ _ e=>e) (fun _ _ _ e=>e) (fun b ps e=>⟨#[],by rw [e];simp⟩) (fun m hm=>?_) (fun b u e=>?_) I.bare
 ·have e:b=it:=by simpa using hb
  subst e
  exact ⟨h1,hL,h2,h3⟩
 ·obtain ⟨o,es,ep,ho,r⟩:=hm
  exact ⟨o,es,ep,k _ o (Ne.symm hL) ho,r⟩
 ·refine (I.hok b u e).stay (fun c v hc q=>k c v ?_ q) (fun _ q=>q) fun _ _ q=>q
  rcases hc with z | z
  ·rw [z];exact nit b u e
  ·exact nit c _ z
theorem Inv.tok (I:Inv X pins U H s) (t:Nat):Inv X pins U H {s with toks:=t}:=I.un (h':=s.heap) (t':=t) Un.refl I.hok
theorem Inv.kept {t':Nat} (I:Inv X pins U H s) (k:∀ b u,s.heap.get? b=some u->h'.get? b=some u):Inv X pins U H {s with heap:=h',toks:=t'}:=I.un (Un.kept k) (I.hok.kept k)
theorem Inv.laid {a:Addr} {o:HO} {t':Nat} (I:Inv X pins U H s) (k:∀ b u,s.heap.get? b=some u->h'.get? b=some u) (hp:s.heap.objs.size<=a) (new:ObjOk X.prog X.w (upd H a o) h' a o):
  Inv X pins U (upd H a o) {s with heap:=h',toks:=t'}:=I.un (Un.laid k hp (I.hok.fresh hp)) (I.hok.laid k hp new)
theorem Inv.write {x e:Addr} {o:HO} {t':Nat} (I:Inv X pins U H s) (mu:T5 (H x)) (he:e=x\/H e=some (.own x)) (k:∀ b u,b≠e->s.heap.get? b=some u->h'.get? b=some u) (heo:∃ u,h'.get? e=some u)
  (new:ObjOk X.prog X.w (upd H x o) h' x o):Inv X pins U (upd H x o) {s with heap:=h',toks:=t'}:=I.un (Un.write mu he k heo) (I.hok.write mu he k heo new)
theorem Inv.weak {U':List (Option V)} (I:Inv X pins U H s) (hl:U'.length=U.length) (w:∀ (i:Nat) v,U'[i]?=some (some v)->U[i]?=some (some v)):Inv X pins U' H s:=
 ⟨I.ok,I.os,I.bare,I.base,let ⟨m,hn,hl'⟩:=I.loc;⟨m,hn,fun i x v e1 e2 e3=>hl' i x v e1 (w i v e2) e3⟩,I.cell,I.free,I.freeC,I.pin,I.hok,hl.trans I.len⟩
theorem Inv.pins_of {pins':List (Addr×Obj)} (I:Inv X pins U H s) (h:∀ p∈pins',s.heap.get? p.1=some p.2/\H p.1=none/\p.1≠X.env.locals/\p.1 ∉ X.fs/\∀ v,p.2.data≠.cell v):Inv X pins' U H s:=
 ⟨I.ok,I.os,I.bare,I.base,I.loc,I.cell,I.free,I.freeC,fun p hp=>(Xi.mp hp).elim (fun z=>I.pin p (YS _ z)) (h p),I.hok,I.len⟩
theorem uQ {N:List Str} (hN:N.Nodup) {i j:Nat} {x:Str} (a:N[i]?=some x) (b:N[j]?=some x):i=j:=by
 obtain ⟨h1,e1⟩:=Wm.mp a
 obtain ⟨h2,e2⟩:=Wm.mp b
 exact (List.getElem_inj hN).mp (e1.trans e2.symm)
theorem wL {M:Model} {A:Around} {E:Value->Shared->Prop} {i:Nat} {x:Str} {v:V} {u:Value} {Q:Unit->Shared->Prop} (I:Inv X pins U H s) (hN:X.N.Nodup) (hi:X.N[i]?=some x) (hx:Loc X.env.scope x) (r:RelV v u)
  (h:∀ s',Inv X pins (U.set i (some v)) H s'->(∃ a,Heap.SameBut a s.heap s'.heap/\(a=X.env.locals\/X.env.cells.lookup x=some a))->Q () s') (hf:autoParam (X.fn x=true\/X.env.scope.names.lookup x=some .local) L2.auto1._auto_1):wpAny M A (storeName X.env x u) Q E s:=by
 obtain ⟨m,hn,hl⟩:=id I.loc
 have hcls:(X.env.scope.kind == .class || (X.env.scope.kind == .module && X.env.locals != X.env.globals))=false:=by rw [I.ok.kind];rfl
 have hiU:i < U.length:=by rw [I.len];exact (Wm.mp hi).1
 have cne:=I.cne
 have tracked:∀ {a:Addr} {h':Heap},(∃ o,s.heap.get? a=some o/\H a=none)->Heap.SameBut a s.heap h'->HOk X.prog X.w H h':=fun {a h'} ha hs b ob e=>by
  obtain ⟨_,_,hfree⟩:=ha
  refine (I.hok b ob e).stay (fun c w' hc q=>(hs.2 c ?_).trans q) (fun _ q=>q) fun _ _ q=>q
  rintro rfl
  rcases hc with rfl | hc
  ·rw [hfree] at e;cases e
  ·rw [hfree] at hc;cases hc
 rcases hx with hk | hk
 ·refine wpAny_storeName_local hk hn (fun h' hn' hs=>?_) hcls
  obtain ⟨oL,_,_,hoL,_⟩:=id hn
  refine h _ ⟨I.ok,I.os,I.bare,⟨fun b o e n hb hx=>?_,fun b o e n hb hx=>?_,I.base.free,fun b o e hx=>?_,I.base.tups,I.base.frzs,I.base.tbls⟩,⟨_,hn',fun j y v' e1 e2 e3=>?_⟩,fun y c e=>?_,I.free,I.freeC,fun p hp=>?_,tracked ⟨oL,hoL,I.free⟩ hs,by simpa using I.len⟩ ⟨_,hs,.inl rfl⟩
  ·exact (hs.2 b (Xc (WK (Wx e) I.ok.above))).trans (I.base.keep b o e n hb hx)
  ·obtain ⟨sl,e1⟩:=I.base.slot b o e n hb hx
   exact ⟨sl,(hs.2 b (Xc (WK (Wx e) I.ok.above))).trans e1⟩
  ·obtain ⟨o',e1⟩:=I.base.there b o e hx
   exact ⟨o',(hs.2 b (Xc (WK (Wx e) I.ok.above))).trans e1⟩
  ·by_cases hj:j=i
   ·subst hj
    rw [hi] at e1;cases e1
    rw [XS hiU] at e2
    cases e2
    exact ⟨u,r,.inl ⟨hk,by simp⟩⟩
   ·rw [XF (Ne.symm hj)] at e2
    obtain ⟨u',r',q⟩:=hl j y v' e1 e2 e3
    refine ⟨u',r',?_⟩
    rcases q with ⟨k,e⟩ | ⟨k,c,e,z⟩
    ·refine .inl ⟨k,?_⟩
     have:y≠x:=fun e=>hj (uQ hN e1 (e ▸ hi))
     simp [this,e]
    ·exact .inr ⟨k,c,e,z.sameBut hs (cne y c e)⟩
  ·obtain ⟨w',z⟩:=I.cell y c e
   exact ⟨w',z.sameBut hs (cne y c e)⟩
  ·obtain ⟨e,n,ne,nf,d⟩:=I.pin p hp
   exact ⟨(hs.2 p.1 ne).trans e,n,ne,nf,d⟩
 ·have hfn:X.fn x=true:=by
   rcases hf with z | z
   ·exact z
   ·rw [z] at hk;cases hk
  obtain ⟨c,hc⟩:=I.ok.has x (.inl hk)
  obtain ⟨w',z⟩:=I.cell x c hc
  refine wpAny_storeName_cell I.ok.kind hk hc z (fun h' hc' hs=>?_)
  obtain ⟨oc,hoc,hocd⟩:=id z
  refine h {s with heap:=h'} ⟨I.ok,I.os,I.bare,⟨fun b o e n hb hx=>?_,fun b o e n hb hx=>?_,I.base.free,fun b o e hx=>?_,I.base.tups,I.base.frzs,I.base.tbls⟩,⟨m,hn.sameBut hs (Ne.symm (cne x c hc)),fun j y v' e1 e2 e3=>?_⟩,fun y c' e=>?_,I.free,I.freeC,fun p hp=>?_,tracked ⟨oc,hoc,I.freeC x c hc⟩ hs,by simpa using I.len⟩ ⟨c,hs,.inr hc⟩
  ·exact (hs.2 b (Xc (WK (Wx e) (I.ok.cab x c hfn hc)))).trans (I.base.keep b o e n hb hx)
  ·obtain ⟨sl,e1⟩:=I.base.slot b o e n hb hx
   exact ⟨sl,(hs.2 b (Xc (WK (Wx e) (I.ok.cab x c hfn hc)))).trans e1⟩
  ·obtain ⟨o',e1⟩:=I.base.there b o e hx
   exact ⟨o',(hs.2 b (Xc (WK (Wx e) (I.ok.cab x c hfn hc)))).trans e1⟩
  ·by_cases hj:j=i
   ·subst hj
    rw [hi] at e1;cases e1
    rw [XS hiU] at e2
    cases e2
    exact ⟨u,r,.inr ⟨.inl hk,c,hc,hc'⟩⟩
   ·rw [XF (Ne.symm hj)] at e2
    obtain ⟨u',r',q⟩:=hl j y v' e1 e2 e3
    refine ⟨u',r',?_⟩
    rcases q with q | ⟨k,c',e,z'⟩
    ·exact .inl q
    ·refine .inr ⟨k,c',e,z'.sameBut hs ?_⟩
     rintro rfl
     exact hj (uQ hN e1 (I.ok.inj _ _ _ e hc ▸ hi))
  ·by_cases hcc:c'=c
   ·subst hcc;exact ⟨_,hc'⟩
   ·obtain ⟨w2,z2⟩:=I.cell y c' e
    exact ⟨w2,z2.sameBut hs hcc⟩
  ·obtain ⟨e,n,ne,nf,d⟩:=I.pin p hp
   refine ⟨(hs.2 p.1 ?_).trans e,n,ne,nf,d⟩
   intro q
   rw [q,hoc] at e
   have q':oc=p.2:=WR e
   exact d w' (by rw [← q'];exact hocd)
theorem nY {M:Model} {A:Around} {E:Value->Shared->Prop} {i:Nat} {x:Str} {v:V} {u:Value} {Q:Unit->Shared->Prop} (I:Inv X pins U H s) (hN:X.N.Nodup) (hi:X.N[i]?=some x) (hx:Loc X.env.scope x) (r:RelV v u)
  (h:∀ s',Inv X pins (U.set i (some v)) H s'->Q () s') (hf:autoParam (X.fn x=true\/X.env.scope.names.lookup x=some .local) L2.auto1._auto_1):wpAny M A (storeName X.env x u) Q E s:=
 wL I hN hi hx r (fun s' I' _=>h s' I') hf
theorem Inv.call' {s':Shared} {ch:List Addr} (I:Inv X pins U H s) (ho:s'.os=s.os) (u:Un (frs X.stack) ch H H' s.heap s'.heap) (hok:HOk X.prog X.w H' s'.heap) (hg:AllBare s'.gens)
  (hch:∀ b∈ch,(b∈X.ex\/X.s₀.heap.objs.size<=b)/\b≠X.env.locals/\(∀ x c,X.env.cells.lookup x=some c->c≠b)/\∀ p∈X.pn ++ pins,p.1≠b):Inv X pins U H' s':=by
 obtain ⟨h',g',d',t',o'⟩:=s'
 have e:o'=s.os:=ho
 subst e
 exact I.call (g':=g') (t':=t') (d':=d') u hok hg hch
end
abbrev XK:=Value->Option Addr->Hp->Prop
abbrev St:=List (Option V)
abbrev VK:=V->Hp->Prop
abbrev TE:=St->Hp->VK->Prop
abbrev TT:=St->Hp->(Bool->Hp->Prop)->Prop
abbrev TA:=St->Hp->(List V->Hp->Prop)->Prop
structure Ends where
 nx:St->Hp->Prop
 rt:VK
 bk:St->Hp->Prop:=fun _ _=>False
 ct:St->Hp->Prop:=fun _ _=>False
abbrev TS:=Ends->St->Hp->Prop
def EP (X:Cx) (pins:List (Addr×Obj)) (U:St) (Q:VK) (u:Value) (s':Shared):Prop:=∃ v H',Inv X pins U H' s'/\RelV v u/\Q v H'
def TP (X:Cx) (pins:List (Addr×Obj)) (U:St) (Q:Bool->Hp->Prop) (b:Bool) (s':Shared):Prop:=∃ H',Inv X pins U H' s'/\Q b H'
def AP (X:Cx) (pins:List (Addr×Obj)) (U:St) (Q:List V->Hp->Prop) (us:List Value) (s':Shared):Prop:=∃ vs H',Inv X pins U H' s'/\Vals vs us/\Q vs H'
def SP (X:Cx) (pins:List (Addr×Obj)) (D:Ends) (f:Flow) (s':Shared):Prop:=
 match f with
 | .next=>∃ U' H',Inv X pins U' H' s'/\D.nx U' H'
 | .brk=>∃ U' H',Inv X pins U' H' s'/\D.bk U' H'
 | .cont=>∃ U' H',Inv X pins U' H' s'/\D.ct U' H'
 | .ret u=>∃ v U' H',Inv X pins U' H' s'/\RelV v u/\D.rt v H'
def PE (X:Cx) (e:Expr) (t:TE):Prop:=
 ∀ (pins:List (Addr×Obj)) (s:Shared) (U:St) (H:Hp) (Q:VK),Inv X pins U H s->t U H Q->wpAny (model X.prog X.w) X.A (eval e X.env) (EP X pins U Q) X.xe s
def PT (X:Cx) (e:Expr) (t:TT):Prop:=
 ∀ (pins:List (Addr×Obj)) (s:Shared) (U:St) (H:Hp) (Q:Bool->Hp->Prop),Inv X pins U H s->t U H Q->wpAny (model X.prog X.w) X.A (isTrue e X.env (eval e X.env)) (TP X pins U Q) X.xe s
def PW (X:Cx) (e:Expr) (t:TT):Prop:=
 ∀ (whole:Sem Value) (pins:List (Addr×Obj)) (s:Shared) (U:St) (H:Hp) (Q:Bool->Hp->Prop),Inv X pins U H s->t U H Q->wpAny (model X.prog X.w) X.A (isTrue e X.env whole) (TP X pins U Q) X.xe s
theorem PW.pt {X:Cx} {e:Expr} {t:TT} (h:PW X e t):PT X e t:=h _
def PA (X:Cx) (es:List Expr) (t:TA):Prop:=
 ∀ (pos:Pos) (pins:List (Addr×Obj)) (s:Shared) (U:St) (H:Hp) (Q:List V->Hp->Prop),Inv X pins U H s->t U H Q->wpAny (model X.prog X.w) X.A (spliced (backTo pos (starEach es X.env))) (AP X pins U Q) X.xe s
def PS (X:Cx) (st:Stmt) (t:TS):Prop:=
 ∀ (pins:List (Addr×Obj)) (s:Shared) (U:St) (H:Hp) (D:Ends),Inv X pins U H s->t D U H->wpAny (model X.prog X.w) X.A (exec st X.env) (SP X pins D) X.xe s
def PSs (X:Cx) (st:List Stmt) (t:TS):Prop:=
 ∀ (pins:List (Addr×Obj)) (s:Shared) (U:St) (H:Hp) (D:Ends),Inv X pins U H s->t D U H->wpAny (model X.prog X.w) X.A (execs st X.env) (SP X pins D) X.xe s
theorem dW {α:Type} {t:Sem α} {Q Q':α->Shared->Prop} {M:Model} {A:Around} {E:Value->Shared->Prop} {s:Shared} (h:wpAny M A t Q E s) (hQ:∀ a s,Q a s->Q' a s):wpAny M A t Q' E s:=Xr h hQ fun _ _ x=>x
section
variable {X:Cx}
def p8 (i:Nat):TE:=fun U H Q=>∃ v,U[i]?=some (some v)/\Q v H
def tC (v:V):TE:=fun _ H Q=>Q v H
theorem xQ {i:Nat} {x:Str} {pos:Pos} (hN:X.N[i]?=some x) (hv:T6 X.env.scope x) (hd:autoParam ((x == ("__debug__":Str))=false) L2.auto2._auto_1) (hcd:autoParam ((x == ("__classdict__":Str))=false) L2.auto2._auto_1):PE X (.Name x pos) (p8 i):=by
 intro pins s U H Q I h
 obtain ⟨v,e,h⟩:=h
 obtain ⟨m,hn,hl⟩:=I.loc
 obtain ⟨u,r,l⟩:=hl i x v hN e hv
 have fin:EP X pins U Q u s:=⟨v,H,I,r,h⟩
 rcases l with ⟨hk,hm⟩ | ⟨hk,c,hc,hcell⟩
 ·exact wpAny_Name (wpAny_loadName_local I.ok.kind hk hn hm fin) hd
 ·rcases hk with hk | hk
  ·exact wpAny_Name (wpAny_loadName_cell I.ok.kind hk hc hcell fin) hd
  ·exact wpAny_Name (wpAny_loadName_free I.ok.kind hk hc hcell fin hcd) hd
theorem P0 {i j pos}:PE X (.Constant (.int i) j pos) (tC (.int i)):=fun _ _ _ H _ I h=>wpAny_Constant_int ⟨.int i,H,I.tok _,⟨_,rfl⟩,h⟩
theorem T7 {b j pos}:PE X (.Constant (.bool b) j pos) (tC (.bl b)):=fun _ _ _ H _ I h=>Constant_bool ⟨.bl b,H,I,rfl,h⟩
theorem Qa {j pos}:PE X (.Constant .none j pos) (tC .non):=fun _ _ _ H _ I h=>Constant_none ⟨.non,H,I,rfl,h⟩
theorem Qc {x j pos}:PE X (.Constant (.str x) j pos) (tC (.str x)):=fun _ _ _ H _ I h=>Calls.Constant_str ⟨.str x,H,I.tok _,⟨_,rfl⟩,h⟩
def Gl (X:Cx) (x:Str):Prop:=X.env.kindOf x=some .globalImplicit
theorem mK {E:Value->Shared->Prop} {pins:List (Addr×Obj)} {s:Shared} {U:St} {H:Hp} {x:Str} {u:Value} {pos:Pos} {Q:Value->Shared->Prop} (I:Inv X pins U H s) (hg:Gl X x) (hm:X.mg x=some u) (h:Q u s)
  (hd:autoParam ((x == ("__debug__":Str))=false) L2.auto2._auto_1):wpAny (model X.prog X.w) X.A (eval (.Name x pos) X.env) Q E s:=
 Calls.Name_function_global I.ok.kind hg (Calls.loadGlobal_global (by rw [I.ok.glob];exact I.mod.glob.keeps I.bk) hm h) hd
theorem jY {E:Value->Shared->Prop} {pins:List (Addr×Obj)} {s:Shared} {U:St} {H:Hp} {x:Str} {u:Value} {pos:Pos} {Q:Value->Shared->Prop} (I:Inv X pins U H s) (hg:Gl X x) (hm:X.mg x=none) (hv:bootBuiltins x=some u) (h:Q u s)
  (hn:autoParam (x≠"__name__") L2.auto2._auto_1) (hd:autoParam ((x == ("__debug__":Str))=false) L2.auto2._auto_1):wpAny (model X.prog X.w) X.A (eval (.Name x pos) X.env) Q E s:=by
 obtain ⟨mb,h1,h2⟩:=I.mod.blt
 exact Calls.Name_function_global I.ok.kind hg (Calls.loadGlobal_builtin (by rw [I.ok.glob];exact I.mod.glob.keeps I.bk) hm (by rw [I.ok.blt];exact h1.keeps I.bk) ((h2 x hn).trans hv) h) hd
theorem xR {x:Str} {v:V} {u:Value} {pos:Pos} (hg:Gl X x) (hm:X.mg x=some u) (r:RelV v u) (hd:autoParam ((x == ("__debug__":Str))=false) L2.auto2._auto_1):PE X (.Name x pos) (tC v):=
 fun _ _ _ H _ I h=>mK I hg hm ⟨v,H,I,r,h⟩ hd
theorem KZ {x:Str} {v:V} {u:Value} {pos:Pos} (hg:Gl X x) (hm:X.mg x=none) (hv:bootBuiltins x=some u) (r:RelV v u) (hn:autoParam (x≠"__name__") L2.auto2._auto_1) (hd:autoParam ((x == ("__debug__":Str))=false) L2.auto2._auto_1):PE X (.Name x pos) (tC v):=
 fun _ _ _ H _ I h=>jY I hg hm hv ⟨v,H,I,r,h⟩ hn hd
variable {a b:Expr} {ta tb:TE} {pos:Pos}
def tB (t:TE):TT:=fun U H Q=>t U H fun x H1=>∃ c,x= .bl c/\Q c H1
theorem Qd {e:Expr} {t:TE} (h:PE X e t) (he:autoParam (∀ whole,isTrue e X.env whole=(do let v ← whole;standAt e.pos;holding [v] (truthy v))) L2.auto3._auto_1):PT X e (tB t):=by
 intro pins s U H Q I hw
 refine isTrue_plain (dW (h pins s U H _ I hw) fun v s1 qq0=>?_) (he _)
 obtain ⟨x,H1,I1,r1,q1⟩:=qq0
 obtain ⟨d,rfl,q⟩:=q1
 cases r1
 exact Yd ⟨H1,I1,q⟩
variable {tA tB':TT} {rest:List Expr}
def K1 (t u:TT):TT:=fun U H Q=>t U H fun c H1=>if c=true then u U H1 Q else Q false H1
def tOr (t u:TT):TT:=fun U H Q=>t U H fun c H1=>if c=true then Q true H1 else u U H1 Q
def Qe (t:TT):TT:=fun U H Q=>t U H fun c H1=>Q (!c) H1
theorem K3 (ha:PT X a tA):PW X (.BoolOp .And [a] pos) tA:=by
 intro wh pins s U H Q I h
 refine isTrue_and (dW (ha pins s U H Q I h) fun c s1 e=>?_)
 cases c with
 | true=>exact isTrue_and_nil e
 | false=>exact e
theorem Qf (ha:PT X a tA):PW X (.BoolOp .Or [a] pos) tA:=by
 intro wh pins s U H Q I h
 refine isTrue_or (dW (ha pins s U H Q I h) fun c s1 e=>?_)
 cases c with
 | false=>exact isTrue_or_nil e
 | true=>exact e
theorem Qg (ha:PT X a tA) (hb:PW X (.BoolOp .And (b :: rest) pos) tB'):PW X (.BoolOp .And (a :: b :: rest) pos) (K1 tA tB'):=by
 intro wh pins s U H Q I h
 refine isTrue_and (dW (ha pins s U H _ I h) fun c s1 qq0=>?_)
 obtain ⟨H1,I1,q1⟩:=qq0
 cases c with
 | true=>exact hb wh pins s1 U H1 Q I1 q1
 | false=>exact ⟨H1,I1,q1⟩
theorem T8 (ha:PT X a tA) (hb:PW X (.BoolOp .Or (b :: rest) pos) tB'):PW X (.BoolOp .Or (a :: b :: rest) pos) (tOr tA tB'):=by
 intro wh pins s U H Q I h
 refine isTrue_or (dW (ha pins s U H _ I h) fun c s1 qq0=>?_)
 obtain ⟨H1,I1,q1⟩:=qq0
 cases c with
 | true=>exact ⟨H1,I1,q1⟩
 | false=>exact hb wh pins s1 U H1 Q I1 q1
theorem Qh (ha:PT X a tA):PT X (.UnaryOp .Not a pos) (Qe tA):=by
 intro pins s U H Q I h
 exact isTrue_not (ha pins s U H (fun c H1=>Q (!c) H1) I h)
def Gx (ta tb:TE):TE:=fun U H Q=>ta U H fun x H1=>∃ c,x= .bl c/\if c=true then tb U H1 Q else Q (.bl false) H1
def Gy (ta:TE):TE:=fun U H Q=>ta U H fun x H1=>∃ c,x= .bl c/\Q (.bl (!c)) H1
theorem Qi {op} {t:TE} (h:PE X a t):PE X (.BoolOp op [a] pos) t:=fun pins s U H Q I hw=>BoolOp_one (h pins s U H Q I hw)
theorem Qj (ha:PE X a ta) (hb:PE X (.BoolOp .And (b :: rest) pos) tb):PE X (.BoolOp .And (a :: b :: rest) pos) (Gx ta tb):=by
 intro pins s U H Q I h
 refine BoolOp_and (dW (ha pins s U H _ I h) fun v s1 qq0=>?_)
 obtain ⟨x,H1,I1,r1,q1⟩:=qq0
 obtain ⟨c,rfl,q1⟩:=q1
 cases r1
 refine Yd ?_
 cases c with
 | true=>exact hb pins s1 U H1 Q I1 q1
 | false=>exact ⟨.bl false,H1,I1,rfl,q1⟩
theorem Qk (ha:PE X a ta):PE X (.UnaryOp .Not a pos) (Gy ta):=by
 intro pins s U H Q I h
 refine UnaryOp_ (dW (ha pins s U H _ I h) fun v s1 qq0=>?_)
 obtain ⟨x,H1,I1,r1,q1⟩:=qq0
 obtain ⟨c,rfl,q1⟩:=q1
 cases r1
 exact not_of (Yd ⟨.bl (!c),H1,I1,rfl,q1⟩)
def tIf (t:TT) (ta tb:TE):TE:=fun U H Q=>t U H fun c H1=>if c=true then ta U H1 Q else tb U H1 Q
theorem Gz {c:Expr} (hc:PT X c tA) (ha:PE X a ta) (hb:PE X b tb):PE X (.IfExp c a b pos) (tIf tA ta tb):=by
 intro pins s U H Q I h
 refine wpAny_IfExp (dW (hc pins s U H _ I h) fun d s1 qq0=>?_)
 obtain ⟨H1,I1,q1⟩:=qq0
 cases d with
 | true=>exact ha pins s1 U H1 Q I1 q1
 | false=>exact hb pins s1 U H1 Q I1 q1
end
def SqL (K:W.Frag) (H:Hp) (a:Addr) (xs:List V):Prop:=
 Rd H a (.lst xs)\/
  ∃ (o:Obj) (its:Array Value) (n:Nat),K.lookup a=some o/\o.cls= .type "list"/\o.dict=none/\o.data= .seq its n/\its.size<=sizeLine/\Vals xs its.toList
def SqT (K:W.Frag) (H:Hp) (a:Addr) (xs:List V):Prop:=
 Rd H a (.tup xs)\/
  ∃ (o:Obj) (its:Array Value) (n:Nat),K.lookup a=some o/\o.cls= .type "tuple"/\o.data= .seq its n/\its.size<=sizeLine/\Vals xs its.toList
def absV:Value->Option V
 | .none=>some .non
 | .bool b=>some (.bl b)
 | .int i _=>some (.int i)
 | .str x _=>some (.str x)
 | .bytes b _=>some (.byt b)
 | .float b _=>some (.flt b)
 | .ref a=>some (.ref a)
 | .type n=>some (.ty n)
 | _=>none
theorem RelV.abs {x:V} {u:Value} (r:RelV x u):absV u=some x:=by
 cases x with
 | non=>cases r;rfl
 | bl _=>cases r;rfl
 | int _=>obtain ⟨t,rfl⟩:=r;rfl
 | str _=>obtain ⟨t,rfl⟩:=r;rfl
 | byt _=>obtain ⟨t,rfl⟩:=r;rfl
 | flt _=>obtain ⟨t,rfl⟩:=r;rfl
 | ref _=>cases r;rfl
 | ty _=>cases r;rfl
theorem RelV.inj {x y:V} {u:Value} (r:RelV x u) (q:RelV y u):x=y:=WR (r.abs.symm.trans q.abs)
theorem Vals.inj:∀ {xs ys:List V} {us:List Value},Vals xs us->Vals ys us->xs=ys
 | _,_,_,.nil,.nil=>rfl
 | _,_,_,.cons r t,.cons r' t'=>by rw [r.inj r',Vals.inj t t']
section
variable {X:Cx} {pins:List (Addr×Obj)} {U:St} {H:Hp} {s:Shared} {a:Addr} {xs ys:List V}
theorem SqL.of {K:W.Frag} (h:H a=some (.lst xs)):SqL K H a xs:=.inl (.inl h)
theorem SqT.of {K:W.Frag} (h:H a=some (.tup xs)):SqT K H a xs:=.inl (.inl h)
theorem Inv.list (I:Inv X pins U H s) (h:SqL X.K H a xs):∃ its:List Value,Vals xs its/\PlainL s.heap a its.toArray/\xs.length<=sizeLine:=by
 rcases h with h | ⟨o,its,n,hk,hc,hd,hs,hz,r⟩
 ·obtain ⟨z,its,n,r,e⟩:=h.ok I.hok
  exact ⟨its,r,⟨_,n,e,rfl,rfl,rfl⟩,z⟩
 ·refine ⟨its.toList,r,⟨o,n,I.kIn a o hk,hc,hd,by simpa using hs⟩,?_⟩
  have e:=r.length
  simp only [Xp] at e
  omega
theorem Inv.tuple (I:Inv X pins U H s) (h:SqT X.K H a xs):∃ its:List Value,Vals xs its/\IsTup s.heap a its.toArray/\xs.length<=sizeLine:=by
 rcases h with h | ⟨o,its,n,hk,hc,hs,hz,r⟩
 ·obtain ⟨z,its,r,p⟩:=h.ok I.hok
  exact ⟨its,r,p,z⟩
 ·refine ⟨its.toList,r,⟨o,I.kIn a o hk,hc,n,by simpa using hs⟩,?_⟩
  have e:=r.length
  simp only [Xp] at e
  omega
theorem Inv.list_inj (I:Inv X pins U H s) (h:SqL X.K H a xs) (h':SqL X.K H a ys):xs=ys:=by
 obtain ⟨its,r,⟨o,n,e,_,_,d⟩,_⟩:=I.list h
 obtain ⟨its',r',⟨o',n',e',_,_,d'⟩,_⟩:=I.list h'
 rw [e] at e';cases e'
 rw [d] at d'
 injection d' with d1 _
 have:its=its':=by simpa using congrArg Array.toList d1
 subst this
 exact r.inj r'
theorem Inv.tuple_inj (I:Inv X pins U H s) (h:SqT X.K H a xs) (h':SqT X.K H a ys):xs=ys:=by
 obtain ⟨its,r,⟨o,e,_,n,d⟩,_⟩:=I.tuple h
 obtain ⟨its',r',⟨o',e',_,n',d'⟩,_⟩:=I.tuple h'
 rw [e] at e';cases e'
 rw [d] at d'
 injection d' with d1 _
 have:its=its':=by simpa using congrArg Array.toList d1
 subst this
 exact r.inj r'
end
abbrev Cx.wish (X:Cx) (E:Value->Shared->Prop):Cx:={X with xe:=E}
abbrev Cx.nox (X:Cx):Cx:=X.wish fun _ _=>False
theorem Cx.Ok.wish {X:Cx} (ok:X.Ok) (E:Value->Shared->Prop):(X.wish E).Ok:=
 ⟨ok.mod,ok.kind,ok.glob,ok.blt,ok.above,ok.inj,ok.has,ok.cab,ok.hd,ok.frames,ok.stk,ok.exf,ok.bs,ok.bsz,ok.noex,ok.exfs,ok.funs,ok.frf⟩
theorem Cx.Ok.unwish {X:Cx} {E:Value->Shared->Prop} (ok:(X.wish E).Ok):X.Ok:=
 ⟨ok.mod,ok.kind,ok.glob,ok.blt,ok.above,ok.inj,ok.has,ok.cab,ok.hd,ok.frames,ok.stk,ok.exf,ok.bs,ok.bsz,ok.noex,ok.exfs,ok.funs,ok.frf⟩
section
variable {X:Cx} {pins:List (Addr×Obj)} {U:St} {H:Hp} {s:Shared} {E:Value->Shared->Prop}
theorem Inv.wish (I:Inv X pins U H s) (E:Value->Shared->Prop):Inv (X.wish E) pins U H s:=⟨I.ok.wish E,I.os,I.bare,I.base,I.loc,I.cell,I.free,I.freeC,I.pin,I.hok,I.len⟩
theorem Inv.unwish (I:Inv (X.wish E) pins U H s):Inv X pins U H s:=⟨I.ok.unwish,I.os,I.bare,I.base,I.loc,I.cell,I.free,I.freeC,I.pin,I.hok,I.len⟩
theorem SP.unwish {D:Ends} {f:Flow} {s':Shared} (h:SP (X.wish E) pins D f s'):SP X pins D f s':=by
 cases f with
 | next=>obtain ⟨U',H',I,q⟩:=h;exact ⟨U',H',I.unwish,q⟩
 | brk=>obtain ⟨U',H',I,q⟩:=h;exact ⟨U',H',I.unwish,q⟩
 | cont=>obtain ⟨U',H',I,q⟩:=h;exact ⟨U',H',I.unwish,q⟩
 | ret u=>obtain ⟨v,U',H',I,r,q⟩:=h;exact ⟨v,U',H',I.unwish,r,q⟩
theorem PSs.nox {st:List Stmt} {t:TS} (h:PSs X.nox st t):PSs X st t:=fun pins s U H D I hw=>
 Xr (h pins s U H D (I.wish _) hw) (fun _ _ q=>q.unwish) fun _ _ z=>False.elim z
end
section
variable {X:Cx} {st:Stmt} {rest:List Stmt} {t u:TS} {e:Expr} {te:TE} {pos:Pos}
def GC:TS:=fun D U H=>D.nx U H
def K4 (t u:TS):TS:=fun D U H=>t {D with nx:=u D} U H
theorem K5:PSs X [] GC:=fun _ _ U H _ I h=>wpAny_execs_nil ⟨U,H,I,h⟩
theorem GD (h1:PS X st t) (h2:PSs X rest u):PSs X (st :: rest) (K4 t u):=by
 intro pins s U H D I h
 refine wpAny_execs_cons (dW (h1 pins s U H {D with nx:=u D} I h) fun f s1 q=>?_)
 cases f with
 | next=>
  obtain ⟨U',H',I',q⟩:=q
  exact h2 pins s1 U' H' D I' q
 | ret v=>exact q
 | brk=>exact q
 | cont=>exact q
theorem K6 (h1:PS X st t):PSs X [st] t:=by
 intro pins s U H D I h
 refine wpAny_execs_cons (dW (h1 pins s U H D I h) fun f s1 q=>?_)
 cases f with
 | next=>exact wpAny_execs_nil q
 | ret v=>exact q
 | brk=>exact q
 | cont=>exact q
theorem Inv.quiet {pins:List (Addr×Obj)} {U:St} {H:Hp} {s:Shared} (I:Inv X pins U H s):interactive X.env=false:=by simp [interactive,I.ok.kind]
def CQ (te:TE):TS:=fun D U H=>te U H fun _ H1=>D.nx U H1
theorem K7 (he:PE X e te) (hs:autoParam (swapsWith e none pos.line X.env=pure false) L2.auto4._auto_1):PS X (.Expr e pos) (CQ te):=by
 intro pins s U H D I h
 exact wpAny_Expr_any (dW (he pins s U H _ I h) fun v s1 ⟨x,H1,I1,r1,q1⟩=>⟨U,H1,I1,q1⟩) I.quiet hs
def Ql (te:TE):TS:=fun D U H=>te U H D.rt
theorem Qm (he:PE X e te):PS X (.Return (some e) pos) (Ql te):=by
 intro pins s U H D I h
 exact wpAny_Return_some (dW (he pins s U H _ I h) fun v s1 ⟨x,H1,I1,r1,q1⟩=>⟨x,U,H1,I1,r1,q1⟩)
def Qn (c:TT) (t u:TS):TS:=fun D U H=>c U H fun b H1=>if b=true then t D U H1 else u D U H1
theorem T9 {c:Expr} {a b:List Stmt} {tc:TT} (hc:PT X c tc) (ha:PSs X a t) (hb:PSs X b u):PS X (.If c a b pos) (Qn tc t u):=by
 intro pins s U H D I h
 refine wpAny_If (dW (hc pins s U H _ I h) fun d s1 qq0=>?_)
 obtain ⟨H1,I1,q1⟩:=qq0
 cases d with
 | true=>exact ha pins s1 U H1 D I1 q1
 | false=>exact hb pins s1 U H1 D I1 q1
def GF:TS:=fun _ _ _=>False
theorem GJ:PS X st GF:=fun _ _ _ _ _ _ h=>h.elim
end
abbrev TG:=V->St->Hp->(St->Hp->Prop)->Prop
abbrev Eu:=List V->St->Hp->(St->Hp->Prop)->Prop
def PG (X:Cx) (target:Expr) (t:TG):Prop:=
 ∀ (pins:List (Addr×Obj)) (s:Shared) (U:St) (H:Hp) (v:V) (u:Value) (Q:St->Hp->Prop),Inv X pins U H s->RelV v u->t v U H Q->
  wpAny (model X.prog X.w) X.A (assign target X.env u) (fun _ s'=>∃ U' H',Inv X pins U' H' s'/\Q U' H') X.xe s
def Tz (X:Cx) (ts:List Expr) (t:Eu):Prop:=
 ∀ (pins:List (Addr×Obj)) (s:Shared) (U:St) (H:Hp) (vs:List V) (us:List Value) (Q:St->Hp->Prop),Inv X pins U H s->Vals vs us->t vs U H Q->
  wpAny (model X.prog X.w) X.A (assignInOrder ((assignEach ts X.env).map (·.2)) us) (fun _ s'=>∃ U' H',Inv X pins U' H' s'/\Q U' H') X.xe s
abbrev Ax:=V->V->V->Hp->(Hp->Prop)->Prop
def K8 (X:Cx) (t:Ax):Prop:=
 ∀ (pins:List (Addr×Obj)) (s:Shared) (U:St) (H:Hp) (o i v:V) (ov iv u:Value) (Q:Hp->Prop),Inv X pins U H s->RelV o ov->RelV i iv->RelV v u->t o i v H Q->
  wpAny (model X.prog X.w) X.A (setItem ov iv u) (fun _ s'=>∃ H',Inv X pins U H' s'/\Q H') X.xe s
abbrev TIp:=V->V->Hp->VK->Prop
def PIp (X:Cx) (op:Operator) (t:TIp):Prop:=
 ∀ (pins:List (Addr×Obj)) (s:Shared) (U:St) (H:Hp) (x y:V) (v u:Value) (Q:VK),Inv X pins U H s->RelV x v->RelV y u->t x y H Q->
  wpAny (model X.prog X.w) X.A (inplaceOp op v u) (EP X pins U Q) X.xe s
section
variable {X:Cx} {pos:Pos}
def pU (i:Nat):TG:=fun v U H Q=>Q (U.set i (some v)) H
theorem CV {i:Nat} {x:Str} (hN:X.N.Nodup) (hi:X.N[i]?=some x) (hx:Loc X.env.scope x) (hf:autoParam (X.fn x=true\/X.env.scope.names.lookup x=some .local) L2.auto1._auto_1):PG X (.Name x pos) (pU i):=by
 intro pins s U H v u Q I r h
 exact wpAny_assign_Name (nY I hN hi hx r (fun s' I'=>⟨_,H,I',h⟩) hf)
def Qo:Eu:=fun vs U H Q=>vs=[]/\Q U H
def GK (t:TG) (u:Eu):Eu:=fun vs U H Q=>∃ v r,vs=v :: r/\t v U H fun U' H'=>u r U' H' Q
theorem K9:Tz X [] Qo:=by
 intro pins s U H vs us Q I r h
 obtain ⟨e,h⟩:=h
 subst e
 cases r
 exact assignInOrder_nil ⟨U,H,I,h⟩
theorem GP {e:Expr} {es:List Expr} {t:TG} {u:Eu} (h1:PG X e t) (h2:Tz X es u)
  (hs:autoParam ((assignEach (e :: es) X.env).map (·.2)=assign e X.env :: (assignEach es X.env).map (·.2)) L2.auto4._auto_1):Tz X (e :: es) (GK t u):=by
 intro pins s U H vs us Q I r h
 obtain ⟨v,vr,e1,h⟩:=h
 subst e1
 cases r with
 | cons r rr=>
  rw [hs]
  refine assignInOrder_cons (dW (h1 pins s U H _ _ _ I r h) fun _ s1 qq0=>?_)
  obtain ⟨σ1,H1,I1,q1⟩:=qq0
  exact h2 pins s1 σ1 H1 _ _ Q I1 rr q1
def La (K:W.Frag) (n:Nat) (t:Eu):TG:=fun v U H Q=>∃ a xs,v= .ref a/\SqT K H a xs/\xs.length=n/\t xs U H Q
theorem Qp {es:List Expr} {k:Nat} {t:Eu} {n:Nat} (hc:X.calm=true) (h:Tz X es t)
  (hn:autoParam ((assignEach es X.env).length=n) L2.auto4._auto_1) (hst:autoParam ((assignEach es X.env).findIdx? (·.1)=none) L2.auto4._auto_1):PG X (.Tuple es k pos) (La X.K n t):=by
 intro pins s U H v u Q I r hw
 obtain ⟨a,xs,e1,hq,hl,hw⟩:=hw
 subst e1
 cases r
 obtain ⟨its,rv,ht,hz⟩:=I.tuple hq
 refine assign_Tuple_tuple (I.ok.hd hc) ht (by simp [hn,← hl,rv.length]) hst fun h' hx=>?_
 have I1:Inv X pins U H {s with heap:=h'}:=I.kept (t':=s.toks) fun b o e=>hx b o (Xc (Wx e)) e
 exact h pins _ U H xs _ Q I1 (by simpa using rv) hw
def Qq (to ti:TE) (t:Ax):TG:=fun v U H Q=>to U H fun o H1=>ti U H1 fun i H2=>t o i v H2 fun H3=>Q U H3
theorem Qs {o i:Expr} {to ti:TE} {t:Ax} (ho:PE X o to) (hi:PE X i ti) (hs:K8 X t)
  (ha:∀ v,assign (.Subscript o i pos) X.env v=(do
   let ov ← holding [v] (eval o X.env)
   let iv ← holding [v,ov] (eval i X.env)
   standAt pos
   holding [v,ov,iv] (setItem ov iv v)
   release [v,ov,iv] []):=by intro _;rfl):PG X (.Subscript o i pos) (Qq to ti t):=by
 intro pins s U H v u Q I r h
 rw [ha]
 refine Wl (X5 (dW (ho pins s U H _ I h) fun ov s1 qq0=>?_))
 obtain ⟨x,H1,I1,r1,q1⟩:=qq0
 refine Wl (X5 (dW (hi pins s1 U H1 _ I1 q1) fun iv s2 qq0=>?_))
 obtain ⟨y,H2,I2,r2,q2⟩:=qq0
 refine Wl (wpAny_standAt (Wl (X5 (dW (hs pins s2 U H2 x y v ov iv u _ I2 r1 r2 r q2) fun _ s3 qq0=>?_))))
 obtain ⟨H3,I3,q3⟩:=qq0
 exact wpAny_release ⟨U,H3,I3,q3⟩
def zb (te:TE) (g:TG):TS:=fun D U H=>te U H fun x H1=>g x U H1 D.nx
theorem Qt {tg e:Expr} {te:TE} {g:TG} (he:PE X e te) (hg:PG X tg g) (hs:autoParam (swapsWithSole [tg] e pos.line X.env=pure false) L2.auto4._auto_1) (hw:autoParam (swappedStores [tg] e X.env=pure none) L2.auto4._auto_1)
  (h1:autoParam ((assignEach [tg] X.env).map (·.2)=[assign tg X.env]) L2.auto4._auto_1):PS X (.Assign [tg] e pos) (zb te g):=by
 intro pins s U H D I h
 refine wpAny_Assign_stores (dW (he pins s U H _ I h) fun v s1 qq0=>?_) hs hw
 obtain ⟨x,H1,I1,r1,q1⟩:=qq0
 rw [h1]
 exact dW (hg pins s1 U H1 x v _ I1 r1 q1) fun _ s2 q=>q
theorem GQ {i:Nat} {x:Str} {e:Expr} {te:TE} {pos':Pos} (hN:X.N.Nodup) (hi:X.N[i]?=some x) (hx:Loc X.env.scope x) (he:PE X e te) (hs:autoParam (swapsWith e (some (.Name x pos')) pos.line X.env=pure false) L2.auto4._auto_1) (hf:autoParam (X.fn x=true\/X.env.scope.names.lookup x=some .local) L2.auto1._auto_1):
  PS X (.Assign [.Name x pos'] e pos) (zb te (pU i)):=by
 intro pins s U H D I h
 refine wpAny_Assign_Name (dW (he pins s U H _ I h) fun v s1 qq0=>?_) hs
 obtain ⟨y,H1,I1,r1,q1⟩:=qq0
 exact nY I1 hN hi hx r1 (fun s2 I2=>⟨_,H1,I2,q1⟩) hf
def Qu (i:Nat) (te:TE) (ti:TIp):TS:=fun D U H=>∃ x,U[i]?=some (some x)/\te U H fun y H1=>ti x y H1 fun z H2=>D.nx (U.set i (some z)) H2
theorem Qv {i:Nat} {x:Str} {e:Expr} {te:TE} {op:Operator} {ti:TIp} {pos':Pos} (hN:X.N.Nodup) (hi:X.N[i]?=some x) (hx:Loc X.env.scope x) (he:PE X e te) (ho:PIp X op ti) (hf:autoParam (X.fn x=true\/X.env.scope.names.lookup x=some .local) L2.auto1._auto_1):
  PS X (.AugAssign (.Name x pos') op e pos) (Qu i te ti):=by
 intro pins s U H D I h
 obtain ⟨v,e1,h⟩:=h
 obtain ⟨m,hn,hl⟩:=I.loc
 have vis:T6 X.env.scope x:=by rcases hx with k | k;exact .inl k;exact .inr (.inl k)
 obtain ⟨u,r,l⟩:=hl i x v hi e1 vis
 refine wpAny_AugAssign_Name ?_
 have go:wpAny (model X.prog X.w) X.A (eval e X.env) (fun w s₂=>wpAny (model X.prog X.w) X.A (inplaceOp op u w) (fun r s₃=>wpAny (model X.prog X.w) X.A (storeName X.env x r) (fun _=>SP X pins D .next) X.xe s₃) X.xe s₂) X.xe s:=by
  refine dW (he pins s U H _ I h) fun w s1 qq0=>?_
  obtain ⟨y,H1,I1,r1,q1⟩:=qq0
  refine dW (ho pins s1 U H1 v y u w _ I1 r r1 q1) fun z s2 qq0=>?_
  obtain ⟨zv,H2,I2,r2,q2⟩:=qq0
  exact nY I2 hN hi hx r2 (fun s3 I3=>⟨_,H2,I3,q2⟩) hf
 rcases l with ⟨hk,hm⟩ | ⟨hk,c,hc,hcell⟩
 ·exact wpAny_loadName_local I.ok.kind hk hn hm go
 ·rcases hk with hk | hk
  ·exact wpAny_loadName_cell I.ok.kind hk hc hcell go
  ·rcases hx with k | k
   ·have:X.env.scope.names.lookup x=some .free:=hk
    rw [k] at this;cases this
   ·have:X.env.scope.names.lookup x=some .free:=hk
    rw [k] at this;cases this
def Ay (c:TT) (tb:TS):TS:=fun D U H=>∃ W:Nat->St->Hp->Prop,(∃ m,W m U H)/\∀ m U H,W m U H->
 c U H fun b H1=>if b=true then ∃ N:St->Hp->Prop,(∀ U' H',N U' H'->∃ m',m' < m/\W m' U' H')/\tb {D with nx:=N,ct:=N,bk:=D.nx} U H1 else D.nx U H1
theorem GR {c:Expr} {body:List Stmt} {tc:TT} {tb:TS} (hp:PassesOwn (model X.prog X.w) X.A X.env X.xe) (hc:PT X c tc) (hb:PSs X body tb):PS X (.While c body [] pos) (Ay tc tb):=by
 intro pins s U H D I h
 obtain ⟨W,⟨m0,w0⟩,turn⟩:=h
 refine wpAny_While (codeAny_whileLoop (fun n s'=>∃ U' H',Inv X pins U' H' s'/\W n U' H') ?_ m0 ⟨U,H,I,w0⟩)
 rintro n s1 ⟨σ1,H1,I1,w1⟩
 refine YQ hp (dW (hc pins s1 σ1 H1 _ I1 (turn n σ1 H1 w1)) fun b s2 qq0=>?_)
 obtain ⟨H2,I2,q2⟩:=qq0
 cases b with
 | true=>
  obtain ⟨N,hN,q2⟩:=q2
  rw [if_pos rfl]
  refine YQ hp (dW (hb pins s2 σ1 H2 _ I2 q2) fun f s3 q3=>?_)
  cases f with
  | next=>
   obtain ⟨σ3,H3,I3,n3⟩:=q3
   obtain ⟨m',hm,w3⟩:=hN σ3 H3 n3
   exact ⟨m',hm,σ3,H3,I3,w3⟩
  | cont=>
   obtain ⟨σ3,H3,I3,n3⟩:=q3
   obtain ⟨m',hm,w3⟩:=hN σ3 H3 n3
   exact ⟨m',hm,σ3,H3,I3,w3⟩
  | brk=>exact q3
  | ret v=>exact q3
 | false=>
  rw [if_neg WF]
  exact wpAny_execs_nil ⟨σ1,H2,I2,q2⟩
end
structure It where
 go:Nat->Hp->Prop
 yld:Nat->Hp->V->Hp->Prop
 stop:Nat->Hp->Prop
def lY (X:Cx) (pins:List (Addr×Obj)) (H:Hp) (b:Addr):Prop:=
 H b=none/\b≠X.env.locals/\b ∉ X.fs/\(b∈X.ex\/X.s₀.heap.objs.size<=b)/\(∀ x c,X.env.cells.lookup x=some c->c≠b)/\∀ p∈X.pn ++ pins,p.1≠b
theorem Inv.fpOk {X:Cx} {pins:List (Addr×Obj)} {U:St} {H H':Hp} {s:Shared} {b:Addr} (I:Inv X pins U H s) (hb:s.heap.objs.size<=b) (hn:H' b=none):lY X pins H' b:=by
 refine ⟨hn,Yn (WK I.lt hb),I.nofs hb,.inr (WY I.sz hb),fun x c e z=>?_,fun p hp z=>?_⟩
 ·obtain ⟨v,q⟩:=I.cell x c e
  exact absurd (WK q.lt (by rw [z];exact hb)) (X4 _)
 ·exact absurd (WK (Wx (I.pin p hp).1) (by rw [z];exact hb)) (X4 _)
structure Turn (P:Program) (w:World) (K:W.Frag) (tg:Expr) (J:It) (fp:List Addr) (it:Addr) (tn:Nat->Heap->Prop):Prop where
 mem:it∈fp
 obj:∀ i h,tn i h->∀ b∈fp,∃ o,h.get? b=some o/\∀ v,o.data≠.cell v
 keep:∀ i h h',tn i h->(∀ b∈fp,∀ o,h.get? b=some o->h'.get? b=some o)->tn i h'
 item:∀ (X:Cx),X.prog=P->X.w=w->X.K=K->X.calm=true->∀ (i:Nat) (pins:List (Addr×Obj)) (s:Shared) (U:St) (H:Hp) (E:Value->Shared->Prop),Inv X pins U H s->(∀ b∈fp,lY X pins H b)->tn i s.heap->J.go i H->
  wpAny (model P w) X.A (pyNext (.ref it)) (fun r s1=>∃ u,r=some u/\
   wpAny (model P w) X.A (letOwnedTupleGo tg (.ref it) u) (fun _ s2=>∃ x H',Inv X pins U H' s2/\RelV x u/\J.yld i H x H'/\tn (i+1) s2.heap/\∀ b∈fp,H' b=none) E s1) E s
 done:∀ (X:Cx),X.prog=P->X.w=w->X.K=K->X.calm=true->∀ (i:Nat) (pins:List (Addr×Obj)) (s:Shared) (U:St) (H:Hp) (E:Value->Shared->Prop),Inv X pins U H s->(∀ b∈fp,lY X pins H b)->tn i s.heap->J.stop i H->
  wpAny (model P w) X.A (pyNext (.ref it)) (fun r s1=>r=none/\Inv X pins U H s1) E s
 self:∀ (A:Around) (i:Nat) (s:Shared) (Q:Value->Shared->Prop) (E:Value->Shared->Prop),tn i s.heap->Q (.ref it) s->wpAny (model P w) A (pyIter (.ref it)) Q E s
abbrev TI:=St->Hp->(It->Hp->Prop)->Prop
def PIE (X:Cx) (pins:List (Addr×Obj)) (U:St) (tg:Expr) (R:It->Hp->Prop) (itv:Value) (s2:Shared):Prop:=
 ∃ (it:Addr) (fp:List Addr) (tn:Nat->Heap->Prop) (J:It) (H':Hp),itv= .ref it/\Inv X pins U H' s2/\Turn X.prog X.w X.K tg J fp it tn/\tn 0 s2.heap/\(∀ b∈fp,lY X pins H' b)/\R J H'
def PI (X:Cx) (tg iter:Expr) (wi:TI):Prop:=
 ∀ (pins:List (Addr×Obj)) (s:Shared) (U:St) (H:Hp) (R:It->Hp->Prop),Inv X pins U H s->wi U H R->
  wpAny (model X.prog X.w) X.A (eval iter X.env) (fun v s1=>wpAny (model X.prog X.w) X.A (pyIter v) (PIE X pins U tg R) X.xe s1) X.xe s
theorem wM {M:Model} {A:Around} {E:Value->Shared->Prop} {s:Shared} {tg:Expr} {it:Addr} {u:Value} {o:Obj} {n:String} {vs:Array Value} {Q:Unit->Shared->Prop} (ho:s.heap.get? it=some o) (hc:o.cls= .type n) (hd:o.data= .fields vs)
  (hn:["enumerate","zip","dict_itemiterator","dict_reverseitemiterator","odict_iterator","itertools.zip_longest","itertools.pairwise"].contains n=false) (hQ:Q () s):wpAny M A (letOwnedTupleGo tg (.ref it) u) Q E s:=by
 unfold letOwnedTupleGo
 cases tg <;> first
  | exact Wt hQ
  | (cases u <;> first
    | exact Wt hQ
    | (refine Wl (wpAny_load ho ?_)
       rw [hc,hd]
       show wpAny M A (if (["enumerate","zip","dict_itemiterator","dict_reverseitemiterator","odict_iterator","itertools.zip_longest","itertools.pairwise"].contains n && vs[0]? == some (rawInt _))=true then _ else _) Q E s
       rw [if_neg (by intro h;rw [hn,Bool.false_and] at h;cases h)]
       exact Wt hQ))
def Lb (K:W.Frag) (a:Addr):It:=
 ⟨fun i H=>∃ xs x,SqL K H a xs/\xs[i]?=some x,fun i H x H'=>H'=H/\∀ xs,SqL K H a xs->xs[i]?=some x,fun i H=>∃ xs,SqL K H a xs/\xs.length<=i⟩
def TF (K:W.Frag) (a:Addr):It:=
 ⟨fun i H=>∃ xs x,SqT K H a xs/\xs[i]?=some x,fun i H x H'=>H'=H/\∀ xs,SqT K H a xs->xs[i]?=some x,fun i H=>∃ xs,SqT K H a xs/\xs.length<=i⟩
def KQ (lo:Int) (n:Nat):It:=⟨fun i _=>i < n,fun i H x H'=>H'=H/\x= .int (lo+i),fun i _=>n<=i⟩
theorem Ew {P:Program} {w:World} {K:W.Frag} {tg:Expr} (a it:Addr):Turn P w K tg (Lb K a) [it] it (fun i h=>h.IsListIter it a i) where
 mem:=by simp
 obj:=fun i h st b hb=>by
  have e:b=it:=by simpa using hb
  subst e
  obtain ⟨o,e,c,d⟩:=st
  exact ⟨o,e,fun v z=>by rw [d] at z;cases z⟩
 keep:=fun i h h' st k=>st.at fun o e=>k it (by simp) o e
 item:=by
  intro X hP hw hK hc i pins s U H E I hf st hg
  subst hP hw hK
  obtain ⟨xs,x,hq,hx⟩:=hg
  obtain ⟨its,rv,p,hz⟩:=I.list hq
  obtain ⟨u,hu,ru⟩:=rv.get hx
  obtain ⟨f0,f1,f2,f3,f4,f5⟩:=hf it (by simp)
  refine wpAny_pyNext_list_item st p.isList (x:=u) (by simpa using hu) fun h' st' sb=>?_
  have I1:Inv X pins U H {s with heap:=h'}:=I.turned (t':=s.toks) (fun b o hb e=>(sb.2 b hb).trans e) f0 f1 f3 f4 f5
  obtain ⟨o,e,c,d⟩:=id st'
  exact ⟨u,rfl,wM (s:={s with heap:=h'}) e c d (by decide) ⟨x,H,I1,ru,⟨rfl,fun ys hy=>by rw [I.list_inj hy hq];exact hx⟩,st',fun b hb=>(hf b hb).1⟩⟩
 done:=by
  intro X hP hw hK hc i pins s U H E I hf st hg
  subst hP hw hK
  obtain ⟨xs,hq,hx⟩:=hg
  obtain ⟨its,rv,p,hz⟩:=I.list hq
  obtain ⟨f0,f1,f2,f3,f4,f5⟩:=hf it (by simp)
  have hl:=rv.length
  exact wpAny_pyNext_list_end (I.ok.hd hc) st p.isList (by simp;omega) fun h' eb=>⟨rfl,I.turned (t':=s.toks) (fun b o hb e=>eb b o hb e) f0 f1 f3 f4 f5⟩
 self:=fun _ _ _ _ _ st h=>wpAny_pyIter_listiter st h
theorem Az {P:Program} {w:World} {K:W.Frag} {tg:Expr} (a it:Addr):Turn P w K tg (TF K a) [it] it (fun i h=>h.IsTupleIter it a i) where
 mem:=by simp
 obj:=fun i h st b hb=>by
  have e:b=it:=by simpa using hb
  subst e
  obtain ⟨o,e,c,d⟩:=st
  exact ⟨o,e,fun v z=>by rw [d] at z;cases z⟩
 keep:=fun i h h' st k=>st.at fun o e=>k it (by simp) o e
 item:=by
  intro X hP hw hK hc i pins s U H E I hf st hg
  subst hP hw hK
  obtain ⟨xs,x,hq,hx⟩:=hg
  obtain ⟨its,rv,p,hz⟩:=I.tuple hq
  obtain ⟨u,hu,ru⟩:=rv.get hx
  obtain ⟨f0,f1,f2,f3,f4,f5⟩:=hf it (by simp)
  refine wpAny_pyNext_tuple_item st (show s.heap.IsTuple a its.toArray from p) (x:=u) (by simpa using hu) fun h' st' sb=>?_
  have I1:Inv X pins U H {s with heap:=h'}:=I.turned (t':=s.toks) (fun b o hb e=>(sb.2 b hb).trans e) f0 f1 f3 f4 f5
  obtain ⟨o,e,c,d⟩:=id st'
  exact ⟨u,rfl,wM (s:={s with heap:=h'}) e c d (by decide) ⟨x,H,I1,ru,⟨rfl,fun ys hy=>by rw [I.tuple_inj hy hq];exact hx⟩,st',fun b hb=>(hf b hb).1⟩⟩
 done:=by
  intro X hP hw hK hc i pins s U H E I hf st hg
  subst hP hw hK
  obtain ⟨xs,hq,hx⟩:=hg
  obtain ⟨its,rv,p,hz⟩:=I.tuple hq
  obtain ⟨f0,f1,f2,f3,f4,f5⟩:=hf it (by simp)
  have hl:=rv.length
  exact wpAny_pyNext_tuple_end (I.ok.hd hc) st (show s.heap.IsTuple a its.toArray from p) (by simp;omega) fun h' eb=>⟨rfl,I.turned (t':=s.toks) (fun b o hb e=>eb b o hb e) f0 f1 f3 f4 f5⟩
 self:=fun _ _ _ _ _ st h=>wpAny_pyIter_tupleiter st h
theorem Ba {P:Program} {w:World} {K:W.Frag} {tg:Expr} (it:Addr) (lo:Int) (n:Nat):Turn P w K tg (KQ lo n) [it] it (fun i h=>IsRangeIter h it (lo+(i:Nat)*1) ((n:Int) - (i:Nat)) 1) where
 mem:=by simp
 obj:=fun i h st b hb=>by
  have e:b=it:=by simpa using hb
  subst e
  exact ⟨_,st,fun v z=>by
   have z':Data.fields _=Data.cell v:=z
   cases z'⟩
 keep:=fun i h h' st k=>k it (by simp) _ st
 item:=by
  intro X hP hw hK hc i pins s U H E I hf st hg
  subst hP hw hK
  obtain ⟨f0,f1,f2,f3,f4,f5⟩:=hf it (by simp)
  have W:=Walks.range (prog:=X.prog) (w:=X.w) (I.ok.hd hc) it lo 1 n
  refine W.item i s _ _ hg st fun v h' tk hv st' kk=>?_
  obtain ⟨t,rfl⟩:=hv
  have I1:Inv X pins U H {s with heap:=h',toks:=tk}:=I.turned (fun b o hb e=>kk b o (by simpa using hb) e) f0 f1 f3 f4 f5
  refine ⟨_,rfl,wM (s:={s with heap:=h',toks:=tk}) (n:="range_iterator") st' rfl rfl (by decide) ⟨.int (lo+i),H,I1,⟨t,?_⟩,⟨rfl,rfl⟩,st',fun b hb=>(hf b hb).1⟩⟩
  rw [Int.mul_one]
 done:=by
  intro X hP hw hK hc i pins s U H E I hf st hg
  subst hP hw hK
  obtain ⟨f0,f1,f2,f3,f4,f5⟩:=hf it (by simp)
  exact wpAny_pyNext_range_end (I.ok.hd hc) st (by have:n<=i:=hg;omega) fun h' eb=>⟨rfl,I.turned (t':=s.toks) (fun b o hb e=>eb b o hb e) f0 f1 f3 f4 f5⟩
 self:=fun _ _ _ _ _ st h=>wpAny_pyIter_rangeiter st h
section
variable {X:Cx} {tg:Expr}
theorem GX {pins:List (Addr×Obj)} {U:St} {H:Hp} {s:Shared} {R:It->Hp->Prop} {E:Value->Shared->Prop} {lo hi:Int} {t u v:Tok} {tk:Nat} (I:Inv X pins U H s) (h1: -(2 ^ 62)<=lo) (h2:lo < 2 ^ 62) (h3: -(2 ^ 62)<=hi) (h4:hi < 2 ^ 62)
  (q:R (KQ lo (hi - lo).toNat) H):wpAny (model X.prog X.w) X.A (pyIter (.ref s.heap.objs.size)) (PIE X pins U tg R) E {s with heap:=s.heap.push {cls:=.type "range",data:=.fields #[.int lo t,.int hi u,.int 1 v]},toks:=tk}:=by
 refine wpAny_pyIter_range (IsRange.new ..) (small_one h1 h2 h3 h4) ?_
 have I1:Inv X pins U H {s with heap:=s.heap.push {cls:=.type "range",data:=.fields #[.int lo t,.int hi u,.int 1 v]},toks:=tk}:=I.kept fun b o e=>Wr _ e
 refine ⟨(s.heap.push {cls:=.type "range",data:=.fields #[.int lo t,.int hi u,.int 1 v]}).objs.size,[(s.heap.push {cls:=.type "range",data:=.fields #[.int lo t,.int hi u,.int 1 v]}).objs.size],_,_,H,rfl,
  I1.kept (t':=tk) fun b o e=>Wr _ e,Ba _ lo (hi - lo).toNat,?_,fun b hb=>?_,q⟩
 ·have e1:lo+((0:Nat):Int)*1=lo:=by simp
  have e2:(((hi - lo).toNat:Nat):Int) - ((0:Nat):Int)=Builtin.Range.rangeSize lo hi 1:=by rw [rangeSize_one];split <;> omega
  show IsRangeIter _ _ (lo+((0:Nat):Int)*1) ((((hi - lo).toNat:Nat):Int) - ((0:Nat):Int)) 1
  rw [e1,e2]
  exact Ww _ rfl
 ·have e:b=(s.heap.push {cls:=.type "range",data:=.fields #[.int lo t,.int hi u,.int 1 v]}).objs.size:=by simpa using hb
  subst e
  exact I1.fpOk (Wq _) (I1.hok.fresh (Wq _))
def GZ (ta:TA):TI:=fun U H R=>ta U H fun vs H1=>∃ j:Int,vs=[.int j]/\-(2 ^ 62)<=j/\j < 2 ^ 62/\R (KQ 0 j.toNat) H1
theorem Ex {a:Expr} {ta:TA} {p pos:Pos} (hg:Gl X "range") (hm:X.mg "range"=none) (ha:PA X [a] ta) (hs:autoParam (starEach [a] X.env=[(false,eval a X.env)]) L2.auto4._auto_1):PI X tg (.Call (.Name "range" p) [a] [] pos) (GZ ta):=by
 intro pins s U H R I h
 refine Call_ (jY I hg hm boot_range (Xo (dW (ha pos pins s U H _ I h) fun us s1 ⟨vs,H1,I1,r1,q1⟩=>?_) hs rfl))
 obtain ⟨j,e,q1,q2,q⟩:=q1
 subst e
 cases r1 with
 | cons r rr=>
  cases rr
  obtain ⟨t,rfl⟩:=r
  exact call_range_1 (GX I1 (by omega) (by omega) q1 q2 (by simpa using q))
def Ld (wi:TI) (g:TG) (tb:TS):TS:=fun D U H=>wi U H fun J H1=>∃ W:Nat->Nat->St->Hp->Prop,(∃ m,W 0 m U H1)/\∀ i m U H,W i m U H->
 (J.stop i H/\D.nx U H)\/(J.go i H/\∃ N:St->Hp->Prop,(∀ U' H',N U' H'->∃ m',m' < m/\W (i+1) m' U' H')/\∀ x H',J.yld i H x H'->g x U H' fun σ2 H2=>tb {D with nx:=N,ct:=N,bk:=D.nx} σ2 H2)
def rW (fp:List Addr) (h:Heap):List (Addr×Obj):=fp.filterMap fun b=>(h.get? b).map fun o=>(b,o)
theorem mL {fp:List Addr} {h:Heap} {b:Addr} {o:Obj} (hb:b∈fp) (e:h.get? b=some o):(b,o)∈rW fp h:=List.mem_filterMap.mpr ⟨b,hb,by rw [e];rfl⟩
theorem Ey {fp:List Addr} {h:Heap} {p:Addr×Obj} (hp:p∈rW fp h):p.1∈fp/\h.get? p.1=some p.2:=by
 obtain ⟨b,hb,e⟩:=List.mem_filterMap.mp hp
 cases q:h.get? b with
 | none=>rw [q] at e;cases e
 | some o=>
  rw [q] at e
  have e':(b,o)=p:=WR e
  subst e'
  exact ⟨hb,q⟩
theorem Inv.pinned {pins:List (Addr×Obj)} {U:St} {H:Hp} {s:Shared} {fp:List Addr} (I:Inv X pins U H s) (hf:∀ b∈fp,lY X pins H b) (ho:∀ b∈fp,∃ o,s.heap.get? b=some o/\∀ v,o.data≠.cell v):Inv X (pins ++ rW fp s.heap) U H s:=
 I.pins_of fun p hp=>(Xi.mp hp).elim (fun z=>I.pin p (Xn _ z)) fun z=>by
  obtain ⟨hb,e⟩:=Ey z
  obtain ⟨f0,f1,f2,_⟩:=hf p.1 hb
  obtain ⟨o,e',d⟩:=ho p.1 hb
  rw [e] at e';cases e'
  exact ⟨e,f0,f1,f2,d⟩
theorem Inv.unpinned {pins pl:List (Addr×Obj)} {U:St} {H:Hp} {s:Shared} (I:Inv X (pins ++ pl) U H s):Inv X pins U H s:=I.pins_of fun p hp=>I.pin p (Xn _ (YS _ hp))
theorem Qw {iter:Expr} {body:List Stmt} {wi:TI} {g:TG} {tb:TS} {pos:Pos} (hp:PassesOwn (model X.prog X.w) X.A X.env X.xe) (hc:X.calm=true) (hi:PI X tg iter wi) (hg:PG X tg g) (hb:PSs X body tb)
  (hs:autoParam (∀ x,foldedSetIterable iter X.env x=pure x) L2.auto3._auto_1):PS X (.For tg iter body [] pos) (Ld wi g tb):=by
 intro pins s U H D I h
 refine wpAny_For (dW (hi pins s U H _ I h) fun v s1 h1=>dW h1 fun itv s2 h2=>?_) hs
 obtain ⟨it,fp,tn,J,H2,e,I2,T,st2,f2,W,⟨m0,w0⟩,turn⟩:=h2
 subst e
 have stat:∀ {H':Hp},(∀ b∈fp,H' b=none)->∀ b∈fp,lY X pins H' b:=fun hn b hb=>⟨hn b hb,(f2 b hb).2⟩
 refine codeAny_forLoop_any (fun n s'=>∃ i U' H',Inv X pins U' H' s'/\tn i s'.heap/\(∀ b∈fp,H' b=none)/\W i n U' H') ?_ m0 ⟨0,U,H2,I2,st2,fun b hb=>(f2 b hb).1,w0⟩
 rintro n s3 ⟨i,σ3,H3,I3,st3,fr3,w3⟩
 rcases turn i n σ3 H3 w3 with ⟨stop,qn⟩ | ⟨go,N,hN,step⟩
 ·refine YQ hp (dW (T.done X rfl rfl rfl hc i pins s3 σ3 H3 X.xe I3 (stat fr3) st3 stop) fun r s4 qq0=>?_)
  obtain ⟨hr,I4⟩:=qq0
  subst hr
  exact wpAny_execs_nil ⟨σ3,H3,I4,qn⟩
 ·refine YQ hp (dW (T.item X rfl rfl rfl hc i pins s3 σ3 H3 X.xe I3 (stat fr3) st3 go) fun r s4 qq0=>?_)
  obtain ⟨u,hr,h4⟩:=qq0
  subst hr
  refine YQ hp (dW h4 fun _ s5 qq0=>?_)
  obtain ⟨x,H5,I5,r5,y5,st5,fr5⟩:=qq0
  have I5':=I5.pinned (stat fr5) (T.obj _ _ st5)
  refine YQ hp (dW (hg _ s5 σ3 H5 x u _ I5' r5 (step x H5 y5)) fun _ s6 qq0=>?_)
  obtain ⟨σ6,H6,I6,q6⟩:=qq0
  refine YQ hp (dW (hb _ s6 σ6 H6 _ I6 q6) fun f s7 q7=>?_)
  have again:∀ {σ7:St} {H7:Hp},Inv X (pins ++ rW fp s5.heap) σ7 H7 s7->N σ7 H7->∃ m,m < n/\∃ i U' H',Inv X pins U' H' s7/\tn i s7.heap/\(∀ b∈fp,H' b=none)/\W i m U' H':=fun {σ7 H7} I7 n7=>by
   obtain ⟨m',hm,w7⟩:=hN σ7 H7 n7
   refine ⟨m',hm,i+1,σ7,H7,I7.unpinned,T.keep _ _ _ st5 fun b hb o e=>(I7.pin (b,o) (Xn _ (Xn _ (mL hb e)))).1,fun b hb=>?_,w7⟩
   obtain ⟨o,e,d⟩:=T.obj _ _ st5 b hb
   exact (I7.pin (b,o) (Xn _ (Xn _ (mL hb e)))).2.1
  cases f with
  | next=>obtain ⟨σ7,H7,I7,n7⟩:=q7;exact again I7 n7
  | cont=>obtain ⟨σ7,H7,I7,n7⟩:=q7;exact again I7 n7
  | brk=>obtain ⟨σ7,H7,I7,q7⟩:=q7;exact ⟨σ7,H7,I7.unpinned,q7⟩
  | ret v=>obtain ⟨x7,σ7,H7,I7,r7,q7⟩:=q7;exact ⟨x7,σ7,H7,I7.unpinned,r7,q7⟩
end
theorem jZ {K:W.Frag} {a:Addr} {xs:List V} {g:TG} {tb:TS} {D:Ends} {U:St} {H:Hp} (Pv:Nat->St->Hp->Prop) (h0:Pv 0 U H) (hl:∀ i U H,i<=xs.length->Pv i U H->SqL K H a xs)
  (hs:∀ i x U H,xs[i]?=some x->Pv i U H->g x U H fun σ2 H2=>tb {D with nx:=Pv (i+1),ct:=Pv (i+1),bk:=D.nx} σ2 H2) (hd:∀ U H,Pv xs.length U H->D.nx U H):
  ∃ W:Nat->Nat->St->Hp->Prop,(∃ m,W 0 m U H)/\∀ i m U H,W i m U H->
   ((Lb K a).stop i H/\D.nx U H)\/((Lb K a).go i H/\∃ N:St->Hp->Prop,(∀ U' H',N U' H'->∃ m',m' < m/\W (i+1) m' U' H')/\∀ x H',(Lb K a).yld i H x H'->g x U H' fun σ2 H2=>tb {D with nx:=N,ct:=N,bk:=D.nx} σ2 H2):=by
 refine ⟨fun i m U H=>m=xs.length - i/\i<=xs.length/\Pv i U H,⟨xs.length,by simp,Xx _,h0⟩,?_⟩
 rintro i m U H ⟨rfl,hi,p⟩
 have q:=hl i U H hi p
 by_cases hlt:i < xs.length
 ·refine .inr ⟨⟨xs,xs[i],q,by simp [hlt]⟩,Pv (i+1),fun U' H' p'=>⟨xs.length - (i+1),by omega,rfl,hlt,p'⟩,fun x H' y=>?_⟩
  obtain ⟨e,y⟩:=y
  subst e
  exact hs i x U _ (y xs q) p
 ·have e:i=xs.length:=by omega
  subst e
  exact .inl ⟨⟨xs,q,Wq _⟩,hd U H p⟩
theorem Le {K:W.Frag} {a:Addr} {xs:List V} {g:TG} {tb:TS} {D:Ends} {U:St} {H:Hp} (Pv:Nat->St->Hp->Prop) (h0:Pv 0 U H) (hl:∀ i U H,i<=xs.length->Pv i U H->SqT K H a xs)
  (hs:∀ i x U H,xs[i]?=some x->Pv i U H->g x U H fun σ2 H2=>tb {D with nx:=Pv (i+1),ct:=Pv (i+1),bk:=D.nx} σ2 H2) (hd:∀ U H,Pv xs.length U H->D.nx U H):
  ∃ W:Nat->Nat->St->Hp->Prop,(∃ m,W 0 m U H)/\∀ i m U H,W i m U H->
   ((TF K a).stop i H/\D.nx U H)\/((TF K a).go i H/\∃ N:St->Hp->Prop,(∀ U' H',N U' H'->∃ m',m' < m/\W (i+1) m' U' H')/\∀ x H',(TF K a).yld i H x H'->g x U H' fun σ2 H2=>tb {D with nx:=N,ct:=N,bk:=D.nx} σ2 H2):=by
 refine ⟨fun i m U H=>m=xs.length - i/\i<=xs.length/\Pv i U H,⟨xs.length,by simp,Xx _,h0⟩,?_⟩
 rintro i m U H ⟨rfl,hi,p⟩
 have q:=hl i U H hi p
 by_cases hlt:i < xs.length
 ·refine .inr ⟨⟨xs,xs[i],q,by simp [hlt]⟩,Pv (i+1),fun U' H' p'=>⟨xs.length - (i+1),by omega,rfl,hlt,p'⟩,fun x H' y=>?_⟩
  obtain ⟨e,y⟩:=y
  subst e
  exact hs i x U _ (y xs q) p
 ·have e:i=xs.length:=by omega
  subst e
  exact .inl ⟨⟨xs,q,Wq _⟩,hd U H p⟩
theorem lZ {lo:Int} {n:Nat} {g:TG} {tb:TS} {D:Ends} {U:St} {H:Hp} (Pv:Nat->St->Hp->Prop) (h0:Pv 0 U H)
  (hs:∀ i U H,i < n->Pv i U H->g (.int (lo+i)) U H fun σ2 H2=>tb {D with nx:=Pv (i+1),ct:=Pv (i+1),bk:=D.nx} σ2 H2) (hd:∀ U H,Pv n U H->D.nx U H):
  ∃ W:Nat->Nat->St->Hp->Prop,(∃ m,W 0 m U H)/\∀ i m U H,W i m U H->
   ((KQ lo n).stop i H/\D.nx U H)\/((KQ lo n).go i H/\∃ N:St->Hp->Prop,(∀ U' H',N U' H'->∃ m',m' < m/\W (i+1) m' U' H')/\∀ x H',(KQ lo n).yld i H x H'->g x U H' fun σ2 H2=>tb {D with nx:=N,ct:=N,bk:=D.nx} σ2 H2):=by
 refine ⟨fun i m U H=>m=n - i/\i<=n/\Pv i U H,⟨n,by simp,Xx _,h0⟩,?_⟩
 rintro i m U H ⟨rfl,hi,p⟩
 by_cases hlt:i < n
 ·refine .inr ⟨hlt,Pv (i+1),fun U' H' p'=>⟨n - (i+1),by omega,rfl,hlt,p'⟩,fun x H' y=>?_⟩
  obtain ⟨e,y⟩:=y
  subst e y
  exact hs i U _ hlt p
 ·have e:i=n:=by omega
  subst e
  exact .inl ⟨Wq _,hd U H p⟩
theorem G5 {c:TT} {tb:TS} {D:Ends} {U:St} {H:Hp} (Pv:St->Hp->Prop) (μ:St->Hp->Nat) (h0:Pv U H)
  (hs:∀ U H,Pv U H->c U H fun b H1=>if b=true then tb {D with nx:=fun U' H'=>Pv U' H'/\μ U' H' < μ U H,ct:=fun U' H'=>Pv U' H'/\μ U' H' < μ U H,bk:=D.nx} U H1 else D.nx U H1)
  (mono:∀ U H Q Q',(∀ b H1,Q b H1->Q' b H1)->c U H Q->c U H Q'):Ay c tb D U H:=by
 refine ⟨fun m U H=>m=μ U H/\Pv U H,⟨_,rfl,h0⟩,?_⟩
 rintro m U H ⟨rfl,p⟩
 refine mono U H _ _ (fun b H1 q=>?_) (hs U H p)
 cases b with
 | true=>exact ⟨_,fun U' H' ⟨p',l⟩=>⟨_,l,rfl,p'⟩,q⟩
 | false=>exact q
abbrev R2:=V->V->Hp->VK->Prop
def OpR (X:Cx) (f:Value->Value->Sem Value) (r:R2):Prop:=
 ∀ (pins:List (Addr×Obj)) (s:Shared) (U:St) (H:Hp) (x y:V) (v u:Value) (Q:VK),Inv X pins U H s->RelV x v->RelV y u->r x y H Q->
  wpAny (model X.prog X.w) X.A (f v u) (EP X pins U Q) X.xe s
def V3 (X:Cx) (f:Value->Sem Value) (r:V->Hp->VK->Prop):Prop:=
 ∀ (pins:List (Addr×Obj)) (s:Shared) (U:St) (H:Hp) (x:V) (v:Value) (Q:VK),Inv X pins U H s->RelV x v->r x H Q->
  wpAny (model X.prog X.w) X.A (f v) (EP X pins U Q) X.xe s
def CallR (X:Cx) (f:Value) (r:List V->Hp->VK->Prop):Prop:=
 ∀ (pins:List (Addr×Obj)) (s:Shared) (U:St) (H:Hp) (xs:List V) (us:List Value) (Q:VK),Inv X pins U H s->Vals xs us->r xs H Q->
  wpAny (model X.prog X.w) X.A (call f us) (EP X pins U Q) X.xe s
def G6 (r:R2) (ta tb:TE):TE:=fun U H Q=>ta U H fun x H1=>tb U H1 fun y H2=>r x y H2 Q
def tUn (r:V->Hp->VK->Prop) (ta:TE):TE:=fun U H Q=>ta U H fun x H1=>r x H1 Q
def rI (C:Int->Int->Prop) (g:Int->Int->V):R2:=fun x y H Q=>∃ i j,x= .int i/\y= .int j/\C i j/\Q (g i j) H
def G7 (g:Int->Int->V):R2:=fun x y H Q=>∃ i j,x= .int i/\y= .int j/\Q (g i j) H
def rU (g:Int->V):V->Hp->VK->Prop:=fun x H Q=>∃ i,x= .int i/\Q (g i) H
section
variable {X:Cx} {a b c:Expr} {ta tb tc:TE} {pos:Pos}
theorem Qx (ha:PE X a ta) (hb:PE X b tb) {pins:List (Addr×Obj)} {s:Shared} {U:St} {H:Hp} {R:V->V->Hp->Prop} (I:Inv X pins U H s)
  (h:ta U H fun x H1=>tb U H1 fun y H2=>R x y H2) {Q:Value->Shared->Prop} {f:Value->Value->Sem Value}
  (hf:∀ v u s2 x y H2,Inv X pins U H2 s2->RelV x v->RelV y u->R x y H2->wpAny (model X.prog X.w) X.A (f v u) Q X.xe s2):
  wpAny (model X.prog X.w) X.A (eval a X.env) (fun v s₁=>wpAny (model X.prog X.w) X.A (eval b X.env) (fun u s₂=>wpAny (model X.prog X.w) X.A (f v u) Q X.xe s₂) X.xe s₁) X.xe s:=by
 refine dW (ha pins s U H _ I h) fun v s1 qq0=>?_
 obtain ⟨x,H1,I1,r1,q1⟩:=qq0
 refine dW (hb pins s1 U H1 _ I1 q1) fun u s2 qq0=>?_
 obtain ⟨y,H2,I2,r2,q2⟩:=qq0
 exact hf v u s2 x y H2 I2 r1 r2 q2
theorem Ua {op:Operator} {r:R2} (ho:OpR X (binaryOp op) r) (ha:PE X a ta) (hb:PE X b tb):PE X (.BinOp a op b pos) (G6 r ta tb):=by
 intro pins s U H Q I h
 exact wpAny_BinOp (Qx ha hb I h fun v u s2 x y H2 I2 rx ry q=>ho pins s2 U H2 x y v u Q I2 rx ry q)
theorem Ub {op:UnaryOp} {r:V->Hp->VK->Prop} (ho:V3 X (unaryOp op) r) (ha:PE X a ta):PE X (.UnaryOp op a pos) (tUn r ta):=by
 intro pins s U H Q I h
 exact UnaryOp_ (dW (ha pins s U H _ I h) fun v s1 ⟨x,H1,I1,r1,q1⟩=>ho pins s1 U H1 x v Q I1 r1 q1)
theorem V4 {f:Value->Value->Sem Value} {C:Int->Int->Prop} {g:Int->Int->Int}
  (rule:∀ (i j:Int) (t u:Tok) (s:Shared) (Q:Value->Shared->Prop) (E:Value->Shared->Prop),C i j->Q (.int (g i j) s.toks) {s with toks:=s.toks+1}->wpAny (model X.prog X.w) X.A (f (.int i t) (.int j u)) Q E s):
  OpR X f (rI C fun i j=>.int (g i j)):=by
 intro pins s U H x y v u Q I rx ry h
 obtain ⟨i,j,rfl,rfl,hc,q⟩:=h
 obtain ⟨t,rfl⟩:=rx
 obtain ⟨t',rfl⟩:=ry
 exact rule i j t t' s _ _ hc ⟨.int (g i j),H,I.tok _,⟨_,rfl⟩,q⟩
theorem Qy {f:Value->Value->Sem Value} {g:Int->Int->Int}
  (rule:∀ (i j:Int) (t u:Tok) (s:Shared) (Q:Value->Shared->Prop) (E:Value->Shared->Prop),Q (.int (g i j) s.toks) {s with toks:=s.toks+1}->wpAny (model X.prog X.w) X.A (f (.int i t) (.int j u)) Q E s):
  OpR X f (G7 fun i j=>.int (g i j)):=by
 intro pins s U H x y v u Q I rx ry h
 obtain ⟨i,j,rfl,rfl,q⟩:=h
 obtain ⟨t,rfl⟩:=rx
 obtain ⟨t',rfl⟩:=ry
 exact rule i j t t' s _ _ ⟨.int (g i j),H,I.tok _,⟨_,rfl⟩,q⟩
theorem Lf {f:Value->Value->Sem Value} {g:Int->Int->Bool}
  (rule:∀ (i j:Int) (t u:Tok) (s:Shared) (Q:Value->Shared->Prop) (E:Value->Shared->Prop),Q (.bool (g i j)) s->wpAny (model X.prog X.w) X.A (f (.int i t) (.int j u)) Q E s):
  OpR X f (G7 fun i j=>.bl (g i j)):=by
 intro pins s U H x y v u Q I rx ry h
 obtain ⟨i,j,rfl,rfl,q⟩:=h
 obtain ⟨t,rfl⟩:=rx
 obtain ⟨t',rfl⟩:=ry
 exact rule i j t t' s _ _ ⟨.bl (g i j),H,I,rfl,q⟩
def CDiv (i j:Int):Prop:=0 < j/\j < 1073741824
def CPow (i j:Int):Prop:=0<=j/\j<=1000000/\i.natAbs < 2 ^ 64
def CMul (i j:Int):Prop:=(-(2 ^ 64) < i/\i < 2 ^ 64)\/(-(2 ^ 64) < j/\j < 2 ^ 64)
theorem CMul.ok {i j:Int} (h:CMul i j):IntMulOk i j:=by
 rcases h with ⟨h1,h2⟩ | ⟨h1,h2⟩
 ·exact .of_left (intBits_le_64 h1 h2)
 ·exact .of_right (intBits_le_64 h1 h2)
theorem Qz:OpR X (binaryOp .Add) (G7 fun i j=>.int (i+j)):=Qy fun _ _ _ _ _ _ _ q=>add_int q
theorem gQ:OpR X (binaryOp .Sub) (G7 fun i j=>.int (i - j)):=Qy fun _ _ _ _ _ _ _ q=>sub_int q
theorem QB:OpR X (binaryOp .Mult) (rI CMul fun i j=>.int (i*j)):=V4 fun _ _ _ _ _ _ _ hc q=>mul_int q hc.ok
theorem iu:OpR X (binaryOp .FloorDiv) (rI CDiv fun i j=>.int (i / j)):=V4 fun i j _ _ _ _ _ hc q=>by
 have h1:(0:Int) < j:=hc.1
 have h2:j < 1073741824:=hc.2
 exact floordiv_int (by omega) (by rw [Int.fdiv_eq_ediv_of_nonneg i (by omega)];exact q) (.inl (PyProof.noPylong_small (by omega)))
theorem gB:OpR X (binaryOp .Mod) (rI (fun _ j=>0 < j) fun i j=>.int (i % j)):=V4 fun i j _ _ _ _ _ hc q=>by
 have h1:(0:Int) < j:=hc
 exact mod_int' (by omega) (by rw [Int.fmod_eq_emod_of_nonneg i (by omega)];exact q)
theorem QC:OpR X (binaryOp .Pow) (rI CPow fun i j=>.int (i ^ j.toNat)):=V4 fun _ _ _ _ _ _ _ hc q=>pow_int_small hc.1 hc.2.1 hc.2.2 q
theorem uG:OpR X (inplaceOp .Sub) (G7 fun i j=>.int (i - j)):=Qy fun _ _ _ _ _ _ _ q=>isub_int q
theorem unI {f:Value->Sem Value} {g:Int->Int}
  (rule:∀ (i:Int) (t:Tok) (s:Shared) (Q:Value->Shared->Prop) (E:Value->Shared->Prop),Q (.int (g i) s.toks) {s with toks:=s.toks+1}->wpAny (model X.prog X.w) X.A (f (.int i t)) Q E s):
  V3 X f (rU fun i=>.int (g i)):=by
 intro pins s U H x v Q I rx h
 obtain ⟨i,rfl,q⟩:=h
 obtain ⟨t,rfl⟩:=rx
 exact rule i t s _ _ ⟨.int (g i),H,I.tok _,⟨_,rfl⟩,q⟩
theorem qd:V3 X (unaryOp .USub) (rU fun i=>.int (-i)):=unI fun _ _ _ _ _ q=>neg_int q
end
def Uc:V->V->Bool
 | .non,.non=>true | .non,.int _=>true | .int _,.non=>true | .non,.bl _=>true | .bl _,.non=>true | .non,.str _=>true | .str _,.non=>true
 | .int _,.int _=>true | .bl _,.bl _=>true | .str _,.str _=>true | .byt _,.byt _=>true
 | .int _,.str _=>true | .str _,.int _=>true | .bl _,.str _=>true | .str _,.bl _=>true
 | _,_=>false
def rEq:R2:=fun x y H Q=>Uc x y=true/\Q (.bl (decide (x=y))) H
def rNe:R2:=fun x y H Q=>Uc x y=true/\Q (.bl (!decide (x=y))) H
theorem CW {i j:Int}:decide (V.int i=V.int j)=(i == j):=by
 rw [Y9]
 simp
theorem G8 {i j:Bool}:decide (V.bl i=V.bl j)=(i == j):=by
 rw [Y9]
 simp
theorem CZ {i j:Str}:decide (V.str i=V.str j)=(i == j):=by
 rw [Y9]
 simp
theorem Dc {i j:Array UInt8}:decide (V.byt i=V.byt j)=(i.toList == j.toList):=by
 rw [Y9]
 cases i
 cases j
 simp
section
variable {X:Cx} {a b c:Expr} {ta tb tc:TE} {pos:Pos}
theorem bJ {pins:List (Addr×Obj)} {U:St} {H:Hp} {s:Shared} {Q:VK} {k k':Bool} (I:Inv X pins U H s) (q:Q (.bl k) H) (e:k=k'):EP X pins U Q (.bool k') s:=by
 subst e
 exact ⟨.bl k,H,I,rfl,q⟩
theorem Ud:OpR X (compareOp .Eq) rEq:=by
 intro pins s U H x y v u Q I rx ry h
 obtain ⟨hs,q⟩:=h
 cases x with
 | non=>
  cases rx
  cases y with
  | non=>cases ry;exact PySem.EqNone.eq_none_none (bJ I q (by simp))
  | bl j=>cases ry;exact PySem.EqNone.eq_none_bool (bJ I q (by simp))
  | int j=>obtain ⟨t',rfl⟩:=ry;exact PySem.EqNone.eq_none_int (bJ I q (by simp))
  | str j=>obtain ⟨t',rfl⟩:=ry;exact PySem.EqNone.eq_none_str (bJ I q (by simp))
  | _=>exact absurd (show false=true from hs) WF
 | bl i=>
  cases rx
  cases y with
  | non=>cases ry;exact PySem.EqNone.eq_bool_none (bJ I q (by simp))
  | bl j=>cases ry;exact eq_bool (bJ I q G8)
  | str j=>obtain ⟨t',rfl⟩:=ry;exact PySem.EqMixed.eq_bool_str (bJ I q (by simp))
  | _=>exact absurd (show false=true from hs) WF
 | int i=>
  obtain ⟨t,rfl⟩:=rx
  cases y with
  | non=>cases ry;exact PySem.EqNone.eq_int_none (bJ I q (by simp))
  | int j=>obtain ⟨t',rfl⟩:=ry;exact eq_int (bJ I q CW)
  | str j=>obtain ⟨t',rfl⟩:=ry;exact PySem.EqMixed.eq_int_str (bJ I q (by simp))
  | _=>exact absurd (show false=true from hs) WF
 | str i=>
  obtain ⟨t,rfl⟩:=rx
  cases y with
  | non=>cases ry;exact PySem.EqNone.eq_str_none (bJ I q (by simp))
  | bl j=>cases ry;exact PySem.EqMixed.eq_str_bool (bJ I q (by simp))
  | int j=>obtain ⟨t',rfl⟩:=ry;exact PySem.EqMixed.eq_str_int (bJ I q (by simp))
  | str j=>obtain ⟨t',rfl⟩:=ry;exact eq_str (bJ I q CZ)
  | _=>exact absurd (show false=true from hs) WF
 | byt i=>
  obtain ⟨t,rfl⟩:=rx
  cases y with
  | byt j=>obtain ⟨t',rfl⟩:=ry;exact PySem.W.eq_bytes (bJ I q Dc)
  | _=>exact absurd (show false=true from hs) WF
 | _=>cases y <;> exact absurd (show false=true from hs) WF
theorem Ue:OpR X (compareOp .NotEq) rNe:=by
 intro pins s U H x y v u Q I rx ry h
 obtain ⟨hs,q⟩:=h
 cases x with
 | non=>
  cases rx
  cases y with
  | non=>cases ry;exact PySem.EqNone.ne_none_none (bJ I q (by simp))
  | bl j=>cases ry;exact PySem.EqNone.ne_none_bool (bJ I q (by simp))
  | int j=>obtain ⟨t',rfl⟩:=ry;exact PySem.EqNone.ne_none_int (bJ I q (by simp))
  | str j=>obtain ⟨t',rfl⟩:=ry;exact PySem.EqNone.ne_none_str (bJ I q (by simp))
  | _=>exact absurd (show false=true from hs) WF
 | bl i=>
  cases rx
  cases y with
  | non=>cases ry;exact PySem.EqNone.ne_bool_none (bJ I q (by simp))
  | bl j=>cases ry;exact ne_bool (bJ I q (congrArg not G8))
  | str j=>obtain ⟨t',rfl⟩:=ry;exact PySem.EqMixed.ne_bool_str (bJ I q (by simp))
  | _=>exact absurd (show false=true from hs) WF
 | int i=>
  obtain ⟨t,rfl⟩:=rx
  cases y with
  | non=>cases ry;exact PySem.EqNone.ne_int_none (bJ I q (by simp))
  | int j=>obtain ⟨t',rfl⟩:=ry;exact ne_int (bJ I q (congrArg not CW))
  | str j=>obtain ⟨t',rfl⟩:=ry;exact PySem.EqMixed.ne_int_str (bJ I q (by simp))
  | _=>exact absurd (show false=true from hs) WF
 | str i=>
  obtain ⟨t,rfl⟩:=rx
  cases y with
  | non=>cases ry;exact PySem.EqNone.ne_str_none (bJ I q (by simp))
  | bl j=>cases ry;exact PySem.EqMixed.ne_str_bool (bJ I q (by simp))
  | int j=>obtain ⟨t',rfl⟩:=ry;exact PySem.EqMixed.ne_str_int (bJ I q (by simp))
  | str j=>obtain ⟨t',rfl⟩:=ry;exact ne_str (bJ I q (congrArg not CZ))
  | _=>exact absurd (show false=true from hs) WF
 | byt i=>
  obtain ⟨t,rfl⟩:=rx
  cases y with
  | byt j=>obtain ⟨t',rfl⟩:=ry;exact PySem.W.ne_bytes (bJ I q (congrArg not Dc))
  | _=>exact absurd (show false=true from hs) WF
 | _=>cases y <;> exact absurd (show false=true from hs) WF
theorem t7:OpR X (compareOp .Lt) (G7 fun i j=>.bl (decide (i < j))):=Lf fun _ _ _ _ _ _ _ q=>lt_int q
theorem G9:OpR X (compareOp .LtE) (G7 fun i j=>.bl (decide (i<=j))):=Lf fun _ _ _ _ _ _ _ q=>le_int q
theorem qR:OpR X (compareOp .Gt) (G7 fun i j=>.bl (decide (j < i))):=Lf fun _ _ _ _ _ _ _ q=>gt_int q
theorem Ug:OpR X (compareOp .GtE) (G7 fun i j=>.bl (decide (j<=i))):=Lf fun _ _ _ _ _ _ _ q=>ge_int q
theorem Ez:OpR X (compareOp .In) (fun x y H Q=>∃ i j,x= .str i/\y= .str j/\Q (.bl (!(Builtin.Str.occurrences j i 0 j.length 1).isEmpty)) H):=by
 intro pins s U H x y v u Q I rx ry h
 obtain ⟨i,j,rfl,rfl,q⟩:=h
 obtain ⟨t,rfl⟩:=rx
 obtain ⟨t',rfl⟩:=ry
 exact in_str (bJ I q rfl)
theorem OpR.or {f:Value->Value->Sem Value} {r r':R2} (h:OpR X f r) (h':OpR X f r'):OpR X f (fun x y H Q=>r x y H Q\/r' x y H Q):=by
 intro pins s U H x y v u Q I rx ry q
 rcases q with q | q
 ·exact h pins s U H x y v u Q I rx ry q
 ·exact h' pins s U H x y v u Q I rx ry q
theorem bh (b:Expr) {op:CmpOp} (h:autoParam (op≠.In) L2.auto2._auto_1) (h2:autoParam (op≠.NotIn) L2.auto2._auto_1):behindInMarks op b=false:=by
 have e1:(op == CmpOp.In)=false:=by cases op <;> first | rfl | exact absurd rfl h
 have e2:(op == CmpOp.NotIn)=false:=by cases op <;> first | rfl | exact absurd rfl h2
 cases b <;> simp [behindInMarks,e1,e2]
theorem Lh {op:CmpOp} {r:R2} (ho:OpR X (compareOp op) r) (ha:PE X a ta) (hb:PE X b tb) (hm:behindInMarks op b=false):PE X (.Compare a [op] [b] pos) (G6 r ta tb):=by
 intro pins s U H Q I h
 exact wpAny_Compare1 (Qx ha hb I h fun v u s2 x y H2 I2 rx ry q=>ho pins s2 U H2 x y v u Q I2 rx ry q) hm
def wN (t:TE):TT:=fun U H Q=>t U H fun x H'=>∃ k,x= .bl k/\Q k H'
theorem Li {op:CmpOp} {r:R2} (ho:OpR X (compareOp op) r) (ha:PE X a ta) (hb:PE X b tb) (hm:behindInMarks op b=false):PT X (.Compare a [op] [b] pos) (wN (G6 r ta tb)):=by
 intro pins s U H Q I h
 refine wpAny_isTrue_Compare1 (dW (ha pins s U H _ I h) fun v s1 ⟨x,H1,I1,r1,q1⟩=>dW (hb pins s1 U H1 _ I1 q1) fun u s2 ⟨y,H2,I2,r2,q2⟩=>
  dW (ho pins s2 U H2 x y v u _ I2 r1 r2 q2) fun c s3 ⟨z,H3,I3,r3,k,e,q3⟩=>?_) hm
 subst e
 cases r3
 exact Yd ⟨H3,I3,q3⟩
def uR (r r':R2) (ta tb tc:TE):TE:=fun U H Q=>ta U H fun x H1=>tb U H1 fun y H2=>r x y H2 fun z H3=>∃ k,z= .bl k/\
 (if k=true then tc U H3 fun w' H4=>r' y w' H4 Q else Q (.bl false) H3)
theorem Ha {op op':CmpOp} {r r':R2} (ho:OpR X (compareOp op) r) (ho':OpR X (compareOp op') r') (ha:PE X a ta) (hb:PE X b tb) (hc:PE X c tc)
  (hm:autoParam (lastMarks [op,op'] [b,c]=false) L2.auto5._auto_1):PE X (.Compare a [op,op'] [b,c] pos) (uR r r' ta tb tc):=by
 intro pins s U H Q I h
 refine Compare_chain (dW (ha pins s U H _ I h) fun v s1 ⟨x,H1,I1,r1,q1⟩=>chain_link (dW (hb pins s1 U H1 _ I1 q1) fun u s2 ⟨y,H2,I2,r2,q2⟩=>
  dW (ho pins s2 U H2 x y v u _ I2 r1 r2 q2) fun d s3 ⟨z,H3,I3,r3,k,e,q3⟩=>?_)) hm
 subst e
 cases r3
 refine Yd ?_
 cases k with
 | false=>exact ite_ff ⟨.bl false,H3,I3,rfl,q3⟩
 | true=>exact ite_tt (chain_last (dW (hc pins s3 U H3 _ I3 q3) fun w' s4 ⟨z',H4,I4,r4,q4⟩=>ho' pins s4 U H4 y z' u w' Q I4 r2 r4 q4))
theorem Hb {op op':CmpOp} {r r':R2} (ho:OpR X (compareOp op) r) (ho':OpR X (compareOp op') r') (ha:PE X a ta) (hb:PE X b tb) (hc:PE X c tc)
  (hm:autoParam (lastMarks [op,op'] [b,c]=false) L2.auto5._auto_1):PT X (.Compare a [op,op'] [b,c] pos) (wN (uR r r' ta tb tc)):=by
 intro pins s U H Q I h
 refine isTrue_chain (dW (ha pins s U H _ I h) fun v s1 ⟨x,H1,I1,r1,q1⟩=>test_link (dW (hb pins s1 U H1 _ I1 q1) fun u s2 ⟨y,H2,I2,r2,q2⟩=>
  dW (ho pins s2 U H2 x y v u _ I2 r1 r2 q2) fun d s3 ⟨z,H3,I3,r3,k,e,q3⟩=>?_)) hm
 subst e
 cases r3
 refine Yd ?_
 cases k with
 | false=>
  obtain ⟨k',e',q'⟩:=q3
  cases e'
  exact ite_ff ⟨H3,I3,q'⟩
 | true=>
  refine ite_tt (test_last (dW (hc pins s3 U H3 _ I3 q3) fun w' s4 ⟨z',H4,I4,r4,q4⟩=>dW (ho' pins s4 U H4 y z' u w' _ I4 r2 r4 q4) fun d' s5 qq0=>?_))
  obtain ⟨z2,H5,I5,r5,k2,e2,q5⟩:=qq0
  subst e2
  cases r5
  exact Yd ⟨H5,I5,q5⟩
theorem uT:(sizeLine:Nat) < 2 ^ 63:=by rw [sizeLine_eq];decide
theorem Bb:OpR X (binaryOp .Add) (fun x y H Q=>∃ i j,x= .str i/\y= .str j/\i.length+j.length<=sizeLine/\Q (.str (i ++ j)) H):=by
 intro pins s U H x y v u Q I rx ry h
 obtain ⟨i,j,rfl,rfl,hz,q⟩:=h
 obtain ⟨t,rfl⟩:=rx
 obtain ⟨t',rfl⟩:=ry
 exact add_str (fun t' tk=>⟨.str (i ++ j),H,I.tok _,⟨_,rfl⟩,q⟩) hz
theorem vals1 {x:V} {us:List Value} (r:Vals [x] us):∃ u,us=[u]/\RelV x u:=by
 cases r with
 | cons r1 r2=>cases r2;exact ⟨_,rfl,r1⟩
theorem vals2 {x y:V} {us:List Value} (r:Vals [x,y] us):∃ u w',us=[u,w']/\RelV x u/\RelV y w':=by
 cases r with
 | cons r1 r2=>
  cases r2 with
  | cons r3 r4=>cases r4;exact ⟨_,_,rfl,r1,r3⟩
theorem o7 (hc:X.calm=true):CallR X (.builtin "max") (fun xs H Q=>∃ i j,xs=[.int i,.int j]/\Q (.int (if j > i then j else i)) H):=by
 intro pins s U H xs us Q I r h
 obtain ⟨i,j,rfl,q⟩:=h
 obtain ⟨u,w',rfl,⟨t,rfl⟩,⟨t',rfl⟩⟩:=vals2 r
 refine max_two_ints (I.ok.hd hc) fun h' tk k=>⟨_,H,I.kept k,?_,q⟩
 by_cases hj:j > i
 ·rw [if_pos hj,if_pos hj];exact ⟨_,rfl⟩
 ·rw [if_neg hj,if_neg hj];exact ⟨_,rfl⟩
theorem EY:CallR X (.type "int") (fun xs H Q=>(∃ i,xs=[.int i]/\Q (.int i) H)\/∃ k,xs=[.bl k]/\Q (.int (if k then 1 else 0)) H):=by
 intro pins s U H xs us Q I r h
 rcases h with ⟨i,rfl,q⟩ | ⟨k,rfl,q⟩
 ·obtain ⟨u,rfl,t,rfl⟩:=vals1 r
  exact call_int_int ⟨.int i,H,I,⟨_,rfl⟩,q⟩
 ·obtain ⟨u,rfl,r1⟩:=vals1 r
  cases r1
  exact call_int_bool ⟨.int (if k then 1 else 0),H,I.tok _,⟨_,rfl⟩,q⟩
theorem zc:CallR X (.builtin "ord") (fun xs H Q=>∃ x,xs=[.str x]/\x.length=1/\Q (.int (x.cps.getD 0 0:Nat)) H):=by
 intro pins s U H xs us Q I r h
 obtain ⟨x,rfl,hz,q⟩:=h
 obtain ⟨u,rfl,t,rfl⟩:=vals1 r
 exact ord_of_one hz ⟨.int _,H,I.tok _,⟨_,rfl⟩,q⟩
def Uh (K:W.Frag) (x:V) (H:Hp) (n:Nat):Prop:=
 match x with
 | .str y=>y.length<=sizeLine/\n=y.length
 | .byt y=>y.size<=sizeLine/\n=y.size
 | .ref p=>(∃ xs,SqL K H p xs/\n=xs.length)\/∃ xs,SqT K H p xs/\n=xs.length
 | _=>False
theorem Hc:CallR X (.builtin "len") (fun xs H Q=>∃ x n,xs=[x]/\Uh X.K x H n/\Q (.int n) H):=by
 intro pins s U H xs us Q I r h
 obtain ⟨x,n,rfl,e,q⟩:=h
 obtain ⟨u,rfl,rx⟩:=vals1 r
 have hl:=uT
 have hs:sizeLine=16777216:=sizeLine_eq
 cases x with
 | str y=>
  obtain ⟨t,rfl⟩:=rx
  obtain ⟨hy,e'⟩:y.length<=sizeLine/\n=y.length:=e
  subst e'
  exact len_str (by omega) ⟨.int _,H,I.tok _,⟨_,rfl⟩,q⟩
 | byt y=>
  obtain ⟨t,rfl⟩:=rx
  obtain ⟨hy,e'⟩:y.size<=sizeLine/\n=y.size:=e
  subst e'
  exact PySem.W.len_bytes (by omega) ⟨.int _,H,I.tok _,⟨_,rfl⟩,q⟩
 | ref p=>
  cases rx
  have e':(∃ xs,SqL X.K H p xs/\n=xs.length)\/∃ xs,SqT X.K H p xs/\n=xs.length:=e
  rcases e' with ⟨xs,hx,e'⟩ | ⟨xs,hx,e'⟩
  ·subst e'
   obtain ⟨its,r',pl,hz⟩:=I.list hx
   have hlen:=r'.length
   exact Calls.call_len_list pl.isList (by simp only [WQ];omega) ⟨.int xs.length,H,I.tok _,⟨_,by simp only [WQ];rw [hlen]⟩,q⟩
  ·subst e'
   obtain ⟨its,r',pl,hz⟩:=I.tuple hx
   have hlen:=r'.length
   exact len_tuple pl (by simp only [WQ];omega) ⟨.int xs.length,H,I.tok _,⟨_,by simp only [WQ];rw [hlen]⟩,q⟩
 | _=>exact (show False from e).elim
end
structure ObjM (h:Heap) (x dx C:Addr) (mA:Str->Option Value):Prop where
 obj:h.get? x=some (PySem.W.instObj C dx)
 ns:h.Ns1 dx mA
 ne:dx≠x
theorem rY {h:Heap} {dx:Addr} {mA:Str->Option Value} (n:h.Ns1 dx mA):∃ od,h.get? dx=some od/\∀ name,PySem.W.lookIn name od=some (mA name):=by
 obtain ⟨o,es,ep,ho,hd,hk,_,hm⟩:=n
 refine ⟨o,ho,fun name=>?_⟩
 have e:=hm name
 unfold nsFind findBy at e
 rw [← Array.find?_toList] at e
 unfold PySem.W.lookIn
 rw [hd]
 dsimp only
 split
 ·rename_i y q
  rw [q] at e
  exact congrArg some e
 ·rename_i q
  rw [q] at e
  have a:es.toList.any (·.refKey)=false:=by
   rw [List.any_eq_false]
   intro y hy
   obtain ⟨z,t,hkey⟩:=hk y (Array.mem_toList_iff.mp hy)
   simp [DictEntry.refKey,hkey]
  have a':¬ es.toList.any (·.refKey)=true:=by rw [a];exact WF
  rw [if_neg a']
  exact congrArg some e
theorem ObjM.look {h:Heap} {x dx C:Addr} {mA:Str->Option Value} (I:ObjM h x dx C mA):∃ od,PySem.W.InstAt h x (PySem.W.instObj C dx) C (some od)/\∀ name,PySem.W.lookIn name od=some (mA name):=
 let ⟨od,ho,hl⟩:=rY I.ns
 ⟨od,⟨I.obj,rfl,rfl,ho⟩,hl⟩
section
variable {prog:Program} {w:World} {A:Around} {E:Value->Shared->Prop} {s:Shared} {K:W.Frag} {x dx C f:Addr} {mA:Str->Option Value} {name:Str} {v:Value}
theorem Lj {expr:Bool} {Q:Value->Shared->Prop} (X:K.In s.heap) (I:ObjM s.heap x dx C mA) (hg:PySem.W.plainGet K C name=true) (hh:PySem.W.hasDictIn K C=true)
  (ha:PySem.W.findIn K (.ref C) name=some none) (hv:mA name=some v) (hv':PySem.W.handedIn v=true) (h:Q v {s with toks:=s.toks+1}):
  wpAny (model prog w) A (getAttr (.ref x) name expr) Q E s:=by
 obtain ⟨od,J,hl⟩:=I.look
 exact PySem.W.get_value X J (PySem.W.plainGet_of hg).1 (PySem.W.findObj_own hh ha rfl (by rw [hl,hv])) hv' h
theorem Hd {pl:Sem Bool} {Q:Value×List Value->Shared->Prop} (X:K.In s.heap) (I:ObjM s.heap x dx C mA) (hg:PySem.W.plainGet K C name=true)
  (hf:PySem.W.findIn K (.ref C) name=some (some (.ref f))) (ht:PySem.W.isFn K (.ref f)=true) (hv:mA name=none) (h:Q (.ref f,[.ref x]) s):
  wpAny (model prog w) A (getMethod (.ref x) name pl) Q E s:=by
 obtain ⟨od,J,hl⟩:=I.look
 exact PySem.W.method_fn X J (PySem.W.plainGet_of hg).1 (PySem.W.plainGet_of hg).2 hf (Yv.mp ht) (by show (PySem.W.lookIn name od).map (·.isSome)=some false;rw [hl,hv];rfl) h
theorem Lk {ns:List Str} {Q:Unit->Shared->Prop} (X:K.In s.heap) (I:ObjM s.heap x dx C mA)
  (hs:PySem.W.findIn K (.ref C) "__setattr__"=some (some (.builtin "object.__setattr__"))) (hp:PySem.W.plainOver K C=true) (ht:PySem.W.takerIn K C name=some none) (hh:PySem.W.hasDictIn K C=true)
  (hw:PySem.Within mA ns) (hsz:ns.length<=sizeLine)
  (h:∀ h',ObjM h' x dx C (fun y=>if y=name then some v else mA y)->Heap.SameBut dx s.heap h'->Q () {s with heap:=h',toks:=s.toks+2}):
  wpAny (model prog w) A (setAttr (.ref x) name v) Q E s:=by
 obtain ⟨od,J,hl⟩:=I.look
 refine PySem.W.set_plain X J hs (PySem.W.osa_open (s:={s with toks:=s.toks+1}) (r:=none) X J hp ht fun b=>?_)
 obtain ⟨cd,hc,hd'⟩:=PySem.W.any_some hh
 have hx:s.heap.get? x=some ⟨.ref C,some dx,.plain,#[]⟩:=I.obj
 refine Wl (Wt (Wl (Wl (Zf hx (Wl (PySem.W.Looks.here (s:={s with toks:=s.toks+1}) (PySem.W.looks_clsIn X hc) ?_))))))
 rw [hd']
 refine Wt (a:=some dx) (Wl (Wt (Wl ?_)))
 refine wpAny_nsSet1 (s:={s with toks:=s.toks+1}) I.ns fun h' hn2 hs2=>?_
 obtain ⟨oD,esD,epD,hoD,hdD,hcD⟩:=hn2.count (PySem.Within.cons name v hw)
 refine Wl (wpAny_lookBehind hoD (by rw [hdD];exact pastItsLine_dict (WY hcD (by rw [Xy];omega))) ?_)
 exact Wt (h _ ⟨(hs2.2 _ (Ne.symm I.ne)).trans I.obj,hn2,I.ne⟩ hs2)
theorem Hf {R:Result->Shared->Prop} {vs:List Value} {kw:List (Str×Value)} (X:K.In s.heap) (hm:PySem.W.makesIn K C=true)
  (hi:PySem.W.findIn K (.ref C) "__init__"=some (some (.ref f))) (hf:PySem.W.typeIn K (.ref f)=some (.type "function"))
  (h:codeAny (model prog w) (A.under (.builtin "type.__call__" ⟨.ref C :: vs,kw⟩)) (.call (.ref f) ⟨.ref (s.heap.objs.size+1) :: vs,kw⟩) (PySem.W.InitBack (s.heap.objs.size+1) R)
   {s with heap:=(s.heap.push PySem.W.emptyDict).push (PySem.W.instObj C s.heap.objs.size)}):
  codeAny (model prog w) A (.call (.ref C) ⟨vs,kw⟩) R s:=by
 obtain ⟨hh,g,d,t,os⟩:=s
 exact PySem.W.make_core (PySem.W.makes_of X hm) (Yj X hi) (fun self=>PySem.W.bind_fn X self hf) (.inl rfl) h
end
def lE (f:Str) (v:V):List (Str×V)->List (Str×V)
 | []=>[(f,v)]
 | (g,x) :: r=>if g=f then (g,v) :: r else (g,x) :: lE f v r
theorem nZ (f g:Str) (v:V):∀ fs:List (Str×V),(lE f v fs).lookup g=if g=f then some v else fs.lookup g
 | []=>by
  show List.lookup g [(f,v)]=_
  by_cases h:g=f
  ·have hb:(g == f)=true:=Yv.mpr h
   simp only [List.lookup,hb,if_pos h]
  ·have hb:(g == f)=false:=YD.mpr h
   simp only [List.lookup,hb,if_neg h]
 | (k,x) :: r=>by
  have ih:=nZ f g v r
  rw [show lE f v ((k,x) :: r)=(if k=f then (k,v) :: r else (k,x) :: lE f v r) from rfl]
  by_cases hk:k=f
  ·rw [if_pos hk]
   by_cases h:g=k
   ·have hb:(g == k)=true:=Yv.mpr h
    simp only [List.lookup,hb,if_pos (h.trans hk)]
   ·have hb:(g == k)=false:=YD.mpr h
    simp only [List.lookup,hb,if_neg (fun e:g=f=>h (e.trans hk.symm))]
  ·rw [if_neg hk]
   by_cases h:g=k
   ·have hb:(g == k)=true:=Yv.mpr h
    simp only [List.lookup,hb,if_neg (fun e:g=f=>hk (h.symm.trans e))]
   ·have hb:(g == k)=false:=YD.mpr h
    simp only [List.lookup,hb]
    exact ih
theorem rZ (f:Str) (v:V):∀ fs:List (Str×V),f∈(lE f v fs).map (·.1)/\∀ g,g∈fs.map (·.1)->g∈(lE f v fs).map (·.1)
 | []=>⟨by simp [lE],fun g h=>by simp at h⟩
 | (k,x) :: r=>by
  obtain ⟨i1,i2⟩:=rZ f v r
  rw [show lE f v ((k,x) :: r)=(if k=f then (k,v) :: r else (k,x) :: lE f v r) from rfl]
  by_cases hk:k=f
  ·rw [if_pos hk]
   subst hk
   exact ⟨by simp,fun g h=>by simpa using h⟩
  ·rw [if_neg hk]
   refine ⟨?_,fun g h=>?_⟩
   ·rw [Xh]
    exact WL _ i1
   ·rw [Xh] at h ⊢
    rcases WD.mp h with e | e
    ·exact WD.mpr (.inl e)
    ·exact WL _ (i2 g e)
theorem t8 (f:Str) (v:V):∀ fs:List (Str×V),(lE f v fs).length<=fs.length+1
 | []=>by simp [lE]
 | (k,x) :: r=>by
  have ih:=t8 f v r
  rw [show lE f v ((k,x) :: r)=(if k=f then (k,v) :: r else (k,x) :: lE f v r) from rfl]
  by_cases hk:k=f
  ·rw [if_pos hk,Xy,Xy];omega
  ·rw [if_neg hk,Xy,Xy];omega
theorem RelO.some_of {v:V} {o:Option Value} (r:RelO (some v) o):∃ u,o=some u/\RelV v u:=by
 cases o with
 | none=>exact (show False from r).elim
 | some u=>exact ⟨u,rfl,r⟩
theorem RelO.none_of {o:Option Value} (r:RelO none o):o=none:=by
 cases o with
 | none=>rfl
 | some u=>exact (show False from r).elim
theorem wO {v:V} {u:Value} (r:RelV v u):PySem.W.handedIn u=true:=by
 cases v with
 | non=>cases (show u=Value.none from r);rfl
 | bl b=>cases (show u=Value.bool b from r);rfl
 | int i=>obtain ⟨t,e⟩:=(show ∃ t,u=Value.int i t from r);cases e;rfl
 | str x=>obtain ⟨t,e⟩:=(show ∃ t,u=Value.str x t from r);cases e;rfl
 | byt b=>obtain ⟨t,e⟩:=(show ∃ t,u=Value.bytes b t from r);cases e;rfl
 | flt b=>obtain ⟨t,e⟩:=(show ∃ t,u=Value.float b t from r);cases e;rfl
 | ref a=>cases (show u=Value.ref a from r);rfl
 | ty n=>cases (show u=Value.type n from r);rfl
section
variable {P:Program} {w:World} {H H':Hp} {h h':Heap} {a C dx:Addr} {fs fs':List (Str×V)}
theorem qT (hok:HOk P w H h) (e:H a=some (.ins C dx fs)):∃ mA,ObjM h a dx C mA/\(∀ f,RelO (fs.lookup f) (mA f))/\PySem.Within mA (fs.map (·.1))/\fs.length<=1000/\H dx=some (.own a):=by
 obtain ⟨d,z,ne,ob,mA,n,r,q⟩:=(show ObjOk P w H h a (.ins C dx fs) from hok a _ e)
 exact ⟨mA,⟨ob,n,ne⟩,r,q,z,d⟩
end
structure Cls (K:W.Frag) (C:Addr):Prop where
 pg:PySem.W.plainGet K C Str.empty=true
 hd:PySem.W.hasDictIn K C=true
 po:PySem.W.plainOver K C=true
 sa:PySem.W.findIn K (.ref C) "__setattr__"=some (some (.builtin "object.__setattr__"))
theorem Cls.get {K:W.Frag} {C:Addr} (c:Cls K C) (f:Str):PySem.W.plainGet K C f=true:=c.pg
def NoAttr (K:W.Frag) (C:Addr) (f:Str):Prop:=PySem.W.findIn K (.ref C) f=some none
theorem NoAttr.taker {K:W.Frag} {C:Addr} {f:Str} (n:NoAttr K C f):PySem.W.takerIn K C f=some none:=by
 unfold PySem.W.takerIn
 rw [show PySem.W.findIn K (.ref C) f=some none from n]
 rfl
structure Meth (K:W.Frag) (C:Addr) (m:Str) (f:Addr):Prop where
 at_:PySem.W.findIn K (.ref C) m=some (some (.ref f))
 fn:PySem.W.isFn K (.ref f)=true
 kp:PySem.W.keepIn K (.ref f)=true
section
variable {X:Cx} {pins:List (Addr×Obj)} {U:St} {H:Hp} {s:Shared} {a C dx:Addr} {fs:List (Str×V)} {f:Str} {v:V} {A:Around} {E:Value->Shared->Prop}
theorem Bc {b:Bool} {Q:Value->Shared->Prop} (I:Inv X pins U H s) (e:H a=some (.ins C dx fs)) (c:Cls X.K C) (n:NoAttr X.K C f) (l:fs.lookup f=some v)
  (h:∀ u s',Inv X pins U H s'->RelV v u->Q u s'):wpAny (model X.prog X.w) A (getAttr (.ref a) f b) Q E s:=by
 obtain ⟨mA,O,r,_,_,_⟩:=qT I.hok e
 obtain ⟨u,hu,ru⟩:=RelO.some_of (v:=v) (o:=mA f) (by rw [← l];exact r f)
 exact Lj I.kIn O (c.get f) c.hd n hu (wO ru) (h u _ (I.tok _) ru)
theorem uU {m:Str} {g:Addr} {pl:Sem Bool} {Q:Value×List Value->Shared->Prop} (I:Inv X pins U H s) (e:H a=some (.ins C dx fs)) (c:Cls X.K C) (k:Meth X.K C m g) (l:fs.lookup m=none)
  (h:Q (.ref g,[.ref a]) s):wpAny (model X.prog X.w) A (getMethod (.ref a) m pl) Q E s:=by
 obtain ⟨mA,O,r,_,_,_⟩:=qT I.hok e
 have hn:mA m=none:=RelO.none_of (by rw [← l];exact r m)
 exact Hd I.kIn O (c.get m) k.at_ k.fn hn h
theorem Be {y:V} {u:Value} {Q:Unit->Shared->Prop} (I:Inv X pins U H s) (e:H a=some (.ins C dx fs)) (c:Cls X.K C) (n:NoAttr X.K C f) (hl:fs.length < 1000) (ry:RelV y u)
  (h:∀ s',Inv X pins U (upd H a (.ins C dx (lE f y fs))) s'->Q () s'):wpAny (model X.prog X.w) A (setAttr (.ref a) f u) Q E s:=by
 obtain ⟨mA,O,r,wi,_,ho⟩:=qT I.hok e
 have hz:(fs.map (·.1)).length<=sizeLine:=by rw [Ws,sizeLine_eq];omega
 refine Lk I.kIn O c.sa c.po n.taker c.hd wi hz fun h' O' sb=>h _ ?_
 have hd:∃ o,h'.get? dx=some o:=let ⟨o,_,_,e',_⟩:=O'.ns;⟨o,e'⟩
 refine I.write (x:=a) (e:=dx) (by rw [e];exact True.intro) (.inr ho) (fun b q hb z=>(sb.2 b hb).trans z) hd ?_
 refine ⟨by rw [aB O.ne];exact ho,?_,O.ne,O'.obj,_,O'.ns,fun g=>?_,fun g hg=>?_⟩
 ·have:=t8 f y fs;omega
 ·show RelO ((lE f y fs).lookup g) (if g=f then some u else mA g)
  rw [nZ]
  by_cases q:g=f
  ·rw [if_pos q,if_pos q];exact ry
  ·rw [if_neg q,if_neg q];exact r g
 ·by_cases q:g=f
  ·rw [q];exact (rZ f y fs).1
  ·refine (rZ f y fs).2 g (wi g fun z=>hg ?_)
   show (if g=f then some u else mA g)=none
   rw [if_neg q];exact z
theorem Inv.made (I:Inv X pins U H s):Inv X pins U (upd (upd H s.heap.objs.size (.own (s.heap.objs.size+1))) (s.heap.objs.size+1) (.ins C s.heap.objs.size []))
  {s with heap:=(s.heap.push PySem.W.emptyDict).push (PySem.W.instObj C s.heap.objs.size)}:=by
 have e1:(s.heap.push PySem.W.emptyDict).get? s.heap.objs.size=some PySem.W.emptyDict:=Ww s.heap rfl
 have e2:((s.heap.push PySem.W.emptyDict).push (PySem.W.instObj C s.heap.objs.size)).get? (s.heap.objs.size+1)=some (PySem.W.instObj C s.heap.objs.size):=by
  have:=Ww (s.heap.push PySem.W.emptyDict) (o:=PySem.W.instObj C s.heap.objs.size) rfl
  rwa [XH] at this
 have e3:(s.heap.push PySem.W.emptyDict).Ns s.heap.objs.size (fun _=>none):=⟨PySem.W.emptyDict,#[],_,e1,rfl,(fun e he=>absurd he (by simp)),fun _=>rfl⟩
 have I1:=I.laid (a:=s.heap.objs.size) (o:=.own (s.heap.objs.size+1)) (h':=s.heap.push PySem.W.emptyDict) (t':=s.toks) (fun b u q=>Wr _ q) (Wq _) ⟨_,e1⟩
 refine I1.laid (a:=s.heap.objs.size+1) (o:=.ins C s.heap.objs.size []) (t':=s.toks) (fun b u q=>Wr _ q) (Nat.le_of_eq (XH _ _)) ?_
 have ne:s.heap.objs.size≠s.heap.objs.size+1:=Xc (YZ _)
 refine ⟨by rw [aB ne,aj],Xx _,ne,e2,fun _=>none,(Heap.Ns1.of_empty e3).at fun o q=>Wr _ q,fun _=>True.intro,fun y hy=>absurd rfl hy⟩
theorem Dd {prog:Program} {w:World} {env:Env} {e:Expr} {f:Str} {pos:Pos} {s:Shared} {Q:Value->Shared->Prop} (hb:attributeBase e f env (eval e env)=eval e env)
  (h:wpAny (model prog w) A (eval e env) (fun o s₁=>wpAny (model prog w) A (getAttr o f true) Q E s₁) E s):wpAny (model prog w) A (eval (.Attribute e f pos) env) Q E s:=
 Attribute_any_ h (by rw [arm_eval_Attribute,hb])
end
def QD (K:W.Frag) (ta:TE) (f:Str):TE:=fun U H Q=>ta U H fun x H1=>∃ a C dx fs v,x= .ref a/\H1 a=some (.ins C dx fs)/\Cls K C/\NoAttr K C f/\fs.lookup f=some v/\Q v H1
def QF (K:W.Frag) (ta tv:TE) (f:Str):TS:=fun D U H=>tv U H fun y H1=>ta U H1 fun x H2=>∃ a C dx fs,x= .ref a/\H2 a=some (.ins C dx fs)/\Cls K C/\NoAttr K C f/\fs.length < 1000/\
 D.nx U (upd H2 a (.ins C dx (lE f y fs)))
section
variable {X:Cx} {o e value:Expr} {f:Str} {pos pos' tpos:Pos} {ta tv:TE}
theorem QG (he:PE X e ta) (hb:attributeBase e f X.env (eval e X.env)=eval e X.env):PE X (.Attribute e f pos) (QD X.K ta f):=by
 intro pins s U H Q I h
 refine Dd hb (dW (he pins s U H _ I h) fun u s1 qq0=>?_)
 obtain ⟨x,H1,I1,rx,a,C,dx,fs,v,ex,ea,c,n,l,q⟩:=qq0
 subst ex
 obtain rfl:u=Value.ref a:=rx
 exact Bc I1 ea c n l fun u' s2 I2 ru=>⟨v,H1,I2,ru,q⟩
theorem QH (ha:PE X o ta) (hv:PE X value tv) (hs:swapsWith value (some (.Attribute o f pos')) pos.line X.env=pure false):PS X (.Assign [.Attribute o f pos'] value pos) (QF X.K ta tv f):=by
 intro pins s U H D I h
 refine plainObj_wpAny_Assign_Attribute (dW (hv pins s U H _ I h) fun u s1 ⟨y,H1,I1,ry,q⟩=>dW (ha pins s1 U H1 _ I1 q) fun ov s2 qq0=>?_) hs
 obtain ⟨x,H2,I2,rx,a,C,dx,fs,ex,ea,c,n,l,q2⟩:=qq0
 subst ex
 obtain rfl:ov=Value.ref a:=rx
 exact Be I2 ea c n l ry fun s3 I3=>⟨U,_,I3,q2⟩
end
section
variable {X:Cx} {pins:List (Addr×Obj)} {U:St} {H:Hp} {s:Shared} {A:Around} {E:Value->Shared->Prop} {Q:Value->Shared->Prop} {c:Value} {b:Bool}
inductive TyOf (K:W.Frag) (H:Hp):V->Value->Prop where
 | non:TyOf K H .non (.type "NoneType")
 | bl (x:Bool):TyOf K H (.bl x) (.type "bool")
 | int (i:Int):TyOf K H (.int i) (.type "int")
 | str (x:Str):TyOf K H (.str x) (.type "str")
 | flt (x:UInt64):TyOf K H (.flt x) (.type "float")
 | lst {a:Addr} {xs:List V} (e:H a=some (.lst xs)):TyOf K H (.ref a) (.type "list")
 | frz {a:Addr} {o:Obj} {xs:List V} (e:H a=some (.frz o (.lst xs))):TyOf K H (.ref a) (.type "list")
 | tup {a:Addr} {xs:List V} (e:H a=some (.tup xs)):TyOf K H (.ref a) (.type "tuple")
 | dK {a:Addr} {kvs:List (Key×V)} (e:H a=some (.dK kvs)):TyOf K H (.ref a) (.type "dict")
 | dT {a:Addr} {kvs:List (List Key×V)} (e:H a=some (.dT kvs)):TyOf K H (.ref a) (.type "dict")
 | ins {a C dx:Addr} {fs:List (Str×V)} (e:H a=some (.ins C dx fs)) (cl:Cls K C) (ha:PySem.W.findIn K (.ref C) "__class__"=some (some (.builtin "object.__class__")))
   (hn:PySem.W.specialIn K (.builtin "object.__class__") "__get__"=some (some (.builtin "getset_descriptor.__get__"))) (htk:PySem.W.takesIn K (.builtin "object.__class__")=some true)
   (hm:PySem.W.mroIn K C (.type "object")=some true):TyOf K H (.ref a) (.ref C)
theorem Fb {x:V} {u t:Value} (I:Inv X pins U H s) (rx:RelV x u) (ty:TyOf X.K H x t) (e:PySem.W.kitOne X.K t c=some b) (h:∀ tk,Q (.bool b) {s with toks:=tk}):
  wpAny (model X.prog X.w) A (call (.builtin "isinstance") [u,c]) Q E s:=by
 cases ty with
 | non=>cases (show u=Value.none from rx);exact X3 PySem.W.kitx_none I.kIn True.intro e (fun z=>nomatch z) h
 | bl y=>cases (show u=Value.bool y from rx);exact X3 PySem.W.kitx_bool I.kIn True.intro e (fun z=>nomatch z) h
 | int i=>obtain ⟨t,q⟩:=(show ∃ t,u=Value.int i t from rx);cases q;exact X3 PySem.W.kitx_int I.kIn True.intro e (fun z=>nomatch z) h
 | str y=>obtain ⟨t,q⟩:=(show ∃ t,u=Value.str y t from rx);cases q;exact X3 PySem.W.kitx_str I.kIn True.intro e (fun z=>nomatch z) h
 | flt y=>obtain ⟨t,q⟩:=(show ∃ t,u=Value.float y t from rx);cases q;exact X3 PySem.W.kitx_float I.kIn True.intro e (fun z=>nomatch z) h
 | @lst a xs ea=>
  cases (show u=Value.ref a from rx)
  obtain ⟨_,_,n,_,h1⟩:=(show ObjOk X.prog X.w H s.heap a (.lst xs) from I.hok a _ ea)
  exact X3 PySem.W.kitx_list I.kIn ⟨_,h1,rfl⟩ e (fun z=>nomatch z) h
 | @frz a ob xs ea=>
  cases (show u=Value.ref a from rx)
  obtain ⟨_,_,_,n,_,h1⟩:=(show ObjOk X.prog X.w H s.heap a (.frz ob (.lst xs)) from I.hok a _ ea)
  exact X3 PySem.W.kitx_list I.kIn ⟨_,h1,rfl⟩ e (fun z=>nomatch z) h
 | @tup a xs ea=>
  cases (show u=Value.ref a from rx)
  obtain ⟨_,_,_,p⟩:=(show ObjOk X.prog X.w H s.heap a (.tup xs) from I.hok a _ ea)
  obtain ⟨o,h1,h2,_⟩:=p
  exact X3 PySem.W.kitx_tuple I.kIn ⟨o,h1,h2⟩ e (fun z=>nomatch z) h
 | @dK a kvs ea=>
  cases (show u=Value.ref a from rx)
  obtain ⟨_,_,vs,_,p⟩:=(show ObjOk X.prog X.w H s.heap a (.dK kvs) from I.hok a _ ea)
  obtain ⟨o,es,ep,h1,h2,_⟩:=p
  exact X3 PySem.W.kitx_dict I.kIn ⟨o,h1,h2.1⟩ e (fun z=>nomatch z) h
 | @dT a kvs ea=>
  cases (show u=Value.ref a from rx)
  obtain ⟨_,_,xs,_,o,es,ep,h1,h2,_⟩:=(show ObjOk X.prog X.w H s.heap a (.dT kvs) from I.hok a _ ea)
  exact X3 PySem.W.kitx_dict I.kIn ⟨o,h1,h2.1⟩ e (fun z=>nomatch z) h
 | @ins a C dx fs ea cl ha hn htk hm=>
  cases (show u=Value.ref a from rx)
  obtain ⟨mA,O,_⟩:=qT I.hok ea
  obtain ⟨od,J,_⟩:=O.look
  exact X3 (PySem.W.kitx_own (cl.get _) cl.hd ha hn htk hm) I.kIn J e (fun z=>nomatch z) h
end
structure Room (k:Nat) (A:Around):Prop where
 hd:A.handled=none
 dp:A.depth+3*k+5 < recursionLimit
 un:A.units+16*k+200 < cLine
 gd:A.guards=some []
theorem Room.mono {j k:Nat} {A:Around} (r:Room k A) (h:j<=k):Room j A:=⟨r.hd,by have:=r.dp;omega,by have:=r.un;omega,r.gd⟩
theorem Room.deeper {k:Nat} {A:Around} (r:Room (k+1) A) (env:Env):Room k (A.deeper env):=
 ⟨r.hd,by have:=r.dp;show A.depth+1+3*k+5 < _;omega,by have:=r.un;show A.units+3+16*k+200 < _;omega,r.gd⟩
theorem Bf {A:Around} {C:Addr} {us:List Value} {kw:List (Str×Value)}:(A.under (.builtin "type.__call__" ⟨.ref C :: us,kw⟩)).depth=A.depth+1:=by
 first | rfl | simp [Around.under,Code.weight,Code.isCreation,Code.isGuard,Code.isCaller,Code.frames,Code.isFrame,guardIds]
theorem Bg {A:Around} {C:Addr} {us:List Value} {kw:List (Str×Value)}:(A.under (.builtin "type.__call__" ⟨.ref C :: us,kw⟩)).units=A.units+1:=by
 first | rfl | simp [Around.under,Code.cUnits,Code.frames,Code.isFrame]
theorem zf {A:Around} {C:Addr} {us:List Value} {kw:List (Str×Value)}:(A.under (.builtin "type.__call__" ⟨.ref C :: us,kw⟩)).guards=pushGuards [] A.guards:=by
 first | rfl | simp [Around.under,Code.guards,Code.isGuard,guardIds]
theorem Room.make {k:Nat} {A:Around} (r:Room (k+1) A) (C:Addr) (us:List Value) (kw:List (Str×Value)):Room k (A.under (.builtin "type.__call__" ⟨.ref C :: us,kw⟩)):=
 ⟨r.hd,by have:=r.dp;rw [Bf];omega,by have:=r.un;rw [Bg];omega,(zf.trans (by rw [r.gd];rfl))⟩
theorem Room.depth {k:Nat} {A:Around} (r:Room k A):A.depth < recursionLimit:=by have:=r.dp;omega
theorem Room.units {k:Nat} {A:Around} (r:Room k A):A.units+64 < cLine:=by have:=r.un;omega
theorem Room.units0 {k:Nat} {A:Around} (r:Room k A):A.units < cLine:=by have:=r.un;omega
def Ln:TA:=fun _ H Q=>Q [] H
def De (ta:TE) (tr:TA):TA:=fun U H Q=>ta U H fun x H1=>tr U H1 fun xs H2=>Q (x :: xs) H2
section
variable {X:Cx} {e:Expr} {es:List Expr} {te:TE} {t:TA} {pos:Pos}
theorem QJ:PA X [] Ln:=fun _ _ _ _ H Q I h=>Calls.spliced_nil ⟨[],H,I,.nil,h⟩
theorem Lp (ha:PE X e te) (hr:PA X es t) (hs:autoParam (starEach (e :: es) X.env=(false,eval e X.env) :: starEach es X.env) L2.auto4._auto_1):PA X (e :: es) (De te t):=by
 intro pos pins s U H Q I h
 rw [hs]
 show wpAny _ _ (spliced ((false,eval e X.env) :: backTo pos (starEach es X.env))) _ _ s
 refine Calls.spliced_cons (dW (ha pins s U H _ I h) fun u s1 qq0=>?_)
 obtain ⟨x,H1,I1,r1,q1⟩:=qq0
 exact dW (hr pos pins s1 U H1 _ I1 q1) fun us s2 ⟨xs,H2,I2,r2,q2⟩=>⟨x :: xs,H2,I2,.cons r1 r2,q2⟩
def Lq (t:TA):TE:=fun U H Q=>t U H fun xs H1=>xs.length<=sizeLine/\∀ p,H1 p=none->Q (.ref p) (upd H1 p (.tup xs))
def Lr (t:TA):TE:=fun U H Q=>t U H fun xs H1=>xs.length<=sizeLine/\∀ p,H1 p=none->Q (.ref p) (upd H1 p (.lst xs))
theorem QK {x1} (h:PA X es t):PE X (.Tuple es x1 pos) (Lq t):=by
 intro pins s U H Q I hq
 refine wpAny_Tuple_spliced (dW (h pos pins s U H _ I hq) fun us s1 ⟨xs,H1,I1,r,z,q⟩=>⟨by rw [← r.length];exact z,?_⟩)
 have hf:H1 s1.heap.objs.size=none:=I1.hok.fresh (Wq _)
 refine ⟨.ref s1.heap.objs.size,upd H1 s1.heap.objs.size (.tup xs),I1.laid (t':=s1.toks) (fun b u e=>Wr _ e) (Wq _) ?_,rfl,q _ hf⟩
 exact ⟨z,us,r,⟨_,Ww _ rfl,rfl,_,rfl⟩⟩
theorem QL (h:PA X es t):PE X (.List es pos) (Lr t):=by
 intro pins s U H Q I hq
 refine wpAny_List_spliced (dW (h pos pins s U H _ I hq) fun us s1 ⟨xs,H1,I1,r,z,q⟩=>⟨by rw [← r.length];exact z,?_⟩)
 have hf:H1 s1.heap.objs.size=none:=I1.hok.fresh (Wq _)
 refine ⟨.ref s1.heap.objs.size,upd H1 s1.heap.objs.size (.lst xs),I1.laid (t':=s1.toks) (fun b u e=>Wr _ e) (Wq _) ?_,rfl,q _ hf⟩
 exact ⟨z,us,0,r,Ww _ rfl⟩
end
abbrev Sp:=List V->Hp->VK->XK->Prop
abbrev Fd:=List Env->Hp->Shared->XK->Value->Shared->Prop
structure Env0 (P:Program) (w:World) (K:W.Frag) (mg:Str->Option Value) (base:Heap) (A:Around) (outer:List Env) (s:Shared) (H:Hp):Prop where
 frames:A.frames=some outer
 mod:Mod K mg base
 bs:∀ b o,base.get? b=some o->s.heap.get? b=some o/\H b=none
 bsz:base.objs.size<=s.heap.objs.size
 funs:s.heap.FunFrames base outer
 frf:∀ b∈frs outer,H b=none
 hok:HOk P w H s.heap
 bare:AllBare s.gens
def CE (outer:List Env) (P:Program) (w:World) (H:Hp) (s:Shared) (Q:VK) (u:Value) (s':Shared):Prop:=
 ∃ v H',s'.os=s.os/\AllBare s'.gens/\Un (frs outer) [] H H' s.heap s'.heap/\HOk P w H' s'.heap/\RelV v u/\Q v H'
def CR (CX:Fd) (outer:List Env) (P:Program) (w:World) (H:Hp) (s:Shared) (Q:VK) (E:XK) (r:Result) (s':Shared):Prop:=
 match r with
 | .ok (.ret u)=>CE outer P w H s Q u s'
 | .ok _=>False
 | .error e=>CX outer H s E e s'
structure FnOk (P:Program) (w:World) (K:W.Frag) (mg:Str->Option Value) (base:Heap) (CX:Fd) (k:Nat) (f:Addr) (fd:FuncData) (ps:List Str) (sp:Sp):Prop where
 len:∀ vs H Q E,sp vs H Q E->vs.length=ps.length
 run:∀ (A:Around) (outer:List Env) (s:Shared) (H:Hp) (args:Args) (us:List Value) (vs:List V) (Q:VK) (E:XK),Room k A->Env0 P w K mg base A outer s H->BindsTo s fd args (ps.zip us)->Vals vs us->sp vs H Q E->
  codeAny (model P w) A (.call (.ref f) args) (CR CX outer P w H s Q E) s
theorem FnOk.mono {P:Program} {w:World} {K:W.Frag} {mg:Str->Option Value} {base:Heap} {CX:Fd} {j k:Nat} {f:Addr} {fd:FuncData} {ps:List Str} {sp:Sp} (F:FnOk P w K mg base CX j f fd ps sp) (h:j<=k):
  FnOk P w K mg base CX k f fd ps sp:=⟨F.len,fun A outer s H args us vs Q E hr=>F.run A outer s H args us vs Q E (hr.mono h)⟩
theorem Env0.make {P:Program} {w:World} {K:W.Frag} {mg:Str->Option Value} {base:Heap} {A:Around} {outer:List Env} {s:Shared} {H:Hp} (e:Env0 P w K mg base A outer s H) (C:Addr) (us:List Value) (kw:List (Str×Value)):
  Env0 P w K mg base (A.under (.builtin "type.__call__" ⟨.ref C :: us,kw⟩)) outer s H:=⟨by first | exact e.frames | (simpa [Around.under,Code.envs,Code.isFrame,pushEnvs] using e.frames),e.mod,e.bs,e.bsz,e.funs,e.frf,e.hok,e.bare⟩
section
variable {X:Cx} {pins:List (Addr×Obj)} {U:St} {H:Hp} {s s':Shared}
theorem Inv.env0 (I:Inv X pins U H s):Env0 X.prog X.w X.K X.mg X.base X.A X.stack s H:=
 ⟨I.ok.frames,I.ok.mod,I.bs,WY I.ok.bsz I.sz,I.stack,I.stkFree,I.hok,I.bare⟩
theorem Inv.after {Q:VK} {u:Value} (I:Inv X pins U H s) (h:CE X.stack X.prog X.w H s Q u s'):EP X pins U Q u s':=by
 obtain ⟨v,H',os,bare,un,hok,r,q⟩:=h
 obtain ⟨hh,g,d,t,os'⟩:=s'
 obtain rfl:os'=s.os:=os
 exact ⟨v,H',I.call (h':=hh) (g':=g) (d':=d) (t':=t) (ch:=[]) un hok bare (fun b z=>absurd z (by simp)),r,q⟩
end
def wQ (sp:Sp) (dvs:List V) (E:XK) (t:TA):TE:=fun U H Q=>t U H fun vs H1=>sp (vs ++ dvs) H1 Q E
def Binds (K:W.Frag) (fd:FuncData) (ps:List Str) (ds:List Value):Prop:=
 ∀ (s:Shared) (us:List Value),K.In s.heap->(us ++ ds).length=ps.length->BindsTo s fd ⟨us,[]⟩ (ps.zip (us ++ ds))
theorem Binds.all {K:W.Frag} {fd:FuncData} {ps:List Str} (h:∀ us:List Value,us.length=ps.length->bindArgs fd ⟨us,[]⟩=pure (ps.zip us)):Binds K fd ps []:=fun s us _ hl=>by
 rw [XQ] at hl ⊢
 exact .of_eq (h us hl)
def Bh (CX:Fd) (X:Cx) (E:XK):Prop:=∀ (pins:List (Addr×Obj)) (U:St) (H:Hp) (s:Shared) (e:Value) (s':Shared),Inv X pins U H s->CX X.stack H s E e s'->X.xe e s'
section
variable {X:Cx} {CX:Fd} {k:Nat} {f C:Addr} {fd:FuncData} {ps:List Str} {sp:Sp} {dvs:List V} {ds:List Value} {E:XK} {x m:Str} {p pos apos:Pos} {e o:Expr} {es:List Expr} {ta:TE} {t:TA}
theorem QM {pins:List (Addr×Obj)} {U:St} {H:Hp} {s:Shared} {Q:VK} {us:List Value} {vs:List V} (F:FnOk X.prog X.w X.K X.mg X.base CX k f fd ps sp) (hr:Room k X.A) (hb:Binds X.K fd ps ds) (hd:Vals dvs ds) (hx:Bh CX X E)
  (I:Inv X pins U H s) (r:Vals vs us) (h:sp (vs ++ dvs) H Q E):wpAny (model X.prog X.w) X.A (call (.ref f) us) (EP X pins U Q) X.xe s:=by
 have r2:Vals (vs ++ dvs) (us ++ ds):=r.append hd
 have hl:(us ++ ds).length=ps.length:=by rw [← r2.length];exact F.len _ _ _ _ h
 refine Zg (codeAny_mono (F.run X.A X.stack s H ⟨us,[]⟩ (us ++ ds) (vs ++ dvs) Q E hr I.env0 (hb s us I.kIn hl) r2 h) fun r s' hq=>?_)
 cases r with
 | error e=>exact hx pins U H s e s' I hq
 | ok fl=>
  cases fl with
  | ret u=>exact I.after hq
  | next=>exact False.elim hq
  | brk=>exact False.elim hq
  | cont=>exact False.elim hq
theorem Ls (F:FnOk X.prog X.w X.K X.mg X.base CX k f fd ps sp) (hr:Room k X.A) (hg:Gl X x) (hm:X.mg x=some (.ref f)) (hk:PySem.W.keepIn X.K (.ref f)=true) (hb:Binds X.K fd ps ds) (hd:Vals dvs ds) (hx:Bh CX X E)
  (ha:PA X (e :: es) t) (hdb:autoParam ((x == ("__debug__":Str))=false) L2.auto2._auto_1) (he:autoParam (starEach (e :: es) X.env=(false,eval e X.env) :: starEach es X.env) L2.auto4._auto_1) (hpl:autoParam ((backTo pos (starEach es X.env)).any (·.1)=false) L2.auto4._auto_1):
  PE X (.Call (.Name x p) (e :: es) [] pos) (wQ sp dvs E t):=by
 intro pins s U H Q I h
 refine XX (mK I hg hm ?_ hdb)
 refine YK (h₀:=X.base) I.ok.mod.kin hk (dW (ha pos pins s U H _ I h) fun us s1 ⟨vs,H1,I1,r,q⟩=>⟨I1.kIn,?_⟩) he hpl
 exact QM F hr hb hd hx I1 r q
end
structure aF (N P:List Str) (sc:Scope):Prop where
 kind:sc.kind= .function
 co:sc.isCoroutine=false
 gen:sc.isGenerator=false
 nd:N.Nodup
 pre:N.take P.length=P
 par:∀ x∈P,sc.names.lookup x=some .local\/sc.names.lookup x=some .cell
 nofree:∀ y∈sc.names,y.2≠.free
theorem wR {kindOf:Str->Option NameKind} {x:Str}:∀ {binds:List (Str×Value)} {m:Str->Option Value},(∀ v,(x,v) ∉ binds)->bindL kindOf binds m x=m x
 | [],_,_=>rfl
 | (n,v) :: r,m,h=>by
  unfold bindL
  rw [wR fun w hw=>h w (WL _ hw)]
  split
  ·have:x≠n:=by rintro rfl;exact h v Xf
   simp [this]
  ·rfl
theorem wU {kindOf:Str->Option NameKind} {x:Str}:∀ {binds:List (Str×Value)} {m:Str->Option Value},(∀ v,(x,v) ∉ binds)->bindC kindOf binds m x=m x
 | [],_,_=>rfl
 | (n,v) :: r,m,h=>by
  unfold bindC
  rw [wU fun w hw=>h w (WL _ hw)]
  split
  ·rfl
  ·have:x≠n:=by rintro rfl;exact h v Xf
   simp [this]
theorem wV {kindOf:Str->Option NameKind} {x:Str} {v:Value}:∀ {P:List Str} {vs:List Value} {i:Nat} {m:Str->Option Value},P.Nodup->P[i]?=some x->vs[i]?=some v->kindOf x=some .local->
  bindL kindOf (P.zip vs) m x=some v
 | [],_,_,_,_,h,_,_=>by simp at h
 | _ :: _,[],_,_,_,_,h,_=>by simp at h
 | p :: P,w :: vs,0,m,nd,h1,h2,hk=>by
  simp at h1 h2;subst h1;subst h2
  show bindL kindOf ((p,w) :: P.zip vs) m p=_
  unfold bindL
  rw [wR fun v hv=>(List.nodup_cons.mp nd).1 (List.of_mem_zip hv).1,if_pos hk]
  simp
 | p :: P,w :: vs,i+1,m,nd,h1,h2,hk=>by
  show bindL kindOf ((p,w) :: P.zip vs) m x=_
  unfold bindL
  exact wV (i:=i) (List.nodup_cons.mp nd).2 (by simpa using h1) (by simpa using h2) hk
theorem wW {kindOf:Str->Option NameKind} {x:Str} {v:Value}:∀ {P:List Str} {vs:List Value} {i:Nat} {m:Str->Option Value},P.Nodup->P[i]?=some x->vs[i]?=some v->kindOf x≠some .local->
  bindC kindOf (P.zip vs) m x=some v
 | [],_,_,_,_,h,_,_=>by simp at h
 | _ :: _,[],_,_,_,_,h,_=>by simp at h
 | p :: P,w :: vs,0,m,nd,h1,h2,hk=>by
  simp at h1 h2;subst h1;subst h2
  show bindC kindOf ((p,w) :: P.zip vs) m p=_
  unfold bindC
  rw [wU fun v hv=>(List.nodup_cons.mp nd).1 (List.of_mem_zip hv).1,if_neg hk]
  simp
 | p :: P,w :: vs,i+1,m,nd,h1,h2,hk=>by
  show bindC kindOf ((p,w) :: P.zip vs) m x=_
  unfold bindC
  exact wW (i:=i) (List.nodup_cons.mp nd).2 (by simpa using h1) (by simpa using h2) hk
def start (N:List Str) (vs:List V):St:=vs.map some ++ List.replicate (N.length - vs.length) none
def qe (CX:Fd) (P:Program) (w:World) (K:W.Frag) (mg:Str->Option Value) (base:Heap) (N:List Str) (qual:Str) (scope:Scope) (f:Addr) (cd:Value) (A:Around) (outer:List Env) (s:Shared) (H:Hp) (E:XK):Cx where
 prog:=P
 w:=w
 K:=K
 mg:=mg
 base:=base
 A:=A.deeper (envOfC qual scope s.heap.objs.size f cd)
 N:=N
 s₀:=s
 H₀:=H
 env:=envOfC qual scope s.heap.objs.size f cd
 outer:=outer
 stack:=envOfC qual scope s.heap.objs.size f cd :: outer
 ex:=[]
 calm:=true
 fn:=fun _=>true
 pn:=[]
 xe:=fun e s'=>wpAny (model P w) (A.deeper (envOfC qual scope s.heap.objs.size f cd)) (leaving (envOfC qual scope s.heap.objs.size f cd) e) (fun _ s''=>CX outer H s E e s'') (fun e' s''=>CX outer H s E e' s'') s'
theorem zg {sc:Scope} {n:Nat} {x:Str} (h:sc.names.lookup x=some .cell):∃ c,(cellsFrom n sc.names []).lookup x=some c:=by
 have q:=PySem.W.cellsFrom_some sc.names n [] (.inl h)
 exact Option.isSome_iff_exists.mp q
theorem Fe {CX:Fd} {P:Program} {w:World} {K:W.Frag} {mg:Str->Option Value} {base:Heap} {N ps:List Str} {qual:Str} {scope:Scope} {f:Addr} {cd:Value} {A:Around} {outer:List Env} {s s1:Shared} {H:Hp} {E:XK} {us:List Value} {vs:List V}
  (S:aF N ps scope) (hd:A.handled=none) (e0:Env0 P w K mg base A outer s H) (hl:vs.length=ps.length) (r:Vals vs us)
  (x:InCallC s s.heap.objs.size (bindL (envOfC qual scope s.heap.objs.size f cd).kindOf (ps.zip us) fun _=>none) (cellsFrom (s.heap.objs.size+1) scope.names []) (bindC (envOfC qual scope s.heap.objs.size f cd).kindOf (ps.zip us) fun _=>none) s1):
  Inv (qe CX P w K mg base N qual scope f cd A outer s H E) [] (start N vs) H s1:=by
 have hpl:ps.length<=N.length:=by have:=congrArg List.length S.pre;rw [Yk] at this;omega
 obtain ⟨h1,tk,rfl,hk⟩:=x.done
 have noA:∀ b:Addr,b ∉ (qe CX P w K mg base N qual scope f cd A outer s H E).ex:=fun b z=>absurd (show b∈([]:List Addr) from z) (by simp)
 refine ⟨⟨e0.mod,S.kind,rfl,rfl,Wq _,fun y z c h1 h2=>?_,fun y hy=>?_,fun y c _ h=>?_,fun _=>hd,Around.frames_deeper e0.frames,.inr ⟨rfl,rfl⟩,fun b z=>absurd z (noA b),e0.bs,e0.bsz,fun b _ _=>noA b,fun b z=>absurd z (noA b),e0.funs,e0.frf⟩,
  rfl,e0.bare,Un.kept hk,⟨_,x.toInCall.ns,fun i y v h1 h2 h3=>?_⟩,fun y c h=>⟨_,x.cell y c h⟩,e0.hok.fresh (Wq _),fun y c h=>?_,fun p hp=>absurd (show p∈([]:List (Addr×Obj)) from hp) (by simp),e0.hok.kept hk,?_⟩
 ·exact name_of_addr x.apart (Xw h1) (Xw h2)
 ·have hy:scope.names.lookup y=some .cell\/scope.names.lookup y=some .free:=hy
  rcases hy with hy | hy
  ·exact zg hy
  ·exact absurd rfl (S.nofree _ (Xw hy))
 ·exact Nat.le_of_lt (x.above y c (Xw h))
 ·have hi:i < vs.length:=by
   unfold start at h2
   by_cases hi:i < vs.length
   ·exact hi
   ·rw [WN (by simpa using hi)] at h2
    rw [List.getElem?_replicate] at h2
    split at h2 <;> cases h2
  have ha:vs[i]?=some v:=by
   unfold start at h2
   rw [WM (by simpa using hi),Wo] at h2
   cases e:vs[i]? with
   | none=>rw [e] at h2;cases h2
   | some a=>rw [e] at h2;cases h2;rfl
  obtain ⟨u,hu,rv⟩:=r.get ha
  have hp:ps[i]?=some y:=by
   rw [← S.pre,List.getElem?_take_of_lt (by omega)];exact h1
  have ndP:ps.Nodup:=by rw [← S.pre];exact S.nd.sublist (List.take_sublist _ _)
  refine ⟨u,rv,?_⟩
  rcases S.par y (WW hp) with k | k
  ·exact .inl ⟨k,wV ndP hp hu k⟩
  ·obtain ⟨c,e⟩:=zg (n:=s.heap.objs.size+1) k
   refine .inr ⟨.inl k,c,e,?_⟩
   have q:=x.cell y c e
   rw [wW ndP hp hu (by show scope.names.lookup y≠_;rw [k];decide)] at q
   exact q
 ·exact e0.hok.fresh (Nat.le_of_lt (x.above y c (Xw h)))
 ·unfold start
  show _=N.length
  rw [Xl,Ws,List.length_replicate]
  omega
theorem Hg {CX:Fd} {P:Program} {w:World} {K:W.Frag} {mg:Str->Option Value} {base:Heap} {k:Nat} {f:Addr} {name qual:Str} {params:Arguments} {body:List Stmt} {scope:Scope} {dV kV doc pm cdv ct oc:Value} {an od:Option Addr}
  {osl:Array (Option Value)} {N ps:List Str} {sp:Sp} (lk:K.lookup f=some ⟨oc,od,.func (PySem.W.fnOf name qual params body scope dV kV doc pm an cdv ct),osl⟩) (hcd:PySem.W.codeIn K cdv qual=true) (S:aF N ps scope)
  (len:∀ vs H Q E,sp vs H Q E->vs.length=ps.length)
  (hbody:∀ (A:Around) (outer:List Env) (s:Shared) (H:Hp) (vs:List V) (Q:VK) (E:XK),Room k (A.deeper (envOfC qual scope s.heap.objs.size f cdv))->sp vs H Q E->
   ∃ t,PSs (qe CX P w K mg base N qual scope f cdv A outer s H E) body t/\t {nx:=fun _ H'=>Q .non H',rt:=Q} (start N vs) H):
  FnOk P w K mg base CX (k+1) f (PySem.W.fnOf name qual params body scope dV kV doc pm an cdv ct) ps sp:=by
 refine ⟨len,fun A outer s H args us vs Q E hr e0 hb r hsp=>?_⟩
 have hl:=len _ _ _ _ hsp
 have KX:K.In s.heap:=e0.mod.kin.keeps fun b o e=>(e0.bs b o e).1
 have lim:s.heap.NoLimit:=e0.mod.nolimit.keeps fun b o e=>(e0.bs b o e).1
 have hkind:∀ y∈ps.zip us,scope.names.lookup y.1=some .local\/(scope.names.lookup y.1=some .cell/\((cellsFrom (s.heap.objs.size+1) scope.names []).lookup y.1).isSome=true):=fun ⟨n,v⟩ hy=>by
  rcases S.par n (List.of_mem_zip hy).1 with q | q
  ·exact .inl q
  ·exact .inr ⟨q,PySem.W.cellsFrom_some _ _ _ (.inl q)⟩
 refine codeAny_call_function hr.depth (KX _ _ lk) rfl S.co S.gen rfl (PySem.W.codeRec_of KX hcd) (hb _ _ _ _ ?_)
 refine wpAny_newFunctionEnv_cells S.kind hkind fun env he s1 x=>?_
 subst he
 refine ⟨lim.keeps x.toInCall.keep,codeAny_func ?_⟩
 obtain ⟨t,ht,hq⟩:=hbody A outer s H vs Q E (hr.deeper _) hsp
 have I:Inv (qe CX P w K mg base N qual scope f cdv A outer s H E) [] (start N vs) H s1:=Fe S hr.hd e0 hl r x
 refine Xr (ht [] s1 (start N vs) H _ I hq) (fun fl s' hs=>?_) fun e s' hs=>hs
 have fin:∀ {U':St} {H':Hp} {v:V} {u:Value},Inv (qe CX P w K mg base N qual scope f cdv A outer s H E) [] U' H' s'->RelV v u->Q v H'->CE outer P w H s Q u s':=
  fun {U' H' v u} J rv q=>⟨v,H',J.os,J.bare,J.base,J.hok,rv,q⟩
 cases fl with
 | ret u=>
  obtain ⟨v,U',H',J,rv,q⟩:=hs
  exact fin J rv q
 | next=>
  obtain ⟨U',H',J,q⟩:=hs
  exact fin (v:=V.non) (u:=Value.none) J rfl q
 | brk=>
  obtain ⟨_,_,_,q⟩:=hs
  exact False.elim q
 | cont=>
  obtain ⟨_,_,_,q⟩:=hs
  exact False.elim q
section
variable {X:Cx} {x:Str} {p pos:Pos} {e:Expr} {es:List Expr} {t:TA} {id T:String} {r:List V->Hp->VK->Prop}
def QQ (r:List V->Hp->VK->Prop) (t:TA):TE:=fun U H Q=>t U H fun vs H1=>r vs H1 Q
theorem Hh (hc:CallR X (.builtin id) r) (hg:Gl X x) (hm:X.mg x=none) (hv:bootBuiltins x=some (.builtin id)) (ha:PA X (e :: es) t) (hn:autoParam (x≠"__name__") L2.auto2._auto_1) (hdb:autoParam ((x == ("__debug__":Str))=false) L2.auto2._auto_1)
  (he:autoParam (starEach (e :: es) X.env=(false,eval e X.env) :: starEach es X.env) L2.auto4._auto_1) (hpl:autoParam ((backTo pos (starEach es X.env)).any (·.1)=false) L2.auto4._auto_1):PE X (.Call (.Name x p) (e :: es) [] pos) (QQ r t):=by
 intro pins s U H Q I h
 refine XX (jY I hg hm hv ?_ hn hdb)
 exact PyProof.Rows.callWith_builtin1 (dW (ha pos pins s U H _ I h) fun us s1 ⟨vs,H1,I1,r1,q1⟩=>hc pins s1 U H1 vs us Q I1 r1 q1) he hpl
theorem Ff (hc:CallR X (.type T) r) (hg:Gl X x) (hm:X.mg x=none) (hv:bootBuiltins x=some (.type T)) (ha:PA X (e :: es) t) (hn:autoParam (x≠"__name__") L2.auto2._auto_1) (hdb:autoParam ((x == ("__debug__":Str))=false) L2.auto2._auto_1)
  (he:autoParam (starEach (e :: es) X.env=(false,eval e X.env) :: starEach es X.env) L2.auto4._auto_1) (hpl:autoParam ((backTo pos (starEach es X.env)).any (·.1)=false) L2.auto4._auto_1):PE X (.Call (.Name x p) (e :: es) [] pos) (QQ r t):=by
 intro pins s U H Q I h
 refine XX (jY I hg hm hv ?_ hn hdb)
 exact Xo (dW (ha pos pins s U H _ I h) fun us s1 ⟨vs,H1,I1,r1,q1⟩=>hc pins s1 U H1 vs us Q I1 r1 q1) he hpl
end
end L2
namespace HT
open PySem PyProof.Rows
section
open PySem.SeqAt
open PySem.AutoSeq1 (wpAny_loadPart')
open PySem.MeetsSeq PySem.MeetsSeq2 PySem.MeetsSeq3
end
section
variable {prog:Program} {w:World} {A:Around} {E:Value->Shared->Prop} {s:Shared}
def sIx (n d:Nat):Option Int->Nat
 | none=>d
 | some v=>if v < 0 then (v+(n:Int)).toNat else min v.toNat n
theorem sIx_none (n d:Nat):sIx n d none=d:=rfl
theorem sIx_nat (n d k:Nat):sIx n d (some (k:Int))=min k n:=by
 show (if (k:Int) < 0 then ((k:Int)+(n:Int)).toNat else min (k:Int).toNat n)=min k n
 rw [if_neg (by omega),Int.toNat_natCast]
theorem sIx_le (n d:Nat) (hd:d<=n) (o:Option Int):sIx n d o<=n:=by
 cases o with
 | none=>exact hd
 | some v=>
  show (if v < 0 then (v+(n:Int)).toNat else min v.toNat n)<=n
  by_cases hv:v < 0
  ·rw [if_pos hv];omega
  ·rw [if_neg hv];exact Nat.min_le_right _ _
theorem clip_eq (v:Int) (n d:Nat):(if v < 0 then max (v+(n:Int)) 0 else min v (n:Int))=((sIx n d (some v):Nat):Int):=by
 show (if v < 0 then max (v+(n:Int)) 0 else min v (n:Int))=(((if v < 0 then (v+(n:Int)).toNat else min v.toNat n):Nat):Int)
 by_cases hv:v < 0
 ·simp only [if_pos hv];omega
 ·simp only [if_neg hv];omega
theorem Bj (lo hi:Option Int) (n:Nat):Builtin.Slice.sliceAdjust lo hi 1 (n:Int)=(((sIx n 0 lo:Nat):Int),((sIx n n hi:Nat):Int)):=by
 have h1:¬ ((1:Int) < 0):=by omega
 unfold Builtin.Slice.sliceAdjust
 simp only [h1,if_false]
 refine Prod.ext ?_ ?_
 ·cases lo with
  | none=>rfl
  | some v=>exact clip_eq v n 0
 ·cases hi with
  | none=>rfl
  | some v=>exact clip_eq v n n
theorem Bk (i j:Nat):Builtin.Slice.slicePlaces (i:Int) (j:Int) 1=j - i:=by
 unfold Builtin.Slice.slicePlaces
 have h1:(1:Int) > 0:=by omega
 simp only [h1,if_true,Int.ediv_one]
 split <;> omega
theorem uV {v:Value} {o:Option Int} {Q:Option Int->Shared->Prop} (p:IsPart v o) (h:Q o s):wpAny (model prog w) A (Builtin.Slice.slicePartIndex v) Q E s:=by
 cases p with
 | none=>exact slicePart_none h
 | int i t=>exact slicePart_int h
theorem mj {sl:Addr} {vl vu:Value} {lo hi:Option Int} {n:Nat} {Q:Int×Int×Nat->Shared->Prop} (hs:s.heap.IsSliceOf sl vl vu .none) (pl:IsPart vl lo) (pu:IsPart vu hi)
  (h:Q (((sIx n 0 lo:Nat):Int),1,sIx n n hi - sIx n 0 lo) s):wpAny (model prog w) A (Builtin.Slice.sliceApplied (.ref sl) (pure (n:Int))) Q E s:=by
 obtain ⟨os,hos,hcs,hds⟩:=id hs
 unfold Builtin.Slice.sliceApplied Builtin.Slice.sliceFields
 refine Wl (Wl (Xu hos hds (x:=vl) rfl (Wl (Xu hos hds (x:=vu) rfl (Wl (Xu hos hds (x:=.none) rfl (Wt ?_)))))))
 refine Wl (slicePart_none ?_)
 show wpAny _ _ (if ((1:Int) == 0)=true then _ else _) _ _ s
 rw [if_neg (by decide)]
 refine Wl (uV pl (Wl (uV pu (Wl (Wt ?_)))))
 show wpAny _ _ (match Builtin.Slice.sliceAdjust lo hi 1 (n:Int) with | (lo,hi)=>pure (lo,(1:Int),Builtin.Slice.slicePlaces lo hi 1)) _ _ s
 rw [Bj lo hi n]
 show wpAny _ _ (pure (((sIx n 0 lo:Nat):Int),(1:Int),Builtin.Slice.slicePlaces ((sIx n 0 lo:Nat):Int) ((sIx n n hi:Nat):Int) 1)) _ _ s
 rw [Bk]
 exact Wt h
theorem Hi (xs:Array Value) (i k:Nat):((List.range k).filterMap fun (m:Nat)=>xs[((i:Int)+(m:Int)*1).toNat]?).toArray=((xs.toList.drop i).take k).toArray:=by
 have e:(fun (m:Nat)=>xs[((i:Int)+(m:Int)*1).toNat]?)=fun m=>xs[i+m]?:=by
  funext m
  have:((i:Int)+(m:Int)*1).toNat=i+m:=by omega
  rw [this]
 rw [e]
 have:=pick_run xs i k
 rw [List.filterMap_map] at this
 have e2:((fun x=>xs[x]?) ∘ fun x=>i+x)=fun m=>xs[i+m]?:=rfl
 rw [e2] at this
 rw [this]
theorem getItem_tuple_cut {t sl:Addr} {items:Array Value} {vl vu:Value} {lo hi:Option Int} {Q:Value->Shared->Prop} (ht:IsTup s.heap t items) (hs:s.heap.IsSliceOf sl vl vu .none) (pl:IsPart vl lo) (pu:IsPart vu hi)
  (hw:¬ (sIx items.size 0 lo=0/\sIx items.size items.size hi=items.size))
  (h:Q (.ref s.heap.objs.size) {s with heap:=s.heap.push {cls:=.type "tuple",data:=.seq ((items.toList.drop (sIx items.size 0 lo)).take (sIx items.size items.size hi - sIx items.size 0 lo)).toArray}})
  (hsz:items.size<=sizeLine):wpAny (model prog w) A (getItem (.ref t) (.ref sl)) Q E s:=by
 have htake:sizeOk (.seq ((items.toList.drop (sIx items.size 0 lo)).take (sIx items.size items.size hi - sIx items.size 0 lo)).toArray):=by
  show ((items.toList.drop (sIx items.size 0 lo)).take (sIx items.size items.size hi - sIx items.size 0 lo)).toArray.size<=sizeLine
  rw [WQ,Yk,Y0,Xp]
  omega
 have hj:sIx items.size items.size hi<=items.size:=sIx_le _ _ (Wq _) hi
 obtain ⟨os,hos,hcs,hds⟩:=id hs
 have hTs:s.TypeIs (.ref sl) "slice":=⟨os,hos,hcs⟩
 unfold getItem
 try with_reducible refine X5 ?_
 first | refine Wl (Wt ?_) | skip
 refine Wl (wpAny_sequenceKey ht.typeIs (by decide) ?_)
 refine Wl (XD (name:=Str.ofString "__getitem__") ht.typeIs Ys
  (X7 Ys ht.typeIs entry_tuple_getitem ?_ (args_tuple_getitem _ _)))
 show wpAny _ _ (Builtin.Tuple.tupleItemsOf (.ref t) >>=_) _ _ s
 refine Wl (tupleItemsOf_ ht ?_)
 refine Wl (wpAny_typeOf hTs ?_)
 rw [if_pos (by decide)]
 refine Wl (mj hs pl pu ?_)
 have hno:¬ ((((sIx items.size 0 lo:Nat):Int) == 0 && (1:Int) == 1 && (sIx items.size items.size hi - sIx items.size 0 lo) == items.size)=true):=by
  intro q
  rw [WX,WX] at q
  have q1:((sIx items.size 0 lo:Nat):Int)=0:=eq_of_beq q.1.1
  have q2:sIx items.size items.size hi - sIx items.size 0 lo=items.size:=eq_of_beq q.2
  exact hw ⟨by omega,by omega⟩
 show wpAny _ _ (if (((sIx items.size 0 lo:Nat):Int) == 0 && (1:Int) == 1 && (sIx items.size items.size hi - sIx items.size 0 lo) == items.size)=true then _ else _) _ _ s
 rw [if_neg hno,Hi]
 first
  | exact Wl (m:=Builtin.Tuple.tupleExact _) (XJ (Wt ⟨_,rfl,Wt h⟩) htake)
  | exact Wl (m:=Builtin.Tuple.tupleExact _) (XJ (Wl (Wt (Wt ⟨_,rfl,Wt h⟩))) htake)
  | exact Wl (Wl (m:=Builtin.Tuple.tupleExact _) (XJ (Wt (Wt ⟨_,rfl,Wt h⟩)) htake))
  | exact Wl (Wl (m:=Builtin.Tuple.tupleExact _) (XJ (Wt ⟨_,rfl,Wt h⟩) htake))
end
end HT
namespace L2
open PySem PySem.Spec PyProof.Rows
abbrev TO:=St->Hp->(Option Int->Hp->Prop)->Prop
def PO (X:Cx) (e:Option Expr) (t:TO):Prop:=
 ∀ (pins:List (Addr×Obj)) (s:Shared) (U:St) (H:Hp) (Q:Option Int->Hp->Prop),Inv X pins U H s->t U H Q->
  wpAny (model X.prog X.w) X.A (evalPart e X.env) (fun u s'=>∃ o H',Inv X pins U H' s'/\IsPart u o/\Q o H') X.xe s
def xT:TO:=fun _ H Q=>Q none H
def Hj (t:TE):TO:=fun U H Q=>t U H fun x H1=>∃ i,x= .int i/\Q (some i) H1
theorem intsAre_of {ns:List Int}:∀ {us:List Value},Vals (ns.map V.int) us->IntsAre us ns:=by
 induction ns with
 | nil=>intro us r;rw [List.map_nil] at r;cases r;exact .nil
 | cons n ns ih=>
  intro us r
  rw [Xh] at r
  cases r with
  | cons r1 r2=>
   obtain ⟨t,e⟩:=r1
   subst e
   exact .cons n t (ih r2)
section
variable {X:Cx} {e:Expr} {te:TE} {lo hi:Option Expr} {tl th:TO} {pos p2:Pos}
theorem Lw:PO X none xT:=by
 intro pins s U H Q I h
 rw [evalPart_none]
 exact Wt ⟨none,H,I,.none,h⟩
theorem Lx (h:PE X e te):PO X (some e) (Hj te):=by
 intro pins s U H Q I hw
 rw [evalPart_some]
 refine dW (h pins s U H _ I hw) fun u s1 qq0=>?_
 obtain ⟨x,H1,I1,r1,q1⟩:=qq0
 obtain ⟨i,rfl,q⟩:=q1
 obtain ⟨t,rfl⟩:=r1
 exact ⟨some i,H1,I1,.int i t,q⟩
def SlR (X:Cx) (r:V->Option Int->Option Int->Hp->VK->Prop):Prop:=
 ∀ (pins:List (Addr×Obj)) (s:Shared) (U:St) (H:Hp) (x:V) (v vl vu:Value) (lo hi:Option Int) (sl:Addr) (Q:VK),Inv X pins U H s->RelV x v->s.heap.IsSliceOf sl vl vu .none->IsPart vl lo->IsPart vu hi->r x lo hi H Q->
  ∃ T id,typeLookup (.type T) "__getitem__"=pure (some (.builtin id))/\s.TypeIs v T/\wpAny (model X.prog X.w) X.A (getItem v (.ref sl)) (EP X pins U Q) X.xe s
theorem SlR.or {r r':V->Option Int->Option Int->Hp->VK->Prop} (h:SlR X r) (h':SlR X r'):SlR X (fun x lo hi H Q=>r x lo hi H Q\/r' x lo hi H Q):=by
 intro pins s U H x v vl vu lo hi sl Q I rx hs pl pu q
 rcases q with q | q
 ·exact h pins s U H x v vl vu lo hi sl Q I rx hs pl pu q
 ·exact h' pins s U H x v vl vu lo hi sl Q I rx hs pl pu q
def tSl (r:V->Option Int->Option Int->Hp->VK->Prop) (te:TE) (tl th:TO):TE:=fun U H Q=>te U H fun x H1=>tl U H1 fun l H2=>th U H2 fun u H3=>r x l u H3 Q
theorem Hk {r:V->Option Int->Option Int->Hp->VK->Prop} (hr:SlR X r) (he:PE X e te) (hl:PO X lo tl) (hu:PO X hi th):PE X (.Subscript e (.Slice lo hi none p2) pos) (tSl r te tl th):=by
 intro pins s U H Q I h
 refine Subscript_ (dW (he pins s U H _ I h) fun v s1 qq0=>?_)
 obtain ⟨x,H1,I1,r1,q1⟩:=qq0
 refine wpAny_Slice (dW (hl pins s1 U H1 _ I1 q1) fun vl s2 ⟨l,H2,I2,pl,q2⟩=>dW (hu pins s2 U H2 _ I2 q2) fun vu s3 qq0=>?_)
 obtain ⟨u,H3,I3,pu,q3⟩:=qq0
 rw [evalPart_none]
 refine Wt ?_
 have I4:Inv X pins U H3 {s3 with heap:=s3.heap.push {cls:=.type "slice",data:=.fields #[vl,vu,.none]}}:=I3.kept (t':=s3.toks) fun b ob q=>Wr _ q
 obtain ⟨T,id,hT,ht,hg⟩:=hr pins {s3 with heap:=s3.heap.push {cls:=.type "slice",data:=.fields #[vl,vu,.none]}} U H3 x v vl vu l u s3.heap.objs.size Q I4 r1 (Heap.IsSliceOf.new ..) pl pu q3
 show wpAny (model X.prog X.w) X.A (subscriptTail e (.Slice lo hi none p2) v (.ref s3.heap.objs.size)) (EP X pins U Q) X.xe {s3 with heap:=s3.heap.push {cls:=.type "slice",data:=.fields #[vl,vu,.none]}}
 exact tail_any (ops:=[.ref s3.heap.objs.size,v]) ht hT hg (by with_unfolding_all rfl)
def xU (xs:List V) (lo hi:Option Int):List V:=(xs.drop (HT.sIx xs.length 0 lo)).take (HT.sIx xs.length xs.length hi - HT.sIx xs.length 0 lo)
theorem ud (xs:List V) (lo hi:Option Int):(xU xs lo hi).length<=xs.length:=by
 unfold xU
 rw [Yk,Y0]
 omega
def Ui (K:W.Frag):V->Option Int->Option Int->Hp->VK->Prop:=fun x lo hi H Q=>∃ a xs,x= .ref a/\SqT K H a xs/\
 ¬ (HT.sIx xs.length 0 lo=0/\HT.sIx xs.length xs.length hi=xs.length)/\∀ p,H p=none->Q (.ref p) (upd H p (.tup (xU xs lo hi)))
theorem QR:SlR X (Ui X.K):=by
 intro pins s U H x v vl vu lo hi sl Q I rx hs pl pu h
 obtain ⟨a,xs,rfl,hx,hw,q⟩:=h
 cases rx
 obtain ⟨its,r,ht,hz⟩:=I.tuple hx
 have hlen:its.toArray.size=xs.length:=by rw [WQ];exact r.length.symm
 refine ⟨"tuple",_,PyProof.Rows.slot_tuple_getitem.lookup,ht.typeIs,?_⟩
 refine HT.getItem_tuple_cut ht hs pl pu (by rw [hlen];exact hw) ?_ (by rw [hlen];exact hz)
 rw [hlen]
 refine ⟨.ref s.heap.objs.size,_,I.laid (t':=s.toks) (o:=.tup (xU xs lo hi)) (fun b ob q=>Wr _ q) (Wq _) ?_,rfl,q _ (I.hok.fresh (Wq _))⟩
 exact ⟨WY (ud xs lo hi) hz,_,(r.drop (HT.sIx xs.length 0 lo)).take (HT.sIx xs.length xs.length hi - HT.sIx xs.length 0 lo),IsTup.new _ _⟩
end
def Df (n:Nat) (i:Int):Option Nat:=if 0<=i then (if i < n then some i.toNat else none) else if -(n:Int)<=i then some (i+n).toNat else none
def rR {α:Type} (xs:List α) (i:Int):Option α:=(Df xs.length i).bind fun j=>xs[j]?
theorem Dg {n:Nat} {i:Int} {j:Nat} (h:Df n i=some j):seqIndex? i n=some j/\j < n/\-(n:Int)<=i/\i < n:=by
 unfold Df at h
 by_cases h0:0<=i
 ·rw [if_pos h0] at h
  by_cases h1:i < n
  ·rw [if_pos h1] at h
   have e:i.toNat=j:=WR h
   exact ⟨by rw [seqIndex_of h0 h1,e],by omega,by omega,h1⟩
  ·rw [if_neg h1] at h;cases h
 ·rw [if_neg h0] at h
  by_cases h1: -(n:Int)<=i
  ·rw [if_pos h1] at h
   have e:(i+n).toNat=j:=WR h
   exact ⟨by rw [seqIndex_neg (by omega) h1,e],by omega,h1,by omega⟩
  ·rw [if_neg h1] at h;cases h
theorem xV {α:Type} {xs:List α} {i:Int} {v:α} (h:rR xs i=some v):∃ j,seqIndex? i xs.length=some j/\xs[j]?=some v/\j < xs.length/\-(xs.length:Int)<=i/\i < xs.length:=by
 unfold rR at h
 cases e:Df xs.length i with
 | none=>rw [e] at h;cases h
 | some j=>
  rw [e] at h
  obtain ⟨h1,h2,h3,h4⟩:=Dg e
  exact ⟨j,h1,h,h2,h3,h4⟩
theorem dO {α:Type} {xs:List α} {j:Nat} {v:α} (h:xs[j]?=some v):rR xs (j:Int)=some v:=by
 have hj:j < xs.length:=(Wm.mp h).1
 have e:Df xs.length (j:Int)=some j:=by
  unfold Df
  rw [if_pos (by omega),if_pos (by omega)];simp
 unfold rR;rw [e];exact h
def Dh (b:Expr):Prop:=∀ o i,subscripted b false o i=operate [o,i] (getItem o i)
def IxR (X:Cx) (r:R2):Prop:=
 ∀ (value slice:Expr) (pins:List (Addr×Obj)) (s:Shared) (U:St) (H:Hp) (x y:V) (v u:Value) (Q:VK),Inv X pins U H s->RelV x v->RelV y u->r x y H Q->
  subscripted slice false v u=operate [v,u] (getItem v u)->wpAny (model X.prog X.w) X.A (subscriptTail value slice v u) (EP X pins U Q) X.xe s
def KR (X:Cx) (id:String) (r:V->List V->Hp->VK->Prop):Prop:=
 ∀ (pins:List (Addr×Obj)) (s:Shared) (U:St) (H:Hp) (x:V) (xs:List V) (v:Value) (us:List Value) (Q:VK),Inv X pins U H s->RelV x v->Vals xs us->r x xs H Q->
  wpAny (model X.prog X.w) X.A (call (.builtin id) (v :: us)) (EP X pins U Q) X.xe s
section
variable {X:Cx} {a b:Expr} {ta tb:TE} {pos:Pos}
theorem IxR.or {r r':R2} (h:IxR X r) (h':IxR X r'):IxR X (fun x y H Q=>r x y H Q\/r' x y H Q):=by
 intro value slice pins s U H x y v u Q I rx ry q hs
 rcases q with q | q
 ·exact h value slice pins s U H x y v u Q I rx ry q hs
 ·exact h' value slice pins s U H x y v u Q I rx ry q hs
theorem Uj {r:R2} (hr:IxR X r) (ha:PE X a ta) (hb:PE X b tb) (hs:Dh b):PE X (.Subscript a b pos) (G6 r ta tb):=by
 intro pins s U H Q I h
 exact Subscript_ (Qx ha hb I h fun v u s2 x y H2 I2 rx ry q=>hr a b pins s2 U H2 x y v u Q I2 rx ry q (hs _ _))
def Uk (K:W.Frag):R2:=fun x y H Q=>∃ p xs i v,x= .ref p/\y= .int i/\SqL K H p xs/\rR xs i=some v/\Q v H
def Ul (K:W.Frag):R2:=fun x y H Q=>∃ p xs i v,x= .ref p/\y= .int i/\SqT K H p xs/\rR xs i=some v/\Q v H
def Um:R2:=fun x y H Q=>∃ z i c,x= .str z/\y= .int i/\z.length<=sizeLine/\rR z.cps.toList i=some c/\Q (.str ⟨#[c]⟩) H
theorem Ly:IxR X (Uk X.K):=by
 intro value slice pins s U H x y v u Q I rx ry h hs
 obtain ⟨p,xs,i,z,rfl,rfl,hq,he,q⟩:=h
 cases rx
 obtain ⟨t,rfl⟩:=ry
 obtain ⟨its,r,pl,hz⟩:=I.list hq
 obtain ⟨j,h1,h2,h3,h4,h5⟩:=xV he
 obtain ⟨w,ew,rw'⟩:=r.get h2
 have hl:=r.length
 have hn:=uT
 have fin:EP X pins U Q w s:=⟨z,H,I,rw',q⟩
 by_cases h0:0<=i
 ·have hj:i.toNat=j:=by
   rw [seqIndex_of h0 h5] at h1
   exact WR h1
  exact item_listR pl.isList h0 (by omega) (by rw [hj];simpa using ew) fin hs
 ·have hj:(i+(its.toArray.size:Int)).toNat=j:=by
   rw [seqIndex_neg (by omega) h4] at h1
   rw [WQ,← hl]
   exact WR h1
  exact subscriptTail_builtinR (x:=w) pl.isList.typeIs slot_list_getitem.lookup
   (wpAny_getItem_list_neg (Q:=fun r s'=>r=w/\EP X pins U Q r s') pl.isList (by omega) (by rw [WQ] <;> omega) (by omega) (by rw [hj];simpa using ew) ⟨rfl,fin⟩) hs
theorem QS:IxR X (Ul X.K):=by
 intro value slice pins s U H x y v u Q I rx ry h hs
 obtain ⟨p,xs,i,z,rfl,rfl,hq,he,q⟩:=h
 cases rx
 obtain ⟨t,rfl⟩:=ry
 obtain ⟨its,r,pl,hz⟩:=I.tuple hq
 obtain ⟨j,h1,h2,h3,h4,h5⟩:=xV he
 obtain ⟨w,ew,rw'⟩:=r.get h2
 have hl:=r.length
 have hn:=uT
 have fin:EP X pins U Q w s:=⟨z,H,I,rw',q⟩
 exact subscriptTail_builtinR (x:=w) pl.typeIs slot_tuple_getitem.lookup
  (getItem_tuple (j:=j) (Q:=fun r s'=>r=w/\EP X pins U Q r s') pl (by omega) (by omega) (by rw [WQ,← hl];exact h1) (by simpa using ew) ⟨rfl,fin⟩) hs
theorem QT:IxR X Um:=by
 intro value slice pins s U H x y v u Q I rx ry h hs
 obtain ⟨z,i,c,rfl,rfl,hz,he,q⟩:=h
 obtain ⟨t,rfl⟩:=rx
 obtain ⟨t',rfl⟩:=ry
 obtain ⟨j,h1,h2,h3,h4,h5⟩:=xV he
 have hl:z.cps.toList.length=z.length:=by simp [Str.length]
 rw [hl] at h1 h4 h5
 have hn:=uT
 exact tail_any (typeIs_str s z t) slot_str_getitem.lookup (getItem_str (c:=c) (by
  have e1:decide (i < -(2 ^ 63:Int))=false:=W2 (by omega)
  have e2:decide (i>=2 ^ 63)=false:=W2 (by omega)
  rw [e1,e2,Bool.or_false]) (by rw [h1];simpa using h2) ⟨.str ⟨#[c]⟩,H,I.tok _,⟨_,rfl⟩,q⟩) hs
def QV (K:W.Frag):R2:=fun x y H Q=>Uk K x y H Q\/Ul K x y H Q\/Um x y H Q
theorem QW:IxR X (QV X.K):=Ly.or (QS.or QT)
theorem Bl (its:List Value) (n j:Nat) (u:Value):Obj.mapSeq (·.setIfInBounds j u) {cls:=.type "list",data:=.seq its.toArray n}={cls:=.type "list",data:=.seq (its.set j u).toArray n}:=by
 simp [Obj.mapSeq]
theorem Inv.lst {pins:List (Addr×Obj)} {U:St} {H:Hp} {s:Shared} {p:Addr} {xs:List V} (I:Inv X pins U H s) (h:H p=some (.lst xs)):
  ∃ (its:List Value) (n:Nat),Vals xs its/\s.heap.get? p=some {cls:=.type "list",data:=.seq its.toArray n}/\xs.length<=sizeLine:=by
 obtain ⟨z,its,n,r,e⟩:=I.hok p _ h
 exact ⟨its,n,r,e,z⟩
theorem Inv.lstUpd {pins:List (Addr×Obj)} {U:St} {H:Hp} {s:Shared} {p:Addr} {xs ys:List V} {its its':List Value} {n n':Nat} {f:Obj->Obj} (I:Inv X pins U H s) (h:H p=some (.lst xs))
  (ho:s.heap.get? p=some {cls:=.type "list",data:=.seq its.toArray n}) (hf:f {cls:=.type "list",data:=.seq its.toArray n}={cls:=.type "list",data:=.seq its'.toArray n'}) (r:Vals ys its') (hz:ys.length<=sizeLine) (t:Nat):
  Inv X pins U (upd H p (.lst ys)) {s with heap:=s.heap.update p f,toks:=t}:=by
 have e:(s.heap.update p f).get? p=some {cls:=.type "list",data:=.seq its'.toArray n'}:=by
  rw [XM f ho (by rw [hf] <;> rfl),hf]
 refine I.write (x:=p) (e:=p) (by rw [h];trivial) (.inl rfl) (fun b u hb q=>(X8 _ _ (Ne.symm hb)).trans q) ⟨_,e⟩ ?_
 exact ⟨hz,its',n',r,e⟩
def wX:V->V->V->Hp->(Hp->Prop)->Prop:=fun o i v H Q=>∃ p xs k j,o= .ref p/\i= .int k/\H p=some (.lst xs)/\Df xs.length k=some j/\Q (upd H p (.lst (xs.set j v)))
theorem set_list:K8 X wX:=by
 intro pins s U H o i v ov iv u Q I ro ri rv h
 obtain ⟨p,xs,k,j,rfl,rfl,hp,hj,q⟩:=h
 cases ro
 obtain ⟨t,rfl⟩:=ri
 obtain ⟨its,n,r,ho,hz⟩:=I.lst hp
 obtain ⟨h1,h2,h3,h4⟩:=Dg hj
 have hl:=r.length
 have hn:=uT
 have I':Inv X pins U (upd H p (.lst (xs.set j v))) {s with heap:=s.heap.update p (Obj.mapSeq (·.setIfInBounds j u))}:=
  I.lstUpd hp ho (Bl its n j u) (r.set rv j) (by rw [List.length_set];exact hz) s.toks
 by_cases h0:0<=k
 ·have hk:k.toNat=j:=by
   rw [seqIndex_of h0 h4] at h1
   exact WR h1
  exact PySem.W.ki_setAt ho h0 (by omega) (by rw [WQ,← hl];exact h4) (by rw [hk];exact ⟨_,I',q⟩)
 ·have hk:(k+(its.toArray.size:Int)).toNat=j:=by
   rw [seqIndex_neg (by omega) h3] at h1
   rw [WQ,← hl]
   exact WR h1
  exact PySem.W.ki_setBack ho (by omega) (by rw [WQ,← hl];exact h3) (by omega) (by rw [hk];exact ⟨_,I',q⟩)
theorem xW (lo hi:Option Int) (n:Nat):(sliceBounds lo hi none n).1=((HT.sIx n 0 lo:Nat):Int)/\(sliceBounds lo hi none n).2.1=((HT.sIx n n hi:Nat):Int)/\(sliceBounds lo hi none n).2.2=1:=by
 refine ⟨?_,?_,rfl⟩
 ·cases lo with
  | none=>simp [sliceBounds,HT.sIx]
  | some i=>
   simp only [sliceBounds,HT.sIx,Option.getD_none,show (1:Int) > 0 by decide,if_true]
   by_cases h:i < 0
   ·simp only [h,if_true] <;> omega
   ·simp only [h,if_false] <;> omega
 ·cases hi with
  | none=>simp [sliceBounds,HT.sIx]
  | some i=>
   simp only [sliceBounds,HT.sIx,Option.getD_none,show (1:Int) > 0 by decide,if_true]
   by_cases h:i < 0
   ·simp only [h,if_true] <;> omega
   ·simp only [h,if_false] <;> omega
theorem v8 (its:List Value) (lo hi:Option Int):slicePick its.toArray lo hi none=((its.drop (HT.sIx its.length 0 lo)).take (HT.sIx its.length its.length hi - HT.sIx its.length 0 lo)).toArray:=by
 obtain ⟨h1,h2,h3⟩:=xW lo hi its.toArray.size
 unfold slicePick
 rw [h1,h2,h3]
 simp only [sliceRange_one,pick_run,WQ] <;> rfl
def Uo (K:W.Frag):V->Option Int->Option Int->Hp->VK->Prop:=fun x lo hi H Q=>∃ a xs,x= .ref a/\SqL K H a xs/\∀ p,H p=none->Q (.ref p) (upd H p (.lst (xU xs lo hi)))
theorem Lz:SlR X (Uo X.K):=by
 intro pins s U H x v vl vu lo hi sl Q I rx hs pl pu h
 obtain ⟨a,xs,rfl,hx,q⟩:=h
 cases rx
 obtain ⟨its,r,ht,hz⟩:=I.list hx
 have hlen:=r.length
 refine ⟨"list",_,slot_list_getitem.lookup,ht.isList.typeIs,?_⟩
 refine wpAny_getItem_list_slice ht.isList hs pl pu .none (by simp) ?_ (by rw [WQ] <;> omega)
 rw [v8,← hlen]
 refine ⟨.ref s.heap.objs.size,_,I.laid (t':=s.toks) (o:=.lst (xU xs lo hi)) (fun b ob q=>Wr _ q) (Wq _) ?_,rfl,q _ (I.hok.fresh (Wq _))⟩
 exact ⟨WY (ud xs lo hi) hz,_,0,(r.drop (HT.sIx xs.length 0 lo)).take (HT.sIx xs.length xs.length hi - HT.sIx xs.length 0 lo),Ww _ rfl⟩
def mq:V->Bool
 | .non=>true
 | .bl _=>true
 | .int _=>true
 | .str _=>true
 | _=>false
def Di:V->V->Bool
 | .non,.non=>true
 | .bl a,.bl b=>a == b
 | .bl a,.int b=>(if a then 1 else 0) == b
 | .int a,.bl b=>a == (if b then 1 else 0)
 | .int a,.int b=>a == b
 | .str a,.str b=>a == b
 | _,_=>false
theorem xX {A:Around} {s:Shared} {y x:V} {u v:Value} (ry:RelV y u) (rx:RelV x v) (fy:mq y=true) (fx:mq x=true):SeqAt.EqAt A s u v (Di y x):=by
 cases y with
 | non=>
  cases ry
  cases x with
  | non=>cases rx;exact SeqAt.EqAt.same _
  | bl b=>cases rx;exact SeqAt.EqAt.none_bool b
  | int b=>obtain ⟨t,rfl⟩:=rx;exact SeqAt.EqAt.none_int b t
  | str b=>obtain ⟨t,rfl⟩:=rx;exact SeqAt.EqAt.none_str b t
  | _=>exact absurd (show false=true from fx) WF
 | bl a=>
  cases ry
  cases x with
  | non=>cases rx;exact SeqAt.EqAt.bool_none a
  | bl b=>cases rx;exact SeqAt.EqAt.bool_bool a b
  | int b=>obtain ⟨t,rfl⟩:=rx;exact SeqAt.EqAt.bool_int a b t
  | str b=>obtain ⟨t,rfl⟩:=rx;exact SeqAt.EqAt.bool_str a b t
  | _=>exact absurd (show false=true from fx) WF
 | int a=>
  obtain ⟨t',rfl⟩:=ry
  cases x with
  | non=>cases rx;exact SeqAt.EqAt.int_none a t'
  | bl b=>cases rx;exact SeqAt.EqAt.int_bool a t' b
  | int b=>obtain ⟨t,rfl⟩:=rx;exact SeqAt.EqAt.int_int a t' b t
  | str b=>obtain ⟨t,rfl⟩:=rx;exact SeqAt.EqAt.int_str a t' b t
  | _=>exact absurd (show false=true from fx) WF
 | str a=>
  obtain ⟨t',rfl⟩:=ry
  cases x with
  | non=>cases rx;exact SeqAt.EqAt.str_none a t'
  | bl b=>cases rx;exact SeqAt.EqAt.str_bool a t' b
  | int b=>obtain ⟨t,rfl⟩:=rx;exact SeqAt.EqAt.str_int a t' b t
  | str b=>obtain ⟨t,rfl⟩:=rx;exact SeqAt.EqAt.str_str a t' b t
  | _=>exact absurd (show false=true from fx) WF
 | _=>exact absurd (show false=true from fy) WF
def LC (x:V) (u:Value):Bool:=match u with
 | .none=>Di .non x
 | .bool b=>Di (.bl b) x
 | .int i _=>Di (.int i) x
 | .str z _=>Di (.str z) x
 | _=>false
theorem Hl {x y:V} {u:Value} (r:RelV y u) (f:mq y=true):LC x u=Di y x:=by
 cases y with
 | non=>cases r;rfl
 | bl b=>cases r;rfl
 | int i=>obtain ⟨t,rfl⟩:=r;rfl
 | str z=>obtain ⟨t,rfl⟩:=r;rfl
 | _=>exact absurd (show false=true from f) WF
theorem xY {x:V}:∀ {xs:List V} {us:List Value},Vals xs us->xs.all mq=true->us.any (LC x)=xs.any fun y=>Di y x
 | _,_,.nil,_=>rfl
 | y :: xs,u :: us,.cons r t,f=>by
  rw [Xv,WX] at f
  rw [List.any_cons,List.any_cons,Hl r f.1,xY t f.2]
theorem uW {A:Around} {s:Shared} {x:V} {v:Value} (rx:RelV x v) (fx:mq x=true):∀ {xs:List V} {us:List Value},Vals xs us->xs.all mq=true->∀ u∈us,SeqAt.EqAt A s u v (LC x u)
 | _,_,.nil,_=>fun u hu=>by cases hu
 | y :: xs,u :: us,.cons r t,f=>fun u' hu=>by
  rw [Xv,WX] at f
  rcases WD.mp hu with rfl | hu
  ·rw [Hl r f.1];exact xX r rx f.1 fx
  ·exact uW rx fx t f.2 u' hu
def inV (x:V) (xs:List V):Bool:=xs.any fun y=>Di y x
def rIn (K:W.Frag) (neg:Bool):R2:=fun x y H Q=>∃ p xs,y= .ref p/\(SqL K H p xs\/SqT K H p xs)/\mq x=true/\xs.all mq=true/\Q (.bl (if neg then !inV x xs else inV x xs)) H
theorem Fg:OpR X (compareOp .In) (rIn X.K false):=by
 intro pins s U H x y v u Q I rx ry h
 obtain ⟨p,xs,rfl,hq,fx,fs,q⟩:=h
 cases ry
 rcases hq with hq | hq
 ·obtain ⟨its,r,pl,hz⟩:=I.list hq
  refine SeqAt.in_listAt (LC x) pl.isList (fun w hw=>uW rx fx r fs w (by simpa using hw)) ⟨.bl _,H,I,rfl,?_⟩
  rw [show its.toArray.any (LC x)=its.any (LC x) by simp,xY r fs]
  exact q
 ·obtain ⟨its,r,pl,hz⟩:=I.tuple hq
  refine SeqAt.in_tupleAt (LC x) pl (fun w hw=>uW rx fx r fs w (by simpa using hw)) ⟨.bl _,H,I,rfl,?_⟩
  rw [show its.toArray.any (LC x)=its.any (LC x) by simp,xY r fs]
  exact q
theorem CallR.or {f:Value} {r r':List V->Hp->VK->Prop} (h:CallR X f r) (h':CallR X f r'):CallR X f (fun xs H Q=>r xs H Q\/r' xs H Q):=by
 intro pins s U H xs us Q I rs q
 rcases q with q | q
 ·exact h pins s U H xs us Q I rs q
 ·exact h' pins s U H xs us Q I rs q
theorem xZ:CallR X (.type "list") (fun xs H Q=>∃ p ys,xs=[.ref p]/\(SqL X.K H p ys\/SqT X.K H p ys)/\∀ l,H l=none->Q (.ref l) (upd H l (.lst ys))):=by
 intro pins s U H xs us Q I r h
 obtain ⟨p,ys,rfl,hq,q⟩:=h
 obtain ⟨u,rfl,rx⟩:=vals1 r
 cases rx
 have fin:∀ (its:List Value),Vals ys its->ys.length<=sizeLine->∀ (h':Heap) (c':Nat),(∀ b o',s.heap.get? b=some o'->h'.get? b=some o')->
   h'.get? s.heap.objs.size=some {cls:=.type "list",dict:=none,data:=.seq its.toArray c',slots:=#[]}->EP X pins U Q (.ref s.heap.objs.size) {s with heap:=h'}:=fun its r' hz h' c' kp e=>
  ⟨.ref s.heap.objs.size,_,I.laid (t':=s.toks) kp (Wq _) (show ObjOk X.prog X.w _ h' _ (.lst ys) from ⟨hz,its,c',r',e⟩),rfl,q _ (I.hok.fresh (Wq _))⟩
 rcases hq with hq | hq
 ·obtain ⟨its,r',pl,hz⟩:=I.list hq
  have hlen:=r'.length
  obtain ⟨o,ho,hc,n,hd⟩:=pl.isList
  exact call_list_seq p (.inl rfl) ho hc hd (fun h' c' kp e=>fin its r' hz h' c' kp e) (by simp only [WQ] <;> omega)
 ·obtain ⟨its,r',pl,hz⟩:=I.tuple hq
  have hlen:=r'.length
  obtain ⟨o,ho,hc,n,hd⟩:=pl
  exact call_list_seq p (.inr rfl) ho hc hd (fun h' c' kp e=>fin its r' hz h' c' kp e) (by simp only [WQ] <;> omega)
def Up (K:W.Frag) (T:String) (x:V) (H:Hp):Prop:=match x with
 | .str _=>T="str"
 | .int _=>T="int"
 | .ref p=>(T="list"/\∃ xs,SqL K H p xs)\/(T="tuple"/\∃ o,K.lookup p=some o/\o.cls= .type "tuple"/\o.dict=none)\/
   (T="dict"/\((∃ kvs,H p=some (.dK kvs))\/∃ kvs,H p=some (.dT kvs)))\/(T="set"/\∃ S n,H p=some (.set S n))
 | _=>False
theorem Hm {pins:List (Addr×Obj)} {U:St} {H:Hp} {s:Shared} {T:String} {x:V} {v:Value} (I:Inv X pins U H s) (r:RelV x v) (ty:Up X.K T x H):
  s.TypeIs v T/\∀ a,v= .ref a->∃ ob,s.heap.get? a=some ob/\ob.dict=none:=by
 cases x with
 | str z=>
  obtain ⟨t,rfl⟩:=r
  cases (show T="str" from ty)
  exact ⟨typeIs_str s z t,fun _ e=>nomatch e⟩
 | int i=>
  obtain ⟨t,rfl⟩:=r
  cases (show T="int" from ty)
  exact ⟨typeIs_int s i t,fun _ e=>nomatch e⟩
 | ref p=>
  cases r
  rcases ty with ⟨rfl,xs,hq⟩ | ⟨rfl,o,hk,hc,hd⟩ | ⟨rfl,hk⟩ | ⟨rfl,S,n,hk⟩
  ·obtain ⟨its,_,pl,_⟩:=I.list hq
   refine ⟨pl.isList.typeIs,fun a e=>?_⟩
   cases e
   obtain ⟨o,n,e,c,hd,_⟩:=pl
   exact ⟨o,e,hd⟩
  ·refine ⟨⟨o,I.kIn p o hk,hc⟩,fun a e=>?_⟩
   cases e
   exact ⟨o,I.kIn _ o hk,hd⟩
  ·have z:∃ o,s.heap.get? p=some o/\o.ExactDict:=by
    rcases hk with ⟨kvs,hk⟩ | ⟨kvs,hk⟩
    ·obtain ⟨_,_,_,_,o,_,_,e,ex,_⟩:=I.hok p _ hk
     exact ⟨o,e,ex⟩
    ·obtain ⟨_,_,_,_,o,_,_,e,ex,_⟩:=I.hok p _ hk
     exact ⟨o,e,ex⟩
   obtain ⟨o,e,ex⟩:=z
   refine ⟨⟨o,e,ex.1⟩,fun a e2=>?_⟩
   cases e2
   exact ⟨o,e,ex.2.1⟩
  ·obtain ⟨o,_,_,_,e,ex,_⟩:=I.hok p _ hk
   refine ⟨⟨o,e,ex.1⟩,fun a e2=>?_⟩
   cases e2
   exact ⟨o,e,ex.2.1⟩
 | _=>exact False.elim ty
def Hn (K:W.Frag) (T:String) (r:V->List V->Hp->VK->Prop) (to:TE):TE:=fun U H Q=>to U H fun x H1=>Up K T x H1/\r x [] H1 Q
def Uq (K:W.Frag) (T:String) (r:V->List V->Hp->VK->Prop) (to:TE) (t:TA):TE:=fun U H Q=>to U H fun x H1=>Up K T x H1/\t U H1 fun xs H2=>r x xs H2 Q
variable {o e:Expr} {es:List Expr} {to:TE} {t:TA} {name:Str} {apos cpos:Pos} {T id:String} {r:V->List V->Hp->VK->Prop}
theorem QX (pa:PlainAttrs T) (slot:Slot T name id) (hty:typeOf (.builtin id)=pure (.type "method_descriptor")) (hm:KR X id r) (ho:PE X o to)
  (hbase:autoParam (attributeBase o name X.env (eval o X.env)=eval o X.env) L2.auto4._auto_1) (hline:autoParam ((apos.endLine == cpos.line)=true) L2.auto4._auto_1):PE X (.Call (.Attribute o name apos) [] [] cpos) (Hn X.K T r to):=by
 intro pins s U H Q I h
 refine wpAny_Call_method0_late hbase hline (dW (ho pins s U H _ I h) fun v s1 qq0=>?_)
 obtain ⟨x,H1,I1,r1,ty,q1⟩:=qq0
 obtain ⟨h1,h2⟩:=Hm I1 r1 ty
 exact ⟨T,id,pa,slot,hty,h1,h2,Calls.callWith_builtin rfl (PySem.evalArgs_none (hm pins s1 U H1 x [] v [] Q I1 r1 .nil q1))⟩
theorem Ur (pa:PlainAttrs T) (slot:Slot T name id) (hty:typeOf (.builtin id)=pure (.type "method_descriptor")) (hm:KR X id r) (ho:PE X o to) (ha:PA X (e :: es) t)
  (hbase:autoParam (attributeBase o name X.env (eval o X.env)=eval o X.env) L2.auto4._auto_1)
  (hfew:((backTo cpos (starEach (e :: es) X.env)).all (fun x=>!x.1) && (backToKw cpos (keywordEach [] X.env)).all (fun x=>x.1.isSome)
   && decide ((e :: es).length+([]:List Keyword).length+(if ([]:List Keyword).isEmpty then 0 else 1) < 30))=true:=by rfl)
  (hline:autoParam ((apos.endLine == cpos.line)=true) L2.auto4._auto_1) (hs:autoParam (starEach (e :: es) X.env=(false,eval e X.env) :: starEach es X.env) L2.auto4._auto_1) (hplain:autoParam ((backTo cpos (starEach es X.env)).any (·.1)=false) L2.auto4._auto_1):
  PE X (.Call (.Attribute o name apos) (e :: es) [] cpos) (Uq X.K T r to t):=by
 intro pins s U H Q I h
 refine wpAny_Call_method_late hbase hfew hline rfl (dW (ho pins s U H _ I h) fun v s1 qq0=>?_)
 obtain ⟨x,H1,I1,r1,ty,q1⟩:=qq0
 obtain ⟨h1,h2⟩:=Hm I1 r1 ty
 refine ⟨T,id,pa,slot,hty,h1,h2,?_⟩
 have hA:=ha cpos pins s1 U H1 _ I1 q1
 rw [hs] at hA ⊢
 refine Calls.callWith_builtin (by show (false || (backTo cpos (starEach es X.env)).any (·.1))=false;rw [hplain] <;> rfl) (Calls.evalArgs_plain ?_)
 exact dW hA fun us s2 ⟨vs,H2,I2,r2,q2⟩=>hm pins s2 U H2 x vs v us Q I2 r1 r2 q2
end
def MtM (X:Cx) (id:String) (r:V->List V->Hp->VK->Prop):Prop:=
 ∀ (pins:List (Addr×Obj)) (s:Shared) (U:St) (H:Hp) (x:V) (xs:List V) (v:Value) (us:List Value) (Q:VK),Inv X pins U H s->RelV x v->Vals xs us->r x xs H Q->
  wpAny (model X.prog X.w) X.A (call (.builtin id) (v :: us)) (EP X pins U Q) X.xe s
theorem Vals.one:∀ {x:V} {us:List Value},Vals [x] us->∃ u,us=[u]/\RelV x u
 | _,_,.cons r .nil=>⟨_,rfl,r⟩
theorem Vals.zero:∀ {us:List Value},Vals [] us->us=[]
 | _,.nil=>rfl
theorem Vals.reverse {xs:List V} {us:List Value} (h:Vals xs us):Vals xs.reverse us.reverse:=by
 induction h with
 | nil=>exact .nil
 | cons r t ih=>rw [List.reverse_cons,List.reverse_cons];exact Vals.append ih (.cons r .nil)
theorem Vals.rep {xs:List V} {us:List Value} (h:Vals xs us):∀ k:Nat,Vals (List.replicate k xs).flatten (List.replicate k us).flatten
 | 0=>.nil
 | k+1=>by
  rw [Yq,Yq,Ye,Ye]
  exact Vals.append h (Vals.rep h k)
theorem foldl_rep (its:List Value):∀ (k:Nat) (acc:List Value),
  List.foldl (fun x1 x2=>x1 ++ x2) acc.toArray (List.replicate k its.toArray)=(acc ++ (List.replicate k its).flatten).toArray
 | 0,acc=>by simp
 | k+1,acc=>by
  have e:acc.toArray ++ its.toArray=(acc ++ its).toArray:=by simp
  have e2:(acc ++ its) ++ (List.replicate k its).flatten=acc ++ (List.replicate (k+1) its).flatten:=by
   rw [Yq,Ye,Yo]
  rw [← e2,← foldl_rep its k (acc ++ its),← e,Yq,List.foldl_cons]
section
variable {X:Cx} {pins:List (Addr×Obj)} {U:St} {H:Hp} {s:Shared} {l b:Addr} {xs ys zs:List V}
theorem Inv.lset {its its':List Value} {n:Nat} {f:Array Value->Array Value} {t':Nat} (I:Inv X pins U H s) (hH:H l=some (.lst xs))
  (e:s.heap.get? l=some {cls:=.type "list",data:=.seq its.toArray n}) (hf:f its.toArray=its'.toArray) (hv:Vals ys its') (hz:ys.length<=sizeLine):
  Inv X pins U (upd H l (.lst ys)) {s with heap:=s.heap.update l (Obj.mapSeq f),toks:=t'}:=by
 have q:=PySem.IsL.update e f
 rw [hf] at q
 refine I.write (x:=l) (e:=l) (by rw [hH];exact trivial) (.inl rfl) (fun b' u hb hu=>(X8 s.heap (Obj.mapSeq f) (Ne.symm hb)).trans hu) ⟨_,q⟩ ?_
 exact ⟨hz,its',_,hv,q⟩
theorem Inv.lnew {its:List Value} {t':Nat} (I:Inv X pins U H s) (hv:Vals ys its) (hz:ys.length<=sizeLine):
  Inv X pins U (upd H s.heap.objs.size (.lst ys)) {s with heap:=s.heap.push {cls:=.type "list",data:=.seq its.toArray},toks:=t'}:=
 I.laid (fun _ _ q=>Wr _ q) (Wq _) ⟨hz,its,0,hv,Ww _ rfl⟩
theorem Inv.fresh (I:Inv X pins U H s):H s.heap.objs.size=none:=I.hok.fresh (Wq _)
theorem Inv.lstM (I:Inv X pins U H s) (hH:H l=some (.lst xs)):xs.length<=sizeLine/\∃ (its:List Value) (n:Nat),Vals xs its/\xs.length=its.length/\s.heap.get? l=some {cls:=.type "list",data:=.seq its.toArray n}:=by
 obtain ⟨z,its,n,r,e⟩:=I.hok l _ hH
 exact ⟨z,its,n,r,r.length,e⟩
theorem Ho {n:Nat} (h:n<=sizeLine):Builtin.List.listTooLong n=false:=by
 unfold Builtin.List.listTooLong
 exact W2 (by omega)
end
section
variable {X:Cx}
def Dj:V->List V->Hp->VK->Prop:=fun x vs H Q=>∃ l xs y,x= .ref l/\vs=[y]/\H l=some (.lst xs)/\xs.length < sizeLine/\Q .non (upd H l (.lst (xs ++ [y])))
theorem aW:MtM X "list.append" Dj:=by
 intro pins s U H x vs v us Q I rx rv h
 obtain ⟨l,xs,y,rfl,rfl,hH,hz,q⟩:=h
 cases rx
 obtain ⟨u,rfl,ru⟩:=rv.one
 obtain ⟨z,its,n,r,hl,e⟩:=I.lstM hH
 refine call_meets F.slot_list_append ⟨_,e,rfl⟩ F.entry_list_append (F.args_list_append_2 _ _) (PySem.list_append l its.toArray n u (by rw [WQ];omega)) ⟨e,?_⟩
 refine ⟨.non,_,I.lset (its':=its ++ [u]) hH e (by simp) (r.append (.cons ru .nil)) ?_,rfl,q⟩
 rw [Xl,List.length_singleton]
 omega
def QZ:V->List V->Hp->VK->Prop:=fun x vs H Q=>∃ l xs,x= .ref l/\vs=[]/\H l=some (.lst xs)/\Q .non (upd H l (.lst []))
theorem Hq:MtM X "list.clear" QZ:=by
 intro pins s U H x vs v us Q I rx rv h
 obtain ⟨l,xs,rfl,rfl,hH,q⟩:=h
 cases rx
 have hus:=rv.zero
 subst hus
 obtain ⟨z,its,n,r,hl,e⟩:=I.lstM hH
 refine call_meets F.slot_list_clear ⟨_,e,rfl⟩ F.entry_list_clear (F.args_list_clear_1 _) (AutoSeq1.list_clear_list_0 l its.toArray n (by rw [WQ];omega)) ⟨e,?_⟩
 exact ⟨.non,_,I.lset (its':=[]) (ys:=[]) hH e rfl .nil (Xx _),rfl,q⟩
def Us:R2:=fun x y H Q=>∃ l b xs zs,x= .ref l/\y= .ref b/\H l=some (.lst xs)/\H b=some (.lst zs)/\xs.length+zs.length<=sizeLine/\∀ p,H p=none->Q (.ref p) (upd H p (.lst (xs ++ zs)))
theorem Q0:OpR X (binaryOp .Add) Us:=by
 intro pins s U H x y v u Q I rx ry h
 obtain ⟨l,b,xs,zs,rfl,rfl,hH,hB,hz,q⟩:=h
 cases rx
 cases ry
 obtain ⟨z,its,n,r,hl,e⟩:=I.lstM hH
 obtain ⟨z2,its2,n2,r2,hl2,e2⟩:=I.lstM hB
 refine PySem.P.add_list e e2 ?_ (by rw [WQ,WQ];omega)
 have ea:its.toArray ++ its2.toArray=(its ++ its2).toArray:=by simp
 rw [ea]
 exact ⟨.ref _,_,I.lnew (t':=s.toks) (r.append r2) (by rw [Xl];omega),rfl,q _ I.fresh⟩
def Ut:R2:=fun x y H Q=>∃ l k xs,x= .ref l/\y= .int k/\H l=some (.lst xs)/\-(2 ^ 63)<=k/\k < 2 ^ 63/\xs.length*k.toNat<=sizeLine/\
 ∀ p,H p=none->Q (.ref p) (upd H p (.lst (List.replicate k.toNat xs).flatten))
theorem len_rep {α:Type} (xs:List α) (k:Nat):(List.replicate k xs).flatten.length=k*xs.length:=by
 induction k with
 | zero=>simp
 | succ k ih=>rw [Yq,Ye,Xl,ih,Nat.succ_mul,Nat.add_comm]
theorem Q3:OpR X (binaryOp .Mult) Ut:=by
 intro pins s U H x y v u Q I rx ry h
 obtain ⟨l,k,xs,rfl,rfl,hH,h1,h2,hz,q⟩:=h
 cases rx
 obtain ⟨t,rfl⟩:=ry
 obtain ⟨z,its,n,r,hl,e⟩:=I.lstM hH
 have hlen:its.toArray.size*k.toNat<=sizeLine:=by rw [WQ,← hl];exact hz
 have hcap:¬ its.toArray.size*k.toNat > (2 ^ 63 - 1) / 8:=by
  have:(sizeLine:Nat)<=(2 ^ 63 - 1) / 8:=by decide
  omega
 have hfit:¬ (!Builtin.List.listFitsIndex k)=true:=by
  rw [fitsIndex_both h1 h2]
  exact WF
 have hlong:¬ Builtin.List.listTooLong (its.toArray.size*k.toNat)=true:=by
  rw [Ho hlen]
  exact WF
 have hnew:List.foldl (fun x1 x2=>x1 ++ x2) #[] (List.replicate (if its.toArray.isEmpty=true then 0 else k.toNat) its.toArray)=(List.replicate k.toNat its).flatten.toArray:=by
  have f0:∀ m:Nat,List.foldl (fun x1 x2=>x1 ++ x2) #[] (List.replicate m its.toArray)=(List.replicate m its).flatten.toArray:=fun m=>by
   have:=foldl_rep its m []
   rw [List.nil_append] at this
   exact this
  rw [f0]
  cases its with
  | nil=>simp
  | cons a r'=>rw [if_neg (by simp)]
 refine wpAny_binaryOp_repeat_ref (T:="list") (U:="int") (by decide) ⟨_,e,rfl⟩ (fun s'=>typeIs_int s' k t) noFill_list_mul F.fills_int_mul F.slot_int_rmul repeat_list F.slot_int_index.lookup
  (call_meets F.slot_int_rmul (typeIs_int s k t) F.entry_int_rmul (F.args_int_rmul_2 _ _) (int___rmul___int_list k t l its.toArray n)
   ⟨e,rfl,⟨_,e,rfl⟩,call_meets F.slot_list_mul ⟨_,e,rfl⟩ F.entry_list_mul (F.args_list_mul_2 _ _) (AutoListH.list___mul___list_int_3 l its.toArray n k t hfit hcap hlong) ⟨e,?_⟩⟩)
 rw [hnew]
 exact ⟨.ref _,_,I.lnew (t':=s.toks) (r.rep k.toNat) (by rw [len_rep,Nat.mul_comm];exact hz),rfl,q _ I.fresh⟩
end
end L2
namespace Att
open PySem PySem.W PySem.Calls PyProof.Rows
theorem uy {P:Params} {h:Heap}:∀ (ns:List Int) (vs:List Value),WellAll P h vs (ns.map WData.int)->IntsAre vs ns:=by
 intro ns
 induction ns with
 | nil=>
  intro vs w
  rw [List.map_nil] at w
  cases w
  exact .nil
 | cons n ns ih=>
  intro vs w
  rw [Xh] at w
  cases w with
  | cons a b=>
   cases a
   exact .cons _ _ (ih _ b)
theorem Fi {l:OpenLaw} {n:Nat} (hn:l.most=some n) {P:Params} {h:Heap} {args:List WData} {vals:List Value}
  (hpre:l.row.toRowW.claim.pre args=true) (hwl:WellAll P h vals args):
  ∃ a vs ns,vals=[Value.ref a]/\args=[WData.list (ns.map WData.int)]/\h.get? a=some {cls:=.type "list",data:=.seq vs.toArray}/\IntsAre vs ns/\ns.length<=n:=by
 have hsh:WShape.hasAll [] args [.list .int]=true:=(pre_splitW hpre).1
 have hc:l.pre.holds [] {args:=args}=true:=(pre_splitW hpre).2
 obtain ⟨d,r,rfl,h1,h2⟩:=hasAllW_cons hsh
 obtain rfl:=hasAllW_nil h2
 obtain ⟨xs,rfl,h3⟩:=hasW_list h1
 obtain ⟨ns,rfl⟩:=items_int h3
 have hlen:ns.length<=n:=by
  unfold OpenLaw.pre at hc
  have h4:(WTm.not (.lt (.lit (.int (n:Int))) (.len (.arg 0)))).holds [] {args:=[.list (ns.map .int)]}=true:=by
   have h4:=(holds_andW hc).1
   rw [hn] at h4
   exact h4
  have h5:=condW_of h4 (w_not (w_lt w_lit (w_len_list (w_arg rfl))))
  rw [Ws] at h5
  refine Nat.le_of_not_lt fun q=>?_
  have q':(n:Int) < ((ns.length:Nat):Int):=by omega
  first
   | (rw [W0 q'] at h5;exact absurd h5 (by decide))
   | (simp at h5;omega)
 cases hwl with
 | cons w1 w2=>
  cases w2
  cases w1 with
  | list ho hall=>exact ⟨_,_,ns,rfl,rfl,ho,uy ns _ hall,hlen⟩
theorem Fj (l:OpenLaw) (args:List WData):l.row.toRowW.claim.post args (.bool true) args=true:=
 postW_of (r:=l.row.toRowW) (X:=(true == true))
  (show WShape.has [] (.bool true) .bool=true by first | rfl | decide | simp [WShape.has,WShape.arms,WShape.armsAll])
  (show (WTm.eq .res (.lit (.bool true))).value [] {args:=args,res:=some (.bool true),after:=args}=some (.bool (true == true)) from w_eq_bool (w_res rfl) w_lit) rfl
theorem attach_call {l:OpenLaw} {n:Nat} {q:Program} {loose:List Str} {XP:(Str->Option Value)->Heap->Prop} {YP:World->Heap->Prop} {d:DefRec}
  (hn:l.most=some n) (hdf:d.params.defaults=[])
  (call:∀ (w:World) (s₀ s₁:Shared) (mg mb:Str->Option Value) (fa:Addr) (o:Obj) (pm cd doc:Value) (a:Addr) (vs:List Value) (ns:List Int),
   Ground q loose [] XP w s₀ mg mb s₁.heap->YP w s₁.heap->
   s₁.heap.get? fa=some o->o.data= .func (docDef d.name d.params d.body d.scope pm cd doc)->s₁.heap.CodeRec cd d.name->mg d.name=some (.ref fa)->
   s₁.heap.get? a=some {cls:=.type "list",data:=.seq vs.toArray}->IntsAre vs ns->ns.length<=n->s₁.gens= #[]->
   codeAny (model l.prog w) callerA (.call (.ref fa) ⟨[.ref a],[]⟩) (fun r s'=>r= .ok (.ret (.bool true))/\OldK s₁.heap s'.heap/\s'.os=s₁.os/\AllBare s'.gens) s₁):
  WalkO q loose XP YP l.row.toRowW d [] (fun f vs=>PySem.call f vs):=by
 intro w s₀ s₁ mg mb G Y fa o pm cd doc dV kV ho hd hcd hD hmg hg args vals as hpre hlay hrd hwl hlo
 obtain rfl:dV= .none:=Dflts.none hD hdf
 obtain rfl:kV= .none:=Dflts.noKw hD
 obtain ⟨a,vs,ns,rfl,rfl,hobj,hints,hlen⟩:=Fi hn hpre hwl
 refine enter_call (codeAny_mono (call w s₀ s₁ mg mb fa o pm cd doc a vs ns G Y ho (fd_plain hd) hcd hmg hobj hints hlen hg) fun r s' hq=>?_)
 obtain ⟨rfl,h2,h3,h4⟩:=hq
 exact ⟨.inl ⟨.bool true,.bool true,[],rfl,fun _=>rfl,.bool true,Fj l _,fun _=>⟨List.Pairwise.nil,fun _ hm=>(nomatch hm)⟩⟩,h2,h3,h4⟩
end Att
namespace L2
open PySem PySem.Spec PyProof.Rows
theorem wY:∀ {vs:List Value} {ns:List Int},IntsAre vs ns->Vals (ns.map V.int) vs
 | _,_,.nil=>.nil
 | _,_,.cons n t h=>.cons ⟨t,rfl⟩ (wY h)
def Only (H:Hp):Prop:=∀ b,H b=none\/∃ o xs,H b=some (.frz o (.lst xs))
theorem Hr {P:Program} {w:World} {K:W.Frag} {mg mb:Str->Option Value} {CX:Fd} {k:Nat} {fa a:Addr} {fd:FuncData} {x:Str} {sp:Sp} {s₁:Shared} {vs:List Value} {ns:List Int}
  (KX:K.In s₁.heap) (hns:s₁.heap.Ns mainGlobals mg) (hb:s₁.heap.Ns builtinsNs mb) (hbb:∀ x:Str,x≠"__name__"->mb x=bootBuiltins x) (hlim:s₁.heap.NoLimit) (hsm:∃ mm,s₁.heap.Ns sysModules mm) (hbm:∃ bm ob,mg "__builtins__"=some (.ref bm)/\bm≠builtinsNs/\s₁.heap.get? bm=some ob/\ob.cls= .type "module"/\ob.dict=some builtinsNs/\ob.data= .plain) (hg:s₁.gens= #[])
  (ha:s₁.heap.get? a=some {cls:=.type "list",data:=.seq vs.toArray}) (hi:IntsAre vs ns) (hl:ns.length<=sizeLine) (hr:Room k callerA)
  (F:∀ base:Heap,K.In base->base.Ns mainGlobals mg->FnOk P w K mg base CX k fa fd [x] sp) (hbind:∀ (s:Shared) (u:Value),BindsTo s fd ⟨[u],[]⟩ [(x,u)])
  (hsp:∀ H:Hp,Only H->SqL K H a (ns.map V.int)->sp [.ref a] H (fun v _=>v= .bl true) fun _ _ _=>False)
  (hCX:∀ H e s',CX [] H s₁ (fun _ _ _=>False) e s'->False):
  codeAny (model P w) callerA (.call (.ref fa) ⟨[.ref a],[]⟩) (fun r s'=>r= .ok (.ret (.bool true))/\OldK s₁.heap s'.heap/\s'.os=s₁.os/\AllBare s'.gens) s₁:=by
 have rv:=wY hi
 have lenV:=hi.length
 have core:∀ H:Hp,Only H->SqL K H a (ns.map V.int)->HOk P w H s₁.heap->(∀ b,H b≠none->b=a)->(H a≠none->K.lookup a=none)->
   codeAny (model P w) callerA (.call (.ref fa) ⟨[.ref a],[]⟩) (fun r s'=>r= .ok (.ret (.bool true))/\OldK s₁.heap s'.heap/\s'.os=s₁.os/\AllBare s'.gens) s₁:=by
  intro H hO hS hok hA hK
  have base_of:∀ {b:Addr} {o:Obj},s₁.heap.get? b=some o->H b=none->(xP s₁.heap H).get? b=some o:=fun e n=>Gw e n
  have noA:∀ {b:Addr} {o:Obj} {es:Array DictEntry} {ep:Nat},s₁.heap.get? b=some o->o.data= .dict es ep->H b=none:=fun {b o es ep} e d=>by
   cases q:H b with
   | none=>rfl
   | some u=>
    have e':b=a:=hA b (by rw [q];simp)
    subst e'
    rw [ha] at e;cases e
    have d':Data.seq vs.toArray _=Data.dict es ep:=d
    cases d'
  have noM:∀ {b:Addr} {o:Obj},s₁.heap.get? b=some o->o.cls= .type "module"->H b=none:=fun {b o} e d=>by
   cases q:H b with
   | none=>rfl
   | some u=>
    have e':b=a:=hA b (by rw [q];simp)
    subst e'
    rw [ha] at e;cases e
    exact absurd (show (Value.type "list":Value)= .type "module" from d) (fun z=>absurd (Value.type.inj z) (by decide))
  have nsK:∀ {b:Addr} {m:Str->Option Value},s₁.heap.Ns b m->(xP s₁.heap H).Ns b m:=fun {b m} ⟨o,es,ep,e,d,r⟩=>⟨o,es,ep,base_of e (noA e d),d,r⟩
  have hKb:K.In (xP s₁.heap H):=fun b o e=>base_of (KX b o e) (by
   cases q:H b with
   | none=>rfl
   | some u=>
    have e':b=a:=hA b (by rw [q];simp)
    subst e'
    rw [hK (by rw [q];simp)] at e;cases e)
  have hM:Mod K mg (xP s₁.heap H):=⟨hKb,nsK hns,⟨mb,nsK hb,hbb⟩,(let ⟨mc,h1,h2⟩:=hlim;⟨mc,nsK h1,h2⟩),(let ⟨mm,h1⟩:=hsm;⟨mm,nsK h1⟩),let ⟨bm,ob,b1,b2,b3,b4,b5⟩:=hbm;⟨bm,ob,b1,b2,base_of b3 (noM b3 b4),b4,b5⟩⟩
  have e0:Env0 P w K mg (xP s₁.heap H) callerA [] s₁ H:=⟨rfl,hM,fun b o e=>KY e,Nat.le_of_eq (Et _ _),trivial,fun b hb=>absurd (show b∈([]:List Addr) from hb) (by simp),hok,.of_eq hg⟩
  refine codeAny_mono ((F _ hKb (nsK hns)).run callerA [] s₁ H ⟨[.ref a],[]⟩ [.ref a] [.ref a] _ _ hr e0 (hbind s₁ (.ref a)) (.cons rfl .nil) (hsp H hO hS)) fun r s' h=>?_
  cases r with
  | error e=>exact (hCX H e s' h).elim
  | ok fl=>
   cases fl with
   | next=>exact False.elim h
   | brk=>exact False.elim h
   | cont=>exact False.elim h
   | ret u=>
    obtain ⟨v,H',os,bare,un,hok',r',q⟩:=h
    have q':v= .bl true:=q
    subst q'
    obtain rfl:u=Value.bool true:=r'
    refine ⟨rfl,OldK.of_keep fun b o e=>?_,os,bare⟩
    cases q:H b with
    | none=>exact un.keep b o e q (by intro z;exact absurd (show b∈([]:List Addr) from z) (by simp)) (by simp)
    | some u=>
     rcases hO b with z | ⟨ob,xs,z⟩
     ·rw [q] at z;cases z
     ·have z2:=un.frzs b ob _ z
      obtain ⟨e1,_⟩:=hok b _ z
      obtain ⟨e2,_⟩:=hok' b _ z2
      rw [e] at e1;cases e1
      exact e2
 cases hk:K.lookup a with
 | some o=>
  have e:=KX a o hk
  rw [ha] at e
  cases e
  refine core (fun _=>none) (fun _=>.inl rfl) (.inr ⟨_,vs.toArray,_,hk,rfl,rfl,rfl,by rw [WQ,lenV];exact hl,by simpa using rv⟩) (fun b u z=>by have z':(none:Option HO)=some u:=z;cases z') (fun b z=>absurd rfl z) fun z=>absurd rfl z
 | none=>
  refine core (fun b=>if b=a then some (.frz {cls:=.type "list",data:=.seq vs.toArray} (.lst (ns.map V.int))) else none) (fun b=>?_) (.inl (.inr ⟨{cls:=.type "list",data:=.seq vs.toArray},if_pos rfl⟩)) (fun b u z=>?_) (fun b z=>?_) fun _=>hk
  ·by_cases hb:b=a
   ·exact .inr ⟨_,_,if_pos hb⟩
   ·exact .inl (if_neg hb)
  ·by_cases hb:b=a
   ·have z':=(if_pos hb).symm.trans z
    cases z'
    subst hb
    exact ⟨ha,by rw [Ws];exact hl,vs,_,rv,ha⟩
   ·have z':=(if_neg hb).symm.trans z
    cases z'
  ·by_cases hb:b=a
   ·exact hb
   ·exact absurd (if_neg hb) z
abbrev KOf {K:W.Frag} {h:Heap} (_:K.In h):W.Frag:=K
theorem LK {l:PySem.W.OpenLaw} {n k:Nat} {q:Program} {loose:List Str} {XP:(Str->Option Value)->Heap->Prop} {YP:World->Heap->Prop} {d:DefRec} {K:Params->W.Frag} {CX:World->Fd} {sp:World->Sp} {x:Str}
  (hn:l.most=some n) (hn2:n<=sizeLine) (hdf:d.params.defaults=[]) (hr:Room k callerA)
  (hY:∀ (w:World) (h:Heap),YP w h->(K w.params).In h)
  (F:∀ (w:World) (mg:Str->Option Value) (fa:Addr) (h:Heap),(K w.params).In h->h.Ns mainGlobals mg->mg d.name=some (.ref fa)->
   ∃ fd:FuncData,(∀ (s:Shared) (u:Value),BindsTo s fd ⟨[u],[]⟩ [(x,u)])/\
    ∀ base:Heap,(K w.params).In base->base.Ns mainGlobals mg->FnOk l.prog w (K w.params) mg base (CX w) k fa fd [x] (sp w))
  (hsp:∀ (w:World) (H:Hp) (a:Addr) (ns:List Int),ns.length<=n->Only H->SqL (K w.params) H a (ns.map V.int)->sp w [.ref a] H (fun v _=>v= .bl true) fun _ _ _=>False)
  (hCX:∀ (w:World) (H:Hp) (s:Shared) (e:Value) (s':Shared),CX w [] H s (fun _ _ _=>False) e s'->False) (him:importsNone q=true):
  PySem.W.WalkO q loose XP YP l.row.toRowW d [] (fun f vs=>PySem.call f vs):=by
 refine Att.attach_call hn hdf fun w s₀ s₁ mg mb fa o pm cd doc a vs ns G Y ho hd hcd hmg hobj hints hlen hg=>?_
 have KX:=hY w _ Y
 obtain ⟨fd,hb,hF⟩:=F w mg fa _ KX G.T.g hmg
 exact Hr KX G.T.g G.T.b G.T.builtins G.T.nolimit (let ⟨mm,h1,_⟩:=(G.T.seer him).mods;⟨mm,h1⟩) G.T.bmain hg hobj hints (WY hlen hn2) hr hF hb (fun H hO hS=>hsp w H a ns hlen hO hS) fun H e s'=>hCX w H s₁ e s'
def gn (s:Stmt):Arguments:=match s with
 | .FunctionDef _ a _ _ _ _ _ _ _ _=>a
 | _=>{posonlyargs:=[],args:=[],vararg:=none,kwonlyargs:=[],kw_defaults:=[],kwarg:=none,defaults:=[]}
def dj (s:Stmt):List Stmt:=match s with
 | .FunctionDef _ _ b _ _ _ _ _ _ _=>b
 | _=>[]
def az (s:Stmt):Scope:=match s with
 | .FunctionDef _ _ _ _ _ _ sc _ _ _=>sc
 | _=>{kind:=.function,names:=[],isGenerator:=false,isCoroutine:=false}
abbrev Fl:Fd:=fun _ _ _ _ _ _=>False
abbrev E0:XK:=fun _ _ _=>False
theorem Uu {X:Cx}:Bh Fl X E0:=fun _ _ _ _ _ _ _ h=>h.elim
structure Fun (K:W.Frag) (x qual:Str) (st:Stmt) (f:Addr) (fd:FuncData):Prop where
 ex:∃ (oc:Value) (od:Option Addr) (kV doc pm:Value) (an:Option Addr) (cdv ct:Value) (osl:Array (Option Value)),
  fd=PySem.W.fnOf x qual (gn st) (dj st) (az st) .none kV doc pm an cdv ct/\K.lookup f=some ⟨oc,od,.func fd,osl⟩/\PySem.W.codeIn K cdv qual=true
 kp:PySem.W.keepIn K (.ref f)=true
section
variable {P:Program} {w:World} {K:W.Frag} {mg:Str->Option Value} {base:Heap}
theorem Fun.ok {x qual:Str} {st:Stmt} {f:Addr} {fd:FuncData} {N ps:List Str} {k:Nat} {sp:Sp} (F:Fun K x qual st f fd) (S:aF N ps (az st)) (len:∀ vs H Q E,sp vs H Q E->vs.length=ps.length)
  (hbody:∀ (cdv:Value) (A:Around) (outer:List Env) (s:Shared) (H:Hp) (vs:List V) (Q:VK) (E:XK),Room k (A.deeper (envOfC qual (az st) s.heap.objs.size f cdv))->sp vs H Q E->
   ∃ t,PSs (qe Fl P w K mg base N qual (az st) f cdv A outer s H E).nox (dj st) t/\t {nx:=fun _ H'=>Q .non H',rt:=Q} (start N vs) H):FnOk P w K mg base Fl (k+1) f fd ps sp:=by
 obtain ⟨oc,od,kV,doc,pm,an,cdv,ct,osl,rfl,lk,hcd⟩:=F.ex
 refine Hg lk hcd S len fun A outer s H vs Q E hr hsp=>?_
 obtain ⟨t,h,q⟩:=hbody cdv A outer s H vs Q E hr hsp
 exact ⟨t,h.nox,q⟩
theorem Fun.binds {x qual:Str} {st:Stmt} {f:Addr} {fd:FuncData} {ps:List Str} (F:Fun K x qual st f fd)
  (h:∀ (kV doc pm:Value) (an:Option Addr) (cdv ct:Value) (us:List Value),us.length=ps.length->bindArgs (PySem.W.fnOf x qual (gn st) (dj st) (az st) .none kV doc pm an cdv ct) ⟨us,[]⟩=pure (ps.zip us)):Binds K fd ps []:=by
 obtain ⟨oc,od,kV,doc,pm,an,cdv,ct,osl,rfl,lk,hcd⟩:=F.ex
 exact .all (h kV doc pm an cdv ct)
theorem Bm {x qual:Str} {st:Stmt} {f:Addr} {oc:Value} {od an:Option Addr} {osl:Array (Option Value)} {kV doc pm cdv ct:Value} (l:K.lookup f=some ⟨oc,od,.func (PySem.W.fnOf x qual (gn st) (dj st) (az st) .none kV doc pm an cdv ct),osl⟩)
  (c:PySem.W.codeIn K cdv qual=true) (k:PySem.W.keepIn K (.ref f)=true):Fun K x qual st f (PySem.W.fnOf x qual (gn st) (dj st) (az st) .none kV doc pm an cdv ct):=⟨⟨oc,od,kV,doc,pm,an,cdv,ct,osl,rfl,l,c⟩,k⟩
end
theorem iK {A B:Prop} (h:B):if false=true then A else B:=by
 rw [if_neg WF]
 exact h
theorem ir {A B:Prop} (h:A):if true=true then A else B:=by
 rw [if_pos rfl]
 exact h
def Same (H H':Hp):Prop:=∀ b o,H b=some o->H' b=some o
theorem Same.refl (H:Hp):Same H H:=fun _ _ h=>h
theorem Same.trans {H H1 H2:Hp} (a:Same H H1) (b:Same H1 H2):Same H H2:=fun c o h=>b c o (a c o h)
theorem Same.free {H H':Hp} (e:Same H H') {l:Addr} (h:H' l=Option.none):H l=Option.none:=by
 cases q:H l with
 | none=>rfl
 | some o=>
  rw [e l o q] at h
  cases h
theorem Same.seq {K:W.Frag} {H H':Hp} {a:Addr} {xs:List V} (e:Same H H') (h:SqL K H a xs):SqL K H' a xs:=by
 rcases h with (h | ⟨o,h⟩) | h
 ·exact .inl (.inl (e _ _ h))
 ·exact .inl (.inr ⟨o,e _ _ h⟩)
 ·exact .inr h
end L2
set_option maxHeartbeats 4000000
namespace L2
open PySem PySem.Spec PyProof.Rows
def uz (env:Env):List (Str×NameKind)->List (Str×Addr)->List (Str×Addr)
 | [],acc=>acc
 | (n,k) :: r,acc=>uz env r (if k == .free then (match env.cells.lookup n with | some c=>(n,c) :: acc | none=>acc) else acc)
theorem uX {env:Env}:∀ {names:List (Str×NameKind)} {acc:List (Str×Addr)},(∀ x c,(x,c)∈acc->env.cells.lookup x=some c)->∀ x c,(x,c)∈uz env names acc->env.cells.lookup x=some c
 | [],_,h,x,c,m=>h x c m
 | (n,k) :: r,acc,h,x,c,m=>by
  refine uX (names:=r) ?_ x c m
  intro y d hm
  cases hk:(k == NameKind.free) with
  | false=>rw [hk] at hm;exact h y d hm
  | true=>
   rw [hk] at hm
   simp only [if_true] at hm
   cases e:env.cells.lookup n with
   | none=>rw [e] at hm;exact h y d hm
   | some c'=>
    rw [e] at hm
    rcases WD.mp hm with z | z
    ·cases z;exact e
    ·exact h y d z
theorem zj {env:Env}:∀ {names:List (Str×NameKind)} {acc:List (Str×Addr)} {p:Str×Addr},p∈acc->p∈uz env names acc
 | [],_,_,h=>h
 | (n,k) :: r,acc,p,h=>by
  refine zj (names:=r) ?_
  split
  ·split
   ·exact WL _ h
   ·exact h
  ·exact h
theorem uY {env:Env} {x:Str} {c:Addr} (e:env.cells.lookup x=some c):∀ {names:List (Str×NameKind)} {acc:List (Str×Addr)},(x,NameKind.free)∈names->(x,c)∈uz env names acc
 | [],_,h=>by simp at h
 | (n,k) :: r,acc,h=>by
  rcases WD.mp h with z | z
  ·cases z
   refine zj (names:=r) ?_
   rw [e]
   simp
  ·exact uY e (names:=r) z
theorem v9 {l:List (Str×Addr)} {x:Str} {c:Addr} (hm:(x,c)∈l) (ha:∀ d,(x,d)∈l->d=c):l.lookup x=some c:=by
 induction l with
 | nil=>simp at hm
 | cons p r ih=>
  obtain ⟨n,d⟩:=p
  by_cases e:x=n
  ·subst e
   have:d=c:=ha d (by simp)
   subst this
   simp [Xj]
  ·have hb:(x == n)=false:=by simpa using e
   rw [Xj,hb]
   refine ih ?_ fun d' h'=>ha d' (WL _ h')
   rcases WD.mp hm with z | z
   ·cases z;exact absurd rfl e
   ·exact z
theorem zm {env:Env} {names:List (Str×NameKind)} {x:Str} {c:Addr} (e:env.cells.lookup x=some c) (h:(x,NameKind.free)∈names):(uz env names []).lookup x=some c:=
 v9 (uY e h) fun d hd=>by
  have q:=uX (names:=names) (acc:=[]) (env:=env) (by simp) x d hd
  rw [e] at q
  exact (WR q).symm
theorem Fo {env:Env} {names:List (Str×NameKind)} {x:Str} {c:Addr} (e:(uz env names []).lookup x=some c):env.cells.lookup x=some c:=
 uX (names:=names) (acc:=[]) (env:=env) (by simp) x c (Xw e)
theorem qg {env:Env}:∀ (names:List (Str×NameKind)) (acc:List (Str×Addr)),(∀ x∈names,x.2=NameKind.free->∃ c,env.cells.lookup x.1=some c)->
  (forIn (m:=Sem) names acc fun x r=>match x with
   | (name,kind)=>if (kind == NameKind.free)=true then do let c ← cellOf env name;pure (ForInStep.yield ((name,c) :: r)) else pure (ForInStep.yield r))=pure (uz env names acc)
 | [],acc,_=>rfl
 | (n,k) :: r,acc,h=>by
  rw [List.forIn_cons]
  cases hk:(k == NameKind.free) with
  | false=>
   simp only [hk,Bool.false_eq_true,if_false,pure_bind,uz]
   exact qg r acc fun x hx=>h x (WL _ hx)
  | true=>
   obtain ⟨c,e⟩:=h (n,k) Xf (by simpa using hk)
   simp only [hk,if_true,pure_bind,uz,cellOf,e]
   exact qg r ((n,c) :: acc) fun x hx=>h x (WL _ hx)
theorem pW {scope:Scope} {env:Env} (h:∀ x∈scope.names,x.2=NameKind.free->∃ c,env.cells.lookup x.1=some c):closureFor scope env=pure (uz env scope.names []):=by
 unfold closureFor
 have:=qg (env:=env) scope.names [] h
 simp only [this,pure_bind]
theorem wZ {prog:Program} {w:World} {A:Around} {R:Result->Shared->Prop} {s:Shared} {elt target iter:Expr} {ifs:List Expr} {scope:Scope} {pos:Pos} {it acc:Value} {env:Env} (I:Nat->Shared->Prop)
  (turn:∀ n s,I n s->wpAny (model prog w) A (pyNext it) (fun r s₁=>match r with
   | none=>R (.ok .next) s₁
   | some v=>wpAny (model prog w) A (letOwnedTupleGo target it v) (fun _ s₁'=>wpAny (model prog w) A (assign target env v) (fun _ s₂=>
     wpAny (model prog w) A (forIn ifs true fun c r=>if r=true then do let ok ← isTrue c env (eval c env);pure (ForInStep.yield ok) else pure (ForInStep.yield r)) (fun ok s₃=>
      if ok=true then wpAny (model prog w) A (eval elt env) (fun x s₄=>
       wpAny (model prog w) A (call (.builtin "list.append") [acc,x]) (fun _ s₅=>∃ m,m < n/\I m s₅) (fun _ _=>False) s₄) (fun _ _=>False) s₃
      else ∃ m,m < n/\I m s₃) (fun _ _=>False) s₂) (fun _ _=>False) s₁') (fun _ _=>False) s₁) (fun _ _=>False) s)
  (n:Nat) (h:I n s):
  codeAny (model prog w) A (.compLoop (.ListComp elt [⟨target,iter,ifs,0⟩] scope pos) 0 it acc env) R s:=by
 refine codeAny_loop rfl I (fun n s hI=>?_) n h
 show wpAny _ A ((compTurn (.ListComp elt [⟨target,iter,ifs,0⟩] scope pos) 0 it acc env).onRaise (fun x=>do noteFrame x env;theTreesLotGoes x)) _ _ s
 refine wpAny_noted ?_
 rw [compTurn_list]
 refine Wl (wpAny_standAt (Wl (Xr (turn n s hI) (fun r s₁ h₁=>?_) fun _ _ h'=>h'.elim)))
 cases r with
 | none=>exact Wt h₁
 | some v=>
  refine Wl (Xr h₁ (fun _ s₁' h₁'=>?_) fun _ _ h'=>h'.elim)
  refine Wl (Xr h₁' (fun _ s₂ h₂=>Wl (Xr h₂ (fun ok s₃ h₃=>?_) fun _ _ h'=>h'.elim)) fun _ _ h'=>h'.elim)
  cases ok with
  | false=>exact Wt ⟨rfl,h₃⟩
  | true=>
   exact Wl (Wl (Xr h₃ (fun x s₄ h₄=>Wl (Xr h₄ (fun _ s₅ h₅=>Wt (Wt ⟨rfl,h₅⟩)) fun _ _ h'=>h'.elim)) fun _ _ h'=>h'.elim))
theorem d7:∀ (names:List (Str×NameKind)) (n:Nat) (acc:List (Str×Addr)),cellsFrom n names acc=cellsFrom n names [] ++ acc
 | [],_,_=>rfl
 | (x,k) :: r,n,acc=>by
  unfold cellsFrom
  split
  ·rw [d7 r (n+1) ((x,n) :: acc),d7 r (n+1) [(x,n)],Yo];rfl
  ·exact d7 r n acc
theorem qU {α:Type}:∀ {A B:List (Str×α)} {x:Str},(A ++ B).lookup x=(match A.lookup x with | some c=>some c | none=>B.lookup x)
 | [],_,_=>rfl
 | (y,c) :: A,B,x=>by
  rw [List.cons_append,Xj,Xj]
  cases x == y with
  | true=>rfl
  | false=>exact qU (A:=A)
theorem uZ:∀ {names:List (Str×NameKind)} {n:Nat} {acc:List (Str×Addr)} {x:Str} {c:Addr},(x,c)∈cellsFrom n names acc->(x,c)∈acc\/(x,NameKind.cell)∈names
 | [],_,_,_,_,h=>.inl h
 | (y,k) :: r,n,acc,x,c,h=>by
  unfold cellsFrom at h
  split at h
  ·rename_i hk
   rcases uZ h with z | z
   ·rcases WD.mp z with z | z
    ·cases z
     have:k= .cell:=by simpa using hk
     rw [this];exact .inr Xf
    ·exact .inl z
   ·exact .inr (WL _ z)
  ·exact (uZ h).imp id (WL _)
theorem qW {α:Type}:∀ {l:List (Str×α)} {x:Str} {c:α},(x,c)∈l->∃ d,l.lookup x=some d
 | (y,d) :: r,x,c,h=>by
  by_cases e:x=y
  ·subst e;exact ⟨d,by simp [Xj]⟩
  ·have hb:(x == y)=false:=by simpa using e
   rw [Xj,hb]
   rcases WD.mp h with z | z
   ·cases z;exact absurd rfl e
   ·exact qW z
theorem qX:∀ {names:List (Str×NameKind)} {n:Nat} {acc:List (Str×Addr)} {x:Str},(x,NameKind.cell)∈names\/(∃ c,(x,c)∈acc)->∃ c,(x,c)∈cellsFrom n names acc
 | [],_,_,_,h=>h.elim (fun h=>by simp at h) id
 | (y,k) :: r,n,acc,x,h=>by
  unfold cellsFrom
  split
  ·refine qX ?_
   rcases h with h | ⟨c,h⟩
   ·rcases WD.mp h with z | z
    ·cases z;exact .inr ⟨n,Xf⟩
    ·exact .inl z
   ·exact .inr ⟨c,WL _ h⟩
  ·rename_i hk
   refine qX ?_
   rcases h with h | h
   ·rcases WD.mp h with z | z
    ·cases z;exact absurd (by decide) hk
    ·exact .inl z
   ·exact .inr h
def Fp (X:Cx) (scope:Scope) (C:Addr):List (Str×Addr):=cellsFrom (C+1) scope.names (uz X.env scope.names [])
section
variable {M:Model} {A:Around} {E:Value->Shared->Prop} {s:Shared}
theorem gZ {scope:Scope} {globals:Addr} {cl:List (Str×Addr)} {qual:Str} {env:Env} {Q:Env->Shared->Prop}
  (hQ:∀ h':Heap,h'.Ns s.heap.objs.size (fun _=>none)->(∀ b o,s.heap.get? b=some o->h'.get? b=some o)->CellsOk h' (s.heap.objs.size+1) (cellsFrom (s.heap.objs.size+1) scope.names [])->
   Q (newEnv scope s.heap.objs.size globals (cellsFrom (s.heap.objs.size+1) scope.names cl) qual none .none (some env) builtinsNs) {s with heap:=h',toks:=s.toks+([]:List (Str×Value)).length}):
  wpAny M A (newFunctionEnv scope globals cl [] qual none .none (some env)) Q E s:=by
 simp only [newFunctionEnv,Option.isSome_some,if_true]
 refine Wl (wpAny_alloc ?_)
 refine Wl (wpAny_layCells _ (fun name kind cells=>by cases hkc:kind == NameKind.cell <;> simp [hkc]) _ _ _ _ ?_)
 have ok:=cellsFrom_ok scope.names (s.heap.push {cls:=.type "dict",data:=.dict #[]}) (s.heap.objs.size+1) [] ⟨fun _ _ hm=>(nomatch hm),List.Pairwise.nil⟩ (by rw [XH];exact Wq _)
 rw [XH] at ok
 rw [show ({s with heap:=s.heap.push {cls:=.type "dict",data:=.dict #[]}}:Shared).heap.objs.size=s.heap.objs.size+1 from XH ..]
 exact Wl (Wt (Wt (hQ _ ((Heap.Ns.new s.heap (.type "dict")).keeps (pushCells_keeps _ _)) (fun b o e=>pushCells_keeps _ _ b o (Wr _ e)) ok)))
end
def pO (X:Cx) (N':List Str) (scope:Scope) (C:Addr) (s₀:Shared) (H₀:Hp) (ex:List Addr):Cx:=
 {X with N:=N',s₀:=s₀,H₀:=H₀,env:=compEnvC scope (Fp X scope C) C X.env,outer:=X.stack,ex:=ex,fn:=fun x=>decide (scope.names.lookup x=some .cell),pn:=[],xe:=fun _ _=>False}
def dD (sub:List (Option Nat)) (U:St):St:=sub.map fun o=>o.bind fun j=>(U[j]?).join
structure ue (N:List Str) (sc:Scope) (N':List Str) (scope:Scope) (sub:List (Option Nat)):Prop where
 kind:scope.kind= .function
 cel:∀ x∈scope.names,x.2= .cell->scope.names.lookup x.1=some .cell
 loc:∀ x∈scope.names,x.2= .local->scope.names.lookup x.1=some .local
 free:∀ x∈scope.names,x.2= .free->sc.names.lookup x.1=some .cell\/sc.names.lookup x.1=some .free
 len:sub.length=N'.length
 at_:∀ (i j:Nat) (x:Str),sub[i]?=some (some j)->N'[i]?=some x->N[j]?=some x/\(x,NameKind.free)∈scope.names/\scope.names.lookup x=some .free
def Hs (N:List Str) (sc:Scope) (N':List Str) (scope:Scope) (sub:List (Option Nat)):Bool:=
 decide (scope.kind= .function) && scope.names.all (fun x=>decide (x.2= .cell->scope.names.lookup x.1=some .cell)) && scope.names.all (fun x=>decide (x.2= .local->scope.names.lookup x.1=some .local)) &&
 scope.names.all (fun x=>decide (x.2= .free->sc.names.lookup x.1=some .cell\/sc.names.lookup x.1=some .free)) && decide (sub.length=N'.length) &&
 (List.range sub.length).all fun i=>match sub[i]?,N'[i]? with
  | some (some j),some x=>decide (N[j]?=some x/\(x,NameKind.free)∈scope.names/\scope.names.lookup x=some .free)
  | _,_=>true
theorem bI {N:List Str} {sc:Scope} {N':List Str} {scope:Scope} {sub:List (Option Nat)} (h:Hs N sc N' scope sub=true):ue N sc N' scope sub:=by
 simp only [Hs,WX,decide_eq_true_eq,Yl] at h
 obtain ⟨⟨⟨⟨⟨h1,h2⟩,h3⟩,h4⟩,h5⟩,h6⟩:=h
 refine ⟨h1,h2,h3,h4,h5,fun i j x e1 e2=>?_⟩
 have hi:i < sub.length:=(Wm.mp e1).1
 have q:=h6 i (Xe.mpr hi)
 rw [e1,e2] at q
 simpa using q
def Ht:TT:=fun _ H Q=>Q true H
def yc (X:Cx) (ifs:List Expr) (t:TT):Prop:=
 ∀ (pins:List (Addr×Obj)) (s:Shared) (U:St) (H:Hp) (Q:Bool->Hp->Prop),Inv X pins U H s->t U H Q->
  wpAny (model X.prog X.w) X.A (forIn ifs true fun c r=>if r=true then do let ok ← isTrue c X.env (eval c X.env);pure (ForInStep.yield ok) else pure (ForInStep.yield r)) (TP X pins U Q) X.xe s
theorem Hu {X:Cx}:yc X [] Ht:=fun _ _ _ H _ I h=>wpAny_tests_nil ⟨H,I,h⟩
theorem Hv {X:Cx} {c:Expr} {t:TT} (hc:PT X c t):yc X [c] t:=fun pins s U H Q I h=>wpAny_tests_one (hc pins s U H Q I h)
def KeepSt (U U':St):Prop:=U'.length=U.length/\∀ (i:Nat) (v:V),U[i]?=some (some v)->U'[i]?=some (some v)
theorem KeepSt.set {U:St} {i:Nat} {v:V} (h:U[i]?=some none):KeepSt U (U.set i (some v)):=by
 refine ⟨by simp,fun j u e=>?_⟩
 by_cases hj:i=j
 ·subst hj;rw [h] at e;cases e
 ·rw [XF hj];exact e
theorem KeepSt.trans {σ1 σ2 σ3:St} (a:KeepSt σ1 σ2) (b:KeepSt σ2 σ3):KeepSt σ1 σ3:=⟨b.1.trans a.1,fun i v e=>b.2 i v (a.2 i v e)⟩
def u0 (sub:List (Option Nat)) (wi:TI) (g:TG) (tt:TT) (te:TE):TE:=fun U H Q=>wi U H fun J H1=>∃ W:Nat->Nat->List V->Hp->Prop,(∃ m,W 0 m [] H1)/\∀ i m ys H,W i m ys H->
 (J.stop i H/\ys.length<=sizeLine/\∀ D,H D=none->Q (.ref D) (upd H D (.lst ys)))\/
 (J.go i H/\ys.length < sizeLine/\∃ N:List V->Hp->Prop,(∀ ys' H',N ys' H'->∃ m',m' < m/\W (i+1) m' ys' H')/\
  ∀ x H',J.yld i H x H'->g x (dD sub U) H' fun σ2 H2=>KeepSt (dD sub U) σ2/\tt σ2 H2 fun b H3=>if b=true then te σ2 H3 fun y H4=>N (ys ++ [y]) H4 else N ys H3)
theorem qY {scope:Scope} {env:Env} {x:Str} (hx:scope.names.lookup x=some .free):(relabel scope env).names.lookup x=some .cell\/(relabel scope env).names.lookup x=some .free:=by
 have:∀ names:List (Str×NameKind),names.lookup x=some .free->
  (names.map fun (n,k)=>if (k == NameKind.free && env.scope.kind == .function && env.kindOf n == some .cell) then (n,NameKind.cell) else (n,k)).lookup x=some .cell\/
  (names.map fun (n,k)=>if (k == NameKind.free && env.scope.kind == .function && env.kindOf n == some .cell) then (n,NameKind.cell) else (n,k)).lookup x=some .free:=by
  intro names
  induction names with
  | nil=>intro h;simp at h
  | cons p r ih=>
   obtain ⟨n,k⟩:=p
   intro h
   by_cases e:x=n
   ·subst e
    have hk:k= .free:=by simpa [Xj] using h
    subst hk
    by_cases hc:((NameKind.free == NameKind.free && env.scope.kind == .function && env.kindOf x == some .cell)=true)
    ·left;simp only [Xh];rw [if_pos hc];simp [Xj]
    ·right;simp only [Xh];rw [if_neg hc];simp [Xj]
   ·have hb:(x == n)=false:=by simpa using e
    rw [Xj,hb] at h
    have q:=ih h
    simp only [Xh]
    split <;> (rw [Xj,hb];exact q)
 exact this scope.names hx
theorem yd {scope:Scope} {env:Env} {x:Str} (h:(relabel scope env).names.lookup x=some .cell\/(relabel scope env).names.lookup x=some .free):(x,NameKind.cell)∈scope.names\/(x,NameKind.free)∈scope.names:=by
 have key:∀ k,(k=NameKind.cell\/k=NameKind.free)->(relabel scope env).names.lookup x=some k->(x,NameKind.cell)∈scope.names\/(x,NameKind.free)∈scope.names:=by
  intro k hk hl
  have hm:=Xw hl
  unfold relabel at hm
  obtain ⟨⟨n,k'⟩,hm1,hm2⟩:=Xg.mp hm
  dsimp only at hm2
  by_cases hc:(k' == NameKind.free && env.scope.kind == .function && env.kindOf n == some .cell)=true
  ·rw [if_pos hc] at hm2
   cases hm2
   simp only [WX,Yv] at hc
   rw [← hc.1.1];exact .inr hm1
  ·rw [if_neg hc] at hm2
   cases hm2
   rcases hk with hk | hk
   ·subst hk;exact .inl hm1
   ·subst hk;exact .inr hm1
 rcases h with h | h
 ·exact key _ (.inl rfl) h
 ·exact key _ (.inr rfl) h
section
variable {X:Cx} {tg iter elt:Expr} {ifs:List Expr} {scope:Scope} {pos:Pos} {N':List Str} {sub:List (Option Nat)} {wi:TI} {g:TG} {tt:TT} {te:TE}
theorem w5 {pins:List (Addr×Obj)} {U:St} {H:Hp} {s:Shared} {fp:List Addr} {D:Addr} {h':Heap} {tk:Nat} {N:List Str} {sc:Scope} (S:ue N sc N' scope sub) (hN:X.N=N) (hsc:X.env.scope=sc) (I:Inv X pins U H s) (hf:∀ b∈fp,lY X pins H b) (hfo:∀ b∈fp,b < s.heap.objs.size)
  (hD:D < s.heap.objs.size) (fD:lY X pins H D) (hns:h'.Ns s.heap.objs.size fun _=>none) (hk:∀ b o,s.heap.get? b=some o->h'.get? b=some o) (hc:CellsOk h' (s.heap.objs.size+1) (cellsFrom (s.heap.objs.size+1) scope.names [])):
  Inv (pO X N' scope s.heap.objs.size s H (D :: fp)) [] (dD sub U) H {s with heap:=h',toks:=tk}:=by
 have hex:∀ b∈D :: fp,lY X pins H b/\b < s.heap.objs.size:=fun b hb=>by
  rcases WD.mp hb with rfl | z
  ·exact ⟨fD,hD⟩
  ·exact ⟨hf b z,hfo b z⟩
 have spl:∀ {x c},(Fp X scope s.heap.objs.size).lookup x=some c->(h'.IsCell c none/\s.heap.objs.size+1<=c/\(x,c)∈cellsFrom (s.heap.objs.size+1) scope.names [])\/(X.env.cells.lookup x=some c/\∃ o,s.heap.get? c=some o):=fun {x c} h=>by
  unfold Fp at h
  rw [d7,qU] at h
  cases e:(cellsFrom (s.heap.objs.size+1) scope.names []).lookup x with
  | some d=>
   rw [e] at h
   cases h
   have m:=Xw e
   exact .inl ⟨(hc.empty _ _ m).1,(hc.empty _ _ m).2,m⟩
  | none=>
   rw [e] at h
   have z:=Fo h
   obtain ⟨v,o,ho,_⟩:=I.cell x c z
   exact .inr ⟨z,o,ho⟩
 have fre:∀ {x c},(x,NameKind.free)∈scope.names->scope.names.lookup x=some .free->X.env.cells.lookup x=some c->(Fp X scope s.heap.objs.size).lookup x=some c:=fun {x c} h1 h2 h3=>by
  unfold Fp
  rw [d7,qU]
  cases e:(cellsFrom (s.heap.objs.size+1) scope.names []).lookup x with
  | some d=>
   rcases uZ (Xw e) with z | z
   ·cases z
   ·have:=S.cel _ z rfl
    rw [h2] at this;cases this
  | none=>exact zm h3 h1
 refine ⟨⟨I.ok.mod,S.kind,I.ok.glob,I.ok.blt,Wq _,fun x y c h1 h2=>?_,fun x hx=>?_,fun x c hx h=>?_,I.ok.hd,I.ok.frames,.inl rfl,fun b hb=>?_,I.bs,WY I.ok.bsz I.sz,fun b o e hb=>?_,fun b hb=>?_,I.stack,I.stkFree⟩,
  rfl,I.bare,Un.kept hk,⟨_,hns,fun i x v h1 h2 h3=>?_⟩,fun x c h=>?_,I.hok.fresh (Wq _),fun x c h=>?_,fun p hp=>(nomatch hp),I.hok.kept hk,?_⟩
 ·rcases spl h1 with ⟨_,l1,m1⟩ | ⟨z1,o1,q1⟩ <;> rcases spl h2 with ⟨_,l2,m2⟩ | ⟨z2,o2,q2⟩
  ·exact PySem.name_of_addr hc.apart m1 m2
  ·exact absurd (WK (Wx q2) (YT l1)) (X4 _)
  ·exact absurd (WK (Wx q1) (YT l2)) (X4 _)
  ·exact I.ok.inj x y c z1 z2
 ·rcases yd hx with z | z
  ·obtain ⟨c,m⟩:=qX (n:=s.heap.objs.size+1) (acc:=uz X.env scope.names []) (.inl z)
   exact qW m
  ·obtain ⟨c,e⟩:=I.ok.has x (by have:=S.free _ z rfl;rw [← hsc] at this;exact this)
   show ∃ c,(Fp X scope s.heap.objs.size).lookup x=some c
   unfold Fp
   rw [d7]
   exact qW (c:=c) (Xn _ (uY e z))
 ·have hx':scope.names.lookup x=some .cell:=by simpa [pO] using hx
  rcases spl h with ⟨_,l,_⟩ | ⟨z,o,q⟩
  ·exact YT l
  ·exfalso
   have m:(x,NameKind.cell)∈scope.names:=Xw hx'
   obtain ⟨d,md⟩:=qX (n:=s.heap.objs.size+1) (acc:=[]) (.inl m)
   obtain ⟨d',e'⟩:=qW md
   have h:(Fp X scope s.heap.objs.size).lookup x=some c:=h
   unfold Fp at h
   rw [d7,qU,e'] at h
   cases h
   exact absurd (WK (Wx q) (YT (hc.empty _ _ (Xw e')).2)) (X4 _)
 ·obtain ⟨⟨f0,f1,f2,f3,f4,f5⟩,hlt⟩:=hex b hb
  refine ⟨Xc hlt,fun x c h=>?_⟩
  rcases spl h with ⟨_,l,_⟩ | ⟨z,_⟩
  ·exact fun z=>absurd (WK hlt (YT (z ▸ l))) (X4 _)
  ·exact f4 x c z
 ·obtain ⟨⟨f0,f1,f2,f3,f4,f5⟩,hlt⟩:=hex b hb
  rcases f3 with z | z
  ·exact I.ok.noex b o e z
  ·exact absurd (WK (Wx (I.ok.bs b o e).1) z) (X4 _)
 ·obtain ⟨⟨f0,f1,f2,f3,f4,f5⟩,hlt⟩:=hex b hb
  intro z
  rcases WD.mp (I.stkSub b z) with z | z
  ·exact f1 z
  ·exact f2 z
 ·have hs:∃ j,sub[i]?=some (some j)/\U[j]?=some (some v):=by
   unfold dD at h2
   rw [Wo] at h2
   cases e:sub[i]? with
   | none=>rw [e] at h2;cases h2
   | some o=>
    rw [e] at h2
    cases o with
    | none=>cases h2
    | some j=>
     refine ⟨j,rfl,?_⟩
     have h3:(U[j]?).join=some v:=WR h2
     cases e2:U[j]? with
     | none=>rw [e2] at h3;cases h3
     | some z=>rw [e2] at h3;cases z with
      | none=>cases h3
      | some z=>cases h3;rfl
  obtain ⟨j,e1,e2⟩:=hs
  obtain ⟨g1,g2,g3⟩:=S.at_ i j x e1 h1
  rw [← hN] at g1
  obtain ⟨m,hn,hl⟩:=I.loc
  have hkf:X.env.kindOf x=some .cell\/X.env.kindOf x=some .free:=by have:=S.free _ g2 rfl;rw [← hsc] at this;exact this
  have hvis:T6 X.env.scope x:=by
   rcases hkf with z | z
   ·exact .inr (.inl z)
   ·exact .inr (.inr z)
  obtain ⟨u,r,l⟩:=hl j x v g1 e2 hvis
  refine ⟨u,r,.inr ⟨qY g3,?_⟩⟩
  rcases l with ⟨k,_⟩ | ⟨_,c,e,o,ho,hd⟩
  ·have k':X.env.kindOf x=some .local:=k
   rcases hkf with z | z <;> (rw [k'] at z;cases z)
  ·exact ⟨c,fre g2 g3 e,o,hk _ _ ho,hd⟩
 ·rcases spl h with ⟨z,_⟩ | ⟨z,_⟩
  ·exact ⟨_,z⟩
  ·obtain ⟨v,o,ho,hd⟩:=I.cell x c z
   exact ⟨v,o,hk _ _ ho,hd⟩
 ·rcases spl h with ⟨_,l,_⟩ | ⟨z,_⟩
  ·exact I.hok.fresh (YT l)
  ·exact I.freeC x c z
 ·show (dD sub U).length=N'.length
  unfold dD
  rw [Ws]
  exact S.len
theorem Dk {N:List Str} {sc:Scope} (S:ue N sc N' scope sub) (hc:X.calm=true) (hN:X.N=N) (hsc:X.env.scope=sc) (hi:PI X tg iter wi)
  (hg:∀ (C:Addr) (s₀:Shared) (H₀:Hp) (ex:List Addr),PG (pO X N' scope C s₀ H₀ ex) tg g)
  (ht:∀ (C:Addr) (s₀:Shared) (H₀:Hp) (ex:List Addr),yc (pO X N' scope C s₀ H₀ ex) ifs tt)
  (he:∀ (C:Addr) (s₀:Shared) (H₀:Hp) (ex:List Addr),PE (pO X N' scope C s₀ H₀ ex) elt te)
  (hs:autoParam (∀ x,foldedSetIterable iter X.env x=pure x) L2.auto3._auto_1):
  PE X (.ListComp elt [⟨tg,iter,ifs,0⟩] scope pos) (u0 sub wi g tt te):=by
 intro pins s U H Q I h
 rw [eval_ListComp]
 have hcl:∀ x∈scope.names,x.2=NameKind.free->∃ c,X.env.cells.lookup x.1=some c:=fun x hx hk=>I.ok.has x.1 (by have:=S.free x hx hk;rw [← hsc] at this;exact this)
 refine wpAny_comprehension_free (use:=none) rfl hs (pW hcl) S.kind S.loc ?_
 refine dW (hi pins s U H _ I h) fun v s1 h1=>dW h1 fun itv s2 h2=>?_
 obtain ⟨it,fp,tn,J,H2,e,I2,T,st2,f2,W,⟨m0,w0⟩,turn⟩:=h2
 subst e
 refine XJ (gZ fun h₁ hns₁ hk31 hcl₁=>?_)
 dsimp only at hns₁ hk31 hcl₁ ⊢
 generalize hs3:({s2 with heap:=s2.heap.push {cls:=.type "list",dict:=none,data:=.seq ([]:List Value).toArray}}:Shared)=s3
 have e3:s2.heap.push {cls:=.type "list",dict:=none,data:=.seq ([]:List Value).toArray}=s3.heap:=by rw [← hs3]
 rw [e3] at hns₁ hk31 hcl₁ ⊢
 have hD3:s3.heap.get? s2.heap.objs.size=some {cls:=.type "list",dict:=none,data:=.seq ([]:List Value).toArray}:=by rw [← e3];exact Ww _ rfl
 have I3:Inv X pins U H2 s3:=by
  rw [← hs3]
  exact I2.kept (t':=s2.toks) fun b o e=>Wr _ e
 have k23:∀ b o,s2.heap.get? b=some o->s3.heap.get? b=some o:=fun b o e=>by rw [← e3];exact Wr _ e
 have hsz:s3.heap.objs.size=s2.heap.objs.size+1:=by rw [← e3,XH]
 have hDn:H2 s2.heap.objs.size=none:=I2.hok.fresh (Wq _)
 have fD:lY X pins H2 s2.heap.objs.size:=I2.fpOk (Wq _) hDn
 have hfo:∀ b∈fp,b < s2.heap.objs.size:=fun b hb=>let ⟨o,e,_⟩:=T.obj _ _ st2 b hb;Wx e
 have hDfp:s2.heap.objs.size ∉ fp:=fun z=>absurd (hfo _ z) (X4 _)
 have I4:=w5 (tk:=s3.toks+([]:List (Str×Value)).length) S hN hsc I3 f2 (fun b hb=>by rw [hsz];exact Nat.lt_succ_of_lt (hfo b hb)) (D:=s2.heap.objs.size) (by rw [hsz];exact YZ _) fD hns₁ hk31 hcl₁
 have stat:∀ {H':Hp} {ob:Obj},(∀ b∈fp,H' b=none)->∀ b∈fp,lY (pO X N' scope s3.heap.objs.size s3 H2 (s2.heap.objs.size :: fp)) [(s2.heap.objs.size,ob)] H' b:=fun {H' ob} hn b hb=>by
  obtain ⟨q1,q2⟩:=I4.ok.exf b (WL _ hb)
  refine ⟨hn b hb,q1,I4.ok.exfs b (WL _ hb),.inl (WL _ hb),q2,fun p hp z=>?_⟩
  have hp':p=(s2.heap.objs.size,ob):=by simpa [pO] using hp
  subst hp'
  have z':s2.heap.objs.size=b:=z
  exact hDfp (by rw [z'];exact hb)
 generalize hXC:pO X N' scope s3.heap.objs.size s3 H2 (s2.heap.objs.size :: fp)=XC at I4 stat
 have eP:XC.prog=X.prog:=by rw [← hXC];rfl
 have eW:XC.w=X.w:=by rw [← hXC];rfl
 have eK:XC.K=X.K:=by rw [← hXC];rfl
 have eA:XC.A=X.A:=by rw [← hXC];rfl
 have eE:XC.env=compEnvC scope (Fp X scope s3.heap.objs.size) s3.heap.objs.size X.env:=by rw [← hXC];rfl
 have eC:XC.calm=true:=by rw [← hXC];exact hc
 have eX:XC.xe=fun _ _=>False:=by rw [← hXC];rfl
 have eH:XC.H₀=H2:=by rw [← hXC];rfl
 have eS:XC.s₀=s3:=by rw [← hXC];rfl
 have eF:XC.fs=frs X.stack:=by rw [← hXC];rfl
 have eEx:XC.ex=s2.heap.objs.size :: fp:=by rw [← hXC];rfl
 have ePn:XC.pn=[]:=by rw [← hXC];rfl
 have hgC:PG XC tg g:=by rw [← hXC];exact hg _ _ _ _
 have htC:yc XC ifs tt:=by rw [← hXC];exact ht _ _ _ _
 have heC:PE XC elt te:=by rw [← hXC];exact he _ _ _ _
 have pinD:∀ {U':St} {H':Hp} {s':Shared} {ob:Obj},Inv XC [] U' H' s'->H' s2.heap.objs.size=none->s'.heap.get? s2.heap.objs.size=some ob->(∀ v,ob.data≠.cell v)->Inv XC [(s2.heap.objs.size,ob)] U' H' s':=fun {U' H' s' ob} J hn hg hd=>
  J.pins_of fun p hp=>by
   have hp':p=(s2.heap.objs.size,ob):=by simpa using hp
   subst hp'
   refine ⟨hg,hn,(J.ok.exf _ (by rw [eEx];exact Xf)).1,J.ok.exfs _ (by rw [eEx];exact Xf),hd⟩
 have loop:codeAny (model X.prog X.w) X.A (.compLoop (.ListComp elt [⟨tg,iter,ifs,0⟩] scope pos) 0 (.ref it) (.ref s2.heap.objs.size) (compEnvC scope (Fp X scope s3.heap.objs.size) s3.heap.objs.size X.env))
   (compPost (model X.prog X.w) X.A X.xe none (EP X pins U Q) (.ref s2.heap.objs.size) s3.heap.objs.size) {s3 with heap:=h₁,toks:=s3.toks+([]:List (Str×Value)).length}:=by
  refine wZ (fun n s'=>∃ (i:Nat) (ys:List V) (its:List Value) (nn:Nat) (H':Hp),Inv XC [] (dD sub U) H' s'/\tn i s'.heap/\(∀ b∈fp,H' b=none)/\H' s2.heap.objs.size=none/\
   s'.heap.get? s2.heap.objs.size=some {cls:=.type "list",data:=.seq its.toArray nn}/\Vals ys its/\W i n ys H') ?_ m0
   ⟨0,[],[],_,H2,I4,T.keep _ _ _ st2 fun b _ o e=>hk31 b o (k23 b o e),fun b hb=>(f2 b hb).1,hDn,hk31 _ _ hD3,.nil,w0⟩
  rintro n s4 ⟨i,ys,its,nn,H4,J4,st4,fr4,dn4,dg4,rv4,w4⟩
  have P4:=pinD J4 dn4 dg4 (fun v z=>by cases z)
  rcases turn i n ys H4 w4 with ⟨stop,hyl,qn⟩ | ⟨go,hyl,N,hN,step⟩
  ·have hdone:=T.done XC eP eW eK eC i _ s4 _ H4 (fun _ _=>False) P4 (stat fr4) st4 stop
   rw [eA] at hdone
   refine Xr hdone (fun r s5 ⟨hr,I5⟩=>?_) fun _ _ z=>z
   subst hr
   obtain ⟨m,hn,_⟩:=id I5.loc
   have hCe:XC.env.locals=s3.heap.objs.size:=by rw [eE];rfl
   rw [hCe] at hn
   refine ⟨m,hn,fun h6 hs6=>?_⟩
   have hDg:=(I5.pin (s2.heap.objs.size,_) (by rw [ePn];exact Xf)).1
   have hDne:s2.heap.objs.size≠s3.heap.objs.size:=by rw [hsz];exact Xc (YZ _)
   have hHC:H4 s3.heap.objs.size=none:=by have:=I5.free;rw [hCe] at this;exact this
   have k56:∀ b o,b≠s3.heap.objs.size->s5.heap.get? b=some o->h6.get? b=some o:=fun b o hb e=>hs6.extBut b o hb e
   have un:=I5.base
   rw [eF,eEx,eH,eS] at un
   have nC:∀ b o,s3.heap.get? b=some o->b≠s3.heap.objs.size:=fun b o e=>Xc (Wx e)
   have hok6:HOk X.prog X.w (upd H4 s2.heap.objs.size (.lst ys)) h6:=by
    have h5:=I5.hok
    rw [eP,eW] at h5
    have KN:∀ b u,H4 b=some u->b≠s3.heap.objs.size:=fun b u e z=>by rw [z,hHC] at e;cases e
    intro b u e
    by_cases hb:b=s2.heap.objs.size
    ·subst hb
     rw [aj] at e;cases e
     exact ⟨hyl,its,nn,rv4,k56 _ _ hDne hDg⟩
    ·rw [aB hb] at e
     have nD:∀ c u,H4 c=some u->c≠s2.heap.objs.size:=fun c u e z=>by rw [z,dn4] at e;cases e
     refine (h5 b u e).stay (fun c v hc' q=>k56 c v ?_ q) (fun c q=>by rw [aB (nD c _ q)];exact q) fun c xs q=>by rw [aB (nD c _ q)];exact q
     rcases hc' with z | z
     ·rw [z];exact KN b u e
     ·exact KN c _ z
   have nD2:∀ c u,H4 c=some u->c≠s2.heap.objs.size:=fun c u e z=>by rw [z,dn4] at e;cases e
   have un6:Un (frs X.stack) (s2.heap.objs.size :: fp) H2 (upd H4 s2.heap.objs.size (.lst ys)) s3.heap h6:=
    ⟨fun b o e nn' hb hx=>k56 b o (nC b o e) (un.keep b o e nn' hb hx),fun b o e nn' hb hx=>let ⟨sl,q⟩:=un.slot b o e nn' hb hx;⟨sl,k56 b _ (nC b o e) q⟩,
     fun b o e nn' hx=>by rw [aB (fun z=>hx (by rw [z];exact Xf))];exact un.free b o e nn' hx,
     fun b o e hx=>let ⟨o',q⟩:=un.there b o e hx;⟨o',k56 b o' (nC b o e) q⟩,
     fun b xs e=>by have q:=un.tups b xs e;rw [aB (nD2 b _ q)];exact q,
     fun b o u e=>by have q:=un.frzs b o u e;rw [aB (nD2 b _ q)];exact q,
     fun b ps e=>let ⟨more,q⟩:=un.tbls b ps e;⟨more,by rw [aB (nD2 b _ q)];exact q⟩⟩
   have I6:Inv X pins U (upd H4 s2.heap.objs.size (.lst ys)) {s5 with heap:=h6}:=by
    refine I3.call' (s':={s5 with heap:=h6}) (ch:=s2.heap.objs.size :: fp) ?_ un6 hok6 I5.bare fun b hb=>?_
    ·show s5.os=s3.os
     have:=I5.os
     rw [eS] at this
     exact this
    ·have q:lY X pins H2 b:=by
      rcases WD.mp hb with rfl | z
      ·exact fD
      ·exact f2 b z
     obtain ⟨f0,f1,f2',f3,f4,f5⟩:=q
     exact ⟨f3,f1,f4,f5⟩
   exact ⟨.ref s2.heap.objs.size,_,I6,rfl,qn _ dn4⟩
  ·have hitem:=T.item XC eP eW eK eC i _ s4 _ H4 (fun _ _=>False) P4 (stat fr4) st4 go
   rw [eA] at hitem
   refine Xr hitem (fun r s5 ⟨u,hr,h5⟩=>?_) fun _ _ z=>z
   subst hr
   dsimp only
   refine Xr h5 (fun _ s6 ⟨x,H6,I6,r6,y6,st6,fr6⟩=>?_) fun _ _ z=>z
   have P6:=I6.pinned (stat fr6) (T.obj _ _ st6)
   rw [← eE,← eP,← eW,← eA]
   refine Xr (hgC _ s6 _ H6 x u _ P6 r6 (step x H6 y6)) (fun _ s7 ⟨σ7,H7,I7,kp7,q7⟩=>?_) fun _ _ z=>by rw [eX] at z;exact z
   refine Xr (htC _ s7 σ7 H7 _ I7 q7) (fun ok s8 ⟨H8,I8,q8⟩=>?_) fun _ _ z=>by rw [eX] at z;exact z
   have fin:∀ {H9:Hp} {s9:Shared},Inv XC ([(s2.heap.objs.size,({cls:=.type "list",data:=.seq its.toArray nn}:Obj))] ++ rW fp s6.heap) σ7 H9 s9->Inv XC [] (dD sub U) H9 s9/\tn (i+1) s9.heap/\(∀ b∈fp,H9 b=none)/\H9 s2.heap.objs.size=none/\
     s9.heap.get? s2.heap.objs.size=some {cls:=.type "list",data:=.seq its.toArray nn}:=fun {H9 s9} J=>by
    have pD:=J.pin (s2.heap.objs.size,({cls:=.type "list",data:=.seq its.toArray nn}:Obj)) (by rw [ePn];simp)
    have pF:∀ b∈fp,∀ o,s6.heap.get? b=some o->s9.heap.get? b=some o/\H9 b=none:=fun b hb o e=>by
     have q:=J.pin (b,o) (by rw [ePn];exact Xn _ (Xn _ (mL hb e)))
     exact ⟨q.1,q.2.1⟩
    refine ⟨?_,T.keep _ _ _ st6 fun b hb o e=>(pF b hb o e).1,fun b hb=>?_,pD.2.1,pD.1⟩
    ·have J0:Inv XC [] σ7 H9 s9:=J.pins_of fun p hp=>nomatch hp
     exact J0.weak kp7.1.symm fun j v e=>kp7.2 j v e
    ·obtain ⟨o,e,_⟩:=T.obj _ _ st6 b hb
     exact (pF b hb o e).2
   cases ok with
   | false=>
    rw [if_neg (by simp)]
    rw [if_neg (by simp)] at q8
    obtain ⟨m',hm,w8⟩:=hN _ _ q8
    obtain ⟨a1,a2,a3,a4,a5⟩:=fin I8
    exact ⟨m',hm,i+1,ys,its,nn,H8,a1,a2,a3,a4,a5,rv4,w8⟩
   | true=>
    rw [if_pos rfl]
    rw [if_pos rfl] at q8
    refine Xr (heC _ s8 σ7 H8 _ I8 q8) (fun xv s9 ⟨y,H9,I9,r9,n9⟩=>?_) fun _ _ z=>by rw [eX] at z;exact z
    obtain ⟨m',hm,w9⟩:=hN _ _ n9
    obtain ⟨a1,a2,a3,a4,a5⟩:=fin I9
    refine wpAny_list_append_plain (items:=its.toArray) ⟨nn,a5⟩ (fun h' ⟨n',hp'⟩ sb=>?_) (by simp;rw [← rv4.length];omega)
    obtain ⟨q1,q2⟩:=I4.ok.exf s2.heap.objs.size (by rw [eEx];exact Xf)
    have a1':Inv XC [] (dD sub U) H9 {s9 with heap:=h'}:=a1.turned (t':=s9.toks) (fun b o hb e=>(sb.2 b hb).trans e) a4 q1 (.inl (by rw [eEx];exact Xf)) q2 (fun p hp=>by rw [ePn] at hp;exact nomatch hp)
    refine ⟨m',hm,i+1,ys ++ [y],its ++ [xv],n',H9,a1',T.keep _ _ _ a2 fun b hb o e=>(sb.2 b (fun z=>hDfp (by rw [← z];exact hb))).trans e,a3,a4,?_,rv4.append (.cons r9 .nil),w9⟩
    rw [hp']
    simp
 subst hs3
 exact codeAny_compStart_list loop (T.self _ 0 _ _ _ (T.keep _ _ _ st2 fun b _ o e=>hk31 b o (k23 b o e)) loop)
end
abbrev pX (sub:List (Option Nat)) (g:TG) (tt:TT) (te:TE) (U:St) (Q:VK) (J:It) (H1:Hp):Prop:=∃ W:Nat->Nat->List V->Hp->Prop,(∃ m,W 0 m [] H1)/\∀ i m ys H,W i m ys H->
 (J.stop i H/\ys.length<=sizeLine/\∀ D,H D=none->Q (.ref D) (upd H D (.lst ys)))\/
 (J.go i H/\ys.length < sizeLine/\∃ N:List V->Hp->Prop,(∀ ys' H',N ys' H'->∃ m',m' < m/\W (i+1) m' ys' H')/\
  ∀ x H',J.yld i H x H'->g x (dD sub U) H' fun σ2 H2=>KeepSt (dD sub U) σ2/\tt σ2 H2 fun b H3=>if b=true then te σ2 H3 fun y H4=>N (ys ++ [y]) H4 else N ys H3)
theorem ye {sub:List (Option Nat)} {g:TG} {tt:TT} {te:TE} {U:St} {Q:VK} {J:It} {H:Hp} {n:Nat} (Pv:Nat->List V->Hp->Prop) (hn:n<=sizeLine) (h0:Pv 0 [] H) (hl:∀ i ys H,Pv i ys H->ys.length<=i)
  (hgo:∀ i ys H,i < n->Pv i ys H->J.go i H) (hstop:∀ ys H,Pv n ys H->J.stop n H)
  (hs:∀ i ys H x H',i < n->Pv i ys H->J.yld i H x H'->g x (dD sub U) H' fun σ2 H2=>KeepSt (dD sub U) σ2/\tt σ2 H2 fun b H3=>if b=true then te σ2 H3 fun y H4=>Pv (i+1) (ys ++ [y]) H4 else Pv (i+1) ys H3)
  (hd:∀ ys H,Pv n ys H->∀ D,H D=none->Q (.ref D) (upd H D (.lst ys))):pX sub g tt te U Q J H:=by
 refine ⟨fun i m ys H=>m=n - i/\i<=n/\Pv i ys H,⟨n,by simp,Xx _,h0⟩,?_⟩
 rintro i m ys H ⟨rfl,hi,p⟩
 have hl':=hl i ys H p
 by_cases hlt:i < n
 ·exact .inr ⟨hgo i ys H hlt p,by omega,fun ys' H'=>Pv (i+1) ys' H',fun ys' H' p'=>⟨n - (i+1),by omega,rfl,hlt,p'⟩,fun x H' y=>hs i ys H x H' hlt p y⟩
 ·have e:i=n:=by omega
  subst e
  exact .inl ⟨hstop ys H p,by omega,hd ys H p⟩
section
variable {κ:Type} [DecidableEq κ]
def j0 (kvs:List (κ×V)) (k:κ):Option V:=(kvs.find? fun kv=>decide (kv.1=k)).map (·.2)
def putK (kvs:List (κ×V)) (k:κ) (v:V):List (κ×V):=
 if (kvs.any fun kv=>decide (kv.1=k))=true then kvs.map (fun kv=>if kv.1=k then (kv.1,v) else kv) else kvs ++ [(k,v)]
theorem zp {k:κ}:j0 ([]:List (κ×V)) k=none:=rfl
theorem gf {p:κ×V} {r:List (κ×V)} {k:κ} (e:p.1=k):j0 (p :: r) k=some p.2:=by simp [j0,Za,e]
theorem gj {p:κ×V} {r:List (κ×V)} {k:κ} (e:¬ p.1=k):j0 (p :: r) k=j0 r k:=by simp [j0,Za,e]
theorem qZ (k:κ):∀ kvs:List (κ×V),(kvs.any fun kv=>decide (kv.1=k))=(j0 kvs k).isSome
 | []=>rfl
 | p :: r=>by
  rw [List.any_cons]
  by_cases e:p.1=k
  ·simp only [gf e,W0 e,Bool.true_or,Option.isSome_some]
  ·rw [gj e,W2 e,Bool.false_or];exact qZ k r
theorem zq (k j:κ) (y:V):∀ kvs:List (κ×V),j0 (kvs.map fun kv=>if kv.1=k then (kv.1,y) else kv) j=(j0 kvs j).map fun x=>if j=k then y else x
 | []=>rfl
 | p :: r=>by
  have ih:=zq k j y r
  rw [Xh]
  by_cases h:p.1=k
  ·rw [if_pos h]
   by_cases e:p.1=j
   ·rw [gf (p:=(p.1,y)) e,gf e,Option.map_some,if_pos (e.symm.trans h)]
   ·rw [gj (p:=(p.1,y)) e,gj e,ih]
  ·rw [if_neg h]
   by_cases e:p.1=j
   ·rw [gf (p:=p) e,gf e,Option.map_some,if_neg (fun z=>h (e.trans z))]
   ·rw [gj (p:=p) e,gj e,ih]
theorem w6 (k j:κ) (y:V):∀ kvs:List (κ×V),j0 kvs k=none->j0 (kvs ++ [(k,y)]) j=if j=k then some y else j0 kvs j
 | [],_=>by
  by_cases e:k=j
  ·rw [if_pos e.symm];exact gf (p:=(k,y)) e
  ·rw [if_neg (fun z=>e z.symm)];exact gj (p:=(k,y)) e
 | p :: r,hn=>by
  rw [List.cons_append]
  have hk:¬ p.1=k:=fun z=>by rw [gf z] at hn;cases hn
  rw [gj hk] at hn
  have ih:=w6 k j y r hn
  by_cases e:p.1=j
  ·rw [gf e,gf e,if_neg (fun z=>hk (e.trans z))]
  ·rw [gj e,gj e,ih]
theorem zr (kvs:List (κ×V)) (k j:κ) (y:V):j0 (putK kvs k y) j=if j=k then some y else j0 kvs j:=by
 unfold putK
 by_cases a:(kvs.any fun kv=>decide (kv.1=k))=true
 ·rw [if_pos a,zq]
  rw [qZ] at a
  by_cases e:j=k
  ·obtain ⟨x,hx⟩:=Option.isSome_iff_exists.mp a
   rw [if_pos e,e,hx,Option.map_some,if_pos rfl]
  ·rw [if_neg e]
   cases j0 kvs j with
   | none=>rfl
   | some x=>rw [Option.map_some,if_neg e]
 ·rw [if_neg a]
  refine w6 k j y kvs ?_
  rw [qZ] at a
  cases q:j0 kvs k with
  | none=>rfl
  | some x=>rw [q] at a;exact (a rfl).elim
theorem kZ (kvs:List (κ×V)) (k:κ) (v:V):(putK kvs k v).length<=kvs.length+1:=by
 unfold putK
 split
 ·rw [Ws];omega
 ·rw [Xl,Xy,List.length_nil];omega
theorem RelO.isSome_eq {o:Option V} {u:Option Value} (r:RelO o u):o.isSome=u.isSome:=by
 cases o with
 | none=>cases u with
  | none=>rfl
  | some _=>exact (show False from r).elim
 | some _=>cases u with
  | none=>exact (show False from r).elim
  | some _=>rfl
theorem KV.val {kvs:List (κ×V)} {vs:List (κ×Value)} (r:KV kvs vs) (k:κ):RelO (j0 kvs k) (valueAt vs k):=by
 unfold KV at r
 induction r with
 | nil=>exact True.intro
 | @cons p q ps qs h t ih=>
  obtain ⟨h1,h2⟩:=h
  by_cases e:p.1=k
  ·have e':q.1=k:=h1.symm.trans e
   have b:valueAt (q :: qs) k=some q.2:=by simp [valueAt,Za,e']
   rw [gf e,b];exact h2
  ·have e':¬ q.1=k:=fun z=>e (h1.trans z)
   have b:valueAt (q :: qs) k=valueAt qs k:=by simp [valueAt,Za,e']
   rw [gj e,b];exact ih
theorem KV.any {kvs:List (κ×V)} {vs:List (κ×Value)} (r:KV kvs vs) (k:κ):(kvs.any fun kv=>decide (kv.1=k))=vs.any fun kv=>decide (kv.1=k):=by
 unfold KV at r
 induction r with
 | nil=>rfl
 | cons h t ih=>rw [List.any_cons,List.any_cons,ih,h.1]
theorem KV.repl {kvs:List (κ×V)} {vs:List (κ×Value)} (r:KV kvs vs) (k:κ) {y:V} {u:Value} (ry:RelV y u):
  KV (kvs.map fun kv=>if kv.1=k then (kv.1,y) else kv) (vs.map fun kv=>if kv.1=k then (kv.1,u) else kv):=by
 unfold KV at r ⊢
 induction r with
 | nil=>exact .nil
 | @cons p q ps qs h t ih=>
  rw [Xh,Xh]
  refine .cons ?_ ih
  obtain ⟨h1,h2⟩:=h
  by_cases e:p.1=k
  ·rw [if_pos e,if_pos (h1.symm.trans e)];exact ⟨h1,ry⟩
  ·rw [if_neg e,if_neg (fun z=>e (h1.trans z))];exact ⟨h1,h2⟩
theorem KV.put {kvs:List (κ×V)} {vs:List (κ×Value)} (r:KV kvs vs) (k:κ) {y:V} {u:Value} (ry:RelV y u):KV (putK kvs k y) (stored vs k u):=by
 unfold putK stored
 rw [r.any k]
 by_cases e:(vs.any fun kv=>decide (kv.1=k))=true
 ·rw [if_pos e,if_pos e];exact r.repl k ry
 ·rw [if_neg e,if_neg e];exact Paired.snoc r ⟨rfl,ry⟩
theorem KV.length {kvs:List (κ×V)} {vs:List (κ×Value)} (r:KV kvs vs):kvs.length=vs.length:=Paired.length r
end
theorem Hw {P:Program} {w:World} {k:Key} {u:Value} (r:RelV (kV k) u):(dY P w).is k u=true:=by
 cases k with
 | inl i=>obtain ⟨t,e⟩:=(show ∃ t,u=Value.int i t from r);subst e;exact yZ P w i t
 | inr x=>obtain ⟨t,e⟩:=(show ∃ t,u=Value.str x t from r);subst e;exact za P w x t
theorem xf {P:Program} {w:World}:∀ {ks:List Key} {us:List Value},Vals (ks.map kV) us->ItemsAre (dY P w) ks us
 | [],_,r=>by rw [List.map_nil] at r;cases r;exact .nil
 | k :: ks,_,r=>by
  rw [Xh] at r
  cases r with
  | cons h t=>exact .cons (Hw h) (xf t)
abbrev KT (H:Hp):List (List Key×V)->List (List Key×Addr×Value)->Prop:=Paired fun p q=>p.1=q.1/\H q.2.1=some (.tup (p.1.map kV))/\RelV p.2 q.2.2
theorem KT.val {H:Hp} {kvs:List (List Key×V)} {xs:List (List Key×Addr×Value)} (r:KT H kvs xs) (k:List Key):RelO (j0 kvs k) ((atKey xs k).map (·.2)):=by
 induction r with
 | nil=>exact True.intro
 | @cons p q ps qs h t ih=>
  obtain ⟨h1,_,h2⟩:=h
  by_cases e:p.1=k
  ·have e':q.1=k:=h1.symm.trans e
   have b:atKey (q :: qs) k=some q.2:=by simp [atKey,Za,e']
   rw [gf e,b];exact h2
  ·have e':¬ q.1=k:=fun z=>e (h1.trans z)
   have b:atKey (q :: qs) k=atKey qs k:=by simp [atKey,Za,e']
   rw [gj e,b];exact ih
theorem KT.repl {H:Hp} {kvs:List (List Key×V)} {xs:List (List Key×Addr×Value)} (r:KT H kvs xs) (k:List Key) {y:V} {u:Value} (ry:RelV y u):
  KT H (kvs.map fun kv=>if kv.1=k then (kv.1,y) else kv) (xs.map (putAt k u)):=by
 induction r with
 | nil=>exact .nil
 | @cons p q ps qs h t ih=>
  rw [Xh,Xh]
  refine .cons ?_ ih
  obtain ⟨h1,h2,h3⟩:=h
  unfold putAt
  by_cases e:p.1=k
  ·rw [if_pos e,if_pos (h1.symm.trans e)];exact ⟨h1,h2,ry⟩
  ·rw [if_neg e,if_neg (fun z=>e (h1.trans z))];exact ⟨h1,h2,h3⟩
theorem KT.put {H:Hp} {kvs:List (List Key×V)} {xs:List (List Key×Addr×Value)} (r:KT H kvs xs) (k:List Key) {b:Addr} {y:V} {u:Value} (hb:H b=some (.tup (k.map kV))) (ry:RelV y u):
  KT H (putK kvs k y) (storedH xs k b u):=by
 have e:(kvs.any fun kv=>decide (kv.1=k))=(atKey xs k).isSome:=by
  rw [qZ,(r.val k).isSome_eq,Option.isSome_map]
 unfold putK storedH
 rw [e]
 by_cases q:(atKey xs k).isSome=true
 ·rw [if_pos q,if_pos q];exact r.repl k ry
 ·rw [if_neg q,if_neg q];exact Paired.snoc r ⟨rfl,hb,ry⟩
theorem KT.keeps {H H':Hp} {kvs:List (List Key×V)} {xs:List (List Key×Addr×Value)} (r:KT H kvs xs) (ht:∀ b ys,H b=some (.tup ys)->H' b=some (.tup ys)):KT H' kvs xs:=
 Paired.mapP r fun _ _ z=>⟨z.1,ht _ _ z.2.1,z.2.2⟩
section
variable {P:Program} {w:World} {H:Hp} {h:Heap} {a:Addr}
theorem OJ {u:HO} (ok:HOk P w H h) (e:Rd H a u):ObjOk P w H h a u:=e.ok ok
theorem O1 {kvs:List (Key×V)} (ok:HOk P w H h) (e:Rd H a (.dK kvs)):kvs.length<=sizeLine/\(a == sysModules)=false/\∃ vs,KV kvs vs/\h.DictOf (dY P w) a vs:=
 show ObjOk P w H h a (.dK kvs) from OJ ok e
theorem Uv {kvs:List (Key×V)} (ok:HOk P w H h) (e:H a=some (.dK kvs)):kvs.length<=sizeLine/\(a == sysModules)=false/\∃ vs,KV kvs vs/\h.DictOf (dY P w) a vs:=O1 ok (.inl e)
theorem Bo {ks:List Key} (ok:HOk P w H h) (e:H a=some (.tup (ks.map kV))):(tupleKind (dY P w)).is h ks a:=by
 obtain ⟨_,its,r,o,h1,h2,n,h3⟩:=(show ObjOk P w H h a (.tup (ks.map kV)) from ok a _ e)
 exact ⟨o,its.toArray,n,h1,h2,h3,by simpa using xf r⟩
theorem O2 {kvs:List (List Key×V)} (ok:HOk P w H h) (e:Rd H a (.dT kvs)):kvs.length<=sizeLine/\(a == sysModules)=false/\
  ∃ xs,KT H kvs xs/\h.DictOfH (tupleKind (dY P w)) a xs:=by
 obtain ⟨z,y,xs,r,o,es,ep,h1,h2,h3,h4,h5⟩:=(show ObjOk P w H h a (.dT kvs) from OJ ok e)
 refine ⟨z,y,xs,r,o,es,ep,h1,h2,h3,h4,fun x hx=>?_,h5⟩
 have all:∀ {l:List (List Key×V)} {m:List (List Key×Addr×Value)},KT H l m->∀ x∈m,(tupleKind (dY P w)).is h x.1 x.2.1:=by
  intro l m q
  induction q with
  | nil=>intro x hx;exact nomatch hx
  | @cons p q ps qs hq t ih=>
   intro x hx
   rcases WD.mp hx with e | hx
   ·subst e
    exact Bo ok (by rw [← hq.1];exact hq.2.1)
   ·exact ih x hx
 exact all r x hx
theorem Uw {kvs:List (List Key×V)} (ok:HOk P w H h) (e:H a=some (.dT kvs)):kvs.length<=sizeLine/\(a == sysModules)=false/\
  ∃ xs,KT H kvs xs/\h.DictOfH (tupleKind (dY P w)) a xs:=O2 ok (.inl e)
end
def DGet (H:Hp) (a:Addr) (y:V) (r:Option V):Prop:=
 (∃ kvs k,Rd H a (.dK kvs)/\y=kV k/\r=j0 kvs k)\/∃ kvs k b,Rd H a (.dT kvs)/\y= .ref b/\H b=some (.tup (k.map kV))/\r=j0 kvs k
def DPut (H:Hp) (a:Addr) (y v:V) (H':Hp):Prop:=
 (∃ kvs k,H a=some (.dK kvs)/\y=kV k/\kvs.length < sizeLine/\H'=upd H a (.dK (putK kvs k v)))\/
 ∃ kvs k b,H a=some (.dT kvs)/\y= .ref b/\H b=some (.tup (k.map kV))/\kvs.length < sizeLine/\H'=upd H a (.dT (putK kvs k v))
theorem DGet.k {H:Hp} {a:Addr} {kvs:List (Key×V)} {k:Key} (e:H a=some (.dK kvs)):DGet H a (kV k) (j0 kvs k):=.inl ⟨kvs,k,.inl e,rfl,rfl⟩
theorem DPut.k {H:Hp} {a:Addr} {kvs:List (Key×V)} {k:Key} {v:V} (e:H a=some (.dK kvs)) (hl:kvs.length < sizeLine):DPut H a (kV k) v (upd H a (.dK (putK kvs k v))):=.inl ⟨kvs,k,e,rfl,hl,rfl⟩
section
variable {X:Cx} {pins:List (Addr×Obj)} {U:St} {H:Hp} {s:Shared} {a:Addr} {y v:V} {u r:Value} {o:Option V} {A:Around} {E:Value->Shared->Prop}
theorem Inv.big (I:Inv X pins U H s):sysModules < s.heap.objs.size:=by
 have h:mainGlobals < s.heap.objs.size:=(I.mod.glob.keeps I.bk).lt
 exact Nat.lt_trans (by decide) h
theorem d_in {Q:Value->Shared->Prop} (hu:A.units+1 < cLine) (I:Inv X pins U H s) (g:DGet H a y o) (ry:RelV y u) (h:∀ s',Inv X pins U H s'->Q (.bool o.isSome) s'):
  wpAny (model X.prog X.w) A (compareOp .In u (.ref a)) Q E s:=by
 rcases g with ⟨kvs,k,e,ey,l⟩ | ⟨kvs,k,b,e,ey,eb,l⟩
 ·subst ey
  obtain ⟨z,hd,vs,rel,dd⟩:=O1 I.hok e
  refine wpAny_in_of (Hw ry) hd dd.mapOf ?_
  rw [← (rel.val k).isSome_eq,← l]
  exact h _ (I.tok _)
 ·subst ey
  cases (show u=Value.ref b from ry)
  obtain ⟨z,hd,xs,rel,dd⟩:=O2 I.hok e
  refine wpAny_in_heap (tupleKind_room_in1 hu) (Bo I.hok eb) hd dd ?_
  have q:=(rel.val k).isSome_eq
  rw [Option.isSome_map] at q
  rw [← q,← l]
  exact h _ (I.tok _)
theorem Dl {h':Heap} {t':Nat} {ob:HO} (I:Inv X pins U H s) (mu:T5 (H a)) (hs:Heap.SameBut a s.heap h') (he:∃ q,h'.get? a=some q) (new:ObjOk X.prog X.w (upd H a ob) h' a ob):
  Inv X pins U (upd H a ob) {s with heap:=h',toks:=t'}:=
 I.write (x:=a) (e:=a) mu (.inl rfl) (fun b q hb z=>(hs.2 b hb).trans z) he new
theorem Q4 {P:Program} {w:World} {H':Hp} {h':Heap} {kvs:List (Key×V)} {vs:List (Key×Value)} (z:kvs.length<=sizeLine) (hd:(a == sysModules)=false) (rel:KV kvs vs) (dd:h'.DictOf (dY P w) a vs):
  ObjOk P w H' h' a (.dK kvs):=⟨z,hd,vs,rel,dd⟩
theorem Fq {H':Hp} {Q:Unit->Shared->Prop} (hu:A.units+1 < cLine) (I:Inv X pins U H s) (g:DPut H a y v H') (ry:RelV y u) (rv:RelV v r) (h:∀ s',Inv X pins U H' s'->Q () s'):
  wpAny (model X.prog X.w) A (setItem (.ref a) u r) Q E s:=by
 rcases g with ⟨kvs,k,e,ey,l,eH⟩ | ⟨kvs,k,b,e,ey,eb,l,eH⟩
 ·subst ey eH
  obtain ⟨z,hd,vs,rel,dd⟩:=Uv I.hok e
  have hz:vs.length<=sizeLine:=by rw [← rel.length];exact z
  have hl:(putK kvs k v).length<=sizeLine:=by have:=kZ kvs k v;omega
  refine wpAny_setItem_pairs (hsz:=hz) (Hw ry) dd fun h' dd' hs=>h _ ?_
  have he:∃ q,h'.get? a=some q:=let ⟨q,_,_,hq,_⟩:=dd';⟨q,hq⟩
  exact Dl I (by rw [e];exact True.intro) hs he (Q4 hl hd (rel.put k rv) dd')
 ·subst ey eH
  cases (show u=Value.ref b from ry)
  obtain ⟨z,hd,xs,rel,dd⟩:=Uw I.hok e
  have hz:xs.length<=sizeLine:=by rw [← Paired.length rel];exact z
  have hl:(putK kvs k v).length<=sizeLine:=by have:=kZ kvs k v;omega
  refine wpAny_setItem_heap (hsz:=hz) (tupleKind_room_in1 hu) (Bo I.hok eb) dd fun h' dd' hs=>h _ ?_
  obtain ⟨q,es,ep,hq,h2,h3,h4,_,h5⟩:=dd'
  refine Dl I (by rw [e];exact True.intro) hs ⟨q,hq⟩ ⟨hl,hd,_,(rel.put k eb rv).keeps fun c ys ec=>?_,q,es,ep,hq,h2,h3,h4,h5⟩
  rw [aB (T4 ec e (fun z=>nomatch z))]
  exact ec
end
theorem Hx {P:Program} {w:World} {H:Hp} (h:Heap) (hb:sysModules < h.objs.size):ObjOk P w H (h.push {cls:=.type "dict",data:=.dict #[]}) h.objs.size (.dK []):=
 ⟨Xx _,YD.mpr (Ne.symm (Xc hb)),[],.nil,Heap.DictOf.new h⟩
def Bp:TE:=fun _ H Q=>∀ p,H p=none->Q (.ref p) (upd H p (.dK []))
section
variable {X:Cx} {pos:Pos}
theorem Hy:PE X (.Dict [] [] pos) Bp:=fun pins s U H Q I h=>
 wpAny_Dict_empty ⟨.ref s.heap.objs.size,_,I.laid (a:=s.heap.objs.size) (o:=.dK []) (t':=s.toks) (fun _ _ q=>Wr _ q) (Wq _) (Hx s.heap I.big),rfl,h _ (I.hok.fresh (Wq _))⟩
end
def LQ (x:Str):It:=⟨fun i _=>i < x.cps.size,fun i H v H'=>H'=H/\∃ c,x.cps[i]?=some c/\v= .str ⟨#[c]⟩,fun i _=>i=x.cps.size⟩
theorem zu {P:Program} {w:World} {K:W.Frag} {tg:Expr} (it:Addr) (x:Str) (t:Tok) (ty:String)
  (hty:["enumerate","zip","dict_itemiterator","dict_reverseitemiterator","odict_iterator","itertools.zip_longest","itertools.pairwise"].contains ty=false)
  (W:∀ A:Around,A.handled=none->Walks P w A it [it] [it] x.cps.size (SignAt x) fun i h=>h.IsStrIter it ty x t i)
  (hself:∀ (A:Around) (i:Nat) (s:Shared) (Q:Value->Shared->Prop) (E:Value->Shared->Prop),s.heap.IsStrIter it ty x t i->Q (.ref it) s->wpAny (model P w) A (pyIter (.ref it)) Q E s):Turn P w K tg (LQ x) [it] it (fun i h=>h.IsStrIter it ty x t i) where
 mem:=by simp
 obj:=fun i h st b hb=>by
  have e:b=it:=by simpa using hb
  subst e
  obtain ⟨o,e,c,d⟩:=st
  exact ⟨o,e,fun v z=>by rw [d] at z;cases z⟩
 keep:=fun i h h' st k=>by
  obtain ⟨o,e,r⟩:=st
  exact ⟨o,k it (by simp) o e,r⟩
 item:=by
  intro X hP hw hK hc i pins s U H E I hf st hg
  subst hP hw hK
  obtain ⟨f0,f1,f2,f3,f4,f5⟩:=hf it (by simp)
  refine (W X.A (I.ok.hd hc)).item i s _ _ hg st fun v h' tk hv st' kk=>?_
  obtain ⟨c,u,e1,rfl⟩:=hv
  have I1:Inv X pins U H {s with heap:=h',toks:=tk}:=I.turned (fun b o hb e=>kk b o (by simpa using hb) e) f0 f1 f3 f4 f5
  obtain ⟨o,e,cl,d⟩:=id st'
  exact ⟨_,rfl,wM (s:={s with heap:=h',toks:=tk}) e cl d hty ⟨.str ⟨#[c]⟩,H,I1,⟨u,rfl⟩,⟨rfl,c,e1,rfl⟩,st',fun b hb=>(hf b hb).1⟩⟩
 done:=by
  intro X hP hw hK hc i pins s U H E I hf st hg
  subst hP hw hK
  obtain ⟨f0,f1,f2,f3,f4,f5⟩:=hf it (by simp)
  have hg:i=x.cps.size:=hg
  subst hg
  exact (W X.A (I.ok.hd hc)).done s _ _ st fun h' tk kk=>⟨rfl,I.turned (fun b o hb e=>kk b o (by simpa using hb) e) f0 f1 f3 f4 f5⟩
 self:=hself
section
variable {X:Cx}
theorem all_range {bs:List Bool}:(List.range bs.length).all (fun i=>bs.getD i false)=bs.all id:=by
 rw [Y9]
 simp only [Yl,Xe]
 constructor
 ·intro h b hb
  obtain ⟨i,hi,e⟩:=XR.mp hb
  have:=h i hi
  rw [Wu,Wn hi] at this
  simp only [Option.getD_some] at this
  rw [← e];exact this
 ·intro h i hi
  rw [Wu,Wn hi]
  exact h _ (Yb hi)
theorem any_range {bs:List Bool}:(List.range bs.length).any (fun i=>bs.getD i false)=bs.any id:=by
 rw [Y9]
 simp only [List.any_eq_true,Xe]
 constructor
 ·rintro ⟨i,hi,h⟩
  rw [Wu,Wn hi] at h
  exact ⟨_,Yb hi,h⟩
 ·rintro ⟨b,hb,h⟩
  obtain ⟨i,hi,e⟩:=XR.mp hb
  refine ⟨i,hi,?_⟩
  rw [Wu,Wn hi]
  simp only [Option.getD_some]
  rw [e];exact h
theorem n6:∀ {bs:List Bool} {us:List Value} {i:Nat} {v:Value},Vals (bs.map V.bl) us->us[i]?=some v->v= .bool (bs.getD i false)
 | [],_,i,v,.nil,e=>by simp at e
 | b :: bs,_,0,v,.cons r t,e=>by simp at e;subst e;exact r
 | b :: bs,_,i+1,v,.cons r t,e=>by
  simp at e
  have:=n6 (bs:=bs) t e
  simpa using this
def rAll:List V->Hp->VK->Prop:=fun xs H Q=>∃ (p:Addr) (bs:List Bool),xs=[.ref p]/\H p=some (.lst (bs.map V.bl))/\Q (.bl (bs.all id)) H
theorem u5 (hc:X.calm=true):CallR X (.builtin "all") rAll:=by
 intro pins s U H xs us Q I r h
 obtain ⟨p,bs,rfl,hp,q⟩:=h
 obtain ⟨u,rfl,ru⟩:=vals1 r
 cases ru
 obtain ⟨hz,its,n,rv,e⟩:=I.hok p _ hp
 refine call_all_walk (wpAny_pyIter_list (items:=its.toArray) ⟨_,e,rfl,n,rfl⟩ ?_)
 refine ⟨s.heap.objs.size,_,_,_,_,_,fun i=>bs.getD i false,rfl,Walks.list (A:=X.A.in1) (I.ok.hd hc) s.heap.objs.size p (Xc (Wx e)) its.toArray,⟨⟨_,Ww _ rfl,rfl,rfl⟩,⟨_,Wr _ e,rfl,n,rfl⟩⟩,?_,fun h' tk hk=>?_⟩
 ·intro i v s' Q' E' hv hq
  have:=n6 rv (by simpa using hv)
  subst this
  exact Yd hq
 ·have hl:its.toArray.size=bs.length:=by have:=rv.length;simpa using this.symm
  rw [hl,all_range]
  refine ⟨.bl _,H,?_,rfl,q⟩
  exact I.kept fun b o e=>hk b o (by simp;exact Xc (Wx e)) (Wr _ e)
def rAny:List V->Hp->VK->Prop:=fun xs H Q=>∃ (p:Addr) (bs:List Bool),xs=[.ref p]/\H p=some (.lst (bs.map V.bl))/\Q (.bl (bs.any id)) H
theorem Hz (hc:X.calm=true):CallR X (.builtin "any") rAny:=by
 intro pins s U H xs us Q I r h
 obtain ⟨p,bs,rfl,hp,q⟩:=h
 obtain ⟨u,rfl,ru⟩:=vals1 r
 cases ru
 obtain ⟨hz,its,n,rv,e⟩:=I.hok p _ hp
 refine call_any_walk (wpAny_pyIter_list (items:=its.toArray) ⟨_,e,rfl,n,rfl⟩ ?_)
 refine ⟨s.heap.objs.size,_,_,_,_,_,fun i=>bs.getD i false,rfl,Walks.list (A:=X.A.in1) (I.ok.hd hc) s.heap.objs.size p (Xc (Wx e)) its.toArray,⟨⟨_,Ww _ rfl,rfl,rfl⟩,⟨_,Wr _ e,rfl,n,rfl⟩⟩,?_,fun h' tk hk=>?_⟩
 ·intro i v s' Q' E' hv hq
  have:=n6 rv (by simpa using hv)
  subst this
  exact Yd hq
 ·have hl:its.toArray.size=bs.length:=by have:=rv.length;simpa using this.symm
  rw [hl,any_range]
  refine ⟨.bl _,H,?_,rfl,q⟩
  exact I.kept fun b o e=>hk b o (by simp;exact Xc (Wx e)) (Wr _ e)
theorem u6:∀ {ys:List Str} {us:List Value},Vals (ys.map V.str) us->StrsAre us ys
 | [],_,.nil=>.nil
 | y :: ys,_,.cons r t=>by
  obtain ⟨k,e⟩:=(show ∃ t,_=Value.str y t from r)
  subst e
  exact .cons y k (u6 t)
def rJoin:V->List V->Hp->VK->Prop:=fun x xs H Q=>∃ (sep:Str) (p:Addr) (ys:List Str),x= .str sep/\xs=[.ref p]/\H p=some (.lst (ys.map V.str))/\(ys.map (·.length)).sum+ys.length*sep.length<=16777216/\Q (.str (Txt.join sep ys)) H
theorem Dm:KR X "str.join" rJoin:=by
 intro pins s U H x xs v us Q I rx r h
 obtain ⟨sep,p,ys,rfl,rfl,hp,hz,q⟩:=h
 obtain ⟨u,rfl,ru⟩:=vals1 r
 cases ru
 obtain ⟨t,rfl⟩:=rx
 obtain ⟨hz',its,n,rv,e⟩:=I.hok p _ hp
 exact join_list (items:=its.toArray) ⟨_,e,rfl,n,rfl⟩ (by simpa using u6 rv) hz fun t' k=>⟨.str _,H,I.tok _,⟨_,rfl⟩,q⟩
def Ux:V->Option Int->Option Int->Hp->VK->Prop:=fun v lo hi H Q=>∃ x,v= .str x/\x.length<=sizeLine/\Q (.str (Txt.slice x lo hi)) H
theorem Q5:SlR X Ux:=by
 intro pins s U H x v vl vu lo hi sl Q I rx hs pl pu h
 obtain ⟨z,rfl,hz,q⟩:=h
 obtain ⟨t,rfl⟩:=rx
 refine ⟨"str",_,F.slot_str_getitem.lookup,typeIs_str _ _ _,?_⟩
 have fin:∀ (t' k:Nat),EP X pins U Q (.str (Txt.slice z lo hi) t') {s with toks:=k}:=fun t' k=>⟨.str _,H,I.tok _,⟨_,rfl⟩,q⟩
 have sz:=WY (Txt.slice_le z lo hi) hz
 obtain ⟨o,ho,hc,hd⟩:=hs
 cases pl with
 | none=>
  cases pu with
  | none=>exact Yz (l:=none) (u:=none) (st:=none) ⟨o,ho,hc,hd⟩ rfl (post_val_or_str ⟨sz,fin⟩)
  | int j tj=>exact Yz (l:=none) (u:=some (j,tj)) (st:=none) ⟨o,ho,hc,hd⟩ rfl (post_val_or_str ⟨sz,fin⟩)
 | int i ti=>
  cases pu with
  | none=>exact Yz (l:=some (i,ti)) (u:=none) (st:=none) ⟨o,ho,hc,hd⟩ rfl (post_val_or_str ⟨sz,fin⟩)
  | int j tj=>exact Yz (l:=some (i,ti)) (u:=some (j,tj)) (st:=none) ⟨o,ho,hc,hd⟩ rfl (post_val_or_str ⟨sz,fin⟩)
def O3:R2:=fun x y H Q=>∃ i n,x= .str i/\y= .int n/\MulOk i n/\Q (.str (Txt.mul i n)) H
theorem Bq:OpR X (binaryOp .Mult) O3:=by
 intro pins s U H x y v u Q I rx ry h
 obtain ⟨i,n,rfl,rfl,hk,q⟩:=h
 obtain ⟨t,rfl⟩:=rx
 obtain ⟨t',rfl⟩:=ry
 exact SB.mul hk fun t' k=>⟨.str _,H,I.tok _,⟨_,rfl⟩,q⟩
def sgn (x:Str):List V:=x.cps.toList.map fun c=>V.str ⟨#[c]⟩
theorem Ft {x:Str} {acc:Array Value} (h:ItemsOf (SignAt x) acc x.cps.size):Vals (sgn x) acc.toList:=by
 obtain ⟨h1,h2⟩:=h
 have key:∀ (l:List Nat) (a:List Value),l.length=a.length->(∀ (j:Nat) (v:Value),a[j]?=some v->∃ (c:Nat) (u:Tok),l[j]?=some c/\v=Value.str ⟨#[c]⟩ u)->Vals (l.map fun c=>V.str ⟨#[c]⟩) a:=by
  intro l
  induction l with
  | nil=>intro a hl _;cases a with
   | nil=>exact .nil
   | cons _ _=>simp at hl
  | cons c l ih=>
   intro a hl hh
   cases a with
   | nil=>simp at hl
   | cons v a=>
    obtain ⟨c',u,e1,e2⟩:=hh 0 v (by simp)
    simp at e1;subst e1
    refine .cons ⟨u,e2⟩ (ih a (by simpa using hl) fun j v' e=>?_)
    obtain ⟨c',u,e1,e2⟩:=hh (j+1) v' (by simpa using e)
    exact ⟨c',u,by simpa using e1,e2⟩
 refine key x.cps.toList acc.toList (by simp [h1]) fun j v e=>?_
 obtain ⟨c,u,e1,e2⟩:=h2 j v (by simpa using e)
 exact ⟨c,u,by simpa using e1,e2⟩
theorem zx (hc:X.calm=true):CallR X (.type "list") (fun xs H Q=>∃ x,xs=[.str x]/\x.cps.size<=sizeLine/\∀ p,H p=none->Q (.ref p) (upd H p (.lst (sgn x)))):=by
 intro pins s U H xs us Q I r h
 obtain ⟨x,rfl,hz,q⟩:=h
 obtain ⟨u,rfl,t,rfl⟩:=vals1 r
 refine call_list_str (I.ok.hd hc) x t (hn:=hz) fun h' tk acc' c' hk hS hacc=>?_
 refine ⟨.ref s.heap.objs.size,_,I.laid (o:=.lst (sgn x)) hk (Wq _) ⟨by simp [sgn];exact hz,acc'.toList,c',Ft hacc,by simpa using hS⟩,rfl,q _ I.fresh⟩
def Q6 (K:W.Frag):List V->Hp->VK->Prop:=fun xs H Q=>∃ x T t b,xs=[x,.ty T]/\TyOf K H x t/\PySem.W.kitOne K t (.type T)=some b/\Q (.bl b) H
theorem HB:CallR X (.builtin "isinstance") (Q6 X.K):=by
 intro pins s U H xs us Q I r h
 obtain ⟨x,T,t,b,rfl,ty,e,q⟩:=h
 obtain ⟨u,v,rfl,ru,rv⟩:=vals2 r
 cases rv
 exact Fb I ru ty e fun tk=>⟨.bl b,H,I.tok _,rfl,q⟩
def Br:List V->List V->Bool
 | [],[]=>true
 | x :: xs,y :: ys=>Di x y && Br xs ys
 | _,_=>false
theorem u9:∀ (xs ys:List V),xs.length=ys.length->(List.range xs.length).all (fun j=>Di (xs.getD j .non) (ys.getD j .non))=Br xs ys
 | [],[],_=>rfl
 | x :: xs,y :: ys,h=>by
  have ih:=u9 xs ys (by simpa using h)
  rw [Xy,List.range_succ_eq_map,Xv,List.all_map]
  simp only [Br]
  rw [← ih]
  rfl
 | [],y :: ys,h=>by simp at h
 | x :: xs,[],h=>by simp at h
theorem zy:∀ {xs ys:List V},xs.length≠ys.length->Br xs ys=false
 | [],[],h=>absurd rfl h
 | [],y :: ys,_=>rfl
 | x :: xs,[],_=>rfl
 | x :: xs,y :: ys,h=>by simp [Br,zy (xs:=xs) (ys:=ys) (by simpa using h)]
def Uy (K:W.Frag) (neg:Bool):R2:=fun x y H Q=>∃ a b xs ys,x= .ref a/\y= .ref b/\SqL K H a xs/\SqL K H b ys/\xs.all mq=true/\ys.all mq=true/\Q (.bl (if neg then !Br xs ys else Br xs ys)) H
theorem Fv (hu:X.A.units < cLine):OpR X (compareOp .Eq) (Uy X.K false):=by
 intro pins s U H x y v u Q I rx ry h
 obtain ⟨a,b,xs,ys,rfl,rfl,ha,hb,fx,fy,q⟩:=h
 cases rx
 cases ry
 obtain ⟨its,r1,p1,z1⟩:=I.list ha
 obtain ⟨jts,r2,p2,z2⟩:=I.list hb
 have l1:its.toArray.size=xs.length:=by simpa using r1.length.symm
 have l2:jts.toArray.size=ys.length:=by simpa using r2.length.symm
 by_cases hl:xs.length=ys.length
 ·refine SeqAt.eq_listAt (e:=fun j=>Di (xs.getD j .non) (ys.getD j .non)) p1.isList p2.isList (by rw [l1,l2];exact hl) hu (fun j h1 h2=>?_) ?_
  ·have h1':j < xs.length:=by omega
   have h2':j < ys.length:=by omega
   obtain ⟨u1,e1,q1⟩:=r1.get (Wn h1')
   obtain ⟨u2,e2,q2⟩:=r2.get (Wn h2')
   have e1':its.toArray[j]=u1:=by
    have:=Wm.mp e1
    obtain ⟨_,z⟩:=this
    simpa using z
   have e2':jts.toArray[j]=u2:=by
    have:=Wm.mp e2
    obtain ⟨_,z⟩:=this
    simpa using z
   rw [e1',e2']
   have g1:xs.getD j .non=xs[j]:=by rw [Wu,Wn h1'];rfl
   have g2:ys.getD j .non=ys[j]:=by rw [Wu,Wn h2'];rfl
   show SeqAt.EqAt X.A.in1 s u1 u2 (Di (xs.getD j .non) (ys.getD j .non))
   rw [g1,g2]
   exact xX q1 q2 (Yl.mp fx _ (Yb h1')) (Yl.mp fy _ (Yb h2'))
  ·rw [l1,u9 xs ys hl]
   exact ⟨.bl _,H,I,rfl,q⟩
 ·refine SeqAt.eq_list_lengthsAt p1.isList p2.isList (by rw [l1,l2];simpa using hl) hu ?_
  rw [if_neg (by simp),zy hl] at q
  exact ⟨.bl false,H,I,rfl,q⟩
end
def Def (K:W.Frag) (mg:Str->Option Value) (x:Str) (st:Stmt):Prop:=∃ f fd,Fun K x x st f fd/\mg x=some (.ref f)
theorem aU {K:W.Frag} {mg:Str->Option Value} {h:Heap} (X:K.In h) (G:h.Ns mainGlobals mg) {x:Str} {st:Stmt} {f:Addr} {oc:Value} {od an:Option Addr} {osl:Array (Option Value)} {kV doc pm cdv ct:Value}
  (a:PySem.W.nsIn K mainGlobals x=some (some (.ref f)))
  (l:K.lookup f=some ⟨oc,od,.func (PySem.W.fnOf x x (gn st) (dj st) (az st) .none kV doc pm an cdv ct),osl⟩)
  (c:PySem.W.codeIn K cdv x=true) (k:PySem.W.keepIn K (.ref f)=true):Def K mg x st:=⟨f,_,Bm l c k,Yw X G a⟩
def jN (P:Program) (w:World) (K:W.Frag) (mg:Str->Option Value) (base:Heap) (k:Nat) (x:Str) (ps:List Str) (sp:Sp):Prop:=
 ∃ f fd,mg x=some (.ref f)/\PySem.W.keepIn K (.ref f)=true/\Binds K fd ps []/\FnOk P w K mg base Fl k f fd ps sp
section
variable {P:Program} {w:World} {K:W.Frag} {mg:Str->Option Value} {base:Heap}
theorem Q7 {x:Str} {st:Stmt} {N ps:List Str} {k:Nat} {sp:Sp} (D:Def K mg x st) (S:aF N ps (az st))
  (hb:∀ (kV doc pm:Value) (an:Option Addr) (cdv ct:Value) (us:List Value),us.length=ps.length->bindArgs (PySem.W.fnOf x x (gn st) (dj st) (az st) .none kV doc pm an cdv ct) ⟨us,[]⟩=pure (ps.zip us))
  (len:∀ vs H Q E,sp vs H Q E->vs.length=ps.length)
  (hbody:∀ (f:Addr) (cdv:Value) (A:Around) (outer:List Env) (s:Shared) (H:Hp) (vs:List V) (Q:VK) (E:XK),Room k (A.deeper (envOfC x (az st) s.heap.objs.size f cdv))->sp vs H Q E->
   ∃ t,PSs (qe Fl P w K mg base N x (az st) f cdv A outer s H E).nox (dj st) t/\t {nx:=fun _ H'=>Q .non H',rt:=Q} (start N vs) H):jN P w K mg base (k+1) x ps sp:=by
 obtain ⟨f,fd,F,hm⟩:=D
 exact ⟨f,fd,hm,F.kp,F.binds hb,F.ok S len fun cdv A outer s H vs Q E hr h=>hbody f cdv A outer s H vs Q E hr h⟩
end
section
variable {X:Cx}
theorem HD {k:Nat} {x:Str} {ps:List Str} {sp:Sp} {p pos:Pos} {e:Expr} {es:List Expr} {t:TA} (F:jN X.prog X.w X.K X.mg X.base k x ps sp) (hr:Room k X.A) (hg:Gl X x)
  (ha:PA X (e :: es) t) (hdb:autoParam ((x == ("__debug__":Str))=false) L2.auto2._auto_1) (he:autoParam (starEach (e :: es) X.env=(false,eval e X.env) :: starEach es X.env) L2.auto4._auto_1) (hpl:autoParam ((backTo pos (starEach es X.env)).any (·.1)=false) L2.auto4._auto_1):
  PE X (.Call (.Name x p) (e :: es) [] pos) (wQ sp [] E0 t):=by
 obtain ⟨f,fd,a,b,c,d⟩:=F
 exact Ls d hr hg a b c .nil Uu ha hdb he hpl
def Dn:R2:=fun x y H Q=>(∃ i j,x= .int i/\y= .int j/\Q (.int (i+j)) H)\/(∃ i j,x= .str i/\y= .str j/\i.length+j.length<=sizeLine/\Q (.str (i ++ j)) H)\/Us x y H Q
theorem aV:OpR X (binaryOp .Add) Dn:=Qz.or (Bb.or Q0)
def Do:R2:=fun x y H Q=>(∃ i j,x= .int i/\y= .int j/\CMul i j/\Q (.int (i*j)) H)\/O3 x y H Q\/Ut x y H Q
theorem jO:OpR X (binaryOp .Mult) Do:=QB.or (Bq.or Q3)
theorem HF {x:Str} {z:Str} {pos:Pos} (hg:Gl X x) (hm:∃ t,X.mg x=some (.str z t)) (hd:autoParam ((x == ("__debug__":Str))=false) L2.auto2._auto_1):PE X (.Name x pos) (tC (.str z)):=
 let ⟨t,e⟩:=hm;xR hg e ⟨t,rfl⟩ hd
theorem HH {x:Str} {z:Int} {pos:Pos} (hg:Gl X x) (hm:∃ t,X.mg x=some (.int z t)) (hd:autoParam ((x == ("__debug__":Str))=false) L2.auto2._auto_1):PE X (.Name x pos) (tC (.int z)):=
 let ⟨t,e⟩:=hm;xR hg e ⟨t,rfl⟩ hd
theorem Uz {x:Str} {T:String} {pos:Pos} (hg:Gl X x) (hm:X.mg x=none) (hv:bootBuiltins x=some (.type T)) (hn:autoParam (x≠"__name__") L2.auto2._auto_1) (hd:autoParam ((x == ("__debug__":Str))=false) L2.auto2._auto_1):PE X (.Name x pos) (tC (.ty T)):=
 KZ hg hm hv rfl hn hd
def LR (K:W.Frag):R2:=fun x y H Q=>(∃ i j,x= .str i/\y= .str j/\Q (.bl (!(Builtin.Str.occurrences j i 0 j.length 1).isEmpty)) H)\/rIn K false x y H Q
theorem Q8:OpR X (compareOp .In) (LR X.K):=Ez.or Fg
def Q9 (K:W.Frag):R2:=fun x y H Q=>rEq x y H Q\/Uy K false x y H Q
theorem Ra (hu:X.A.units < cLine):OpR X (compareOp .Eq) (Q9 X.K):=Ud.or (Fv hu)
def V5 (K:W.Frag):V->Option Int->Option Int->Hp->VK->Prop:=fun x lo hi H Q=>Uo K x lo hi H Q\/Ui K x lo hi H Q\/Ux x lo hi H Q
theorem Rb:SlR X (V5 X.K):=Lz.or (QR.or Q5)
def Ma (K:W.Frag) (tl:TE):TI:=fun U H R=>tl U H fun x H1=>(∃ a,x= .ref a/\(∃ xs,SqL K H1 a xs)/\R (Lb K a) H1)\/(∃ a,x= .ref a/\(∃ xs,SqT K H1 a xs)/\R (TF K a) H1)\/(∃ z,x= .str z/\R (LQ z) H1)
theorem Rc {tg l:Expr} {tl:TE} (hl:PE X l tl):PI X tg l (Ma X.K tl):=by
 intro pins s U H R I h
 refine dW (hl pins s U H _ I h) fun v s1 qq0=>?_
 obtain ⟨x,H1,I1,r1,q1⟩:=qq0
 rcases q1 with ⟨a,rfl,⟨xs,hq⟩,q⟩ | ⟨a,rfl,⟨xs,hq⟩,q⟩ | ⟨z,rfl,q⟩
 ·cases r1
  obtain ⟨its,rv,p,hz⟩:=I1.list hq
  refine wpAny_pyIter_list p.isList ?_
  refine ⟨s1.heap.objs.size,[s1.heap.objs.size],_,_,H1,rfl,I1.kept (t':=s1.toks) fun b o e=>Wr _ e,Ew a _,⟨_,Ww _ rfl,rfl,rfl⟩,fun b hb=>?_,q⟩
  have e:b=s1.heap.objs.size:=by simpa using hb
  subst e
  exact I1.fpOk (Wq _) (I1.hok.fresh (Wq _))
 ·cases r1
  obtain ⟨its,rv,p,hz⟩:=I1.tuple hq
  refine wpAny_pyIter_tuple (show s1.heap.IsTuple a its.toArray from p) ?_
  refine ⟨s1.heap.objs.size,[s1.heap.objs.size],_,_,H1,rfl,I1.kept (t':=s1.toks) fun b o e=>Wr _ e,Az a _,⟨_,Ww _ rfl,rfl,rfl⟩,fun b hb=>?_,q⟩
  have e:b=s1.heap.objs.size:=by simpa using hb
  subst e
  exact I1.fpOk (Wq _) (I1.hok.fresh (Wq _))
 ·obtain ⟨t,rfl⟩:=r1
  have fin:∀ (ty:String) (T:Turn X.prog X.w X.K tg (LQ z) [s1.heap.objs.size] s1.heap.objs.size (fun i h=>h.IsStrIter s1.heap.objs.size ty z t i)) (o:Obj),(s1.heap.push o).IsStrIter s1.heap.objs.size ty z t 0->PIE X pins U tg R (.ref s1.heap.objs.size) {s1 with heap:=s1.heap.push o}:=
   fun ty T o st=>⟨s1.heap.objs.size,[s1.heap.objs.size],_,_,H1,rfl,I1.kept (t':=s1.toks) fun b o e=>Wr _ e,T,st,fun b hb=>by
    have e:b=s1.heap.objs.size:=by simpa using hb
    subst e
    exact I1.fpOk (Wq _) (I1.hok.fresh (Wq _)),q⟩
  cases ha:z.cps.all (· < 128)
  ·exact wpAny_pyIter_wide ha (fin "str_iterator" (zu _ z t _ (by decide) (fun A' hA=>Walks.strWide hA _ z t) fun A i s Q E st h=>wpAny_pyIter_striter_wide st h) _ ⟨_,Ww _ rfl,rfl,rfl⟩)
  ·exact wpAny_pyIter_ascii ha (fin "str_ascii_iterator" (zu _ z t _ (by decide) (fun A' hA=>Walks.strAscii hA _ z t) fun A i s Q E st h=>wpAny_pyIter_striter_ascii st h) _ ⟨_,Ww _ rfl,rfl,rfl⟩)
end
section
variable {X:Cx} {K:W.Frag}
theorem Mf (hK:X.K=K):IxR X (QV K):=hK ▸ QW
theorem HJ (hK:X.K=K):OpR X (compareOp .In) (LR K):=hK ▸ Q8
theorem Rf (hK:X.K=K) (hu:X.A.units < cLine):OpR X (compareOp .Eq) (Q9 K):=hK ▸ Ra hu
theorem Mg {tg l:Expr} {tl:TE} (hK:X.K=K) (hl:PE X l tl):PI X tg l (Ma K tl):=hK ▸ Rc hl
def Fw (K:W.Frag):List V->Hp->VK->Prop:=fun xs H Q=>∃ x n,xs=[x]/\Uh K x H n/\Q (.int n) H
theorem aG (hK:X.K=K):CallR X (.builtin "len") (Fw K):=hK ▸ Hc
theorem bU (hK:X.K=K):CallR X (.builtin "isinstance") (Q6 K):=hK ▸ HB
def HN (K:W.Frag):List V->Hp->VK->Prop:=fun xs H Q=>(∃ p ys,xs=[.ref p]/\(SqL K H p ys\/SqT K H p ys)/\∀ l,H l=none->Q (.ref l) (upd H l (.lst ys)))\/(∃ x,xs=[.str x]/\x.cps.size<=sizeLine/\∀ p,H p=none->Q (.ref p) (upd H p (.lst (sgn x))))
theorem vd (hK:X.K=K) (hc:X.calm=true):CallR X (.type "list") (HN K):=hK ▸ xZ.or (zx hc)
variable {o e:Expr} {es:List Expr} {to:TE} {t:TA} {name:Str} {apos cpos:Pos} {T id:String} {r:V->List V->Hp->VK->Prop}
theorem Mh (hK:X.K=K) (pa:PlainAttrs T) (slot:Slot T name id) (hty:typeOf (.builtin id)=pure (.type "method_descriptor")) (hm:KR X id r) (ho:PE X o to)
  (hbase:autoParam (attributeBase o name X.env (eval o X.env)=eval o X.env) L2.auto4._auto_1) (hline:autoParam ((apos.endLine == cpos.line)=true) L2.auto4._auto_1):PE X (.Call (.Attribute o name apos) [] [] cpos) (Hn K T r to):=by
 subst hK;exact QX pa slot hty hm ho hbase hline
theorem Rg (hK:X.K=K) (pa:PlainAttrs T) (slot:Slot T name id) (hty:typeOf (.builtin id)=pure (.type "method_descriptor")) (hm:KR X id r) (ho:PE X o to) (ha:PA X (e :: es) t)
  (hbase:autoParam (attributeBase o name X.env (eval o X.env)=eval o X.env) L2.auto4._auto_1)
  (hfew:((backTo cpos (starEach (e :: es) X.env)).all (fun x=>!x.1) && (backToKw cpos (keywordEach [] X.env)).all (fun x=>x.1.isSome)
   && decide ((e :: es).length+([]:List Keyword).length+(if ([]:List Keyword).isEmpty then 0 else 1) < 30))=true:=by rfl)
  (hline:autoParam ((apos.endLine == cpos.line)=true) L2.auto4._auto_1) (hs:autoParam (starEach (e :: es) X.env=(false,eval e X.env) :: starEach es X.env) L2.auto4._auto_1) (hplain:autoParam ((backTo cpos (starEach es X.env)).any (·.1)=false) L2.auto4._auto_1):
  PE X (.Call (.Attribute o name apos) (e :: es) [] cpos) (Uq K T r to t):=by
 subst hK;exact Ur pa slot hty hm ho ha hbase hfew hline hs hplain
theorem Mi {ts:List Expr} {k:Nat} {gs:Eu} {n:Nat} {pos:Pos} (hK:X.K=K) (hc:X.calm=true) (h:Tz X ts gs)
  (hn:autoParam ((assignEach ts X.env).length=n) L2.auto4._auto_1) (hst:autoParam ((assignEach ts X.env).findIdx? (·.1)=none) L2.auto4._auto_1):PG X (.Tuple ts k pos) (La K n gs):=by
 subst hK;exact Qp hc h hn hst
end
section
variable {X:Cx} {sc scope:Scope} {N':List Str} {C:Addr} {s₀:Shared} {H₀:Hp} {ex:List Addr} {x:Str} {pos:Pos}
theorem pvL (i:Nat) (h:sc.names.lookup x=some .local) (hN:autoParam (X.N[i]?=some x) L2.auto4._auto_1) (hsc:autoParam (X.env.scope=sc) L2.auto4._auto_1) (hd:autoParam ((x == ("__debug__":Str))=false) L2.auto6._auto_1) (hcd:autoParam ((x == ("__classdict__":Str))=false) L2.auto6._auto_1):
  PE X (.Name x pos) (p8 i):=xQ hN (.inl (by rw [hsc];exact h)) hd hcd
theorem pvC (i:Nat) (h:sc.names.lookup x=some .cell) (hN:autoParam (X.N[i]?=some x) L2.auto4._auto_1) (hsc:autoParam (X.env.scope=sc) L2.auto4._auto_1) (hd:autoParam ((x == ("__debug__":Str))=false) L2.auto6._auto_1) (hcd:autoParam ((x == ("__classdict__":Str))=false) L2.auto6._auto_1):
  PE X (.Name x pos) (p8 i):=xQ hN (.inr (.inl (by rw [hsc];exact h))) hd hcd
theorem pvBL (i:Nat) (h:scope.names.lookup x=some .local) (hN:autoParam (N'[i]?=some x) L2.auto4._auto_1) (hd:autoParam ((x == ("__debug__":Str))=false) L2.auto6._auto_1) (hcd:autoParam ((x == ("__classdict__":Str))=false) L2.auto6._auto_1):
  PE (pO X N' scope C s₀ H₀ ex) (.Name x pos) (p8 i):=xQ hN (.inl (lookup_relabel_local h)) hd hcd
theorem pvBF (i:Nat) (h:scope.names.lookup x=some .free) (hN:autoParam (N'[i]?=some x) L2.auto4._auto_1) (hd:autoParam ((x == ("__debug__":Str))=false) L2.auto6._auto_1) (hcd:autoParam ((x == ("__classdict__":Str))=false) L2.auto6._auto_1):
  PE (pO X N' scope C s₀ H₀ ex) (.Name x pos) (p8 i):=xQ hN (by
   rcases qY (env:=X.env) h with z | z
   ·exact .inr (.inl z)
   ·exact .inr (.inr z)) hd hcd
theorem jK {env:Env}:∀ {names:List (Str×NameKind)} {x:Str},names.lookup x=some .globalImplicit->
  (names.map fun (n,k)=>if (k == NameKind.free && env.scope.kind == .function && env.kindOf n == some .cell) then (n,NameKind.cell) else (n,k)).lookup x=some .globalImplicit
 | [],_,h=>by simp at h
 | (n,k) :: r,x,h=>by
  have ih:=@jK env r x
  show List.lookup x ((if (k == NameKind.free && env.scope.kind == .function && env.kindOf n == some .cell)=true then (n,NameKind.cell) else (n,k)) :: _)=_
  cases hx:x == n with
  | true=>
   simp only [Xj,hx] at h
   cases h
   simp [Xj,hx]
  | false=>
   simp only [Xj,hx] at h
   by_cases hc:(k == NameKind.free && env.scope.kind == .function && env.kindOf n == some .cell)=true
   ·rw [if_pos hc];simp only [Xj,hx];exact ih h
   ·rw [if_neg hc];simp only [Xj,hx];exact ih h
theorem Fx (h:scope.names.lookup x=some .globalImplicit):Gl (pO X N' scope C s₀ H₀ ex) x:=jK h
theorem pgB (i:Nat) (h:scope.names.lookup x=some .local) (hN:N'.Nodup) (hi:autoParam (N'[i]?=some x) L2.auto4._auto_1):PG (pO X N' scope C s₀ H₀ ex) (.Name x pos) (pU i):=
 CV hN hi (.inl (lookup_relabel_local h)) (.inr (lookup_relabel_local h))
end
def lg:Expr->Bool
 | .ListComp ..=>false | .SetComp ..=>false | .DictComp ..=>false | _=>true
theorem zA {value:Expr} {target:Option Expr} {line:Nat} {env:Env} (h:lg value=true):swapsWith value target line env=pure false:=by
 cases value <;> first | rfl | cases h
def q9:Expr->Bool
 | .Slice ..=>false | _=>true
theorem pix {b:Expr} (h:q9 b=true):Dh b:=by
 intro o i
 cases b <;> first | rfl | cases h
def sr:Expr->Bool
 | .Set ..=>false | _=>true
theorem HQ {e:Expr} {env:Env} (h:sr e=true):∀ x,foldedSetIterable e env x=pure x:=by
 intro x
 cases e <;> first | rfl | cases h
def notStar:Expr->Bool
 | .Starred ..=>false | _=>true
theorem dm {e:Expr} {es:List Expr} {env:Env} (h:notStar e=true):starEach (e :: es) env=(false,eval e env) :: starEach es env:=by
 cases e <;> first | rfl | cases h
theorem lF {env:Env} {pos:Pos}:∀ {es:List Expr},es.all notStar=true->(backTo pos (starEach es env)).any (·.1)=false
 | [],_=>rfl
 | e :: es,h=>by
  simp only [Xv,WX] at h
  rw [dm h.1]
  show (false || (backTo pos (starEach es env)).any (·.1))=false
  rw [lF h.2];rfl
theorem HR {env:Env} {pos:Pos}:∀ {es:List Expr},es.all notStar=true->(backTo pos (starEach es env)).all (fun x=>!x.1)=true
 | [],_=>rfl
 | e :: es,h=>by
  simp only [Xv,WX] at h
  rw [dm h.1]
  show (true && (backTo pos (starEach es env)).all (fun x=>!x.1))=true
  rw [HR h.2];rfl
section
variable {X:Cx} {K:W.Frag} {e:Expr} {es:List Expr} {te:TE} {t:TA} {pos p:Pos}
theorem paC (ha:PE X e te) (hr:PA X es t) (h:autoParam (notStar e=true) L2.auto4._auto_1):PA X (e :: es) (De te t):=Lp ha hr (dm h)
theorem UG {k:Nat} {x:Str} {ps:List Str} {sp:Sp} (F:jN X.prog X.w X.K X.mg X.base k x ps sp) (hr:Room k X.A) (hg:Gl X x) (ha:PA X (e :: es) t) (hdb:(x == ("__debug__":Str))=false) (h:autoParam ((e :: es).all notStar=true) L2.auto4._auto_1):
  PE X (.Call (.Name x p) (e :: es) [] pos) (wQ sp [] E0 t):=by
 simp only [Xv,WX] at h
 exact HD F hr hg ha hdb (dm h.1) (lF h.2)
theorem UJ {x:Str} {id:String} {r:List V->Hp->VK->Prop} (hc:CallR X (.builtin id) r) (hg:Gl X x) (hm:X.mg x=none) (hv:bootBuiltins x=some (.builtin id)) (ha:PA X (e :: es) t) (hn:x≠"__name__") (hdb:(x == ("__debug__":Str))=false) (h:autoParam ((e :: es).all notStar=true) L2.auto4._auto_1):
  PE X (.Call (.Name x p) (e :: es) [] pos) (QQ r t):=by
 simp only [Xv,WX] at h
 exact Hh hc hg hm hv ha hn hdb (dm h.1) (lF h.2)
theorem Rh {x:Str} {T:String} {r:List V->Hp->VK->Prop} (hc:CallR X (.type T) r) (hg:Gl X x) (hm:X.mg x=none) (hv:bootBuiltins x=some (.type T)) (ha:PA X (e :: es) t) (hn:x≠"__name__") (hdb:(x == ("__debug__":Str))=false) (h:autoParam ((e :: es).all notStar=true) L2.auto4._auto_1):
  PE X (.Call (.Name x p) (e :: es) [] pos) (QQ r t):=by
 simp only [Xv,WX] at h
 exact Ff hc hg hm hv ha hn hdb (dm h.1) (lF h.2)
def mO:Expr->Bool
 | .Call ..=>false | _=>true
theorem O5 {o:Expr} {f:Str} {env:Env} {w:Sem Value} (h:mO o=true):attributeBase o f env w=w:=by
 cases o <;> first | rfl | cases h
theorem UL {o:Expr} {to:TE} {name:Str} {apos cpos:Pos} {T id:String} {r:V->List V->Hp->VK->Prop} (hK:X.K=K) (pa:PlainAttrs T) (slot:Slot T name id) (hty:typeOf (.builtin id)=pure (.type "method_descriptor")) (hm:KR X id r) (ho:PE X o to) (ha:PA X (e :: es) t)
  (hbase:autoParam (mO o=true) L2.auto4._auto_1) (hl:autoParam (es.length < 20) L2.auto2._auto_1) (hline:autoParam ((apos.endLine == cpos.line)=true) L2.auto4._auto_1) (h:autoParam ((e :: es).all notStar=true) L2.auto4._auto_1):
  PE X (.Call (.Attribute o name apos) (e :: es) [] cpos) (Uq K T r to t):=by
 have hA:=HR (env:=X.env) (pos:=cpos) h
 simp only [Xv,WX] at h
 refine Rg hK pa slot hty hm ho ha (O5 hbase) ?_ hline (dm h.1) (lF h.2)
 rw [hA]
 have:(e :: es).length+([]:List Keyword).length+(if ([]:List Keyword).isEmpty then 0 else 1) < 30:=by simp;omega
 rw [W0 this];rfl
theorem Ri {o:Expr} {to:TE} {name:Str} {apos cpos:Pos} {T id:String} {r:V->List V->Hp->VK->Prop} (hK:X.K=K) (pa:PlainAttrs T) (slot:Slot T name id) (hty:typeOf (.builtin id)=pure (.type "method_descriptor")) (hm:KR X id r) (ho:PE X o to)
  (hbase:autoParam (mO o=true) L2.auto4._auto_1) (hline:autoParam ((apos.endLine == cpos.line)=true) L2.auto4._auto_1):PE X (.Call (.Attribute o name apos) [] [] cpos) (Hn K T r to):=
 Mh hK pa slot hty hm ho (O5 hbase) hline
theorem UT {i:Nat} {x:Str} {pos':Pos} (hN:X.N.Nodup) (hi:X.N[i]?=some x) (hx:Loc X.env.scope x) (he:PE X e te) (hf:X.fn x=true) (h:autoParam (lg e=true) L2.auto4._auto_1):PS X (.Assign [.Name x pos'] e pos) (zb te (pU i)):=
 GQ hN hi hx he (zA h) (.inl hf)
theorem Rj (he:PE X e te) (h:autoParam (lg e=true) L2.auto4._auto_1):PS X (.Expr e pos) (CQ te):=K7 he (zA h)
theorem ixE {a b:Expr} {ta tb:TE} (hK:X.K=K) (ha:PE X a ta) (hb:PE X b tb) (h:autoParam (q9 b=true) L2.auto4._auto_1):PE X (.Subscript a b pos) (G6 (QV K) ta tb):=Uj (Mf hK) ha hb (pix h)
theorem UV {tg iter:Expr} {body:List Stmt} {wi:TI} {g:TG} {tb:TS} (hp:PassesOwn (model X.prog X.w) X.A X.env X.xe) (hc:X.calm=true) (hi:PI X tg iter wi) (hg:PG X tg g) (hb:PSs X body tb) (h:autoParam (sr iter=true) L2.auto4._auto_1):PS X (.For tg iter body [] pos) (Ld wi g tb):=
 Qw hp hc hi hg hb (HQ h)
end
section
variable {X:Cx} {tg iter elt:Expr} {ifs:List Expr} {scope:Scope} {pos:Pos} {N':List Str} {sub:List (Option Nat)} {wi:TI} {g:TG} {tt:TT} {te:TE} {N:List Str} {sc:Scope}
theorem UW (S:ue N sc N' scope sub) (hc:X.calm=true) (hN:X.N=N) (hsc:X.env.scope=sc) (hi:PI X tg iter wi)
  (hg:∀ (C:Addr) (s₀:Shared) (H₀:Hp) (ex:List Addr),PG (pO X N' scope C s₀ H₀ ex) tg g)
  (ht:∀ (C:Addr) (s₀:Shared) (H₀:Hp) (ex:List Addr),yc (pO X N' scope C s₀ H₀ ex) ifs tt)
  (he:∀ (C:Addr) (s₀:Shared) (H₀:Hp) (ex:List Addr),PE (pO X N' scope C s₀ H₀ ex) elt te) (h:autoParam (sr iter=true) L2.auto4._auto_1):
  PE X (.ListComp elt [⟨tg,iter,ifs,0⟩] scope pos) (u0 sub wi g tt te):=Dk S hc hN hsc hi hg ht he (HQ h)
end
theorem bc:bootBuiltins "len"=some (.builtin "len"):=by trivial
theorem vf:bootBuiltins "max"=some (.builtin "max"):=by trivial
theorem aM:bootBuiltins "isinstance"=some (.builtin "isinstance"):=by trivial
theorem Bs:bootBuiltins "all"=some (.builtin "all"):=by trivial
theorem Rk:bootBuiltins "any"=some (.builtin "any"):=by trivial
theorem jP:bootBuiltins "list"=some (.type "list"):=by trivial
theorem zB:bootBuiltins "tuple"=some (.type "tuple"):=by trivial
theorem yf:bootBuiltins "int"=some (.type "int"):=by trivial
theorem HS:bootBuiltins "str"=some (.type "str"):=by trivial
theorem rm:bootBuiltins "enumerate"=some (.type "enumerate"):=by trivial
theorem Rm:bootBuiltins "zip"=some (.type "zip"):=by trivial
theorem n8:bootBuiltins "reversed"=some (.type "reversed"):=by trivial
theorem uH:bootBuiltins "bool"=some (.type "bool"):=by trivial
theorem iJ {c A B:Prop} [Decidable c] (h1:c->A) (h2:¬ c->B):if decide c=true then A else B:=by
 by_cases h:c
 ·rw [if_pos (W0 h)];exact h1 h
 ·rw [if_neg (by rw [W2 h];exact WF)];exact h2 h
theorem uI {α:Type} {xs:List α} {k:Int} {v:α} (h0:0<=k) (h:xs[k.toNat]?=some v):rR xs k=some v:=by
 have e:((k.toNat:Nat):Int)=k:=by omega
 rw [← e]
 exact dO h
section
variable {U:St} {H:Hp} {D:Ends} {ta tb te tc:TE} {tt tu:TT} {Q:VK} {t u:TS} {g:TG}
theorem j4 (h:t {D with nx:=u D} U H):K4 t u D U H:=h
theorem b8 (h:D.nx U H):GC D U H:=h
theorem eO (h:te U H fun x H1=>g x U H1 D.nx):zb te g D U H:=h
theorem cj {i:Nat} {v:V} {R:St->Hp->Prop} (h:R (U.set i (some v)) H):pU i v U H R:=h
theorem eQ {to ti:TE} {ts:Ax} {v:V} {R:St->Hp->Prop} (h:to U H fun o H1=>ti U H1 fun i H2=>ts o i v H2 fun H3=>R U H3):Qq to ti ts v U H R:=h
theorem eU (h:te U H D.rt):Ql te D U H:=h
theorem cu (h:te U H fun _ H1=>D.nx U H1):CQ te D U H:=h
theorem jl (h:tt U H fun b H1=>if b=true then t D U H1 else u D U H1):Qn tt t u D U H:=h
theorem cz {R:Bool->Hp->Prop} (h:te U H fun x H1=>∃ k,x= .bl k/\R k H1):wN te U H R:=h
theorem jm {R:Bool->Hp->Prop} (h:te U H fun x H1=>∃ k,x= .bl k/\R k H1):tB te U H R:=h
theorem eV {R:Bool->Hp->Prop} (h:tt U H fun c H1=>R (!c) H1):Qe tt U H R:=h
theorem eY {R:Bool->Hp->Prop} (h:tt U H fun c H1=>if c=true then tu U H1 R else R false H1):K1 tt tu U H R:=h
theorem jn {R:Bool->Hp->Prop} (h:tt U H fun c H1=>if c=true then R true H1 else tu U H1 R):tOr tt tu U H R:=h
theorem cA (h:ta U H fun x H1=>∃ c,x= .bl c/\if c=true then tb U H1 Q else Q (.bl false) H1):Gx ta tb U H Q:=h
theorem cB (h:ta U H fun x H1=>∃ c,x= .bl c/\Q (.bl (!c)) H1):Gy ta U H Q:=h
theorem eZ (h:tt U H fun c H1=>if c=true then ta U H1 Q else tb U H1 Q):tIf tt ta tb U H Q:=h
theorem fc {i:Nat} {v:V} (e:U[i]?=some (some v)) (h:Q v H):p8 i U H Q:=⟨v,e,h⟩
theorem uf {v:V} (h:Q v H):tC v U H Q:=h
theorem jo {r:R2} (h:ta U H fun x H1=>tb U H1 fun y H2=>r x y H2 Q):G6 r ta tb U H Q:=h
theorem jq {r:V->Hp->VK->Prop} (h:ta U H fun x H1=>r x H1 Q):tUn r ta U H Q:=h
theorem jr {r:List V->Hp->VK->Prop} {a:TA} (h:a U H fun vs H1=>r vs H1 Q):QQ r a U H Q:=h
theorem cF {a:TA} {R:List V->Hp->Prop} (h:te U H fun x H1=>a U H1 fun xs H2=>R (x :: xs) H2):De te a U H R:=h
theorem fj {R:List V->Hp->Prop} (h:R [] H):Ln U H R:=h
theorem cG {sp:Sp} {E:XK} {a:TA} (h:a U H fun vs H1=>sp vs H1 Q E):wQ sp [] E a U H Q:=by
 unfold wQ
 simpa only [XQ] using h
theorem nJ {a:TA} (h:a U H fun xs H1=>xs.length<=sizeLine/\∀ p,H1 p=none->Q (.ref p) (upd H1 p (.tup xs))):Lq a U H Q:=h
theorem nM {a:TA} (h:a U H fun xs H1=>xs.length<=sizeLine/\∀ p,H1 p=none->Q (.ref p) (upd H1 p (.lst xs))):Lr a U H Q:=h
theorem jt {K:W.Frag} {T:String} {r:V->List V->Hp->VK->Prop} {a:TA} (h:te U H fun x H1=>Up K T x H1/\a U H1 fun xs H2=>r x xs H2 Q):Uq K T r te a U H Q:=h
theorem fu {K:W.Frag} {T:String} {r:V->List V->Hp->VK->Prop} (h:te U H fun x H1=>Up K T x H1/\r x [] H1 Q):Hn K T r te U H Q:=h
theorem ju {r:V->Option Int->Option Int->Hp->VK->Prop} {tl th:TO} (h:te U H fun x H1=>tl U H1 fun l H2=>th U H2 fun u H3=>r x l u H3 Q):tSl r te tl th U H Q:=h
theorem fB {R:Option Int->Hp->Prop} (h:R none H):xT U H R:=h
theorem cH {R:Option Int->Hp->Prop} (h:te U H fun x H1=>∃ i,x= .int i/\R (some i) H1):Hj te U H R:=h
theorem cI {R:Bool->Hp->Prop} (h:R true H):Ht U H R:=h
theorem cJ {a:TA} {R:It->Hp->Prop} (h:a U H fun vs H1=>∃ j:Int,vs=[.int j]/\-(2 ^ 62)<=j/\j < 2 ^ 62/\R (KQ 0 j.toNat) H1):GZ a U H R:=h
theorem cL {K:W.Frag} {R:It->Hp->Prop} (h:te U H fun x H1=>(∃ a,x= .ref a/\(∃ xs,SqL K H1 a xs)/\R (Lb K a) H1)\/(∃ a,x= .ref a/\(∃ xs,SqT K H1 a xs)/\R (TF K a) H1)\/(∃ z,x= .str z/\R (LQ z) H1)):Ma K te U H R:=h
theorem cM {sub:List (Option Nat)} {wi:TI} (h:wi U H fun J H1=>pX sub g tt te U Q J H1):u0 sub wi g tt te U H Q:=h
theorem fG {wi:TI} {tbd:TS} (h:wi U H fun J H1=>∃ W:Nat->Nat->St->Hp->Prop,(∃ m,W 0 m U H1)/\∀ i m U H,W i m U H->
 (J.stop i H/\D.nx U H)\/(J.go i H/\∃ N:St->Hp->Prop,(∀ U' H',N U' H'->∃ m',m' < m/\W (i+1) m' U' H')/\∀ x H',J.yld i H x H'->g x U H' fun σ2 H2=>tbd {D with nx:=N,ct:=N,bk:=D.nx} σ2 H2)):Ld wi g tbd D U H:=h
variable {i j:Int} {x y:Str} {f:Int->Int->V} {C:Int->Int->Prop} {K:W.Frag}
theorem jw (h:Q (f i j) H):G7 f (.int i) (.int j) H Q:=⟨_,_,rfl,rfl,h⟩
theorem ug (c:C i j) (h:Q (f i j) H):rI C f (.int i) (.int j) H Q:=⟨_,_,rfl,rfl,c,h⟩
theorem cN (h:Q (.int (i+j)) H):Dn (.int i) (.int j) H Q:=.inl ⟨_,_,rfl,rfl,h⟩
theorem Bt (c:x.length+y.length<=sizeLine) (h:Q (.str (x ++ y)) H):Dn (.str x) (.str y) H Q:=.inr (.inl ⟨_,_,rfl,rfl,c,h⟩)
theorem Rn {a b:Addr} {xs ys:List V} (ha:H a=some (.lst xs)) (hb:H b=some (.lst ys)) (c:xs.length+ys.length<=sizeLine) (h:∀ p,H p=none->Q (.ref p) (upd H p (.lst (xs ++ ys)))):Dn (.ref a) (.ref b) H Q:=
 .inr (.inr ⟨a,b,xs,ys,rfl,rfl,ha,hb,c,h⟩)
theorem cO (c:CMul i j) (h:Q (.int (i*j)) H):Do (.int i) (.int j) H Q:=.inl ⟨_,_,rfl,rfl,c,h⟩
theorem Ro (c:MulOk x j) (h:Q (.str (Txt.mul x j)) H):Do (.str x) (.int j) H Q:=.inr (.inl ⟨_,_,rfl,rfl,c,h⟩)
theorem aO {p:Addr} {xs:List V} {v:V} (s:SqL K H p xs) (e:rR xs i=some v) (h:Q v H):QV K (.ref p) (.int i) H Q:=.inl ⟨p,xs,i,v,rfl,rfl,s,e,h⟩
theorem dM {p:Addr} {xs:List V} {v:V} (s:SqT K H p xs) (e:rR xs i=some v) (h:Q v H):QV K (.ref p) (.int i) H Q:=.inr (.inl ⟨p,xs,i,v,rfl,rfl,s,e,h⟩)
theorem uh {c:Nat} (s:x.length<=sizeLine) (e:rR x.cps.toList i=some c) (h:Q (.str ⟨#[c]⟩) H):QV K (.str x) (.int i) H Q:=.inr (.inr ⟨x,i,c,rfl,rfl,s,e,h⟩)
theorem bN {p:Addr} {xs:List V} {n:Nat} {v:V} {R:Hp->Prop} (hp:H p=some (.lst xs)) (e:Df xs.length i=some n) (h:R (upd H p (.lst (xs.set n v)))):wX (.ref p) (.int i) v H R:=⟨p,xs,i,n,rfl,rfl,hp,e,h⟩
theorem d9 (h:Q (.bl (!(Builtin.Str.occurrences y x 0 y.length 1).isEmpty)) H):LR K (.str x) (.str y) H Q:=.inl ⟨_,_,rfl,rfl,h⟩
theorem jx {b:Bool} {R:Bool->Prop} (h:R b):∃ k,V.bl b= .bl k/\R k:=⟨b,rfl,h⟩
theorem cQ {n:Int} {R:Int->Prop} (h:R n):∃ k,V.int n= .int k/\R k:=⟨n,rfl,h⟩
end
theorem Same.upd {H H':Hp} {p:Addr} {o:HO} (s:Same H H') (hn:H' p=none):Same H (upd H' p o):=fun b u e=>by
 have q:=s b u e
 rw [aB (fun z=>by rw [z,hn] at q;cases q)]
 exact q
def Chg (p:Addr) (H H':Hp):Prop:=∀ b o,b≠p->H b=some o->H' b=some o
theorem Chg.refl (p:Addr) (H:Hp):Chg p H H:=fun _ _ _ e=>e
theorem Chg.trans {p:Addr} {H H1 H2:Hp} (a:Chg p H H1) (b:Chg p H1 H2):Chg p H H2:=fun c o n e=>b c o n (a c o n e)
theorem aX {H:Hp} {q b:Addr} {o u:HO} (hq:H q=none) (hb:H b=some u):upd H q o b=some u:=by
 rw [aB (fun z=>by rw [z,hq] at hb;cases hb)];exact hb
theorem Bu (sep:Str) (ys:List Str):Txt.join sep ys=Str.join sep ys:=by
 show Builtin.Str.glued sep ys=Str.join sep ys
 exact PySem.StrLaws.glued_eq_join sep ys
theorem zE (ys:List Str):(Txt.join (Str.ofString "") ys).cps.toList=(ys.map fun y=>y.cps.toList).flatten:=by
 rw [Bu]
 have e0:(Str.ofString "").cps= #[]:=by trivial
 have key:∀ ys:List Str,(Str.join (Str.ofString "") ys).cps.toList=(ys.map fun y=>y.cps.toList).flatten:=by
  intro ys
  induction ys with
  | nil=>rfl
  | cons y r ih=>
   cases r with
   | nil=>simp [Str.join]
   | cons z r=>
    show ((y ++ Str.ofString "") ++ Str.join (Str.ofString "") (z :: r)).cps.toList=_
    rw [Str.cps_append,Str.cps_append,e0]
    simp only [Array.append_empty,Array.toList_append,ih,Xh,Ye]
 exact key ys
theorem Dp (x:Str):x.length=x.cps.toList.length:=by simp [Str.length]
theorem HW {ys:List Str} (h:∀ y∈ys,y.length=1):(ys.map (·.length)).sum=ys.length:=by
 induction ys with
 | nil=>rfl
 | cons y r ih=>
  simp only [Xh,List.sum_cons,Xy,h y (by simp),ih fun z hz=>h z (by simp [hz])]
  omega
theorem len1 (c:Nat):(⟨#[c]⟩:Str).length=1:=by simp [Str.length]
section
variable {H:Hp} {Q:VK} {K:W.Frag}
theorem gU {p:Addr} {xs:List V} (s:SqL K H p xs) (h:Q (.int xs.length) H):Fw K [V.ref p] H Q:=⟨_,_,rfl,.inl ⟨_,s,rfl⟩,h⟩
theorem vg {p:Addr} {xs:List V} (s:SqT K H p xs) (h:Q (.int xs.length) H):Fw K [V.ref p] H Q:=⟨_,_,rfl,.inr ⟨_,s,rfl⟩,h⟩
theorem cR {z:Str} (s:z.length<=sizeLine) (h:Q (.int z.length) H):Fw K [V.str z] H Q:=⟨_,_,rfl,⟨s,rfl⟩,h⟩
theorem jy {i j:Int} {R:Int->Int->Prop} (h:R i j):∃ a b,[V.int i,V.int j]=[.int a,.int b]/\R a b:=⟨_,_,rfl,h⟩
theorem ie {x:V} {T:String} {t:Value} {b:Bool} (ty:TyOf K H x t) (e:PySem.W.kitOne K t (.type T)=some b) (h:Q (.bl b) H):Q6 K [x,.ty T] H Q:=⟨x,T,t,b,rfl,ty,e,h⟩
theorem HX {sep:Str} {p:Addr} {ys:List Str} (hp:H p=some (.lst (ys.map V.str))) (hz:(ys.map (·.length)).sum+ys.length*sep.length<=16777216) (h:Q (.str (Txt.join sep ys)) H):rJoin (.str sep) [.ref p] H Q:=⟨sep,p,ys,rfl,rfl,hp,hz,h⟩
theorem U0 {x:Str} {lo hi:Option Int} (hz:x.length<=sizeLine) (h:Q (.str (Txt.slice x lo hi)) H):V5 K (.str x) lo hi H Q:=.inr (.inr ⟨x,rfl,hz,h⟩)
theorem U5 {p:Addr} {xs:List V} {lo hi:Option Int} (s:SqL K H p xs) (h:∀ q,H q=none->Q (.ref q) (upd H q (.lst (xU xs lo hi)))):V5 K (.ref p) lo hi H Q:=.inl ⟨p,xs,rfl,s,h⟩
end
section
variable {U:St} {H:Hp} {Q:VK}
theorem Mj {K:W.Frag} {a:Addr} {xs:List V} (s:SqL K H a xs) (h:∀ p,H p=none->Q (.ref p) (upd H p (.lst xs))):HN K [.ref a] H Q:=.inl ⟨a,xs,rfl,.inl s,h⟩
end
theorem TyOf.mono {K:W.Frag} {H H':Hp} {v:V} {T:String} (h:TyOf K H v (.type T)) (s:∀ b o,H b=some o->v= .ref b->H' b=some o):TyOf K H' v (.type T):=by
 generalize e:(Value.type T)=t at h
 cases h with
 | non=>exact .non
 | bl x=>exact .bl x
 | int i=>exact .int i
 | str x=>exact .str x
 | flt x=>exact .flt x
 | lst z=>exact .lst (s _ _ z rfl)
 | frz z=>exact .frz (s _ _ z rfl)
 | tup z=>exact .tup (s _ _ z rfl)
 | dK z=>exact .dK (s _ _ z rfl)
 | dT z=>exact .dT (s _ _ z rfl)
 | ins=>cases e
theorem rn {sub:List (Option Nat)} {g:TG} {tt:TT} {te:TE} {U:St} {Q:VK} {H:Hp} {lo:Int} {n:Nat} (Pv:Nat->List V->Hp->Prop) (hn:n<=sizeLine) (h0:Pv 0 [] H) (hl:∀ i ys H,Pv i ys H->ys.length<=i)
  (hs:∀ i ys H,i < n->Pv i ys H->g (.int (lo+i)) (dD sub U) H fun σ2 H2=>KeepSt (dD sub U) σ2/\tt σ2 H2 fun b H3=>if b=true then te σ2 H3 fun y H4=>Pv (i+1) (ys ++ [y]) H4 else Pv (i+1) ys H3)
  (hd:∀ ys H,Pv n ys H->∀ D,H D=none->Q (.ref D) (upd H D (.lst ys))):pX sub g tt te U Q (KQ lo n) H:=
 ye (n:=n) Pv hn h0 hl (fun i ys H hi _=>hi) (fun ys H _=>Wq _) (fun i ys H x H' hi p y=>by
  obtain ⟨e1,e2⟩:=y
  subst e1 e2
  exact hs i ys _ hi p) hd
theorem zF {sub:List (Option Nat)} {g:TG} {tt:TT} {te:TE} {U:St} {Q:VK} {H:Hp} {z:Str} (Pv:Nat->List V->Hp->Prop) (hn:z.cps.size<=sizeLine) (h0:Pv 0 [] H) (hl:∀ i ys H,Pv i ys H->ys.length<=i)
  (hs:∀ i ys H c,z.cps.toList[i]?=some c->Pv i ys H->g (.str ⟨#[c]⟩) (dD sub U) H fun σ2 H2=>KeepSt (dD sub U) σ2/\tt σ2 H2 fun b H3=>if b=true then te σ2 H3 fun y H4=>Pv (i+1) (ys ++ [y]) H4 else Pv (i+1) ys H3)
  (hd:∀ ys H,Pv z.cps.size ys H->∀ D,H D=none->Q (.ref D) (upd H D (.lst ys))):pX sub g tt te U Q (LQ z) H:=
 ye (n:=z.cps.size) Pv hn h0 hl (fun i ys H hi _=>hi) (fun ys H _=>rfl) (fun i ys H x H' hi p y=>by
  obtain ⟨e1,c,e2,e3⟩:=y
  subst e1 e3
  exact hs i ys _ c (by simpa using e2) p) hd
theorem Fy {sub:List (Option Nat)} {g:TG} {tt:TT} {te:TE} {U:St} {Q:VK} {H:Hp} {K:W.Frag} {a:Addr} {xs:List V} (Pv:Nat->List V->Hp->Prop) (hn:xs.length<=sizeLine) (h0:Pv 0 [] H) (hl:∀ i ys H,Pv i ys H->ys.length<=i)
  (hq:∀ i ys H,Pv i ys H->SqL K H a xs)
  (hs:∀ i ys H x,xs[i]?=some x->Pv i ys H->g x (dD sub U) H fun σ2 H2=>KeepSt (dD sub U) σ2/\tt σ2 H2 fun b H3=>if b=true then te σ2 H3 fun y H4=>Pv (i+1) (ys ++ [y]) H4 else Pv (i+1) ys H3)
  (hd:∀ ys H,Pv xs.length ys H->∀ D,H D=none->Q (.ref D) (upd H D (.lst ys))):pX sub g tt te U Q (Lb K a) H:=
 ye (n:=xs.length) Pv hn h0 hl (fun i ys H hi p=>⟨xs,xs[i],hq i ys H p,Wn hi⟩) (fun ys H p=>⟨xs,hq _ ys H p,Wq _⟩) (fun i ys H x H' hi p y=>by
  obtain ⟨e1,e2⟩:=y
  subst e1
  exact hs i ys _ x (e2 xs (hq i ys _ p)) p) hd
structure JE (X:Cx) (e:Expr) (t:TE):Prop where
 run:PE X e t
structure JT (X:Cx) (e:Expr) (t:TT):Prop where
 run:PT X e t
structure JW (X:Cx) (e:Expr) (t:TT):Prop where
 run:PW X e t
structure JA (X:Cx) (es:List Expr) (t:TA):Prop where
 run:PA X es t
structure JS (X:Cx) (s:Stmt) (t:TS):Prop where
 run:PS X s t
structure JB (X:Cx) (s:List Stmt) (t:TS):Prop where
 run:PSs X s t
structure JI (X:Cx) (tg iter:Expr) (t:TI):Prop where
 run:PI X tg iter t
structure JG (X:Cx) (tg:Expr) (t:TG):Prop where
 run:PG X tg t
structure V6 (X:Cx) (tg:List Expr) (t:Eu):Prop where
 run:Tz X tg t
structure JO (X:Cx) (e:Option Expr) (t:TO):Prop where
 run:PO X e t
structure Ml (X:Cx) (ifs:List Expr) (t:TT):Prop where
 run:yc X ifs t
section
variable {X:Cx} {K:W.Frag} {sc scope:Scope} {N':List Str} {C:Addr} {s₀:Shared} {H₀:Hp} {ex:List Addr} {x:Str} {pos p p2 pos' apos cpos tpos:Pos} {a b c e o:Expr} {es:List Expr} {ta tb tc te to ti:TE} {t:TA} {tA tB' tt:TT} {rest:List Expr}
theorem Rp (i:Nat) (h:sc.names.lookup x=some .local) (hN:autoParam (X.N[i]?=some x) L2.auto4._auto_1) (hsc:autoParam (X.env.scope=sc) L2.auto4._auto_1) (hd:autoParam ((x == ("__debug__":Str))=false) L2.auto6._auto_1) (hcd:autoParam ((x == ("__classdict__":Str))=false) L2.auto6._auto_1):JE X (.Name x pos) (p8 i):=⟨pvL i h hN hsc hd hcd⟩
theorem j_vC (i:Nat) (h:sc.names.lookup x=some .cell) (hN:autoParam (X.N[i]?=some x) L2.auto4._auto_1) (hsc:autoParam (X.env.scope=sc) L2.auto4._auto_1) (hd:autoParam ((x == ("__debug__":Str))=false) L2.auto6._auto_1) (hcd:autoParam ((x == ("__classdict__":Str))=false) L2.auto6._auto_1):JE X (.Name x pos) (p8 i):=⟨pvC i h hN hsc hd hcd⟩
theorem fZ (i:Nat) (h:scope.names.lookup x=some .local) (hN:autoParam (N'[i]?=some x) L2.auto4._auto_1) (hd:autoParam ((x == ("__debug__":Str))=false) L2.auto6._auto_1) (hcd:autoParam ((x == ("__classdict__":Str))=false) L2.auto6._auto_1):JE (pO X N' scope C s₀ H₀ ex) (.Name x pos) (p8 i):=⟨pvBL i h hN hd hcd⟩
theorem nO (i:Nat) (h:scope.names.lookup x=some .free) (hN:autoParam (N'[i]?=some x) L2.auto4._auto_1) (hd:autoParam ((x == ("__debug__":Str))=false) L2.auto6._auto_1) (hcd:autoParam ((x == ("__classdict__":Str))=false) L2.auto6._auto_1):JE (pO X N' scope C s₀ H₀ ex) (.Name x pos) (p8 i):=⟨pvBF i h hN hd hcd⟩
theorem aC {i j}:JE X (.Constant (.int i) j pos) (tC (.int i)):=⟨P0⟩
theorem iw {i j}:JE X (.Constant (.bool i) j pos) (tC (.bl i)):=⟨T7⟩
theorem U6 {j}:JE X (.Constant .none j pos) (tC .non):=⟨Qa⟩
theorem ig {i j}:JE X (.Constant (.str i) j pos) (tC (.str i)):=⟨Qc⟩
theorem su {z:Str} (hg:Gl X x) (hm:∃ t,X.mg x=some (.str z t)) (hd:(x == ("__debug__":Str))=false):JE X (.Name x pos) (tC (.str z)):=⟨HF hg hm hd⟩
theorem Bv {z:Int} (hg:Gl X x) (hm:∃ t,X.mg x=some (.int z t)) (hd:(x == ("__debug__":Str))=false):JE X (.Name x pos) (tC (.int z)):=⟨HH hg hm hd⟩
theorem nU {T:String} (hg:Gl X x) (hm:X.mg x=none) (hv:bootBuiltins x=some (.type T)) (hn:x≠"__name__") (hd:(x == ("__debug__":Str))=false):JE X (.Name x pos) (tC (.ty T)):=⟨Uz hg hm hv hn hd⟩
theorem aZ {op:Operator} {r:R2} (ho:OpR X (binaryOp op) r) (ha:JE X a ta) (hb:JE X b tb):JE X (.BinOp a op b pos) (G6 r ta tb):=⟨Ua ho ha.run hb.run⟩
theorem Bw {op:UnaryOp} {r:V->Hp->VK->Prop} (ho:V3 X (unaryOp op) r) (ha:JE X a ta):JE X (.UnaryOp op a pos) (tUn r ta):=⟨Ub ho ha.run⟩
theorem Dq {op:CmpOp} {r:R2} (ho:OpR X (compareOp op) r) (ha:JE X a ta) (hb:JE X b tb) (hm:behindInMarks op b=false):JE X (.Compare a [op] [b] pos) (G6 r ta tb):=⟨Lh ho ha.run hb.run hm⟩
theorem bu {op:CmpOp} {r:R2} (ho:OpR X (compareOp op) r) (ha:JE X a ta) (hb:JE X b tb) (hm:behindInMarks op b=false):JT X (.Compare a [op] [b] pos) (wN (G6 r ta tb)):=⟨Li ho ha.run hb.run hm⟩
theorem rB (ha:JT X a tA):JW X (.BoolOp .And [a] pos) tA:=⟨K3 ha.run⟩
theorem gC (ha:JT X a tA):JW X (.BoolOp .Or [a] pos) tA:=⟨Qf ha.run⟩
theorem vh (ha:JT X a tA) (hb:JW X (.BoolOp .And (b :: rest) pos) tB'):JW X (.BoolOp .And (a :: b :: rest) pos) (K1 tA tB'):=⟨Qg ha.run hb.run⟩
theorem iy (ha:JT X a tA) (hb:JW X (.BoolOp .Or (b :: rest) pos) tB'):JW X (.BoolOp .Or (a :: b :: rest) pos) (tOr tA tB'):=⟨T8 ha.run hb.run⟩
theorem gF (h:JW X e tt):JT X e tt:=⟨h.run.pt⟩
theorem bV (ha:JT X a tA):JT X (.UnaryOp .Not a pos) (Qe tA):=⟨Qh ha.run⟩
def plainT:Expr->Bool
 | .BoolOp ..=>false | .UnaryOp ..=>false | .Compare ..=>false | .IfExp ..=>false | _=>true
theorem bO (h:JE X e te) (hp:autoParam (plainT e=true) L2.auto4._auto_1):JT X e (tB te):=⟨Qd h.run (by
 intro whole
 cases e <;> first | rfl | cases hp)⟩
theorem zG {op} (h:JE X a te):JE X (.BoolOp op [a] pos) te:=⟨Qi h.run⟩
theorem vm (ha:JE X a ta) (hb:JE X (.BoolOp .And (b :: rest) pos) tb):JE X (.BoolOp .And (a :: b :: rest) pos) (Gx ta tb):=⟨Qj ha.run hb.run⟩
theorem O6 (ha:JE X a ta):JE X (.UnaryOp .Not a pos) (Gy ta):=⟨Qk ha.run⟩
theorem j_if (hc:JT X c tA) (ha:JE X a ta) (hb:JE X b tb):JE X (.IfExp c a b pos) (tIf tA ta tb):=⟨Gz hc.run ha.run hb.run⟩
theorem gw {x1} (h:JA X es t):JE X (.Tuple es x1 pos) (Lq t):=⟨QK h.run⟩
theorem dU (h:JA X es t):JE X (.List es pos) (Lr t):=⟨QL h.run⟩
theorem ao:JA X [] Ln:=⟨QJ⟩
theorem aa (ha:JE X e te) (hr:JA X es t) (h:autoParam (notStar e=true) L2.auto4._auto_1):JA X (e :: es) (De te t):=⟨paC ha.run hr.run h⟩
theorem mQ:JO X none xT:=⟨Lw⟩
theorem gM (h:JE X e te):JO X (some e) (Hj te):=⟨Lx h.run⟩
theorem lq {r:V->Option Int->Option Int->Hp->VK->Prop} {lo hi:Option Expr} {tl th:TO} (hr:SlR X r) (he:JE X e te) (hl:JO X lo tl) (hu:JO X hi th):JE X (.Subscript e (.Slice lo hi none p2) pos) (tSl r te tl th):=⟨Hk hr he.run hl.run hu.run⟩
theorem bf (hK:X.K=K) (ha:JE X a ta) (hb:JE X b tb) (h:autoParam (q9 b=true) L2.auto4._auto_1):JE X (.Subscript a b pos) (G6 (QV K) ta tb):=⟨ixE hK ha.run hb.run h⟩
theorem aH {k:Nat} {ps:List Str} {sp:Sp} (F:jN X.prog X.w X.K X.mg X.base k x ps sp) (hr:Room k X.A) (hg:Gl X x) (ha:JA X (e :: es) t) (hdb:(x == ("__debug__":Str))=false) (h:autoParam ((e :: es).all notStar=true) L2.auto4._auto_1):
  JE X (.Call (.Name x p) (e :: es) [] pos) (wQ sp [] E0 t):=⟨UG F hr hg ha.run hdb h⟩
theorem aD {id:String} {r:List V->Hp->VK->Prop} (hc:CallR X (.builtin id) r) (hg:Gl X x) (hm:X.mg x=none) (hv:bootBuiltins x=some (.builtin id)) (ha:JA X (e :: es) t) (hn:x≠"__name__") (hdb:(x == ("__debug__":Str))=false) (h:autoParam ((e :: es).all notStar=true) L2.auto4._auto_1):
  JE X (.Call (.Name x p) (e :: es) [] pos) (QQ r t):=⟨UJ hc hg hm hv ha.run hn hdb h⟩
theorem vo {T:String} {r:List V->Hp->VK->Prop} (hc:CallR X (.type T) r) (hg:Gl X x) (hm:X.mg x=none) (hv:bootBuiltins x=some (.type T)) (ha:JA X (e :: es) t) (hn:x≠"__name__") (hdb:(x == ("__debug__":Str))=false) (h:autoParam ((e :: es).all notStar=true) L2.auto4._auto_1):
  JE X (.Call (.Name x p) (e :: es) [] pos) (QQ r t):=⟨Rh hc hg hm hv ha.run hn hdb h⟩
theorem bL {name:Str} {T id:String} {r:V->List V->Hp->VK->Prop} (hK:X.K=K) (pa:PlainAttrs T) (slot:Slot T name id) (hty:typeOf (.builtin id)=pure (.type "method_descriptor")) (hm:KR X id r) (ho:JE X o to) (ha:JA X (e :: es) t)
  (hbase:autoParam (mO o=true) L2.auto4._auto_1) (hl:autoParam (es.length < 20) L2.auto2._auto_1) (hline:autoParam ((apos.endLine == cpos.line)=true) L2.auto4._auto_1) (h:autoParam ((e :: es).all notStar=true) L2.auto4._auto_1):JE X (.Call (.Attribute o name apos) (e :: es) [] cpos) (Uq K T r to t):=⟨UL hK pa slot hty hm ho.run ha.run hbase hl hline h⟩
theorem Mm {name:Str} {T id:String} {r:V->List V->Hp->VK->Prop} (hK:X.K=K) (pa:PlainAttrs T) (slot:Slot T name id) (hty:typeOf (.builtin id)=pure (.type "method_descriptor")) (hm:KR X id r) (ho:JE X o to)
  (hbase:autoParam (mO o=true) L2.auto4._auto_1) (hline:autoParam ((apos.endLine == cpos.line)=true) L2.auto4._auto_1):JE X (.Call (.Attribute o name apos) [] [] cpos) (Hn K T r to):=⟨Ri hK pa slot hty hm ho.run hbase hline⟩
theorem dq:Ml X [] Ht:=⟨Hu⟩
theorem Mp (hc:JT X c tt):Ml X [c] tt:=⟨Hv hc.run⟩
variable {tg iter elt:Expr} {ifs:List Expr} {sub:List (Option Nat)} {wi:TI} {g:TG} {N:List Str}
theorem dI {ta:TA} (hg:Gl X "range") (hm:X.mg "range"=none) (ha:JA X [a] ta) (h:autoParam (notStar a=true) L2.auto4._auto_1):JI X tg (.Call (.Name "range" p) [a] [] pos) (GZ ta):=⟨Ex hg hm ha.run (dm h)⟩
theorem d8 (hK:X.K=K) (hl:JE X e te):JI X tg e (Ma K te):=⟨Mg hK hl.run⟩
theorem aY {i:Nat} (hN:X.N.Nodup) (hi:X.N[i]?=some x) (hx:Loc X.env.scope x) (hf:X.fn x=true):JG X (.Name x pos) (pU i):=⟨CV hN hi hx (.inl hf)⟩
theorem kY (i:Nat) (h:scope.names.lookup x=some .local) (hN:N'.Nodup) (hi:autoParam (N'[i]?=some x) L2.auto4._auto_1):JG (pO X N' scope C s₀ H₀ ex) (.Name x pos) (pU i):=⟨pgB i h hN hi⟩
theorem gO:V6 X [] Qo:=⟨K9⟩
theorem bw {gs:Eu} (h1:JG X e g) (h2:V6 X es gs) (hs:autoParam ((assignEach (e :: es) X.env).map (·.2)=assign e X.env :: (assignEach es X.env).map (·.2)) L2.auto4._auto_1):V6 X (e :: es) (GK g gs):=⟨GP h1.run h2.run hs⟩
theorem jB {ts:List Expr} {k:Nat} {gs:Eu} {n:Nat} (hK:X.K=K) (hc:X.calm=true) (h:V6 X ts gs) (hn:autoParam ((assignEach ts X.env).length=n) L2.auto4._auto_1) (hst:autoParam ((assignEach ts X.env).findIdx? (·.1)=none) L2.auto4._auto_1):JG X (.Tuple ts k pos) (La K n gs):=⟨Mi hK hc h.run hn hst⟩
theorem yg {ts:Ax} (ho:JE X a ta) (hi:JE X b tb) (hs:K8 X ts) (h:autoParam (q9 b=true) L2.auto4._auto_1):JG X (.Subscript a b pos) (Qq ta tb ts):=⟨Qs ho.run hi.run hs (by
 intro v
 cases b <;> first | rfl | cases h)⟩
theorem gW (S:ue N sc N' scope sub) (hc:X.calm=true) (hN:X.N=N) (hsc:X.env.scope=sc) (hi:JI X tg iter wi)
  (hg:∀ (C:Addr) (s₀:Shared) (H₀:Hp) (ex:List Addr),JG (pO X N' scope C s₀ H₀ ex) tg g)
  (ht:∀ (C:Addr) (s₀:Shared) (H₀:Hp) (ex:List Addr),Ml (pO X N' scope C s₀ H₀ ex) ifs tt)
  (he:∀ (C:Addr) (s₀:Shared) (H₀:Hp) (ex:List Addr),JE (pO X N' scope C s₀ H₀ ex) elt te) (h:autoParam (sr iter=true) L2.auto4._auto_1):
  JE X (.ListComp elt [⟨tg,iter,ifs,0⟩] scope pos) (u0 sub wi g tt te):=⟨UW S hc hN hsc hi.run (fun C s₀ H₀ ex=>(hg C s₀ H₀ ex).run) (fun C s₀ H₀ ex=>(ht C s₀ H₀ ex).run) (fun C s₀ H₀ ex=>(he C s₀ H₀ ex).run) h⟩
variable {st:Stmt} {sts:List Stmt} {u v:TS}
theorem aJ {i:Nat} (hN:X.N.Nodup) (hi:X.N[i]?=some x) (hx:Loc X.env.scope x) (he:JE X e te) (hf:X.fn x=true) (h:autoParam (lg e=true) L2.auto4._auto_1):JS X (.Assign [.Name x pos'] e pos) (zb te (pU i)):=⟨UT hN hi hx he.run hf h⟩
theorem uJ {ts:Ax} (he:JE X e te) (hg:JG X (.Subscript a b pos') g) (h:autoParam (lg e=true) L2.auto4._auto_1):JS X (.Assign [.Subscript a b pos'] e pos) (zb te g):=⟨Qt he.run hg.run (by show swapsWith e (some (.Subscript a b pos')) pos.line X.env=pure false;exact zA h) (by cases e <;> rfl) rfl⟩
theorem aK (he:JE X e te):JS X (.Return (some e) pos) (Ql te):=⟨Qm he.run⟩
theorem aL (he:JE X e te) (h:autoParam (lg e=true) L2.auto4._auto_1):JS X (.Expr e pos) (CQ te):=⟨Rj he.run h⟩
theorem bM {sa sb:List Stmt} (hc:JT X c tt) (ha:JB X sa u) (hb:JB X sb v):JS X (.If c sa sb pos) (Qn tt u v):=⟨T9 hc.run ha.run hb.run⟩
theorem du {body:List Stmt} (hp:PassesOwn (model X.prog X.w) X.A X.env X.xe) (hc:X.calm=true) (hi:JI X tg iter wi) (hg:JG X tg g) (hb:JB X body u) (h:autoParam (sr iter=true) L2.auto4._auto_1):JS X (.For tg iter body [] pos) (Ld wi g u):=⟨UV hp hc hi.run hg.run hb.run h⟩
theorem HY {body:List Stmt} (hp:PassesOwn (model X.prog X.w) X.A X.env X.xe) (hc:JT X c tt) (hb:JB X body u):JS X (.While c body [] pos) (Ay tt u):=⟨GR hp hc.run hb.run⟩
theorem oh:JS X st GF:=⟨GJ⟩
theorem bx:JB X [] GC:=⟨K5⟩
theorem aA (h:JS X st u):JB X [st] u:=⟨K6 h.run⟩
theorem au (h:JS X st u) (h2:JB X sts v):JB X (st :: sts) (K4 u v):=⟨GD h.run h2.run⟩
end
section
variable {P:Program} {w:World} {K:W.Frag} {mg:Str->Option Value} {base:Heap}
theorem dZ {x:Str} {st:Stmt} {N ps:List Str} {k:Nat} {sp:Sp} (D:Def K mg x st) (S:aF N ps (az st))
  (hb:∀ (kV doc pm:Value) (an:Option Addr) (cdv ct:Value) (us:List Value),us.length=ps.length->bindArgs (PySem.W.fnOf x x (gn st) (dj st) (az st) .none kV doc pm an cdv ct) ⟨us,[]⟩=pure (ps.zip us))
  (len:∀ vs H Q E,sp vs H Q E->vs.length=ps.length)
  (hbody:∀ (f:Addr) (cdv:Value) (A:Around) (outer:List Env) (s:Shared) (H:Hp) (vs:List V) (Q:VK) (E:XK),Room k (A.deeper (envOfC x (az st) s.heap.objs.size f cdv))->sp vs H Q E->
   ∃ t,JB (qe Fl P w K mg base N x (az st) f cdv A outer s H E).nox (dj st) t/\t {nx:=fun _ H'=>Q .non H',rt:=Q} (start N vs) H):jN P w K mg base (k+1) x ps sp:=
 Q7 D S hb len fun f cdv A outer s H vs Q E hr h=>let ⟨t,j,q⟩:=hbody f cdv A outer s H vs Q E hr h;⟨t,j.run,q⟩
theorem okJ {x:Str} {st:Stmt} {N ps:List Str} {k:Nat} {sp:Sp} {f:Addr} {fd:FuncData} (F:Fun K x x st f fd) (S:aF N ps (az st)) (len:∀ vs H Q E,sp vs H Q E->vs.length=ps.length)
  (hbody:∀ (f:Addr) (cdv:Value) (A:Around) (outer:List Env) (s:Shared) (H:Hp) (vs:List V) (Q:VK) (E:XK),Room k (A.deeper (envOfC x (az st) s.heap.objs.size f cdv))->sp vs H Q E->
   ∃ t,JB (qe Fl P w K mg base N x (az st) f cdv A outer s H E).nox (dj st) t/\t {nx:=fun _ H'=>Q .non H',rt:=Q} (start N vs) H):FnOk P w K mg base Fl (k+1) f fd ps sp:=
 F.ok S len fun cdv A outer s H vs Q E hr h=>let ⟨t,j,q⟩:=hbody f cdv A outer s H vs Q E hr h;⟨t,j.run,q⟩
end
theorem j5 {K:W.Frag} {mg:Str->Option Value} {h:Heap} (X:K.In h) (G:h.Ns mainGlobals mg) {x:Str} {v:Value} {f:Tok->Value} (a:PySem.W.nsIn K mainGlobals x=some (some v)) (e:∃ t,v=f t):∃ t,mg x=some (f t):=by
 obtain ⟨t,rfl⟩:=e
 exact ⟨t,Yw X G a⟩
theorem U7 {l:PySem.W.OpenLaw} {q:Program} {loose:List Str} {XP:(Str->Option Value)->Heap->Prop} {YP:World->Heap->Prop} {d:DefRec} {K:Params->W.Frag} {st:Stmt} {k:Nat} {sp:W.Frag->Sp} {x:Str}
  (hn:l.most=some 63) (hdf:d.params.defaults=[]) (hdn:d.name="law") (hk:Room k callerA) (hY:∀ (w:World) (h:Heap),YP w h->(K w.params).In h)
  (hb:∀ (kV doc pm:Value) (an:Option Addr) (cdv ct:Value) (us:List Value),us.length=[x].length->bindArgs (PySem.W.fnOf "law" "law" (gn st) (dj st) (az st) .none kV doc pm an cdv ct) ⟨us,[]⟩=pure ([x].zip us))
  (F:∀ (w:World) (mg:Str->Option Value) (h:Heap),(K w.params).In h->h.Ns mainGlobals mg->Def (K w.params) mg "law" st/\∀ (base:Heap) (f:Addr) (fd:FuncData),Fun (K w.params) "law" "law" st f fd->FnOk l.prog w (K w.params) mg base Fl k f fd [x] (sp (K w.params)))
  (hsp:∀ (K:W.Frag) (H:Hp) (a:Addr) (ns:List Int),ns.length<=63->SqL K H a (ns.map V.int)->sp K [.ref a] H (fun v _=>v= .bl true) fun _ _ _=>False) (him:autoParam (importsNone q=true) L2.auto6._auto_1):
  PySem.W.WalkO q loose XP YP l.row.toRowW d [] (fun f vs=>PySem.call f vs):=
 L2.LK (n:=63) (k:=k) (x:=x) (CX:=fun _=>Fl) (sp:=fun w=>sp (K w.params)) hn (by decide) hdf hk hY (fun w mg fa h X G e=>by
  obtain ⟨⟨f,fd,Fn,hm⟩,ok⟩:=F w mg h X G
  rw [hdn,hm] at e
  have ef:f=fa:=by injection (WR e)
  subst ef
  refine ⟨fd,fun s u=>?_,fun base _ _=>ok base f fd Fn⟩
  obtain ⟨oc,od,kV,doc,pm,an,cdv,ct,osl,rfl,lk,hcd⟩:=Fn.ex
  exact .of_eq (hb kV doc pm an cdv ct [u] rfl)) (fun w H a ns hl _ hS=>hsp _ H a ns hl hS) (fun _ _ _ _ _ z=>z) him
def Rq (xs:Nat->List V) (n:Nat):It:=⟨fun i _=>i < n,fun i H v H'=>∃ T,H T=none/\v= .ref T/\H'=upd H T (.tup (xs i)),fun i _=>i=n⟩
theorem Rr {P:Program} {w:World} {K:W.Frag} {elts:List Expr} {k:Nat} {pos:Pos} {it:Addr} {fp wr:List Addr} {n:Nat} {xs:Nat->List V} {Pt:Nat->Array Value->Prop} {St:Nat->Heap->Prop} {Mid:Nat->Addr->Heap->Prop}
  (W:∀ A:Around,A.handled=none->WalksT P w A it fp wr n Pt St Mid) (hxs:∀ i,(xs i).length<=sizeLine) (hPt:∀ i vals,Pt i vals->Vals (xs i) vals.toList) (hmem:it∈fp)
  (hobj:∀ i h,St i h->∀ b∈fp,∃ o,h.get? b=some o/\∀ v,o.data≠.cell v)
  (hself:∀ (A:Around) (i:Nat) (s:Shared) (Q:Value->Shared->Prop) (E:Value->Shared->Prop),St i s.heap->Q (.ref it) s->wpAny (model P w) A (pyIter (.ref it)) Q E s):
  Turn P w K (.Tuple elts k pos) (Rq xs n) fp it St where
 mem:=hmem
 obj:=hobj
 keep:=fun i h h' st kk=>(W {} rfl).frame i h h' st kk
 item:=by
  intro X hP hw hK hc i pins s U H E I hf st hg
  subst hP hw hK
  have W':=W X.A (I.ok.hd hc)
  refine W'.item i s _ _ hg st fun T vals h' tk hPv hT isT mid kk=>?_
  refine ⟨.ref T,rfl,W'.go elts k pos i T _ _ _ mid fun h'' st'' kk2=>?_⟩
  have hTn:H T=none:=I.hok.fresh hT
  have hTw:T ∉ wr:=W'.apart i T h' mid
  have kall:∀ b o,b ∉ wr->s.heap.get? b=some o->h''.get? b=some o:=fun b o hb e=>kk2 b o hb (kk b o hb e)
  have nT:∀ b o,s.heap.get? b=some o->b≠T:=fun b o e=>Xc (WK (Wx e) hT)
  have nTH:∀ b u,H b=some u->b≠T:=fun b u e z=>by rw [z,hTn] at e;cases e
  have nW:∀ b u,H b=some u->b ∉ wr:=fun b u e hb=>by rw [(hf b (W'.sub b hb)).1] at e;cases e
  have isT':h''.IsTuple T vals:=by
   obtain ⟨o,ho,r⟩:=isT
   exact ⟨o,kk2 T o hTw ho,r⟩
  have hlT:∃ o,h''.get? T=some o:=let ⟨o,ho,_⟩:=isT';⟨o,ho⟩
  have I':Inv X pins U (upd H T (.tup (xs i))) {s with heap:=h'',toks:=tk}:=by
   refine I.step (g':=s.gens) (d':=s.drawn) (ch:=wr) (fun b hb=>?_) (fun b o _ _ hc e _=>kall b o hc e) (fun b o _ _ hc e _=>⟨o.slots,kall b o hc e⟩) (fun b o _ e hn=>by rw [aB (nT b o e)];exact hn)
    (fun b o hc e=>⟨o,kall b o hc e⟩) (fun b ys e=>by rw [aB (nTH b _ e)];exact e) (fun b o u e=>by rw [aB (nTH b _ e)];exact e) (fun b ps e=>⟨#[],by rw [aB (nTH b _ e),e];simp⟩) (fun m hm=>?_) (fun b u e=>?_) I.bare
   ·obtain ⟨f0,f1,f2,f3,f4,f5⟩:=hf b (W'.sub b hb)
    exact ⟨f3,f1,f4,f5⟩
   ·obtain ⟨o,es,ep,ho,r⟩:=hm
    exact ⟨o,es,ep,kall _ o (fun hb=>(hf _ (W'.sub _ hb)).2.1 rfl) ho,r⟩
   ·by_cases hb:b=T
    ·subst hb
     rw [aj] at e;cases e
     obtain ⟨o,ho,hcl,nn,hd⟩:=isT'
     exact ⟨hxs i,vals.toList,hPt i vals hPv,o,ho,hcl,nn,by simpa using hd⟩
    ·rw [aB hb] at e
     refine (I.hok b u e).stay (fun c v hc' q=>kall c v ?_ q) (fun c q=>by rw [aB (nTH c _ q)];exact q) fun c ys q=>by rw [aB (nTH c _ q)];exact q
     rcases hc' with z | z
     ·rw [z];exact nW b u e
     ·exact nW c _ z
  refine ⟨.ref T,upd H T (.tup (xs i)),I',rfl,⟨T,hTn,rfl,rfl⟩,st'',fun b hb=>?_⟩
  obtain ⟨o,e,_⟩:=hobj i _ st b hb
  rw [aB (nT b o e)]
  exact (hf b hb).1
 done:=by
  intro X hP hw hK hc i pins s U H E I hf st hg
  subst hP hw hK
  have W':=W X.A (I.ok.hd hc)
  have hg:i=n:=hg
  subst hg
  refine W'.done s _ _ st fun h' tk kk=>⟨rfl,?_⟩
  have nW:∀ b u,H b=some u->b ∉ wr:=fun b u e hb=>by rw [(hf b (W'.sub b hb)).1] at e;cases e
  refine I.step (g':=s.gens) (d':=s.drawn) (ch:=wr) (fun b hb=>?_) (fun b o _ _ hc e _=>kk b o hc e) (fun b o _ _ hc e _=>⟨o.slots,kk b o hc e⟩) (fun b o _ e hn=>hn)
    (fun b o hc e=>⟨o,kk b o hc e⟩) (fun b ys e=>e) (fun b o u e=>e) (fun b ps e=>⟨#[],by rw [e];simp⟩) (fun m hm=>?_) (fun b u e=>?_) I.bare
  ·obtain ⟨f0,f1,f2,f3,f4,f5⟩:=hf b (W'.sub b hb)
   exact ⟨f3,f1,f4,f5⟩
  ·obtain ⟨o,es,ep,ho,r⟩:=hm
   exact ⟨o,es,ep,kk _ o (fun hb=>(hf _ (W'.sub _ hb)).2.1 rfl) ho,r⟩
  ·refine (I.hok b u e).stay (fun c v hc' q=>kk c v ?_ q) (fun c q=>q) fun c ys q=>q
   rcases hc' with z | z
   ·rw [z];exact nW b u e
   ·exact nW c _ z
 self:=hself
def iz (x:Str) (i:Nat):List V:=[.int i,.str ⟨#[x.cps.getD i 0]⟩]
def U8 (K:W.Frag):R2:=fun x y H Q=>rNe x y H Q\/∃ (a b:Addr) (ns ms:List Int),x= .ref a/\y= .ref b/\SqL K H a (ns.map V.int)/\SqL K H b (ms.map V.int)/\Q (.bl (!decide (ns=ms))) H
theorem Rt {X:Cx} {K:W.Frag} (hK:X.K=K) (hu:X.A.units+64 < cLine):OpR X (compareOp .NotEq) (U8 K):=by
 subst hK
 intro pins s U H x y v u Q I rx ry h
 rcases h with h | ⟨a,b,ns,ms,rfl,rfl,ha,hb,q⟩
 ·exact Ue pins s U H x y v u Q I rx ry h
 ·cases rx
  cases ry
  obtain ⟨its,r1,p1,z1⟩:=I.list ha
  obtain ⟨jts,r2,p2,z2⟩:=I.list hb
  exact PySem.W.ne_intsK p1.isList (intsAre_of r1) p2.isList (intsAre_of r2) hu ⟨.bl _,H,I,rfl,q⟩
section
variable {H:Hp} {Q:VK} {K:W.Frag} {U:St}
theorem cT {x:Str} {R:Str->Prop} (h:R x):∃ y,[V.str x]=[.str y]/\R y:=⟨x,rfl,h⟩
theorem bj {n:Nat} {gs:Eu} {p:Addr} {xs:List V} {R:St->Hp->Prop} (s:SqT K H p xs) (hl:xs.length=n) (h:gs xs U H R):La K n gs (.ref p) U H R:=⟨p,xs,rfl,s,hl,h⟩
theorem bz {t:TG} {u:Eu} {v:V} {vs:List V} {R:St->Hp->Prop} (h:t v U H fun U' H'=>u vs U' H' R):GK t u (v :: vs) U H R:=⟨v,vs,rfl,h⟩
theorem cU {R:St->Hp->Prop} (h:R U H):Qo [] U H R:=⟨rfl,h⟩
theorem aQ {p:Addr} {xs:List V} {y:V} (hp:H p=some (.lst xs)) (c:xs.length < sizeLine) (h:Q .non (upd H p (.lst (xs ++ [y])))):Dj (.ref p) [y] H Q:=⟨p,xs,y,rfl,rfl,hp,c,h⟩
theorem vp {xs:Nat->List V} {n:Nat} {g:TG} {tb:TS} {D:Ends} {H:Hp} (Pv:Nat->St->Hp->Prop) (h0:Pv 0 U H)
  (hs:∀ i U H T,i < n->Pv i U H->H T=none->g (.ref T) U (upd H T (.tup (xs i))) fun σ2 H2=>tb {D with nx:=Pv (i+1),ct:=Pv (i+1),bk:=D.nx} σ2 H2) (hd:∀ U H,Pv n U H->D.nx U H):
  ∃ W:Nat->Nat->St->Hp->Prop,(∃ m,W 0 m U H)/\∀ i m U H,W i m U H->
   ((Rq xs n).stop i H/\D.nx U H)\/((Rq xs n).go i H/\∃ N:St->Hp->Prop,(∀ U' H',N U' H'->∃ m',m' < m/\W (i+1) m' U' H')/\∀ x H',(Rq xs n).yld i H x H'->g x U H' fun σ2 H2=>tb {D with nx:=N,ct:=N,bk:=D.nx} σ2 H2):=by
 refine ⟨fun i m U H=>m=n - i/\i<=n/\Pv i U H,⟨n,by simp,Xx _,h0⟩,?_⟩
 rintro i m U H ⟨rfl,hi,p⟩
 by_cases hlt:i < n
 ·refine .inr ⟨hlt,Pv (i+1),fun U' H' p'=>⟨n - (i+1),by omega,rfl,hlt,p'⟩,fun x H' y=>?_⟩
  obtain ⟨T,hT,e1,e2⟩:=y
  subst e1 e2
  exact hs i U H T hlt p hT
 ·have e:i=n:=by omega
  subst e
  exact .inl ⟨rfl,hd U H p⟩
theorem um {f:Int->V} {i:Int} (h:Q (f i) H):rU f (.int i) H Q:=⟨i,rfl,h⟩
theorem yh {a:Addr} {xs:List V} {k:Int} (ha:H a=some (.lst xs)) (h0: -(2 ^ 63)<=k) (h1:k < 2 ^ 63) (hz:xs.length*k.toNat<=sizeLine) (h:∀ p,H p=none->Q (.ref p) (upd H p (.lst (List.replicate k.toNat xs).flatten))):Do (.ref a) (.int k) H Q:=
 .inr (.inr ⟨a,k,xs,rfl,rfl,ha,h0,h1,hz,h⟩)
theorem Mq {z:Str} {g:TG} {tb:TS} {D:Ends} {H:Hp} (Pv:Nat->St->Hp->Prop) (h0:Pv 0 U H)
  (hs:∀ i U H c,z.cps.toList[i]?=some c->Pv i U H->g (.str ⟨#[c]⟩) U H fun σ2 H2=>tb {D with nx:=Pv (i+1),ct:=Pv (i+1),bk:=D.nx} σ2 H2) (hd:∀ U H,Pv z.length U H->D.nx U H):
  ∃ W:Nat->Nat->St->Hp->Prop,(∃ m,W 0 m U H)/\∀ i m U H,W i m U H->
   ((LQ z).stop i H/\D.nx U H)\/((LQ z).go i H/\∃ N:St->Hp->Prop,(∀ U' H',N U' H'->∃ m',m' < m/\W (i+1) m' U' H')/\∀ x H',(LQ z).yld i H x H'->g x U H' fun σ2 H2=>tb {D with nx:=N,ct:=N,bk:=D.nx} σ2 H2):=by
 refine ⟨fun i m U H=>m=z.cps.size - i/\i<=z.cps.size/\Pv i U H,⟨z.cps.size,by simp,Xx _,h0⟩,?_⟩
 rintro i m U H ⟨rfl,hi,p⟩
 by_cases hlt:i < z.cps.size
 ·refine .inr ⟨hlt,Pv (i+1),fun U' H' p'=>⟨z.cps.size - (i+1),by omega,rfl,hlt,p'⟩,fun x H' y=>?_⟩
  obtain ⟨e1,c,e2,e3⟩:=y
  subst e1 e3
  exact hs i U _ c (by simpa using e2) p
 ·have e:i=z.cps.size:=by omega
  subst e
  exact .inl ⟨rfl,hd U H p⟩
end
section
variable {X:Cx} {tg iter elt:Expr} {ifs:List Expr} {scope:Scope} {pos:Pos} {N':List Str} {sub:List (Option Nat)} {wi:TI} {g:TG} {tt:TT} {te:TE}
theorem Ia {N:List Str} {sc:Scope} {use:Option (Value->Sem Unit)} {R:Value->Shared->Prop} {p0:Pos} (S:ue N sc N' scope sub) (hc:X.calm=true) (hN:X.N=N) (hsc:X.env.scope=sc) (hi:PI X tg iter wi)
  (hg:∀ (C:Addr) (s₀:Shared) (H₀:Hp) (ex:List Addr),PG (pO X N' scope C s₀ H₀ ex) tg g)
  (ht:∀ (C:Addr) (s₀:Shared) (H₀:Hp) (ex:List Addr),yc (pO X N' scope C s₀ H₀ ex) ifs tt)
  (he:∀ (C:Addr) (s₀:Shared) (H₀:Hp) (ex:List Addr),PE (pO X N' scope C s₀ H₀ ex) elt te)
  (hs:∀ x,foldedSetIterable iter X.env x=pure x) (pins:List (Addr×Obj)) (s:Shared) (U:St) (H:Hp) (Q:VK) (I:Inv X pins U H s) (h:u0 sub wi g tt te U H Q)
  (hend:∀ (D C:Addr) (s5:Shared) (H5:Hp) (m:Str->Option Value),Inv X pins U H5 s5->lY X pins H5 C->s5.heap.Ns C m->Q (.ref D) H5->compPost (model X.prog X.w) X.A X.xe use R (.ref D) C (.ok .next) s5):
  wpAny (model X.prog X.w) X.A (comprehension (.ListComp elt [⟨tg,iter,ifs,0⟩] scope pos) scope X.env p0 (newList []) false (eval iter X.env) use) R X.xe s:=by
 have hcl:∀ x∈scope.names,x.2=NameKind.free->∃ c,X.env.cells.lookup x.1=some c:=fun x hx hk=>I.ok.has x.1 (by have:=S.free x hx hk;rw [← hsc] at this;exact this)
 refine wpAny_comprehension_free (use:=use) rfl hs (pW hcl) S.kind S.loc ?_
 refine dW (hi pins s U H _ I h) fun v s1 h1=>dW h1 fun itv s2 h2=>?_
 obtain ⟨it,fp,tn,J,H2,e,I2,T,st2,f2,W,⟨m0,w0⟩,turn⟩:=h2
 subst e
 refine XJ (gZ fun h₁ hns₁ hk31 hcl₁=>?_)
 dsimp only at hns₁ hk31 hcl₁ ⊢
 generalize hs3:({s2 with heap:=s2.heap.push {cls:=.type "list",dict:=none,data:=.seq ([]:List Value).toArray}}:Shared)=s3
 have e3:s2.heap.push {cls:=.type "list",dict:=none,data:=.seq ([]:List Value).toArray}=s3.heap:=by rw [← hs3]
 rw [e3] at hns₁ hk31 hcl₁ ⊢
 have hD3:s3.heap.get? s2.heap.objs.size=some {cls:=.type "list",dict:=none,data:=.seq ([]:List Value).toArray}:=by rw [← e3];exact Ww _ rfl
 have I3:Inv X pins U H2 s3:=by
  rw [← hs3]
  exact I2.kept (t':=s2.toks) fun b o e=>Wr _ e
 have k23:∀ b o,s2.heap.get? b=some o->s3.heap.get? b=some o:=fun b o e=>by rw [← e3];exact Wr _ e
 have hsz:s3.heap.objs.size=s2.heap.objs.size+1:=by rw [← e3,XH]
 have hDn:H2 s2.heap.objs.size=none:=I2.hok.fresh (Wq _)
 have fD:lY X pins H2 s2.heap.objs.size:=I2.fpOk (Wq _) hDn
 have hfo:∀ b∈fp,b < s2.heap.objs.size:=fun b hb=>let ⟨o,e,_⟩:=T.obj _ _ st2 b hb;Wx e
 have hDfp:s2.heap.objs.size ∉ fp:=fun z=>absurd (hfo _ z) (X4 _)
 have I4:=w5 (tk:=s3.toks+([]:List (Str×Value)).length) S hN hsc I3 f2 (fun b hb=>by rw [hsz];exact Nat.lt_succ_of_lt (hfo b hb)) (D:=s2.heap.objs.size) (by rw [hsz];exact YZ _) fD hns₁ hk31 hcl₁
 have stat:∀ {H':Hp} {ob:Obj},(∀ b∈fp,H' b=none)->∀ b∈fp,lY (pO X N' scope s3.heap.objs.size s3 H2 (s2.heap.objs.size :: fp)) [(s2.heap.objs.size,ob)] H' b:=fun {H' ob} hn b hb=>by
  obtain ⟨q1,q2⟩:=I4.ok.exf b (WL _ hb)
  refine ⟨hn b hb,q1,I4.ok.exfs b (WL _ hb),.inl (WL _ hb),q2,fun p hp z=>?_⟩
  have hp':p=(s2.heap.objs.size,ob):=by simpa [pO] using hp
  subst hp'
  have z':s2.heap.objs.size=b:=z
  exact hDfp (by rw [z'];exact hb)
 generalize hXC:pO X N' scope s3.heap.objs.size s3 H2 (s2.heap.objs.size :: fp)=XC at I4 stat
 have eP:XC.prog=X.prog:=by rw [← hXC];rfl
 have eW:XC.w=X.w:=by rw [← hXC];rfl
 have eK:XC.K=X.K:=by rw [← hXC];rfl
 have eA:XC.A=X.A:=by rw [← hXC];rfl
 have eE:XC.env=compEnvC scope (Fp X scope s3.heap.objs.size) s3.heap.objs.size X.env:=by rw [← hXC];rfl
 have eC:XC.calm=true:=by rw [← hXC];exact hc
 have eX:XC.xe=fun _ _=>False:=by rw [← hXC];rfl
 have eH:XC.H₀=H2:=by rw [← hXC];rfl
 have eS:XC.s₀=s3:=by rw [← hXC];rfl
 have eF:XC.fs=frs X.stack:=by rw [← hXC];rfl
 have eEx:XC.ex=s2.heap.objs.size :: fp:=by rw [← hXC];rfl
 have ePn:XC.pn=[]:=by rw [← hXC];rfl
 have hgC:PG XC tg g:=by rw [← hXC];exact hg _ _ _ _
 have htC:yc XC ifs tt:=by rw [← hXC];exact ht _ _ _ _
 have heC:PE XC elt te:=by rw [← hXC];exact he _ _ _ _
 have pinD:∀ {U':St} {H':Hp} {s':Shared} {ob:Obj},Inv XC [] U' H' s'->H' s2.heap.objs.size=none->s'.heap.get? s2.heap.objs.size=some ob->(∀ v,ob.data≠.cell v)->Inv XC [(s2.heap.objs.size,ob)] U' H' s':=fun {U' H' s' ob} J hn hg hd=>
  J.pins_of fun p hp=>by
   have hp':p=(s2.heap.objs.size,ob):=by simpa using hp
   subst hp'
   refine ⟨hg,hn,(J.ok.exf _ (by rw [eEx];exact Xf)).1,J.ok.exfs _ (by rw [eEx];exact Xf),hd⟩
 have loop:codeAny (model X.prog X.w) X.A (.compLoop (.ListComp elt [⟨tg,iter,ifs,0⟩] scope pos) 0 (.ref it) (.ref s2.heap.objs.size) (compEnvC scope (Fp X scope s3.heap.objs.size) s3.heap.objs.size X.env))
   (compPost (model X.prog X.w) X.A X.xe use R (.ref s2.heap.objs.size) s3.heap.objs.size) {s3 with heap:=h₁,toks:=s3.toks+([]:List (Str×Value)).length}:=by
  refine wZ (fun n s'=>∃ (i:Nat) (ys:List V) (its:List Value) (nn:Nat) (H':Hp),Inv XC [] (dD sub U) H' s'/\tn i s'.heap/\(∀ b∈fp,H' b=none)/\H' s2.heap.objs.size=none/\
   s'.heap.get? s2.heap.objs.size=some {cls:=.type "list",data:=.seq its.toArray nn}/\Vals ys its/\W i n ys H') ?_ m0
   ⟨0,[],[],_,H2,I4,T.keep _ _ _ st2 fun b _ o e=>hk31 b o (k23 b o e),fun b hb=>(f2 b hb).1,hDn,hk31 _ _ hD3,.nil,w0⟩
  rintro n s4 ⟨i,ys,its,nn,H4,J4,st4,fr4,dn4,dg4,rv4,w4⟩
  have P4:=pinD J4 dn4 dg4 (fun v z=>by cases z)
  rcases turn i n ys H4 w4 with ⟨stop,hyl,qn⟩ | ⟨go,hyl,N,hN,step⟩
  ·have hdone:=T.done XC eP eW eK eC i _ s4 _ H4 (fun _ _=>False) P4 (stat fr4) st4 stop
   rw [eA] at hdone
   refine Xr hdone (fun r s5 ⟨hr,I5⟩=>?_) fun _ _ z=>z
   subst hr
   obtain ⟨m,hn,_⟩:=id I5.loc
   have hCe:XC.env.locals=s3.heap.objs.size:=by rw [eE];rfl
   rw [hCe] at hn
   have hDg:=(I5.pin (s2.heap.objs.size,_) (by rw [ePn];exact Xf)).1
   have hDne:s2.heap.objs.size≠s3.heap.objs.size:=by rw [hsz];exact Xc (YZ _)
   have hHC:H4 s3.heap.objs.size=none:=by have:=I5.free;rw [hCe] at this;exact this
   have k56:∀ b o,b≠s3.heap.objs.size->s5.heap.get? b=some o->s5.heap.get? b=some o:=fun b o hb e=>e
   have un:=I5.base
   rw [eF,eEx,eH,eS] at un
   have nC:∀ b o,s3.heap.get? b=some o->b≠s3.heap.objs.size:=fun b o e=>Xc (Wx e)
   have hok6:HOk X.prog X.w (upd H4 s2.heap.objs.size (.lst ys)) s5.heap:=by
    have h5:=I5.hok
    rw [eP,eW] at h5
    have KN:∀ b u,H4 b=some u->b≠s3.heap.objs.size:=fun b u e z=>by rw [z,hHC] at e;cases e
    intro b u e
    by_cases hb:b=s2.heap.objs.size
    ·subst hb
     rw [aj] at e;cases e
     exact ⟨hyl,its,nn,rv4,k56 _ _ hDne hDg⟩
    ·rw [aB hb] at e
     have nD:∀ c u,H4 c=some u->c≠s2.heap.objs.size:=fun c u e z=>by rw [z,dn4] at e;cases e
     refine (h5 b u e).stay (fun c v hc' q=>k56 c v ?_ q) (fun c q=>by rw [aB (nD c _ q)];exact q) fun c xs q=>by rw [aB (nD c _ q)];exact q
     rcases hc' with z | z
     ·rw [z];exact KN b u e
     ·exact KN c _ z
   have nD2:∀ c u,H4 c=some u->c≠s2.heap.objs.size:=fun c u e z=>by rw [z,dn4] at e;cases e
   have un6:Un (frs X.stack) (s2.heap.objs.size :: fp) H2 (upd H4 s2.heap.objs.size (.lst ys)) s3.heap s5.heap:=
    ⟨fun b o e nn' hb hx=>k56 b o (nC b o e) (un.keep b o e nn' hb hx),fun b o e nn' hb hx=>let ⟨sl,q⟩:=un.slot b o e nn' hb hx;⟨sl,k56 b _ (nC b o e) q⟩,
     fun b o e nn' hx=>by rw [aB (fun z=>hx (by rw [z];exact Xf))];exact un.free b o e nn' hx,
     fun b o e hx=>let ⟨o',q⟩:=un.there b o e hx;⟨o',k56 b o' (nC b o e) q⟩,
     fun b xs e=>by have q:=un.tups b xs e;rw [aB (nD2 b _ q)];exact q,
     fun b o u e=>by have q:=un.frzs b o u e;rw [aB (nD2 b _ q)];exact q,
     fun b ps e=>let ⟨more,q⟩:=un.tbls b ps e;⟨more,by rw [aB (nD2 b _ q)];exact q⟩⟩
   have I6:Inv X pins U (upd H4 s2.heap.objs.size (.lst ys)) s5:=by
    refine I3.call' (s':=s5) (ch:=s2.heap.objs.size :: fp) ?_ un6 hok6 I5.bare fun b hb=>?_
    ·show s5.os=s3.os
     have:=I5.os
     rw [eS] at this
     exact this
    ·have q:lY X pins H2 b:=by
      rcases WD.mp hb with rfl | z
      ·exact fD
      ·exact f2 b z
     obtain ⟨f0,f1,f2',f3,f4,f5⟩:=q
     exact ⟨f3,f1,f4,f5⟩
   have dC:upd H4 s2.heap.objs.size (.lst ys) s3.heap.objs.size=none:=by rw [aB (Ne.symm hDne)];exact hHC
   exact hend _ _ s5 _ m I6 (I3.fpOk (Wq _) dC) hn (qn _ dn4)
  ·have hitem:=T.item XC eP eW eK eC i _ s4 _ H4 (fun _ _=>False) P4 (stat fr4) st4 go
   rw [eA] at hitem
   refine Xr hitem (fun r s5 ⟨u,hr,h5⟩=>?_) fun _ _ z=>z
   subst hr
   dsimp only
   refine Xr h5 (fun _ s6 ⟨x,H6,I6,r6,y6,st6,fr6⟩=>?_) fun _ _ z=>z
   have P6:=I6.pinned (stat fr6) (T.obj _ _ st6)
   rw [← eE,← eP,← eW,← eA]
   refine Xr (hgC _ s6 _ H6 x u _ P6 r6 (step x H6 y6)) (fun _ s7 ⟨σ7,H7,I7,kp7,q7⟩=>?_) fun _ _ z=>by rw [eX] at z;exact z
   refine Xr (htC _ s7 σ7 H7 _ I7 q7) (fun ok s8 ⟨H8,I8,q8⟩=>?_) fun _ _ z=>by rw [eX] at z;exact z
   have fin:∀ {H9:Hp} {s9:Shared},Inv XC ([(s2.heap.objs.size,({cls:=.type "list",data:=.seq its.toArray nn}:Obj))] ++ rW fp s6.heap) σ7 H9 s9->Inv XC [] (dD sub U) H9 s9/\tn (i+1) s9.heap/\(∀ b∈fp,H9 b=none)/\H9 s2.heap.objs.size=none/\
     s9.heap.get? s2.heap.objs.size=some {cls:=.type "list",data:=.seq its.toArray nn}:=fun {H9 s9} J=>by
    have pD:=J.pin (s2.heap.objs.size,({cls:=.type "list",data:=.seq its.toArray nn}:Obj)) (by rw [ePn];simp)
    have pF:∀ b∈fp,∀ o,s6.heap.get? b=some o->s9.heap.get? b=some o/\H9 b=none:=fun b hb o e=>by
     have q:=J.pin (b,o) (by rw [ePn];exact Xn _ (Xn _ (mL hb e)))
     exact ⟨q.1,q.2.1⟩
    refine ⟨?_,T.keep _ _ _ st6 fun b hb o e=>(pF b hb o e).1,fun b hb=>?_,pD.2.1,pD.1⟩
    ·have J0:Inv XC [] σ7 H9 s9:=J.pins_of fun p hp=>nomatch hp
     exact J0.weak kp7.1.symm fun j v e=>kp7.2 j v e
    ·obtain ⟨o,e,_⟩:=T.obj _ _ st6 b hb
     exact (pF b hb o e).2
   cases ok with
   | false=>
    rw [if_neg (by simp)]
    rw [if_neg (by simp)] at q8
    obtain ⟨m',hm,w8⟩:=hN _ _ q8
    obtain ⟨a1,a2,a3,a4,a5⟩:=fin I8
    exact ⟨m',hm,i+1,ys,its,nn,H8,a1,a2,a3,a4,a5,rv4,w8⟩
   | true=>
    rw [if_pos rfl]
    rw [if_pos rfl] at q8
    refine Xr (heC _ s8 σ7 H8 _ I8 q8) (fun xv s9 ⟨y,H9,I9,r9,n9⟩=>?_) fun _ _ z=>by rw [eX] at z;exact z
    obtain ⟨m',hm,w9⟩:=hN _ _ n9
    obtain ⟨a1,a2,a3,a4,a5⟩:=fin I9
    refine wpAny_list_append_plain (items:=its.toArray) ⟨nn,a5⟩ (fun h' ⟨n',hp'⟩ sb=>?_) (by simp;rw [← rv4.length];omega)
    obtain ⟨q1,q2⟩:=I4.ok.exf s2.heap.objs.size (by rw [eEx];exact Xf)
    have a1':Inv XC [] (dD sub U) H9 {s9 with heap:=h'}:=a1.turned (t':=s9.toks) (fun b o hb e=>(sb.2 b hb).trans e) a4 q1 (.inl (by rw [eEx];exact Xf)) q2 (fun p hp=>by rw [ePn] at hp;exact nomatch hp)
    refine ⟨m',hm,i+1,ys ++ [y],its ++ [xv],n',H9,a1',T.keep _ _ _ a2 fun b hb o e=>(sb.2 b (fun z=>hDfp (by rw [← z];exact hb))).trans e,a3,a4,?_,rv4.append (.cons r9 .nil),w9⟩
    rw [hp']
    simp
 subst hs3
 exact codeAny_compStart_list loop (T.self _ 0 _ _ _ (T.keep _ _ _ st2 fun b _ o e=>hk31 b o (k23 b o e)) loop)
theorem Bx {N:List Str} {sc:Scope} {i:Nat} {x:Str} {pos' spos:Pos} (hNd:X.N.Nodup) (hxi:X.N[i]?=some x) (hx:Loc X.env.scope x) (hf:X.fn x=true) (S:ue N sc N' scope sub) (hc:X.calm=true) (hN:X.N=N) (hsc:X.env.scope=sc) (hi:PI X tg iter wi)
  (hg:∀ (C:Addr) (s₀:Shared) (H₀:Hp) (ex:List Addr),PG (pO X N' scope C s₀ H₀ ex) tg g)
  (ht:∀ (C:Addr) (s₀:Shared) (H₀:Hp) (ex:List Addr),yc (pO X N' scope C s₀ H₀ ex) ifs tt)
  (he:∀ (C:Addr) (s₀:Shared) (H₀:Hp) (ex:List Addr),PE (pO X N' scope C s₀ H₀ ex) elt te)
  (hs:∀ x,foldedSetIterable iter X.env x=pure x):PS X (.Assign [.Name x pos'] (.ListComp elt [⟨tg,iter,ifs,0⟩] scope pos) spos) (zb (u0 sub wi g tt te) (pU i)):=by
 intro pins s U H D I h
 have hsw:∃ b,swapsWith (.ListComp elt [⟨tg,iter,ifs,0⟩] scope pos) (some (.Name x pos')) spos.line X.env=pure b:=⟨_,rfl⟩
 obtain ⟨b,hsw⟩:=hsw
 cases b with
 | false=>exact GQ hNd hxi hx (Dk S hc hN hsc hi hg ht he hs) hsw (.inl hf) pins s U H D I h
 | true=>
  rw [exec_Assign_Name_used _ _ _ _ hsw]
  refine Wl (wpAny_standAt (Wl ?_))
  show wpAny _ X.A (do let _ ← comprehension (.ListComp elt [⟨tg,iter,ifs,0⟩] scope pos) scope X.env _ (newList []) false (eval iter X.env) (some (assign (.Name x pos') X.env))) _ _ s
  refine Wl (Xr (Ia (use:=some (assign (.Name x pos') X.env)) (R:=fun _ s'=>SP X pins D .next s') S hc hN hsc hi hg ht he hs pins s U H _ I h ?_) (fun _ s' hq=>Wt (Wt hq)) fun _ _ e=>e)
  intro Da C s5 H5 m I5 fC hn q
  show wpAny _ X.A (assign (.Name x pos') X.env (.ref Da)) _ _ _
  refine wpAny_assign_Name (wL I5 hNd hxi hx (v:=.ref Da) rfl (fun s6 I6 qq0=>?_) (.inl hf))
  obtain ⟨a,sb,ha⟩:=qq0
  obtain ⟨f0,f1,f2,f3,f4,f5⟩:=fC
  have hCa:C≠a:=fun z=>by
   rcases ha with e | e
   ·exact f1 (z.trans e)
   ·exact f4 x a e z.symm
  exact ⟨m,hn.sameBut sb hCa,fun h' hs'=>⟨_,H5,I6.turned (t':=s6.toks) (fun b o hb e=>hs'.extBut b o hb e) f0 f1 f3 f4 f5,q⟩⟩
end
section
variable {X:Cx} {tg iter elt:Expr} {ifs:List Expr} {scope:Scope} {pos:Pos} {N':List Str} {sub:List (Option Nat)} {wi:TI} {g:TG} {tt:TT} {te:TE} {N:List Str} {sc:Scope}
theorem o8 {i:Nat} {x:Str} {pos' spos:Pos} (hNd:X.N.Nodup) (hxi:X.N[i]?=some x) (hx:Loc X.env.scope x) (S:ue N sc N' scope sub) (hc:X.calm=true) (hN:X.N=N) (hsc:X.env.scope=sc) (hi:JI X tg iter wi)
  (hg:∀ (C:Addr) (s₀:Shared) (H₀:Hp) (ex:List Addr),JG (pO X N' scope C s₀ H₀ ex) tg g)
  (ht:∀ (C:Addr) (s₀:Shared) (H₀:Hp) (ex:List Addr),Ml (pO X N' scope C s₀ H₀ ex) ifs tt)
  (he:∀ (C:Addr) (s₀:Shared) (H₀:Hp) (ex:List Addr),JE (pO X N' scope C s₀ H₀ ex) elt te) (hf:X.fn x=true) (h:autoParam (sr iter=true) L2.auto4._auto_1):
  JS X (.Assign [.Name x pos'] (.ListComp elt [⟨tg,iter,ifs,0⟩] scope pos) spos) (zb (u0 sub wi g tt te) (pU i)):=
 ⟨Bx hNd hxi hx hf S hc hN hsc hi.run (fun C s₀ H₀ ex=>(hg C s₀ H₀ ex).run) (fun C s₀ H₀ ex=>(ht C s₀ H₀ ex).run) (fun C s₀ H₀ ex=>(he C s₀ H₀ ex).run) (HQ h)⟩
end
section
variable {X:Cx} {pins:List (Addr×Obj)} {U:St} {H:Hp} {s:Shared}
theorem Inv.newtup {wr:List Addr} {T:Addr} {vals:Array Value} {xs:List V} {h'':Heap} {tk:Nat} (I:Inv X pins U H s) (hf:∀ b∈wr,lY X pins H b) (hT:s.heap.objs.size<=T)
  (kall:∀ b o,b ∉ wr->s.heap.get? b=some o->h''.get? b=some o) (isT':h''.IsTuple T vals) (hv:Vals xs vals.toList) (hx:xs.length<=sizeLine):Inv X pins U (upd H T (.tup xs)) {s with heap:=h'',toks:=tk}:=by
 have hTn:H T=none:=I.hok.fresh hT
 have nT:∀ b o,s.heap.get? b=some o->b≠T:=fun b o e=>Xc (WK (Wx e) hT)
 have nTH:∀ b u,H b=some u->b≠T:=fun b u e z=>by rw [z,hTn] at e;cases e
 have nW:∀ b u,H b=some u->b ∉ wr:=fun b u e hb=>by rw [(hf b hb).1] at e;cases e
 refine I.step (g':=s.gens) (d':=s.drawn) (ch:=wr) (fun b hb=>?_) (fun b o _ _ hc e _=>kall b o hc e) (fun b o _ _ hc e _=>⟨o.slots,kall b o hc e⟩) (fun b o _ e hn=>by rw [aB (nT b o e)];exact hn)
  (fun b o hc e=>⟨o,kall b o hc e⟩) (fun b ys e=>by rw [aB (nTH b _ e)];exact e) (fun b o u e=>by rw [aB (nTH b _ e)];exact e) (fun b ps e=>⟨#[],by rw [aB (nTH b _ e),e];simp⟩) (fun m hm=>?_) (fun b u e=>?_) I.bare
 ·obtain ⟨f0,f1,f2,f3,f4,f5⟩:=hf b hb
  exact ⟨f3,f1,f4,f5⟩
 ·obtain ⟨o,es,ep,ho,r⟩:=hm
  exact ⟨o,es,ep,kall _ o (fun hb=>(hf _ hb).2.1 rfl) ho,r⟩
 ·by_cases hb:b=T
  ·subst hb
   rw [aj] at e;cases e
   obtain ⟨o,ho,hcl,nn,hd⟩:=isT'
   exact ⟨hx,vals.toList,hv,o,ho,hcl,nn,by simpa using hd⟩
  ·rw [aB hb] at e
   refine (I.hok b u e).stay (fun c v hc' q=>kall c v ?_ q) (fun c q=>by rw [aB (nTH c _ q)];exact q) fun c ys q=>by rw [aB (nTH c _ q)];exact q
   rcases hc' with z | z
   ·rw [z];exact nW b u e
   ·exact nW c _ z
theorem Inv.only {wr:List Addr} {h':Heap} {tk:Nat} (I:Inv X pins U H s) (hf:∀ b∈wr,lY X pins H b) (kk:∀ b o,b ∉ wr->s.heap.get? b=some o->h'.get? b=some o):Inv X pins U H {s with heap:=h',toks:=tk}:=by
 have nW:∀ b u,H b=some u->b ∉ wr:=fun b u e hb=>by rw [(hf b hb).1] at e;cases e
 refine I.step (g':=s.gens) (d':=s.drawn) (ch:=wr) (fun b hb=>?_) (fun b o _ _ hc e _=>kk b o hc e) (fun b o _ _ hc e _=>⟨o.slots,kk b o hc e⟩) (fun b o _ e hn=>hn)
   (fun b o hc e=>⟨o,kk b o hc e⟩) (fun b ys e=>e) (fun b o u e=>e) (fun b ps e=>⟨#[],by rw [e];simp⟩) (fun m hm=>?_) (fun b u e=>?_) I.bare
 ·obtain ⟨f0,f1,f2,f3,f4,f5⟩:=hf b hb
  exact ⟨f3,f1,f4,f5⟩
 ·obtain ⟨o,es,ep,ho,r⟩:=hm
  exact ⟨o,es,ep,kk _ o (fun hb=>(hf _ hb).2.1 rfl) ho,r⟩
 ·refine (I.hok b u e).stay (fun c v hc' q=>kk c v ?_ q) (fun c q=>q) fun c ys q=>q
  rcases hc' with z | z
  ·rw [z];exact nW b u e
  ·exact nW c _ z
end
def TJ (K:W.Frag) (a:Addr):It:=
 ⟨fun i H=>∃ xs x,SqL K H a xs/\xs[i]?=some x,
  fun i H v H'=>∃ T x,H T=none/\v= .ref T/\(∀ xs,SqL K H a xs->xs[i]?=some x)/\H'=upd H T (.tup [.int i,x]),
  fun i H=>∃ xs,SqL K H a xs/\xs.length<=i⟩
theorem By {P:Program} {w:World} {K:W.Frag} {elts:List Expr} {k:Nat} {pos:Pos} {e it a:Addr} (hne:e≠it):
  Turn P w K (.Tuple elts k pos) (TJ K a) [e,it] e (fun i h=>(∃ old,IsEnum h e it i old)/\h.IsListIter it a i) where
 mem:=by simp
 obj:=fun i h st c hc=>by
  obtain ⟨⟨old,he⟩,⟨o1,e1,c1,d1⟩⟩:=st
  simp only [WD,Xb,or_false] at hc
  rcases hc with rfl | rfl
  ·exact ⟨_,he,fun v z=>by cases z⟩
  ·exact ⟨_,e1,fun v z=>by rw [d1] at z;cases z⟩
 keep:=fun i h h' st kk=>by
  obtain ⟨⟨old,he⟩,h1⟩:=st
  exact ⟨⟨old,kk e (by simp) _ he⟩,h1.at fun o q=>kk it (by simp) o q⟩
 item:=by
  intro X hP hw hK hc i pins s U H E I hf st hg
  subst hP hw hK
  obtain ⟨⟨old,he⟩,h1⟩:=st
  obtain ⟨xs,x,hq,hx⟩:=hg
  obtain ⟨its,rv,p,_⟩:=I.list hq
  obtain ⟨u,hu,ru⟩:=rv.get hx
  refine wpAny_pyNext_enum_item he h1 p.isList (x:=u) (by simpa using hu) hne fun h' a1 a2 a3 a4 hk=>?_
  refine ⟨_,rfl,wpAny_letOwnedTupleGo_enum a1 fun h'' a1' sb=>?_⟩
  have lt:∀ {c o},s.heap.get? c=some o->s.heap.objs.size≠c:=fun e=>Yn (Wx e)
  have lti:s.heap.objs.size≠it:=by obtain ⟨o,q,_⟩:=h1;exact lt q
  have isT:h''.IsTuple s.heap.objs.size #[.int i s.toks,u]:=⟨_,sb.extBut _ _ (lt he) a3,rfl,_,rfl⟩
  have kall:∀ b o,b ∉ [e,it]->s.heap.get? b=some o->h''.get? b=some o:=fun b o hb q=>by
   simp only [WD,Xb,or_false,not_or] at hb
   exact sb.extBut _ _ hb.1 (hk b o hb.1 hb.2 q)
  have hTn:H s.heap.objs.size=none:=I.hok.fresh (Wq _)
  refine ⟨.ref s.heap.objs.size,_,I.newtup (tk:=s.toks+1) hf (Wq _) kall isT (xs:=[.int i,x]) (.cons ⟨_,rfl⟩ (.cons ru .nil)) (by simp;decide),rfl,⟨_,x,hTn,rfl,fun zs hs=>by rw [I.list_inj hs hq];exact hx,rfl⟩,?_,fun b hb=>?_⟩
  ·exact ⟨⟨_,a1'⟩,a2.extBut sb.extBut (Ne.symm hne)⟩
  ·have:s.heap.objs.size≠b:=by
    simp only [WD,Xb,or_false] at hb
    rcases hb with rfl | rfl
    ·exact lt he
    ·exact lti
   rw [aB (Ne.symm this)]
   exact (hf b hb).1
 done:=by
  intro X hP hw hK hc i pins s U H E I hf st hg
  subst hP hw hK
  obtain ⟨⟨old,he⟩,h1⟩:=st
  obtain ⟨xs,hq,hx⟩:=hg
  obtain ⟨its,rv,p,_⟩:=I.list hq
  have l1:=rv.length
  refine wpAny_pyNext_enum_end (I.ok.hd hc) he h1 p.isList (by simp;omega) fun h' hk=>⟨rfl,I.only (tk:=s.toks) hf fun b o hb q=>?_⟩
  simp only [WD,Xb,or_false,not_or] at hb
  exact hk b o hb.2 q
 self:=fun _ _ _ _ _ st h=>let ⟨⟨_,he⟩,_⟩:=st;Zc he h
theorem Fz {X:Cx} {elts:List Expr} {k:Nat} {tp:Pos} {pins:List (Addr×Obj)} {U:St} {H1:Hp} {s1:Shared} {x:Str} {t:Tok} {R:It->Hp->Prop} (hc:X.calm=true) (I1:Inv X pins U H1 s1) (q:R (Rq (iz x) x.cps.size) H1):
  wpAny (model X.prog X.w) X.A (call (.type "enumerate") [.str x t]) (fun v s1=>wpAny (model X.prog X.w) X.A (pyIter v) (PIE X pins U (.Tuple elts k tp) R) X.xe s1) X.xe s1:=by
 refine call_enumerate_str fun h' he hit hsz hk=>?_
 have J1:Inv X pins U H1 {s1 with heap:=h'}:=I1.kept (t':=s1.toks) hk
 have ne1:s1.heap.objs.size+1≠s1.heap.objs.size:=Nat.succ_ne_self _
 have nm:s1.heap.objs.size+1 ∉ [s1.heap.objs.size]:=fun z=>ne1 (WP.mp z)
 have hPt:∀ (i:Nat) (vals:Array Value),(∃ t y,SignAt x i y/\vals= #[.int i t,y])->Vals (iz x i) vals.toList:=by
  rintro i vals ⟨t,y,⟨c,u,e1,rfl⟩,rfl⟩
  refine .cons ⟨t,rfl⟩ (.cons ⟨u,?_⟩ .nil)
  rw [show x.cps.getD i 0=c by simp [Ym,e1]]
 have fin:∀ (ty:String) (Dr:∀ A:Around,A.handled=none->Draws X.prog X.w A s1.heap.objs.size [s1.heap.objs.size] x.cps.size (SignAt x) fun i h=>h.IsStrIter s1.heap.objs.size ty x t i),h'.IsStrIter s1.heap.objs.size ty x t 0->
   wpAny (model X.prog X.w) X.A (pyIter (.ref (s1.heap.objs.size+1))) (PIE X pins U (.Tuple elts k tp) R) X.xe {s1 with heap:=h'}:=by
  intro ty Dr hit'
  have W:∀ A:Around,A.handled=none->WalksT X.prog X.w A (s1.heap.objs.size+1) [s1.heap.objs.size+1,s1.heap.objs.size] [s1.heap.objs.size+1,s1.heap.objs.size] x.cps.size
    (fun i vals=>∃ t y,SignAt x i y/\vals= #[.int i t,y]) (fun i h=>(∃ old,IsEnum h (s1.heap.objs.size+1) s1.heap.objs.size i old)/\h.IsStrIter s1.heap.objs.size ty x t i)
    (fun i T h=>(∃ y,IsEnumOut h (s1.heap.objs.size+1) s1.heap.objs.size ((i:Int)+1) y T)/\h.IsStrIter s1.heap.objs.size ty x t (i+1)/\T≠s1.heap.objs.size+1/\T≠s1.heap.objs.size):=
   fun A hA=>WalksT.enumerateD (Dr A.in1 hA) (s1.heap.objs.size+1) ne1 nm (by simp)
  have hself:∀ (A:Around) (i:Nat) (s:Shared) (Q:Value->Shared->Prop) (E:Value->Shared->Prop),((∃ old,IsEnum s.heap (s1.heap.objs.size+1) s1.heap.objs.size i old)/\s.heap.IsStrIter s1.heap.objs.size ty x t i)->Q (.ref (s1.heap.objs.size+1)) s->wpAny (model X.prog X.w) A (pyIter (.ref (s1.heap.objs.size+1))) Q E s:=by
   rintro A i s Q E ⟨⟨old,he⟩,_⟩ hQ
   exact Zc he hQ
  refine hself _ 0 _ _ _ ⟨⟨_,he⟩,hit'⟩ ?_
  refine ⟨s1.heap.objs.size+1,[s1.heap.objs.size+1,s1.heap.objs.size],_,_,H1,rfl,J1,Rr W (fun i=>by simp [iz];decide) hPt (by simp) ?_ hself,⟨⟨_,he⟩,hit'⟩,fun b hb=>?_,q⟩
  ·rintro i h ⟨⟨old,he⟩,o,ho,hcl,hd⟩ b hb
   rcases WD.mp hb with rfl | hb
   ·exact ⟨_,he,fun v z=>by cases z⟩
   ·rw [WP.mp hb]
    exact ⟨o,ho,fun v z=>by rw [hd] at z;cases z⟩
  ·have hb':s1.heap.objs.size<=b:=by
    rcases WD.mp hb with rfl | hb
    ·exact Nat.le_succ _
    ·rw [WP.mp hb];exact Wq _
   exact I1.fpOk hb' (I1.hok.fresh hb')
 cases hx:x.cps.all (· < 128)
 ·exact fin "str_iterator" (fun A hA=>Draws.strWide hA _ x t) (by simpa [strIterType,hx] using hit)
 ·exact fin "str_ascii_iterator" (fun A hA=>Draws.strAscii hA _ x t) (by simpa [strIterType,hx] using hit)
def O7 (K:W.Frag) (ta:TA):TI:=fun U H R=>ta U H fun vs H1=>(∃ x:Str,vs=[.str x]/\R (Rq (iz x) x.cps.size) H1)\/∃ a xs,vs=[.ref a]/\SqL K H1 a xs/\R (TJ K a) H1
theorem jQ {X:Cx} {K:W.Frag} {a:Expr} {ta:TA} {elts:List Expr} {k:Nat} {tp p pos:Pos} (hK:X.K=K) (hc:X.calm=true) (hg:Gl X "enumerate") (hm:X.mg "enumerate"=none) (ha:JA X [a] ta) (h:autoParam (notStar a=true) L2.auto4._auto_1):
  JI X (.Tuple elts k tp) (.Call (.Name "enumerate" p) [a] [] pos) (O7 K ta):=⟨by
 subst hK
 intro pins s U H R I hq
 refine Call_ (jY I hg hm rm (Xo (dW (ha.run pos pins s U H _ I hq) fun us s1 qq0=>?_) (dm h) rfl))
 obtain ⟨vs,H1,I1,r1,q1⟩:=qq0
 rcases q1 with ⟨x,e,q⟩ | ⟨l,xs,e,hl,q⟩
 ·subst e
  obtain ⟨u,rfl,t,rfl⟩:=vals1 r1
  exact Fz hc I1 q
 ·subst e
  obtain ⟨u,rfl,ru⟩:=vals1 r1
  cases ru
  obtain ⟨its,rv,p1,_⟩:=I1.list hl
  refine call_enumerate_list p1.isList fun h' z1 z2 z3 hk=>?_
  have J1:Inv X pins U H1 {s1 with heap:=h'}:=I1.kept (t':=s1.toks) hk
  refine Zc z1 ?_
  refine ⟨s1.heap.objs.size+1,_,_,_,H1,rfl,J1,By (Nat.succ_ne_self _),⟨⟨_,z1⟩,z2⟩,fun b hb=>?_,q⟩
  have hb':s1.heap.objs.size<=b:=by
   simp only [WD,Xb,or_false] at hb
   have key:∀ n c:Nat,(c=n+1\/c=n)->n<=c:=fun n c h=>by omega
   exact key _ _ hb
  exact I1.fpOk hb' (I1.hok.fresh hb')⟩
end L2
namespace L2
open PySem PySem.Spec PyProof.Rows PySem.SeqAt
mutual
def DR (H:Hp):PyData->V->Prop
 | .none,v=>v= .non
 | .bool b,v=>v= .bl b
 | .int n,v=>v= .int n
 | .str x,v=>v= .str x
 | .list ds,v=>∃ a vs,v= .ref a/\H a=some (.lst vs)/\DRs H ds vs
 | .tuple ds,v=>∃ a vs,v= .ref a/\H a=some (.tup vs)/\DRs H ds vs
 | .dict _,_=>False
def DRs (H:Hp):List PyData->List V->Prop
 | [],vs=>vs=[]
 | d :: ds,vs=>∃ v r,vs=v :: r/\DR H d v/\DRs H ds r
end
mutual
theorem DR.same {H H':Hp} (s:Same H H'):∀ (d:PyData) (v:V),DR H d v->DR H' d v
 | .none,_,h=>by rw [DR] at h ⊢;exact h
 | .bool _,_,h=>by rw [DR] at h ⊢;exact h
 | .int _,_,h=>by rw [DR] at h ⊢;exact h
 | .str _,_,h=>by rw [DR] at h ⊢;exact h
 | .list ds,v,h=>by rw [DR] at h ⊢;obtain ⟨a,vs,e,q,r⟩:=h;exact ⟨a,vs,e,s _ _ q,DRs.same s ds vs r⟩
 | .tuple ds,v,h=>by rw [DR] at h ⊢;obtain ⟨a,vs,e,q,r⟩:=h;exact ⟨a,vs,e,s _ _ q,DRs.same s ds vs r⟩
 | .dict _,_,h=>by rw [DR] at h;exact h.elim
theorem DRs.same {H H':Hp} (s:Same H H'):∀ (ds:List PyData) (vs:List V),DRs H ds vs->DRs H' ds vs
 | [],_,h=>by rw [DRs] at h ⊢;exact h
 | d :: ds,vs,h=>by rw [DRs] at h ⊢;obtain ⟨v,r,e,q,t⟩:=h;exact ⟨v,r,e,DR.same s d v q,DRs.same s ds r t⟩
end
theorem qi {H:Hp} {n:Int} {v:V}:DR H (.int n) v↔v= .int n:=by rw [DR]
theorem o9 {H:Hp} {ds:List PyData} {v:V}:DR H (.list ds) v↔∃ a vs,v= .ref a/\H a=some (.lst vs)/\DRs H ds vs:=by rw [DR]
theorem zH {H:Hp} {ds:List PyData} {v:V}:DR H (.tuple ds) v↔∃ a vs,v= .ref a/\H a=some (.tup vs)/\DRs H ds vs:=by rw [DR]
theorem fQ {H:Hp} {vs:List V}:DRs H [] vs↔vs=[]:=by rw [DRs]
theorem dN {H:Hp} {d:PyData} {ds:List PyData} {vs:List V}:DRs H (d :: ds) vs↔∃ v r,vs=v :: r/\DR H d v/\DRs H ds r:=by rw [DRs]
theorem j6 {H:Hp}:∀ {ds es:List PyData} {vs ws:List V},DRs H ds vs->DRs H es ws->DRs H (ds ++ es) (vs ++ ws)
 | [],_,_,_,h,q=>by rw [fQ] at h;subst h;exact q
 | d :: ds,_,_,_,h,q=>by
  rw [dN] at h
  obtain ⟨v,r,rfl,hd,hr⟩:=h
  exact dN.mpr ⟨v,r ++ _,rfl,hd,j6 hr q⟩
theorem ph {H:Hp} {d:PyData} {v:V} (h:DR H d v):DRs H [d] [v]:=dN.mpr ⟨v,[],rfl,h,fQ.mpr rfl⟩
theorem yj {H:Hp}:∀ {ds:List PyData} {vs:List V},DRs H ds vs->vs.length=ds.length
 | [],_,h=>by rw [fQ] at h;subst h;rfl
 | d :: ds,_,h=>by rw [dN] at h;obtain ⟨v,r,rfl,_,hr⟩:=h;simp [yj hr]
theorem Ib {H:Hp}:∀ {ds:List PyData} {vs:List V} {i:Nat} {d:PyData},DRs H ds vs->ds[i]?=some d->∃ v,vs[i]?=some v/\DR H d v
 | [],_,_,_,_,e=>by simp at e
 | d :: ds,_,i,d',h,e=>by
  rw [dN] at h
  obtain ⟨v,r,rfl,hd,hr⟩:=h
  cases i with
  | zero=>simp at e;subst e;exact ⟨v,rfl,hd⟩
  | succ i=>simp at e;obtain ⟨u,h1,h2⟩:=Ib hr e;exact ⟨u,by simpa using h1,h2⟩
mutual
theorem DR.reads {P:Program} {w:World} {H:Hp} {h:Heap} (ok:HOk P w H h):∀ (d:PyData) (v:V) (u:Value),DR H d v->RelV v u->∃ as,Reads h u d as
 | .none,_,u,q,r=>by rw [DR] at q;subst q;cases r;exact ⟨_,.none⟩
 | .bool b,_,u,q,r=>by rw [DR] at q;subst q;cases r;exact ⟨_,.bool _⟩
 | .int n,_,u,q,r=>by rw [DR] at q;subst q;obtain ⟨t,rfl⟩:=r;exact ⟨_,.int _ _⟩
 | .str n,_,u,q,r=>by rw [DR] at q;subst q;obtain ⟨t,rfl⟩:=r;exact ⟨_,.str _ _⟩
 | .list ds,v,u,q,r=>by
  rw [DR] at q
  obtain ⟨a,vs,rfl,e,t⟩:=q
  cases r
  obtain ⟨_,its,n,rv,g⟩:=ok a _ e
  obtain ⟨as,ra⟩:=DRs.reads ok ds vs its t rv
  exact ⟨_,.list g rfl rfl (by simpa using ra)⟩
 | .tuple ds,v,u,q,r=>by
  rw [DR] at q
  obtain ⟨a,vs,rfl,e,t⟩:=q
  cases r
  obtain ⟨_,its,rv,g⟩:=ok a _ e
  obtain ⟨as,ra⟩:=DRs.reads ok ds vs its t rv
  obtain ⟨o,ho,hc,n,hd⟩:=g
  exact ⟨_,.tuple ho hc hd (by simpa using ra)⟩
 | .dict _,_,_,q,_=>by rw [DR] at q;exact q.elim
theorem DRs.reads {P:Program} {w:World} {H:Hp} {h:Heap} (ok:HOk P w H h):∀ (ds:List PyData) (vs:List V) (us:List Value),DRs H ds vs->Vals vs us->∃ as,ReadsAll h us ds as
 | [],_,us,q,r=>by rw [DRs] at q;subst q;cases r;exact ⟨_,.nil⟩
 | d :: ds,_,us,q,r=>by
  rw [DRs] at q
  obtain ⟨v,r',rfl,q1,q2⟩:=q
  cases r with
  | cons a b=>
   obtain ⟨as,h1⟩:=DR.reads ok d v _ q1 a
   obtain ⟨bs,h2⟩:=DRs.reads ok ds r' _ q2 b
   exact ⟨_,.cons h1 h2⟩
end
def U9:R2:=fun x y H Q=>∃ d e,DR H d x/\DR H e y/\shaped d=true/\shaped e=true/\Q (.bl (PyData.eqv d e)) H
def Va:R2:=fun x y H Q=>∃ d e,DR H d x/\DR H e y/\shaped d=true/\shaped e=true/\Q (.bl (!PyData.eqv d e)) H
section
variable {X:Cx}
theorem Ru (hu:X.A.units+64 < cLine):OpR X (compareOp .Eq) U9:=by
 intro pins s U H x y v u Q I rx ry h
 obtain ⟨d,e,h1,h2,h3,h4,q⟩:=h
 obtain ⟨as,r1⟩:=DR.reads I.hok d x v h1 rx
 obtain ⟨bs,r2⟩:=DR.reads I.hok e y u h2 ry
 exact eq_dataH r1 r2 h3 h4 hu ⟨.bl _,H,I,rfl,q⟩
theorem Rv (hu:X.A.units+64 < cLine):OpR X (compareOp .NotEq) Va:=by
 intro pins s U H x y v u Q I rx ry h
 obtain ⟨d,e,h1,h2,h3,h4,q⟩:=h
 obtain ⟨as,r1⟩:=DR.reads I.hok d x v h1 rx
 obtain ⟨bs,r2⟩:=DR.reads I.hok e y u h2 ry
 exact ne_dataH r1 r2 h3 h4 hu ⟨.bl _,H,I,rfl,q⟩
def Ie (K:W.Frag):R2:=fun x y H Q=>Q9 K x y H Q\/U9 x y H Q
def Mr (K:W.Frag):R2:=fun x y H Q=>U8 K x y H Q\/Va x y H Q
theorem BJ {K:W.Frag} (hK:X.K=K) (hu:X.A.units+64 < cLine):OpR X (compareOp .Eq) (Ie K):=(Rf hK (Nat.lt_of_le_of_lt (Nat.le_add_right _ _) hu)).or (Ru hu)
theorem mR {K:W.Frag} (hK:X.K=K) (hu:X.A.units+64 < cLine):OpR X (compareOp .NotEq) (Mr K):=(Rt hK hu).or (Rv hu)
end
section
variable {H:Hp} {Q:VK} {K:W.Frag} {U:St}
theorem bW {i j:Int} (h:Q (.bl (decide (V.int i=V.int j))) H):Ie K (.int i) (.int j) H Q:=.inl (.inl ⟨rfl,h⟩)
theorem bY {i j:Str} (h:Q (.bl (decide (V.str i=V.str j))) H):Ie K (.str i) (.str j) H Q:=.inl (.inl ⟨rfl,h⟩)
theorem cV {i j:Int} (h:Q (.bl (!decide (V.int i=V.int j))) H):Mr K (.int i) (.int j) H Q:=.inl (.inl ⟨rfl,h⟩)
theorem cW {i j:Str} (h:Q (.bl (!decide (V.str i=V.str j))) H):Mr K (.str i) (.str j) H Q:=.inl (.inl ⟨rfl,h⟩)
theorem Ig {x y:V} {d:PyData} (h1:DR H d x) (h2:DR H d y) (hs:shaped d=true) (h:Q (.bl true) H):Ie K x y H Q:=
 .inr ⟨d,d,h1,h2,hs,hs,by rw [PySem.SeqAt.eqv_refl d (canLay_of_shaped hs)];exact h⟩
theorem vq {x y:V} {d:PyData} (h1:DR H d x) (h2:DR H d y) (hs:shaped d=true) (h:Q (.bl false) H):Mr K x y H Q:=
 .inr ⟨d,d,h1,h2,hs,hs,by rw [PySem.SeqAt.eqv_refl d (canLay_of_shaped hs)];exact h⟩
theorem bA {a:TA} {R:It->Hp->Prop} (h:a U H fun vs H1=>(∃ x:Str,vs=[.str x]/\R (Rq (iz x) x.cps.size) H1)\/∃ a xs,vs=[.ref a]/\SqL K H1 a xs/\R (TJ K a) H1):O7 K a U H R:=h
theorem pA {a:Addr} {xs:List V} {g:TG} {tb:TS} {D:Ends} (Pv:Nat->St->Hp->Prop) (h0:Pv 0 U H) (hq:∀ i U H,i<=xs.length->Pv i U H->SqL K H a xs)
  (hs:∀ i U H T x,xs[i]?=some x->Pv i U H->H T=none->g (.ref T) U (upd H T (.tup [.int i,x])) fun σ2 H2=>tb {D with nx:=Pv (i+1),ct:=Pv (i+1),bk:=D.nx} σ2 H2) (hd:∀ U H,Pv xs.length U H->D.nx U H):
  ∃ W:Nat->Nat->St->Hp->Prop,(∃ m,W 0 m U H)/\∀ i m U H,W i m U H->
   ((TJ K a).stop i H/\D.nx U H)\/((TJ K a).go i H/\∃ N:St->Hp->Prop,(∀ U' H',N U' H'->∃ m',m' < m/\W (i+1) m' U' H')/\∀ x H',(TJ K a).yld i H x H'->g x U H' fun σ2 H2=>tb {D with nx:=N,ct:=N,bk:=D.nx} σ2 H2):=by
 refine ⟨fun i m U H=>m=xs.length - i/\i<=xs.length/\Pv i U H,⟨xs.length,by simp,Xx _,h0⟩,?_⟩
 rintro i m U H ⟨rfl,hi,p⟩
 have q1:=hq i U H hi p
 by_cases hlt:i < xs.length
 ·refine .inr ⟨⟨xs,xs[i],q1,Wn hlt⟩,Pv (i+1),fun U' H' p'=>⟨xs.length - (i+1),by omega,rfl,hlt,p'⟩,fun x H' y=>?_⟩
  obtain ⟨T,u,hT,e1,e2,e4⟩:=y
  subst e1 e4
  exact hs i U H T u (e2 xs q1) p hT
 ·have e:i=xs.length:=by omega
  subst e
  exact .inl ⟨⟨xs,q1,Wq _⟩,hd U H p⟩
end
end L2
namespace L2
open PySem PySem.Spec PyProof.Rows
theorem Ih:typeLookup (.type "list_reverseiterator") "__len__"=pure none:=by rw [Zb,Yu];kernel_rfl
theorem FJ:typeLookup (.type "list_reverseiterator") "__length_hint__"=pure (some (.builtin "list_reverseiterator.__length_hint__")):=by rw [Zb,Yu];kernel_rfl
section
variable {prog:Program} {w:World} {A:Around} {E:Value->Shared->Prop} {s:Shared}
theorem Ii {it l:Addr} {i:Int} {Q:Bool->Shared->Prop} (hit:s.heap.IsRevIter it l i) (h:Q false s):wpAny (model prog w) A (Builtin.List.listLengthHint (.ref it)) Q E s:=by
 unfold Builtin.List.listLengthHint
 refine Wl (wpAny_specialOf hit.typeIs Ih ?_)
 show wpAny _ _ (specialOf (Value.ref it) (Str.ofString "__length_hint__") >>=_) _ _ _
 refine Wl (wpAny_specialOf hit.typeIs FJ ?_)
 generalize hid:("list_reverseiterator.__length_hint__":String)=id0
 wp_delta
 rw [show splitId id0=some ("list_reverseiterator","__length_hint__") from by subst hid;trivial]
 subst hid
 refine Wl (Zk (T:="list_reverseiterator") (b:=true) hit.typeIs (by rw [Zh];kernel_rfl) ?_)
 refine wpAny_ite_split (fun hab=>absurd hab (by decide)) (fun _=>?_)
 refine wpAny_ite_split (fun _=>?_) (fun hab=>absurd (by trivial) hab)
 refine wpAny_ite_split (fun hab=>absurd hab (by trivial)) (fun _=>?_)
 exact Wt h
theorem Ij {it l:Addr} {items:Array Value} {Q:Value->Shared->Prop} (hh:A.handled=none) (hit:s.heap.IsRevIter it l ((items.size:Int) - 1)) (hl:s.heap.IsList l items) (hne:l≠it) (hn:items.size<=sizeLine)
  (hQ:∀ h' tk acc' c',(∀ b o,b≠it->s.heap.get? b=some o->h'.get? b=some o)->h'.get? s.heap.objs.size=some {cls:=.type "list",dict:=none,data:=.seq acc' c',slots:=#[]}->
   ItemsOf (fun i v=>items[items.size - 1 - i]?=some v) acc' items.size->Q (.ref s.heap.objs.size) {s with heap:=h',toks:=tk}):
  wpAny (model prog w) A (call (.type "list") [.ref it]) Q E s:=by
 refine callType_codes (Q₁:=fun obj s₁=>obj= .ref s.heap.objs.size/\s₁={s with heap:=s.heap.push {cls:=.type "list",data:=.seq #[]}}) F.called_list (F.typeCall_list_1 _) F.entry_list_init
  (code_list_new _ ⟨rfl,rfl⟩) fun obj s₁ h₁=>?_
 obtain ⟨rfl,rfl⟩:=h₁
 have iti:it < s.heap.objs.size:=by obtain ⟨o,e,_⟩:=hit;exact Wx e
 have itl:l < s.heap.objs.size:=by obtain ⟨o,e,_⟩:=hl;exact Wx e
 generalize hS0:s.heap.objs.size=S at iti itl hQ
 have hS:(s.heap.push {cls:=.type "list",data:=.seq #[]}).get? S=some {cls:=.type "list",data:=.seq #[]}:=by rw [← hS0];exact Ww _ rfl
 have kp:∀ b o,s.heap.get? b=some o->(s.heap.push {cls:=.type "list",data:=.seq #[]}).get? b=some o:=fun b o e=>Wr _ e
 generalize s.heap.push {cls:=.type "list",data:=.seq #[]}=h1 at hS kp
 have hit1:h1.IsRevIter it l ((items.size:Int) - 1):=hit.at fun o e=>kp it o e
 have hl1:h1.IsList l items:=hl.at fun o e=>kp l o e
 refine ⟨⟨_,hS,rfl⟩,F.args_list_init_2 _ _,?_⟩
 have nSi:S≠it:=Yn iti
 have nSl:S≠l:=Yn itl
 have hSf:S ∉ [it,l]:=by simp [nSi,nSl]
 have W:=(Walks.listRev (prog:=prog) (w:=w) (A:=A.in1.in1) hh it l hne items).toS
 show wpAny _ A.in1.in1 (do let old ← Builtin.List.listItems (.ref S);Builtin.List.listUpdate (.ref S) (fun _=>#[]);letGo old.toList.reverse;Builtin.List.listExtendWith (.ref S) (.ref it) .none) _ _ _
 unfold Builtin.List.listItems
 refine Wl (Wl (Y4 hS rfl (Wt ?_)))
 show wpAny _ A.in1.in1 (updateSeq S (fun _=>#[]) >>=fun _=>letGo (#[]:Array Value).toList.reverse >>=fun _=>Builtin.List.listExtendWith (.ref S) (.ref it) .none) _ _ _
 refine Wl (wpAny_updateSeq hS rfl ?_)
 have hS2:=XM (Obj.mapSeq (fun _=>(#[]:Array Value))) hS rfl
 have k2:∀ b o,b≠S->h1.get? b=some o->(h1.update S (Obj.mapSeq (fun _=>(#[]:Array Value)))).get? b=some o:=fun b o hb e=>(X8 _ _ (Ne.symm hb)).trans e
 generalize h1.update S (Obj.mapSeq (fun _=>(#[]:Array Value)))=h2 at hS2 k2
 have hit2:=hit1.at (h':=h2) fun o e=>k2 it o (Ne.symm nSi) e
 have hl2:=hl1.at (h':=h2) fun o e=>k2 l o (Ne.symm nSl) e
 refine Wl (wpAny_letGo ?_)
 unfold Builtin.List.listExtendWith
 refine Wl (wpAny_typeOf (T:="list_reverseiterator") (Heap.IsRevIter.typeIs (s:={s with heap:=h2}) hit2) ?_)
 have e1:Builtin.List.listSameRef (.ref S) (.ref it)=false:=by simp [Builtin.List.listSameRef,nSi]
 have e2:(Value.type "list_reverseiterator" == Value.type "list")=false:=by decide
 have e3:(Value.type "list_reverseiterator" == Value.type "tuple")=false:=by decide
 simp only [e1,e2,e3,Bool.or_false,Bool.false_eq_true,if_false]
 refine Wl (Yy (s:={s with heap:=h2}) hit2 ?_)
 refine Wl (X5 (Ii (s:={s with heap:=h2}) hit2 ?_))
 refine wpAny_ite_split (fun hab=>absurd hab (by trivial)) (fun _=>?_)
 refine Wt ⟨plainId_quiet F.plain_extend_loop _,?_⟩
 refine codeAny_extend_loopS W hn S hSf .none items.size 0 _ #[] _ rfl (Xx _) ⟨Xx _,by simpa using hit2,hl2⟩ hS2 (ItemsOf.nil _) fun s' acc' c' hm hS' hacc=>?_
 rw [Moved.eq_with hm]
 refine ⟨rfl,hQ s'.heap s'.toks acc' c' (fun b o hb e=>hm.heap b o (fun hmem=>?_) (k2 b o (fun z=>?_) (kp b o e))) hS' hacc⟩
 ·rcases WD.mp hmem with e' | hmem
  ·exact absurd (Wx e) (by rw [e',hS0];exact X4 _)
  ·exact hb (WP.mp hmem)
 ·exact absurd (Wx e) (by rw [z,hS0];exact X4 _)
end
section
variable {X:Cx} {K:W.Frag} {a b c e:Expr} {ta tb tc te:TE} {pos p p2 p3:Pos}
theorem Ms {op op':CmpOp} {r r':R2} (ho:OpR X (compareOp op) r) (ho':OpR X (compareOp op') r') (ha:JE X a ta) (hb:JE X b tb) (hc:JE X c tc) (hm:autoParam (lastMarks [op,op'] [b,c]=false) L2.auto5._auto_1):
  JE X (.Compare a [op,op'] [b,c] pos) (uR r r' ta tb tc):=⟨Ha ho ho' ha.run hb.run hc.run hm⟩
theorem Ik {op op':CmpOp} {r r':R2} (ho:OpR X (compareOp op) r) (ho':OpR X (compareOp op') r') (ha:JE X a ta) (hb:JE X b tb) (hc:JE X c tc) (hm:autoParam (lastMarks [op,op'] [b,c]=false) L2.auto5._auto_1):
  JT X (.Compare a [op,op'] [b,c] pos) (wN (uR r r' ta tb tc)):=⟨Hb ho ho' ha.run hb.run hc.run hm⟩
theorem arg1 {Q:List Value->Shared->Prop} {E:Value->Shared->Prop} {s:Shared} (hs:notStar e=true) (h:wpAny (model X.prog X.w) X.A (eval e X.env) (fun u s1=>Q [u] s1) E s):wpAny (model X.prog X.w) X.A (spliced (backTo pos (starEach [e] X.env))) Q E s:=by
 rw [dm hs]
 show wpAny _ _ (spliced ((false,eval e X.env) :: backTo pos (starEach [] X.env))) _ _ s
 exact Calls.spliced_cons (Xr h (fun u s1 q=>Calls.spliced_nil q) fun _ _ z=>z)
def Il (K:W.Frag) (ta:TE):TE:=fun U H Q=>ta U H fun x H1=>∃ l xs,x= .ref l/\SqL K H1 l xs/\∀ q,H1 q=none->Q (.ref q) (upd H1 q (.lst xs.reverse))
theorem xg (hK:X.K=K) (hc:X.calm=true) (hg:Gl X "list") (hm:X.mg "list"=none) (hg2:Gl X "reversed") (hm2:X.mg "reversed"=none) (ha:JE X a ta) (h:autoParam (notStar a=true) L2.auto4._auto_1):
  JE X (.Call (.Name "list" p) [.Call (.Name "reversed" p2) [a] [] p3] [] pos) (Il K ta):=⟨by
 subst hK
 intro pins s U H Q I hq
 refine XX (jY I hg hm jP (Xo (arg1 rfl (XX (jY I hg2 hm2 n8 (Xo (arg1 h (dW (ha.run pins s U H _ I hq) fun u s1 qq0=>?_)) (dm h) rfl)))) rfl rfl))
 obtain ⟨x,H1,I1,rx,l,xs,ex,hx,q⟩:=qq0
 subst ex
 cases rx
 obtain ⟨its,r,ht,hz⟩:=I1.list hx
 have hlen:=r.length
 refine call_reversed_list ht.isList ?_
 have lt:l < s1.heap.objs.size:=by obtain ⟨o,ho,_⟩:=ht.isList;exact Wx ho
 have e0:(s1.heap.push (PySem.revObj l ((its.toArray.size:Int) - 1))).get? s1.heap.objs.size=some (PySem.revObj l ((its.toArray.size:Int) - 1)):=Ww _ rfl
 have k0:∀ b o,s1.heap.get? b=some o->(s1.heap.push (PySem.revObj l ((its.toArray.size:Int) - 1))).get? b=some o:=fun b o q=>Wr _ q
 have s0:(s1.heap.push (PySem.revObj l ((its.toArray.size:Int) - 1))).objs.size=s1.heap.objs.size+1:=XH ..
 refine Ij (it:=s1.heap.objs.size) (l:=l) (I1.ok.hd hc) ⟨_,e0,rfl,rfl⟩ (ht.isList.at fun o q=>k0 l o q) (Xc lt) (by simp;omega) fun h' tk acc' c' hk hS hacc=>?_
 have eacc:acc'.toList=its.reverse:=by
  apply Zd
  intro i
  have a1:acc'.size=its.length:=by have:=hacc.1;simpa using this
  by_cases hi:i < its.length
  ·have hi':i < acc'.size:=by omega
   have a2:=hacc.2 i acc'[i] (Yc hi')
   rw [List.getElem?_reverse hi]
   simp at a2
   rw [a2]
   simp [hi']
  ·rw [XN (by simp;omega),XN (by simp;omega)]
 have rr:Vals xs.reverse acc'.toList:=by rw [eacc];exact r.reverse
 have k1:∀ b o,s1.heap.get? b=some o->h'.get? b=some o:=fun b o z=>hk b o (Xc (Wx z)) (k0 b o z)
 have hle:s1.heap.objs.size<=(s1.heap.push (PySem.revObj l ((its.toArray.size:Int) - 1))).objs.size:=by rw [s0];exact Nat.le_succ _
 refine ⟨.ref _,_,I1.laid (t':=tk) (o:=.lst xs.reverse) k1 hle ⟨by simp;omega,acc'.toList,c',rr,by simpa using hS⟩,rfl,q _ (I1.hok.fresh hle)⟩⟩
end
def FN (h:Heap) (T:Addr):Prop:=∃ oT ts,h.get? T=some oT/\oT.data= .fields ts/\3 < ts.size
def f9 (C:Addr) (dd:Option Addr) (vs:Array Value):Obj:={cls:=.ref C,dict:=dd,data:=.fields vs}
def Mt (l:List Env):List Addr:=l.filterMap (·.frame)
section
variable {M:Model} {A:Around} {E:Value->Shared->Prop}
theorem xj {base:Heap} {env:Env} {outer:List Env} {L x C:Addr} {dd:Option Addr} {vs:Array Value} {hd:Value} {had:Bool} {Q:Unit->Shared->Prop} {s:Shared}
  (fr:A.frames=some (env :: outer)) (ff:s.heap.FunFrames base (env :: outer)) (fL:env.frame=some L) (ex:s.heap.get? x=some (f9 C dd vs)) (sz:1 < vs.size) (nx:x ∉ Mt (env :: outer))
  (k:∀ h' T,h'.get? x=some (f9 C dd (vs.setIfInBounds 1 (.ref T)))->s.heap.objs.size<=T->FN h' T->(∀ b o,b≠x->b ∉ Mt (env :: outer)->s.heap.get? b=some o->h'.get? b=some o)->
   (∀ b o,b≠x->s.heap.get? b=some o->∃ sl,h'.get? b=some {o with slots:=sl})->Q () {s with heap:=h'}):
  wpAny M A (do let c ← frameOf env;let pl ← entryPlaceOf L had;let t ← EntryCells.newEntry hd c .none (rawInt L) .none pl;setField (.ref x) 1 t) Q E s:=by
 refine Wl (wpAny_frameOf_fun fr ff fL fun g1 so=>?_)
 refine Wl (wpAny_entryPlaceOf fun pl isp=>?_)
 unfold EntryCells.newEntry newFields
 refine Wl (XJ ?_ (isp.sizeOk5 _ _ _ _ _))
 have x1:g1.get? x=some (f9 C dd vs):=(so.2.1 x nx).trans ex
 have lts:([hd,Value.ref L,.none,rawInt L,.none] ++ (if pl.isEmpty then List.replicate 6 Value.none else pl)).toArray.size > 3:=by
  simp only [WQ,Xl,Xy,List.length_nil];omega
 generalize ([hd,Value.ref L,.none,rawInt L,.none] ++ (if pl.isEmpty then List.replicate 6 Value.none else pl)).toArray=tv at lts
 have x2:(g1.push {cls:=.type "traceback",dict:=none,data:=.fields tv}).get? x=some (f9 C dd vs):=Wr _ x1
 have nTx:g1.objs.size≠x:=Yn (Wx x1)
 have t2:(g1.push {cls:=.type "traceback",dict:=none,data:=.fields tv}).get? g1.objs.size=some {cls:=.type "traceback",dict:=none,data:=.fields tv}:=Ww _ rfl
 have o2:∀ b o,g1.get? b=some o->(g1.push {cls:=.type "traceback",dict:=none,data:=.fields tv}).get? b=some o:=fun b o e=>Wr _ e
 refine Y5 (vs:=vs) x2 rfl sz ?_
 have e3:=XM (Obj.mapFields (·.setIfInBounds 1 (Value.ref g1.objs.size))) x2 rfl
 have ot:∀ b,b≠x->((g1.push {cls:=.type "traceback",dict:=none,data:=.fields tv}).update x (Obj.mapFields (·.setIfInBounds 1 (Value.ref g1.objs.size)))).get? b=(g1.push {cls:=.type "traceback",dict:=none,data:=.fields tv}).get? b:=fun b hb=>X8 _ _ (Ne.symm hb)
 refine k _ g1.objs.size e3 (by rw [so.1];exact Wq _) ⟨_,tv,(ot _ nTx).trans t2,rfl,lts⟩ (fun b o hb hf e=>?_) (fun b o hb e=>?_)
 ·rw [ot b hb];exact o2 b o ((so.2.1 b hf).trans e)
 ·obtain ⟨sl,q⟩:=so.2.2 b o e
  exact ⟨sl,by rw [ot b hb];exact o2 b _ q⟩
structure Ds (fs:List Addr) (x C:Addr) (dd:Option Addr) (hd:Option Addr) (h h':Heap) (T:Addr):Prop where
 obj:∃ vs,h'.get? x=some (f9 C dd vs)/\vs[1]?=some (.ref T)/\vs[2]?=some .none
 tb:FN h' T
 ne:T≠x
 new:h.objs.size<=T\/hd=some T
 keep:∀ b o,b≠x->some b≠hd->b ∉ fs->h.get? b=some o->h'.get? b=some o
 slot:∀ b o,b≠x->some b≠hd->h.get? b=some o->∃ sl,h'.get? b=some {o with slots:=sl}
 tail:∀ b o,hd=some b->h.get? b=some o->∃ o',h'.get? b=some o'
theorem Vb {base:Heap} {env:Env} {outer:List Env} {L x C:Addr} {dd:Option Addr} {vs:Array Value} {Q:Unit->Shared->Prop} {s:Shared}
  (fr:A.frames=some (env :: outer)) (ff:s.heap.FunFrames base (env :: outer)) (fL:env.frame=some L) (ex:s.heap.get? x=some (f9 C dd vs)) (h1:vs[1]?=some .none/\vs[2]?=some .none) (nx:x ∉ Mt (env :: outer))
  (k:∀ h' T,Ds (Mt (env :: outer)) x C dd none s.heap h' T->Q () {s with heap:=h'}):wpAny M A (noteFrame (.ref x) env) Q E s:=by
 unfold noteFrame
 simp only [fL]
 refine Wl (Xu ex rfl h1.1 ?_)
 rw [if_neg (by decide)]
 have sz:1 < vs.size:=(Array.getElem?_eq_some_iff.mp h1.1).1
 refine xj fr ff fL ex sz nx fun h' T a1 a2 a3 a4 a5=>k h' T ⟨⟨_,a1,by simp [sz],by rw [Array.getElem?_setIfInBounds_ne (by decide)];exact h1.2⟩,a3,?_,.inl a2,fun b o hb _ hf e=>a4 b o hb hf e,fun b o hb _ e=>a5 b o hb e,fun b o z=>by cases z⟩
 exact Yn (WK (Wx ex) a2)
theorem Vc {base:Heap} {env:Env} {outer:List Env} {L x C T0:Addr} {dd:Option Addr} {vs:Array Value} {Q:Unit->Shared->Prop} {s:Shared}
  (fr:A.frames=some (env :: outer)) (ff:s.heap.FunFrames base (env :: outer)) (fL:env.frame=some L) (ex:s.heap.get? x=some (f9 C dd vs)) (h1:vs[1]?=some (.ref T0)/\vs[2]?=some .none) (t0:FN s.heap T0) (ne:T0≠x) (nx:x ∉ Mt (env :: outer)) (nT:T0 ∉ Mt (env :: outer))
  (k:∀ h' T,Ds (Mt (env :: outer)) x C dd (some T0) s.heap h' T->Q () {s with heap:=h'}):wpAny M A (noteFrame (.ref x) env) Q E s:=by
 obtain ⟨oT,ts,g,d,l3⟩:=id t0
 unfold noteFrame
 simp only [fL]
 refine Wl (Xu ex rfl h1.1 ?_)
 rw [if_pos (show (Value.ref T0 != Value.none)=true from by simp)]
 refine Wl (Xu g d (Yc l3) ?_)
 by_cases q:(ts[3] == rawInt L)=true
 ·rw [if_pos q]
  exact Wt (k _ T0 ⟨⟨vs,ex,h1⟩,t0,ne,.inr rfl,fun b o _ _ _ e=>e,fun b o _ _ e=>⟨o.slots,e⟩,fun b o _ e=>⟨o,e⟩⟩)
 ·rw [if_neg q]
  refine Wl (Y5 g d l3 ?_)
  have tT:=XM (Obj.mapFields (·.setIfInBounds 3 Value.none)) g (YL (Yh d _))
  have ot:∀ b,b≠T0->(s.heap.update T0 (Obj.mapFields (·.setIfInBounds 3 Value.none))).get? b=s.heap.get? b:=fun b hb=>X8 _ _ (Ne.symm hb)
  have sz:1 < vs.size:=(Array.getElem?_eq_some_iff.mp h1.1).1
  have ff2:(s.heap.update T0 (Obj.mapFields (·.setIfInBounds 3 Value.none))).FunFrames base (env :: outer):=ff.of_keeps fun b o hb hn=>by
   refine ⟨o,(ot b (fun z=>?_)).trans hb,rfl⟩
   rw [z,g] at hb;cases hb;exact hn _ d
  refine xj (s:={s with heap:=s.heap.update T0 (Obj.mapFields (·.setIfInBounds 3 Value.none))}) fr ff2 fL ((ot x (Ne.symm ne)).trans ex) sz nx fun h' T a1 a2 a3 a4 a5=>k h' T ⟨⟨_,a1,by simp [sz],by rw [Array.getElem?_setIfInBounds_ne (by decide)];exact h1.2⟩,a3,?_,.inl (by rw [Heap.size_update] at a2;exact a2),fun b o hb h0 hf e=>a4 b o hb hf ((ot b (fun z=>h0 (by rw [z]))).trans e),fun b o hb h0 e=>a5 b o hb ((ot b (fun z=>h0 (by rw [z]))).trans e),fun b o hb e=>?_⟩
  ·exact Yn (WK (Wx ex) (by rw [Heap.size_update] at a2;exact a2))
  ·cases hb
   obtain ⟨sl,z⟩:=a5 T0 _ ne tT
   exact ⟨_,z⟩
theorem Vd {x C T0:Addr} {dd:Option Addr} {vs:Array Value} {Q:Unit->Shared->Prop} {s:Shared} (ex:s.heap.get? x=some (f9 C dd vs)) (h1:vs[1]?=some (.ref T0)/\vs[2]?=some .none) (t0:FN s.heap T0) (ne:T0≠x)
  (k:∀ h',Ds [] x C dd (some T0) s.heap h' T0->Q () {s with heap:=h'}):wpAny M A (setFlight (.ref x) none) Q E s:=by
 obtain ⟨oT,ts,g,d,l3⟩:=id t0
 unfold setFlight
 refine Wl (Xu ex rfl h1.1 ?_)
 rw [if_pos (show (Value.ref T0 != Value.none)=true from by simp)]
 refine Y5 g d l3 (k _ ?_)
 have d2:=Yh d (·.setIfInBounds 3 ((none:Option Addr).elim Value.none fun f=>rawInt f))
 have tT:=XM (Obj.mapFields (·.setIfInBounds 3 ((none:Option Addr).elim Value.none fun f=>rawInt f))) g (YL d2)
 have ot:∀ b,b≠T0->(s.heap.update T0 (Obj.mapFields (·.setIfInBounds 3 ((none:Option Addr).elim Value.none fun f=>rawInt f)))).get? b=s.heap.get? b:=fun b hb=>X8 _ _ (Ne.symm hb)
 exact ⟨⟨vs,(ot x (Ne.symm ne)).trans ex,h1⟩,⟨_,_,tT,d2,by simpa using l3⟩,ne,.inr rfl,fun b o _ h0 _ e=>(ot b (fun z=>h0 (by rw [z]))).trans e,fun b o _ h0 e=>⟨o.slots,(ot b (fun z=>h0 (by rw [z]))).trans e⟩,fun b o hb e=>by cases hb;exact ⟨_,tT⟩⟩
end
def Ve:List Value:=[.type "ValueError",.type "Exception",.type "BaseException",.type "object"]
def TQ (K:W.Frag) (D:Addr):Bool:=match K.lookup D with
 | some ⟨.type "type",_,.cls cd,sl⟩=>(match cd.mro,sl.toList with
  | .ref E :: bm,[_,_,_,_,some (.builtin n),_]=>E == D && n == "ValueError.__new__" && cd.hasDel == false && cd.hasDict && PySem.W.tailIn K Ve bm
  | _,_=>false)
 | _=>false
theorem vy {K:W.Frag} {D:Addr} (q:TQ K D=true):∃ nm qn N bs bm sn sub ab col dd k0 k1 k2 k3 k5,K.lookup D=some (excClassObj nm qn D N bs bm true sn sub ab col dd k0 k1 k2 k3 k5 "ValueError.__new__")/\∀ h,K.In h->OwnTail h Ve bm:=by
 unfold TQ at q
 split at q
 ·rename_i dd cd sl ho
  split at q
  ·rename_i D' bm k0 k1 k2 k3 n k5 hm hs
   simp only [WX,Yv] at q
   obtain ⟨⟨⟨⟨e1,e2⟩,e3⟩,e4⟩,e5⟩:=q
   subst e1 e2
   obtain ⟨nm,bs,mro,ns,qn,hd,sn,sub,ab,col,del⟩:=cd
   dsimp only at hm e3 e4
   subst hm e3 e4
   have hsl:sl= #[k0,k1,k2,k3,some (.builtin "ValueError.__new__"),k5]:=by
    obtain ⟨l⟩:=sl
    dsimp only at hs
    rw [hs]
   subst hsl
   exact ⟨nm,qn,ns,bs,bm,sn,sub,ab,col,dd,k0,k1,k2,k3,k5,ho,fun h X=>PySem.W.tail_of_in X e5⟩
  ·cases q
 ·cases q
section
variable {prog:Program} {w:World} {A:Around} {K:W.Frag} {D f:Addr} {E:Value->Shared->Prop}
theorem zJ {h:Heap} {g:Array GenState} {d:Drawn} {t:Nat} {os:OsState} {us:List Value} {Q:Fin->Shared->Prop} (X:K.In h) (hx:TQ K D=true)
  (hi:PySem.W.findIn K (.ref D) "__init__"=some (some (.ref f))) (hf:PySem.W.typeIn K (.ref f)=some (.type "function")) (hl:us.length<=sizeLine)
  (k:wpAny (model prog w) A (call (.ref f) (.ref (h.objs.size+1) :: us)) (fun r s'=>r= .none/\Q (.done (.ret (.ref (h.objs.size+1)))) s') E
   ⟨(h.push {cls:=.type "tuple",data:=.seq us.toArray}).push (f9 D none #[.ref h.objs.size,.none,.none,.none,.bool false,.none]),g,d,t,os⟩):
  wpAny (model prog w) A (Builtin.«type.__call__» ⟨.ref D :: us,[]⟩) Q E ⟨h,g,d,t,os⟩:=by
 obtain ⟨nm,qn,N,bs,bm,sn,sub,ab,col,dd,k0,k1,k2,k3,k5,lk0,tl⟩:=vy hx
 have T:=tl h X
 have hD:=X _ _ lk0
 have L3:=Yj (M:=model prog w) X hi
 have L4:=PySem.W.bind_fn (M:=model prog w) X (.ref (h.objs.size+1)) hf
 repeat (first | with_reducible refine Yg hD ?_ | with_reducible refine wpAny_madeBy_exc hD ?_ | wp_step)
 refine codeAny_call_builtin_code (Code.quiet_builtin _ F.excBase_ValueError.quiet) (wpAny_check_new_subT F.excBase_ValueError T hD (codeAny_exc_new_subT F.excBase_ValueError T hD ?_ hl))
 show wpAny _ _ _ _ _ _
 have keep:∀ b o,h.get? b=some o->((h.push {cls:=.type "tuple",data:=.seq us.toArray}).push (f9 D none #[.ref h.objs.size,.none,.none,.none,.bool false,.none])).get? b=some o:=fun b o q=>Wr _ (Wr _ q)
 have gx:((h.push {cls:=.type "tuple",data:=.seq us.toArray}).push (f9 D none #[.ref h.objs.size,.none,.none,.none,.bool false,.none])).get? (h.objs.size+1)=some (f9 D none #[.ref h.objs.size,.none,.none,.none,.bool false,.none]):=by
  have:=Ww (h.push {cls:=.type "tuple",data:=.seq us.toArray}) (o:=f9 D none #[.ref h.objs.size,.none,.none,.none,.bool false,.none]) rfl
  rwa [XH] at this
 have hD1:=keep _ _ hD
 have M3:=L3.keeps keep
 have M4:=L4.keeps keep
 have cD:(Value.ref D :: bm).contains (.ref D)=true:=by simp
 unfold f9 at gx M3 M4 hD1 k
 unfold isInstance
 repeat (first | with_reducible refine Yg gx ?_ | (with_reducible refine YW hD1 ?_;rw [cD]) | wp_step)
 show wpAny _ _ (typeLookup (.ref D) _) _ _ _
 refine M3.at ?_
 refine X5 (Wl (M4.at ?_))
 dsimp only
 refine Wl (Xr k (fun r s' hr=>?_) fun _ _ z=>z)
 obtain ⟨rfl,z⟩:=hr
 wp_walk
 exact z
theorem Rw {s:Shared} {us:List Value} {Q:Value->Shared->Prop} (X:K.In s.heap) (hx:TQ K D=true)
  (hi:PySem.W.findIn K (.ref D) "__init__"=some (some (.ref f))) (hf:PySem.W.typeIn K (.ref f)=some (.type "function")) (hl:us.length<=sizeLine)
  (k:wpAny (model prog w) (A.under (.builtin "type.__call__" ⟨.ref D :: us,[]⟩)) (call (.ref f) (.ref (s.heap.objs.size+1) :: us)) (fun r s'=>r= .none/\Q (.ref (s.heap.objs.size+1)) s') E
   {s with heap:=(s.heap.push {cls:=.type "tuple",data:=.seq us.toArray}).push (f9 D none #[.ref s.heap.objs.size,.none,.none,.none,.bool false,.none])}):
  wpAny (model prog w) A (call (.ref D) us) Q E s:=by
 obtain ⟨h,g,d,t,os⟩:=s
 obtain ⟨nm,qn,N,bs,bm,sn,sub,ab,col,dd,k0,k1,k2,k3,k5,lk0,tl⟩:=vy hx
 have hD:=X _ _ lk0
 have f1:=tc_lookup
 have f2:=tc_bind (.ref D)
 have hT:(⟨h,g,d,t,os⟩:Shared).TypeIs (.ref D) "type":=⟨_,hD,rfl⟩
 refine Zg (codeAny_of_tree ?_)
 show wpAny _ _ (callAny (.ref D) _) _ _ _
 repeat (any_goals (first | assumption | with_reducible refine Yg hD ?_ | wp_step))
 refine ⟨rfl,codeAny_call_builtin_at (Code.quiet_builtin _ (by trivial)) entry_typeCall (wpAny_check_type_call_sub hD (zJ X hx hi hf hl ?_))⟩
 exact k
end
def sy (x C dx:Addr):HO:=.ext fun h=>∃ vs,h.get? x=some (f9 C (some dx) vs)/\vs[2]?=some .none
def j7 (x C:Addr):HO:=.ext fun h=>∃ t,h.get? x=some (f9 C none #[.ref t,.none,.none,.none,.bool false,.none])
theorem Dt {P:Program} {w:World} {H:Hp} {h:Heap} {x C dx:Addr} {vs:Array Value} (e:h.get? x=some (f9 C (some dx) vs)) (h2:vs[2]?=some .none):ObjOk P w H h x (sy x C dx):=
 ⟨⟨vs,e,h2⟩,⟨_,e⟩,fun h1 h2 ⟨vs,e,z⟩ k=>⟨vs,k _ e,z⟩⟩
theorem Du {P:Program} {w:World} {H:Hp} {h:Heap} {x C dx:Addr} (ok:HOk P w H h) (e:H x=some (sy x C dx)):∃ vs,h.get? x=some (f9 C (some dx) vs)/\vs[2]?=some .none:=(ok _ _ e).1
structure Head (X:Cx) (pins:List (Addr×Obj)) (H:Hp) (x C dx T:Addr) (h:Heap):Prop where
 obj:∃ vs,h.get? x=some (f9 C (some dx) vs)/\vs[1]?=some (.ref T)/\vs[2]?=some .none
 tb:FN h T
 fp:lY X pins H T
 tr:H x=some (sy x C dx)
theorem Head.ne {X:Cx} {pins:List (Addr×Obj)} {H:Hp} {x C dx T:Addr} {h:Heap} (a:Head X pins H x C dx T h):T≠x:=fun z=>by
 have:=a.fp.1
 rw [z,a.tr] at this;cases this
def Fly (X:Cx) (pins:List (Addr×Obj)) (H:Hp) (x C dx:Addr) (h:Heap):Prop:=
 H x=some (sy x C dx)/\((∃ vs,h.get? x=some (f9 C (some dx) vs)/\vs[1]?=some .none/\vs[2]?=some .none)\/∃ T,Head X pins H x C dx T h)
section
variable {X:Cx} {pins:List (Addr×Obj)} {U:St} {H:Hp} {s:Shared} {x C dx:Addr} {h':Heap} {T:Addr} {hd:Option Addr}
theorem Inv.noted {fs:List Addr} (I:Inv X pins U H s) (hx:H x=some (sy x C dx)) (hh:∀ b,hd=some b->lY X pins H b) (hf:∀ b∈fs,b∈X.env.locals :: X.fs) (N:Ds fs x C (some dx) hd s.heap h' T):Inv X pins U H {s with heap:=h'}:=by
 obtain ⟨m,⟨oL,esL,epL,hoL,rL⟩,_⟩:=id I.loc
 have fsF:∀ b∈fs,H b=none:=fun b hb=>by
  rcases WD.mp (hf b hb) with e | hb
  ·rw [e];exact I.free
  ·obtain ⟨_,o,ho,_⟩:=I.ok.funs.mem hb
   exact I.base.free b o ho (I.ok.frf b hb) fun z=>I.ok.exfs b z hb
 have nx:∀ b,H b=none->b≠x:=fun b n z=>by rw [z,hx] at n;cases n
 have hdF:∀ b,hd=some b->H b=none:=fun b e=>(hh b e).1
 have mem:∀ b,b ∉ hd.toList->some b≠hd:=fun b nb z=>nb (by rw [← z];simp)
 refine I.step (g':=s.gens) (d':=s.drawn) (t':=s.toks) (ch:=hd.toList) (fun b hb=>?_) (fun b o hL hb hc e n=>?_) (fun b o hL hb hc e n=>?_) (fun _ _ _ _ n=>n) (fun b o hc e=>?_) (fun _ _ e=>e) (fun _ _ _ e=>e) (fun b ps e=>⟨#[],by rw [e];simp⟩) (fun m hm=>?_) (fun b u e=>?_) I.bare
 ·have e:hd=some b:=by cases hd <;> simp_all
  obtain ⟨_,a2,_,a4,a5,a6⟩:=hh b e
  exact ⟨a4,a2,a5,a6⟩
 ·refine N.keep b o (nx b n) (mem b hc) (fun z=>?_) e
  rcases WD.mp (hf b z) with q | q
  ·exact hL q
  ·exact hb q
 ·exact N.slot b o (nx b n) (mem b hc) e
 ·by_cases q:b=x
  ·obtain ⟨vs,z,_⟩:=N.obj
   exact ⟨_,by rw [q];exact z⟩
  ·obtain ⟨sl,z⟩:=N.slot b o q (mem b hc) e
   exact ⟨_,z⟩
 ·obtain ⟨o,es,ep,ho,r⟩:=hm
  obtain ⟨sl,z⟩:=N.slot _ o (nx _ I.free) (fun q=>(hh _ q.symm).2.1 rfl) ho
  exact ⟨_,es,ep,z,r⟩
 ·by_cases q:b=x
  ·subst q
   rw [hx] at e;cases e
   obtain ⟨vs,z,_,z2⟩:=N.obj
   exact Dt z z2
  ·refine (I.hok b u e).stay (fun c v hc z=>?_) (fun _ q=>q) fun _ _ q=>q
   have tc:∃ u,H c=some u:=by
    rcases hc with rfl | hc
    ·exact ⟨_,e⟩
    ·exact ⟨_,hc⟩
   obtain ⟨uc,tc⟩:=tc
   refine N.keep c v (fun zz=>?_) (fun zz=>?_) (fun zz=>?_) z
   ·rcases hc with rfl | hc
    ·exact q zz
    ·rw [zz,hx] at hc;cases hc
   ·rw [hdF c zz.symm] at tc;cases tc
   ·rw [fsF c zz] at tc;cases tc
theorem zK {A:Around} {E:Value->Shared->Prop} {Q:Unit->Shared->Prop} (I:Inv X pins U H s) (hst:X.stack=X.env :: X.outer) (hfr:X.env.frame=some X.env.locals) (hA:A.frames=some X.stack) (F:Fly X pins H x C dx s.heap)
  (k:∀ h' T,Inv X pins U H {s with heap:=h'}->Head X pins H x C dx T h'->Q () {s with heap:=h'}):wpAny (model X.prog X.w) A (noteFrame (.ref x) X.env) Q E s:=by
 have ff:s.heap.FunFrames X.base (X.env :: X.outer):=hst ▸ I.stack
 have sub:∀ b∈Mt (X.env :: X.outer),b∈X.env.locals :: X.fs:=fun b hb=>I.stkSub b (by rw [hst];exact hb)
 have nf:∀ b u,H b=some u->b ∉ Mt (X.env :: X.outer):=fun b u e z=>by
  rw [I.stkFree b (by rw [hst];exact z)] at e;cases e
 obtain ⟨hx,⟨vs,e,h1⟩ | ⟨T0,hT⟩⟩:=F
 ·refine Vb (hst ▸ hA) ff hfr e h1 (nf x _ hx) fun h' T N=>?_
  have J:=I.noted hx (fun b z=>by cases z) sub N
  refine k h' T J ⟨N.obj,N.tb,?_,hx⟩
  have zT:s.heap.objs.size<=T:=by rcases N.new with z | z;exact z;cases z
  exact I.fpOk zT (I.hok.fresh zT)
 ·obtain ⟨vs,e,h1⟩:=hT.obj
  refine Vc (hst ▸ hA) ff hfr e h1 hT.tb hT.ne (nf x _ hx) (fun z=>?_) fun h' T N=>?_
  ·rcases WD.mp (sub T0 z) with q | q
   ·exact hT.fp.2.1 q
   ·exact hT.fp.2.2.1 q
  ·have J:=I.noted hx (fun b z=>by cases z;exact hT.fp) sub N
   refine k h' T J ⟨N.obj,N.tb,?_,hx⟩
   rcases N.new with z | z
   ·exact I.fpOk z (I.hok.fresh z)
   ·cases z;exact hT.fp
theorem rC {A:Around} {E:Value->Shared->Prop} {Q:Unit->Shared->Prop} (I:Inv X pins U H s) (F:Head X pins H x C dx T s.heap)
  (k:∀ h',Inv X pins U H {s with heap:=h'}->Head X pins H x C dx T h'->Q () {s with heap:=h'}):wpAny (model X.prog X.w) A (setFlight (.ref x) none) Q E s:=by
 obtain ⟨vs,e,h1⟩:=F.obj
 refine Vd e h1 F.tb F.ne fun h' N=>?_
 exact k h' (I.noted F.tr (fun b z=>by cases z;exact F.fp) (fun b z=>absurd z (by simp)) N) ⟨N.obj,N.tb,F.fp,F.tr⟩
def Mu (P:Program) (w:World):Fd:=fun outer H s E e s'=>∃ x C dx T H',e= .ref x/\s'.os=s.os/\AllBare s'.gens/\Un (frs outer) [] H H' s.heap s'.heap/\HOk P w H' s'.heap/\H' x=some (sy x C dx)/\H' T=none/\s.heap.objs.size<=T/\
 (∃ vs,s'.heap.get? x=some (f9 C (some dx) vs)/\vs[1]?=some (.ref T)/\vs[2]?=some .none)/\FN s'.heap T/\E (.ref C) (some x) H'
def XE (X:Cx) (pins:List (Addr×Obj)) (R:St->XK) (e:Value) (s':Shared):Prop:=∃ x C dx U H',e= .ref x/\Inv X pins U H' s'/\Fly X pins H' x C dx s'.heap/\R U (.ref C) (some x) H'
theorem Dv {R:St->XK} {e:Value} {s':Shared} (I:Inv X pins U H s) (c:Mu X.prog X.w X.stack H s (R U) e s'):XE X pins R e s':=by
 obtain ⟨x,C,dx,T,H',rfl,os,bare,un,hok,tx,tT,zT,ob,tb,r⟩:=c
 obtain ⟨hh,g,d,t,os'⟩:=s'
 obtain rfl:os'=s.os:=os
 have J:=I.call (h':=hh) (g':=g) (d':=d) (t':=t) (ch:=[]) un hok bare (fun b z=>absurd z (by simp))
 exact ⟨x,C,dx,U,H',rfl,J,⟨tx,.inr ⟨T,ob,tb,I.fpOk zT tT,tx⟩⟩,r⟩
def j8 (X:Cx) (R:St->XK):Prop:=∀ (pins:List (Addr×Obj)) (e:Value) (s':Shared),XE X pins R e s'->X.xe e s'
end
theorem my {P:Program} {w:World} {K:W.Frag} {mg:Str->Option Value} {base:Heap} {N:List Str} {qual:Str} {scope:Scope} {f:Addr} {cd:Value} {A:Around} {outer:List Env} {s:Shared} {H:Hp} {E:XK}:
  j8 (qe (Mu P w) P w K mg base N qual scope f cd A outer s H E) (fun _=>E):=by
 rintro pins e s' ⟨x,C,dx,U,H',he,I,F,r⟩
 subst he
 show wpAny _ _ (leaving _ _) _ _ _
 unfold leaving
 refine Wl (zK (X:=qe (Mu P w) P w K mg base N qual scope f cd A outer s H E) I rfl rfl I.ok.frames F fun h1 T J1 F1=>?_)
 refine rC (X:=qe (Mu P w) P w K mg base N qual scope f cd A outer s H E) J1 F1 fun h2 J2 F2=>?_
 refine ⟨x,C,dx,T,H',rfl,J2.os,J2.bare,J2.base,J2.hok,F2.tr,F2.fp.1,?_,F2.obj,F2.tb,r⟩
 rcases F2.fp.2.2.2.1 with z | z
 ·exact absurd (show T∈([]:List Addr) from z) (by simp)
 ·exact z
def mz (d:Addr) (fs:List (Str×V)):HO:=.ext fun h=>∃ mA,h.Ns1 d mA/\∀ f,RelO (fs.lookup f) (mA f)
theorem yl {P:Program} {w:World} {H:Hp} {h:Heap} {d:Addr} {fs:List (Str×V)} {mA:Str->Option Value} (n:h.Ns1 d mA) (r:∀ f,RelO (fs.lookup f) (mA f)):ObjOk P w H h d (mz d fs):=by
 refine ⟨⟨mA,n,r⟩,let ⟨o,_,_,e,_⟩:=n;⟨o,e⟩,fun h1 h2 ⟨m,n,r⟩ k=>⟨m,?_,r⟩⟩
 obtain ⟨o,es,ep,e,q⟩:=n
 exact ⟨o,es,ep,k _ e,q⟩
theorem uK {P:Program} {w:World} {H:Hp} {h:Heap} {d:Addr} {fs:List (Str×V)} (ok:HOk P w H h) (e:H d=some (mz d fs)):∃ mA,h.Ns1 d mA/\∀ f,RelO (fs.lookup f) (mA f):=(ok _ _ e).1
def gY (x C d:Addr):HO:=.ext fun h=>∃ t,h.get? x=some (f9 C (some d) #[.ref t,.none,.none,.none,.bool false,.none])
theorem FP {P:Program} {w:World} {H:Hp} {h:Heap} {x C d t:Addr} (e:h.get? x=some (f9 C (some d) #[.ref t,.none,.none,.none,.bool false,.none])):ObjOk P w H h x (gY x C d):=
 ⟨⟨t,e⟩,⟨_,e⟩,fun h1 h2 ⟨t,e⟩ k=>⟨t,k _ e⟩⟩
theorem sE {P:Program} {w:World} {H:Hp} {h:Heap} {x C d:Addr} (ok:HOk P w H h) (e:H x=some (gY x C d)):∃ t,h.get? x=some (f9 C (some d) #[.ref t,.none,.none,.none,.bool false,.none]):=(ok _ _ e).1
def gG:List Value->Bool
 | [.type a,.type b,.type c,.type d]=>a == "ValueError" && b == "Exception" && c == "BaseException" && d == "object"
 | .ref _ :: r=>gG r
 | _=>false
theorem uo {l:List Value} (e:gG l=true):(∃ a r,l= .ref a :: r/\gG r=true)\/l=Ve:=by
 unfold gG at e
 split at e
 ·simp only [WX,Yv] at e
  obtain ⟨⟨⟨rfl,rfl⟩,rfl⟩,rfl⟩:=e
  exact .inr rfl
 ·exact .inl ⟨_,_,rfl,e⟩
 ·cases e
theorem uq (self:Value):∀ (l:List Value),gG l=true->refuseLoop self "__setattr__" l=pure ()
 | [],e=>by cases e
 | v :: r,e=>by
  rcases uo e with ⟨a,r',q,e'⟩ | q
  ·cases q
   rw [refuseLoop_ref]
   exact uq self r e'
  ·rw [q]
   exact F.store_ValueError.passes self
theorem vz:∀ (l:List Value),gG l=true->l.contains (.type "object")=true/\l.contains (.type "BaseException")=true
 | [],e=>by cases e
 | v :: r,e=>by
  rcases uo e with ⟨a,r',q,e'⟩ | q
  ·cases q
   obtain ⟨h1,h2⟩:=vz r e'
   exact ⟨by rw [Yi,h1,Bool.or_true],by rw [Yi,h2,Bool.or_true]⟩
  ·rw [q]
   decide
def Rx (K:W.Frag) (C:Addr):Bool:=TQ K C && (PySem.W.clsIn K C).any (fun cd=>gG cd.mro && cd.hasDict) && PySem.W.findIn K (.ref C) "__setattr__" == some (some (.builtin "object.__setattr__")) &&
 PySem.W.findIn K (.ref C) "__getattribute__" == some (some (.builtin "BaseException.__getattribute__")) && PySem.W.findIn K (.ref C) "__getattr__" == some none
structure XCls (K:W.Frag) (C:Addr):Prop where
 xi:TQ K C=true
 ov:∃ cd,PySem.W.clsIn K C=some cd/\gG cd.mro=true/\cd.hasDict=true
 sa:PySem.W.findIn K (.ref C) "__setattr__"=some (some (.builtin "object.__setattr__"))
 ga:PySem.W.findIn K (.ref C) "__getattribute__"=some (some (.builtin "BaseException.__getattribute__"))
 gh:PySem.W.findIn K (.ref C) "__getattr__"=some none
theorem Mv {K:W.Frag} {C:Addr} (h:Rx K C=true):XCls K C:=by
 unfold Rx at h
 simp only [WX,Yv] at h
 obtain ⟨⟨⟨⟨h1,h2⟩,h3⟩,h4⟩,h5⟩:=h
 obtain ⟨cd,a,b⟩:=PySem.W.any_some h2
 simp only [WX] at b
 exact ⟨h1,⟨cd,a,b.1,b.2⟩,h3,h4,h5⟩
theorem Mw {l:List Value} (e:gG l=true):l.isEmpty=false:=by
 cases l with
 | nil=>cases e
 | cons _ _=>rfl
section
variable {prog:Program} {w:World} {A:Around} {s:Shared} {K:W.Frag} {x C:Addr} {R:Result->Shared->Prop}
theorem XCls.mro {c:Value} {b:Bool} (k:XCls K C) (h:∀ cd,PySem.W.clsIn K C=some cd->gG cd.mro=true->cd.mro.contains c=b):PySem.W.mroIn K C c=some b:=by
 obtain ⟨cd,a,o,_⟩:=k.ov
 unfold PySem.W.mroIn
 rw [a,Option.bind_some,if_neg (by rw [Mw o];decide),h cd a o]
theorem XCls.isObj (k:XCls K C):PySem.W.mroIn K C (.type "object")=some true:=k.mro fun cd _ o=>(vz _ o).1
theorem XCls.isExc (k:XCls K C):PySem.W.mroIn K C (.type "BaseException")=some true:=k.mro fun cd _ o=>(vz _ o).2
theorem O8 {ox:Obj} {od:Option Obj} {name:Str} {tk:Tok} {v:Value} (X:K.In s.heap) (I:PySem.W.InstAt s.heap x ox C od) (c:XCls K C) (ht:NoAttr K C name)
  (h:wpAny (model prog w) A.in1 (Builtin.ObjectAttr.storeInOwnDict (.ref x) (.ref C) (.str name tk) name v false)
   (fun fin s'=>match fin with | .done f=>R (.ok f) s' | .again c'=>c'.quiet=true/\codeAny (model prog w) A c' R s') (fun e s'=>R (.error e) s') s):
  codeAny (model prog w) A (.call (.builtin "object.__setattr__") ⟨[.ref x,.str name tk,v],[]⟩) R s:=by
 obtain ⟨cd,hc,ho,_⟩:=c.ov
 have sub:PySem.W.Looks (model prog w) s.heap (isInstance (.ref x) (.type "object")) true:=I.type.andThen (PySem.W.looks_mroIn X c.isObj)
 refine Zi F.store_object.slot.plain F.store_object.entry (@PySem.W.check_slot (model prog w) _ _ s "object.__setattr__" "object" "__setattr__" (.ref x) [.str name tk,v] [] _ F.store_object.kind F.store_object.split sub (F.store_object.args (.ref x) (.str name tk) v) ?_)
 have hm:PySem.W.Looks (model prog w) s.heap (mroOf (.ref C)) cd.mro:=(PySem.W.looks_clsIn X hc).andThen .now
 have L3:PySem.W.Looks (model prog w) s.heap (Builtin.ObjectAttr.storeTaker? none) none:=.now
 rw [PySem.W.osa_eq,refuse_eq]
 refine Wl (Wl (I.type.here (Wl (hm.here ?_))))
 rw [uq _ _ ho]
 refine Wt (Wl (I.type.here (Wl ((Yj X ht).here (Wl (L3.here ?_))))))
 exact h
end
theorem Im {H:Hp} {d x:Addr} {a b c:HO} (n:d≠x):upd (upd (upd H d a) x b) d c=upd (upd H x b) d c:=by
 funext y
 unfold upd
 by_cases h:y=d
 ·simp [h]
 ·simp [h]
section
variable {X:Cx} {pins:List (Addr×Obj)} {U:St} {H:Hp} {s:Shared} {x C d:Addr} {fs:List (Str×V)} {f:Str} {v y:V} {u:Value} {A:Around} {E:Value->Shared->Prop}
theorem Vf {Q:Unit->Shared->Prop} (I:Inv X pins U H s) (e:H x=some (j7 x C)) (c:XCls X.K C) (n:NoAttr X.K C f) (ry:RelV y u)
  (h:∀ s' d,H d=none->d≠x->Inv X pins U (upd (upd H x (gY x C d)) d (mz d [(f,y)])) s'->Q () s'):wpAny (model X.prog X.w) A (setAttr (.ref x) f u) Q E s:=by
 obtain ⟨⟨t,hx⟩,-,-⟩:ObjOk X.prog X.w H s.heap x (j7 x C):=I.hok x _ e
 obtain ⟨cd,hc,ho,hd⟩:=c.ov
 have J:PySem.W.InstAt s.heap x (f9 C none #[.ref t,.none,.none,.none,.bool false,.none]) C none:=⟨hx,rfl,rfl,True.intro⟩
 refine PySem.W.set_plain I.kIn J c.sa (O8 (s:={s with toks:=s.toks+1}) I.kIn J c n ?_)
 refine Wl (Wt (Wl (Wl (Zf hx (Wl ((PySem.W.looks_clsIn (M:=model X.prog X.w) I.kIn hc).here (s:={s with toks:=s.toks+1}) ?_))))))
 rw [hd]
 have hp:s.heap.objs.size≠x:=Yn (Wx hx)
 have hx1:(s.heap.push {cls:=.type "dict",data:=.dict #[]}).get? x=some (f9 C none #[.ref t,.none,.none,.none,.bool false,.none]):=Wr _ hx
 have d1:(s.heap.push {cls:=.type "dict",data:=.dict #[]}).get? s.heap.objs.size=some {cls:=.type "dict",data:=.dict #[]}:=Ww _ rfl
 have n1:∀ {hh:Heap},hh.get? s.heap.objs.size=some {cls:=.type "dict",data:=.dict #[]}->hh.Ns1 s.heap.objs.size (fun _=>none):=fun q=>Heap.Ns1.of_empty ⟨_,#[],_,q,rfl,fun e he=>absurd he (by simp),fun _=>rfl⟩
 have I1:Inv X pins U (upd H s.heap.objs.size (mz s.heap.objs.size [])) {s with heap:=s.heap.push {cls:=.type "dict",data:=.dict #[]},toks:=s.toks+1}:=
  I.laid (t':=s.toks+1) (fun b o q=>Wr _ q) (Wq _) (yl (n1 d1) fun g=>True.intro)
 refine Wl (wpAny_alloc' ?_)
 refine Wl (wpAny_update' hx1 ?_)
 have hx2:=XM (fun o:Obj=>({o with dict:=some s.heap.objs.size}:Obj)) hx1 rfl
 have ot:∀ b,b≠x->((s.heap.push {cls:=.type "dict",data:=.dict #[]}).update x fun o=>{o with dict:=some s.heap.objs.size}).get? b=(s.heap.push {cls:=.type "dict",data:=.dict #[]}).get? b:=fun b hb=>X8 _ _ (Ne.symm hb)
 have e1:upd H s.heap.objs.size (mz s.heap.objs.size []) x=some (j7 x C):=(aB (Ne.symm hp)).trans e
 have I2:Inv X pins U (upd (upd H s.heap.objs.size (mz s.heap.objs.size [])) x (gY x C s.heap.objs.size)) {s with heap:=(s.heap.push {cls:=.type "dict",data:=.dict #[]}).update x fun o=>{o with dict:=some s.heap.objs.size},toks:=s.toks+1}:=
  I1.write (t':=s.toks+1) (x:=x) (e:=x) (by rw [e1];exact True.intro) (.inl rfl) (fun b o hb q=>(ot b hb).trans q) ⟨_,hx2⟩ (FP hx2)
 refine Wt (Wl (Wt (Wl ?_)))
 refine wpAny_nsSet1 (n1 ((ot _ hp).trans d1)) fun h' hn' hs=>?_
 obtain ⟨oD,esD,epD,hoD,hdD,hcD⟩:=hn'.count (PySem.Within.cons f u PySem.Within.nil)
 refine Wl (wpAny_lookBehind hoD (by rw [hdD];exact pastItsLine_dict (WY hcD (by rw [Xy,List.length_nil,sizeLine_eq];omega))) ?_)
 refine Wt (h _ s.heap.objs.size (I.hok.fresh (Wq _)) hp ?_)
 rw [← Im (a:=mz s.heap.objs.size []) hp]
 refine I2.write (x:=s.heap.objs.size) (e:=s.heap.objs.size) (by rw [aB hp,aj];exact True.intro) (.inl rfl) (fun b o hb q=>(hs.2 b hb).trans q) ⟨_,hoD⟩ (yl hn' fun g=>?_)
 by_cases q:g=f
 ·have qb:(g == f)=true:=Yv.mpr q
  simp only [List.lookup,qb,if_pos q]
  exact ry
 ·have qb:(g == f)=false:=YD.mpr q
  simp only [List.lookup,qb,if_neg q]
  exact True.intro
theorem Mx {h:Heap} {P:Program} {w:World} (ok:HOk P w H h) (e:H x=some (gY x C d)) (e2:H d=some (mz d fs)):d≠x:=fun z=>by
 subst z
 obtain ⟨t,a⟩:=sE ok e
 obtain ⟨mA,⟨o,es,ep,b,q,_⟩,_⟩:=uK ok e2
 rw [a] at b;cases b;cases q
theorem Vg {Q:Unit->Shared->Prop} (I:Inv X pins U H s) (e:H x=some (gY x C d)) (e2:H d=some (mz d fs)) (hl:fs.length < 1000) (c:XCls X.K C) (n:NoAttr X.K C f) (ry:RelV y u)
  (h:∀ s',Inv X pins U (upd H d (mz d (lE f y fs))) s'->Q () s'):wpAny (model X.prog X.w) A (setAttr (.ref x) f u) Q E s:=by
 have ne:=Mx I.hok e e2
 obtain ⟨vs,hx⟩:=sE I.hok e
 obtain ⟨mA,nA,rA⟩:=uK I.hok e2
 obtain ⟨cd,hc,ho,hd⟩:=c.ov
 have J:PySem.W.InstAt s.heap x (f9 C (some d) #[.ref vs,.none,.none,.none,.bool false,.none]) C (some (Classical.choose nA)):=⟨hx,rfl,rfl,let ⟨_,_,q,_⟩:=Classical.choose_spec nA;q⟩
 refine PySem.W.set_plain I.kIn J c.sa (O8 (s:={s with toks:=s.toks+1}) I.kIn J c n ?_)
 refine Wl (Wt (Wl (Wl (Zf hx (Wl ((PySem.W.looks_clsIn (M:=model X.prog X.w) I.kIn hc).here (s:={s with toks:=s.toks+1}) ?_))))))
 rw [hd]
 refine Wt (a:=some d) (Wl (Wt (Wl ?_)))
 refine wpAny_nsSet1 (s:={s with toks:=s.toks+1}) nA fun h' hn' hs=>?_
 have wi:PySem.Within mA (fs.map (·.1)):=fun z hz=>by
  have r:=rA z
  cases q:fs.lookup z with
  | none=>rw [q] at r;exact absurd (RelO.none_of r) hz
  | some a=>exact Xg.mpr ⟨(z,a),Xw q,rfl⟩
 obtain ⟨oD,esD,epD,hoD,hdD,hcD⟩:=hn'.count (PySem.Within.cons f u wi)
 refine Wl (wpAny_lookBehind hoD (by rw [hdD];exact pastItsLine_dict (WY hcD (by rw [Xy,Ws,sizeLine_eq];omega))) ?_)
 refine Wt (h _ ?_)
 refine I.write (x:=d) (e:=d) (by rw [e2];exact True.intro) (.inl rfl) (fun b o hb q=>(hs.2 b hb).trans q) ⟨_,hoD⟩ (yl hn' fun g=>?_)
 rw [nZ]
 by_cases q:g=f
 ·rw [if_pos q,if_pos q];exact ry
 ·rw [if_neg q,if_neg q];exact rA g
theorem getx {b:Bool} {Q:Value->Shared->Prop} (I:Inv X pins U H s) (e:H x=some (sy x C d)) (e2:H d=some (mz d fs)) (c:XCls X.K C) (n:NoAttr X.K C f) (l:fs.lookup f=some v)
  (h:∀ u s',Inv X pins U H s'->RelV v u->Q u s'):wpAny (model X.prog X.w) A (getAttr (.ref x) f b) Q E s:=by
 obtain ⟨vs,hx,_⟩:=Du I.hok e
 obtain ⟨mA,nA,rA⟩:=uK I.hok e2
 obtain ⟨cd,hc,ho,hd⟩:=c.ov
 obtain ⟨od,hod,lk⟩:=rY nA
 obtain ⟨u,hu,ru⟩:=RelO.some_of (v:=v) (o:=mA f) (by rw [← l];exact rA f)
 have J:PySem.W.InstAt s.heap x (f9 C (some d) vs) C (some od):=⟨hx,rfl,rfl,hod⟩
 have hf:PySem.W.findObj X.K C (some od) f=some (.value u):=PySem.W.findObj_own (by unfold PySem.W.hasDictIn;rw [hc];exact hd) n rfl (by rw [lk,hu])
 have Z:=h u {s with toks:=s.toks+1} (I.tok _) ru
 have KI:=I.kIn
 obtain ⟨hh,g,dr,t,os⟩:=s
 have L0:=J.type (M:=model X.prog X.w)
 have L1:=Yj (M:=model X.prog X.w) KI c.ga
 have L2:=Yj (M:=model X.prog X.w) KI c.gh
 have L3:=PySem.W.looks_find (M:=model X.prog X.w) KI J hf
 have sub:PySem.W.Looks (model X.prog X.w) hh (isInstance (.ref x) (.type "BaseException")) true:=L0.andThen (PySem.W.looks_mroIn KI c.isExc)
 have hb0:(onTheHeap (Value.ref C) && Value.builtin "BaseException.__getattribute__" == Value.builtin "object.__getattribute__")=false:=by
  rw [show (Value.builtin "BaseException.__getattribute__" == Value.builtin "object.__getattribute__")=false from by trivial,Bool.and_false]
 unfold getAttr getAttrBy
 refine Wl (wpAny_mkText (X5 (Wl (L0.at (Wl (L1.at ?_))))))
 dsimp only
 rw [hb0]
 rw [if_neg WF]
 unfold getAttrByItsOwn hookBefore
 refine Wl ?_
 rw [if_pos (show onTheHeap (Value.ref C)=true from rfl)]
 refine L2.at ?_
 refine Wl (YJ (X5 ?_))
 have hb1:(b && onTheHeap (Value.builtin "BaseException.__getattribute__"))=false:=by cases b <;> rfl
 unfold callGetattribute
 rw [hb1,if_neg WF]
 unfold boundAndCalled
 refine Wl (Yr (F.attrBase_ValueError.ga.bind (.ref x)) ?_)
 refine Zg (Zi F.attrBase_ValueError.ga.plain F.entry_bexc_ga (@PySem.W.check_slot (model X.prog X.w) _ _ ⟨hh,g,dr,t+1,os⟩ "BaseException.__getattribute__" "BaseException" "__getattribute__" (.ref x) [.str f t] [] _ (by trivial) (by trivial) sub (F.args_bexc_ga (.ref x) (.str f t)) ?_))
 refine Wl (Wt (Wl (Wt (Wl (L0.at (Wl (L3.at ?_)))))))
 refine Wt ?_
 show wpAny _ _ (handedOut u) _ _ _
 rw [PySem.W.handedOut_of (wO ru)]
 exact Wt Z
end
def Dw (K:W.Frag) (C:Addr):Bool:=Rx K C && PySem.W.findIn K (.ref C) "__class__" == some (some (.builtin "object.__class__")) && PySem.W.specialIn K (.builtin "object.__class__") "__get__" == some (some (.builtin "getset_descriptor.__get__")) && PySem.W.takesIn K (.builtin "object.__class__") == some true
structure Mz (K:W.Frag) (C:Addr):Prop where
 cls:XCls K C
 ca:PySem.W.findIn K (.ref C) "__class__"=some (some (.builtin "object.__class__"))
 cg:PySem.W.specialIn K (.builtin "object.__class__") "__get__"=some (some (.builtin "getset_descriptor.__get__"))
 ct:PySem.W.takesIn K (.builtin "object.__class__")=some true
theorem Io {K:W.Frag} {C:Addr} (h:Dw K C=true):Mz K C:=by
 unfold Dw at h
 simp only [WX,Yv] at h
 exact ⟨Mv h.1.1.1,h.1.1.2,h.1.2,h.2⟩
section
variable {prog:Program} {w:World} {A:Around} {E:Value->Shared->Prop} {s:Shared} {K:W.Frag} {x C:Addr} {ox od:Obj}
theorem FQ {Q:Option Value->Shared->Prop} (c:Mz K C) (KI:K.In s.heap) (J:PySem.W.InstAt s.heap x ox C (some od)) (h:Q (some (.ref C)) {s with toks:=s.toks+1}):wpAny (model prog w) A (getAttr? (.ref x) "__class__") Q E s:=by
 obtain ⟨cd,hc,ho,hd⟩:=c.cls.ov
 have hf:PySem.W.findObj K C (some od) "__class__"=some (.bind (.builtin "getset_descriptor.__get__") (.builtin "object.__class__")):=PySem.W.findObj_data (by rw [hc];rfl) c.ca c.cg c.ct
 obtain ⟨hh,g,dr,t,os⟩:=s
 have L0:=J.type (M:=model prog w)
 have L1:=Yj (M:=model prog w) KI c.cls.ga
 have L2:=Yj (M:=model prog w) KI c.cls.gh
 have L3:=PySem.W.looks_find (M:=model prog w) KI J hf
 have sub:PySem.W.Looks (model prog w) hh (isInstance (.ref x) (.type "BaseException")) true:=L0.andThen (PySem.W.looks_mroIn KI c.cls.isExc)
 have hb0:(onTheHeap (Value.ref C) && Value.builtin "BaseException.__getattribute__" == Value.builtin "object.__getattribute__")=false:=by
  rw [show (Value.builtin "BaseException.__getattribute__" == Value.builtin "object.__getattribute__")=false from by trivial,Bool.and_false]
 unfold getAttr? getAttrBy? getAttrBy
 refine Wl (wpAny_mkText (Wl (YJ (X5 (Wl (L0.at (Wl (L1.at ?_))))))))
 dsimp only
 rw [hb0,if_neg WF]
 unfold getAttrByItsOwn hookBefore
 refine Wl ?_
 rw [if_pos (show onTheHeap (Value.ref C)=true from rfl)]
 refine L2.at ?_
 refine Wl (YJ (X5 ?_))
 unfold callGetattribute
 rw [if_neg (show ¬ ((false && onTheHeap (Value.builtin "BaseException.__getattribute__"))=true) from by decide)]
 unfold boundAndCalled
 refine Wl (Yr (F.attrBase_ValueError.ga.bind (.ref x)) ?_)
 refine Zg (Zi F.attrBase_ValueError.ga.plain F.entry_bexc_ga (@PySem.W.check_slot (model prog w) _ _ ⟨hh,g,dr,t+1,os⟩ "BaseException.__getattribute__" "BaseException" "__getattribute__" (.ref x) [.str "__class__" t] [] _ (by trivial) (by trivial) sub (F.args_bexc_ga (.ref x) (.str "__class__" t)) ?_))
 refine Wl (Wt (Wl (Wt (Wl (L0.at (Wl (L3.at ?_)))))))
 show wpAny _ _ (holding [.builtin "object.__class__"] (call (.builtin "getset_descriptor.__get__") [.builtin "object.__class__",.ref x,.ref C]) >>=ret) _ _ _
 refine Wl (X5 (Zg (PySem.W.class_get (s:=⟨hh,g,dr,t+1,os⟩) KI J c.cls.isObj ?_)))
 refine Wt ?_
 show wpAny _ _ (handedOut (.ref C)) _ _ _
 rw [PySem.W.handedOut_of rfl]
 exact Wt (Wt h)
theorem Ip (c:Mz K C):PySem.W.KitX K (.ref x) (.ref C) (fun h=>PySem.W.InstAt h x ox C (some od)) where
 ty:=fun _ _ _ I=>I.type
 it:=fun _ _ X _=>by
  obtain ⟨cd,hc,_⟩:=c.cls.ov
  unfold PySem.W.clsIn at hc
  split at hc
  ·rename_i a1 a2 a3 a4 ho
   intro A1 Q1 E1 s1 k q
   unfold isType loadHead
   exact Wl (Zf (k _ _ (X _ _ ho)) (Wt q))
  ·cases hc
 ne:=fun h tp dd its n sl X htp=>by
  obtain ⟨cd,hc,_⟩:=c.cls.ov
  refine Bool.eq_false_iff.mpr fun q=>?_
  obtain rfl:C=tp:=Value.ref.inj (Yv.mp q)
  unfold PySem.W.clsIn at hc
  split at hc
  ·rename_i a1 a2 a3 a4 ho
   cases (X _ _ ho).symm.trans htp
  ·cases hc
 ca:=fun X I k=>FQ c X I k
end
def MF (H:Hp) (x C:Addr) (fs:List (Str×V)):Prop:=∃ d,H x=some (sy x C d)/\H d=some (mz d fs)
def V7:V->Option Value
 | .ty T=>some (.type T)
 | .ref C=>some (.ref C)
 | _=>none
theorem Ir {v:V} {u c:Value} (e:V7 v=some c) (r:RelV v u):u=c:=by
 cases v <;> first | cases e;exact r | cases e
def Iu:List V->Option (List Value)
 | []=>some []
 | v :: r=>match V7 v,Iu r with
  | some c,some l=>some (c :: l)
  | _,_=>none
theorem Dy:∀ {vs:List V} {us cs:List Value},Iu vs=some cs->Vals vs us->us=cs
 | [],us,cs,e,r=>by cases r;cases e;rfl
 | v :: vs,us,cs,e,r=>by
  cases r with
  | cons r1 r2=>
   unfold Iu at e
   split at e
   ·rename_i c l h1 h2
    cases e
    rw [Ir h1 r1,Dy h2 r2]
   ·cases e
def Iv (K:W.Frag):List V->Hp->VK->Prop:=fun xs H Q=>∃ x t b,(TyOf K H x t\/∃ a C fs,x= .ref a/\MF H a C fs/\Mz K C/\t= .ref C)/\
 ((∃ v c,xs=[x,v]/\V7 v=some c/\PySem.W.kitOne K t c=some b)\/(∃ p vs cs,xs=[x,.ref p]/\H p=some (.tup vs)/\Iu vs=some cs/\PySem.W.kitAny K t cs=some b))/\Q (.bl b) H
section
variable {X:Cx} {pins:List (Addr×Obj)} {U:St} {H:Hp} {s:Shared} {A:Around} {E:Value->Shared->Prop} {Q:Value->Shared->Prop} {c:Value} {b:Bool}
theorem Iw {x:V} {u t:Value} (I:Inv X pins U H s) (rx:RelV x u) (ty:TyOf X.K H x t\/∃ a C fs,x= .ref a/\MF H a C fs/\Mz X.K C/\t= .ref C):
  ∃ φ:Heap->Prop,PySem.W.KitX X.K u t φ/\φ s.heap/\u≠.builtin "__main__.__loader__#opaque":=by
 rcases ty with ty | ⟨a,C,fs,rfl,⟨d,e1,e2⟩,c,rfl⟩
 ·cases ty with
  | non=>cases (show u=Value.none from rx);exact ⟨_,PySem.W.kitx_none,True.intro,(fun z=>nomatch z)⟩
  | bl y=>cases (show u=Value.bool y from rx);exact ⟨_,PySem.W.kitx_bool,True.intro,(fun z=>nomatch z)⟩
  | int i=>obtain ⟨t,q⟩:=(show ∃ t,u=Value.int i t from rx);cases q;exact ⟨_,PySem.W.kitx_int,True.intro,(fun z=>nomatch z)⟩
  | str y=>obtain ⟨t,q⟩:=(show ∃ t,u=Value.str y t from rx);cases q;exact ⟨_,PySem.W.kitx_str,True.intro,(fun z=>nomatch z)⟩
  | flt y=>obtain ⟨t,q⟩:=(show ∃ t,u=Value.float y t from rx);cases q;exact ⟨_,PySem.W.kitx_float,True.intro,(fun z=>nomatch z)⟩
  | @lst a xs ea=>
   cases (show u=Value.ref a from rx)
   obtain ⟨_,_,n,_,h1⟩:=(show ObjOk X.prog X.w H s.heap a (.lst xs) from I.hok a _ ea)
   exact ⟨_,PySem.W.kitx_list,⟨_,h1,rfl⟩,(fun z=>nomatch z)⟩
  | @frz a ob xs ea=>
   cases (show u=Value.ref a from rx)
   obtain ⟨_,_,_,n,_,h1⟩:=(show ObjOk X.prog X.w H s.heap a (.frz ob (.lst xs)) from I.hok a _ ea)
   exact ⟨_,PySem.W.kitx_list,⟨_,h1,rfl⟩,(fun z=>nomatch z)⟩
  | @tup a xs ea=>
   cases (show u=Value.ref a from rx)
   obtain ⟨_,_,_,p⟩:=(show ObjOk X.prog X.w H s.heap a (.tup xs) from I.hok a _ ea)
   obtain ⟨o,h1,h2,_⟩:=p
   exact ⟨_,PySem.W.kitx_tuple,⟨o,h1,h2⟩,(fun z=>nomatch z)⟩
  | @dK a kvs ea=>
   cases (show u=Value.ref a from rx)
   obtain ⟨_,_,vs,_,p⟩:=(show ObjOk X.prog X.w H s.heap a (.dK kvs) from I.hok a _ ea)
   obtain ⟨o,es,ep,h1,h2,_⟩:=p
   exact ⟨_,PySem.W.kitx_dict,⟨o,h1,h2.1⟩,(fun z=>nomatch z)⟩
  | @dT a kvs ea=>
   cases (show u=Value.ref a from rx)
   obtain ⟨_,_,xs,_,o,es,ep,h1,h2,_⟩:=(show ObjOk X.prog X.w H s.heap a (.dT kvs) from I.hok a _ ea)
   exact ⟨_,PySem.W.kitx_dict,⟨o,h1,h2.1⟩,(fun z=>nomatch z)⟩
  | @ins a C dx fs ea cl ha hn htk hm=>
   cases (show u=Value.ref a from rx)
   obtain ⟨mA,O,_⟩:=qT I.hok ea
   obtain ⟨od,J,_⟩:=O.look
   exact ⟨_,PySem.W.kitx_own (cl.get _) cl.hd ha hn htk hm,J,(fun z=>nomatch z)⟩
 ·cases (show u=Value.ref a from rx)
  obtain ⟨vs,hx,_⟩:=Du I.hok e1
  obtain ⟨mA,nA,rA⟩:=uK I.hok e2
  obtain ⟨od,hod,lk⟩:=rY nA
  exact ⟨_,Ip (ox:=f9 C (some d) vs) (od:=od) c,⟨hx,rfl,rfl,hod⟩,(fun z=>nomatch z)⟩
theorem sH {K:W.Frag} (hK:X.K=K):CallR X (.builtin "isinstance") (Iv K):=by
 subst hK
 intro pins s U H xs us Q I r h
 obtain ⟨x,t,b,ty,w,q⟩:=h
 rcases w with ⟨v,c,rfl,ec,e⟩ | ⟨p,vs,cs,rfl,ep,ec,e⟩
 ·obtain ⟨u,u2,rfl,ru,rv⟩:=vals2 r
  obtain rfl:=Ir ec rv
  obtain ⟨φ,Z,hφ,hne⟩:=Iw I ru ty
  exact X3 Z I.kIn hφ e hne fun tk=>⟨.bl b,H,I.tok _,rfl,q⟩
 ·obtain ⟨u,u2,rfl,ru,rv⟩:=vals2 r
  cases (show u2=Value.ref p from rv)
  obtain ⟨φ,Z,hφ,hne⟩:=Iw I ru ty
  obtain ⟨_,its,rt,o,h1,h2,n,h3⟩:=(show ObjOk X.prog X.w H s.heap p (.tup vs) from I.hok p _ ep)
  obtain rfl:=Dy ec rt
  obtain ⟨oc,odd,oda,osl⟩:=o
  dsimp only at h2 h3
  subst h2 h3
  exact PySem.W.kia_tup Z I.kIn hφ h1 e hne fun tk=>⟨.bl b,H,I.tok _,rfl,q⟩
end
def HasX (P:Program) (w:World) (K:W.Frag) (mg:Str->Option Value) (base:Heap) (k:Nat) (x:Str) (ps:List Str) (sp:Sp):Prop:=
 ∃ f fd,mg x=some (.ref f)/\PySem.W.keepIn K (.ref f)=true/\Binds K fd ps []/\FnOk P w K mg base (Mu P w) k f fd ps sp
def BK (sp:Sp) (R:St->XK) (t:TA):TE:=fun U H Q=>t U H fun vs H1=>sp vs H1 Q (R U)
theorem vA {X:Cx} (h:∀ (e:Value) (s:Shared),X.xe e s=False):j8 X (fun _ _ _ _=>False):=fun _ _ _ ⟨_,_,_,_,_,_,_,_,z⟩=>z.elim
section
variable {X:Cx} {k:Nat} {f C:Addr} {fd:FuncData} {ps:List Str} {sp:Sp} {R:St->XK} {x:Str} {p pos:Pos} {e:Expr} {es:List Expr} {t:TA} {pins:List (Addr×Obj)} {U:St} {H:Hp} {s:Shared} {Q:VK} {us:List Value} {vs:List V}
theorem uL (F:FnOk X.prog X.w X.K X.mg X.base (Mu X.prog X.w) k f fd ps sp) (hr:Room k X.A) (hb:Binds X.K fd ps []) (hx:j8 X R) (I:Inv X pins U H s) (r:Vals vs us) (h:sp vs H Q (R U)):
  wpAny (model X.prog X.w) X.A (call (.ref f) us) (EP X pins U Q) X.xe s:=by
 have hl:(us ++ []).length=ps.length:=by rw [XQ,← r.length];exact F.len _ _ _ _ h
 have bd:=hb s us I.kIn hl
 rw [XQ] at bd
 refine Zg (codeAny_mono (F.run X.A X.stack s H ⟨us,[]⟩ us vs Q (R U) hr I.env0 bd r h) fun rr s' hq=>?_)
 cases rr with
 | error e=>exact hx pins e s' (Dv I hq)
 | ok fl=>
  cases fl with
  | ret u=>exact I.after hq
  | next=>exact False.elim hq
  | brk=>exact False.elim hq
  | cont=>exact False.elim hq
theorem Iz (F:HasX X.prog X.w X.K X.mg X.base k x ps sp) (hr:Room k X.A) (hg:Gl X x) (hx:j8 X R) (ha:PA X (e :: es) t) (hdb:(x == ("__debug__":Str))=false)
  (he:starEach (e :: es) X.env=(false,eval e X.env) :: starEach es X.env) (hpl:(backTo pos (starEach es X.env)).any (·.1)=false):PE X (.Call (.Name x p) (e :: es) [] pos) (BK sp R t):=by
 obtain ⟨f,fd,a,b,c,d⟩:=F
 intro pins s U H Q I h
 refine XX (mK I hg a ?_ hdb)
 refine YK (h₀:=X.base) I.ok.mod.kin b (dW (ha pos pins s U H _ I h) fun us s1 ⟨vs,H1,I1,r,q⟩=>⟨I1.kIn,?_⟩) he hpl
 exact uL d hr c hx I1 r q
def IK (K:W.Frag) (ta tv:TE) (f:Str):TS:=fun D U H=>tv U H fun y H1=>ta U H1 fun x H2=>∃ a C,x= .ref a/\XCls K C/\NoAttr K C f/\
 ((H2 a=some (j7 a C)/\∀ d,H2 d=none->d≠a->D.nx U (upd (upd H2 a (gY a C d)) d (mz d [(f,y)])))\/
  (∃ d fs,H2 a=some (gY a C d)/\H2 d=some (mz d fs)/\fs.length < 1000/\D.nx U (upd H2 d (mz d (lE f y fs)))))
theorem MJ {o value:Expr} {ta tv:TE} {fn:Str} {pos':Pos} (ha:PE X o ta) (hv:PE X value tv) (hs:swapsWith value (some (.Attribute o fn pos')) pos.line X.env=pure false):PS X (.Assign [.Attribute o fn pos'] value pos) (IK X.K ta tv fn):=by
 intro pins s U H D I h
 refine plainObj_wpAny_Assign_Attribute (dW (hv pins s U H _ I h) fun u s1 ⟨y,H1,I1,ry,q⟩=>dW (ha pins s1 U H1 _ I1 q) fun ov s2 qq0=>?_) hs
 obtain ⟨x,H2,I2,rx,a,C,ex,c,n,q2⟩:=qq0
 subst ex
 obtain rfl:ov=Value.ref a:=rx
 rcases q2 with ⟨e,q2⟩ | ⟨d,fs,e,e2,hl,q2⟩
 ·exact Vf I2 e c n ry fun s3 d z1 z2 I3=>⟨U,_,I3,q2 d z1 z2⟩
 ·exact Vg I2 e e2 hl c n ry fun s3 I3=>⟨U,_,I3,q2⟩
def IV (K:W.Frag) (ta:TE) (f:Str):TE:=fun U H Q=>ta U H fun x H1=>∃ a C fs v,x= .ref a/\MF H1 a C fs/\XCls K C/\NoAttr K C f/\fs.lookup f=some v/\Q v H1
theorem MK {ta:TE} {fn:Str} (he:PE X e ta) (hb:attributeBase e fn X.env (eval e X.env)=eval e X.env):PE X (.Attribute e fn pos) (IV X.K ta fn):=by
 intro pins s U H Q I h
 refine Dd hb (dW (he pins s U H _ I h) fun u s1 qq0=>?_)
 obtain ⟨x,H1,I1,rx,a,C,fs,v,ex,⟨d,e1,e2⟩,c,n,l,q⟩:=qq0
 subst ex
 obtain rfl:u=Value.ref a:=rx
 exact getx I1 e1 e2 c n l fun u2 s2 I2 ru=>⟨v,H1,I2,ru,q⟩
def ym (C:Addr) (fl:List Str):Sp:=fun vs H Q E=>∃ x ws,vs= .ref x :: ws/\ws.length=fl.length/\H x=some (j7 x C)/\∀ d,H d=none->d≠x->Q .non (upd (upd H x (gY x C d)) d (mz d (fl.zip ws)))
structure Vh (P:Program) (w:World) (K:W.Frag) (mg:Str->Option Value) (base:Heap) (k:Nat) (x:Str) (C:Addr) (fl:List Str):Prop where
 at_:mg x=some (.ref C)
 cl:Mz K C
 kp:PySem.W.keepIn K (.ref C)=true
 na:∀ f∈fl,NoAttr K C f
 run:∃ f fd ps,PySem.W.findIn K (.ref C) "__init__"=some (some (.ref f))/\PySem.W.typeIn K (.ref f)=some (.type "function")/\Binds K fd ps []/\FnOk P w K mg base Fl k f fd ps (ym C fl)
def BL (C:Addr) (fl:List Str) (R:St->XK) (t:TA):TS:=fun _ U H=>t U H fun vs H1=>vs.length=fl.length/\vs.length<=sizeLine/\∀ x H2,Same H1 H2->MF H2 x C (fl.zip vs)->R U (.ref C) (some x) H2
theorem Ry {Q:Value->Shared->Prop} {E:Value->Shared->Prop} {fl:List Str} (M:Vh X.prog X.w X.K X.mg X.base k x C fl) (hr:Room (k+1) X.A) (I:Inv X pins U H s) (r:Vals vs us) (hl:vs.length=fl.length) (hz:vs.length<=sizeLine)
  (q:∀ a d s',H a=none->H d=none->d≠a->Inv X pins U (upd (upd (upd H a (j7 a C)) a (gY a C d)) d (mz d (fl.zip vs))) s'->Q (.ref a) s'):wpAny (model X.prog X.w) X.A (call (.ref C) us) Q E s:=by
 obtain ⟨f,fd,ps,hi,hf,hb,F⟩:=M.run
 refine Rw I.kIn M.cl.cls.xi hi hf (by rw [← r.length];exact hz) ?_
 have I1:Inv X pins U H {s with heap:=s.heap.push {cls:=.type "tuple",data:=.seq us.toArray}}:=I.kept (t':=s.toks) fun b o e=>Wr _ e
 have sz1:(s.heap.push {cls:=.type "tuple",data:=.seq us.toArray}).objs.size=s.heap.objs.size+1:=XH _ _
 have hfr:H (s.heap.objs.size+1)=none:=I.hok.fresh (Nat.le_succ _)
 have gx:((s.heap.push {cls:=.type "tuple",data:=.seq us.toArray}).push (f9 C none #[.ref s.heap.objs.size,.none,.none,.none,.bool false,.none])).get? (s.heap.objs.size+1)=some (f9 C none #[.ref s.heap.objs.size,.none,.none,.none,.bool false,.none]):=by
  rw [← sz1];exact Ww _ rfl
 have I2:Inv X pins U (upd H (s.heap.objs.size+1) (j7 (s.heap.objs.size+1) C)) {s with heap:=(s.heap.push {cls:=.type "tuple",data:=.seq us.toArray}).push (f9 C none #[.ref s.heap.objs.size,.none,.none,.none,.bool false,.none])}:=
  I1.laid (t':=s.toks) (fun b o e=>Wr _ e) (by show (s.heap.push _).objs.size<=_;rw [sz1];exact Wq _) ⟨⟨_,gx⟩,⟨_,gx⟩,fun h1 h2 ⟨t,z⟩ kk=>⟨t,kk _ z⟩⟩
 have r2:Vals (V.ref (s.heap.objs.size+1) :: vs) (Value.ref (s.heap.objs.size+1) :: us):=.cons rfl r
 have sp0:ym C fl (V.ref (s.heap.objs.size+1) :: vs) (upd H (s.heap.objs.size+1) (j7 (s.heap.objs.size+1) C)) (fun v H2=>v= .non/\∃ d,H d=none/\d≠s.heap.objs.size+1/\H2=upd (upd (upd H (s.heap.objs.size+1) (j7 (s.heap.objs.size+1) C)) (s.heap.objs.size+1) (gY (s.heap.objs.size+1) C d)) d (mz d (fl.zip vs))) E0:=
  ⟨_,_,rfl,hl,aj,fun d hd ne=>⟨rfl,d,by rw [aB ne] at hd;exact hd,ne,rfl⟩⟩
 have hl2:((Value.ref (s.heap.objs.size+1) :: us) ++ []).length=ps.length:=by rw [XQ,← r2.length];exact F.len _ _ _ _ sp0
 have bd:=hb _ (Value.ref (s.heap.objs.size+1) :: us) I2.kIn hl2
 rw [XQ] at bd
 refine Zg (codeAny_mono (F.run _ X.stack _ _ ⟨Value.ref (s.heap.objs.size+1) :: us,[]⟩ (Value.ref (s.heap.objs.size+1) :: us) _ _ E0 (hr.make C us []) (I2.env0.make C us []) bd r2 sp0) fun rr s' hq=>?_)
 cases rr with
 | error e=>exact False.elim hq
 | ok fl=>
  cases fl with
  | ret u=>
   obtain ⟨v,H',I3,rv,ev,d,hd,ne,eH⟩:=I2.after hq
   subst ev
   rw [eH] at I3
   exact ⟨rv,q _ d s' hfr hd ne I3⟩
  | next=>exact False.elim hq
  | brk=>exact False.elim hq
  | cont=>exact False.elim hq
theorem thrown {env:Env} {C:Addr} {Q:Flow->Shared->Prop} {m:Sem Value} (hc:X.calm=true) (c:Mz X.K C) (hx:j8 X R)
  (h:wpAny (model X.prog X.w) X.A m (fun v s1=>∃ x d H1,v= .ref x/\Inv X pins U H1 s1/\H1 x=some (gY x C d)/\R U (.ref C) (some x) (upd H1 x (sy x C d))) X.xe s):
  wpAny (model X.prog X.w) X.A (raiseStmt env (some m) none) Q X.xe s:=by
 obtain ⟨nm,qn,N,bs,bm,sn,sub,ab,col,dd,k0,k1,k2,k3,k5,lk0,tl⟩:=vy c.cls.xi
 unfold raiseStmt
 refine Wl (dW h fun v s1 qq0=>?_)
 obtain ⟨x,d,H1,ev,I1,e1,r1⟩:=qq0
 subst ev
 have KI:=I1.kIn
 obtain ⟨t,he⟩:=sE I1.hok e1
 have hh:X.A.handled=none:=I1.ok.hd hc
 have hcB:(Value.ref C :: bm).contains (.type "BaseException")=true:=by
  rw [Yi,(tl _ KI).hasType (show Ve.contains (.type "BaseException")=true from by decide)];rfl
 have fin:X.xe (.ref x) s1:=by
  have I2:Inv X pins U (upd H1 x (sy x C d)) s1:=I1.write (t':=s1.toks) (x:=x) (e:=x) (h':=s1.heap) (by rw [e1];exact True.intro) (.inl rfl) (fun b o _ z=>z) ⟨_,he⟩ (Dt he rfl)
  exact hx pins _ s1 ⟨x,C,d,U,_,rfl,I2,⟨aj,.inl ⟨_,he,rfl,rfl⟩⟩,r1⟩
 have hD:=KI _ _ lk0
 obtain ⟨hp,g,dr,tk,os⟩:=s1
 unfold f9 at he
 repeat (first | with_reducible refine Yg he ?_ | with_reducible refine Yg hD ?_ | (with_reducible refine YW hD ?_;rw [hcB]) | wp_step)
 exact wpAny_raiseNew_none hh fin
end
section
variable {X:Cx} {k:Nat} {C:Addr} {R:St->XK} {x:Str} {p cpos pos:Pos} {e:Expr} {es:List Expr} {t:TA} {fl:List Str}
theorem zL {H:Hp} {a d:Addr} {vs:List V} (ha:H a=none) (hd:H d=none) (ne:d≠a):Same H (upd (upd (upd (upd H a (j7 a C)) a (gY a C d)) d (mz d (fl.zip vs))) a (sy a C d))/\
  MF (upd (upd (upd (upd H a (j7 a C)) a (gY a C d)) d (mz d (fl.zip vs))) a (sy a C d)) a C (fl.zip vs):=by
 refine ⟨fun b o h=>?_,d,aj,by rw [aB ne,aj]⟩
 have na:b≠a:=fun z=>by rw [z,ha] at h;cases h
 have nd:b≠d:=fun z=>by rw [z,hd] at h;cases h
 rw [aB na,aB nd,aB na,aB na]
 exact h
theorem IW (M:Vh X.prog X.w X.K X.mg X.base k x C fl) (hr:Room (k+1) X.A) (hc:X.calm=true) (hg:Gl X x) (hx:j8 X R) (ha:PA X (e :: es) t) (hdb:(x == ("__debug__":Str))=false)
  (he:starEach (e :: es) X.env=(false,eval e X.env) :: starEach es X.env) (hpl:(backTo cpos (starEach es X.env)).any (·.1)=false):PS X (.Raise (some (.Call (.Name x p) (e :: es) [] cpos)) none pos) (BL C fl R t):=by
 intro pins s U H D I h
 rw [arm_exec_Raise]
 refine Wl (wpAny_standAt (thrown (pins:=pins) (U:=U) (C:=C) hc M.cl hx (Wl (dW (Q:=fun v s1=>∃ x d H1,v= .ref x/\Inv X pins U H1 s1/\H1 x=some (gY x C d)/\R U (.ref C) (some x) (upd H1 x (sy x C d))) ?_ fun v s3 h3=>Wl (wpAny_standAt (Wt h3))))))
 refine XX (mK I hg M.at_ ?_ hdb)
 refine YK (h₀:=X.base) I.ok.mod.kin M.kp (dW (ha cpos pins s U H _ I h) fun us s1 ⟨vs,H1,I1,r,hl,hz,q⟩=>⟨I1.kIn,?_⟩) he hpl
 refine Ry M hr I1 r hl hz fun a d s2 z1 z2 ne I2=>⟨a,d,_,rfl,I2,?_,?_⟩
 ·rw [aB (Ne.symm ne),aj]
 ·obtain ⟨w1,w2⟩:=zL (C:=C) (fl:=fl) (vs:=vs) z1 z2 ne
  exact q a _ w1 w2
end
section
variable {X:Cx} {pins:List (Addr×Obj)} {U U':St} {H:Hp} {s:Shared} {h':Heap}
theorem Inv.reloc {t':Nat} (I:Inv X pins U H s) (hs:Heap.SameBut X.env.locals s.heap h') (len:U'.length=U.length)
  (l:∃ m',h'.Ns X.env.locals m'/\∀ (i:Nat) (x:Str) (v:V),X.N[i]?=some x->U'[i]?=some (some v)->T6 X.env.scope x->∃ u,RelV v u/\Look X.env h' m' x u):Inv X pins U' H {s with heap:=h',toks:=t'}:=by
 have cne:=I.cne
 obtain ⟨mm,⟨oL,_,_,hoL,_⟩,_⟩:=id I.loc
 have away:∀ b o,X.s₀.heap.get? b=some o->b≠X.env.locals:=fun b o e=>Xc (WK (Wx e) I.ok.above)
 refine ⟨I.ok,I.os,I.bare,⟨fun b o e n hb hx=>(hs.2 b (away b o e)).trans (I.base.keep b o e n hb hx),fun b o e n hb hx=>?_,I.base.free,fun b o e hx=>?_,I.base.tups,I.base.frzs,I.base.tbls⟩,l,fun y c e=>?_,I.free,I.freeC,fun q hq=>?_,fun b ob e=>?_,len.trans I.len⟩
 ·obtain ⟨sl,e1⟩:=I.base.slot b o e n hb hx
  exact ⟨sl,(hs.2 b (away b o e)).trans e1⟩
 ·obtain ⟨o2,e1⟩:=I.base.there b o e hx
  exact ⟨o2,(hs.2 b (away b o e)).trans e1⟩
 ·obtain ⟨w2,z⟩:=I.cell y c e
  exact ⟨w2,z.sameBut hs (cne y c e)⟩
 ·obtain ⟨e,n,ne,nf,d⟩:=I.pin q hq
  exact ⟨(hs.2 q.1 ne).trans e,n,ne,nf,d⟩
 ·refine (I.hok b ob e).stay (fun c w2 hc q=>(hs.2 c ?_).trans q) (fun _ q=>q) fun _ _ q=>q
  rintro rfl
  rcases hc with rfl | hc
  ·rw [I.free] at e;cases e
  ·rw [I.free] at hc;cases hc
theorem name_goes {A:Around} {E:Value->Shared->Prop} {i:Nat} {n:Str} {pos:Pos} {Q:Unit->Shared->Prop} (I:Inv X pins U H s) (hN:X.N.Nodup) (hi:X.N[i]?=some n) (hl:X.env.scope.names.lookup n=some .local)
  (h:∀ s',Inv X pins (U.set i none) H s'->Q () s'):wpAny (model X.prog X.w) A (do bindName X.env n .none;unbindBehindTheSuite X.env n pos) Q E s:=by
 have hcls:(X.env.scope.kind == .class || (X.env.scope.kind == .module && X.env.locals != X.env.globals))=false:=by rw [I.ok.kind];rfl
 have hk:X.env.kindOf n=some .local:=hl
 refine Wl (wpAny_bindName (nY (v:=.non) I hN hi (.inl hl) rfl (fun s1 I1=>?_) (.inr hl)))
 obtain ⟨m1,hn1,hl1⟩:=id I1.loc
 have hiU:i < U.length:=by rw [I.len];exact (Wm.mp hi).1
 obtain ⟨u1,ru1,lk1⟩:=hl1 i n .non hi (by rw [XS hiU]) (.inl hl)
 have m1n:m1 n=some u1:=by
  rcases lk1 with ⟨_,z⟩ | ⟨z | z,_⟩
  ·exact z
  ·rw [hk] at z;cases z
  ·rw [hk] at z;cases z
 unfold unbindBehindTheSuite
 refine wpAny_onRaise ?_
 unfold unbindName
 refine Wl (wpAny_point (Wl ?_))
 unfold deleteName
 simp only [hk,hcls]
 rw [if_neg (by decide)]
 refine Wl (wpAny_nsDel_keeps hn1 fun h2 v2 hn2 hs2=>?_)
 rw [m1n]
 simp only [if_true,Option.isSome_some,Bool.not_true,Bool.false_eq_true,if_false]
 refine Wt (wpAny_point (h _ (I1.reloc (t':=s1.toks) hs2 (by rw [List.length_set,List.length_set]) ⟨_,hn2,fun j y v e1 e2 e3=>?_⟩)))
 have hj:j≠i:=fun z=>by
  subst z
  rw [XS hiU] at e2;cases e2
 rw [XF (Ne.symm hj)] at e2
 obtain ⟨u,r,q⟩:=hl1 j y v e1 (by rw [XF (Ne.symm hj)];exact e2) e3
 refine ⟨u,r,?_⟩
 rcases q with ⟨k,z⟩ | ⟨k,c,z1,z2⟩
 ·have ny:y≠n:=fun z=>hj (uQ hN e1 (z ▸ hi))
  exact .inl ⟨k,by show (if y=n then v2 else m1 y)=some u;rw [if_neg ny];exact z⟩
 ·exact .inr ⟨k,c,z1,z2.sameBut hs2 (I1.cne y c z1)⟩
end
abbrev Cx.sui (X:Cx) (x:Addr):Cx:={X with A:=X.A.mark (some (.ref x)),calm:=false,xe:=fun _ _=>False}
abbrev Cx.bod (X:Cx) (pins:List (Addr×Obj)) (R:St->XK):Cx:={X with pn:=X.pn ++ pins,xe:=XE X pins R}
section
variable {X:Cx} {pins pins':List (Addr×Obj)} {U:St} {H:Hp} {s:Shared} {x C d T:Addr} {R:St->XK} {D:Ends}
theorem Inv.sui (I:Inv X pins U H s) (x:Addr):Inv (X.sui x) pins U H s:=
 ⟨⟨I.ok.mod,I.ok.kind,I.ok.glob,I.ok.blt,I.ok.above,I.ok.inj,I.ok.has,I.ok.cab,fun h=>absurd h WF,I.ok.frames,I.ok.stk,I.ok.exf,I.ok.bs,I.ok.bsz,I.ok.noex,I.ok.exfs,I.ok.funs,I.ok.frf⟩,I.os,I.bare,I.base,I.loc,I.cell,I.free,I.freeC,I.pin,I.hok,I.len⟩
theorem Inv.unsui (ok:X.Ok) (I:Inv (X.sui x) pins U H s):Inv X pins U H s:=⟨ok,I.os,I.bare,I.base,I.loc,I.cell,I.free,I.freeC,I.pin,I.hok,I.len⟩
theorem Inv.bod (I:Inv X pins U H s) (R:St->XK):Inv (X.bod pins R) [] U H s:=
 ⟨⟨I.ok.mod,I.ok.kind,I.ok.glob,I.ok.blt,I.ok.above,I.ok.inj,I.ok.has,I.ok.cab,I.ok.hd,I.ok.frames,I.ok.stk,I.ok.exf,I.ok.bs,I.ok.bsz,I.ok.noex,I.ok.exfs,I.ok.funs,I.ok.frf⟩,I.os,I.bare,I.base,I.loc,I.cell,I.free,I.freeC,fun p hp=>I.pin p (by simpa using hp),I.hok,I.len⟩
theorem Inv.unbod (I:Inv (X.bod pins R) pins' U H s):Inv X pins U H s:=
 ⟨⟨I.ok.mod,I.ok.kind,I.ok.glob,I.ok.blt,I.ok.above,I.ok.inj,I.ok.has,I.ok.cab,I.ok.hd,I.ok.frames,I.ok.stk,I.ok.exf,I.ok.bs,I.ok.bsz,I.ok.noex,I.ok.exfs,I.ok.funs,I.ok.frf⟩,I.os,I.bare,I.base,I.loc,I.cell,I.free,I.freeC,fun p hp=>I.pin p (YS _ hp),I.hok,I.len⟩
theorem SP.unbod {f:Flow} (h:SP (X.bod pins R) pins' D f s):SP X pins D f s:=by
 cases f with
 | next=>obtain ⟨U',H',I,q⟩:=h;exact ⟨U',H',I.unbod,q⟩
 | brk=>obtain ⟨U',H',I,q⟩:=h;exact ⟨U',H',I.unbod,q⟩
 | cont=>obtain ⟨U',H',I,q⟩:=h;exact ⟨U',H',I.unbod,q⟩
 | ret u=>obtain ⟨v,U',H',I,r,q⟩:=h;exact ⟨v,U',H',I.unbod,r,q⟩
theorem SP.unsui (ok:X.Ok) {f:Flow} (h:SP (X.sui x) pins D f s):SP X pins D f s:=by
 cases f with
 | next=>obtain ⟨U',H',I,q⟩:=h;exact ⟨U',H',I.unsui ok,q⟩
 | brk=>obtain ⟨U',H',I,q⟩:=h;exact ⟨U',H',I.unsui ok,q⟩
 | cont=>obtain ⟨U',H',I,q⟩:=h;exact ⟨U',H',I.unsui ok,q⟩
 | ret u=>obtain ⟨v,U',H',I,r,q⟩:=h;exact ⟨v,U',H',I.unsui ok,r,q⟩
theorem Ja:j8 (X.bod pins R) R:=by
 rintro pins' e s' ⟨x,C,d,U,H',he,I,⟨tx,F⟩,r⟩
 refine ⟨x,C,d,U,H',he,I.unbod,⟨tx,?_⟩,r⟩
 rcases F with F | ⟨T,F⟩
 ·exact .inl F
 ·obtain ⟨a1,a2,a3,a4,a5,a6⟩:=F.fp
  exact .inr ⟨T,F.obj,F.tb,⟨a1,a2,a3,a4,a5,fun p hp=>a6 p (YS _ hp)⟩,F.tr⟩
theorem xm {A:Around} {E:Value->Shared->Prop} {P:Addr} {b:Bool} {Q:Bool->Shared->Prop} {vs:Array Value} {M:Model} {K:W.Frag} (KI:K.In s.heap) (c:XCls K C) (cP:XCls K P) (e:s.heap.get? x=some (f9 C (some d) vs)) (hm:PySem.W.mroIn K C (.ref P)=some b) (h:Q b s):
  wpAny M A (excMatches (.ref x) (.ref P)) Q E s:=by
 obtain ⟨nm,qn,N,bs,bm,sn,sub,ab,col,dd,k0,k1,k2,k3,k5,lk,tl⟩:=vy c.xi
 obtain ⟨nm',qn',N',bs',bm',sn',sub',ab',col',dd',k0',k1',k2',k3',k5',lk',tl'⟩:=vy cP.xi
 have hC:=KI _ _ lk
 have hP:=KI _ _ lk'
 have hPB:(Value.ref P :: bm').contains (.type "BaseException")=true:=by
  rw [Yi,(tl' _ KI).hasType (show Ve.contains (.type "BaseException")=true from by decide)];rfl
 have hCP:(Value.ref C :: bm).contains (.ref P)=b:=by
  unfold PySem.W.mroIn PySem.W.clsIn at hm
  rw [lk] at hm
  exact WR hm
 have f:=tc_notTuple
 obtain ⟨hp,g,dr,tk,os⟩:=s
 unfold f9 at e
 unfold excMatches
 by_cases hh:P=C
 ·subst hh
  have hb:b=true:=by rw [← hCP];simp
  subst hb
  rw [lk] at lk'
  cases lk'
  repeat (first | with_reducible refine Yg e ?_ | with_reducible refine Yg hC ?_ | (with_reducible refine YW hC ?_;first | rw [hPB] | rw [hCP]) | wp_step)
  exact h
 ·repeat (first | with_reducible refine Yg e ?_ | with_reducible refine Yg hP ?_ | (with_reducible refine YW hP ?_;rw [hPB]) | (with_reducible refine YW hC ?_;rw [hCP]) | wp_step)
  cases b <;> (wp_walk;exact h)
abbrev TH:=Ends->St->Addr->Addr->Hp->Prop
def PH (X:Cx) (hs:List ExceptHandler) (th:TH):Prop:=∀ (pins:List (Addr×Obj)) (s:Shared) (U:St) (H:Hp) (D:Ends) (x C d T:Addr),Inv X pins U H s->Head X pins H x C d T s.heap->th D U x C H->
 wpAny (model X.prog X.w) X.A (handleBy (.ref x) X.env hs) (SP X pins D) X.xe s
theorem Rz:PH X [] (fun _ _ _ _ _=>False):=fun _ _ _ _ _ _ _ _ _ _ _ h=>h.elim
def Ends.gone (D:Ends) (i:Nat):Ends:={nx:=fun U H=>D.nx (U.set i none) H,rt:=D.rt,bk:=fun U H=>D.bk (U.set i none) H,ct:=fun U H=>D.ct (U.set i none) H}
def hAs (K:W.Frag) (P:Addr) (i:Nat) (ts:TS) (th:TH):TH:=fun D U x C H=>∃ b,XCls K C/\PySem.W.mroIn K C (.ref P)=some b/\if b=true then ts (D.gone i) (U.set i (some (.ref x))) H else th D U x C H
def hNo (K:W.Frag) (P:Addr) (ts:TS) (th:TH):TH:=fun D U x C H=>∃ b,XCls K C/\PySem.W.mroIn K C (.ref P)=some b/\if b=true then ts D U H else th D U x C H
variable {nm n:Str} {P:Addr} {i:Nat} {p pos:Pos} {b0:Stmt} {suite:List Stmt} {ts:TS} {th:TH} {hs:List ExceptHandler}
theorem Vi (hg:Gl X nm) (hm:X.mg nm=some (.ref P)) (cP:XCls X.K P) (hdb:(nm == ("__debug__":Str))=false) (hN:X.N.Nodup) (hi:X.N[i]?=some n) (hl:X.env.scope.names.lookup n=some .local)
  (hsu:∀ x,PSs (X.sui x) (b0 :: suite) ts) (hr:PH X hs th):PH X (.ExceptHandler (some (.Name nm p)) (some n) (b0 :: suite) pos :: hs) (hAs X.K P i ts th):=by
 rintro pins s U H D x C d T I F ⟨b,c,mb,q⟩
 obtain ⟨vs,ex,h1⟩:=F.obj
 refine wpAny_handleBy_cons (codeAny_handlers_test (mK (I.sui x) hg hm ?_ hdb)) (fun z=>nomatch z)
 refine xm I.kIn c cP ex mb ?_
 cases b with
 | false=>
  rw [if_neg WF] at q
  exact hr pins s U H D x C d T I F q
 | true=>
  rw [if_pos rfl] at q
  refine codeAny_handlers_suite_as ?_
  refine rC I F fun h2 I2 F2=>?_
  refine nY (X:=X.sui x) (v:=.ref x) (I2.sui x) hN hi (.inl hl) rfl (fun s3 I3=>?_) (.inr hl)
  refine Xr (hsu x pins s3 _ H (D.gone i) I3 q) (fun f s4 w=>?_) fun _ _ z=>False.elim z
  cases f with
  | next=>obtain ⟨U',H',J,r⟩:=w;exact name_goes (J.unsui I.ok) hN hi hl fun s5 I5=>⟨_,H',I5,r⟩
  | brk=>obtain ⟨U',H',J,r⟩:=w;exact name_goes (J.unsui I.ok) hN hi hl fun s5 I5=>⟨_,H',I5,r⟩
  | cont=>obtain ⟨U',H',J,r⟩:=w;exact name_goes (J.unsui I.ok) hN hi hl fun s5 I5=>⟨_,H',I5,r⟩
  | ret u=>obtain ⟨v,U',H',J,rv,r⟩:=w;exact name_goes (J.unsui I.ok) hN hi hl fun s5 I5=>⟨v,_,H',I5,rv,r⟩
theorem Vj (hg:Gl X nm) (hm:X.mg nm=some (.ref P)) (cP:XCls X.K P) (hdb:(nm == ("__debug__":Str))=false) (hsu:∀ x,PSs (X.sui x) (b0 :: suite) ts) (hr:PH X hs th):
  PH X (.ExceptHandler (some (.Name nm p)) none (b0 :: suite) pos :: hs) (hNo X.K P ts th):=by
 rintro pins s U H D x C d T I F ⟨b,c,mb,q⟩
 obtain ⟨vs,ex,h1⟩:=F.obj
 refine wpAny_handleBy_cons (codeAny_handlers_test (mK (I.sui x) hg hm ?_ hdb)) (fun z=>nomatch z)
 refine xm I.kIn c cP ex mb ?_
 cases b with
 | false=>
  rw [if_neg WF] at q
  exact hr pins s U H D x C d T I F q
 | true=>
  rw [if_pos rfl] at q
  refine codeAny_handlers_suite ?_
  refine rC I F fun h2 I2 F2=>?_
  exact Xr (hsu x pins _ _ H D (I2.sui x) q) (fun f s4 w=>w.unsui I.ok) fun _ _ z=>False.elim z
def RC (tb:(St->XK)->TS) (th:TH):TS:=fun D U H=>tb (fun U' c x H'=>∃ C a,c= .ref C/\x=some a/\th D U' a C H') D U H
theorem RD {body:List Stmt} {h0:ExceptHandler} {tb:(St->XK)->TS} (hst:X.stack=X.env :: X.outer) (hfr:X.env.frame=some X.env.locals) (hb:∀ (pins:List (Addr×Obj)) (R:St->XK),PSs (X.bod pins R) body (tb R)) (hh:PH X (h0 :: hs) th):
  PS X (.Try body (h0 :: hs) [] [] pos) (RC tb th):=by
 intro pins s U H D I h
 refine wpAny_Try_except (Xr (hb pins _ [] s U H D (I.bod _) h) (fun f s1 q=>?_) fun e s1 q=>?_)
 ·have q':=q.unbod
  cases f with
  | next=>exact wpAny_execs_nil q'
  | brk=>exact q'
  | cont=>exact q'
  | ret u=>exact q'
 ·obtain ⟨x,C,d,U',H',rfl,I1,F1,C',a',eC,ea,r⟩:=q
  cases eC
  cases ea
  refine zK I1 hst hfr I1.ok.frames F1 fun h2 T I2 F2=>?_
  refine rC I2 F2 fun h3 I3 F3=>?_
  exact hh pins _ U' H' D x C d T I3 F3 r
end
def aP (mg:Str->Option Value) (x:Str):Addr:=match mg x with
 | some (.ref a)=>a
 | _=>0
theorem je {mg:Str->Option Value} {x:Str} {C:Addr} (h:mg x=some (.ref C)):aP mg x=C:=by unfold aP;rw [h]
structure FT (K:W.Frag) (mg:Str->Option Value) (x:Str):Prop where
 at_:mg x=some (.ref (aP mg x))
 cl:Mz K (aP mg x)
theorem O9 {K:W.Frag} {mg:Str->Option Value} {h:Heap} (X:K.In h) (G:h.Ns mainGlobals mg) {x:Str} {C:Addr} (a:PySem.W.nsIn K mainGlobals x=some (some (.ref C))) (b:Dw K C=true):FT K mg x:=by
 have m:=Yw X G a
 have e:=je m
 exact ⟨by rw [e];exact m,by rw [e];exact Io b⟩
structure rD (K:W.Frag) (mg:Str->Option Value) (x:Str) (fl:List Str) (qual:Str) (st:Stmt):Prop where
 c:FT K mg x
 kp:PySem.W.keepIn K (.ref (aP mg x))=true
 na:∀ f∈fl,NoAttr K (aP mg x) f
 ini:∃ f fd,PySem.W.findIn K (.ref (aP mg x)) "__init__"=some (some (.ref f))/\PySem.W.typeIn K (.ref f)=some (.type "function")/\Fun K "__init__" qual st f fd
def Jb (K:W.Frag) (C:Addr) (fl:List Str):Bool:=fl.all fun n=>PySem.W.findIn K (.ref C) n == some none
theorem xn {K:W.Frag} {mg:Str->Option Value} {h:Heap} (X:K.In h) (G:h.Ns mainGlobals mg) {x qual:Str} {C f:Addr} {fl:List Str} {st:Stmt} {oc:Value} {od an:Option Addr} {osl:Array (Option Value)} {kV doc pm cdv ct:Value}
  (a:PySem.W.nsIn K mainGlobals x=some (some (.ref C))) (b:Dw K C=true) (kp:PySem.W.keepIn K (.ref C)=true) (na:Jb K C fl=true)
  (i:PySem.W.findIn K (.ref C) "__init__"=some (some (.ref f))) (t:PySem.W.typeIn K (.ref f)=some (.type "function"))
  (l:K.lookup f=some ⟨oc,od,.func (PySem.W.fnOf "__init__" qual (gn st) (dj st) (az st) .none kV doc pm an cdv ct),osl⟩) (c:PySem.W.codeIn K cdv qual=true) (k:PySem.W.keepIn K (.ref f)=true):rD K mg x fl qual st:=by
 have m:=Yw X G a
 have e:=je m
 refine ⟨O9 X G a b,by rw [e];exact kp,fun n hn=>?_,f,_,by rw [e];exact i,t,Bm l c k⟩
 rw [e]
 have:=Yl.mp na n hn
 exact Yv.mp this
structure Sub (K:W.Frag) (mg:Str->Option Value) (x y:Str) (b:Bool):Prop where
 mro:PySem.W.mroIn K (aP mg x) (.ref (aP mg y))=some b
 one:PySem.W.kitOne K (.ref (aP mg x)) (.ref (aP mg y))=some b
theorem BP {K:W.Frag} {mg:Str->Option Value} {h:Heap} (X:K.In h) (G:h.Ns mainGlobals mg) {x y:Str} {C P:Addr} {r:Bool} (a:PySem.W.nsIn K mainGlobals x=some (some (.ref C))) (b:PySem.W.nsIn K mainGlobals y=some (some (.ref P)))
  (m:PySem.W.mroIn K C (.ref P)=some r) (o:PySem.W.kitOne K (.ref C) (.ref P)=some r):Sub K mg x y r:=by
 have e:=je (Yw X G a)
 have e2:=je (Yw X G b)
 exact ⟨by rw [e,e2];exact m,by rw [e,e2];exact o⟩
theorem MN {K:W.Frag} {mg:Str->Option Value} {h:Heap} (X:K.In h) (G:h.Ns mainGlobals mg) {x:Str} {T:String} {C:Addr} {r:Bool} (a:PySem.W.nsIn K mainGlobals x=some (some (.ref C)))
  (o:PySem.W.kitOne K (.ref C) (.type T)=some r):PySem.W.kitOne K (.ref (aP mg x)) (.type T)=some r:=by
 rw [je (Yw X G a)];exact o
structure JH (X:Cx) (hs:List ExceptHandler) (th:TH):Prop where
 run:PH X hs th
section
variable {X:Cx} {K:W.Frag} {k:Nat} {x n fn:Str} {ps:List Str} {sp:Sp} {R:St->XK} {p pos cpos pos':Pos} {e o value:Expr} {es:List Expr} {t:TA} {ta tv:TE} {st:Stmt} {u ts:TS} {th:TH} {hs:List ExceptHandler} {i:Nat}
theorem rE (F:HasX X.prog X.w X.K X.mg X.base k x ps sp) (hr:Room k X.A) (hg:Gl X x) (hx:j8 X R) (ha:JA X (e :: es) t) (hdb:(x == ("__debug__":Str))=false) (h:autoParam ((e :: es).all notStar=true) L2.auto4._auto_1):
  JE X (.Call (.Name x p) (e :: es) [] pos) (BK sp R t):=by
 have h1:notStar e=true:=by simp only [Xv,WX] at h;exact h.1
 have h2:es.all notStar=true:=by simp only [Xv,WX] at h;exact h.2
 exact ⟨Iz F hr hg hx ha.run hdb (dm h1) (lF h2)⟩
theorem Jc {C:Addr} (hg:Gl X x) (hm:X.mg x=some (.ref C)) (hd:(x == ("__debug__":Str))=false):JE X (.Name x pos) (tC (.ref C)):=⟨xR hg hm rfl hd⟩
theorem RG (hK:X.K=K) (he:JE X e ta) (h:autoParam (mO e=true) L2.auto4._auto_1):JE X (.Attribute e fn pos) (IV K ta fn):=by
 subst hK
 exact ⟨MK he.run (by cases e <;> first | rfl | cases h)⟩
theorem MP (hK:X.K=K) (ha:JE X o ta) (hv:JE X value tv) (h:autoParam (lg value=true) L2.auto4._auto_1):JS X (.Assign [.Attribute o fn pos'] value pos) (IK K ta tv fn):=by
 subst hK
 exact ⟨MJ ha.run hv.run (zA h)⟩
theorem Jd {fl:List Str} (M:Vh X.prog X.w X.K X.mg X.base k x (aP X.mg x) fl) (hr:Room (k+1) X.A) (hc:X.calm=true) (hg:Gl X x) (hx:j8 X R) (ha:JA X (e :: es) t) (hdb:(x == ("__debug__":Str))=false) (h:autoParam ((e :: es).all notStar=true) L2.auto4._auto_1):
  JS X (.Raise (some (.Call (.Name x p) (e :: es) [] cpos)) none pos) (BL (aP X.mg x) fl R t):=by
 have h1:notStar e=true:=by simp only [Xv,WX] at h;exact h.1
 have h2:es.all notStar=true:=by simp only [Xv,WX] at h;exact h.2
 exact ⟨IW M hr hc hg hx ha.run hdb (dm h1) (lF h2)⟩
theorem RJ:JH X [] (fun _ _ _ _ _=>False):=⟨Rz⟩
theorem Vk {b0:Stmt} {suite:List Stmt} (hK:X.K=K) (c:FT K X.mg x) (hg:Gl X x) (hdb:(x == ("__debug__":Str))=false) (hN:X.N.Nodup) (hi:X.N[i]?=some n) (hl:X.env.scope.names.lookup n=some .local)
  (hsu:∀ x,JB (X.sui x) (b0 :: suite) ts) (hr:JH X hs th):JH X (.ExceptHandler (some (.Name x p)) (some n) (b0 :: suite) pos :: hs) (hAs K (aP X.mg x) i ts th):=by
 subst hK
 exact ⟨Vi hg c.at_ c.cl.cls hdb hN hi hl (fun x=>(hsu x).run) hr.run⟩
theorem Vl {b0:Stmt} {suite:List Stmt} (hK:X.K=K) (c:FT K X.mg x) (hg:Gl X x) (hdb:(x == ("__debug__":Str))=false)
  (hsu:∀ x,JB (X.sui x) (b0 :: suite) ts) (hr:JH X hs th):JH X (.ExceptHandler (some (.Name x p)) none (b0 :: suite) pos :: hs) (hNo K (aP X.mg x) ts th):=by
 subst hK
 exact ⟨Vj hg c.at_ c.cl.cls hdb (fun x=>(hsu x).run) hr.run⟩
theorem RK {body:List Stmt} {h0:ExceptHandler} {tb:(St->XK)->TS} (hst:X.stack=X.env :: X.outer) (hfr:X.env.frame=some X.env.locals) (hb:∀ (pins:List (Addr×Obj)) (R:St->XK),JB (X.bod pins R) body (tb R)) (hh:JH X (h0 :: hs) th):
  JS X (.Try body (h0 :: hs) [] [] pos) (RC tb th):=⟨RD hst hfr (fun pins R=>(hb pins R).run) hh.run⟩
end
section
variable {P:Program} {w:World} {K:W.Frag} {mg:Str->Option Value} {base:Heap}
theorem Je {x:Str} {st:Stmt} {N ps:List Str} {k:Nat} {sp:Sp} (D:Def K mg x st) (S:aF N ps (az st))
  (hb:∀ (kV doc pm:Value) (an:Option Addr) (cdv ct:Value) (us:List Value),us.length=ps.length->bindArgs (PySem.W.fnOf x x (gn st) (dj st) (az st) .none kV doc pm an cdv ct) ⟨us,[]⟩=pure (ps.zip us))
  (len:∀ vs H Q E,sp vs H Q E->vs.length=ps.length)
  (hbody:∀ (f:Addr) (cdv:Value) (A:Around) (outer:List Env) (s:Shared) (H:Hp) (vs:List V) (Q:VK) (E:XK),Room k (A.deeper (envOfC x (az st) s.heap.objs.size f cdv))->sp vs H Q E->
   ∃ t,JB (qe (Mu P w) P w K mg base N x (az st) f cdv A outer s H E) (dj st) t/\t {nx:=fun _ H'=>Q .non H',rt:=Q} (start N vs) H):HasX P w K mg base (k+1) x ps sp:=by
 obtain ⟨f,fd,F,hm⟩:=D
 refine ⟨f,fd,hm,F.kp,F.binds hb,?_⟩
 obtain ⟨oc,od,kV,doc,pm,an,cdv,ct,osl,rfl,lk,hcd⟩:=F.ex
 exact Hg lk hcd S len fun A outer s H vs Q E hr h=>let ⟨t,j,q⟩:=hbody f cdv A outer s H vs Q E hr h;⟨t,j.run,q⟩
theorem mkX {x qual:Str} {st:Stmt} {N ps:List Str} {fl:List Str} {k:Nat} (D:rD K mg x fl qual st) (S:aF N ps (az st))
  (hb:∀ (kV doc pm:Value) (an:Option Addr) (cdv ct:Value) (us:List Value),us.length=ps.length->bindArgs (PySem.W.fnOf "__init__" qual (gn st) (dj st) (az st) .none kV doc pm an cdv ct) ⟨us,[]⟩=pure (ps.zip us))
  (hl:ps.length=fl.length+1)
  (hbody:∀ (f:Addr) (cdv:Value) (A:Around) (outer:List Env) (s:Shared) (H:Hp) (vs:List V) (Q:VK) (E:XK),Room k (A.deeper (envOfC qual (az st) s.heap.objs.size f cdv))->ym (aP mg x) fl vs H Q E->
   ∃ t,JB (qe Fl P w K mg base N qual (az st) f cdv A outer s H E).nox (dj st) t/\t {nx:=fun _ H'=>Q .non H',rt:=Q} (start N vs) H):Vh P w K mg base (k+1) x (aP mg x) fl:=by
 obtain ⟨f,fd,a,b,F⟩:=D.ini
 refine ⟨D.c.at_,D.c.cl,D.kp,D.na,f,fd,ps,a,b,F.binds hb,F.ok S (fun vs H Q E h=>?_) fun cdv A outer s H vs Q E hr h=>let ⟨t,j,q⟩:=hbody f cdv A outer s H vs Q E hr h;⟨t,j.run,q⟩⟩
 obtain ⟨y,ws,rfl,hw,_⟩:=h
 rw [Xy,hw,hl]
end
def initOf:Stmt->Stmt
 | .ClassDef _ _ _ (s :: _) _ _ _ _ _ _ _=>s
 | s=>s
section
variable {U:St} {H:Hp} {D:Ends} {Q:VK} {sp:Sp} {R:St->XK} {a:TA} {K:W.Frag} {C P:Addr} {fl:List Str} {th:TH} {ts:TS} {i:Nat} {ta:TE} {f:Str}
theorem bB (h:a U H fun vs H1=>sp vs H1 Q (R U)):BK sp R a U H Q:=h
theorem fH {tb:(St->XK)->TS} (h:tb (fun U' c x H'=>∃ C a,c= .ref C/\x=some a/\th D U' a C H') D U H):RC tb th D U H:=h
theorem bC (h:a U H fun vs H1=>vs.length=fl.length/\vs.length<=sizeLine/\∀ x H2,Same H1 H2->MF H2 x C (fl.zip vs)->R U (.ref C) (some x) H2):BL C fl R a D U H:=h
theorem cX (h:ta U H fun x H1=>∃ a C fs v,x= .ref a/\MF H1 a C fs/\XCls K C/\NoAttr K C f/\fs.lookup f=some v/\Q v H1):IV K ta f U H Q:=h
theorem Vm {x C:Addr} (c:XCls K C) (m:PySem.W.mroIn K C (.ref P)=some true) (h:ts (D.gone i) (U.set i (some (.ref x))) H):hAs K P i ts th D U x C H:=⟨true,c,m,by rw [if_pos rfl];exact h⟩
theorem Jf {x C:Addr} {v:V} {c:Value} {fs:List (Str×V)} {b:Bool} (ex:MF H x C fs) (cl:Mz K C) (e:V7 v=some c) (o:PySem.W.kitOne K (.ref C) c=some b) (h:Q (.bl b) H):Iv K [.ref x,v] H Q:=
 ⟨.ref x,.ref C,b,.inr ⟨x,C,fs,rfl,ex,cl,rfl⟩,.inl ⟨v,c,rfl,e,o⟩,h⟩
theorem yo {x:V} {t:Value} {p:Addr} {vs:List V} {cs:List Value} {b:Bool} (ty:TyOf K H x t) (hp:H p=some (.tup vs)) (e:Iu vs=some cs) (o:PySem.W.kitAny K t cs=some b) (h:Q (.bl b) H):Iv K [x,.ref p] H Q:=
 ⟨x,t,b,.inl ty,.inr ⟨p,vs,cs,rfl,hp,e,o⟩,h⟩
theorem rd1 {f1 p0 p1:Str} {vs:List V} {E:XK} (c:XCls K C) (n:NoAttr K C f1) (h:ym C [f1] vs H Q E):IK K (p8 0) (p8 1) f1 {nx:=fun _ H'=>Q .non H',rt:=Q} (start [p0,p1] vs) H:=by
 obtain ⟨x,ws,rfl,hw,hx,q⟩:=h
 match ws,hw with
 | [v],_=>exact ⟨v,rfl,.ref x,rfl,x,C,rfl,c,n,.inl ⟨hx,fun d hd ne=>q d hd ne⟩⟩
end
def wg (z:Str) (lo hi:Option Int) (c:Int):Str:=⟨((Builtin.Str.strSliceIndices lo hi c z.length).filterMap (z.cps[·]?)).toArray⟩
def RL (te:TE) (tl th ts:TO):TE:=fun U H Q=>te U H fun x H1=>tl U H1 fun l H2=>th U H2 fun u H3=>ts U H3 fun c H4=>∃ z c',x= .str z/\c=some c'/\c'≠0/\c'≠1/\(wg z l u c').length<=sizeLine/\Q (.str (wg z l u c')) H4
def Gu:Option Int->Tok->Option (Int×Tok)
 | none,_=>none
 | some i,t=>some (i,t)
theorem qj {v:Value} {l:Option Int} (h:IsPart v l):∃ t,v=partValue (Gu l t):=by
 cases h with
 | none=>exact ⟨0,rfl⟩
 | int i t=>exact ⟨t,rfl⟩
theorem Dz (l:Option Int) (t:Tok):(Gu l t).map (·.1)=l:=by cases l <;> rfl
section
variable {X:Cx} {e:Expr} {te:TE} {lo hi:Option Expr} {st:Expr} {tl th ts:TO} {pos p2:Pos}
theorem FW (he:PE X e te) (hl:PO X lo tl) (hu:PO X hi th) (hs:PO X (some st) ts):PE X (.Subscript e (.Slice lo hi (some st) p2) pos) (RL te tl th ts):=by
 intro pins s U H Q I h
 refine Subscript_ (dW (he pins s U H _ I h) fun v s1 qq0=>?_)
 obtain ⟨x,H1,I1,r1,q1⟩:=qq0
 refine wpAny_Slice (dW (hl pins s1 U H1 _ I1 q1) fun vl s2 ⟨l,H2,I2,pl,q2⟩=>dW (hu pins s2 U H2 _ I2 q2) fun vu s3 ⟨u,H3,I3,pu,q3⟩=>dW (hs pins s3 U H3 _ I3 q3) fun vc s4 qq0=>?_)
 obtain ⟨c,H4,I4,pc,q4⟩:=qq0
 obtain ⟨z,c',rfl,rfl,hc0,hc1,hz,q⟩:=q4
 obtain ⟨t,rfl⟩:=r1
 obtain ⟨t1,rfl⟩:=qj pl
 obtain ⟨t2,rfl⟩:=qj pu
 obtain ⟨t3,rfl⟩:=qj pc
 have I5:Inv X pins U H4 {s4 with heap:=s4.heap.push {cls:=.type "slice",data:=.fields #[partValue (Gu l t1),partValue (Gu u t2),partValue (Gu (some c') t3)]}}:=I4.kept (t':=s4.toks) fun b ob q=>Wr _ q
 show wpAny (model X.prog X.w) X.A (subscriptTail e (.Slice lo hi (some st) p2) (.str z t) (.ref s4.heap.objs.size)) (EP X pins U Q) X.xe _
 refine tail_any (T:="str") (ops:=[.str z t,.ref s4.heap.objs.size]) (typeIs_str _ _ _) F.slot_str_getitem.lookup ?_ (by with_unfolding_all rfl)
 refine Yz (l:=Gu l t1) (u:=Gu u t2) (st:=Gu (some c') t3) ⟨_,Ww _ rfl,rfl,rfl⟩ (by show (c' == 0)=false;simpa using hc0) ?_
 unfold sliceMade
 have e1:(((Gu (some c') t3).map (·.1)).getD 1 == 1)=false:=by show (c' == 1)=false;simpa using hc1
 rw [e1,Bool.false_and,if_neg WF]
 have e2:(⟨((slicePicked z (Gu l t1) (Gu u t2) (Gu (some c') t3)).filterMap (z.cps[·]?)).toArray⟩:Str)=wg z l u c':=by
  unfold slicePicked wg
  rw [Dz,Dz];rfl
 rw [e2]
 exact ⟨hz,⟨.str _,H4,I5.tok _,⟨_,rfl⟩,q⟩⟩
theorem Jg (he:JE X e te) (hl:JO X lo tl) (hu:JO X hi th) (hs:JO X (some st) ts):JE X (.Subscript e (.Slice lo hi (some st) p2) pos) (RL te tl th ts):=⟨FW he.run hl.run hu.run hs.run⟩
theorem M5:JE X (.Dict [] [] pos) Bp:=⟨Hy⟩
end
section
variable {U:St} {H:Hp} {Q:VK} {te:TE}
theorem fJ {tl th ts:TO} (h:te U H fun x H1=>tl U H1 fun l H2=>th U H2 fun u H3=>ts U H3 fun c H4=>∃ z c',x= .str z/\c=some c'/\c'≠0/\c'≠1/\(wg z l u c').length<=sizeLine/\Q (.str (wg z l u c')) H4):RL te tl th ts U H Q:=h
theorem cY (h:∀ p,H p=none->Q (.ref p) (upd H p (.dK []))):Bp U H Q:=h
end
def Vn (K:W.Frag) (neg:Bool):R2:=fun x y H Q=>∃ a b xs,x= .ref a/\y= .ref b/\SqL K H a xs/\SqL K H b xs/\(∀ v∈xs,mq v=true\/∃ r,v= .ref r)/\Q (.bl (!neg)) H
theorem zM {v:V} (f:mq v=true):Di v v=true:=by
 cases v <;> first | (cases f;done) | rfl | (simp [Di])
section
variable {X:Cx}
theorem RM (hu:X.A.units < cLine):OpR X (compareOp .Eq) (Vn X.K false):=by
 intro pins s U H x y v u Q I rx ry h
 obtain ⟨a,b,xs,rfl,rfl,ha,hb,fx,q⟩:=h
 cases rx
 cases ry
 obtain ⟨its,r1,p1,z1⟩:=I.list ha
 obtain ⟨jts,r2,p2,z2⟩:=I.list hb
 have l1:its.toArray.size=xs.length:=by simpa using r1.length.symm
 have l2:jts.toArray.size=xs.length:=by simpa using r2.length.symm
 refine SeqAt.eq_listAt (e:=fun _=>true) p1.isList p2.isList (by rw [l1,l2]) hu (fun j h1 h2=>?_) ?_
 ·have hj:j < xs.length:=by omega
  obtain ⟨u1,e1,q1⟩:=r1.get (Wn hj)
  obtain ⟨u2,e2,q2⟩:=r2.get (Wn hj)
  have f1:its.toArray[j]=u1:=by
   obtain ⟨_,z⟩:=Wm.mp e1
   simpa using z
  have f2:jts.toArray[j]=u2:=by
   obtain ⟨_,z⟩:=Wm.mp e2
   simpa using z
  rw [f1,f2]
  rcases fx _ (Yb hj) with f | ⟨r,f⟩
  ·rw [← zM f]
   exact xX q1 q2 f f
  ·rw [f] at q1 q2
   cases (show u1=Value.ref r from q1)
   cases (show u2=Value.ref r from q2)
   exact SeqAt.EqAt.same _
 ·have e:(List.range its.toArray.size).all (fun _=>true)=true:=by simp
  rw [e]
  exact ⟨.bl true,H,I,rfl,q⟩
def M6 (K:W.Frag):R2:=fun x y H Q=>Ie K x y H Q\/Vn K false x y H Q
theorem RN {K:W.Frag} (hK:X.K=K) (hu:X.A.units+64 < cLine):OpR X (compareOp .Eq) (M6 K):=by
 subst hK
 exact (BJ rfl hu).or (RM (Nat.lt_of_le_of_lt (Nat.le_add_right _ _) hu))
end
section
variable {H:Hp} {Q:VK} {K:W.Frag}
theorem bZ {i j:Int} (h:Q (.bl (decide (V.int i=V.int j))) H):M6 K (.int i) (.int j) H Q:=.inl (bW h)
theorem b7 {i j:Str} (h:Q (.bl (decide (V.str i=V.str j))) H):M6 K (.str i) (.str j) H Q:=.inl (bY h)
end
end L2
namespace L2
open PySem PySem.Spec PyProof.Rows
open AutoSeq1 (wpAny_loadPart')
theorem RP:isSubtype (.type "dict") (.type "dict")=pure true:=by rw [Zh];kernel_rfl
theorem FZ {prog:Program} {w:World} {A:Around} {E:Value->Shared->Prop} {s:Shared} {Q:Value->Shared->Prop} {a:Addr} {o:Obj} {e:DictEntry} {ep:Nat} {k:Key} (ho:s.heap.get? a=some o) (hc:o.cls= .type "dict") (hd:o.data= .dict #[e] ep)
  (hkey:(dY prog w).is k e.key=true) (hh:e.hash=(dY prog w).hash k) (hsm:(a == sysModules)=false) (hu:A.units < cLine) (h:Q (.bool true) s):wpAny (model prog w) A (compareOp .Eq (.ref a) (.ref a)) Q E s:=by
 show wpAny _ _ (richCompare .Eq (.ref a) (.ref a)) _ _ _
 refine wpAny_richCompare_same_room ⟨o,ho,hc⟩ ⟨o,ho,hc⟩ F.slot_dict_eq (Zg (Zi F.slot_dict_eq.plain F.entry_dict_eq (F.slot_dict_eq.check _ _ _ _ _ _ _ _ ⟨o,ho,hc⟩ (F.args_dict_eq_2 _ _) ?_))) hu
 have ko:KeysOf (dY prog w) #[e]:=fun x hx=>by
  simp at hx
  subst hx
  exact ⟨k,hkey,hh⟩
 have f2:=RP
 obtain ⟨hp,g,d,tk,os⟩:=s
 have hT:(⟨hp,g,d,tk,os⟩:Shared).TypeIs (.ref a) "dict":=⟨_,ho,hc⟩
 unfold Builtin.«dict.__eq__»
 wp_walk using wpAny_loadPart' ho
 have en:∀ (Q:Array DictEntry->Shared->Prop) (E:Value->Shared->Prop),Q #[e] ⟨hp,g,d,tk,os⟩->wpAny (model prog w) A.in1 (dictEntries a) Q E ⟨hp,g,d,tk,os⟩:=fun Q E q=>by
  unfold dictEntries
  refine Wl (Zf ho ?_)
  simp only [hd]
  exact Wt q
 have eo:∀ (Q:Nat->Shared->Prop) (E:Value->Shared->Prop),Q ep ⟨hp,g,d,tk,os⟩->wpAny (model prog w) A.in1 (dictEpoch a) Q E ⟨hp,g,d,tk,os⟩:=fun Q E q=>by
  unfold dictEpoch
  refine Wl (Zf ho ?_)
  simp only [hd]
  exact Wt q
 simp only [hd]
 refine Wt ?_
 refine Wl (en _ _ ?_)
 rw [if_neg (by simp)]
 refine Wl (eo _ _ ?_)
 refine Wl ?_
 rw [Std.Legacy.Range.forIn_eq_forIn_range']
 simp only [Std.Legacy.Range.size,Nat.sub_zero,Nat.add_sub_cancel,Nat.div_one]
 show wpAny _ _ (forIn [0] _ _) _ _ _
 rw [List.forIn_cons]
 refine Wl (Wl (en _ _ ?_))
 show wpAny _ _ (holding [e.key,e.val] _ >>=_) _ _ _
 refine Wl (X5 ?_)
 refine Wl (show wpAny (model prog w) A.in1 (dictFind a e.key e.hash) _ _ _ from ?_)
 rw [hh]
 refine wpAny_dictFind_of hkey ho hd ko ?_
 have fi:(#[e]:Array DictEntry).findIdx? (fun e=>(dY prog w).is k e.key)=some 0:=by simp [hkey]
 rw [fi]
 refine Wl (en _ _ ?_)
 show wpAny _ _ (holding [e.val] (eqBool e.val e.val)) _ _ _
 refine X5 (SeqAt.EqAt.same e.val prog w _ _ ?_)
 rw [if_neg (by simp)]
 refine Wl (eo _ _ ?_)
 rw [if_neg (by simp)]
 refine Wt ?_
 show wpAny _ _ (forIn [] _ _) _ _ _
 rw [List.forIn_nil]
 refine Wt (Wt ?_)
 exact Wt ⟨(fun z=>nomatch z),h⟩
section
variable {X:Cx}
def Pa (K:W.Frag):R2:=fun x y H Q=>∃ a b xs,x= .ref a/\y= .ref b/\SqT K H a xs/\SqT K H b xs/\(∀ v∈xs,mq v=true\/∃ r,v= .ref r)/\Q (.bl true) H
theorem M9 (hu:X.A.units < cLine):OpR X (compareOp .Eq) (Pa X.K):=by
 intro pins s U H x y v u Q I rx ry h
 obtain ⟨a,b,xs,rfl,rfl,ha,hb,fx,q⟩:=h
 cases rx
 cases ry
 obtain ⟨its,r1,p1,z1⟩:=I.tuple ha
 obtain ⟨jts,r2,p2,z2⟩:=I.tuple hb
 have l1:its.toArray.size=xs.length:=by simpa using r1.length.symm
 have l2:jts.toArray.size=xs.length:=by simpa using r2.length.symm
 refine SeqAt.eq_tupleAt (e:=fun _=>true) p1 p2 hu (fun j h1 h2=>?_) ?_
 ·have hj:j < xs.length:=by omega
  obtain ⟨u1,e1,q1⟩:=r1.get (Wn hj)
  obtain ⟨u2,e2,q2⟩:=r2.get (Wn hj)
  have f1:its.toArray[j]=u1:=by
   obtain ⟨_,z⟩:=Wm.mp e1
   simpa using z
  have f2:jts.toArray[j]=u2:=by
   obtain ⟨_,z⟩:=Wm.mp e2
   simpa using z
  rw [f1,f2]
  rcases fx _ (Yb hj) with f | ⟨r,f⟩
  ·rw [← zM f]
   exact xX q1 q2 f f
  ·rw [f] at q1 q2
   cases (show u1=Value.ref r from q1)
   cases (show u2=Value.ref r from q2)
   exact SeqAt.EqAt.same _
 ·have e:((List.range (min its.toArray.size jts.toArray.size)).all (fun _=>true) && its.toArray.size == jts.toArray.size)=true:=by rw [l1,l2];simp
  rw [e]
  exact ⟨.bl true,H,I,rfl,q⟩
def Pb:R2:=fun x y H Q=>∃ a k v,x= .ref a/\y= .ref a/\H a=some (.dK [(k,v)])/\Q (.bl true) H
theorem Nb (hu:X.A.units < cLine):OpR X (compareOp .Eq) Pb:=by
 intro pins s U H x y v u Q I rx ry h
 obtain ⟨a,k,z,rfl,rfl,ha,q⟩:=h
 cases rx
 cases ry
 obtain ⟨_,hsm,vs,kv,o,es,ep,h1,h2,h3,h4,h5,h6⟩:=(show ObjOk X.prog X.w H s.heap a (.dK [(k,z)]) from I.hok a _ ha)
 cases kv with
 | cons a1 a2=>
  cases a2
  obtain ⟨l⟩:=es
  dsimp only at h5
  cases h5 with
  | @cons en _ _ _ p1 p2 p3=>
   cases p3
   obtain ⟨k',b1,b2⟩:=h4 en (by simp)
   exact FZ (e:=en) h1 h2.1 h3 b1 b2 hsm hu ⟨.bl true,H,I,rfl,q⟩
def RQ (K:W.Frag):R2:=fun x y H Q=>M6 K x y H Q\/Pa K x y H Q\/Pb x y H Q
theorem lG {K:W.Frag} (hK:X.K=K) (hu:X.A.units+64 < cLine):OpR X (compareOp .Eq) (RQ K):=by
 subst hK
 exact (RN rfl hu).or ((M9 (Nat.lt_of_le_of_lt (Nat.le_add_right _ _) hu)).or (Nb (Nat.lt_of_le_of_lt (Nat.le_add_right _ _) hu)))
end
section
variable {H:Hp} {Q:VK} {K:W.Frag}
theorem bD {U:St} {r r':R2} {ta tb tc:TE} (h:ta U H fun x H1=>tb U H1 fun y H2=>r x y H2 fun z H3=>∃ k,z= .bl k/\if k=true then tc U H3 fun w H4=>r' y w H4 Q else Q (.bl false) H3):uR r r' ta tb tc U H Q:=h
theorem cZ {i j:Int} (h:Q (.bl (decide (V.int i=V.int j))) H):RQ K (.int i) (.int j) H Q:=.inl (bZ h)
theorem c7 {i j:Str} (h:Q (.bl (decide (V.str i=V.str j))) H):RQ K (.str i) (.str j) H Q:=.inl (b7 h)
end
end L2
namespace L2
open PySem PySem.Spec PyProof.Rows PySem.SeqAt
theorem cps_append (a b:Str):(a ++ b).cps.toList=a.cps.toList ++ b.cps.toList:=by
 show (a.cps ++ b.cps).toList=_
 rw [Array.toList_append]
theorem Nf (lo hi:Option Int) (n:Nat):Builtin.Str.strSliceIndices lo hi 1 n=(List.range (HT.sIx n n hi - HT.sIx n 0 lo)).map fun k=>HT.sIx n 0 lo+k:=by
 have c:∀ (i:Int) (d:Nat),max 0 (min (if i < 0 then i+(n:Int) else i) (n:Int))=((HT.sIx n d (some i):Nat):Int):=by
  intro i d
  rw [← HT.clip_eq]
  split <;> omega
 have key:∀ a b:Nat,(List.range (if (a:Int) < (b:Int) then ((b:Int) - a+1 - 1) / 1 else 0).toNat).map (fun k:Nat=>((a:Int)+1*(k:Int)).toNat)=(List.range (b - a)).map fun k=>a+k:=by
  intro a b
  have e3:(if (a:Int) < (b:Int) then ((b:Int) - a+1 - 1) / 1 else 0).toNat=b - a:=by split <;> omega
  rw [e3]
  refine YG fun k _=>?_
  omega
 unfold Builtin.Str.strSliceIndices sliceRange
 simp only [show (1:Int) > 0 by decide,if_true]
 cases lo with
 | none=>
  cases hi with
  | none=>exact key 0 n
  | some j=>rw [← key,← c j n];rfl
 | some i=>
  cases hi with
  | none=>rw [← key,← c i 0];rfl
  | some j=>rw [← key,← c i 0,← c j n]
theorem Pg {α β:Type} {f:α->Option β} {g:α->β}:∀ (l:List α),(∀ k∈l,f k=some (g k))->l.filterMap f=l.map g
 | [],_=>rfl
 | k :: l,h=>by rw [YF,h k (by simp),Xh,Pg l fun j hj=>h j (WL _ hj)]
theorem Ga (l:List Nat) (a m:Nat) (h:a+m<=l.length):((List.range m).map fun k=>a+k).filterMap (fun i=>l[i]?)=(l.drop a).take m:=by
 rw [List.filterMap_map,Pg (g:=fun k=>l.getD (a+k) 0)]
 ·refine Zd fun i=>?_
  rw [Wo,List.getElem?_take]
  by_cases hi:i < m
  ·rw [if_pos hi,Xd hi,Y7,Wn (by omega)]
   simp [Wn (show a+i < l.length by omega)]
  ·rw [if_neg hi,XN (by simp;omega)];rfl
 ·intro k hk
  have hk:=Xe.mp hk
  show l[a+k]?=_
  rw [Wu,Wn (by omega)];rfl
theorem pB (z:Str) (lo hi:Option Int):(Txt.slice z lo hi).cps.toList=(z.cps.toList.drop (HT.sIx z.length 0 lo)).take (HT.sIx z.length z.length hi - HT.sIx z.length 0 lo):=by
 have hn:z.cps.toList.length=z.length:=by simp [Str.length]
 have la:=HT.sIx_le z.length 0 (Xx _) lo
 have lb:=HT.sIx_le z.length z.length (Wq _) hi
 unfold Txt.slice
 rw [Nf]
 generalize HT.sIx z.length 0 lo=a at la ⊢
 generalize HT.sIx z.length z.length hi=b at lb ⊢
 split
 ·rename_i h
  simp at h
  have ha:a=0:=by
   rcases Nat.eq_zero_or_pos z.length with h0 | h0
   ·omega
   ·omega
  subst ha
  rw [List.drop_zero,Xq (by omega)]
 ·show List.filterMap (fun x=>z.cps[x]?) _=_
  have e:(fun x:Nat=>z.cps[x]?)=fun x=>z.cps.toList[x]?:=by funext x;simp
  rw [e]
  by_cases h:a<=b
  ·exact Ga _ a (b - a) (by omega)
  ·rw [show b - a=0 by omega];simp
theorem vB (z:Str) (k:Nat):(Txt.slice z none (some (k:Int))).cps.toList=z.cps.toList.take k:=by
 rw [pB,HT.sIx_none,HT.sIx_nat,List.drop_zero,Nat.sub_zero]
 have hn:z.cps.toList.length=z.length:=by simp [Str.length]
 by_cases h:k<=z.length
 ·rw [Nat.min_eq_left h]
 ·rw [Nat.min_eq_right (by omega),Xq (by omega),Xq (by omega)]
theorem vC (z:Str) (k:Nat):(Txt.slice z (some (k:Int)) none).cps.toList=z.cps.toList.drop k:=by
 rw [pB,HT.sIx_none,HT.sIx_nat]
 have hn:z.cps.toList.length=z.length:=by simp [Str.length]
 by_cases h:k<=z.length
 ·rw [Nat.min_eq_left h,Xq (by rw [Y0];omega)]
 ·rw [Nat.min_eq_right (by omega),List.drop_eq_nil_of_le (by omega),List.drop_eq_nil_of_le (by omega)];simp
theorem BR {n:Nat}:∀ {ds:List PyData},(∀ d∈ds,d.canLay0=true/\d.depth<=n)->PyData.canLayAll0 ds=true/\PyData.depthAll ds<=n
 | [],_=>⟨rfl,by simp [PyData.depthAll]⟩
 | d :: ds,h=>by
  obtain ⟨a,b⟩:=BR fun e he=>h e (WL _ he)
  obtain ⟨c,e⟩:=h d (by simp)
  rw [PyData.canLayAll0,PyData.depthAll,a,c]
  exact ⟨rfl,by omega⟩
theorem ou {n:Nat} {ds:List PyData} (h:∀ d∈ds,d.canLay0=true/\d.depth<=n):(PyData.list ds).canLay0=true/\(PyData.list ds).depth<=n+1:=by
 obtain ⟨a,b⟩:=BR h
 rw [PyData.canLay0,PyData.depth]
 exact ⟨a,by omega⟩
theorem xq {n:Nat} {ds:List PyData} (h:∀ d∈ds,d.canLay0=true/\d.depth<=n):(PyData.tuple ds).canLay0=true/\(PyData.tuple ds).depth<=n+1:=by
 obtain ⟨a,b⟩:=BR h
 rw [PyData.canLay0,PyData.depth]
 exact ⟨a,by omega⟩
theorem uM (s:Int):(PyData.int s).canLay0=true/\(PyData.int s).depth<=0:=by simp [PyData.canLay0,PyData.depth]
theorem ql {d:PyData} {n:Nat} (h:d.canLay0=true/\d.depth<=n) (hn:n<=64):shaped d=true:=by
 unfold shaped
 rw [h.1,W0 (by omega)];rfl
theorem jL {xs:List V} {H:Hp} {R:Addr->Prop} (c:Nat.ble xs.length 64=true) (h:∀ p,H p=none->R p):xs.length<=sizeLine/\∀ p,H p=none->R p:=
 ⟨WY (Nat.le_of_ble_eq_true c) (by decide),h⟩
theorem fK {A B:Prop} (h:A):if (!false)=true then A else B:=(if_pos (show (!false)=true from rfl)).mpr h
theorem fM {A B:Prop} (h:B):if (!true)=true then A else B:=by rw [if_neg (by simp)];exact h
theorem dg {A B:Prop} (h:A):if (!!true)=true then A else B:=(if_pos (show (!!true)=true from rfl)).mpr h
theorem dh {A B:Prop} (h:B):if (!!false)=true then A else B:=by rw [if_neg (by simp)];exact h
theorem DG {t u:TS} {D:Ends} {U:St} {H:Hp} (M:St->Hp->Prop) (h1:∀ U H,M U H->u D U H) (h2:∀ N,(∀ U H,M U H->N U H)->t {D with nx:=N} U H):K4 t u D U H:=h2 _ h1
theorem Vo {α:Type} {xs:List α} {n:Nat} {v:α} (h:xs.length=n+1) (e:xs[n]?=some v):rR xs (-1)=some v:=by
 unfold rR Df
 rw [h,if_neg (by omega),if_pos (by omega)]
 show xs[((-1:Int)+((n+1:Nat):Int)).toNat]?=some v
 rw [show ((-1:Int)+((n+1:Nat):Int)).toNat=n by omega];exact e
end L2
namespace L2
open PySem PySem.Spec PyProof.Rows PySem.SeqAt
open AutoSeq1 (wpAny_loadPart')
end L2
namespace L2
open PySem PySem.Spec PyProof.Rows
def Ph:List V->Hp->VK->Prop:=fun xs H Q=>(∃ i j,xs=[.int i,.int j]/\Q (.int (if j > i then j else i)) H)\/∃ (p:Addr) (ns:List Int),xs=[.ref p]/\H p=some (.lst (ns.map V.int))/\ns≠[]/\∀ M,M∈ns->(∀ a∈ns,a<=M)->Q (.int M) H
section
variable {X:Cx}
theorem xr (hc:X.calm=true):CallR X (.builtin "max") Ph:=by
 intro pins s U H xs us Q I r h
 rcases h with h | ⟨p,ns,rfl,hp,hne,q⟩
 ·exact o7 hc pins s U H xs us Q I r h
 ·obtain ⟨u,rfl,ru⟩:=vals1 r
  cases ru
  obtain ⟨hz,its,n,rv,g⟩:=I.hok p _ hp
  have hi:IntsAre its ns:=intsAre_of rv
  have hl:=rv.length
  obtain ⟨ys,ey⟩:=hi.allInts.items
  have hn:=hi.numsOf
  have hsz:0 < ys.size:=by
   have e1:=congrArg Array.size ey
   have:0 < ns.length:=List.length_pos_iff.mpr hne
   rw [Ws] at hl
   simp [intItems] at e1
   omega
  have hL:s.heap.IsList p (intItems ys):=⟨_,g,rfl,n,by rw [← ey]⟩
  have en:ys.toList.map (·.1)=ns:=by rw [← nums_intItems,← ey,← hn]
  refine max_intList (I.ok.hd hc) hL hsz fun v h' tk hv hk=>?_
  obtain ⟨t,rfl⟩:=intItems_at hv
  obtain ⟨h1,h2⟩:=argBest_gt (numAt ys) (ys.size - 1)
  refine ⟨.int _,H,I.kept hk,⟨t,rfl⟩,q _ ?_ fun a ha=>?_⟩
  ·rw [← en,numAt_eq];exact getD_mem (by rw [Ws,Xp];omega)
  ·rw [← en] at ha
   obtain ⟨j,hj,rfl⟩:=mem_getD ha
   rw [Ws,Xp] at hj
   rw [← numAt_eq];exact h2 j (by omega)
theorem yp {i:Nat} {x:Str} {e:Expr} {te:TE} {op:Operator} {r:R2} {pos pos':Pos} (hN:X.N.Nodup) (hi:X.N[i]?=some x) (hx:Loc X.env.scope x) (he:JE X e te) (ho:OpR X (inplaceOp op) r) (hf:X.fn x=true):
  JS X (.AugAssign (.Name x pos') op e pos) (Qu i te r):=⟨Qv hN hi hx he.run ho (.inl hf)⟩
end
section
variable {U:St} {H:Hp} {Q:VK} {D:Ends}
theorem ur {i:Nat} {te:TE} {r:R2} {v:V} (e:U[i]?=some (some v)) (h:te U H fun y H1=>r v y H1 fun z H2=>D.nx (U.set i (some z)) H2):Qu i te r D U H:=⟨v,e,h⟩
theorem Jh {p:Addr} {ns:List Int} (hp:H p=some (.lst (ns.map V.int))) (hn:ns≠[]) (h:∀ M,M∈ns->(∀ a∈ns,a<=M)->Q (.int M) H):Ph [.ref p] H Q:=.inr ⟨p,ns,rfl,hp,hn,h⟩
end
def Vp (K:W.Frag):R2:=fun x y H Q=>LR K x y H Q\/∃ a o,y= .ref a/\DGet H a x o/\Q (.bl o.isSome) H
def Pj:Ax:=fun o i v H R=>wX o i v H R\/∃ a H4,o= .ref a/\DPut H a i v H4/\R H4
def Ji:V->List V->Hp->VK->Prop:=fun x vs H Q=>∃ (l:Addr) (ns:List Int) (k:Int),x= .ref l/\vs=[.int k]/\H l=some (.lst (ns.map V.int))/\ns.length<=1000/\(∀ x∈ns,0<=x/\x < 1000)/\k∈ns/\Q (.int (ns.idxOf k:Nat)) H
theorem ut:∀ {ns:List Int},(∀ x∈ns,0<=x/\x < 1000)->PyData.weightAll (ns.map PyData.int)<=12*ns.length/\PyData.canLayAll0 (ns.map PyData.int)=true/\PyData.depthAll (ns.map PyData.int)=0
 | [],_=>⟨by simp [PyData.weightAll],rfl,by simp [PyData.depthAll]⟩
 | n :: ns,h=>by
  obtain ⟨a,b,c⟩:=ut fun x hx=>h x (WL _ hx)
  have hn:=h n (by simp)
  have hw:PyData.weight (.int n)<=11:=by
   rw [PyData.weight]
   split
   ·omega
   ·rename_i h0
    have h1:n.natAbs≠0:=fun z=>h0 (by simp;omega)
    have:n.natAbs.log2 < 10:=(Nat.log2_lt h1).mpr (by omega)
    omega
  rw [Xh,PyData.weightAll,PyData.canLayAll0,PyData.depthAll,b,c]
  refine ⟨by simp;omega,by simp [PyData.canLay0],by simp [PyData.depth]⟩
theorem yq {ns:List Int} (hl:ns.length<=1000) (h:∀ x∈ns,0<=x/\x < 1000):PyData.layable0 (.list (ns.map PyData.int))=true:=by
 obtain ⟨a,b,c⟩:=ut h
 unfold PyData.layable0
 rw [PyData.canLay0,b,PyData.depth,c,PyData.weight,W0 (show 0+1<=64 by omega),W0 (show PyData.weightAll (ns.map PyData.int)<=2 ^ 20 by omega)]
 rfl
section
variable {X:Cx}
theorem zN:KR X "list.index" Ji:=by
 intro pins s U H x xs v us Q I rx r h
 obtain ⟨l,ns,k,rfl,rfl,hl,hn,hb,hk,q⟩:=h
 obtain ⟨u,rfl,t,rfl⟩:=vals1 r
 cases rx
 obtain ⟨hz,its,n,rv,g⟩:=I.hok l _ hl
 exact index_list_ints (vs:=its) ⟨_,g,rfl,n,rfl⟩ (intsAre_of rv) (yq hn hb) hk ⟨.int _,H,I.tok _,⟨_,rfl⟩,q⟩
theorem Jj {K:W.Frag} (hK:X.K=K) (hu:X.A.units+64 < cLine):OpR X (compareOp .In) (Vp K):=(HJ hK).or (by
 intro pins s U H x y v u Q I rx ry h
 obtain ⟨a,o,rfl,g,q⟩:=h
 obtain rfl:u=Value.ref a:=ry
 exact d_in (by omega) I g rx fun s3 I3=>⟨.bl o.isSome,H,I3,rfl,q⟩)
theorem Ng (hu:X.A.units+64 < cLine):K8 X Pj:=by
 intro pins s U H o i v ov iv u Q I ro ri rv h
 rcases h with h | ⟨a,H4,rfl,g,q⟩
 ·exact set_list pins s U H o i v ov iv u Q I ro ri rv h
 ·obtain rfl:ov=Value.ref a:=ro
  exact Fq (by omega) I g ri rv fun s4 I4=>⟨H4,I4,q⟩
end
section
variable {U:St} {H:Hp} {Q:VK} {K:W.Frag}
theorem DK {l:Addr} {ns:List Int} {k:Int} (hl:H l=some (.lst (ns.map V.int))) (hn:ns.length<=1000) (hb:∀ x∈ns,0<=x/\x < 1000) (hk:k∈ns) (h:Q (.int (ns.idxOf k:Nat)) H):Ji (.ref l) [.int k] H Q:=⟨l,ns,k,rfl,rfl,hl,hn,hb,hk,h⟩
theorem iB {x y:Str} (h:Q (.bl (!(Builtin.Str.occurrences y x 0 y.length 1).isEmpty)) H):Vp K (.str x) (.str y) H Q:=.inl (d9 h)
end
end L2
namespace L2
open PySem PySem.Spec PyProof.Rows
open PySem.Sem (wp)
open PySem.AutoSeq1 (wpAny_loadPart')
end L2
namespace L2
open PySem PySem.Spec PyProof.Rows
end L2
namespace L2
open PySem PySem.Spec PyProof.Rows
open PySem.Sem (wp)
open PySem.AutoSeq1 (wpAny_loadPart')
section
variable {prog:Program} {w:World} {A:Around} {E:Value->Shared->Prop} {s:Shared}
theorem uA {it l:Addr} {i:Nat} {items:Array Value} {x:Value} {Q:Value->Shared->Prop} (hit:s.heap.IsRevIter it l (i:Int)) (hl:s.heap.IsList l items) (hx:items[i]?=some x)
  (hQ:∀ h',h'.IsRevIter it l ((i:Int) - 1)->Heap.SameBut it s.heap h'->Q x {s with heap:=h'}):wpAny (model prog w) A (Builtin.SmallTypes.nextOf (.ref it)) Q E s:=by
 obtain ⟨o,ho,hc,hd⟩:=id hit
 obtain ⟨ol,hol,_,nl,hdl⟩:=hl
 unfold Builtin.SmallTypes.nextOf
 refine Wl (XD (name:=Str.ofString "__next__") hit.typeIs F.slot_lri_next
  (X7 F.slot_lri_next hit.typeIs F.entry_lri_next ?_ (F.args_lri_next_1 _)))
 unfold Builtin.«list_reverseiterator.__next__»
 refine Wl (Yr (a:=(Value.ref it,[])) rfl ?_)
 try dsimp only
 refine Wl (Xu ho hd (x:=rawInt (i:Int)) rfl ?_)
 show wpAny _ _ (if (i:Int) < 0 then _ else _) _ _ s
 rw [if_neg (by omega)]
 show wpAny _ _ (field (.ref it) 0 >>=_) _ _ s
 refine Wl (Xu ho hd (x:=.ref l) rfl ?_)
 show wpAny _ _ (seqItems? (.ref l) >>=_) _ _ s
 refine Wl (Y4 hol hdl ?_)
 simp only [Int.toNat_natCast,hx]
 refine Wl (Y5 ho hd (by simp) ?_)
 first
 | refine Wt ⟨x,rfl,Wt (hQ _ ?_ (YX ..))⟩
 | refine Wl (Wt (Wt ⟨x,rfl,Wt (hQ _ ?_ (YX ..))⟩))
 exact ⟨_,XM _ ho (YL (Yh hd _)),(Obj.cls_mapFields ..).trans hc,by
  rw [Yh hd];simp⟩
theorem oA {it l:Addr} {Q:Value->Shared->Prop} (hh:A.handled=none) (hit:s.heap.IsRevIter it l (-1))
  (hE:∀ h' e,Heap.ExtBut it s.heap h'->(∃ o,h'.get? e=some o/\o.cls= .type "StopIteration")->E (.ref e) {s with heap:=h'}):wpAny (model prog w) A (Builtin.SmallTypes.nextOf (.ref it)) Q E s:=by
 obtain ⟨o,ho,hc,hd⟩:=id hit
 unfold Builtin.SmallTypes.nextOf
 refine Wl (XD (name:=Str.ofString "__next__") hit.typeIs F.slot_lri_next
  (X7 F.slot_lri_next hit.typeIs F.entry_lri_next ?_ (F.args_lri_next_1 _)))
 unfold Builtin.«list_reverseiterator.__next__»
 refine Wl (Yr (a:=(Value.ref it,[])) rfl ?_)
 try dsimp only
 refine Wl (Xu ho hd (x:=rawInt (-1)) rfl ?_)
 show wpAny _ _ (if (-1:Int) < 0 then _ else _) _ _ s
 rw [if_pos (by decide)]
 refine Wl (wpAny_rule ?_)
 first
 | show wpAny _ _ (newExc (.type "StopIteration") [] >>=_) _ _ _
 | (refine Wl ?_;show wpAny _ _ (newExc (.type "StopIteration") [] >>=_) _ _ _)
 refine Wl ?_
 simp only [newExc,newTuple]
 refine Wl (XJ ?_ (by size_fits))
 refine Wl (m:=firstArgMember _ _) (Yr (a:=Value.none) (by first | rfl | (simp only [firstArgMember];rfl)) ?_)
 refine XJ ?_ (by size_fits)
 simp only [raiseNew]
 refine Wl (wpAny_handled ?_)
 first | rw [show A.in1.handled=none from hh] | rw [hh]
 refine Wl (Wt (wpAny_throw ?_))
 exact hE _ _ (((Heap.ExtBut.refl _ _).push _).push _) ⟨_,Ww _ rfl,rfl⟩
end
theorem oE (it l:Addr) (i:Int) (dct:Option Addr) (sl:Array (Option Value)):
  Meets (Builtin.«enumerate.__new__» ⟨[.type "enumerate",.ref it],[]⟩) (fun _ R s=>s.heap.get? it=some {cls:=.type "list_reverseiterator",dict:=dct,data:=.fields #[.ref l,rawInt i],slots:=sl}/\
   R (.ok (.ret (.ref s.heap.objs.size)))
    {s with heap:=s.heap.push {cls:=.type "enumerate",data:=.fields #[.none,.bool false,.ref it,rawInt 0,.none,.none]}}):=
 .of_wp fun prog w A R s h=>by
  obtain ⟨hp,g,d,tk,os⟩:=s;obtain ⟨hl,h⟩:=h
  have hsub:=sub_enumerate
  have hL:Heap.IsRevIter (Shared.heap ⟨hp,g,d,tk,os⟩) it l i:=⟨_,hl,rfl,rfl⟩
  wp_walk using wpAny_loadPart' hl
  refine wpAny_stack_any fun st=>Wt ?_
  split
  ·rename_i c _ _ _ _ _
   cases (c == Value.type "enumerate")
   ·wp_walk using wpAny_loadPart' hl,Yy hL
    exact ⟨_,rfl,h⟩
   ·wp_walk using wpAny_loadPart' hl,Yy hL
    exact ⟨_,rfl,h⟩
  ·wp_walk using wpAny_loadPart' hl,Yy hL
   exact ⟨_,rfl,h⟩
end L2
namespace L2
open PySem PySem.Spec PyProof.Rows
section
variable {prog:Program} {w:World} {A:Around} {E:Value->Shared->Prop} {s:Shared}
theorem qm {it l:Addr} {i:Int} {Q:Value->Shared->Prop} (hL:s.heap.IsRevIter it l i)
  (h:∀ h',IsEnum h' s.heap.objs.size it 0 .none->(∀ b o,s.heap.get? b=some o->h'.get? b=some o)->Q (.ref s.heap.objs.size) {s with heap:=h'}):
  wpAny (model prog w) A (call (.type "enumerate") [.ref it]) Q E s:=by
 obtain ⟨⟨c,dct,dt,sl⟩,hl,hc,hd⟩:=hL
 replace hc:c= .type "list_reverseiterator":=hc
 replace hd:dt= .fields #[.ref l,rawInt i]:=hd
 subst hc hd
 refine callType_new F.called_enumerate (by decide) (F.typeCall_enumerate_1 _) (F.newCall_enumerate_1 _) (fun obj=>F.args_object_init_2 obj _) F.entry_enumerate_new
  (oE it l i dct sl) ⟨hl,?_⟩
 show _/\_
 have he:IsEnum (s.heap.push {cls:=.type "enumerate",data:=.fields #[.none,.bool false,.ref it,rawInt 0,.none,.none]}) s.heap.objs.size it 0 .none:=Ww _ rfl
 exact ⟨⟨_,he,rfl⟩,h _ he fun b o x=>Wr _ x⟩
end
theorem Gb {prog:Program} {w:World} {A:Around} (hh:A.handled=none) (it l:Addr) (hne:l≠it) (items:Array Value):
  Draws prog w A it [it,l] items.size (fun i v=>items[items.size - 1 - i]?=some v) (fun i h=>i<=items.size/\h.IsRevIter it l ((items.size:Int) - 1 - (i:Int))/\h.IsList l items) where
 live:=fun _ _ st=>let ⟨o,ho,_⟩:=st.2.1;⟨o,ho⟩
 frame:=fun _ _ _ x hk=>⟨x.1,x.2.1.at fun o e=>hk it (by simp) o e,x.2.2.at fun o e=>hk l (by simp) o e⟩
 item:=fun i s Q E hi x hQ=>by
  have e:(items.size:Int) - 1 - (i:Int)=((items.size - 1 - i:Nat):Int):=by omega
  have hit:=x.2.1
  rw [e] at hit
  have hx:items[items.size - 1 - i]?=some (items[items.size - 1 - i]'(by omega)):=Yc (by omega)
  refine uA hit x.2.2 hx fun h' hit' hs'=>?_
  have e2:((items.size - 1 - i:Nat):Int) - 1=(items.size:Int) - 1 - ((i+1:Nat):Int):=by omega
  rw [e2] at hit'
  exact hQ _ h' s.toks hx ⟨hi,hit',x.2.2.at fun o eo=>(hs'.2 l hne).trans eo⟩ hs'
 done:=fun s Q E x hE=>by
  have e:(items.size:Int) - 1 - (items.size:Int)= -1:=by omega
  have hit:=x.2.1
  rw [e] at hit
  exact oA hh hit hE
def Gd (K:W.Frag) (a:Addr) (n:Nat):It:=
 ⟨fun i H=>i < n/\∃ xs,SqL K H a xs/\xs.length=n,
  fun i H v H'=>∃ T x,H T=none/\v= .ref T/\(∀ xs,SqL K H a xs->xs[n - 1 - i]?=some x)/\H'=upd H T (.tup [.int i,x]),
  fun i _=>i=n⟩
theorem BV {P:Program} {w:World} {K:W.Frag} {elts:List Expr} {k n:Nat} {pos:Pos} {e it a:Addr} (hne:e≠it) (hea:e≠a) (hai:a≠it):
  Turn P w K (.Tuple elts k pos) (Gd K a n) [e,it] e (fun i h=>(∃ old,IsEnum h e it i old)/\i<=n/\h.IsRevIter it a ((n:Int) - 1 - (i:Int))) where
 mem:=by simp
 obj:=fun i h st c hc=>by
  obtain ⟨⟨old,he⟩,_,⟨o1,e1,c1,d1⟩⟩:=st
  simp only [WD,Xb,or_false] at hc
  rcases hc with rfl | rfl
  ·exact ⟨_,he,fun v z=>by cases z⟩
  ·exact ⟨_,e1,fun v z=>by rw [d1] at z;cases z⟩
 keep:=fun i h h' st kk=>by
  obtain ⟨⟨old,he⟩,hi,h1⟩:=st
  exact ⟨⟨old,kk e (by simp) _ he⟩,hi,h1.at fun o q=>kk it (by simp) o q⟩
 item:=by
  intro X hP hw hK hc i pins s U H E I hf st hg
  subst hP hw hK
  obtain ⟨⟨old,he⟩,hi,h1⟩:=st
  obtain ⟨hlt,xs,hq,hlen⟩:=hg
  obtain ⟨its,rv,p,_⟩:=I.list hq
  have l1:=rv.length
  have sz:its.toArray.size=n:=by rw [WQ];omega
  obtain ⟨x,hx⟩:∃ x,xs[n - 1 - i]?=some x:=⟨_,Wn (by omega)⟩
  obtain ⟨u,hu,ru⟩:=rv.get hx
  have h1':s.heap.IsRevIter it a ((its.toArray.size:Int) - 1 - (i:Int)):=by rw [sz];exact h1
  refine wpAny_pyNext_enum_itemD (Gb (A:=X.A.in1) (I.ok.hd hc) it a hai its.toArray) he ⟨by omega,h1',p.isList⟩ (by omega) hne (by simp [hne,hea]) fun x' h' tk hx' a1 a2 a3 a4 hk=>?_
  have ex:x'=u:=by
   have h2:its[its.length - 1 - i]?=some x':=by simpa using hx'
   rw [show its.length - 1 - i=n - 1 - i by omega,hu] at h2
   exact (WR h2).symm
  subst ex
  refine ⟨_,rfl,wpAny_letOwnedTupleGo_enum a1 fun h'' a1' sb=>?_⟩
  have lt:∀ {c o},s.heap.get? c=some o->s.heap.objs.size≠c:=fun e=>Yn (Wx e)
  have lti:s.heap.objs.size≠it:=by obtain ⟨o,q,_⟩:=h1;exact lt q
  have isT:h''.IsTuple s.heap.objs.size #[.int i tk,x']:=⟨_,sb.extBut _ _ (lt he) a3,rfl,_,rfl⟩
  have kall:∀ b o,b ∉ [e,it]->s.heap.get? b=some o->h''.get? b=some o:=fun b o hb q=>by
   simp only [WD,Xb,or_false,not_or] at hb
   exact sb.extBut _ _ hb.1 (hk b o hb.1 hb.2 q)
  have hTn:H s.heap.objs.size=none:=I.hok.fresh (Wq _)
  refine ⟨.ref s.heap.objs.size,_,I.newtup (tk:=tk+1) hf (Wq _) kall isT (xs:=[.int i,x]) (.cons ⟨_,rfl⟩ (.cons ru .nil)) (by simp;decide),rfl,⟨_,x,hTn,rfl,fun zs hs=>by rw [I.list_inj hs hq];exact hx,rfl⟩,?_,fun b hb=>?_⟩
  ·refine ⟨⟨_,a1'⟩,hlt,?_⟩
   have:=a2.2.1
   rw [sz] at this
   exact this.at fun o q=>sb.extBut _ _ (Ne.symm hne) q
  ·have:s.heap.objs.size≠b:=by
    simp only [WD,Xb,or_false] at hb
    rcases hb with rfl | rfl
    ·exact lt he
    ·exact lti
   rw [aB (Ne.symm this)]
   exact (hf b hb).1
 done:=by
  intro X hP hw hK hc i pins s U H E I hf st hg
  subst hP hw hK
  obtain ⟨⟨old,he⟩,hi,h1⟩:=st
  have hin:i=n:=hg
  subst hin
  rw [show (i:Int) - 1 - (i:Int)= -1 by omega] at h1
  have ht:s.TypeIs (.ref e) "enumerate":=⟨_,he,rfl⟩
  unfold pyNext
  refine Wl (YJ (XD (name:=Str.ofString "__next__") ht F.slot_enumerate_next
   (X7 F.slot_enumerate_next ht F.entry_enumerate_next ?_ (F.args_enumerate_next_1 _))))
  show wpAny _ _ (field (.ref e) 2 >>=_) _ _ _
  refine Wl (Xu he rfl (x:=.ref it) rfl ?_)
  refine Wl (oA (A:=X.A.in1) (I.ok.hd hc) h1 fun h' x he' hx'=>?_)
  obtain ⟨o,ho,hc'⟩:=hx'
  refine Wl (Zk (T:="StopIteration") (b:=true) ⟨o,ho,hc'⟩ isSubtype_stop ?_)
  refine Wt ⟨rfl,I.only (tk:=s.toks) hf fun b o hb q=>?_⟩
  simp only [WD,Xb,or_false,not_or] at hb
  exact he' b o hb.2 q
 self:=fun _ _ _ _ _ st h=>let ⟨⟨_,he⟩,_⟩:=st;Zc he h
def zO (K:W.Frag) (ta:TE):TI:=fun U H R=>ta U H fun x H1=>∃ l xs,x= .ref l/\SqL K H1 l xs/\R (Gd K l xs.length) H1
theorem BW {X:Cx} {K:W.Frag} {a:Expr} {ta:TE} {elts:List Expr} {k:Nat} {tp p p2 p3 pos:Pos} (hK:X.K=K) (hg:Gl X "enumerate") (hm:X.mg "enumerate"=none) (hg2:Gl X "reversed") (hm2:X.mg "reversed"=none) (ha:JE X a ta) (h:autoParam (notStar a=true) L2.auto4._auto_1):
  JI X (.Tuple elts k tp) (.Call (.Name "enumerate" p) [.Call (.Name "reversed" p2) [a] [] p3] [] pos) (zO K ta):=⟨by
 subst hK
 intro pins s U H R I hq
 refine Call_ (jY I hg hm rm (Xo (arg1 rfl (XX (jY I hg2 hm2 n8 (Xo (arg1 h (dW (ha.run pins s U H _ I hq) fun u s1 qq0=>?_)) (dm h) rfl)))) rfl rfl))
 obtain ⟨x,H1,I1,rx,l,xs,ex,hx,q⟩:=qq0
 subst ex
 cases rx
 obtain ⟨its,rv,ht,hz⟩:=I1.list hx
 have hlen:=rv.length
 have lt:l < s1.heap.objs.size:=by obtain ⟨o,ho,_⟩:=ht.isList;exact Wx ho
 refine call_reversed_list ht.isList ?_
 have e0:(s1.heap.push (PySem.revObj l ((its.toArray.size:Int) - 1))).get? s1.heap.objs.size=some (PySem.revObj l ((its.toArray.size:Int) - 1)):=Ww _ rfl
 have s0:(s1.heap.push (PySem.revObj l ((its.toArray.size:Int) - 1))).objs.size=s1.heap.objs.size+1:=XH ..
 have k0:∀ b o,s1.heap.get? b=some o->(s1.heap.push (PySem.revObj l ((its.toArray.size:Int) - 1))).get? b=some o:=fun b o q=>Wr _ q
 refine qm (it:=s1.heap.objs.size) (l:=l) (i:=(its.toArray.size:Int) - 1) ⟨_,e0,rfl,rfl⟩ fun h' z1 hk=>?_
 have z1':IsEnum h' (s1.heap.objs.size+1) s1.heap.objs.size 0 .none:=by rw [← s0];exact z1
 have z2:h'.IsRevIter s1.heap.objs.size l ((xs.length:Int) - 1 - ((0:Nat):Int)):=⟨_,hk _ _ e0,rfl,by
  show Data.fields #[.ref l,rawInt ((its.toArray.size:Int) - 1)]=_
  rw [show ((its.toArray.size:Int) - 1)=(xs.length:Int) - 1 - ((0:Nat):Int) by rw [WQ];omega]⟩
 have J1:Inv X pins U H1 {s1 with heap:=h'}:=I1.kept (t':=s1.toks) fun b o q=>hk b o (k0 b o q)
 rw [s0]
 refine Zc z1' ?_
 have key2:∀ n l:Nat,l < n->n+1≠l/\l≠n:=fun n l h=>⟨by omega,by omega⟩
 refine ⟨s1.heap.objs.size+1,_,_,_,H1,rfl,J1,BV (n:=xs.length) (Nat.succ_ne_self _) (key2 _ _ lt).1 (key2 _ _ lt).2,⟨⟨_,z1'⟩,Xx _,z2⟩,fun b hb=>?_,q⟩
 have hb':s1.heap.objs.size<=b:=by
  simp only [WD,Xb,or_false] at hb
  have key:∀ n c:Nat,(c=n+1\/c=n)->n<=c:=fun n c h=>by omega
  exact key _ _ hb
 exact I1.fpOk hb' (I1.hok.fresh hb')⟩
section
variable {K:W.Frag} {U:St} {H:Hp}
theorem jV {ta:TE} {R:It->Hp->Prop} (h:ta U H fun x H1=>∃ l xs,x= .ref l/\SqL K H1 l xs/\R (Gd K l xs.length) H1):zO K ta U H R:=h
theorem Ge {a:Addr} {xs:List V} {g:TG} {tb:TS} {D:Ends} (Pv:Nat->St->Hp->Prop) (h0:Pv 0 U H) (hq:∀ i U H,i<=xs.length->Pv i U H->SqL K H a xs)
  (hs:∀ i U H T x,i < xs.length->xs[xs.length - 1 - i]?=some x->Pv i U H->H T=none->g (.ref T) U (upd H T (.tup [.int i,x])) fun σ2 H2=>tb {D with nx:=Pv (i+1),ct:=Pv (i+1),bk:=D.nx} σ2 H2) (hd:∀ U H,Pv xs.length U H->D.nx U H):
  ∃ W:Nat->Nat->St->Hp->Prop,(∃ m,W 0 m U H)/\∀ i m U H,W i m U H->
   ((Gd K a xs.length).stop i H/\D.nx U H)\/((Gd K a xs.length).go i H/\∃ N:St->Hp->Prop,(∀ U' H',N U' H'->∃ m',m' < m/\W (i+1) m' U' H')/\∀ x H',(Gd K a xs.length).yld i H x H'->g x U H' fun σ2 H2=>tb {D with nx:=N,ct:=N,bk:=D.nx} σ2 H2):=by
 refine ⟨fun i m U H=>m=xs.length - i/\i<=xs.length/\Pv i U H,⟨xs.length,by simp,Xx _,h0⟩,?_⟩
 rintro i m U H ⟨rfl,hi,p⟩
 have q1:=hq i U H hi p
 by_cases hlt:i < xs.length
 ·refine .inr ⟨⟨hlt,xs,q1,rfl⟩,Pv (i+1),fun U' H' p'=>⟨xs.length - (i+1),by omega,rfl,hlt,p'⟩,fun x H' y=>?_⟩
  obtain ⟨T,u,hT,e1,e2,e4⟩:=y
  subst e1 e4
  exact hs i U H T u hlt (e2 xs q1) p hT
 ·have e:i=xs.length:=by omega
  subst e
  exact .inl ⟨rfl,hd U H p⟩
end
end L2
namespace L2
open PySem PySem.Spec PyProof.Rows
open PySem.Sem (wp)
end L2
namespace L2
open PySem PySem.Spec PyProof.Rows
end L2
namespace L2
open PySem PySem.Spec PyProof.Rows
open PySem.Sem (wp)
structure vD (z TI TO i1 i2:Addr) (fp1 fp2:List Addr):Prop where
 TIz:TI≠z
 TOz:TO≠z
 i1z:i1≠z
 i2z:i2≠z
 TITO:TI≠TO
 TIi1:TI≠i1
 TIi2:TI≠i2
 TOi1:TO≠i1
 TOi2:TO≠i2
 i12:i1≠i2
 f1:∀ b∈fp1,b≠z/\b≠TO/\b≠i2
 f2:∀ b∈fp2,b≠z/\b≠TO/\b≠i1
section
variable {prog:Program} {w:World} {A:Around} {E:Value->Shared->Prop} {s:Shared} {z TI TO i1 i2:Addr} {fp1 fp2:List Addr} {n1 n2 k1 k2:Nat} {P1 P2:Nat->Value->Prop} {St1 St2:Nat->Heap->Prop} {a b:Value}
theorem Gf {Q:Value->Shared->Prop} (D1:Draws prog w A i1 fp1 n1 P1 St1) (D2:Draws prog w A i2 fp2 n2 P2 St2) (D:vD z TI TO i1 i2 fp1 fp2)
  (hz:IsZip s.heap z TI TO .none) (hTI:IsPair s.heap TI (.ref i1) (.ref i2)) (hTO:IsPair s.heap TO a b) (s1:St1 k1 s.heap) (s2:St2 k2 s.heap) (l1:k1 < n1) (l2:k2 < n2)
  (hQ:∀ x y h' tk,P1 k1 x->P2 k2 y->IsZip h' z TI TO (rawInt s.heap.objs.size)->IsPair h' TO x y->St1 (k1+1) h'->St2 (k2+1) h'->IsPair h' s.heap.objs.size x y->
   (∀ c o,c≠z->c≠TO->c≠i1->c≠i2->s.heap.get? c=some o->h'.get? c=some o)->Q (.ref s.heap.objs.size) {s with heap:=h',toks:=tk}):
  wpAny (model prog w) A (Builtin.«zip.__next__» ⟨[.ref z],[]⟩) (fun fin s'=>∃ v,fin= .done (.ret v)/\Q v s') E s:=by
 have sb:∀ {x:Addr} {h h':Heap},Heap.SameBut x h h'->∀ c o,c≠x->h.get? c=some o->h'.get? c=some o:=fun g c o n e=>g.extBut _ _ n e
 show wpAny _ _ (field (.ref z) 2 >>=_) _ _ _
 refine Wl (Xu hz rfl (x:=.bool false) rfl ?_)
 show wpAny _ _ (field (.ref z) 3 >>=_) _ _ _
 refine Wl (Xu hz rfl (x:=.ref TI) rfl (Wl (Y4 hTI rfl ?_)))
 show wpAny _ _ (Builtin.SmallTypes.ownedTupleIsFree (.ref z) >>=_) _ _ _
 unfold Builtin.SmallTypes.ownedTupleIsFree
 refine Wl (Wl (Xu hz rfl (x:=.none) rfl (Wt ?_)))
 simp only [if_true]
 refine Wl (wpAny_rule (Wl (Xu hz rfl (x:=.ref TO) rfl ?_)))
 refine Wl (Y8 hz (by simp) fun g1 y1 e1=>?_)
 replace y1:IsZip g1 z TI TO .ellipsis:=y1
 refine Wl ?_
 simp only [List.zipIdx_cons,List.zipIdx_nil,List.forIn_cons,List.forIn_nil]
 refine Wl (Wl (wpAny_onRaise ?_))
 show wpAny _ _ (Builtin.SmallTypes.nextOf (.ref i1) >>=_) _ _ _
 have t1:St1 k1 g1:=D1.frame _ _ _ s1 fun c hc o e=>sb e1 c o (D.f1 c hc).1 e
 have t2:St2 k2 g1:=D2.frame _ _ _ s2 fun c hc o e=>sb e1 c o (D.f2 c hc).1 e
 refine Wl (D1.item k1 _ _ _ l1 t1 fun x g2 tk px u1 e2=>Wt ?_)
 have p2:IsPair g2 TO a b:=sb e2 _ _ D.TOi1 (sb e1 _ _ D.TOz hTO)
 refine Wl (Y4 p2 rfl (Wl (wpAny_updateSeq_pair p2 fun g3 p3 e3=>?_)))
 replace p3:IsPair g3 TO x b:=p3
 refine Wl (wpAny_letGo (Wt ?_))
 refine Wl (Wl (wpAny_onRaise ?_))
 show wpAny _ _ (Builtin.SmallTypes.nextOf (.ref i2) >>=_) _ _ _
 have t3:St2 k2 g3:=D2.frame _ _ _ t2 fun c hc o e=>sb e3 c o (D.f2 c hc).2.1 (sb e2 c o (D.f2 c hc).2.2 e)
 refine Wl (D2.item k2 _ _ _ l2 t3 fun y g4 tk2 py u2 e4=>Wt ?_)
 have p4:IsPair g4 TO x b:=sb e4 _ _ D.TOi2 p3
 refine Wl (Y4 p4 rfl (Wl (wpAny_updateSeq_pair p4 fun g5 p5 e5=>?_)))
 replace p5:IsPair g5 TO x y:=p5
 refine Wl (wpAny_letGo (Wt (Wt ?_)))
 refine Wl (Y4 p5 rfl (Wl (wpAny_newTuple ?_)))
 have sz:g5.objs.size=s.heap.objs.size:=by rw [e5.1,e4.1,e3.1,e2.1,e1.1]
 have z5:IsZip g5 z TI TO .ellipsis:=sb e5 _ _ D.TOz.symm (sb e4 _ _ D.i2z.symm (sb e3 _ _ D.TOz.symm (sb e2 _ _ D.i1z.symm y1)))
 have k5:∀ c o,c≠z->c≠TO->c≠i1->c≠i2->s.heap.get? c=some o->g5.get? c=some o:=fun c o c1 c2 c3 c4 e=>
  sb e5 _ _ c2 (sb e4 _ _ c4 (sb e3 _ _ c2 (sb e2 _ _ c3 (sb e1 _ _ c1 e))))
 have v1:St1 (k1+1) g5:=D1.frame _ _ _ u1 fun c hc o e=>sb e5 c o (D.f1 c hc).2.1 (sb e4 c o (D.f1 c hc).2.2 (sb e3 c o (D.f1 c hc).2.1 e))
 have v2:St2 (k2+1) g5:=D2.frame _ _ _ u2 fun c hc o e=>sb e5 c o (D.f2 c hc).2.1 e
 have zlt:z < g5.objs.size:=Wx z5
 show wpAny _ _ (Builtin.SmallTypes.ownedTupleHandOut (.ref z) (.ref g5.objs.size) >>=_) _ _ _
 unfold Builtin.SmallTypes.ownedTupleHandOut
 have z6:IsZip (g5.push {cls:=.type "tuple",data:=.seq #[x,y]}) z TI TO .ellipsis:=Wr _ z5
 refine Wl (Wl (Y8 z6 (by simp) fun g7 z7 e7=>?_))
 replace z7:IsZip g7 z TI TO (rawInt g5.objs.size):=z7
 refine Y8 z7 (by simp) fun g8 z8 e8=>?_
 replace z8:IsZip g8 z TI TO (rawInt g5.objs.size):=z8
 have up:∀ c o,c≠z->g5.get? c=some o->g8.get? c=some o:=fun c o c1 e=>sb e8 _ _ c1 (sb e7 _ _ c1 (Wr _ e))
 have pT:IsPair g8 g5.objs.size x y:=sb e8 _ _ (Yn zlt) (sb e7 _ _ (Yn zlt) (Ww _ rfl))
 rw [sz] at z8 pT
 refine Wt ⟨_,rfl,?_⟩
 show Q (.ref g5.objs.size) _
 rw [sz]
 exact hQ x y g8 _ px py z8 (up _ _ D.TOz p5) (D1.frame _ _ _ v1 fun c hc o e=>up c o (D.f1 c hc).1 e) (D2.frame _ _ _ v2 fun c hc o e=>up c o (D.f2 c hc).1 e) pT fun c o c1 c2 c3 c4 e=>up c o c1 (k5 c o c1 c2 c3 c4 e)
theorem Jk {Q:Fin->Shared->Prop} (D1:Draws prog w A i1 fp1 n1 P1 St1) (D:vD z TI TO i1 i2 fp1 fp2)
  (hz:IsZip s.heap z TI TO .none) (hTI:IsPair s.heap TI (.ref i1) (.ref i2)) (s1:St1 n1 s.heap)
  (hE:∀ h' e,(∀ c o,c≠z->c≠i1->s.heap.get? c=some o->h'.get? c=some o)->(∃ o,h'.get? e=some o/\o.cls= .type "StopIteration")->E (.ref e) {s with heap:=h'}):
  wpAny (model prog w) A (Builtin.«zip.__next__» ⟨[.ref z],[]⟩) Q E s:=by
 have sb:∀ {x:Addr} {h h':Heap},Heap.SameBut x h h'->∀ c o,c≠x->h.get? c=some o->h'.get? c=some o:=fun g c o n e=>g.extBut _ _ n e
 show wpAny _ _ (field (.ref z) 2 >>=_) _ _ _
 refine Wl (Xu hz rfl (x:=.bool false) rfl ?_)
 show wpAny _ _ (field (.ref z) 3 >>=_) _ _ _
 refine Wl (Xu hz rfl (x:=.ref TI) rfl (Wl (Y4 hTI rfl ?_)))
 show wpAny _ _ (Builtin.SmallTypes.ownedTupleIsFree (.ref z) >>=_) _ _ _
 unfold Builtin.SmallTypes.ownedTupleIsFree
 refine Wl (Wl (Xu hz rfl (x:=.none) rfl (Wt ?_)))
 simp only [if_true]
 refine Wl (wpAny_rule (Wl (Xu hz rfl (x:=.ref TO) rfl ?_)))
 refine Wl (Y8 hz (by simp) fun g1 y1 e1=>?_)
 replace y1:IsZip g1 z TI TO .ellipsis:=y1
 refine Wl ?_
 simp only [List.zipIdx_cons,List.zipIdx_nil,List.forIn_cons,List.forIn_nil]
 refine Wl (Wl (wpAny_onRaise ?_))
 show wpAny _ _ (Builtin.SmallTypes.nextOf (.ref i1) >>=_) _ _ _
 have t1:St1 n1 g1:=D1.frame _ _ _ s1 fun c hc o e=>sb e1 c o (D.f1 c hc).1 e
 refine Wl (D1.done _ _ _ t1 fun g2 e e2 he=>?_)
 obtain ⟨oe,hoe,hce⟩:=he
 have y2:IsZip g2 z TI TO .ellipsis:=e2 _ _ D.i1z.symm y1
 have hez:e≠z:=fun x=>by subst x;rw [y2] at hoe;cases hoe;simp at hce
 exact Y8 y2 (by simp) fun g3 _ e3=>hE g3 e (fun c o c1 c3 x=>sb e3 _ _ c1 (e2 _ _ c3 (sb e1 _ _ c1 x))) ⟨oe,sb e3 _ _ hez hoe,hce⟩
end
abbrev Wa (h:Heap) (x:Str) (t:Tok):Heap:=h.push {cls:=.type (strIterType x),data:=.fields #[.str x t,.int 0 0]}
abbrev Wb (h:Heap) (x:Str) (t:Tok) (l:Addr):Heap:=(Wa h x t).push {cls:=.type "list_iterator",data:=.fields #[.ref l,.int 0 0]}
abbrev Wc (h:Heap) (x:Str) (t:Tok) (l:Addr):Heap:=(Wb h x t l).push {cls:=.type "tuple",data:=.seq #[.ref h.objs.size,.ref (Wa h x t).objs.size]}
abbrev Wd (h:Heap) (x:Str) (t:Tok) (l:Addr):Heap:=(Wc h x t l).push {cls:=.type "tuple",data:=.seq #[.none,.none]}
abbrev TV (h:Heap) (x:Str) (t:Tok) (l:Addr):Heap:=(Wd h x t l).push {cls:=.type "zip",data:=.fields #[.none,.bool false,.bool false,.ref (Wb h x t l).objs.size,.ref (Wc h x t l).objs.size]}
theorem uB (x:Str) (t:Tok) (l2:Addr) (ys:Array Value):
  Meets (Builtin.«zip.__new__» ⟨[.type "zip",.str x t,.ref l2],[]⟩) (fun _ R s=>s.heap.IsList l2 ys/\R (.ok (.ret (.ref (Wd s.heap x t l2).objs.size))) {s with heap:=TV s.heap x t l2}):=
 .of_wp fun prog w A R s h=>by
  obtain ⟨hp,g,d,tk,os⟩:=s;obtain ⟨hl2,h⟩:=h
  have hsub:=sub_zip
  have hL2:Heap.IsList (Shared.heap ⟨hp.push {cls:=.type (strIterType x),data:=.fields #[.str x t,.int 0 0]},g,d,tk,os⟩) l2 ys:=Heap.IsList.push hl2 _
  wp_walk using wpAny_pyIter_strU,wpAny_pyIter_list hL2
  exact ⟨_,rfl,h⟩
theorem BX {prog:Program} {w:World} {A:Around} {E:Value->Shared->Prop} {s:Shared} {x:Str} {t:Tok} {l:Addr} {ys:Array Value} {Q:Value->Shared->Prop} (hl:s.heap.IsList l ys)
  (h:∀ h',IsZip h' (s.heap.objs.size+4) (s.heap.objs.size+2) (s.heap.objs.size+3) .none->IsPair h' (s.heap.objs.size+2) (.ref s.heap.objs.size) (.ref (s.heap.objs.size+1))->
   IsPair h' (s.heap.objs.size+3) .none .none->h'.IsStrIter s.heap.objs.size (strIterType x) x t 0->h'.IsListIter (s.heap.objs.size+1) l 0->
   (∀ c o,s.heap.get? c=some o->h'.get? c=some o)->Q (.ref (s.heap.objs.size+4)) {s with heap:=h'}):
  wpAny (model prog w) A (call (.type "zip") [.str x t,.ref l]) Q E s:=by
 refine callType_new F.called_zip (by decide) (F.typeCall_zip_2 _ _) (F.newCall_zip_2 _ _) (fun obj=>F.args_object_init_3 obj _ _) F.entry_zip_new (uB x t l ys) ⟨hl,?_⟩
 have a1:(Wa s.heap x t).objs.size=s.heap.objs.size+1:=XH ..
 have a2:(Wb s.heap x t l).objs.size=s.heap.objs.size+2:=by rw [XH,a1]
 have a3:(Wc s.heap x t l).objs.size=s.heap.objs.size+3:=by rw [XH,a2]
 have a4:(Wd s.heap x t l).objs.size=s.heap.objs.size+4:=by rw [XH,a3]
 have pu:∀ {g:Heap} {o u:Obj} {c:Addr},g.get? c=some u->(g.push o).get? c=some u:=fun e=>Wr _ e
 have g5:(TV s.heap x t l).get? (Wd s.heap x t l).objs.size=some _:=Ww _ rfl
 have g4:(TV s.heap x t l).get? (Wc s.heap x t l).objs.size=some _:=pu (Ww _ rfl)
 have g3:(TV s.heap x t l).get? (Wb s.heap x t l).objs.size=some _:=pu (pu (Ww _ rfl))
 have g2:(TV s.heap x t l).get? (Wa s.heap x t).objs.size=some _:=pu (pu (pu (Ww _ rfl)))
 have g1:(TV s.heap x t l).get? s.heap.objs.size=some _:=pu (pu (pu (pu (Ww _ rfl))))
 show _/\_
 rw [a2,a3,a4] at g5
 rw [a1,a2] at g3
 rw [a3] at g4
 rw [a1] at g2
 rw [a4]
 exact ⟨⟨_,g5,rfl⟩,h _ g5 g3 g4 ⟨_,g1,rfl,rfl⟩ ⟨_,g2,rfl,rfl⟩ fun c o e=>pu (pu (pu (pu (pu e))))⟩
def Gg (K:W.Frag) (x:Str) (b:Addr):It:=
 ⟨fun i H=>i < x.cps.size/\∃ ys y,SqL K H b ys/\ys[i]?=some y,
  fun i H v H'=>∃ T y,H T=none/\v= .ref T/\(∀ ys,SqL K H b ys->ys[i]?=some y)/\H'=upd H T (.tup [.str ⟨#[x.cps.getD i 0]⟩,y]),
  fun i _=>i=x.cps.size⟩
theorem vG {P:Program} {w:World} {K:W.Frag} {elts:List Expr} {k:Nat} {pos:Pos} {z TI TO i1 i2 b:Addr} {x:Str} {t:Tok} {ty:String} (D:vD z TI TO i1 i2 [i1] [i2,b]) (hb2:b≠i2)
  (Dr:∀ A:Around,A.handled=none->Draws P w A i1 [i1] x.cps.size (fun i v=>∃ c u,x.cps[i]?=some c/\v= .str ⟨#[c]⟩ u) (fun i h=>h.IsStrIter i1 ty x t i)):
  Turn P w K (.Tuple elts k pos) (Gg K x b) [z,TI,TO,i1,i2] z (fun i h=>IsZip h z TI TO .none/\IsPair h TI (.ref i1) (.ref i2)/\(∃ c d,IsPair h TO c d)/\h.IsStrIter i1 ty x t i/\h.IsListIter i2 b i) where
 mem:=by simp
 obj:=fun i h st c hc=>by
  obtain ⟨hz,hTI,⟨_,_,hTO⟩,⟨o1,e1,_,d1⟩,⟨o2,e2,_,d2⟩⟩:=st
  simp only [WD,Xb,or_false] at hc
  rcases hc with rfl | rfl | rfl | rfl | rfl
  ·exact ⟨_,hz,nofun⟩
  ·exact ⟨_,hTI,nofun⟩
  ·exact ⟨_,hTO,nofun⟩
  ·exact ⟨_,e1,fun v z=>by rw [d1] at z;cases z⟩
  ·exact ⟨_,e2,fun v z=>by rw [d2] at z;cases z⟩
 keep:=fun i h h' st kk=>by
  obtain ⟨hz,hTI,⟨_,_,hTO⟩,⟨o1,e1,r1⟩,h2⟩:=st
  exact ⟨kk z (by simp) _ hz,kk TI (by simp) _ hTI,⟨_,_,kk TO (by simp) _ hTO⟩,⟨o1,kk i1 (by simp) _ e1,r1⟩,h2.at fun o e=>kk i2 (by simp) o e⟩
 item:=by
  intro X hP hw hK hc i pins s U H E I hf st hg
  subst hP hw hK
  obtain ⟨hz,hTI,⟨c,d,hTO⟩,h1,h2⟩:=st
  obtain ⟨hlt,ys,y,hq,hy⟩:=hg
  obtain ⟨its,rv,p,_⟩:=I.list hq
  obtain ⟨u,hu,ru⟩:=rv.get hy
  have hlt2:i < its.toArray.size:=by
   have:=(Wm.mp hu).1
   simpa using this
  have hT:s.TypeIs (.ref z) "zip":=⟨_,hz,rfl⟩
  have hh:X.A.in1.handled=none:=I.ok.hd hc
  unfold pyNext
  refine Wl (YJ (XD (name:=Str.ofString "__next__") hT F.slot_zip_next (X7 F.slot_zip_next hT F.entry_zip_next
   (Gf (Dr X.A.in1 hh) (Draws.list hh i2 b hb2 its.toArray) D hz hTI hTO h1 ⟨h2,p.isList⟩ hlt hlt2 fun a1 a2 h' tk px py b1 b2 b3 b4 b5 hk=>Wt ?_) (F.args_zip_next_1 _))))
  obtain ⟨ch,tu,hch,rfl⟩:=px
  have eu:a2=u:=by
   have h2:its[i]?=some a2:=by simpa using py
   rw [hu] at h2
   exact (WR h2).symm
  subst eu
  refine ⟨_,rfl,wpAny_letOwnedTupleGo_zip b1 fun h'' b1' sb=>?_⟩
  have lt:∀ {c o},s.heap.get? c=some o->s.heap.objs.size≠c:=fun e=>Yn (Wx e)
  have isT:h''.IsTuple s.heap.objs.size #[.str ⟨#[ch]⟩ tu,a2]:=⟨_,sb.extBut _ _ (lt hz) b5,rfl,_,rfl⟩
  have kall:∀ b o,b ∉ [z,TI,TO,i1,i2]->s.heap.get? b=some o->h''.get? b=some o:=fun b o hb e=>by
   simp only [WD,Xb,or_false,not_or] at hb
   exact sb.extBut _ _ hb.1 (hk b o hb.1 hb.2.2.1 hb.2.2.2.1 hb.2.2.2.2 e)
  have hTn:H s.heap.objs.size=none:=I.hok.fresh (Wq _)
  have ech:x.cps.getD i 0=ch:=by simp [Ym,hch]
  refine ⟨.ref s.heap.objs.size,_,I.newtup (tk:=tk) hf (Wq _) kall isT (xs:=[.str ⟨#[x.cps.getD i 0]⟩,y]) (.cons ⟨tu,by rw [ech]⟩ (.cons ru .nil)) (by simp;decide),rfl,⟨_,y,hTn,rfl,fun zs hs=>by rw [I.list_inj hs hq];exact hy,rfl⟩,?_,fun b hb=>?_⟩
  ·obtain ⟨o1,e1,r1⟩:=b3
   exact ⟨b1',sb.extBut _ _ D.TIz (hk _ _ D.TIz D.TITO D.TIi1 D.TIi2 hTI),⟨_,_,sb.extBut _ _ D.TOz b2⟩,⟨o1,sb.extBut _ _ D.i1z e1,r1⟩,b4.1.extBut sb.extBut D.i2z⟩
  ·have:s.heap.objs.size≠b:=by
    simp only [WD,Xb,or_false] at hb
    rcases hb with rfl | rfl | rfl | rfl | rfl
    ·exact lt hz
    ·exact lt hTI
    ·exact lt hTO
    ·obtain ⟨o,e,_⟩:=h1;exact lt e
    ·obtain ⟨o,e,_⟩:=h2;exact lt e
   rw [aB (Ne.symm this)]
   exact (hf b hb).1
 done:=by
  intro X hP hw hK hc i pins s U H E I hf st hg
  subst hP hw hK
  obtain ⟨hz,hTI,⟨c,d,hTO⟩,h1,h2⟩:=st
  have hin:i=x.cps.size:=hg
  subst hin
  have hT:s.TypeIs (.ref z) "zip":=⟨_,hz,rfl⟩
  have hh:X.A.in1.handled=none:=I.ok.hd hc
  unfold pyNext
  refine Wl (YJ (XD (name:=Str.ofString "__next__") hT F.slot_zip_next (X7 F.slot_zip_next hT F.entry_zip_next
   (Jk (Dr X.A.in1 hh) D hz hTI h1 fun h' e hk he=>?_) (F.args_zip_next_1 _))))
  obtain ⟨o,ho,hcl⟩:=he
  refine Wl (Zk (T:="StopIteration") (b:=true) ⟨o,ho,hcl⟩ isSubtype_stop ?_)
  refine Wt ⟨rfl,I.only (tk:=s.toks) hf fun b o hb e=>?_⟩
  simp only [WD,Xb,or_false,not_or] at hb
  exact hk b o hb.1 hb.2.2.2.1 e
 self:=fun _ _ _ _ _ st h=>wpAny_pyIter_zip st.1 h
def Jl (K:W.Frag) (ta:TA):TI:=fun U H R=>ta U H fun vs H1=>∃ x b ys,vs=[.str x,.ref b]/\SqL K H1 b ys/\R (Gg K x b) H1
theorem Jm {X:Cx} {K:W.Frag} {a b:Expr} {ta:TA} {elts:List Expr} {k:Nat} {tp p pos:Pos} (hc:X.calm=true) (hK:X.K=K) (hg:Gl X "zip") (hm:X.mg "zip"=none) (ha:JA X [a,b] ta) (h:autoParam (notStar a=true) L2.auto4._auto_1) (h2:autoParam (notStar b=true) L2.auto4._auto_1):
  JI X (.Tuple elts k tp) (.Call (.Name "zip" p) [a,b] [] pos) (Jl K ta):=⟨by
 subst hK
 intro pins s U H R I hq
 refine Call_ (jY I hg hm Rm (Xo (dW (ha.run pos pins s U H _ I hq) fun us s1 qq0=>?_) (dm h) (by rw [dm h2];rfl)))
 obtain ⟨vs,H1,I1,r1,q1⟩:=qq0
 obtain ⟨x,l,ys,e,hl,q⟩:=q1
 subst e
 obtain ⟨u,u2,rfl,e1,e2⟩:∃ u u2,us=[u,u2]/\RelV (.str x) u/\RelV (.ref l) u2:=by
  cases r1 with
  | cons x r=>cases r with
   | cons y r=>cases r with
    | nil=>exact ⟨_,_,rfl,x,y⟩
 obtain ⟨t,rfl⟩:=e1
 cases e2
 obtain ⟨its,rv,p1,_⟩:=I1.list hl
 have lt1:l < s1.heap.objs.size:=by obtain ⟨o,ho,_⟩:=p1.isList;exact Wx ho
 refine BX p1.isList fun h' z1 z2 z3 z4 z5 hk=>?_
 have J1:Inv X pins U H1 {s1 with heap:=h'}:=I1.kept (t':=s1.toks) hk
 have D:vD (s1.heap.objs.size+4) (s1.heap.objs.size+2) (s1.heap.objs.size+3) s1.heap.objs.size (s1.heap.objs.size+1) [s1.heap.objs.size] [s1.heap.objs.size+1,l]:=by
  have key:∀ n b:Nat,b < n->vD (n+4) (n+2) (n+3) n (n+1) [n] [n+1,b]:=fun n b h2=>by
   have k1:∀ c:Nat,c=n->c≠n+4/\c≠n+3/\c≠n+1:=fun c hc=>by omega
   have k2:∀ c:Nat,(c=n+1\/c=b)->c≠n+4/\c≠n+3/\c≠n:=fun c hc=>by omega
   refine ⟨?_,?_,?_,?_,?_,?_,?_,?_,?_,?_,fun c hc=>k1 c (WP.mp hc),fun c hc=>k2 c (by simpa only [WD,Xb,or_false] using hc)⟩
   all_goals (show (_:Nat)≠_;omega)
  exact key _ _ lt1
 have nb:l≠s1.heap.objs.size+1:=Xc (Nat.lt_succ_of_lt lt1)
 refine wpAny_pyIter_zip z1 ?_
 have fpk:∀ b∈[s1.heap.objs.size+4,s1.heap.objs.size+2,s1.heap.objs.size+3,s1.heap.objs.size,s1.heap.objs.size+1],s1.heap.objs.size<=b:=by
  intro b hb
  simp only [WD,Xb,or_false] at hb
  have key:∀ n c:Nat,(c=n+4\/c=n+2\/c=n+3\/c=n\/c=n+1)->n<=c:=fun n c h=>by omega
  exact key _ _ hb
 cases hx:x.cps.all (· < 128)
 ·exact ⟨s1.heap.objs.size+4,_,_,_,H1,rfl,J1,vG (ty:="str_iterator") (x:=x) (t:=t) D nb (fun A hA=>Draws.strWide hA _ x t),⟨z1,z2,⟨_,_,z3⟩,by simpa [strIterType,hx] using z4,z5⟩,fun b hb=>I1.fpOk (fpk b hb) (I1.hok.fresh (fpk b hb)),q⟩
 ·exact ⟨s1.heap.objs.size+4,_,_,_,H1,rfl,J1,vG (ty:="str_ascii_iterator") (x:=x) (t:=t) D nb (fun A hA=>Draws.strAscii hA _ x t),⟨z1,z2,⟨_,_,z3⟩,by simpa [strIterType,hx] using z4,z5⟩,fun b hb=>I1.fpOk (fpk b hb) (I1.hok.fresh (fpk b hb)),q⟩⟩
section
variable {U:St} {H:Hp} {K:W.Frag}
theorem pC {a:TA} {R:It->Hp->Prop} (h:a U H fun vs H1=>∃ x b ys,vs=[.str x,.ref b]/\SqL K H1 b ys/\R (Gg K x b) H1):Jl K a U H R:=h
theorem Gh {x:Str} {b:Addr} {ys:List V} {g:TG} {tb:TS} {D:Ends} (Pv:Nat->St->Hp->Prop) (hl:x.cps.size=ys.length) (h0:Pv 0 U H) (hq:∀ i U H,i<=ys.length->Pv i U H->SqL K H b ys)
  (hs:∀ i U H T y,ys[i]?=some y->Pv i U H->H T=none->g (.ref T) U (upd H T (.tup [.str ⟨#[x.cps.getD i 0]⟩,y])) fun σ2 H2=>tb {D with nx:=Pv (i+1),ct:=Pv (i+1),bk:=D.nx} σ2 H2) (hd:∀ U H,Pv ys.length U H->D.nx U H):
  ∃ W:Nat->Nat->St->Hp->Prop,(∃ m,W 0 m U H)/\∀ i m U H,W i m U H->
   ((Gg K x b).stop i H/\D.nx U H)\/((Gg K x b).go i H/\∃ N:St->Hp->Prop,(∀ U' H',N U' H'->∃ m',m' < m/\W (i+1) m' U' H')/\∀ z H',(Gg K x b).yld i H z H'->g z U H' fun σ2 H2=>tb {D with nx:=N,ct:=N,bk:=D.nx} σ2 H2):=by
 refine ⟨fun i m U H=>m=ys.length - i/\i<=ys.length/\Pv i U H,⟨ys.length,by simp,Xx _,h0⟩,?_⟩
 rintro i m U H ⟨rfl,hi,p⟩
 have q1:=hq i U H hi p
 by_cases hlt:i < ys.length
 ·refine .inr ⟨⟨by omega,ys,ys[i],q1,Wn hlt⟩,Pv (i+1),fun U' H' p'=>⟨ys.length - (i+1),by omega,rfl,hlt,p'⟩,fun z H' y=>?_⟩
  obtain ⟨T,u,hT,e1,e2,e4⟩:=y
  subst e1 e4
  exact hs i U H T u (e2 ys q1) p hT
 ·have e:i=ys.length:=by omega
  subst e
  exact .inl ⟨hl.symm,hd U H p⟩
end
end L2
namespace L2
open PySem PySem.Spec PyProof.Rows
open PySem.Sem (wp)
open AutoSeq1 (wpAny_loadPart')
end L2
namespace L2
open PySem PySem.W PySem.Spec PyProof.Rows
end L2
namespace L2
open PySem PySem.Spec PyProof.Rows
open PySem.Sem (wp)
end L2
namespace L2
open PySem PySem.Spec PyProof.Rows
open PySem.Sem (wp)
open PySem.AutoSeq1 (wpAny_loadPart')
end L2
namespace L2
open PySem PySem.Spec PyProof.Rows
open PySem.Sem (wp)
end L2
namespace L2
open PySem PySem.Spec PyProof.Rows
def TX (K:W.Frag) (a:Addr) (n:Nat):It:=
 ⟨fun i H=>i < n/\∃ xs,SqL K H a xs/\xs.length=n,
  fun i H v H'=>H'=H/\∀ xs,SqL K H a xs->xs[n - 1 - i]?=some v,
  fun i _=>i=n⟩
theorem Jo {P:Program} {w:World} {K:W.Frag} {tg:Expr} {n:Nat} {it a:Addr} (hai:a≠it):
  Turn P w K tg (TX K a n) [it] it (fun i h=>i<=n/\h.IsRevIter it a ((n:Int) - 1 - (i:Int))) where
 mem:=by simp
 obj:=fun i h st c hc=>by
  obtain ⟨_,⟨o1,e1,c1,d1⟩⟩:=st
  have e:c=it:=by simpa using hc
  subst e
  exact ⟨_,e1,fun v z=>by rw [d1] at z;cases z⟩
 keep:=fun i h h' st kk=>⟨st.1,st.2.at fun o q=>kk it (by simp) o q⟩
 item:=by
  intro X hP hw hK hc i pins s U H E I hf st hg
  subst hP hw hK
  obtain ⟨hi,h1⟩:=st
  obtain ⟨hlt,xs,hq,hlen⟩:=hg
  obtain ⟨its,rv,p,_⟩:=I.list hq
  have l1:=rv.length
  obtain ⟨x,hx⟩:∃ x,xs[n - 1 - i]?=some x:=⟨_,Wn (by omega)⟩
  obtain ⟨u,hu,ru⟩:=rv.get hx
  obtain ⟨f0,f1,f2,f3,f4,f5⟩:=hf it (by simp)
  have e:(n:Int) - 1 - (i:Int)=((n - 1 - i:Nat):Int):=by omega
  rw [e] at h1
  refine wpAny_pyNext_rev_item h1 p.isList (x:=u) (by simpa using hu) fun h' st' sb=>?_
  have I1:Inv X pins U H {s with heap:=h'}:=I.turned (t':=s.toks) (fun b o hb e=>(sb.2 b hb).trans e) f0 f1 f3 f4 f5
  obtain ⟨o,eo,c,d⟩:=id st'
  refine ⟨u,rfl,wM (s:={s with heap:=h'}) eo c d (by decide) ⟨x,H,I1,ru,⟨rfl,fun ys hy=>by rw [I.list_inj hy hq];exact hx⟩,⟨hlt,?_⟩,fun b hb=>(hf b hb).1⟩⟩
  have e2:((n - 1 - i:Nat):Int) - 1=(n:Int) - 1 - ((i+1:Nat):Int):=by omega
  rw [← e2]
  exact st'
 done:=by
  intro X hP hw hK hc i pins s U H E I hf st hg
  subst hP hw hK
  obtain ⟨hi,h1⟩:=st
  have hin:i=n:=hg
  subst hin
  rw [show (i:Int) - 1 - (i:Int)= -1 by omega] at h1
  obtain ⟨f0,f1,f2,f3,f4,f5⟩:=hf it (by simp)
  exact wpAny_pyNext_rev_end (I.ok.hd hc) h1 fun h' eb=>⟨rfl,I.turned (t':=s.toks) (fun b o hb e=>eb b o hb e) f0 f1 f3 f4 f5⟩
 self:=fun _ _ _ _ _ st h=>Yy st.2 h
structure uC (K:W.Frag) (mg:Str->Option Value) (x:Str):Prop where
 at_:mg x=some (.ref (aP mg x))
 cl:Cls K (aP mg x)
 makes:PySem.W.makesIn K (aP mg x)=true
 kp:PySem.W.keepIn K (.ref (aP mg x))=true
def clsIn (K:W.Frag) (C:Addr):Bool:=PySem.W.plainGet K C Str.empty && PySem.W.hasDictIn K C && PySem.W.plainOver K C
theorem Jp {K:W.Frag} {mg:Str->Option Value} {h:Heap} (X:K.In h) (G:h.Ns mainGlobals mg) {x:Str} {C:Addr} (a:PySem.W.nsIn K mainGlobals x=some (some (.ref C))) (b:clsIn K C=true)
  (s:PySem.W.findIn K (.ref C) "__setattr__"=some (some (.builtin "object.__setattr__"))) (m:PySem.W.makesIn K C=true) (k:PySem.W.keepIn K (.ref C)=true):uC K mg x:=by
 have e0:=Yw X G a
 have e:=je e0
 unfold clsIn at b
 simp only [WX] at b
 exact ⟨by rw [e];exact e0,by rw [e];exact ⟨b.1.1,b.1.2,b.2,s⟩,by rw [e];exact m,by rw [e];exact k⟩
structure pP (K:W.Frag) (mg:Str->Option Value) (x m qual:Str) (st:Stmt):Prop where
 ex:∃ f fd,Meth K (aP mg x) m f/\Fun K m qual st f fd
theorem vH {K:W.Frag} {mg:Str->Option Value} {h:Heap} (X:K.In h) (G:h.Ns mainGlobals mg) {x m qual:Str} {C f:Addr} {st:Stmt} {oc:Value} {od an:Option Addr} {osl:Array (Option Value)} {kV doc pm cdv ct:Value}
  (a:PySem.W.nsIn K mainGlobals x=some (some (.ref C))) (i:PySem.W.findIn K (.ref C) m=some (some (.ref f))) (n:PySem.W.isFn K (.ref f)=true)
  (l:K.lookup f=some ⟨oc,od,.func (PySem.W.fnOf m qual (gn st) (dj st) (az st) .none kV doc pm an cdv ct),osl⟩) (c:PySem.W.codeIn K cdv qual=true) (k:PySem.W.keepIn K (.ref f)=true):pP K mg x m qual st:=by
 have e:=je (Yw X G a)
 exact ⟨f,_,by rw [e];exact ⟨i,n,k⟩,Bm l c k⟩
theorem Jq {K:W.Frag} {mg:Str->Option Value} {h:Heap} (X:K.In h) (G:h.Ns mainGlobals mg) {x:Str} {C:Addr} {fl:List Str} (a:PySem.W.nsIn K mainGlobals x=some (some (.ref C))) (b:Jb K C fl=true):∀ f∈fl,NoAttr K (aP mg x) f:=fun n hn=>by
 rw [je (Yw X G a)]
 have:=Yl.mp b n hn
 first | exact of_decide_eq_true this | exact Yv.mp this | simpa using this
def vI (j:Nat):Stmt->Stmt
 | .ClassDef _ _ _ ss _ _ _ _ _ _ _=>ss.getD j (.Pass ⟨0,0,0,0⟩)
 | s=>s
def sI (P:Program) (w:World) (K:W.Frag) (mg:Str->Option Value) (base:Heap) (k:Nat) (x m:Str) (ps:List Str) (sp:Sp):Prop:=
 ∃ f fd,Meth K (aP mg x) m f/\Binds K fd ps []/\FnOk P w K mg base (Mu P w) k f fd ps sp
section
variable {P:Program} {w:World} {K:W.Frag} {mg:Str->Option Value} {base:Heap}
theorem BZ {x m qual:Str} {st:Stmt} {N ps:List Str} {k:Nat} {sp:Sp} (D:pP K mg x m qual st) (S:aF N ps (az st))
  (hb:∀ (kV doc pm:Value) (an:Option Addr) (cdv ct:Value) (us:List Value),us.length=ps.length->bindArgs (PySem.W.fnOf m qual (gn st) (dj st) (az st) .none kV doc pm an cdv ct) ⟨us,[]⟩=pure (ps.zip us))
  (len:∀ vs H Q E,sp vs H Q E->vs.length=ps.length)
  (hbody:∀ (f:Addr) (cdv:Value) (A:Around) (outer:List Env) (s:Shared) (H:Hp) (vs:List V) (Q:VK) (E:XK),Room k (A.deeper (envOfC qual (az st) s.heap.objs.size f cdv))->sp vs H Q E->
   ∃ t,JB (qe (Mu P w) P w K mg base N qual (az st) f cdv A outer s H E) (dj st) t/\t {nx:=fun _ H'=>Q .non H',rt:=Q} (start N vs) H):sI P w K mg base (k+1) x m ps sp:=by
 obtain ⟨f,fd,hm,F⟩:=D.ex
 refine ⟨f,fd,hm,F.binds hb,?_⟩
 obtain ⟨oc,od,kV,doc,pm,an,cdv,ct,osl,rfl,lk,hcd⟩:=F.ex
 exact Hg lk hcd S len fun A outer s H vs Q E hr h=>let ⟨t,j,q⟩:=hbody f cdv A outer s H vs Q E hr h;⟨t,j.run,q⟩
end
def yr (C:Addr) (m:Str) (sp:Sp) (R:St->XK) (ta:TE) (t:TA):TE:=fun U H Q=>ta U H fun x H1=>∃ a dx fs,x= .ref a/\H1 a=some (.ins C dx fs)/\fs.lookup m=none/\t U H1 fun vs H2=>sp (x :: vs) H2 Q (R U)
def Jr (C:Addr) (sp:Sp) (R:St->XK) (t:TA):TE:=fun U H Q=>t U H fun vs H1=>∀ x dx,H1 x=none->H1 dx=none->dx≠x->
 sp (.ref x :: vs) (upd (upd H1 dx (.own x)) x (.ins C dx [])) (fun v H2=>v= .non/\Q (.ref x) H2) (R U)
section
variable {X:Cx} {K:W.Frag} {k:Nat} {f C:Addr} {ps:List Str} {sp:Sp} {R:St->XK} {x m fn:Str} {p pos apos pos':Pos} {e o value:Expr} {es:List Expr} {ta tv:TE} {t:TA} {pins:List (Addr×Obj)} {U:St} {H:Hp} {s:Shared} {Q:VK} {us:List Value} {vs:List V}
theorem yt {pl:Sem Bool} (he:JE X o ta) (c:uC X.K X.mg x) (F:sI X.prog X.w X.K X.mg X.base k x m ps sp) (hr:Room k X.A) (hx:j8 X R) (ha:JA X (e :: es) t)
  (hs:autoParam ((e :: es).all notStar=true) L2.auto4._auto_1)
  (ht:eval (.Call (.Attribute o m apos) (e :: es) [] pos) X.env=(do
   let ov ← eval o X.env
   standAt apos.atName
   let (f,first) ← holding [ov] (getMethod ov m pl)
   callWith pos f first (backTo pos (starEach (e :: es) X.env)) (backToKw pos (keywordEach [] X.env))):=by rfl):
  JE X (.Call (.Attribute o m apos) (e :: es) [] pos) (yr (aP X.mg x) m sp R ta t):=⟨by
 have h1:notStar e=true:=by simp only [Xv,WX] at hs;exact hs.1
 have h2:es.all notStar=true:=by simp only [Xv,WX] at hs;exact hs.2
 obtain ⟨f,fd,hm,hb,F⟩:=F
 intro pins s U H Q I h
 refine PySem.W.methodCall_KW (pl:=pl) (dW (he.run pins s U H _ I h) fun u s1 qq0=>?_) ht
 obtain ⟨x,H1,I1,rx,a,dx,fs,ex,ea,l,q⟩:=qq0
 subst ex
 obtain rfl:u=Value.ref a:=rx
 refine uU I1 ea c.cl hm l ?_
 refine YK (first:=[.ref a]) (h₀:=X.base) I.ok.mod.kin hm.kp (dW (ha.run pos pins s1 U H1 _ I1 q) fun us s2 ⟨vs,H2,I2,r,q2⟩=>⟨I2.kIn,?_⟩) (dm h1) (lF h2)
 exact uL (us:=.ref a :: us) (vs:=.ref a :: vs) F hr hb hx I2 (.cons rfl r) q2⟩
theorem Js {pl:Sem Bool} (he:JE X o ta) (c:uC X.K X.mg x) (F:sI X.prog X.w X.K X.mg X.base k x m ps sp) (hr:Room k X.A) (hx:j8 X R)
  (ht:eval (.Call (.Attribute o m apos) [] [] pos) X.env=(do
   let ov ← eval o X.env
   standAt apos.atName
   let (f,first) ← holding [ov] (getMethod ov m pl)
   callWith pos f first (backTo pos (starEach [] X.env)) (backToKw pos (keywordEach [] X.env))):=by rfl):
  JE X (.Call (.Attribute o m apos) [] [] pos) (yr (aP X.mg x) m sp R ta Ln):=⟨by
 obtain ⟨f,fd,hm,hb,F⟩:=F
 intro pins s U H Q I h
 refine PySem.W.methodCall_KW (pl:=pl) (dW (he.run pins s U H _ I h) fun u s1 qq0=>?_) ht
 obtain ⟨x,H1,I1,rx,a,dx,fs,ex,ea,l,q⟩:=qq0
 subst ex
 obtain rfl:u=Value.ref a:=rx
 refine uU I1 ea c.cl hm l ?_
 exact PySem.W.callWith_K0 (first:=[.ref a]) I1.kIn hm.kp (uL (us:=[.ref a]) (vs:=[.ref a]) F hr hb hx I1 (.cons rfl .nil) q)⟩
theorem Gi (c:uC X.K X.mg x) (F:sI X.prog X.w X.K X.mg X.base k x "__init__" ps sp) (hr:Room (k+1) X.A) (hx:j8 X R) (I:Inv X pins U H s) (r:Vals vs us)
  (h:∀ y dx,H y=none->H dx=none->dx≠y->sp (.ref y :: vs) (upd (upd H dx (.own y)) y (.ins (aP X.mg x) dx [])) (fun v H2=>v= .non/\Q (.ref y) H2) (R U)):
  wpAny (model X.prog X.w) X.A (call (.ref (aP X.mg x)) us) (EP X pins U Q) X.xe s:=by
 obtain ⟨f,fd,hm,hb,F⟩:=F
 have hq:=h (s.heap.objs.size+1) s.heap.objs.size (I.hok.fresh (Nat.le_succ _)) (I.hok.fresh (Wq _)) (Xc (YZ _))
 have I2:=Inv.made (C:=aP X.mg x) I
 have r2:Vals (V.ref (s.heap.objs.size+1) :: vs) (Value.ref (s.heap.objs.size+1) :: us):=.cons rfl r
 have hl:((Value.ref (s.heap.objs.size+1) :: us) ++ []).length=ps.length:=by
  have e:=r2.length
  rw [F.len _ _ _ _ hq] at e
  rw [XQ]
  exact e.symm
 have bd:=hb _ (Value.ref (s.heap.objs.size+1) :: us) I2.kIn hl
 rw [XQ] at bd
 refine Zg (Hf (f:=f) I.kIn c.makes hm.at_ (Yv.mp hm.fn) (codeAny_mono (F.run _ X.stack _ _ ⟨Value.ref (s.heap.objs.size+1) :: us,[]⟩ (Value.ref (s.heap.objs.size+1) :: us) _ _ (R U) (hr.make (aP X.mg x) us [])
  (I2.env0.make (aP X.mg x) us []) bd r2 hq) fun r s' hq'=>?_))
 cases r with
 | error e=>exact hx pins e s' (Dv I2 hq')
 | ok fl=>
  cases fl with
  | ret u=>
   obtain ⟨v,H',I3,rv,ev,q3⟩:=I2.after hq'
   subst ev
   exact ⟨rv,⟨V.ref (s.heap.objs.size+1),H',I3,rfl,q3⟩⟩
  | next=>exact False.elim hq'
  | brk=>exact False.elim hq'
  | cont=>exact False.elim hq'
theorem yu (c:uC X.K X.mg x) (F:sI X.prog X.w X.K X.mg X.base k x "__init__" ps sp) (hr:Room (k+1) X.A) (hg:Gl X x) (hx:j8 X R) (ha:JA X (e :: es) t) (hdb:(x == ("__debug__":Str))=false) (h:autoParam ((e :: es).all notStar=true) L2.auto4._auto_1):
  JE X (.Call (.Name x p) (e :: es) [] pos) (Jr (aP X.mg x) sp R t):=⟨by
 have h1:notStar e=true:=by simp only [Xv,WX] at h;exact h.1
 have h2:es.all notStar=true:=by simp only [Xv,WX] at h;exact h.2
 intro pins s U H Q I h
 refine XX (mK I hg c.at_ ?_ hdb)
 refine YK (h₀:=X.base) I.ok.mod.kin c.kp (dW (ha.run pos pins s U H _ I h) fun us s1 ⟨vs,H1,I1,r,q⟩=>⟨I1.kIn,?_⟩) (dm h1) (lF h2)
 exact Gi c F hr hx I1 r q⟩
theorem pY (hK:X.K=K) (he:JE X e ta) (h:autoParam (mO e=true) L2.auto4._auto_1):JE X (.Attribute e fn pos) (QD K ta fn):=by
 subst hK
 exact ⟨QG he.run (by cases e <;> first | rfl | cases h)⟩
theorem j9 (hK:X.K=K) (ha:JE X o ta) (hv:JE X value tv) (h:autoParam (lg value=true) L2.auto4._auto_1):JS X (.Assign [.Attribute o fn pos'] value pos) (QF K ta tv fn):=by
 subst hK
 exact ⟨QH ha.run hv.run (zA h)⟩
end
section
variable {U:St} {H:Hp} {D:Ends} {Q:VK} {sp:Sp} {R:St->XK} {a:TA} {K:W.Frag} {C:Addr} {ta tv:TE} {f m:Str}
theorem bF (h:ta U H fun x H1=>∃ b dx fs,x= .ref b/\H1 b=some (.ins C dx fs)/\fs.lookup m=none/\a U H1 fun vs H2=>sp (x :: vs) H2 Q (R U)):yr C m sp R ta a U H Q:=h
theorem bG (h:a U H fun vs H1=>∀ x dx,H1 x=none->H1 dx=none->dx≠x->sp (.ref x :: vs) (upd (upd H1 dx (.own x)) x (.ins C dx [])) (fun v H2=>v= .non/\Q (.ref x) H2) (R U)):Jr C sp R a U H Q:=h
theorem fO (h:ta U H fun x H1=>∃ a C dx fs v,x= .ref a/\H1 a=some (.ins C dx fs)/\Cls K C/\NoAttr K C f/\fs.lookup f=some v/\Q v H1):QD K ta f U H Q:=h
theorem di (h:tv U H fun y H1=>ta U H1 fun x H2=>∃ a C dx fs,x= .ref a/\H2 a=some (.ins C dx fs)/\Cls K C/\NoAttr K C f/\fs.length < 1000/\D.nx U (upd H2 a (.ins C dx (lE f y fs)))):QF K ta tv f D U H:=h
end
section
variable {X:Cx} {mg:Str->Option Value} {o:Expr} {ta:TE} {t:TA} {x m:Str} {ps:List Str} {sp:Sp} {k:Nat} {R:St->XK} {e:Expr} {es:List Expr} {pos apos:Pos}
theorem Jt {pl:Sem Bool} (hmg:X.mg=mg) (he:JE X o ta) (c:uC X.K X.mg x) (F:sI X.prog X.w X.K X.mg X.base k x m ps sp) (hr:Room k X.A) (hx:j8 X R) (ha:JA X (e :: es) t)
  (hs:autoParam ((e :: es).all notStar=true) L2.auto4._auto_1)
  (ht:eval (.Call (.Attribute o m apos) (e :: es) [] pos) X.env=(do
   let ov ← eval o X.env
   standAt apos.atName
   let (f,first) ← holding [ov] (getMethod ov m pl)
   callWith pos f first (backTo pos (starEach (e :: es) X.env)) (backToKw pos (keywordEach [] X.env))):=by rfl):
  JE X (.Call (.Attribute o m apos) (e :: es) [] pos) (yr (aP mg x) m sp R ta t):=by
 subst hmg
 exact yt he c F hr hx ha hs ht
end
section
variable {U:St} {H:Hp} {Q:VK}
def RV (o:HO) (n:Nat) (H:Hp) (Q:VK):Prop:=n<=sizeLine/\∀ p,H p=none->Q (.ref p) (upd H p o)
theorem iC {a:TA} (h:a U H fun xs H1=>RV (.lst xs) xs.length H1 Q):Lr a U H Q:=h
theorem iD {a:TA} (h:a U H fun xs H1=>RV (.tup xs) xs.length H1 Q):Lq a U H Q:=h
theorem bK {o:HO} {n:Nat} (c:Nat.ble n 64=true) (h:∀ p H',H p=none->Same H H'->H' p=some o->Q (.ref p) H'):RV o n H Q:=
 ⟨WY (Nat.le_of_ble_eq_true c) (by decide),fun p np=>h p _ np ((Same.refl H).upd np) aj⟩
end
section
variable {sub:List (Option Nat)} {g:TG} {tt:TT} {te:TE} {U:St} {Q:VK} {H:Hp} {K:W.Frag} {a:Addr} {xs:List V} {lo:Int} {n:Nat} {z:Str}
theorem pG (Pv:Nat->List V->Hp->Prop) (hn:n<=sizeLine) (h0:Pv 0 [] H) (hl:∀ i ys H,Pv i ys H->ys.length<=i)
  (hs:∀ i ys H,i < n->Pv i ys H->g (.int (lo+i)) (dD sub U) H fun σ2 H2=>KeepSt (dD sub U) σ2/\tt σ2 H2 fun b H3=>if b=true then te σ2 H3 fun y H4=>Pv (i+1) (ys ++ [y]) H4 else Pv (i+1) ys H3)
  (hd:∀ ys H D H',Pv n ys H->H D=none->Same H H'->H' D=some (.lst ys)->Q (.ref D) H'):pX sub g tt te U Q (KQ lo n) H:=
 rn Pv hn h0 hl hs fun ys H p D nD=>hd ys H D _ p nD ((Same.refl H).upd nD) aj
theorem iM (Pv:Nat->List V->Hp->Prop) (hn:xs.length<=sizeLine) (h0:Pv 0 [] H) (hl:∀ i ys H,Pv i ys H->ys.length<=i) (hq:∀ i ys H,Pv i ys H->SqL K H a xs)
  (hs:∀ i ys H x,xs[i]?=some x->Pv i ys H->g x (dD sub U) H fun σ2 H2=>KeepSt (dD sub U) σ2/\tt σ2 H2 fun b H3=>if b=true then te σ2 H3 fun y H4=>Pv (i+1) (ys ++ [y]) H4 else Pv (i+1) ys H3)
  (hd:∀ ys H D H',Pv xs.length ys H->H D=none->Same H H'->H' D=some (.lst ys)->Q (.ref D) H'):pX sub g tt te U Q (Lb K a) H:=
 Fy Pv hn h0 hl hq hs fun ys H p D nD=>hd ys H D _ p nD ((Same.refl H).upd nD) aj
theorem xu (Pv:Nat->List V->Hp->Prop) (hn:z.cps.size<=sizeLine) (h0:Pv 0 [] H) (hl:∀ i ys H,Pv i ys H->ys.length<=i)
  (hs:∀ i ys H c,z.cps.toList[i]?=some c->Pv i ys H->g (.str ⟨#[c]⟩) (dD sub U) H fun σ2 H2=>KeepSt (dD sub U) σ2/\tt σ2 H2 fun b H3=>if b=true then te σ2 H3 fun y H4=>Pv (i+1) (ys ++ [y]) H4 else Pv (i+1) ys H3)
  (hd:∀ ys H D H',Pv z.cps.size ys H->H D=none->Same H H'->H' D=some (.lst ys)->Q (.ref D) H'):pX sub g tt te U Q (LQ z) H:=
 zF Pv hn h0 hl hs fun ys H p D nD=>hd ys H D _ p nD ((Same.refl H).upd nD) aj
theorem jf {f:Nat->V} {i:Nat} {y:V} (h:y=f i):(List.range i).map f ++ [y]=(List.range (i+1)).map f:=by rw [h,Xz,WT];rfl
theorem sO (f:Nat->V) (hn:n<=sizeLine)
  (hs:∀ i,i < n->g (.int (lo+i)) (dD sub U) H fun σ2 H2=>KeepSt (dD sub U) σ2/\tt σ2 H2 fun b H3=>if b=true then te σ2 H3 fun y H4=>H4=H/\(List.range i).map f ++ [y]=(List.range (i+1)).map f else H3=H/\(List.range i).map f=(List.range (i+1)).map f)
  (hd:∀ D H',H D=none->Same H H'->H' D=some (.lst ((List.range n).map f))->Q (.ref D) H'):pX sub g tt te U Q (KQ lo n) H:=by
 refine pG (fun i ys H'=>H'=H/\ys=(List.range i).map f) hn ⟨rfl,rfl⟩ ?_ ?_ ?_
 ·rintro i ys H' ⟨_,rfl⟩
  simp
 ·rintro i ys H' hi ⟨rfl,rfl⟩
  exact hs i hi
 ·rintro ys H1 D H' ⟨rfl,rfl⟩ nD s e
  exact hd D H' nD s e
theorem kh (f:Nat->V) (hn:xs.length<=sizeLine) (hq:SqL K H a xs)
  (hs:∀ i x,xs[i]?=some x->g x (dD sub U) H fun σ2 H2=>KeepSt (dD sub U) σ2/\tt σ2 H2 fun b H3=>if b=true then te σ2 H3 fun y H4=>H4=H/\(List.range i).map f ++ [y]=(List.range (i+1)).map f else H3=H/\(List.range i).map f=(List.range (i+1)).map f)
  (hd:∀ D H',H D=none->Same H H'->H' D=some (.lst ((List.range xs.length).map f))->Q (.ref D) H'):pX sub g tt te U Q (Lb K a) H:=by
 refine iM (xs:=xs) (fun i ys H'=>H'=H/\ys=(List.range i).map f) hn ⟨rfl,rfl⟩ ?_ ?_ ?_ ?_
 ·rintro i ys H' ⟨_,rfl⟩
  simp
 ·rintro i ys H' ⟨rfl,_⟩
  exact hq
 ·rintro i ys H' x hx ⟨rfl,rfl⟩
  exact hs i x hx
 ·rintro ys H1 D H' ⟨rfl,rfl⟩ nD s e
  exact hd D H' nD s e
end
end L2
set_option maxHeartbeats 8000000
namespace L2
open PySem PySem.Spec PyProof.Rows
end L2
namespace L2
open PySem PySem.W PySem.Spec PyProof.Rows
end L2
namespace L2
open PySem PySem.Spec PyProof.Rows
theorem xx:Manifest.owners.lookup (String.ofList ['d','e','s','r','e','v','e','r'].reverse)=some Manifest.sig_reversed:=by kernel_rfl
theorem gH:Slot "reversed" "__next__" "reversed.__next__":=
 .of (owner:="reversed") (n:="__next__") (by rw [Zb,Yu];kernel_rfl) (by trivial) (by trivial) (by trivial)
  (by first | exact .inl (by trivial) | exact .inr (by trivial)) (by rw [Zh];kernel_rfl)
theorem oF:entryFor table "reversed.__next__"=some Builtin.«reversed.__next__»:=entryFor_of_tree (by kernel_rfl)
theorem pZ (a:Value):argsOk "reversed.__next__" ⟨[a],[]⟩:=by
 unfold argsOk;rw [signature?_of (id:="reversed.__next__") (n:=['_','_','t','x','e','n','_','_']) (o:=['d','e','s','r','e','v','e','r']) (by kernel_rfl) xx];kernel_rfl
theorem p6:Slot "reversed" "__iter__" "reversed.__iter__":=
 .of (owner:="reversed") (n:="__iter__") (by rw [Zb,Yu];kernel_rfl) (by trivial) (by trivial) (by trivial)
  (by first | exact .inl (by trivial) | exact .inr (by trivial)) (by rw [Zh];kernel_rfl)
theorem wj (a:Value):argsOk "reversed.__iter__" ⟨[a],[]⟩:=by
 unfold argsOk;rw [signature?_of (id:="reversed.__iter__") (n:=['_','_','r','e','t','i','_','_']) (o:=['d','e','s','r','e','v','e','r']) (by kernel_rfl) xx];kernel_rfl
theorem vJ:entryFor table "reversed.__iter__"=some Builtin.«dict_keyiterator.__iter__»:=
 entryFor_alias (id':="dict_keyiterator.__iter__") (by kernel_rfl) (by first | rfl | trivial | (unfold String.splitOn;simp+decide [String.splitOnAux])) (by trivial) (by kernel_rfl)
theorem sS:typeLookup (.type "tuple") "__reversed__"=pure none:=by rw [Zb,Yu];kernel_rfl
theorem sub_tuple_dict:isSubtype (.type "tuple") (.type "dict")=pure false:=by rw [Zh];kernel_rfl
theorem wk:Slot "reversed" "__init__" "object.__init__":=
 .of (owner:="object") (n:="__init__") (by rw [Zb,Yu];kernel_rfl) (by trivial) (by trivial) (by trivial)
  (by first | exact .inl (by trivial) | exact .inr (by trivial)) (by rw [Zh];kernel_rfl)
theorem qp:TypeCalled "reversed" "reversed.__new__" "object.__init__":=
 ⟨by trivial,F.create_reversed,⟨_,_,F.mro_reversed⟩,F.made_reversed,F.plain_reversed_new,F.sub_reversed_self,wk⟩
section
variable {prog:Program} {w:World} {A:Around} {E:Value->Shared->Prop} {s:Shared}
def qt (l:Addr) (i:Int):Obj:={cls:=.type "reversed",data:=.fields #[.ref l,rawInt i]}
def IsRvd (h:Heap) (a l:Addr) (i:Int):Prop:=∃ o,h.get? a=some o/\o.cls= .type "reversed"/\o.data= .fields #[.ref l,rawInt i]
theorem IsRvd.typeIs {a l:Addr} {i:Int} (x:IsRvd s.heap a l i):s.TypeIs (.ref a) "reversed":=let ⟨o,ho,hc,_⟩:=x;⟨o,ho,hc⟩
theorem IsRvd.at {h h':Heap} {a l:Addr} {i:Int} (x:IsRvd h a l i) (e:∀ o,h.get? a=some o->h'.get? a=some o):IsRvd h' a l i:=let ⟨o,ho,r⟩:=x;⟨o,e _ ho,r⟩
theorem Ju {l:Addr} {items:Array Value} {Q₁:Value->Shared->Prop} (hl:IsTup s.heap l items) (hz:items.size < 2 ^ 62)
  (h:∀ k,Q₁ (.ref s.heap.objs.size) {s with heap:=s.heap.push (qt l ((items.size:Int) - 1)),toks:=k}):
  codeAny (model prog w) A (.call (.builtin "reversed.__new__") ⟨[.type "reversed",.ref l],[]⟩) (wants Q₁ E) s:=by
 refine codeAny_of_tree ?_
 show wpAny _ A.in1 (do checkBuiltinCall "reversed.__new__" ⟨[.type "reversed",.ref l],[]⟩;again (.builtin "reversed.__new__" ⟨[.type "reversed",.ref l],[]⟩)) _ _ s
 refine Wl (Yr (F.newCall_reversed_1 _) (Wt ⟨plainId_quiet F.plain_reversed_new _,codeAny_builtin F.entry_reversed_new ?_⟩))
 rw [Around.under_plainId F.plain_reversed_new _]
 unfold Builtin.«reversed.__new__»
 refine Wl (Yr (newClass_reversed _) ?_)
 try dsimp only
 refine Wl (Yr (a:=()) (by first | rfl | kernel_rfl) ?_)
 refine Wl (Yr (a:=()) (by first | rfl | kernel_rfl) ?_)
 try dsimp only
 refine Wl (wpAny_specialOf hl.typeIs sS ?_)
 try dsimp only
 refine Wl ?_
 refine Wl (Zk hl.typeIs sub_tuple_dict ?_)
 rw [if_neg (by decide)]
 refine Wl (wpAny_specialOf hl.typeIs F.slot_tuple_getitem.lookup ?_)
 dsimp only
 rw [if_pos (by trivial)]
 refine Wt ?_
 rw [if_neg (by decide)]
 refine Wl (len_tuple hl (by omega) ?_)
 refine Wl (Yr (a:=some ((items.size:Nat):Int)) rfl ?_)
 dsimp only
 refine Wl ?_
 unfold Builtin.SmallTypes.newRecord
 refine XJ ?_
 exact Wt (h _)
theorem Jv {l:Addr} {items:Array Value} {Q:Value->Shared->Prop} (hl:IsTup s.heap l items) (hz:items.size < 2 ^ 62)
  (h:∀ k,Q (.ref s.heap.objs.size) {s with heap:=s.heap.push (qt l ((items.size:Int) - 1)),toks:=k}):wpAny (model prog w) A (call (.type "reversed") [.ref l]) Q E s:=by
 refine callType_codes qp (F.typeCall_reversed_1 _) F.entry_object_init (Ju (Q₁:=fun obj s₁=>obj= .ref s.heap.objs.size/\∃ k,s₁={s with heap:=s.heap.push (qt l ((items.size:Int) - 1)),toks:=k}) hl hz fun k=>⟨rfl,k,rfl⟩) ?_
 rintro obj s₁ ⟨rfl,k,rfl⟩
 have hT:Shared.TypeIs {s with heap:=s.heap.push (qt l ((items.size:Int) - 1)),toks:=k} (.ref s.heap.objs.size) "reversed":=⟨_,Ww _ rfl,rfl⟩
 exact ⟨hT,F.args_object_init_2 _ _,(object_init_meets qp.init.lookup qp.made (by decide)) prog w A.in1 _ _ ⟨hT,rfl,h k⟩⟩
theorem Jw {it l:Addr} {i:Nat} {items:Array Value} {x:Value} {Q:Option Value->Shared->Prop} (hit:IsRvd s.heap it l (i:Int)) (hl:IsTup s.heap l items) (hx:items[i]?=some x) (hz:items.size < 2 ^ 62)
  (hQ:∀ h' k,IsRvd h' it l ((i:Int) - 1)->Heap.SameBut it s.heap h'->Q (some x) {s with heap:=h',toks:=k}):wpAny (model prog w) A (pyNext (.ref it)) Q E s:=by
 obtain ⟨o,ho,hc,hd⟩:=id hit
 have hi:i < items.size:=(Array.getElem?_eq_some_iff.mp hx).1
 unfold pyNext
 refine Wl (YJ (XD (name:=Str.ofString "__next__") hit.typeIs gH
  (X7 gH hit.typeIs oF ?_ (pZ _))))
 unfold Builtin.«reversed.__next__»
 refine Wl (Yr (a:=(Value.ref it,[])) rfl ?_)
 try dsimp only
 refine Wl (Xu ho hd (x:=.ref l) rfl ?_)
 refine Wl (Xu ho hd (x:=rawInt (i:Int)) rfl ?_)
 show wpAny _ _ (if (i:Int) < 0 then _ else _) _ _ s
 rw [if_neg (by omega)]
 refine Wl (wpAny_specialOf hl.typeIs F.slot_tuple_getitem.lookup ?_)
 rw [if_neg (by decide)]
 refine Wl (wpAny_mkInt ?_)
 refine Wl (YJ (getItem_tuple (j:=i) hl (by omega) (by omega) ?_ hx ?_))
 ·unfold seqIndex?
  simp
  omega
 dsimp only
 refine Wl (Xu (s:={s with toks:=s.toks+1}) ho hd (x:=rawInt (i:Int)) rfl ?_)
 refine Wl (Y5 (s:={s with toks:=s.toks+1}) ho hd (by simp) ?_)
 refine Wt ⟨x,rfl,Wt (hQ _ _ ?_ (YX ..))⟩
 exact ⟨_,XM _ ho (YL (Yh hd _)),(Obj.cls_mapFields ..).trans hc,by
  rw [Yh hd];simp⟩
theorem Nh {it l:Addr} {Q:Option Value->Shared->Prop} (hh:A.handled=none) (hit:IsRvd s.heap it l (-1))
  (hQ:∀ h',Heap.ExtBut it s.heap h'->Q none {s with heap:=h'}):wpAny (model prog w) A (pyNext (.ref it)) Q E s:=by
 obtain ⟨o,ho,hc,hd⟩:=id hit
 unfold pyNext
 refine Wl (YJ (XD (name:=Str.ofString "__next__") hit.typeIs gH
  (X7 gH hit.typeIs oF ?_ (pZ _))))
 unfold Builtin.«reversed.__next__»
 refine Wl (Yr (a:=(Value.ref it,[])) rfl ?_)
 try dsimp only
 refine Wl (Xu ho hd (x:=.ref l) rfl ?_)
 refine Wl (Xu ho hd (x:=rawInt (-1)) rfl ?_)
 show wpAny _ _ (if (-1:Int) < 0 then _ else _) _ _ s
 rw [if_pos (by decide)]
 refine Wl (wpAny_rule ?_)
 refine Wl ?_
 refine Wl (Y5 ho hd (by simp) ?_)
 have sb1:Heap.SameBut it s.heap (s.heap.update it (Obj.mapFields (·.setIfInBounds 1 (rawInt (-1))))):=YX ..
 have ho2:=XM (Obj.mapFields (·.setIfInBounds 1 (rawInt (-1)))) ho (YL (Yh hd _))
 refine Y5 ho2 (Yh hd _) (by simp) ?_
 have sb2:Heap.SameBut it (s.heap.update it (Obj.mapFields (·.setIfInBounds 1 (rawInt (-1))))) ((s.heap.update it (Obj.mapFields (·.setIfInBounds 1 (rawInt (-1))))).update it (Obj.mapFields (·.setIfInBounds 0 .none))):=YX ..
 have eb:Heap.ExtBut it s.heap ((s.heap.update it (Obj.mapFields (·.setIfInBounds 1 (rawInt (-1))))).update it (Obj.mapFields (·.setIfInBounds 0 .none))):=sb1.extBut.trans sb2.extBut
 show wpAny _ _ _ _ _ {s with heap:=((s.heap.update it (Obj.mapFields (·.setIfInBounds 1 (rawInt (-1))))).update it (Obj.mapFields (·.setIfInBounds 0 .none)))}
 generalize ((s.heap.update it (Obj.mapFields (·.setIfInBounds 1 (rawInt (-1))))).update it (Obj.mapFields (·.setIfInBounds 0 .none)))=h2 at eb ⊢
 refine Wl ?_
 show wpAny _ _ (newExc (.type "StopIteration") [] >>=_) _ _ _
 refine Wl ?_
 simp only [newExc,newTuple]
 refine Wl (XJ ?_ (by size_fits))
 refine Wl (m:=firstArgMember _ _) (Yr (a:=Value.none) (by first | rfl | (simp only [firstArgMember];rfl)) ?_)
 refine XJ ?_ (by size_fits)
 simp only [raiseNew]
 refine Wl (wpAny_handled ?_)
 first | rw [show A.in1.handled=none from hh] | rw [hh]
 refine Wl (Wt (wpAny_throw ?_))
 refine Wl (Zk (T:="StopIteration") (b:=true) ⟨_,Ww _ rfl,rfl⟩ isSubtype_stop ?_)
 exact Wt (hQ _ ((eb.push _).push _))
theorem zP {it l:Addr} {i:Int} {Q:Value->Shared->Prop} (hit:IsRvd s.heap it l i) (h:Q (.ref it) s):wpAny (model prog w) A (pyIter (.ref it)) Q E s:=by
 refine wpAny_pyIter_slot hit.typeIs p6 (X7 p6 hit.typeIs vJ ?_ (wj _))
 show wpAny _ _ (ret (.ref it)) _ _ s
 exact Wt ⟨_,rfl,"reversed",_,hit.typeIs,gH.lookup,h⟩
end
def TY (K:W.Frag) (a:Addr) (n:Nat):It:=
 ⟨fun i H=>i < n/\n < 2 ^ 62/\∃ xs,SqT K H a xs/\xs.length=n,
  fun i H v H'=>H'=H/\∀ xs,SqT K H a xs->xs[n - 1 - i]?=some v,
  fun i _=>i=n⟩
theorem Jx {P:Program} {w:World} {K:W.Frag} {tg:Expr} {n:Nat} {it a:Addr} (hai:a≠it):
  Turn P w K tg (TY K a n) [it] it (fun i h=>i<=n/\IsRvd h it a ((n:Int) - 1 - (i:Int))) where
 mem:=by simp
 obj:=fun i h st c hc=>by
  obtain ⟨_,⟨o1,e1,c1,d1⟩⟩:=st
  have e:c=it:=by simpa using hc
  subst e
  exact ⟨_,e1,fun v z=>by rw [d1] at z;cases z⟩
 keep:=fun i h h' st kk=>⟨st.1,st.2.at fun o q=>kk it (by simp) o q⟩
 item:=by
  intro X hP hw hK hc i pins s U H E I hf st hg
  subst hP hw hK
  obtain ⟨hi,h1⟩:=st
  obtain ⟨hlt,h62,xs,hq,hlen⟩:=hg
  obtain ⟨its,rv,p,_⟩:=I.tuple hq
  have l1:=rv.length
  obtain ⟨x,hx⟩:∃ x,xs[n - 1 - i]?=some x:=⟨_,Wn (by omega)⟩
  obtain ⟨u,hu,ru⟩:=rv.get hx
  obtain ⟨f0,f1,f2,f3,f4,f5⟩:=hf it (by simp)
  have e:(n:Int) - 1 - (i:Int)=((n - 1 - i:Nat):Int):=by omega
  rw [e] at h1
  refine Jw h1 p (x:=u) (by simpa using hu) (by simp;omega) fun h' k st' sb=>?_
  have I1:Inv X pins U H {s with heap:=h',toks:=k}:=I.turned (t':=k) (fun b o hb e=>(sb.2 b hb).trans e) f0 f1 f3 f4 f5
  obtain ⟨o,eo,c,d⟩:=id st'
  refine ⟨u,rfl,wM (s:={s with heap:=h',toks:=k}) eo c d (by decide) ⟨x,H,I1,ru,⟨rfl,fun ys hy=>by rw [I.tuple_inj hy hq];exact hx⟩,⟨hlt,?_⟩,fun b hb=>(hf b hb).1⟩⟩
  have e2:((n - 1 - i:Nat):Int) - 1=(n:Int) - 1 - ((i+1:Nat):Int):=by omega
  rw [← e2]
  exact st'
 done:=by
  intro X hP hw hK hc i pins s U H E I hf st hg
  subst hP hw hK
  obtain ⟨hi,h1⟩:=st
  have hin:i=n:=hg
  subst hin
  rw [show (i:Int) - 1 - (i:Int)= -1 by omega] at h1
  obtain ⟨f0,f1,f2,f3,f4,f5⟩:=hf it (by simp)
  exact Nh (I.ok.hd hc) h1 fun h' eb=>⟨rfl,I.turned (t':=s.toks) (fun b o hb e=>eb b o hb e) f0 f1 f3 f4 f5⟩
 self:=fun _ _ _ _ _ st h=>zP st.2 h
def Pk (K:W.Frag) (ta:TE):TI:=fun U H R=>ta U H fun x H1=>(∃ l xs,x= .ref l/\SqL K H1 l xs/\R (TX K l xs.length) H1)\/∃ l xs,x= .ref l/\SqT K H1 l xs/\xs.length < 2 ^ 62/\R (TY K l xs.length) H1
theorem Ni {X:Cx} {K:W.Frag} {a tg:Expr} {ta:TE} {p pos:Pos} (hK:X.K=K) (hg:Gl X "reversed") (hm:X.mg "reversed"=none) (ha:JE X a ta) (h:autoParam (notStar a=true) L2.auto4._auto_1):
  JI X tg (.Call (.Name "reversed" p) [a] [] pos) (Pk K ta):=⟨by
 subst hK
 intro pins s U H R I hq
 refine Call_ (jY I hg hm n8 (Xo (arg1 h (dW (ha.run pins s U H _ I hq) fun u s1 qq0=>?_)) (dm h) rfl))
 obtain ⟨x,H1,I1,rx,hx⟩:=qq0
 rcases hx with ⟨l,xs,ex,hx,q⟩ | ⟨l,xs,ex,hx,h62,q⟩
 ·subst ex
  cases rx
  obtain ⟨its,rv,ht,hz⟩:=I1.list hx
  have hlen:=rv.length
  have lt:l < s1.heap.objs.size:=by obtain ⟨o,ho,_⟩:=ht.isList;exact Wx ho
  refine call_reversed_list ht.isList ?_
  have e0:(s1.heap.push (PySem.revObj l ((its.toArray.size:Int) - 1))).get? s1.heap.objs.size=some (PySem.revObj l ((its.toArray.size:Int) - 1)):=Ww _ rfl
  have z2:(s1.heap.push (PySem.revObj l ((its.toArray.size:Int) - 1))).IsRevIter s1.heap.objs.size l ((xs.length:Int) - 1 - ((0:Nat):Int)):=⟨_,e0,rfl,by
   show Data.fields #[.ref l,rawInt ((its.toArray.size:Int) - 1)]=_
   rw [show ((its.toArray.size:Int) - 1)=(xs.length:Int) - 1 - ((0:Nat):Int) by rw [WQ];omega]⟩
  refine Yy z2 ?_
  refine ⟨s1.heap.objs.size,[s1.heap.objs.size],_,_,H1,rfl,I1.kept (t':=s1.toks) fun b o q=>Wr _ q,Jo (n:=xs.length) (Xc lt),⟨Xx _,z2⟩,fun b hb=>?_,q⟩
  have e:b=s1.heap.objs.size:=by simpa using hb
  subst e
  exact I1.fpOk (Wq _) (I1.hok.fresh (Wq _))
 ·subst ex
  cases rx
  obtain ⟨its,rv,ht,hz⟩:=I1.tuple hx
  have hlen:=rv.length
  have lt:l < s1.heap.objs.size:=by obtain ⟨o,ho,_⟩:=id ht;exact Wx ho
  refine Jv ht (by simp;omega) fun k=>?_
  have e0:(s1.heap.push (qt l ((its.toArray.size:Int) - 1))).get? s1.heap.objs.size=some (qt l ((its.toArray.size:Int) - 1)):=Ww _ rfl
  have z2:IsRvd (s1.heap.push (qt l ((its.toArray.size:Int) - 1))) s1.heap.objs.size l ((xs.length:Int) - 1 - ((0:Nat):Int)):=⟨_,e0,rfl,by
   show Data.fields #[.ref l,rawInt ((its.toArray.size:Int) - 1)]=_
   rw [show ((its.toArray.size:Int) - 1)=(xs.length:Int) - 1 - ((0:Nat):Int) by rw [WQ];omega]⟩
  refine zP z2 ?_
  refine ⟨s1.heap.objs.size,[s1.heap.objs.size],_,_,H1,rfl,I1.kept (t':=k) fun b o q=>Wr _ q,Jx (n:=xs.length) (Xc lt),⟨Xx _,z2⟩,fun b hb=>?_,q⟩
  have e:b=s1.heap.objs.size:=by simpa using hb
  subst e
  exact I1.fpOk (Wq _) (I1.hok.fresh (Wq _))⟩
section
variable {K:W.Frag} {U:St} {H:Hp}
theorem Jy {ta:TE} {R:It->Hp->Prop} (h:ta U H fun x H1=>(∃ l xs,x= .ref l/\SqL K H1 l xs/\R (TX K l xs.length) H1)\/∃ l xs,x= .ref l/\SqT K H1 l xs/\xs.length < 2 ^ 62/\R (TY K l xs.length) H1):Pk K ta U H R:=h
theorem Nj {a:Addr} {xs:List V} {g:TG} {tb:TS} {D:Ends} (Pv:Nat->St->Hp->Prop) (h0:Pv 0 U H) (hl:∀ i U H,i<=xs.length->Pv i U H->SqL K H a xs)
  (hs:∀ i x U H,i < xs.length->xs[xs.length - 1 - i]?=some x->Pv i U H->g x U H fun σ2 H2=>tb {D with nx:=Pv (i+1),ct:=Pv (i+1),bk:=D.nx} σ2 H2) (hd:∀ U H,Pv xs.length U H->D.nx U H):
  ∃ W:Nat->Nat->St->Hp->Prop,(∃ m,W 0 m U H)/\∀ i m U H,W i m U H->
   ((TX K a xs.length).stop i H/\D.nx U H)\/((TX K a xs.length).go i H/\∃ N:St->Hp->Prop,(∀ U' H',N U' H'->∃ m',m' < m/\W (i+1) m' U' H')/\∀ x H',(TX K a xs.length).yld i H x H'->g x U H' fun σ2 H2=>tb {D with nx:=N,ct:=N,bk:=D.nx} σ2 H2):=by
 refine ⟨fun i m U H=>m=xs.length - i/\i<=xs.length/\Pv i U H,⟨xs.length,by simp,Xx _,h0⟩,?_⟩
 rintro i m U H ⟨rfl,hi,p⟩
 have hq:=hl i U H hi p
 by_cases hlt:i < xs.length
 ·refine .inr ⟨⟨hlt,xs,hq,rfl⟩,Pv (i+1),fun U' H' h=>⟨xs.length - (i+1),by omega,rfl,by omega,h⟩,fun x H' y=>?_⟩
  obtain ⟨rfl,hy⟩:=y
  exact hs i x U _ hlt (hy xs hq) p
 ·obtain rfl:i=xs.length:=by omega
  exact .inl ⟨rfl,hd U H p⟩
theorem Nk {a:Addr} {xs:List V} {g:TG} {tb:TS} {D:Ends} (h62:xs.length < 2 ^ 62) (Pv:Nat->St->Hp->Prop) (h0:Pv 0 U H) (hl:∀ i U H,i<=xs.length->Pv i U H->SqT K H a xs)
  (hs:∀ i x U H,i < xs.length->xs[xs.length - 1 - i]?=some x->Pv i U H->g x U H fun σ2 H2=>tb {D with nx:=Pv (i+1),ct:=Pv (i+1),bk:=D.nx} σ2 H2) (hd:∀ U H,Pv xs.length U H->D.nx U H):
  ∃ W:Nat->Nat->St->Hp->Prop,(∃ m,W 0 m U H)/\∀ i m U H,W i m U H->
   ((TY K a xs.length).stop i H/\D.nx U H)\/((TY K a xs.length).go i H/\∃ N:St->Hp->Prop,(∀ U' H',N U' H'->∃ m',m' < m/\W (i+1) m' U' H')/\∀ x H',(TY K a xs.length).yld i H x H'->g x U H' fun σ2 H2=>tb {D with nx:=N,ct:=N,bk:=D.nx} σ2 H2):=by
 refine ⟨fun i m U H=>m=xs.length - i/\i<=xs.length/\Pv i U H,⟨xs.length,by simp,Xx _,h0⟩,?_⟩
 rintro i m U H ⟨rfl,hi,p⟩
 have hq:=hl i U H hi p
 by_cases hlt:i < xs.length
 ·refine .inr ⟨⟨hlt,h62,xs,hq,rfl⟩,Pv (i+1),fun U' H' h=>⟨xs.length - (i+1),by omega,rfl,by omega,h⟩,fun x H' y=>?_⟩
  obtain ⟨rfl,hy⟩:=y
  exact hs i x U _ hlt (hy xs hq) p
 ·obtain rfl:i=xs.length:=by omega
  exact .inl ⟨rfl,hd U H p⟩
end
end L2
namespace L2
open PySem PySem.W PySem.Spec PyProof.Rows
end L2
namespace L2
open PySem PySem.Spec PyProof.Rows
end L2
namespace HT
open PySem PySem.Spec PyProof.Rows
section
variable {prog:Program} {w:World} {A:Around} {E:Value->Shared->Prop} {s:Shared}
theorem getItem_tuple_whole {t sl:Addr} {items:Array Value} {vl vu:Value} {lo hi:Option Int} {Q:Value->Shared->Prop} (ht:IsTup s.heap t items) (hs:s.heap.IsSliceOf sl vl vu .none) (pl:IsPart vl lo) (pu:IsPart vu hi)
  (hw:sIx items.size 0 lo=0/\sIx items.size items.size hi=items.size) (h:Q (.ref t) s):wpAny (model prog w) A (getItem (.ref t) (.ref sl)) Q E s:=by
 obtain ⟨os,hos,hcs,hds⟩:=id hs
 have hTs:s.TypeIs (.ref sl) "slice":=⟨os,hos,hcs⟩
 unfold getItem
 try with_reducible refine X5 ?_
 first | refine Wl (Wt ?_) | skip
 refine Wl (wpAny_sequenceKey ht.typeIs (by decide) ?_)
 refine Wl (XD (name:=Str.ofString "__getitem__") ht.typeIs Ys
  (X7 Ys ht.typeIs entry_tuple_getitem ?_ (args_tuple_getitem _ _)))
 show wpAny _ _ (Builtin.Tuple.tupleItemsOf (.ref t) >>=_) _ _ s
 refine Wl (tupleItemsOf_ ht ?_)
 refine Wl (wpAny_typeOf hTs ?_)
 rw [if_pos (by decide)]
 refine Wl (mj hs pl pu ?_)
 have hyes:((((sIx items.size 0 lo:Nat):Int) == 0 && (1:Int) == 1 && (sIx items.size items.size hi - sIx items.size 0 lo) == items.size)=true):=by
  rw [hw.1,hw.2];simp
 show wpAny _ _ (if (((sIx items.size 0 lo:Nat):Int) == 0 && (1:Int) == 1 && (sIx items.size items.size hi - sIx items.size 0 lo) == items.size)=true then _ else _) _ _ s
 rw [if_pos hyes]
 unfold Builtin.Tuple.tupleIsExact
 refine Wl (Wl (wpAny_typeOf ht.typeIs (Wt ?_)))
 rw [if_pos (by decide)]
 exact Wl (wpAny_rule (Wt ⟨_,rfl,Wt h⟩))
end
end HT
namespace L2
open PySem PySem.Spec PyProof.Rows
section
variable {X:Cx}
def Vq (K:W.Frag):V->Option Int->Option Int->Hp->VK->Prop:=fun x lo hi H Q=>∃ a xs,x= .ref a/\SqT K H a xs/\(HT.sIx xs.length 0 lo=0/\HT.sIx xs.length xs.length hi=xs.length)/\Q (.ref a) H
theorem Nm:SlR X (Vq X.K):=by
 intro pins s U H x v vl vu lo hi sl Q I rx hs pl pu h
 obtain ⟨a,xs,rfl,hx,hw,q⟩:=h
 cases rx
 obtain ⟨its,r,ht,hz⟩:=I.tuple hx
 have hlen:its.toArray.size=xs.length:=by rw [WQ];exact r.length.symm
 refine ⟨"tuple",_,PyProof.Rows.slot_tuple_getitem.lookup,ht.typeIs,?_⟩
 exact HT.getItem_tuple_whole ht hs pl pu (by rw [hlen];exact hw) ⟨.ref a,H,I,rfl,q⟩
def Vr (K:W.Frag):V->Option Int->Option Int->Hp->VK->Prop:=fun x lo hi H Q=>V5 K x lo hi H Q\/Vq K x lo hi H Q
theorem lu {K:W.Frag} (hK:X.K=K):SlR X (Vr K):=by
 subst hK
 exact Rb.or Nm
end
section
variable {H:Hp} {Q:VK} {K:W.Frag} {p:Addr} {xs:List V} {lo hi:Option Int}
theorem qu {x:Str} (hz:x.length<=sizeLine) (h:Q (.str (Txt.slice x lo hi)) H):Vr K (.str x) lo hi H Q:=.inl (U0 hz h)
end
end L2
namespace L2
open PySem PySem.Spec PyProof.Rows
open PySem.Sem (wp)
open AutoSeq1 (wpAny_loadPart')
end L2
namespace L2
open PySem PySem.Spec PyProof.Rows
section
open PySem.SeqAt PySem.MeetsSeq PySem.MeetsSeq2 PySem.MeetsSeq3
open PySem.AutoSeq1 (wpAny_loadPart')
end
section
variable {X:Cx} {x:Str} {pos:Pos} {sc:Scope}
theorem aq (i:Nat) (h:autoParam (X.env.scope.names.lookup x=some .local) L2.auto7._auto_1) (hN:autoParam (X.N[i]?=some x) L2.auto4._auto_1) (hd:autoParam ((x == ("__debug__":Str))=false) L2.auto6._auto_1) (hcd:autoParam ((x == ("__classdict__":Str))=false) L2.auto6._auto_1):JE X (.Name x pos) (p8 i):=Rp i h hN rfl hd hcd
theorem jM (i:Nat) (h:autoParam (X.env.scope.names.lookup x=some .cell) L2.auto7._auto_1) (hN:autoParam (X.N[i]?=some x) L2.auto4._auto_1) (hd:autoParam ((x == ("__debug__":Str))=false) L2.auto6._auto_1) (hcd:autoParam ((x == ("__classdict__":Str))=false) L2.auto6._auto_1):JE X (.Name x pos) (p8 i):=j_vC i h hN rfl hd hcd
theorem aN (h:autoParam (X.env.scope.names.lookup x=some .globalImplicit) L2.auto7._auto_1):Gl X x:=h
theorem bT (h:autoParam (sc.names.lookup x=some .local) L2.auto7._auto_1):Loc sc x:=.inl h
theorem T3 (h:autoParam (sc.names.lookup x=some .cell) L2.auto7._auto_1):Loc sc x:=.inr h
end
section
open PySem.SeqAt PySem.MeetsSeq PySem.MeetsSeq2 PySem.MeetsSeq3
open PySem.AutoSeq1 (wpAny_loadPart')
end
theorem Def.at_ {K:W.Frag} {mg:Str->Option Value} {x:Str} {st:Stmt} (d:Def K mg x st):mg x=some (.ref (aP mg x)):=by
 obtain ⟨f,_,_,h⟩:=d
 rw [je h];exact h
def Vs (P:Program) (w:World) (K:W.Frag) (mg:Str->Option Value) (base:Heap) (k:Nat) (xs:List Str) (ps:List Str) (sp:Str->Sp):Prop:=∀ x∈xs,HasX P w K mg base k x ps (sp x)
theorem HasX.weak {P:Program} {w:World} {K:W.Frag} {mg:Str->Option Value} {base:Heap} {j k:Nat} {x:Str} {ps:List Str} {sp sp':Sp} (h:HasX P w K mg base j x ps sp) (hk:j<=k) (hs:∀ vs H Q E,sp' vs H Q E->sp vs H Q E):HasX P w K mg base k x ps sp':=by
 obtain ⟨f,fd,a,b,c,d⟩:=h
 refine ⟨f,fd,a,b,c,?_⟩
 have d':=d.mono hk
 exact ⟨fun vs H Q E h=>d'.len _ _ _ _ (hs _ _ _ _ h),fun A outer s H a us vs Q E hr e0 hb r h=>d'.run A outer s H a us vs Q E hr e0 hb r (hs _ _ _ _ h)⟩
def Jz (mg:Str->Option Value) (xs:List Str) (sp:Str->Sp) (R:St->XK) (tv:TE) (t:TA):TE:=fun U H Q=>tv U H fun u H0=>∃ x,x∈xs/\u= .ref (aP mg x)/\t U H0 fun vs H1=>sp x vs H1 Q (R U)
section
variable {X:Cx} {mg:Str->Option Value} {k:Nat} {xs ps:List Str} {sp:Str->Sp} {R:St->XK} {x:Str} {p pos:Pos} {e:Expr} {es:List Expr} {t:TA} {tv:TE}
theorem JC (hmg:X.mg=mg) (hv:JE X (.Name x p) tv) (F:Vs X.prog X.w X.K X.mg X.base k xs ps sp) (hr:Room k X.A) (hx:j8 X R) (ha:JA X (e :: es) t) (h:autoParam ((e :: es).all notStar=true) L2.auto4._auto_1):
  JE X (.Call (.Name x p) (e :: es) [] pos) (Jz mg xs sp R tv t):=by
 have h1:notStar e=true:=by simp only [Xv,WX] at h;exact h.1
 have h2:es.all notStar=true:=by simp only [Xv,WX] at h;exact h.2
 subst hmg
 refine ⟨?_⟩
 intro pins s U H Q I hq
 refine XX (dW (hv.run pins s U H _ I hq) fun u s0 qq0=>?_)
 obtain ⟨v,H0,I0,rv,y,hy,ev,q0⟩:=qq0
 obtain ⟨f,fd,a,b,c,d⟩:=F y hy
 rw [je a] at ev
 subst ev
 cases rv
 refine YK (h₀:=X.base) I.ok.mod.kin b (dW (ha.run pos pins s0 U H0 _ I0 q0) fun us s1 ⟨vs,H1,I1,r,q⟩=>⟨I1.kIn,?_⟩) (dm h1) (lF h2)
 exact uL d hr c hx I1 r q
end
section
variable {mg:Str->Option Value} {xs:List Str} {sp:Str->Sp} {R:St->XK} {tv:TE} {t:TA} {U:St} {H:Hp} {Q:VK}
theorem bH (h:tv U H fun u H0=>∃ x,x∈xs/\u= .ref (aP mg x)/\t U H0 fun vs H1=>sp x vs H1 Q (R U)):Jz mg xs sp R tv t U H Q:=h
end
end L2
namespace My
open PySem L2
local macro_rules | `(tactic| walk_at "p") => `(tactic| first | exact bh _ | with_unfolding_all rfl)
local macro_rules | `(tactic| walk_at "0") => `(tactic| (first | refine jo ?_ | refine ir ?_ | refine iK ?_ | refine fK ?_ | refine fM ?_ | refine dg ?_ | refine dh ?_ | (refine' fc ?hz0 ?_; (case hz0 => with_unfolding_all rfl)) | refine uf ?_ | refine jw ?_ | refine cN ?_ | refine cF ?_ | refine fj ?_ | refine eO ?_ | refine cj ?_ | refine eU ?_ | refine b8 ?_ | refine jl ?_ | refine cz ?_ | refine jx ?_ | refine jr ?_ | refine cG ?_ | refine jm ?_ | refine eV ?_ | refine eY ?_ | refine jn ?_ | refine cA ?_ | refine cB ?_ | refine eZ ?_ | refine eQ ?_ | refine cu ?_ | refine jq ?_ | refine nJ ?_ | refine nM ?_ | refine jt ?_ | refine fu ?_ | refine ju ?_ | refine fB ?_ | refine cH ?_ | refine cI ?_ | refine cJ ?_ | refine cL ?_ | refine cM ?_ | refine fG ?_ | refine um ?_ | refine cT ?_ | refine bz ?_ | refine cU ?_ | (refine' bj (SqT.of ?hz0) ?hz1 ?_; (case hz0 => first | assumption | exact aj); (case hz1 => rfl)) | refine bB ?_ | refine bD ?_ | refine fH ?_ | refine bC ?_ | refine cX ?_ | refine fJ ?_ | refine cY ?_ | refine bZ ?_ | refine b7 ?_ | refine cZ ?_ | refine c7 ?_ | refine jy ?_ | refine bW ?_ | refine bY ?_ | refine cV ?_ | refine cW ?_ | refine bA ?_ | refine d9 ?_ | refine cQ ?_ | (refine' ug ?hz0 ?_; (case hz0 => with_unfolding_all first | assumption | omega | (dsimp only <;> omega) | exact ⟨by omega, by omega⟩ | exact .inl ⟨by omega, by omega⟩ | exact .inr ⟨by omega, by omega⟩ | exact ⟨by decide, by decide, by decide⟩)) | (refine' cO ?hz0 ?_; (case hz0 => with_unfolding_all first | assumption | omega | (dsimp only <;> omega) | exact ⟨by omega, by omega⟩ | exact .inl ⟨by omega, by omega⟩ | exact .inr ⟨by omega, by omega⟩ | exact ⟨by decide, by decide, by decide⟩)) | (refine' aO (SqL.of ?hz0) ?hz1 ?_; (case hz0 => first | assumption | exact aj); (case hz1 => with_unfolding_all rfl)) | (refine' dM (SqT.of ?hz0) ?hz1 ?_; (case hz0 => first | assumption | exact aj); (case hz1 => with_unfolding_all rfl)) | (refine' bN ?hz0 ?hz1 ?_; (case hz0 => first | assumption | exact aj); (case hz1 => with_unfolding_all rfl)) | refine bF ?_ | refine bG ?_ | refine fO ?_ | refine di ?_ | refine bH ?_ | refine pC ?_ | refine jV ?_))
local macro_rules | `(tactic| walk_at "1") => `(tactic| (first | refine jo ?_ | refine ir ?_ | refine iK ?_ | refine fK ?_ | refine fM ?_ | refine dg ?_ | refine dh ?_ | (refine' fc ?hz0 ?_; (case hz0 => with_unfolding_all rfl)) | refine uf ?_ | refine jw ?_ | refine cN ?_ | refine cF ?_ | refine fj ?_ | refine eO ?_ | refine cj ?_ | refine eU ?_ | refine b8 ?_ | refine jl ?_ | refine cz ?_ | refine jx ?_ | refine jr ?_ | refine cG ?_ | refine jm ?_ | refine eV ?_ | refine eY ?_ | refine jn ?_ | refine cA ?_ | refine cB ?_ | refine eZ ?_ | refine eQ ?_ | refine cu ?_ | refine jq ?_ | refine nJ ?_ | refine nM ?_ | refine jt ?_ | refine fu ?_ | refine ju ?_ | refine fB ?_ | refine cH ?_ | refine cI ?_ | refine cJ ?_ | refine cL ?_ | refine cM ?_ | refine fG ?_ | refine um ?_ | refine cT ?_ | refine bz ?_ | refine cU ?_ | (refine' bj (SqT.of ?hz0) ?hz1 ?_; (case hz0 => first | assumption | exact aj); (case hz1 => rfl)) | refine bB ?_ | refine bD ?_ | refine fH ?_ | refine bC ?_ | refine cX ?_ | refine fJ ?_ | refine cY ?_ | refine bZ ?_ | refine b7 ?_ | refine cZ ?_ | refine c7 ?_ | refine jy ?_ | refine bW ?_ | refine bY ?_ | refine cV ?_ | refine cW ?_ | refine bA ?_ | refine d9 ?_ | refine cQ ?_ | (refine' ug ?hz0 ?_; (case hz0 => with_unfolding_all first | assumption | omega | (dsimp only <;> omega) | exact ⟨by omega, by omega⟩ | exact .inl ⟨by omega, by omega⟩ | exact .inr ⟨by omega, by omega⟩ | exact ⟨by decide, by decide, by decide⟩)) | (refine' cO ?hz0 ?_; (case hz0 => with_unfolding_all first | assumption | omega | (dsimp only <;> omega) | exact ⟨by omega, by omega⟩ | exact .inl ⟨by omega, by omega⟩ | exact .inr ⟨by omega, by omega⟩ | exact ⟨by decide, by decide, by decide⟩)) | (refine' aO (SqL.of ?hz0) ?hz1 ?_; (case hz0 => first | assumption | exact aj); (case hz1 => with_unfolding_all rfl)) | (refine' dM (SqT.of ?hz0) ?hz1 ?_; (case hz0 => first | assumption | exact aj); (case hz1 => with_unfolding_all rfl)) | (refine' bN ?hz0 ?hz1 ?_; (case hz0 => first | assumption | exact aj); (case hz1 => with_unfolding_all rfl)) | refine bF ?_ | refine bG ?_ | refine fO ?_ | refine di ?_ | refine bH ?_ | refine iB ?_))
local macro_rules | `(tactic| walk_at "2") => `(tactic| (first | refine jo ?_ | refine ir ?_ | refine iK ?_ | refine fK ?_ | refine fM ?_ | refine dg ?_ | refine dh ?_ | (refine' fc ?hz0 ?_; (case hz0 => with_unfolding_all rfl)) | refine uf ?_ | refine jw ?_ | refine cN ?_ | refine cF ?_ | refine fj ?_ | refine eO ?_ | refine cj ?_ | refine eU ?_ | refine b8 ?_ | refine jl ?_ | refine cz ?_ | refine jx ?_ | refine jr ?_ | refine cG ?_ | refine jm ?_ | refine eV ?_ | refine eY ?_ | refine jn ?_ | refine cA ?_ | refine cB ?_ | refine eZ ?_ | refine eQ ?_ | refine cu ?_ | refine jq ?_ | refine iD ?_ | refine iC ?_ | refine jt ?_ | refine fu ?_ | refine ju ?_ | refine fB ?_ | refine cH ?_ | refine cI ?_ | refine cJ ?_ | refine cL ?_ | refine cM ?_ | refine fG ?_ | refine um ?_ | refine cT ?_ | refine bz ?_ | refine cU ?_ | (refine' bj (SqT.of ?hz0) ?hz1 ?_; (case hz0 => first | assumption | exact aj); (case hz1 => rfl)) | refine bB ?_ | refine bD ?_ | refine fH ?_ | refine bC ?_ | refine cX ?_ | refine fJ ?_ | refine cY ?_ | refine bZ ?_ | refine b7 ?_ | refine cZ ?_ | refine c7 ?_ | refine jy ?_ | refine bW ?_ | refine bY ?_ | refine cV ?_ | refine cW ?_ | refine bA ?_ | refine d9 ?_ | refine cQ ?_ | (refine' ug ?hz0 ?_; (case hz0 => with_unfolding_all first | assumption | omega | (dsimp only <;> omega) | exact ⟨by omega, by omega⟩ | exact .inl ⟨by omega, by omega⟩ | exact .inr ⟨by omega, by omega⟩ | exact ⟨by decide, by decide, by decide⟩)) | (refine' cO ?hz0 ?_; (case hz0 => with_unfolding_all first | assumption | omega | (dsimp only <;> omega) | exact ⟨by omega, by omega⟩ | exact .inl ⟨by omega, by omega⟩ | exact .inr ⟨by omega, by omega⟩ | exact ⟨by decide, by decide, by decide⟩)) | (refine' aO (SqL.of ?hz0) ?hz1 ?_; (case hz0 => first | assumption | exact aj); (case hz1 => with_unfolding_all rfl)) | (refine' dM (SqT.of ?hz0) ?hz1 ?_; (case hz0 => first | assumption | exact aj); (case hz1 => with_unfolding_all rfl)) | (refine' bN ?hz0 ?hz1 ?_; (case hz0 => first | assumption | exact aj); (case hz1 => with_unfolding_all rfl)) | refine bF ?_ | refine bG ?_ | refine fO ?_ | refine di ?_ | refine bH ?_ | refine iB ?_ | refine Jy ?_))
local macro_rules | `(tactic| walk_at "3") => `(tactic| (first | refine jo ?_ | refine ir ?_ | refine iK ?_ | refine fK ?_ | refine fM ?_ | refine dg ?_ | refine dh ?_ | (refine' fc ?hz0 ?_; (case hz0 => with_unfolding_all rfl)) | refine uf ?_ | refine jw ?_ | refine cN ?_ | refine cF ?_ | refine fj ?_ | refine eO ?_ | refine cj ?_ | refine eU ?_ | refine b8 ?_ | refine jl ?_ | refine cz ?_ | refine jx ?_ | refine jr ?_ | refine cG ?_ | refine jm ?_ | refine eV ?_ | refine eY ?_ | refine jn ?_ | refine cA ?_ | refine cB ?_ | refine eZ ?_ | refine eQ ?_ | refine cu ?_ | refine jq ?_ | refine iD ?_ | refine iC ?_ | refine jt ?_ | refine fu ?_ | refine ju ?_ | refine fB ?_ | refine cH ?_ | refine cI ?_ | refine cJ ?_ | refine cL ?_ | refine cM ?_ | refine fG ?_ | refine um ?_ | refine cT ?_ | refine bz ?_ | refine cU ?_ | (refine' bj (SqT.of ?hz0) ?hz1 ?_; (case hz0 => first | assumption | exact aj); (case hz1 => rfl)) | refine bB ?_ | refine bD ?_ | refine fH ?_ | refine bC ?_ | refine cX ?_ | refine fJ ?_ | refine cY ?_ | refine bZ ?_ | refine b7 ?_ | refine cZ ?_ | refine c7 ?_ | refine jy ?_ | refine bW ?_ | refine bY ?_ | refine cV ?_ | refine cW ?_ | refine bA ?_ | refine d9 ?_ | refine cQ ?_ | (refine' ug ?hz0 ?_; (case hz0 => with_unfolding_all first | assumption | omega | (dsimp only <;> omega) | exact ⟨by omega, by omega⟩ | exact .inl ⟨by omega, by omega⟩ | exact .inr ⟨by omega, by omega⟩ | exact ⟨by decide, by decide, by decide⟩)) | (refine' cO ?hz0 ?_; (case hz0 => with_unfolding_all first | assumption | omega | (dsimp only <;> omega) | exact ⟨by omega, by omega⟩ | exact .inl ⟨by omega, by omega⟩ | exact .inr ⟨by omega, by omega⟩ | exact ⟨by decide, by decide, by decide⟩)) | (refine' aO (SqL.of ?hz0) ?hz1 ?_; (case hz0 => first | assumption | exact aj); (case hz1 => with_unfolding_all rfl)) | (refine' dM (SqT.of ?hz0) ?hz1 ?_; (case hz0 => first | assumption | exact aj); (case hz1 => with_unfolding_all rfl)) | (refine' bN ?hz0 ?hz1 ?_; (case hz0 => first | assumption | exact aj); (case hz1 => with_unfolding_all rfl)) | refine bF ?_ | refine bG ?_ | refine fO ?_ | refine di ?_ | refine bH ?_ | refine iB ?_))
local macro_rules | `(tactic| walk_at "4") => `(tactic| (first | refine jo ?_ | refine ir ?_ | refine iK ?_ | refine fK ?_ | refine fM ?_ | refine dg ?_ | refine dh ?_ | (refine' fc ?hz0 ?_; (case hz0 => with_unfolding_all rfl)) | refine uf ?_ | refine jw ?_ | refine cN ?_ | refine cF ?_ | refine fj ?_ | refine eO ?_ | refine cj ?_ | refine eU ?_ | refine b8 ?_ | refine jl ?_ | refine cz ?_ | refine jx ?_ | refine jr ?_ | refine cG ?_ | refine jm ?_ | refine eV ?_ | refine eY ?_ | refine jn ?_ | refine cA ?_ | refine cB ?_ | refine eZ ?_ | refine eQ ?_ | refine cu ?_ | refine jq ?_ | refine nJ ?_ | refine nM ?_ | refine jt ?_ | refine fu ?_ | refine ju ?_ | refine fB ?_ | refine cH ?_ | refine cI ?_ | refine cJ ?_ | refine cL ?_ | refine cM ?_ | refine fG ?_ | refine um ?_ | refine cT ?_ | refine bz ?_ | refine cU ?_ | (refine' bj (SqT.of ?hz0) ?hz1 ?_; (case hz0 => first | assumption | exact aj); (case hz1 => rfl)) | refine bB ?_ | refine bD ?_ | refine fH ?_ | refine bC ?_ | refine cX ?_ | refine fJ ?_ | refine cY ?_ | refine bZ ?_ | refine b7 ?_ | refine cZ ?_ | refine c7 ?_ | refine jy ?_ | refine bW ?_ | refine bY ?_ | refine cV ?_ | refine cW ?_ | refine bA ?_ | refine d9 ?_ | refine cQ ?_ | (refine' ug ?hz0 ?_; (case hz0 => with_unfolding_all first | assumption | omega | (dsimp only <;> omega) | exact ⟨by omega, by omega⟩ | exact .inl ⟨by omega, by omega⟩ | exact .inr ⟨by omega, by omega⟩ | exact ⟨by decide, by decide, by decide⟩)) | (refine' cO ?hz0 ?_; (case hz0 => with_unfolding_all first | assumption | omega | (dsimp only <;> omega) | exact ⟨by omega, by omega⟩ | exact .inl ⟨by omega, by omega⟩ | exact .inr ⟨by omega, by omega⟩ | exact ⟨by decide, by decide, by decide⟩)) | (refine' aO (SqL.of ?hz0) ?hz1 ?_; (case hz0 => first | assumption | exact aj); (case hz1 => with_unfolding_all rfl)) | (refine' dM (SqT.of ?hz0) ?hz1 ?_; (case hz0 => first | assumption | exact aj); (case hz1 => with_unfolding_all rfl)) | (refine' bN ?hz0 ?hz1 ?_; (case hz0 => first | assumption | exact aj); (case hz1 => with_unfolding_all rfl)) | refine bF ?_ | refine bG ?_ | refine fO ?_ | refine di ?_ | refine bH ?_))
local macro_rules | `(tactic| walk_at "5") => `(tactic| (first | refine jo ?_ | refine ir ?_ | refine iK ?_ | refine fK ?_ | refine fM ?_ | refine dg ?_ | refine dh ?_ | (refine' fc ?hz0 ?_; (case hz0 => with_unfolding_all rfl)) | refine uf ?_ | refine jw ?_ | refine cN ?_ | refine cF ?_ | refine fj ?_ | refine eO ?_ | refine cj ?_ | refine eU ?_ | refine b8 ?_ | refine jl ?_ | refine cz ?_ | refine jx ?_ | refine jr ?_ | refine cG ?_ | refine jm ?_ | refine eV ?_ | refine eY ?_ | refine jn ?_ | refine cA ?_ | refine cB ?_ | refine eZ ?_ | refine eQ ?_ | refine cu ?_ | refine jq ?_ | refine iD ?_ | refine iC ?_ | refine jt ?_ | refine fu ?_ | refine ju ?_ | refine fB ?_ | refine cH ?_ | refine cI ?_ | refine cJ ?_ | refine cL ?_ | refine cM ?_ | refine fG ?_ | refine um ?_ | refine cT ?_ | refine bz ?_ | refine cU ?_ | (refine' bj (SqT.of ?hz0) ?hz1 ?_; (case hz0 => first | assumption | exact aj); (case hz1 => rfl)) | refine bB ?_ | refine bD ?_ | refine fH ?_ | refine bC ?_ | refine cX ?_ | refine fJ ?_ | refine cY ?_ | refine bZ ?_ | refine b7 ?_ | refine cZ ?_ | refine c7 ?_ | refine jy ?_ | refine bW ?_ | refine bY ?_ | refine cV ?_ | refine cW ?_ | refine bA ?_ | refine d9 ?_ | refine cQ ?_ | (refine' ug ?hz0 ?_; (case hz0 => with_unfolding_all first | assumption | omega | (dsimp only <;> omega) | exact ⟨by omega, by omega⟩ | exact .inl ⟨by omega, by omega⟩ | exact .inr ⟨by omega, by omega⟩ | exact ⟨by decide, by decide, by decide⟩)) | (refine' cO ?hz0 ?_; (case hz0 => with_unfolding_all first | assumption | omega | (dsimp only <;> omega) | exact ⟨by omega, by omega⟩ | exact .inl ⟨by omega, by omega⟩ | exact .inr ⟨by omega, by omega⟩ | exact ⟨by decide, by decide, by decide⟩)) | (refine' aO (SqL.of ?hz0) ?hz1 ?_; (case hz0 => first | assumption | exact aj); (case hz1 => with_unfolding_all rfl)) | (refine' dM (SqT.of ?hz0) ?hz1 ?_; (case hz0 => first | assumption | exact aj); (case hz1 => with_unfolding_all rfl)) | (refine' bN ?hz0 ?hz1 ?_; (case hz0 => first | assumption | exact aj); (case hz1 => with_unfolding_all rfl)) | refine bF ?_ | refine bG ?_ | refine fO ?_ | refine di ?_ | refine bH ?_ | (refine' ur ?hz0 ?_; (case hz0 => with_unfolding_all rfl)) | refine iB ?_))
local macro_rules | `(tactic| walk_at "6") => `(tactic| (first | refine jo ?_ | refine ir ?_ | refine iK ?_ | refine fK ?_ | refine fM ?_ | refine dg ?_ | refine dh ?_ | (refine' fc ?hz0 ?_; (case hz0 => with_unfolding_all rfl)) | refine uf ?_ | refine jw ?_ | refine cN ?_ | refine cF ?_ | refine fj ?_ | refine eO ?_ | refine cj ?_ | refine eU ?_ | refine b8 ?_ | refine jl ?_ | refine cz ?_ | refine jx ?_ | refine jr ?_ | refine cG ?_ | refine jm ?_ | refine eV ?_ | refine eY ?_ | refine jn ?_ | refine cA ?_ | refine cB ?_ | refine eZ ?_ | refine eQ ?_ | refine cu ?_ | refine jq ?_ | refine iD ?_ | refine iC ?_ | refine jt ?_ | refine fu ?_ | refine ju ?_ | refine fB ?_ | refine cH ?_ | refine cI ?_ | refine cJ ?_ | refine cL ?_ | refine cM ?_ | refine fG ?_ | refine um ?_ | refine cT ?_ | refine bz ?_ | refine cU ?_ | (refine' bj (SqT.of ?hz0) ?hz1 ?_; (case hz0 => first | assumption | exact aj); (case hz1 => rfl)) | refine bB ?_ | refine bD ?_ | refine fH ?_ | refine bC ?_ | refine cX ?_ | refine fJ ?_ | refine cY ?_ | refine bZ ?_ | refine b7 ?_ | refine cZ ?_ | refine c7 ?_ | refine jy ?_ | refine bW ?_ | refine bY ?_ | refine cV ?_ | refine cW ?_ | refine bA ?_ | refine d9 ?_ | refine cQ ?_ | (refine' ug ?hz0 ?_; (case hz0 => with_unfolding_all first | assumption | omega | (dsimp only <;> omega) | exact ⟨by omega, by omega⟩ | exact .inl ⟨by omega, by omega⟩ | exact .inr ⟨by omega, by omega⟩ | exact ⟨by decide, by decide, by decide⟩)) | (refine' cO ?hz0 ?_; (case hz0 => with_unfolding_all first | assumption | omega | (dsimp only <;> omega) | exact ⟨by omega, by omega⟩ | exact .inl ⟨by omega, by omega⟩ | exact .inr ⟨by omega, by omega⟩ | exact ⟨by decide, by decide, by decide⟩)) | (refine' aO (SqL.of ?hz0) ?hz1 ?_; (case hz0 => first | assumption | exact aj); (case hz1 => with_unfolding_all rfl)) | (refine' dM (SqT.of ?hz0) ?hz1 ?_; (case hz0 => first | assumption | exact aj); (case hz1 => with_unfolding_all rfl)) | (refine' bN ?hz0 ?hz1 ?_; (case hz0 => first | assumption | exact aj); (case hz1 => with_unfolding_all rfl)) | refine bF ?_ | refine bG ?_ | refine fO ?_ | refine di ?_ | refine bH ?_))
abbrev KLl (d:Stmt) (x:Str):Prop:=(az d).names.lookup x=some NameKind.local
def nI (cs:List Nat):List Int:=cs.map fun i:Nat=>(i:Int)
theorem JD {E:List Nat} (hn:E.Nodup) {i x:Nat} (h:E[i]?=some x):E.idxOf x=i:=by
 obtain ⟨hi,rfl⟩:=Wm.mp h
 exact hn.idxOf_getElem i hi
structure Prm (t:List Nat):Prop where
 le:t.length<=96
 pm:t.Perm (List.range t.length)
theorem Prm.nd {t:List Nat} (h:Prm t):t.Nodup:=h.pm.nodup_iff.mpr List.nodup_range
theorem Prm.lt {t:List Nat} (h:Prm t) {x:Nat} (hx:x∈t):x < t.length:=Xe.mp (h.pm.mem_iff.mp hx)
def top (i:Nat):Stmt:=PySem.Challenge.pw_panethread_k80_said_twice.main.body.getD i (.Pass ⟨0,0,0,0⟩)
abbrev oG:Stmt:=top 15
abbrev oH:Stmt:=top 16
abbrev sU:Stmt:=top 17
abbrev mU:Stmt:=top 18
abbrev oJ:Stmt:=top 19
abbrev rF:Stmt:=top 21
abbrev mV:Stmt:=top 22
abbrev qw:Stmt:=top 23
abbrev oK:Stmt:=top 24
abbrev mW:Stmt:=top 25
abbrev jg:Stmt:=top 29
abbrev kj:Stmt:=top 30
abbrev qx:Stmt:=top 31
abbrev qy:Stmt:=top 32
abbrev sV:Stmt:=top 33
abbrev mX:Stmt:=top 34
abbrev pH:Stmt:=top 35
abbrev mY:Stmt:=top 38
abbrev km:Stmt:=top 39
abbrev rG:Stmt:=top 40
abbrev lH:Stmt:=top 44
abbrev sW:Stmt:=top 46
abbrev jC:Stmt:=top 48
abbrev sX:Stmt:=top 49
abbrev oM:Stmt:=top 50
abbrev qz:Stmt:=top 52
abbrev mZ:Stmt:=top 53
abbrev qC:Stmt:=top 54
abbrev uN:Stmt:=top 56
abbrev jh:Stmt:=top 57
abbrev kE:Stmt:=top 58
abbrev gP:Stmt:=top 60
abbrev kI:Stmt:=top 61
abbrev pI:Stmt:=top 62
abbrev lJ:Stmt:=top 64
abbrev oN:Stmt:=top 65
abbrev m5:Stmt:=top 66
abbrev sY:Stmt:=top 67
abbrev m7:Stmt:=top 68
abbrev oO:Stmt:=top 69
abbrev pJ:Stmt:=top 70
abbrev iG:Stmt:=top 71
abbrev m8:Stmt:=top 72
abbrev m9:Stmt:=top 73
abbrev ni:Stmt:=top 74
abbrev gJ:Stmt:=top 75
abbrev ji:Stmt:=top 76
abbrev vK:Stmt:=top 77
abbrev iQ:Stmt:=vI 0 (top 36)
abbrev lK:Stmt:=vI 3 (top 36)
abbrev iR:Stmt:=vI 0 (top 42)
abbrev lL:Stmt:=vI 1 (top 42)
abbrev jD:Stmt:=vI 0 (top 45)
abbrev jE:Stmt:=vI 1 (top 45)
abbrev iT:Stmt:=vI 5 (top 45)
abbrev DN:Stmt:=initOf (top 3)
abbrev mC:Stmt:=initOf (top 4)
abbrev xF:Stmt:=initOf (top 5)
abbrev zQ:Stmt:=initOf (top 6)
abbrev uv:Stmt:=initOf (top 7)
abbrev vL:Stmt:=initOf (top 8)
local macro_rules | `(tactic| walk_at "s") => `(tactic| (with_reducible repeat (first | refine j4 ?_ | walk_at "0")))
local macro_rules | `(tactic| walk_at "n") => `(tactic| (with_reducible repeat (walk_at "0")))
def mx (i j:Int):Int:=if j > i then j else i
def lt (S P:List Nat) (i j:Nat):Int:=match i,j with
 | 0,_=>0
 | _+1,0=>0
 | i+1,j+1=>if S[i]?=P[j]? then mx (mx (lt S P i (j+1)) (lt S P (i+1) j)) (lt S P i j+1) else mx (lt S P i (j+1)) (lt S P (i+1) j)
termination_by i+j
theorem lt_0 (S P:List Nat) (j:Nat):lt S P 0 j=0:=by rw [lt]
theorem yw (S P:List Nat) (i:Nat):lt S P i 0=0:=by cases i <;> rw [lt]
theorem vM (S P:List Nat) (i j:Nat):lt S P (i+1) (j+1)=if S[i]?=P[j]? then mx (mx (lt S P i (j+1)) (lt S P (i+1) j)) (lt S P i j+1) else mx (lt S P i (j+1)) (lt S P (i+1) j):=by rw [lt]
def dR (S P:List Nat) (i n:Nat):List Int:=(List.range n).map (lt S P i)
theorem mD (S P:List Nat) (i n:Nat):(dR S P i n).length=n:=by simp [dR]
theorem DP {S P:List Nat} {i n j:Nat} (h:j < n):(dR S P i n)[j]?=some (lt S P i j):=by
 unfold dR
 rw [Wo,Xd h];rfl
theorem mF (S P:List Nat) (i n:Nat):dR S P i (n+1)=dR S P i n ++ [lt S P i n]:=by
 unfold dR
 rw [Xz,WT];rfl
mutual
def gA (m:Nat) (C:Nat->Nat->Bool) (i:Nat):Nat->Nat
 | 0=>m - 1 - i
 | j+1=>if C i j=true then gD m C j i else gA m C i j
termination_by j=>i+j
def gD (m:Nat) (C:Nat->Nat->Bool) (j:Nat):Nat->Nat
 | 0=>m+j
 | i+1=>if C i j=true then gA m C i j else gD m C j i
termination_by i=>i+j
end
section
variable {m:Nat} {C:Nat->Nat->Bool}
theorem jR (i:Nat):gA m C i 0=m - 1 - i:=by rw [gA]
theorem lw (i j:Nat):gA m C i (j+1)=if C i j=true then gD m C j i else gA m C i j:=by rw [gA]
theorem nj (j:Nat):gD m C j 0=m+j:=by rw [gD]
theorem jT (i j:Nat):gD m C j (i+1)=if C i j=true then gA m C i j else gD m C j i:=by rw [gD]
theorem zR (i far:Nat):∀ j,j<=far->((List.range j).map (fun l=>gD m C l (i+1)) ++ gA m C i j :: (List.range' j (far - j)).map (fun l=>gD m C l i)).Perm (gA m C i 0 :: (List.range far).map (fun l=>gD m C l i))
 | 0,_=>by rw [List.range_eq_range' (n:=far)];exact List.Perm.refl _
 | j+1,h=>by
  refine List.Perm.trans ?_ (zR i far j (by omega))
  rw [Xz,WT,Yo,show far - j=(far - (j+1))+1 by omega,List.range'_succ,Xh]
  refine List.Perm.append_left _ ?_
  show (gD m C j (i+1) :: gA m C i (j+1) :: _).Perm _
  rw [lw,jT]
  by_cases hc:C i j=true
  ·rw [if_pos hc,if_pos hc];exact List.Perm.refl _
  ·rw [if_neg hc,if_neg hc]
   exact List.Perm.swap _ _ _
theorem row_end (i far:Nat):((List.range far).map (fun l=>gD m C l (i+1)) ++ [gA m C i far]).Perm ((m - 1 - i) :: (List.range far).map (fun l=>gD m C l i)):=by
 have h:=zR (m:=m) (C:=C) i far far (Wq _)
 rw [X6,jR] at h
 exact h
theorem zU (far:Nat):∀ i,((List.range i).map (fun k=>gA m C k far) ++ (List.range far).map (fun l=>gD m C l i)).Perm ((List.range i).map (fun k=>m - 1 - k) ++ (List.range far).map (fun l=>m+l))
 | 0=>by
  simp only [List.range_zero,List.map_nil,List.nil_append,nj]
  exact List.Perm.refl _
 | i+1=>by
  have ih:=zU far i
  rw [Xz,WT,WT,Yo,Yo]
  refine List.Perm.trans (List.Perm.append_left _ (List.perm_append_comm.trans (row_end i far))) ?_
  show ((List.range i).map _ ++ ([m - 1 - i] ++ _)).Perm _
  refine List.Perm.trans (List.perm_append_comm_assoc _ _ _) ?_
  refine List.Perm.trans ?_ (List.perm_append_comm_assoc _ _ _)
  exact List.Perm.append_left _ ih
theorem sZ (far:Nat):((List.range m).map (fun k=>gA m C k far) ++ (List.range far).map (fun l=>gD m C l m)).Perm (List.range (m+far)):=by
 refine (zU far m).trans ?_
 rw [List.range_add]
 refine List.Perm.append_right _ ?_
 have e:(List.range m).map (fun k=>m - 1 - k)=(List.range m).reverse:=by
  refine List.ext_getElem (by simp) fun i h1 h2=>?_
  simp
 rw [e]
 exact List.reverse_perm _
end
def iU (z:Nat->Bool) (ab:List Int) (left:Int):Nat->List Int×Int
 | 0=>([],left)
 | j+1=>if z j=true then ((iU z ab left j).1 ++ [(iU z ab left j).2],ab.getD j 0) else ((iU z ab left j).1 ++ [ab.getD j 0],(iU z ab left j).2)
theorem zV (z:Nat->Bool) (ab:List Int) (left:Int):∀ j,(iU z ab left j).1.length=j
 | 0=>rfl
 | j+1=>by
  have ih:=zV z ab left j
  rw [iU]
  split <;> simp [ih]
def tD (m:Nat) (C:Nat->Nat->Bool) (far i:Nat):List Int:=(List.range far).map fun l=>((gD m C l i:Nat):Int)
def Gj (m:Nat) (C:Nat->Nat->Bool) (far i:Nat):List Int:=(List.range i).map fun k=>((gA m C k far:Nat):Int)
theorem Ca {m:Nat} {C:Nat->Nat->Bool} {far i j:Nat} (h:j < far):(tD m C far i).getD j 0=((gD m C j i:Nat):Int):=by
 unfold tD
 rw [Wu,Wo,Xd h];rfl
theorem RW {m:Nat} {C:Nat->Nat->Bool} {far i j:Nat} (h:j < i):(Gj m C far i)[j]?=some ((gA m C j far:Nat):Int):=by
 unfold Gj
 rw [Wo,Xd h];rfl
theorem Np {m:Nat} {C:Nat->Nat->Bool} {far i j:Nat} (h:j < far):(tD m C far i)[j]?=some ((gD m C j i:Nat):Int):=by
 unfold tD
 rw [Wo,Xd h];rfl
theorem yx {m:Nat} {C:Nat->Nat->Bool} {far i:Nat}:∀ j,j<=far->iU (C i) (tD m C far i) ((gA m C i 0:Nat):Int) j=(tD m C j (i+1),((gA m C i j:Nat):Int))
 | 0,_=>rfl
 | j+1,h=>by
  have ih:=yx (m:=m) (C:=C) (far:=far) (i:=i) j (by omega)
  rw [iU,ih,Ca (by omega),lw]
  have e:tD m C (j+1) (i+1)=tD m C j (i+1) ++ [((gD m C j (i+1):Nat):Int)]:=by unfold tD;rw [Xz,WT];rfl
  rw [e,jT]
  by_cases hc:C i j=true
  ·rw [if_pos hc,if_pos hc,if_pos hc]
  ·rw [if_neg hc,if_neg hc,if_neg hc]
theorem zW {m:Nat} {C:Nat->Nat->Bool} {far:Nat}:(∀ i,i < m->gA m C i far < m+far)/\∀ j,j < far->gD m C j m < m+far:=by
 have p:=sZ (m:=m) (C:=C) far
 refine ⟨fun i hi=>?_,fun j hj=>?_⟩
 ·exact Xe.mp (p.mem_iff.mp (YS _ (Xg.mpr ⟨i,Xe.mpr hi,rfl⟩)))
 ·exact Xe.mp (p.mem_iff.mp (Xn _ (Xg.mpr ⟨j,Xe.mpr hj,rfl⟩)))
theorem vN {m:Nat} {C:Nat->Nat->Bool} {far:Nat}:((List.range m).map (fun k=>gA m C k far) ++ (List.range far).map (fun l=>gD m C l m)).Nodup:=
 (sZ (m:=m) (C:=C) far).nodup_iff.mpr List.nodup_range
theorem Vt {m:Nat} {C:Nat->Nat->Bool} {far i k:Nat} (hi:i < m) (hk:k < m) (h:i≠k):gA m C i far≠gA m C k far:=by
 have n:=(YB.mp (vN (m:=m) (C:=C) (far:=far))).1
 have key:=Yt.mp n
 intro z
 rcases Nat.lt_or_gt_of_ne h with l | l
 ·exact key i k (by simpa using hi) (by simpa using hk) l (by simpa using z)
 ·exact key k i (by simpa using hk) (by simpa using hi) l (by simpa using z.symm)
theorem Vu {m:Nat} {C:Nat->Nat->Bool} {far i k:Nat} (hi:i < far) (hk:k < far) (h:i≠k):gD m C i m≠gD m C k m:=by
 have n:=(YB.mp (vN (m:=m) (C:=C) (far:=far))).2.1
 have key:=Yt.mp n
 intro z
 rcases Nat.lt_or_gt_of_ne h with l | l
 ·exact key i k (by simpa using hi) (by simpa using hk) l (by simpa using z)
 ·exact key k i (by simpa using hk) (by simpa using hi) l (by simpa using z.symm)
theorem Vv {m:Nat} {C:Nat->Nat->Bool} {far i j:Nat} (hi:i < m) (hj:j < far):gA m C i far≠gD m C j m:=
 (YB.mp (vN (m:=m) (C:=C) (far:=far))).2.2 _ (Xg.mpr ⟨i,Xe.mpr hi,rfl⟩) _ (Xg.mpr ⟨j,Xe.mpr hj,rfl⟩)
def qD (m:Nat) (C:Nat->Nat->Bool) (far:Nat) (R:List Int):Prop:=R.length=m+far/\(∀ j,j < far->R[gD m C j m]?=some (j:Int))/\∀ i,i < m->R[gA m C i far]?=some (((far+(m - 1 - i):Nat)):Int)
def pQ:Str:=Str.ofString "abcdefghijklmnopqrstuvwxyz"
def tE (l:Str) (c:Nat):Bool:=(Builtin.Str.occurrences l ⟨#[c]⟩ 0 l.length 1).isEmpty
def Nq:Sp:=fun vs H Q _=>∃ (a:Addr) (S:List Nat) (i c:Nat) (top:Str),vs=[.ref a,.str ⟨#[c]⟩,.str top]/\S[i]?=some c/\top.length<=48/\H a=some (.lst ((dR S top.cps.toList i (top.length+1)).map V.int))/\
 ∀ r H',H r=none->Same H H'->H' r=some (.lst ((dR S top.cps.toList (i+1) (top.length+1)).map V.int))->Q (.ref r) H'
def RX (K:W.Frag):Sp:=fun vs H Q _=>∃ (a:Addr) (ns:List Int) (k:Int),vs=[.ref a,.int k]/\SqL K H a (ns.map V.int)/\0<=k/\∀ n,Q (.int n) H
theorem over {H H':Hp} {r:Addr} {o:HO} (s:Same H H') (hn:H r=none):Same H (upd H' r o):=fun b u e=>by
 rw [aB (fun z=>by rw [z,hn] at e;cases e)];exact s b u e
theorem oR {S P:List Nat} {i n j:Nat} (h:j < n):rR ((dR S P i n).map V.int) (j:Int)=some (.int (lt S P i j)):=by
 refine dO ?_
 rw [Wo,DP h];rfl
def Thing (K:W.Frag) (H:Hp) (v:V):Prop:=(∃ z,v= .str z/\z.length<=5000)\/∃ T,TyOf K H v (.type T)/\PySem.W.kitOne K (.type T) (.type "str")=some false
def among (z l:Str):Bool:=z.cps.toList.all fun c=>!(Builtin.Str.occurrences l ⟨#[c]⟩ 0 l.length 1).isEmpty
def nP (v:V) (l:Str) (m:Int):Bool:=match v with
 | .str z=>decide ((z.length:Int)<=m) && among z l
 | _=>false
def spIs (K:W.Frag) (l:Str) (m:Int):Sp:=fun vs H Q _=>∃ (v:V),vs=[v]/\Thing K H v/\∀ H',Same H H'->Q (.bl (nP v l m)) H'
structure Txt (K:W.Frag) (mg:Str->Option Value):Prop where
 b_ValueError:mg "ValueError"=none
 b_all:mg "all"=none
 b_any:mg "any"=none
 b_bool:mg "bool"=none
 b_enumerate:mg "enumerate"=none
 b_int:mg "int"=none
 b_isinstance:mg "isinstance"=none
 b_len:mg "len"=none
 b_list:mg "list"=none
 b_max:mg "max"=none
 b_ord:mg "ord"=none
 b_range:mg "range"=none
 b_reversed:mg "reversed"=none
 b_str:mg "str"=none
 b_tuple:mg "tuple"=none
 b_zip:mg "zip"=none
 c_CROSS:∃ t,mg "CROSS"=some (.str "x" t)
 c_LETTERS:∃ t,mg "LETTERS"=some (.str "abcdefghijklmnopqrstuvwxyz" t)
 c_MOST_LETTERS:∃ t,mg "MOST_LETTERS"=some (.int 24 t)
 c_MOST_LINES:∃ t,mg "MOST_LINES"=some (.int 96 t)
 c_MOST_SIGNS:∃ t,mg "MOST_SIGNS"=some (.int 48 t)
 c_POINT:∃ t,mg "POINT"=some (.str "." t)
 c_TOUCH:∃ t,mg "TOUCH"=some (.str "o" t)
 d_is_number:Def K mg "is_number" oG
 d_is_within:Def K mg "is_within" oH
 d_is_span:Def K mg "is_span" sU
 d_need_place:Def K mg "need_place" mU
 d_need_span:Def K mg "need_span" oJ
 d_is_row:Def K mg "is_row" rF
 d_is_plain:Def K mg "is_plain" mV
 d_need_row:Def K mg "need_row" qw
 d_need_rows:Def K mg "need_rows" oK
 d_need_plain:Def K mg "need_plain" mW
 d_lines_above:Def K mg "lines_above" jg
 d_signs_of_row:Def K mg "signs_of_row" kj
 d_over_row:Def K mg "over_row" qx
 d_cells_of:Def K mg "cells_of" qy
 d_ends_of:Def K mg "ends_of" sV
 d_over_cells:Def K mg "over_cells" mX
 d_ways_of:Def K mg "ways_of" pH
 d_is_turning:Def K mg "is_turning" mY
 d_need_turning:Def K mg "need_turning" km
 d_counts:Def K mg "counts" rG
 d_need_window:Def K mg "need_window" lH
 d_asks_of:Def K mg "asks_of" sW
 d_lengths_below:Def K mg "lengths_below" jC
 d_lengths:Def K mg "lengths" sX
 d_thread_of:Def K mg "thread_of" oM
 d_pairs_of:Def K mg "pairs_of" qz
 d_heaps_of:Def K mg "heaps_of" mZ
 d_paper_of:Def K mg "paper_of" qC
 d_moved:Def K mg "moved" uN
 d_moved_heaps:Def K mg "moved_heaps" jh
 d_window_paper:Def K mg "window_paper" kE
 d_twice_lengths:Def K mg "twice_lengths" gP
 d_paper_of_cut:Def K mg "paper_of_cut" kI
 d_twice:Def K mg "twice" pI
 d_law_cell_at:Def K mg "_law_cell_at" lJ
 d_law_great:Def K mg "_law_great" oN
 d_law_letter:Def K mg "_law_letter" m5
 d_law_row:Def K mg "_law_row" sY
 d_law_list:Def K mg "_law_list" m7
 d_law_heaps:Def K mg "_law_heaps" oO
 d_law_new:Def K mg "_law_new" pJ
 d_law_heaps_at:Def K mg "_law_heaps_at" iG
 d_law_rising:Def K mg "_law_rising" m8
 d_law_same:Def K mg "_law_same" m9
 d_law_told:Def K mg "_law_told" ni
 d_law_lengths:Def K mg "_law_lengths" gJ
 d_law_refused:Def K mg "_law_refused" ji
 d_law:Def K mg "law" vK
 x_PaneError:FT K mg "PaneError"
 x_NoRow:rD K mg "NoRow" ["found"] "NoRow.__init__" DN
 x_NoPlain:rD K mg "NoPlain" ["found"] "NoPlain.__init__" mC
 x_NoPlace:rD K mg "NoPlace" ["found"] "NoPlace.__init__" xF
 x_NoSpan:rD K mg "NoSpan" ["begin","end"] "NoSpan.__init__" zQ
 x_NoTurning:rD K mg "NoTurning" ["found"] "NoTurning.__init__" uv
 x_NoWindow:rD K mg "NoWindow" ["found"] "NoWindow.__init__" vL
 o_Board:uC K mg "Board"
 n_Board:∀ f∈(["held_side","held_top","held_cells","held_coming","held_lines","held_ways"]:List Str),NoAttr K (aP mg "Board") f
 o_Tally:uC K mg "Tally"
 n_Tally:∀ f∈(["held_ends","held_counts"]:List Str),NoAttr K (aP mg "Tally") f
 o_Asks:uC K mg "Asks"
 n_Asks:∀ f∈(["held_tally","held_many","held_far"]:List Str),NoAttr K (aP mg "Asks") f
 m_Board___init__:pP K mg "Board" "__init__" "Board.__init__" iQ
 m_Board_lines:pP K mg "Board" "lines" "Board.lines" lK
 m_Tally___init__:pP K mg "Tally" "__init__" "Tally.__init__" iR
 m_Tally_below:pP K mg "Tally" "below" "Tally.below" lL
 m_Asks___init__:pP K mg "Asks" "__init__" "Asks.__init__" jD
 m_Asks_reckoned:pP K mg "Asks" "reckoned" "Asks.reckoned" jE
 m_Asks_beginning:pP K mg "Asks" "beginning" "Asks.beginning" iT
 u_NoPlain_PaneError:Sub K mg "NoPlain" "PaneError" true
 u_NoPlain_NoRow:Sub K mg "NoPlain" "NoRow" false
 u_NoPlain_NoPlain:Sub K mg "NoPlain" "NoPlain" true
 v_NoPlain:PySem.W.kitOne K (.ref (aP mg "NoPlain")) (.type "ValueError")=some true
section
variable {P:Program} {w:World} {K:W.Frag} {mg:Str->Option Value} {base:Heap}
theorem tG:(["column","many"]:List Str).Nodup:=by trivial
def Nr:Sp:=fun vs H Q _=>∃ m f:Nat,vs=[.int m,.int f]/\m<=48/\f<=48/\∀ D,H D=none->Q (.ref D) (upd H D (.lst (((List.range f).map fun l=>((m+l:Nat):Int)).map V.int)))
theorem vO:aF ["many","far"] ["many","far"] (az jg):=⟨rfl,rfl,rfl,by trivial,rfl,by trivial,by trivial⟩
theorem fY (T:Txt K mg):jN P w K mg base 1 "lines_above" ["many","far"] Nr:=by
 refine dZ T.d_lines_above vO (fun _ _ _ _ _ _ us hl=>L2.kW (fun _ _=>rfl) us hl) ?_ fun f cdv A outer s H vs Q E hr h=>?_
 ·rintro vs H Q E ⟨m,f,rfl,_⟩;rfl
 obtain ⟨m,f,rfl,hm,hf,q⟩:=h
 have hu:=hr.units0
 have hu64:=hr.units
 refine ⟨_,(aA (aK (gW (sub:=[none,some 0]) (bI (N:=["many","far"]) (sc:=az jg) (N':=["column","many"]) (by trivial)) rfl rfl rfl (dI aN T.b_range (aa (aq 1) ao)) (fun C s₀ H₀ ex=>(kY 0 (by trivial) tG)) (fun C s₀ H₀ ex=>dq) (fun C s₀ H₀ ex=>(aZ aV (nO 1 (by trivial)) (fZ 0 (by trivial))))))),?_⟩
 walk_at "s"
 refine ⟨_,rfl,by omega,by omega,?_⟩
 refine rn (n:=f) (fun i ys H'=>H'=H/\ys=((List.range i).map fun l=>((m+l:Nat):Int)).map V.int) (WY hf (by decide)) ⟨rfl,rfl⟩ ?_ ?_ ?_
 ·rintro i ys H' ⟨_,rfl⟩
  simp
 ·rintro i ys H' hi ⟨rfl,rfl⟩
  walk_at "s"
  refine ⟨KeepSt.set rfl,?_⟩
  walk_at "s"
  refine ⟨rfl,?_⟩
  rw [Xz,WT,WT]
  simp
 ·rintro ys H' ⟨rfl,rfl⟩ D hD
  walk_at "s"
  exact q D hD
def PrI (H:Hp):List V->List (Int×Int)->Prop
 | [],[]=>True
 | v :: vs,(x,y) :: L=>(∃ p,v= .ref p/\H p=some (.tup [.int x,.int y]))/\PrI H vs L
 | _,_=>False
theorem PrI.imp {H H':Hp} (h:∀ p us,H p=some (.tup us)->H' p=some (.tup us)):∀ {ws:List V} {L:List (Int×Int)},PrI H ws L->PrI H' ws L
 | [],[],_=>trivial
 | v :: vs,(x,y) :: L,⟨⟨p,e,hp⟩,r⟩=>⟨⟨p,e,h _ _ hp⟩,PrI.imp h r⟩
 | [],_ :: _,z=>z.elim
 | _ :: _,[],z=>z.elim
theorem PrI.same {H H':Hp} {ws:List V} {L:List (Int×Int)} (h:PrI H ws L) (s:Same H H'):PrI H' ws L:=h.imp fun p us e=>s _ _ e
theorem PrI.upd {H:Hp} {ws us:List V} {L:List (Int×Int)} {f:Addr} {o:HO} (h:PrI H ws L) (hf:H f=some (.lst us)):PrI (upd H f o) ws L:=h.imp fun p vs e=>by rw [aB (fun z=>by rw [z,hf] at e;cases e)];exact e
theorem PrI.push {H:Hp} {p:Addr} {x y:Int} (hp:H p=some (.tup [.int x,.int y])):∀ {ws:List V} {L:List (Int×Int)},PrI H ws L->PrI H (ws ++ [.ref p]) (L ++ [(x,y)])
 | [],[],_=>⟨⟨p,rfl,hp⟩,trivial⟩
 | v :: vs,(x,y) :: L,⟨a,r⟩=>⟨a,PrI.push hp r⟩
 | [],_ :: _,z=>z.elim
 | _ :: _,[],z=>z.elim
theorem PrI.len {H:Hp}:∀ {ws:List V} {L:List (Int×Int)},PrI H ws L->ws.length=L.length
 | [],[],_=>rfl
 | v :: vs,(x,y) :: L,⟨_,r⟩=>congrArg (· +1) (PrI.len r)
 | [],_ :: _,z=>z.elim
 | _ :: _,[],z=>z.elim
theorem PrI.get {H:Hp}:∀ {ws:List V} {L:List (Int×Int)} {k:Nat} {q:Int×Int},PrI H ws L->L[k]?=some q->∃ r,ws[k]?=some (.ref r)/\H r=some (.tup [.int q.1,.int q.2])
 | v :: vs,(x,y) :: L,0,q,⟨⟨p,e,hp⟩,_⟩,h=>by
  have h':(x,y)=q:=by simpa using h
  subst h'
  exact ⟨p,by rw [e];rfl,hp⟩
 | v :: vs,(x,y) :: L,k+1,q,⟨_,r⟩,h=>by
  obtain ⟨a,h1,h2⟩:=PrI.get (k:=k) r (by simpa using h)
  exact ⟨a,by simpa using h1,h2⟩
 | [],[],k,q,_,h=>by simp at h
 | [],_ :: _,_,_,z,_=>z.elim
 | _ :: _,[],_,_,z,_=>z.elim
def zX (z:Nat->Bool) (ab:List Int) (left:Int) (n:Nat):List (Int×Int):=(List.range n).map fun j=>((iU z ab left j).2,ab.getD j 0)
theorem Gk (z:Nat->Bool) (ab:List Int) (left:Int) (n:Nat):zX z ab left (n+1)=zX z ab left n ++ [((iU z ab left n).2,ab.getD n 0)]:=by unfold zX;rw [Xz,WT];rfl
def vP (z:Str) (j:Nat):Bool:=decide ((⟨#[z.cps.getD j 0]⟩:Str)=Str.ofString "o")
def RZ:Sp:=fun vs H Q _=>∃ (z:Str) (left:Int) (a:Addr) (ab:List Int),vs=[.str z,.int left,.ref a]/\H a=some (.lst (ab.map V.int))/\z.cps.size=ab.length/\ab.length<=48/\
 ∀ t c b H',H b=none->H c=none->Same H H'->H' t=some (.tup [.ref c,.ref b,.int (iU (vP z) ab left ab.length).2])->H' b=some (.lst ((iU (vP z) ab left ab.length).1.map V.int))->(∃ cs,H' c=some (.lst cs)/\PrI H' cs (zX (vP z) ab left ab.length))->Q (.ref t) H'
theorem ik:aF ["signs","left","above","coming","below","sign","line"] ["signs","left","above"] (az qx):=⟨rfl,rfl,rfl,by trivial,rfl,by trivial,by trivial⟩
theorem iV (T:Txt K mg):jN P w K mg base 1 "over_row" ["signs","left","above"] RZ:=by
 refine dZ T.d_over_row ik (fun _ _ _ _ _ _ us hl=>L2.pN (fun _ _ _=>rfl) us hl) ?_ fun f cdv A outer s H vs Q E hr h=>?_
 ·rintro vs H Q E ⟨z,left,a,ab,rfl,_⟩;rfl
 obtain ⟨z,left,a,ab,rfl,ha,hz,hl,q⟩:=h
 have hu:=hr.units0
 have hu64:=hr.units
 refine ⟨_,(au (aJ (i:=3) ik.nd rfl bT (dU ao) rfl) (au (aJ (i:=4) ik.nd rfl bT (dU ao) rfl) (au (du Xa rfl (Jm (K:=K) rfl rfl aN T.b_zip (aa (aq 0) (aa (aq 2) ao))) (jB (K:=K) rfl rfl (bw (aY (i:=5) ik.nd rfl bT rfl) (bw (aY (i:=6) ik.nd rfl bT rfl) gO))) (au (aL (bL (K:=K) rfl Wv Wy Wz aW (aq 3) (aa (gw (aa (aq 1) (aa (aq 6) ao))) ao))) (aA (bM (bu (BJ (K:=K) rfl hu64) (aq 5) (su aN T.c_TOUCH (by trivial)) (by walk_at "p")) (au (aL (bL (K:=K) rfl Wv Wy Wz aW (aq 4) (aa (aq 1) ao))) (aA (aJ (i:=1) ik.nd rfl bT (aq 6) rfl))) (aA (aL (bL (K:=K) rfl Wv Wy Wz aW (aq 4) (aa (aq 6) ao)))))))) (aA (aK (gw (aa (aq 3) (aa (aq 4) (aa (aq 1) ao))))))))),?_⟩
 walk_at "s"
 refine jL rfl fun C nC=>?_
 walk_at "s"
 refine jL rfl fun B nB=>?_
 have nBH:H B=none:=((Same.refl H).upd nC).free nB
 have nCB:C≠B:=fun z=>by rw [z,aj] at nB;cases nB
 have e0:upd (upd H C (.lst [])) B (.lst []) C=some (.lst []):=by rw [aB nCB];exact aj
 have S0:Same H (upd (upd H C (.lst [])) B (.lst [])):=((Same.refl H).upd nC).upd nB
 walk_at "s"
 refine ⟨z,a,ab.map V.int,rfl,SqL.of (S0 _ _ ha),?_⟩
 refine Gh (ys:=ab.map V.int) (fun j U H'=>Same H H'/\(∃ cs,H' C=some (.lst cs)/\cs.length=j/\PrI H' cs (zX (vP z) ab left j))/\H' B=some (.lst ((iU (vP z) ab left j).1.map V.int))/\
   ∃ x5 x6,U=[some (.str z),some (.int (iU (vP z) ab left j).2),some (.ref a),some (.ref C),some (.ref B),x5,x6])
  (by rw [Ws];exact hz) ⟨S0,⟨[],e0,rfl,trivial⟩,aj,none,none,rfl⟩ (fun i U H' _ h=>SqL.of (h.1 _ _ ha)) ?_ ?_
 ·rintro j U H1 T0 y hy ⟨S1,⟨cs,hC,hcs,hW⟩,hB,x5,x6,rfl⟩ nT
  obtain ⟨n,hn,rfl⟩:∃ n,ab[j]?=some n/\y=V.int n:=by
   rw [Wo] at hy
   cases e:ab[j]? with
   | none=>rw [e] at hy;cases hy
   | some n=>rw [e] at hy;exact ⟨n,rfl,(WR hy).symm⟩
  have hj:j < ab.length:=(Wm.mp hn).1
  have en:ab.getD j 0=n:=by rw [Wu,hn];rfl
  refine bj (xs:=[.str ⟨#[z.cps.getD j 0]⟩,.int n]) (SqT.of aj) rfl ?_
  have hC2:=aX nT hC (o:=.tup [.str ⟨#[z.cps.getD j 0]⟩,.int n])
  have hB2:=aX nT hB (o:=.tup [.str ⟨#[z.cps.getD j 0]⟩,.int n])
  have hW2:=hW.same ((Same.refl H1).upd nT (o:=.tup [.str ⟨#[z.cps.getD j 0]⟩,.int n]))
  have S2:=S1.upd nT (o:=.tup [.str ⟨#[z.cps.getD j 0]⟩,.int n])
  generalize upd H1 T0 (.tup [.str ⟨#[z.cps.getD j 0]⟩,.int n])=H2 at hC2 hB2 S2 hW2 ⊢
  have hs:100<=sizeLine:=by decide
  walk_at "s"
  refine ⟨.inl ⟨rfl,_,SqL.of hC2⟩,?_⟩
  walk_at "s"
  refine jL rfl fun p np=>?_
  have hC3:=aX np hC2 (o:=.tup [.int (iU (vP z) ab left j).2,.int n])
  have hB3:=aX np hB2 (o:=.tup [.int (iU (vP z) ab left j).2,.int n])
  have S3:=S2.upd np (o:=.tup [.int (iU (vP z) ab left j).2,.int n])
  have hW3:PrI (upd H2 p (.tup [.int (iU (vP z) ab left j).2,.int n])) (cs ++ [.ref p]) (zX (vP z) ab left (j+1)):=by
   rw [Gk,en]
   exact (hW2.same ((Same.refl H2).upd np)).push aj
  generalize upd H2 p (.tup [.int (iU (vP z) ab left j).2,.int n])=H3 at hC3 hB3 S3 hW3 ⊢
  walk_at "s"
  refine aQ hC3 (by omega) ?_
  have S4:=over (o:=.lst (cs ++ [.ref p])) S3 nC
  have hC4:upd H3 C (.lst (cs ++ [.ref p])) C=some (.lst (cs ++ [.ref p])):=aj
  have hB4:upd H3 C (.lst (cs ++ [.ref p])) B=some (.lst ((iU (vP z) ab left j).1.map V.int)):=by rw [aB nCB.symm];exact hB3
  have hW4:=hW3.upd hC3 (o:=.lst (cs ++ [.ref p]))
  generalize upd H3 C (.lst (cs ++ [.ref p]))=H4 at hC4 hB4 S4 hW4 ⊢
  have hlB:((iU (vP z) ab left j).1.map V.int).length < sizeLine:=by rw [Ws,zV];omega
  walk_at "s"
  refine iJ (fun hk=>?_) (fun hk=>?_)
  ·have hk':vP z j=true:=W0 (V.str.inj hk)
   walk_at "s"
   refine ⟨.inl ⟨rfl,_,SqL.of hB4⟩,?_⟩
   walk_at "s"
   refine aQ hB4 hlB ?_
   walk_at "s"
   refine ⟨over S4 nBH,⟨cs ++ [.ref p],by rw [aB nCB];exact hC4,by simp [hcs],hW4.upd hB4⟩,?_,some (.str ⟨#[z.cps.getD j 0]⟩),some (.int n),?_⟩
   ·rw [aj,iU,if_pos hk',WT];rfl
   ·rw [iU,if_pos hk',en];rfl
  ·have hk':¬ vP z j=true:=fun h=>hk (congrArg V.str (of_decide_eq_true h))
   walk_at "s"
   refine ⟨.inl ⟨rfl,_,SqL.of hB4⟩,?_⟩
   walk_at "s"
   refine aQ hB4 hlB ?_
   refine ⟨over S4 nBH,⟨cs ++ [.ref p],by rw [aB nCB];exact hC4,by simp [hcs],hW4.upd hB4⟩,?_,some (.str ⟨#[z.cps.getD j 0]⟩),some (.int n),?_⟩
   ·rw [aj,iU,if_neg hk',en,WT];rfl
   ·rw [iU,if_neg hk'];rfl
 ·rintro U H1 ⟨S1,⟨cs,hC,hcs,hW⟩,hB,x5,x6,rfl⟩
  rw [Ws] at hB hW
  walk_at "s"
  refine jL rfl fun p np=>?_
  walk_at "s"
  rw [Ws]
  exact q p C B _ nBH nC (S1.upd np) aj (aX np hB) ⟨cs,aX np hC,hW.same ((Same.refl H1).upd np)⟩
def R0:Sp:=fun vs H Q _=>∃ (m far:Nat) (C:Nat->Nat->Bool) (b r:Addr),vs=[.ref b,.ref r]/\m<=48/\far<=48/\H b=some (.lst ((tD m C far m).map V.int))/\H r=some (.lst ((Gj m C far m).map V.int))/\
 ∀ e R H',H e=none->Same H H'->qD m C far R->H' e=some (.lst (R.map V.int))->Q (.ref e) H'
theorem Pn {n k:Nat} (h:k < n):Df n (k:Int)=some k:=by
 unfold Df
 rw [if_pos (by omega),if_pos (by omega)];rfl
theorem R1 (n:Nat):(List.replicate n [V.int 0]).flatten=(List.replicate n (0:Int)).map V.int:=by
 induction n with
 | zero=>rfl
 | succ n ih=>rw [Yq,Ye,ih,Yq];rfl
theorem iW:aF ["below","right","ends","column","line","place"] ["below","right"] (az sV):=⟨rfl,rfl,rfl,by trivial,rfl,by trivial,by trivial⟩
theorem tH (T:Txt K mg):jN P w K mg base 1 "ends_of" ["below","right"] R0:=by
 refine dZ T.d_ends_of iW (fun _ _ _ _ _ _ us hl=>L2.kW (fun _ _=>rfl) us hl) ?_ fun f cdv A outer s H vs Q E hr h=>?_
 ·rintro vs H Q E ⟨m,far,C,b,r,rfl,_⟩;rfl
 obtain ⟨m,far,C,b,r,rfl,hm,hf,hb,hr',q⟩:=h
 have hu:=hr.units0
 have hu64:=hr.units
 refine ⟨_,(au (aJ (i:=2) iW.nd rfl bT (aZ jO (dU (aa aC ao)) (aZ aV (aD (aG (K:=K) rfl) aN T.b_len bc (aa (aq 0) ao) (by trivial) (by trivial)) (aD (aG (K:=K) rfl) aN T.b_len bc (aa (aq 1) ao) (by trivial) (by trivial)))) rfl) (au (du Xa rfl (jQ (K:=K) rfl rfl aN T.b_enumerate (aa (aq 0) ao)) (jB (K:=K) rfl rfl (bw (aY (i:=3) iW.nd rfl bT rfl) (bw (aY (i:=4) iW.nd rfl bT rfl) gO))) (aA (uJ (ts:=wX) (aq 3) (yg (aq 2) (aq 4) set_list)))) (au (du Xa rfl (BW (K:=K) rfl aN T.b_enumerate aN T.b_reversed (aq 1)) (jB (K:=K) rfl rfl (bw (aY (i:=5) iW.nd rfl bT rfl) (bw (aY (i:=4) iW.nd rfl bT rfl) gO))) (aA (uJ (ts:=wX) (aZ aV (aD (aG (K:=K) rfl) aN T.b_len bc (aa (aq 0) ao) (by trivial) (by trivial)) (aq 5)) (yg (aq 2) (aq 4) set_list)))) (aA (aK (aq 2)))))),?_⟩
 walk_at "s"
 have hs:1000<=sizeLine:=by decide
 have lb:((tD m C far m).map V.int).length=far:=by simp [tD]
 have lr:((Gj m C far m).map V.int).length=m:=by simp [Gj]
 refine ⟨by decide,fun z nz=>?_⟩
 walk_at "s"
 refine gU (SqL.of (aX nz hb)) ?_
 rw [lb]
 walk_at "s"
 refine gU (SqL.of (aX nz hr')) ?_
 rw [lr]
 walk_at "s"
 have eN:((far:Int)+(m:Int)).toNat=m+far:=by omega
 refine yh aj (by omega) (by omega) (by rw [eN];simp;omega) fun e ne=>?_
 rw [eN,R1]
 have neH:H e=none:=((Same.refl H).upd nz).free ne
 have S0:=((Same.refl H).upd (o:=.lst [.int 0]) nz).upd (o:=.lst ((List.replicate (m+far) (0:Int)).map V.int)) ne
 have e0:=aj (H:=upd H z (.lst [.int 0])) (a:=e) (o:=.lst ((List.replicate (m+far) (0:Int)).map V.int))
 generalize upd (upd H z (.lst [.int 0])) e (.lst ((List.replicate (m+far) (0:Int)).map V.int))=H1 at S0 e0 ⊢
 have nbe:b≠e:=fun z=>by rw [z,neH] at hb;cases hb
 have nre:r≠e:=fun z=>by rw [z,neH] at hr';cases hr'
 walk_at "s"
 refine .inr ⟨b,_,rfl,SqL.of (S0 _ _ hb),?_⟩
 refine pA (xs:=(tD m C far m).map V.int) (fun j U H'=>Same H H'/\(∃ R:List Int,H' e=some (.lst (R.map V.int))/\R.length=m+far/\∀ l,l < j->R[gD m C l m]?=some (l:Int))/\∃ x3 x4 x5,U=[some (.ref b),some (.ref r),some (.ref e),x3,x4,x5])
  ⟨S0,⟨_,e0,by simp,fun l hl=>absurd hl (by omega)⟩,none,none,none,rfl⟩ (fun i U H' _ h=>SqL.of (h.1 _ _ hb)) ?_ ?_
 ·rintro j U H2 T0 x hx ⟨S2,⟨R,hR,lR,gR⟩,x3,x4,x5,rfl⟩ nT
  have hj:j < far:=by
   have:=(Wm.mp hx).1
   rw [lb] at this;exact this
  obtain rfl:x=V.int ((gD m C j m:Nat):Int):=by
   rw [Wo,Np hj] at hx
   exact (WR hx).symm
  have hlt:=zW (m:=m) (C:=C) (far:=far) |>.2 j hj
  refine bj (xs:=[.int j,.int ((gD m C j m:Nat):Int)]) (SqT.of aj) rfl ?_
  have hR2:=aX nT hR (o:=.tup [.int j,.int ((gD m C j m:Nat):Int)])
  have S3:=S2.upd nT (o:=.tup [.int j,.int ((gD m C j m:Nat):Int)])
  generalize upd H2 T0 (.tup [.int j,.int ((gD m C j m:Nat):Int)])=H3 at hR2 S3 ⊢
  walk_at "s"
  refine bN hR2 (Pn (by rw [Ws,lR];exact hlt)) ?_
  rw [← List.map_set]
  refine ⟨over S3 neH,⟨R.set (gD m C j m) j,aj,by simp [lR],fun l hl=>?_⟩,some (.int j),some (.int ((gD m C j m:Nat):Int)),x5,rfl⟩
  by_cases hlj:l=j
  ·subst hlj
   rw [XS (by omega)]
  ·rw [XF (Vu (m:=m) (C:=C) (far:=far) hj (by omega) (fun z=>hlj z.symm))]
   exact gR l (by omega)
 ·rintro U H2 ⟨S2,⟨R,hR,lR,gR⟩,x3,x4,x5,rfl⟩
  rw [lb] at gR
  walk_at "s"
  refine ⟨r,(Gj m C far m).map V.int,rfl,SqL.of (S2 _ _ hr'),?_⟩
  refine Ge (xs:=(Gj m C far m).map V.int) (fun j U H'=>Same H H'/\(∃ R:List Int,H' e=some (.lst (R.map V.int))/\R.length=m+far/\(∀ l,l < far->R[gD m C l m]?=some (l:Int))/\∀ l,l < j->R[gA m C (m - 1 - l) far]?=some ((far+l:Nat):Int))/\∃ x3 x4 x5,U=[some (.ref b),some (.ref r),some (.ref e),x3,x4,x5])
   ⟨S2,⟨R,hR,lR,gR,fun l hl=>absurd hl (by omega)⟩,_,_,_,rfl⟩ (fun i U H' _ h=>SqL.of (h.1 _ _ hr')) ?_ ?_
  ·rintro j U H3 T0 x hj hx ⟨S3,⟨R,hR,lR,gR,aR⟩,x3,x4,x5,rfl⟩ nT
   rw [lr] at hj hx
   obtain rfl:x=V.int ((gA m C (m - 1 - j) far:Nat):Int):=by
    rw [Wo,RW (by omega)] at hx
    exact (WR hx).symm
   have hlt:=zW (m:=m) (C:=C) (far:=far) |>.1 (m - 1 - j) (by omega)
   refine bj (xs:=[.int j,.int ((gA m C (m - 1 - j) far:Nat):Int)]) (SqT.of aj) rfl ?_
   have hR2:=aX nT hR (o:=.tup [.int j,.int ((gA m C (m - 1 - j) far:Nat):Int)])
   have S4:=S3.upd nT (o:=.tup [.int j,.int ((gA m C (m - 1 - j) far:Nat):Int)])
   generalize upd H3 T0 (.tup [.int j,.int ((gA m C (m - 1 - j) far:Nat):Int)])=H4 at hR2 S4 ⊢
   walk_at "s"
   refine gU (SqL.of (S4 _ _ hb)) ?_
   rw [lb]
   walk_at "s"
   refine bN hR2 (Pn (by rw [Ws,lR];exact hlt)) ?_
   rw [← List.map_set]
   refine ⟨over S4 neH,⟨R.set (gA m C (m - 1 - j) far) ((far:Int)+j),aj,by simp [lR],fun l hl=>?_,fun l hl=>?_⟩,x3,some (.int ((gA m C (m - 1 - j) far:Nat):Int)),some (.int j),rfl⟩
   ·rw [XF (Vv (m:=m) (C:=C) (far:=far) (by omega) hl)]
    exact gR l hl
   ·by_cases hlj:l=j
    ·subst hlj
     rw [XS (by omega)]
     congr 1
    ·rw [XF (Vt (m:=m) (C:=C) (far:=far) (by omega) (by omega) (by omega))]
     exact aR l (by omega)
  ·rintro U H3 ⟨S3,⟨R,hR,lR,gR,aR⟩,x3,x4,x5,rfl⟩
   rw [lr] at aR
   walk_at "s"
   refine q e R H3 neH S3 ⟨lR,gR,fun i hi=>?_⟩ hR
   have:=aR (m - 1 - i) (by omega)
   rw [show m - 1 - (m - 1 - i)=i by omega] at this
   exact this
def cC (rows:List Str) (i:Nat):Nat->Bool:=vP (rows.getD i ⟨#[]⟩)
def zY (m:Nat) (C:Nat->Nat->Bool) (far i:Nat):List (Int×Int):=(List.range far).map fun j=>(((gA m C i j:Nat):Int),((gD m C j i:Nat):Int))
def Cmg (H:Hp) (P:Addr->Prop) (m:Nat) (C:Nat->Nat->Bool) (far:Nat) (cs:List V) (n:Nat):Prop:=cs.length=n/\∀ i,i < n->∃ c ws,cs[i]?=some (.ref c)/\P c/\H c=some (.lst ws)/\PrI H ws (zY m C far i)
theorem Cmg.imp {H H':Hp} {P P':Addr->Prop} {m:Nat} {C:Nat->Nat->Bool} {far:Nat} {cs:List V} {n:Nat} (h:Cmg H P m C far cs n) (ht:∀ p us,H p=some (.tup us)->H' p=some (.tup us)) (hl:∀ c ws,P c->H c=some (.lst ws)->H' c=some (.lst ws)) (hp:∀ c,P c->P' c):Cmg H' P' m C far cs n:=
 ⟨h.1,fun i hi=>by
  obtain ⟨c,ws,e1,e2,e3,e4⟩:=h.2 i hi
  exact ⟨c,ws,e1,hp c e2,hl c ws e2 e3,e4.imp ht⟩⟩
theorem Cmg.same {H H':Hp} {P:Addr->Prop} {m:Nat} {C:Nat->Nat->Bool} {far:Nat} {cs:List V} {n:Nat} (h:Cmg H P m C far cs n) (s:Same H H'):Cmg H' P m C far cs n:=h.imp (fun p us e=>s _ _ e) (fun c ws _ e=>s _ _ e) fun _ z=>z
theorem Cmg.push {H:Hp} {P:Addr->Prop} {m:Nat} {C:Nat->Nat->Bool} {far:Nat} {cs:List V} {n:Nat} {c:Addr} {ws:List V} (h:Cmg H P m C far cs n) (hP:P c) (hc:H c=some (.lst ws)) (hw:PrI H ws (zY m C far n)):Cmg H P m C far (cs ++ [.ref c]) (n+1):=by
 refine ⟨by rw [Xl,h.1];rfl,fun i hi=>?_⟩
 by_cases e:i=n
 ·subst e
  exact ⟨c,ws,by rw [WN (by rw [h.1];exact Wq _),h.1,X6];rfl,hP,hc,hw⟩
 ·obtain ⟨d,us,e1,e2⟩:=h.2 i (by omega)
  exact ⟨d,us,by rw [WM (by rw [h.1];omega)];exact e1,e2⟩
theorem Cmg.upd {H:Hp} {P:Addr->Prop} {m:Nat} {C:Nat->Nat->Bool} {far:Nat} {cs us:List V} {n:Nat} {f:Addr} {o:HO} (h:Cmg H P m C far cs n) (hf:H f=some (.lst us)) (hP:∀ c,P c->c≠f):Cmg (upd H f o) P m C far cs n:=
 h.imp (fun p vs e=>by rw [aB (fun z=>by rw [z,hf] at e;cases e)];exact e) (fun c ws pc e=>by rw [aB (hP c pc)];exact e) fun _ z=>z
def Nt:Sp:=fun vs H Q _=>∃ (m far:Nat) (rows:List Str) (c:Addr),vs=[.int m,.int far,.ref c]/\H c=some (.lst (rows.map V.str))/\rows.length=m/\m<=48/\far<=48/\(∀ z∈rows,z.cps.size=far)/\
 ∀ t cm e R H',H e=none->Same H H'->H' t=some (.tup [.ref cm,.ref e])->qD m (cC rows) far R->H' e=some (.lst (R.map V.int))->(∃ cs,H' cm=some (.lst cs)/\Cmg H' (fun _=>True) m (cC rows) far cs m)->Q (.ref t) H'
theorem R3 {m:Nat} {C:Nat->Nat->Bool} {far i:Nat}:zX (C i) (tD m C far i) ((gA m C i 0:Nat):Int) far=zY m C far i:=by
 unfold zX zY
 refine YG fun j hj=>?_
 have hj':=Xe.mp hj
 rw [yx j (by omega),Ca hj']
theorem JF {m:Nat} {C:Nat->Nat->Bool} {far:Nat}:tD m C far 0=(List.range far).map fun l=>((m+l:Nat):Int):=by
 unfold tD
 simp only [nj]
theorem uO {m:Nat} {C:Nat->Nat->Bool} {far i:Nat}:(tD m C far i).length=far:=by simp [tD]
theorem Nu {m:Nat} {C:Nat->Nat->Bool} {far i:Nat}:(Gj m C far i).length=i:=by simp [Gj]
theorem dF:aF ["many","far","cells","above","coming","right","row","signs","gone"] ["many","far","cells"] (az mX):=⟨rfl,rfl,rfl,by trivial,rfl,by trivial,by trivial⟩
theorem nq (T:Txt K mg):jN P w K mg base 2 "over_cells" ["many","far","cells"] Nt:=by
 have fY:=fY (P:=P) (w:=w) (base:=base) T
 have iV:=iV (P:=P) (w:=w) (base:=base) T
 have tH:=tH (P:=P) (w:=w) (base:=base) T
 refine dZ T.d_over_cells dF (fun _ _ _ _ _ _ us hl=>L2.pN (fun _ _ _=>rfl) us hl) ?_ fun f cdv A outer s H vs Q E hr h=>?_
 ·rintro vs H Q E ⟨m,far,rows,c,rfl,_⟩;rfl
 obtain ⟨m,far,rows,c,rfl,hc,hr',hm,hf,hz,q⟩:=h
 have hu:=hr.units0
 have hu64:=hr.units
 refine ⟨_,(au (aJ (i:=3) dF.nd rfl bT (aH fY (hr.mono (by decide)) aN (aa (aq 0) (aa (aq 1) ao)) (by trivial)) rfl) (au (aJ (i:=4) dF.nd rfl bT (dU ao) rfl) (au (aJ (i:=5) dF.nd rfl bT (dU ao) rfl) (au (du Xa rfl (jQ (K:=K) rfl rfl aN T.b_enumerate (aa (aq 2) ao)) (jB (K:=K) rfl rfl (bw (aY (i:=6) dF.nd rfl bT rfl) (bw (aY (i:=7) dF.nd rfl bT rfl) gO))) (au (aJ (i:=8) dF.nd rfl bT (aH iV (hr.mono (by decide)) aN (aa (aq 7) (aa (aZ gQ (aZ gQ (aq 0) aC) (aq 6)) (aa (aq 3) ao))) (by trivial)) rfl) (au (aL (bL (K:=K) rfl Wv Wy Wz aW (aq 4) (aa (bf (K:=K) rfl (aq 8) aC) ao))) (au (aJ (i:=3) dF.nd rfl bT (bf (K:=K) rfl (aq 8) aC) rfl) (aA (aL (bL (K:=K) rfl Wv Wy Wz aW (aq 5) (aa (bf (K:=K) rfl (aq 8) aC) ao)))))))) (aA (aK (gw (aa (aq 4) (aa (aH tH (hr.mono (by decide)) aN (aa (aq 3) (aa (aq 5) ao)) (by trivial)) ao))))))))),?_⟩
 walk_at "s"
 have hs:1000<=sizeLine:=by decide
 refine ⟨m,far,rfl,hm,hf,fun A0 nA=>?_⟩
 rw [← JF (C:=cC rows)]
 have SA:=(Same.refl H).upd nA (o:=.lst ((tD m (cC rows) far 0).map V.int))
 have eA:=aj (H:=H) (a:=A0) (o:=.lst ((tD m (cC rows) far 0).map V.int))
 generalize upd H A0 (.lst ((tD m (cC rows) far 0).map V.int))=H1 at SA eA ⊢
 walk_at "s"
 refine jL rfl fun CM nC=>?_
 have SC:=SA.upd nC (o:=.lst [])
 have eC:=aj (H:=H1) (a:=CM) (o:=.lst [])
 have eA2:=aX nC eA (o:=.lst [])
 have nCH:=SA.free nC
 generalize upd H1 CM (.lst [])=H2 at SC eC eA2 ⊢
 walk_at "s"
 refine jL rfl fun RT nR=>?_
 have SR:=SC.upd nR (o:=.lst [])
 have eR:=aj (H:=H2) (a:=RT) (o:=.lst [])
 have eA3:=aX nR eA2 (o:=.lst [])
 have eC3:=aX nR eC (o:=.lst [])
 have nRH:=SC.free nR
 have nCR:CM≠RT:=fun z=>by rw [z,nR] at eC;cases eC
 generalize upd H2 RT (.lst [])=H3 at SR eR eA3 eC3 ⊢
 walk_at "s"
 refine .inr ⟨c,_,rfl,SqL.of (SR _ _ hc),?_⟩
 refine pA (xs:=rows.map V.str) (fun i U H'=>Same H H'/\(∃ cs,H' CM=some (.lst cs)/\cs.length=i/\Cmg H' (fun c=>c≠CM/\c≠RT) m (cC rows) far cs i)/\H' RT=some (.lst ((Gj m (cC rows) far i).map V.int))/\
   ∃ a x6 x7 x8,H' a=some (.lst ((tD m (cC rows) far i).map V.int))/\a≠CM/\a≠RT/\U=[some (.int m),some (.int far),some (.ref c),some (.ref a),some (.ref CM),some (.ref RT),x6,x7,x8])
  ⟨SR,⟨[],eC3,rfl,rfl,fun i hi=>absurd hi (Nat.not_lt_zero _)⟩,eR,A0,none,none,none,eA3,(fun z=>by rw [z,nC] at eA;cases eA),(fun z=>by rw [z,nR] at eA2;cases eA2),rfl⟩ (fun i U H' _ h=>SqL.of (h.1 _ _ hc)) ?_ ?_
 ·rintro i U H4 T0 x hx ⟨S4,⟨cs,hC,hcs,hG⟩,hR,a,x6,x7,x8,ha,nac,nar,rfl⟩ nT
  have hi:i < rows.length:=by
   have:=(Wm.mp hx).1
   simpa using this
  obtain ⟨z,hzi,rfl⟩:∃ z,rows[i]?=some z/\x=V.str z:=by
   rw [Wo] at hx
   cases e:rows[i]? with
   | none=>rw [e] at hx;cases hx
   | some n=>rw [e] at hx;exact ⟨n,rfl,(WR hx).symm⟩
  have ez:rows.getD i ⟨#[]⟩=z:=by rw [Wu,hzi];rfl
  refine bj (xs:=[.int i,.str z]) (SqT.of aj) rfl ?_
  have hC5:=aX nT hC (o:=.tup [.int i,.str z])
  have hR5:=aX nT hR (o:=.tup [.int i,.str z])
  have ha5:=aX nT ha (o:=.tup [.int i,.str z])
  have S5:=S4.upd nT (o:=.tup [.int i,.str z])
  have hG5:=hG.same ((Same.refl H4).upd nT (o:=.tup [.int i,.str z]))
  generalize upd H4 T0 (.tup [.int i,.str z])=H5 at hC5 hR5 ha5 S5 hG5 ⊢
  walk_at "s"
  rw [show ((m:Int) - 1 - (i:Int))=((gA m (cC rows) i 0:Nat):Int) by rw [jR];omega]
  refine ⟨z,_,a,_,rfl,ha5,by rw [uO];exact hz z (WW hzi),by rw [uO];exact hf,fun t c1 b H6 nb nc1 S6 ht hb hcc=>?_⟩
  have eC':vP z=cC rows i:=by unfold cC;rw [ez]
  rw [eC',uO,yx far (Wq _)] at ht hb
  rw [eC',uO,R3] at hcc
  obtain ⟨ws,hc1,hws⟩:=hcc
  have nc1C:c1≠CM:=fun z=>by rw [z,hC5] at nc1;cases nc1
  have nc1R:c1≠RT:=fun z=>by rw [z,hR5] at nc1;cases nc1
  have hG6:=(hG5.same S6).push ⟨nc1C,nc1R⟩ hc1 hws
  have hC6:=S6 _ _ hC5
  have hR6:=S6 _ _ hR5
  have nbC:b≠CM:=fun z=>by rw [z,hC5] at nb;cases nb
  have nbR:b≠RT:=fun z=>by rw [z,hR5] at nb;cases nb
  have tC:t≠CM:=fun z=>by rw [z,hC6] at ht;cases ht
  have tR:t≠RT:=fun z=>by rw [z,hR6] at ht;cases ht
  walk_at "s"
  refine ⟨.inl ⟨rfl,_,SqL.of hC6⟩,?_⟩
  walk_at "s"
  refine aQ hC6 (by omega) ?_
  have S7:=over (o:=.lst (cs ++ [.ref c1])) (S5.trans S6) nCH
  have hC7:=aj (H:=H6) (a:=CM) (o:=.lst (cs ++ [.ref c1]))
  have hR7:upd H6 CM (.lst (cs ++ [.ref c1])) RT=_:=(aB nCR.symm).trans hR6
  have ht7:upd H6 CM (.lst (cs ++ [.ref c1])) t=_:=(aB tC).trans ht
  have hb7:upd H6 CM (.lst (cs ++ [.ref c1])) b=_:=(aB nbC).trans hb
  have hG7:=hG6.upd hC6 (o:=.lst (cs ++ [.ref c1])) fun c hc=>hc.1
  generalize upd H6 CM (.lst (cs ++ [.ref c1]))=H7 at S7 hC7 hR7 ht7 hb7 hG7 ⊢
  clear ht hb
  walk_at "s"
  refine ⟨.inl ⟨rfl,_,SqL.of hR7⟩,?_⟩
  walk_at "s"
  refine aQ hR7 (by rw [Ws,Nu];omega) ?_
  refine ⟨over S7 nRH,⟨cs ++ [.ref c1],(aB nCR).trans hC7,by simp [hcs],hG7.upd hR7 fun c hc=>hc.2⟩,?_,b,some (.int i),some (.str z),some (.ref t),(aB nbR).trans hb7,nbC,nbR,rfl⟩
  rw [aj]
  have e:Gj m (cC rows) far (i+1)=Gj m (cC rows) far i ++ [((gA m (cC rows) i far:Nat):Int)]:=by unfold Gj;rw [Xz,WT];rfl
  rw [e,WT];rfl
 ·rintro U H4 ⟨S4,⟨cs,hC,hcs,hG⟩,hR,a,x6,x7,x8,ha,nac,nar,rfl⟩
  rw [Ws,hr'] at hR ha hG
  walk_at "s"
  refine ⟨m,far,cC rows,a,RT,rfl,hm,hf,ha,hR,fun e R H5 ne S5 hE hR5=>?_⟩
  walk_at "s"
  refine jL rfl fun t nt=>?_
  walk_at "s"
  exact q t CM e R _ (S4.free ne) ((S4.trans S5).upd nt) aj hE (aX nt hR5) ⟨cs,aX nt (S5 _ _ hC),(hG.same (S5.upd nt)).imp (fun _ _ z=>z) (fun _ _ _ z=>z) fun _ _=>trivial⟩
end
def Kd (K:W.Frag) (H:Hp) (v:V):Prop:=(∃ n,v= .int n)\/(∃ b,v= .bl b)\/∃ T,TyOf K H v (.type T)/\PySem.W.kitOne K (.type T) (.type "int")=some false
theorem Kd.same {K:W.Frag} {H H':Hp} {v:V} (h:Kd K H v) (s:Same H H'):Kd K H' v:=by
 rcases h with h | h | ⟨T,a,c⟩
 ·exact .inl h
 ·exact .inr (.inl h)
 ·exact .inr (.inr ⟨T,a.mono fun b o e _=>s b o e,c⟩)
def Vw:V->Bool
 | .int _=>true
 | _=>false
def inB (v:V) (lo hi:Int):Bool:=match v with
 | .int n=>decide (lo<=n) && decide (n<=hi)
 | _=>false
section
variable {P:Program} {w:World} {K:W.Frag} {mg:Str->Option Value} {base:Heap}
theorem Same.put {H H':Hp} {p:Addr} {o:HO} (s:Same H H') (hn:H p=none):Same H (upd H' p o):=fun b u e=>by
 rw [aB (fun z=>by rw [z,hn] at e;cases e)]
 exact s b u e
theorem Same.back {H H':Hp} {p:Addr} (s:Same H H') (h:H' p=none):H p=none:=by
 cases e:H p with
 | none=>rfl
 | some o=>rw [s _ _ e] at h;cases h
theorem Thing.same {H H':Hp} {v:V} (h:Thing K H v) (s:Same H H'):Thing K H' v:=by
 rcases h with h | ⟨T,t,k⟩
 ·exact .inl h
 ·exact .inr ⟨T,t.mono fun b o e _=>s b o e,k⟩
theorem zZ:(["sign"]:List Str).Nodup:=by trivial
def LP:Str:=pQ ++ Str.ofString "."
def RB (v:V):Bool:=nP v (pQ ++ Str.ofString ".") 48
def qF (z:Str):Prop:=z.length<=48/\RB (.str z)=true
theorem JK {H:Hp} {v:V} {ty:String} {l:Str} {m:Int} (h:TyOf K H v (.type ty)) (k:PySem.W.kitOne K (.type ty) (.type "str")=some false):nP v l m=false:=by
 cases v with
 | str z=>
  cases h
  have:PySem.W.kitOne K (.type "str") (.type "str")=some true:=rfl
  rw [this] at k;cases k
 | _=>rfl
theorem Gm:aF ["thing"] ["thing"] (az rF):=⟨rfl,rfl,rfl,by trivial,rfl,by trivial,by trivial⟩
theorem vQ (T:Txt K mg):jN P w K mg base 1 "is_row" ["thing"] (spIs K (pQ ++ Str.ofString ".") 48):=by
 refine dZ T.d_is_row Gm (fun _ _ _ _ _ _ us hl=>L2.p7 (fun _=>rfl) us hl) ?_ fun f cdv A outer s H vs Q E hr h=>?_
 ·rintro vs H Q E ⟨p,rfl,_⟩;rfl
 obtain ⟨v,rfl,hT,q⟩:=h
 have hu:=hr.units0
 have hu64:=hr.units
 refine ⟨_,(au (bM (gF (iy (bV (bO (aD (bU (K:=K) rfl) aN T.b_isinstance aM (aa (aq 0) (aa (nU aN T.b_str HS (by trivial) (by trivial)) ao)) (by trivial) (by trivial)))) (gC (bu qR (aD (aG (K:=K) rfl) aN T.b_len bc (aa (aq 0) ao) (by trivial) (by trivial)) (Bv aN T.c_MOST_SIGNS (by trivial)) (by walk_at "p"))))) (aA (aK iw)) bx) (aA (aK (aD (u5 rfl) aN T.b_all Bs (aa (gW (sub:=[none]) (bI (N:=["thing"]) (sc:=az rF) (N':=["sign"]) (by trivial)) rfl rfl rfl (d8 (K:=K) rfl (aq 0)) (fun C s₀ H₀ ex=>(kY 0 (by trivial) zZ)) (fun C s₀ H₀ ex=>dq) (fun C s₀ H₀ ex=>(Dq (HJ (K:=K) rfl) (fZ 0 (by trivial)) (aZ aV (su (Fx (by trivial)) T.c_LETTERS (by trivial)) (su (Fx (by trivial)) T.c_POINT (by trivial))) (by walk_at "p")))) ao) (by trivial) (by trivial))))),?_⟩
 walk_at "s"
 rcases hT with ⟨z,rfl,hz⟩ | ⟨ty,hty,hk⟩
 ·have hz1:z.length<=sizeLine:=WY hz (by decide)
  refine ie (.str z) rfl ?_
  walk_at "s"
  try with_reducible refine iK ?_
  walk_at "s"
  refine cR hz1 ?_
  walk_at "s"
  refine iJ (fun h1=>?_) (fun h1=>?_)
  ·walk_at "s"
   have:nP (.str z) (pQ ++ Str.ofString ".") 48=false:=by
    unfold nP
    dsimp only
    rw [W2 (by omega)];rfl
   have q':=q H (Same.refl H)
   rw [this] at q'
   exact q'
  ·walk_at "s"
   refine .inr (.inr ⟨z,rfl,?_⟩)
   refine zF (fun i us H'=>H'=H/\us=((z.cps.toList.take i).map fun c=>!tE (pQ ++ Str.ofString ".") c).map V.bl) hz1 ⟨rfl,rfl⟩ ?_ ?_ ?_
   ·rintro i us H' ⟨rfl,rfl⟩
    simp;omega
   ·rintro i us H' c hc ⟨rfl,rfl⟩
    walk_at "s"
    refine ⟨KeepSt.set rfl,?_⟩
    walk_at "s"
    try with_reducible refine ir ?_
    walk_at "s"
    refine Bt (WY (show (Str.ofString "abcdefghijklmnopqrstuvwxyz").length+(Str.ofString ".").length<=1000 by trivial) (by decide)) ?_
    walk_at "s"
    refine ⟨rfl,?_⟩
    rw [Yp,hc]
    simp [pQ,tE]
   ·rintro us H' ⟨rfl,rfl⟩ D hD
    walk_at "s"
    refine ⟨D,_,rfl,aj,?_⟩
    have e1:z.cps.toList.take z.cps.size=z.cps.toList:=Xq (by simp)
    have e2:nP (.str z) (pQ ++ Str.ofString ".") 48=(List.map (fun c=>!tE (pQ ++ Str.ofString ".") c) (z.cps.toList.take z.cps.size)).all id:=by
     unfold nP
     dsimp only
     rw [W0 (by omega),Bool.true_and,e1,List.all_map];rfl
    have q':=q _ ((Same.refl H').upd hD (o:=.lst (List.map V.bl (List.map (fun c=>!tE (pQ ++ Str.ofString ".") c) (List.take z.cps.size z.cps.toList)))))
    rw [e2] at q'
    exact q'
 ·refine ie hty hk ?_
  walk_at "s"
  try with_reducible refine ir ?_
  walk_at "s"
  try with_reducible refine ir ?_
  walk_at "s"
  have q':=q H (Same.refl H)
  rw [JK hty hk] at q'
  exact q'
theorem Gn {H:Hp} {z:Str} (h:qF z):Thing K H (.str z):=.inl ⟨z,rfl,by have:=h.1;omega⟩
def Nv:Sp:=fun vs H Q _=>∃ z:Str,vs=[.str z]/\qF z/\∀ H',Same H H'->Q .non H'
theorem z9:aF ["thing"] ["thing"] (az qw):=⟨rfl,rfl,rfl,by trivial,rfl,by trivial,by trivial⟩
theorem nu (T:Txt K mg):jN P w K mg base 3 "need_row" ["thing"] Nv:=by
 have vQ:=vQ (P:=P) (w:=w) (base:=base) T
 refine dZ T.d_need_row z9 (fun _ _ _ _ _ _ us hl=>L2.p7 (fun _=>rfl) us hl) ?_ fun f cdv A outer s H vs Q E hr h=>?_
 ·rintro vs H Q E ⟨z,rfl,_⟩;rfl
 obtain ⟨z,rfl,hz,q⟩:=h
 have hu:=hr.units0
 have hu64:=hr.units
 refine ⟨_,(aA (bM (bV (bO (aH vQ (hr.mono (by decide)) aN (aa (aq 0) ao) (by trivial)))) (aA oh) bx)),?_⟩
 walk_at "s"
 refine ⟨.str z,rfl,Gn hz,fun H1 S1=>?_⟩
 rw [show nP (.str z) (pQ ++ Str.ofString ".") 48=true from hz.2]
 walk_at "s"
 exact q _ S1
def JL:Sp:=fun vs H Q _=>∃ z y:Str,vs=[.str z,.str y]/\qF z/\qF y/\∀ H',Same H H'->Q .non H'
theorem yz:aF ["side","top"] ["side","top"] (az oK):=⟨rfl,rfl,rfl,by trivial,rfl,by trivial,by trivial⟩
theorem bR (T:Txt K mg):jN P w K mg base 4 "need_rows" ["side","top"] JL:=by
 have nu:=nu (P:=P) (w:=w) (base:=base) T
 refine dZ T.d_need_rows yz (fun _ _ _ _ _ _ us hl=>L2.kW (fun _ _=>rfl) us hl) ?_ fun f cdv A outer s H vs Q E hr h=>?_
 ·rintro vs H Q E ⟨z,y,rfl,_⟩;rfl
 obtain ⟨z,y,rfl,hz,hy,q⟩:=h
 have hu:=hr.units0
 have hu64:=hr.units
 refine ⟨_,(au (aL (aH nu (hr.mono (by decide)) aN (aa (aq 0) ao) (by trivial))) (aA (aL (aH nu (hr.mono (by decide)) aN (aa (aq 1) ao) (by trivial))))),?_⟩
 walk_at "s"
 refine ⟨z,rfl,hz,fun H1 S1=>?_⟩
 walk_at "s"
 refine ⟨y,rfl,hy,fun H2 S2=>?_⟩
 walk_at "s"
 exact q H2 (S1.trans S2)
def Cd (c:Nat) (top:Str) (ab:List Int) (left:Int):Nat->Int
 | 0=>left
 | j+1=>if (decide (c=top.cps.getD j 0) || decide (ab.getD j 0 < Cd c top ab left j))=true then ab.getD j 0 else Cd c top ab left j
def wu (c:Nat) (top:Str) (ab:List Int) (left:Int) (j:Nat):Bool:=decide (c=top.cps.getD j 0) || decide (ab.getD j 0 < Cd c top ab left j)
def Vx (b:Bool):Str:=if b=true then Str.ofString "o" else Str.ofString "x"
def xG (c:Nat) (top:Str) (ab:List Int) (left:Int) (j:Nat):List Str:=(List.range j).map fun k=>Vx (wu c top ab left k)
theorem JM {c:Nat} {top:Str} {ab:List Int} {left:Int} {j:Nat}:∀ y∈xG c top ab left j,y.length=1:=fun y hy=>by
 obtain ⟨k,_,rfl⟩:=Xg.mp hy
 unfold Vx
 split <;> trivial
def Nx:Sp:=fun vs H Q _=>∃ (c:Nat) (top:Str) (left:Int) (a:Addr) (ab:List Int),vs=[.str ⟨#[c]⟩,.str top,.int left,.ref a]/\H a=some (.lst (ab.map V.int))/\top.cps.size=ab.length/\ab.length<=48/\
 ∀ H',Same H H'->Q (.str (Txt.join (Str.ofString "") (xG c top ab left ab.length))) H'
theorem fW:aF ["sign","top","left","above","signs","column","other"] ["sign","top","left","above"] (az kj):=⟨rfl,rfl,rfl,by trivial,rfl,by trivial,by trivial⟩
theorem kJ (T:Txt K mg):jN P w K mg base 1 "signs_of_row" ["sign","top","left","above"] Nx:=by
 refine dZ T.d_signs_of_row fW (fun _ _ _ _ _ _ us hl=>L2.usN4 (fun _ _ _ _=>rfl) us hl) ?_ fun f cdv A outer s H vs Q E hr h=>?_
 ·rintro vs H Q E ⟨c,top,left,a,ab,rfl,_⟩;rfl
 obtain ⟨c,top,left,a,ab,rfl,ha,hz,hl,q⟩:=h
 have hu:=hr.units0
 have hu64:=hr.units
 refine ⟨_,(au (aJ (i:=4) fW.nd rfl bT (dU ao) rfl) (au (du Xa rfl (jQ (K:=K) rfl rfl aN T.b_enumerate (aa (aq 1) ao)) (jB (K:=K) rfl rfl (bw (aY (i:=5) fW.nd rfl bT rfl) (bw (aY (i:=6) fW.nd rfl bT rfl) gO))) (aA (bM (gF (iy (bu (BJ (K:=K) rfl hu64) (aq 0) (aq 6) (by walk_at "p")) (gC (bu qR (aq 2) (bf (K:=K) rfl (aq 3) (aq 5)) (by walk_at "p"))))) (au (aL (bL (K:=K) rfl Wv Wy Wz aW (aq 4) (aa (su aN T.c_TOUCH (by trivial)) ao))) (aA (aJ (i:=2) fW.nd rfl bT (bf (K:=K) rfl (aq 3) (aq 5)) rfl))) (aA (aL (bL (K:=K) rfl Wv Wy Wz aW (aq 4) (aa (su aN T.c_CROSS (by trivial)) ao))))))) (aA (aK (bL (K:=K) rfl PySem.F.plainAttrs_str PySem.F.slot_str_join PySem.F.type_str_join Dm ig (aa (aq 4) ao)))))),?_⟩
 walk_at "s"
 have hs:20000<=sizeLine:=by decide
 refine jL rfl fun S0 nS=>?_
 have e0:=aj (H:=H) (a:=S0) (o:=.lst [])
 have Sm:=(Same.refl H).upd nS (o:=.lst [])
 generalize upd H S0 (.lst [])=H1 at e0 Sm ⊢
 walk_at "s"
 refine .inl ⟨top,rfl,?_⟩
 refine vp (fun j U H'=>Same H H'/\H' S0=some (.lst ((xG c top ab left j).map V.str))/\∃ x5 x6,U=[some (.str ⟨#[c]⟩),some (.str top),some (.int (Cd c top ab left j)),some (.ref a),some (.ref S0),x5,x6])
  ⟨Sm,e0,none,none,rfl⟩ ?_ ?_
 ·rintro j U H2 T0 hj ⟨S2,hS,x5,x6,rfl⟩ nT
  have hj':j < ab.length:=by rw [← hz];exact hj
  refine bj (xs:=[.int j,.str ⟨#[top.cps.getD j 0]⟩]) (SqT.of aj) rfl ?_
  have hS3:=aX nT hS (o:=.tup (iz top j))
  have S3:=S2.upd nT (o:=.tup (iz top j))
  generalize upd H2 T0 (.tup (iz top j))=H3 at hS3 S3 ⊢
  have ha3:=S3 _ _ ha
  have hix:rR (ab.map V.int) (j:Int)=some (.int (ab.getD j 0)):=by
   refine dO ?_
   rw [Wo,Wu,Wn hj'];rfl
  walk_at "s"
  have hlS:((xG c top ab left j).map V.str).length < sizeLine:=by unfold xG;simp;omega
  have step:(xG c top ab left (j+1)).map V.str=(xG c top ab left j).map V.str ++ [.str (Vx (wu c top ab left j))]:=by unfold xG;rw [Xz,WT,WT];rfl
  have stepT:wu c top ab left j=true->Cd c top ab left (j+1)=ab.getD j 0:=fun h=>by rw [Cd];exact if_pos h
  have stepF:wu c top ab left j=false->Cd c top ab left (j+1)=Cd c top ab left j:=fun h=>by rw [Cd];exact if_neg (fun z=>by unfold wu at h;rw [h] at z;cases z)
  refine iJ (fun hk=>?_) (fun hk=>?_)
  ·have ec:c=top.cps.getD j 0:=by
    have:=Str.mk.inj (V.str.inj hk)
    simpa using this
   have hB:wu c top ab left j=true:=by unfold wu;rw [W0 ec];rfl
   walk_at "s"
   refine ⟨.inl ⟨rfl,_,SqL.of hS3⟩,?_⟩
   walk_at "s"
   refine aQ hS3 hlS ?_
   have S4:=over (o:=.lst ((xG c top ab left j).map V.str ++ [.str (Str.ofString "o")])) S3 nS
   have hS4:=aj (H:=H3) (a:=S0) (o:=.lst ((xG c top ab left j).map V.str ++ [.str (Str.ofString "o")]))
   generalize upd H3 S0 (.lst ((xG c top ab left j).map V.str ++ [.str (Str.ofString "o")]))=H4 at S4 hS4 ⊢
   have ha4:=S4 _ _ ha
   walk_at "s"
   refine aO (SqL.of ha4) hix ?_
   walk_at "s"
   exact ⟨S4,by rw [hS4,step,hB];rfl,some (.int j),some (.str ⟨#[top.cps.getD j 0]⟩),by rw [stepT hB];rfl⟩
  ·have ec:¬ c=top.cps.getD j 0:=fun z=>hk (by rw [z])
   walk_at "s"
   refine aO (SqL.of ha3) hix ?_
   walk_at "s"
   refine iJ (fun hg=>?_) (fun hg=>?_)
   ·have hB:wu c top ab left j=true:=by unfold wu;rw [W2 ec,Bool.false_or];exact W0 (by omega)
    walk_at "s"
    refine ⟨.inl ⟨rfl,_,SqL.of hS3⟩,?_⟩
    walk_at "s"
    refine aQ hS3 hlS ?_
    have S4:=over (o:=.lst ((xG c top ab left j).map V.str ++ [.str (Str.ofString "o")])) S3 nS
    have hS4:=aj (H:=H3) (a:=S0) (o:=.lst ((xG c top ab left j).map V.str ++ [.str (Str.ofString "o")]))
    generalize upd H3 S0 (.lst ((xG c top ab left j).map V.str ++ [.str (Str.ofString "o")]))=H4 at S4 hS4 ⊢
    have ha4:=S4 _ _ ha
    walk_at "s"
    refine aO (SqL.of ha4) hix ?_
    walk_at "s"
    exact ⟨S4,by rw [hS4,step,hB];rfl,some (.int j),some (.str ⟨#[top.cps.getD j 0]⟩),by rw [stepT hB];rfl⟩
   ·have hB:wu c top ab left j=false:=by unfold wu;rw [W2 ec,Bool.false_or];exact W2 (by omega)
    walk_at "s"
    refine ⟨.inl ⟨rfl,_,SqL.of hS3⟩,?_⟩
    walk_at "s"
    refine aQ hS3 hlS ?_
    have S4:=over (o:=.lst ((xG c top ab left j).map V.str ++ [.str (Str.ofString "x")])) S3 nS
    have hS4:=aj (H:=H3) (a:=S0) (o:=.lst ((xG c top ab left j).map V.str ++ [.str (Str.ofString "x")]))
    generalize upd H3 S0 (.lst ((xG c top ab left j).map V.str ++ [.str (Str.ofString "x")]))=H4 at S4 hS4 ⊢
    exact ⟨S4,by rw [hS4,step,hB];rfl,some (.int j),some (.str ⟨#[top.cps.getD j 0]⟩),by rw [stepF hB];rfl⟩
 ·rintro U H2 ⟨S2,hS,x5,x6,rfl⟩
  rw [hz] at hS
  walk_at "s"
  refine ⟨rfl,?_⟩
  walk_at "s"
  have hs1:=HW (JM (c:=c) (top:=top) (ab:=ab) (left:=left) (j:=ab.length))
  have e0:(Str.ofString "").length=0:=by trivial
  refine HX hS (by rw [hs1,e0];unfold xG;simp;omega) ?_
  exact q _ S2
end
local macro_rules | `(tactic| walk_at "s") => `(tactic| (with_reducible repeat (first | refine j4 ?_ | walk_at "0")))
local macro_rules | `(tactic| walk_at "n") => `(tactic| (with_reducible repeat (walk_at "0")))
section
variable {P:Program} {w:World} {K:W.Frag} {mg:Str->Option Value} {base:Heap}
def JN (c:Nat) (top:Str) (ab:List Int) (left:Int) (j:Nat):Int:=if wu c top ab left j=true then Cd c top ab left j else ab.getD j 0
def Ny (c:Nat) (top:Str) (ab:List Int) (left:Int) (n:Nat):List Int:=(List.range n).map (JN c top ab left)
theorem Nz {c:Nat} {top:Str} {ab:List Int} {left:Int} {n:Nat}:(Ny c top ab left n).length=n:=by simp [Ny]
theorem JP (c:Nat) (top:Str) (ab:List Int) (left:Int) (j:Nat):Cd c top ab left (j+1)=if wu c top ab left j=true then ab.getD j 0 else Cd c top ab left j:=rfl
def Vy (b:Bool):Nat:=if b=true then 111 else 120
theorem R4 (b:Bool):(Vx b).cps.toList=[Vy b]:=by cases b <;> trivial
def Aa (c:Nat) (top:Str) (ab:List Int) (left:Int) (n:Nat):Str:=⟨((List.range n).map fun k=>Vy (wu c top ab left k)).toArray⟩
theorem NB {a b:Str} (h:a.cps.toList=b.cps.toList):a=b:=by
 cases a;cases b
 exact congrArg Str.mk (Array.toList_inj.mp h)
theorem xH {α β:Type} (f:α->β):∀ l:List α,(l.map fun k=>[f k]).flatten=l.map f
 | []=>rfl
 | a :: l=>by rw [Xh,Ye,xH f l];rfl
theorem Gp {c:Nat} {top:Str} {ab:List Int} {left:Int} {n:Nat}:Txt.join (Str.ofString "") (xG c top ab left n)=Aa c top ab left n:=by
 apply NB
 rw [zE]
 unfold xG Aa
 rw [Yx]
 have:((fun y:Str=>y.cps.toList) ∘ fun k=>Vx (wu c top ab left k))=fun k=>[Vy (wu c top ab left k)]:=by
  funext k;exact R4 _
 rw [this,xH]
theorem xJ {c:Nat} {top:Str} {ab:List Int} {left:Int} {n:Nat}:(Aa c top ab left n).cps.size=n:=by simp [Aa]
theorem DQ {c:Nat} {top:Str} {ab:List Int} {left:Int} {n j:Nat} (h:j < n):(Aa c top ab left n).cps.getD j 0=Vy (wu c top ab left j):=by
 unfold Aa
 simp [Array.getD,h]
theorem JQ {z:Str} {j:Nat} {b:Bool} (h:z.cps.getD j 0=Vy b):vP z j=b:=by
 unfold vP
 rw [h]
 cases b <;> trivial
theorem yC {z:Str} {c:Nat} {top:Str} {ab:List Int} {left:Int} {n:Nat} (hz:∀ j,j < n->vP z j=wu c top ab left j):∀ j,j<=n->iU (vP z) ab left j=(Ny c top ab left j,Cd c top ab left j)
 | 0,_=>rfl
 | j+1,h=>by
  have ih:=yC hz j (by omega)
  have e:Ny c top ab left (j+1)=Ny c top ab left j ++ [JN c top ab left j]:=by unfold Ny;rw [Xz,WT];rfl
  rw [iU,ih,hz j (by omega),e,JP]
  unfold JN
  by_cases hc:wu c top ab left j=true
  ·rw [if_pos hc,if_pos hc,if_pos hc]
  ·rw [if_neg hc,if_neg hc,if_neg hc]
def xK (m:Nat) (side top:Str):Nat->List Int
 | 0=>(List.range top.cps.size).map fun l=>((m+l:Nat):Int)
 | i+1=>Ny (side.cps.getD i 0) top (xK m side top i) ((m:Int) - 1 - i) top.cps.size
theorem pK {m:Nat} {side top:Str}:∀ i,(xK m side top i).length=top.cps.size
 | 0=>by simp [xK]
 | i+1=>by rw [xK,Nz]
def JR (m:Nat) (side top:Str) (i:Nat):Str:=Aa (side.cps.getD i 0) top (xK m side top i) ((m:Int) - 1 - i) top.cps.size
def Ce (m:Nat) (side top:Str) (n:Nat):List Str:=(List.range n).map (JR m side top)
def lM (side top:Str):List Str:=Ce side.cps.size side top side.cps.size
theorem JV (m:Nat) (side top:Str) (n:Nat):Ce m side top (n+1)=Ce m side top n ++ [JR m side top n]:=by unfold Ce;rw [Xz,WT];rfl
theorem DW (m:Nat) (side top:Str) (n:Nat):(Ce m side top n).length=n:=by simp [Ce]
def NK:Sp:=fun vs H Q _=>∃ (side top:Str),vs=[.str side,.str top]/\side.cps.size<=48/\top.cps.size<=48/\
 ∀ D H',H D=none->Same H H'->H' D=some (.lst ((lM side top).map V.str))->Q (.ref D) H'
theorem fP:aF ["side","top","above","cells","row","sign","left","signs"] ["side","top"] (az qy):=⟨rfl,rfl,rfl,by trivial,rfl,by trivial,by trivial⟩
theorem qG (T:Txt K mg):jN P w K mg base 2 "cells_of" ["side","top"] NK:=by
 have fY:=fY (P:=P) (w:=w) (base:=base) T
 have kJ:=kJ (P:=P) (w:=w) (base:=base) T
 have iV:=iV (P:=P) (w:=w) (base:=base) T
 refine dZ T.d_cells_of fP (fun _ _ _ _ _ _ us hl=>L2.kW (fun _ _=>rfl) us hl) ?_ fun f cdv A outer s H vs Q E hr h=>?_
 ·rintro vs H Q E ⟨side,top,rfl,_⟩;rfl
 obtain ⟨side,top,rfl,hs,ht,q⟩:=h
 have hu:=hr.units0
 have hu64:=hr.units
 refine ⟨_,(au (aJ (i:=2) fP.nd rfl bT (aH fY (hr.mono (by decide)) aN (aa (aD (aG (K:=K) rfl) aN T.b_len bc (aa (aq 0) ao) (by trivial) (by trivial)) (aa (aD (aG (K:=K) rfl) aN T.b_len bc (aa (aq 1) ao) (by trivial) (by trivial)) ao)) (by trivial)) rfl) (au (aJ (i:=3) fP.nd rfl bT (dU ao) rfl) (au (du Xa rfl (jQ (K:=K) rfl rfl aN T.b_enumerate (aa (aq 0) ao)) (jB (K:=K) rfl rfl (bw (aY (i:=4) fP.nd rfl bT rfl) (bw (aY (i:=5) fP.nd rfl bT rfl) gO))) (au (aJ (i:=6) fP.nd rfl bT (aZ gQ (aZ gQ (aD (aG (K:=K) rfl) aN T.b_len bc (aa (aq 0) ao) (by trivial) (by trivial)) aC) (aq 4)) rfl) (au (aJ (i:=7) fP.nd rfl bT (aH kJ (hr.mono (by decide)) aN (aa (aq 5) (aa (aq 1) (aa (aq 6) (aa (aq 2) ao)))) (by trivial)) rfl) (au (aL (bL (K:=K) rfl Wv Wy Wz aW (aq 3) (aa (aq 7) ao))) (aA (aJ (i:=2) fP.nd rfl bT (bf (K:=K) rfl (aH iV (hr.mono (by decide)) aN (aa (aq 7) (aa (aq 6) (aa (aq 2) ao))) (by trivial)) aC) rfl)))))) (aA (aK (aq 3)))))),?_⟩
 walk_at "s"
 have hz:1000<=sizeLine:=by decide
 have lz:side.length<=sizeLine:=WY hs (by decide)
 have ly:top.length<=sizeLine:=WY ht (by decide)
 refine cR lz ?_
 walk_at "s"
 refine cR ly ?_
 walk_at "s"
 refine ⟨side.cps.size,top.cps.size,rfl,hs,ht,fun A0 nA=>?_⟩
 have e0:((List.range top.cps.size).map fun l=>((side.cps.size+l:Nat):Int))=xK side.cps.size side top 0:=rfl
 rw [e0]
 have SA:=(Same.refl H).upd nA (o:=.lst ((xK side.cps.size side top 0).map V.int))
 have eA:=aj (H:=H) (a:=A0) (o:=.lst ((xK side.cps.size side top 0).map V.int))
 generalize upd H A0 (.lst ((xK side.cps.size side top 0).map V.int))=H1 at SA eA ⊢
 walk_at "s"
 refine jL rfl fun D nD=>?_
 have SD:=SA.upd nD (o:=.lst [])
 have eD:=aj (H:=H1) (a:=D) (o:=.lst [])
 have eA2:=aX nD eA (o:=.lst [])
 have nDH:=SA.free nD
 have nAD:A0≠D:=fun z=>by rw [z,nD] at eA;cases eA
 generalize upd H1 D (.lst [])=H2 at SD eD eA2 ⊢
 walk_at "s"
 refine .inl ⟨side,rfl,?_⟩
 refine vp (fun i U H'=>Same H H'/\H' D=some (.lst ((Ce side.cps.size side top i).map V.str))/\∃ a x4 x5 x6 x7,H' a=some (.lst ((xK side.cps.size side top i).map V.int))/\a≠D/\U=[some (.str side),some (.str top),some (.ref a),some (.ref D),x4,x5,x6,x7])
  ⟨SD,eD,A0,none,none,none,none,eA2,nAD,rfl⟩ ?_ ?_
 ·rintro i U H3 T0 hi ⟨S3,hD,a,x4,x5,x6,x7,ha,nad,rfl⟩ nT
  have hi':i < side.cps.size:=hi
  refine bj (xs:=[.int i,.str ⟨#[side.cps.getD i 0]⟩]) (SqT.of aj) rfl ?_
  have hD4:=aX nT hD (o:=.tup (iz side i))
  have ha4:=aX nT ha (o:=.tup (iz side i))
  have S4:=S3.upd nT (o:=.tup (iz side i))
  generalize upd H3 T0 (.tup (iz side i))=H4 at hD4 ha4 S4 ⊢
  walk_at "s"
  refine cR lz ?_
  walk_at "s"
  refine ⟨_,top,_,a,_,rfl,ha4,(pK i).symm,by rw [pK];exact ht,fun H5 S5=>?_⟩
  rw [Gp,pK]
  have hD5:=S5 _ _ hD4
  have ha5:=S5 _ _ ha4
  walk_at "s"
  refine ⟨.inl ⟨rfl,_,SqL.of hD5⟩,?_⟩
  walk_at "s"
  refine aQ hD5 (by rw [Ws,DW];omega) ?_
  have e1:(Ce side.cps.size side top i).map V.str ++ [.str (Aa (side.cps.getD i 0) top (xK side.cps.size side top i) ((side.length:Int) - 1 - i) top.cps.size)]=(Ce side.cps.size side top (i+1)).map V.str:=by rw [JV,WT];rfl
  rw [e1]
  have S6:=over (o:=.lst ((Ce side.cps.size side top (i+1)).map V.str)) (S4.trans S5) nDH
  have hD6:=aj (H:=H5) (a:=D) (o:=.lst ((Ce side.cps.size side top (i+1)).map V.str))
  have ha6:upd H5 D (.lst ((Ce side.cps.size side top (i+1)).map V.str)) a=_:=(aB nad).trans ha5
  generalize upd H5 D (.lst ((Ce side.cps.size side top (i+1)).map V.str))=H6 at S6 hD6 ha6 ⊢
  walk_at "s"
  refine ⟨_,_,a,_,rfl,ha6,by rw [xJ,pK],by rw [pK];exact ht,fun t c1 b H7 nb _ S7 ht' hb _=>?_⟩
  rw [pK,yC (n:=top.cps.size) (fun j hj=>JQ (DQ hj)) _ (Wq _)] at ht' hb
  have hD7:=S7 _ _ hD6
  have nbD:b≠D:=fun z=>by rw [z,hD6] at nb;cases nb
  walk_at "s"
  exact ⟨S6.trans S7,hD7,b,_,_,_,_,hb,nbD,rfl⟩
 ·rintro U H3 ⟨S3,hD,a,x4,x5,x6,x7,ha,nad,rfl⟩
  walk_at "s"
  exact q D H3 nDH S3 hD
def CB (side top:Str):Nat->Nat->Bool:=cC (lM side top)
theorem Gq {side top:Str} {i:Nat} (h:i < side.cps.size):(lM side top).getD i ⟨#[]⟩=JR side.cps.size side top i:=by
 unfold lM Ce
 rw [Wu,Wo,Xd h];rfl
theorem Cg {side top:Str} {i:Nat} (h:i < side.cps.size):CB side top i=vP (JR side.cps.size side top i):=by unfold CB cC;rw [Gq h]
theorem Pq {side top:Str} {i j:Nat} (h:i < side.cps.size) (hj:j < top.cps.size):CB side top i j=wu (side.cps.getD i 0) top (xK side.cps.size side top i) ((side.cps.size:Int) - 1 - i) j:=by
 rw [Cg h]
 exact JQ (DQ hj)
theorem ag {side top:Str}:∀ i,i<=side.cps.size->xK side.cps.size side top i=tD side.cps.size (CB side top) top.cps.size i/\
  (i < side.cps.size->∀ j,j<=top.cps.size->Cd (side.cps.getD i 0) top (xK side.cps.size side top i) ((side.cps.size:Int) - 1 - i) j=((gA side.cps.size (CB side top) i j:Nat):Int)/\Ny (side.cps.getD i 0) top (xK side.cps.size side top i) ((side.cps.size:Int) - 1 - i) j=tD side.cps.size (CB side top) j (i+1))
 | 0,h=>⟨by rw [JF];rfl,fun hi j hj=>ag_step (by rw [JF];rfl) hi hj⟩
 | i+1,h=>by
  have ih:=(ag (side:=side) (top:=top) i (by omega)).2 (by omega) top.cps.size (Wq _)
  have e:xK side.cps.size side top (i+1)=tD side.cps.size (CB side top) top.cps.size (i+1):=ih.2
  exact ⟨e,fun hi j hj=>ag_step e hi hj⟩
where
 ag_step {side top:Str} {i j:Nat} (e:xK side.cps.size side top i=tD side.cps.size (CB side top) top.cps.size i) (hi:i < side.cps.size) (hj:j<=top.cps.size):
   Cd (side.cps.getD i 0) top (xK side.cps.size side top i) ((side.cps.size:Int) - 1 - i) j=((gA side.cps.size (CB side top) i j:Nat):Int)/\Ny (side.cps.getD i 0) top (xK side.cps.size side top i) ((side.cps.size:Int) - 1 - i) j=tD side.cps.size (CB side top) j (i+1):=by
  have h1:=yC (z:=JR side.cps.size side top i) (c:=side.cps.getD i 0) (top:=top) (ab:=xK side.cps.size side top i) (left:=(side.cps.size:Int) - 1 - i) (n:=top.cps.size) (fun l hl=>by rw [← Cg hi];exact Pq hi hl) j hj
  have h2:=yx (m:=side.cps.size) (C:=CB side top) (far:=top.cps.size) (i:=i) j hj
  rw [← Cg hi] at h1
  rw [← e,show ((gA side.cps.size (CB side top) i 0:Nat):Int)=(side.cps.size:Int) - 1 - i by rw [jR];omega,h1] at h2
  exact ⟨congrArg Prod.snd h2,congrArg Prod.fst h2⟩
theorem NP {side top:Str} {i j:Nat} (hi:i < side.cps.size) (hj:j < top.cps.size):CB side top i j=(decide (side.cps.getD i 0=top.cps.getD j 0) || decide (gD side.cps.size (CB side top) j i < gA side.cps.size (CB side top) i j)):=by
 rw [Pq hi hj]
 unfold wu
 rw [((ag i (by omega)).2 hi j (by omega)).1,(ag i (by omega)).1,Ca hj]
 congr 1
 exact decide_eq_decide.mpr (by omega)
end
local macro_rules | `(tactic| walk_at "s") => `(tactic| (with_reducible repeat (first | refine j4 ?_ | walk_at "0")))
local macro_rules | `(tactic| walk_at "n") => `(tactic| (with_reducible repeat (walk_at "0")))
section
variable {P:Program} {w:World} {K:W.Frag} {mg:Str->Option Value} {base:Heap}
theorem yD:(["line"]:List Str).Nodup:=by trivial
theorem Vz {m:Nat} {C:Nat->Nat->Bool} {far:Nat}:∀ n i j,i+j<=n->i < m->j < far->gA m C i j < m+far/\gD m C j i < m+far
 | n,0,0,_,hi,hj=>by rw [jR,nj];omega
 | 0,0,j+1,h,_,_=>absurd h (by omega)
 | 0,i+1,j,h,_,_=>absurd h (by omega)
 | n+1,0,j+1,h,hi,hj=>by
  have ih:=Vz (m:=m) (C:=C) (far:=far) n 0 j (by omega) hi (by omega)
  refine ⟨?_,by rw [nj];omega⟩
  rw [lw];split
  ·exact ih.2
  ·exact ih.1
 | n+1,i+1,0,h,hi,hj=>by
  have ih:=Vz (m:=m) (C:=C) (far:=far) n i 0 (by omega) (by omega) hj
  refine ⟨by rw [jR];omega,?_⟩
  rw [jT];split
  ·exact ih.1
  ·exact ih.2
 | n+1,i+1,j+1,h,hi,hj=>by
  have h1:=Vz (m:=m) (C:=C) (far:=far) n (i+1) j (by omega) hi (by omega)
  have h2:=Vz (m:=m) (C:=C) (far:=far) n i (j+1) (by omega) (by omega) hj
  refine ⟨?_,?_⟩
  ·rw [lw];split
   ·exact h1.2
   ·exact h1.1
  ·rw [jT];split
   ·exact h2.1
   ·exact h2.2
def stp (w:Nat->List (Int×Int)) (l:Nat) (q:Int×Int):Nat->List (Int×Int):=fun k=>if k=l then w k ++ [q] else w k
def NQ (m:Nat) (C:Nat->Nat->Bool) (i:Nat) (w0:Nat->List (Int×Int)):Nat->Nat->List (Int×Int)
 | 0=>w0
 | j+1=>stp (stp (NQ m C i w0 j) (gA m C i j) ((i:Int),(j:Int))) (gD m C j i) ((i:Int),(j:Int))
def Gv (m:Nat) (C:Nat->Nat->Bool) (far:Nat):Nat->Nat->List (Int×Int)
 | 0=>fun _=>[]
 | i+1=>NQ m C i (Gv m C far i) far
theorem yE (w:Nat->List (Int×Int)) (l:Nat) (q:Int×Int) (k:Nat):(stp w l q k).length<=(w k).length+1:=by
 unfold stp;split <;> simp
theorem yF {m:Nat} {C:Nat->Nat->Bool} {i:Nat} {w0:Nat->List (Int×Int)} (k:Nat):∀ j,(NQ m C i w0 j k).length<=(w0 k).length+2*j
 | 0=>by simp [NQ]
 | j+1=>by
  have ih:=yF (m:=m) (C:=C) (i:=i) (w0:=w0) k j
  have h1:=yE (stp (NQ m C i w0 j) (gA m C i j) ((i:Int),(j:Int))) (gD m C j i) ((i:Int),(j:Int)) k
  have h2:=yE (NQ m C i w0 j) (gA m C i j) ((i:Int),(j:Int)) k
  show (stp _ _ _ k).length<=_
  omega
theorem DX {m:Nat} {C:Nat->Nat->Bool} {far:Nat} (k:Nat):∀ i,(Gv m C far i k).length<=2*(i*far)
 | 0=>by simp [Gv]
 | i+1=>by
  have ih:=DX (m:=m) (C:=C) (far:=far) k i
  have h1:=yF (m:=m) (C:=C) (i:=i) (w0:=Gv m C far i) k far
  show (NQ m C i (Gv m C far i) far k).length<=_
  have e:(i+1)*far=i*far+far:=Nat.succ_mul i far
  omega
def Wys (H:Hp) (Pd:Addr->Prop) (refs:List V) (n:Nat) (w:Nat->List (Int×Int)):Prop:=refs.length=n/\(∀ l,l < n->∃ p ws,refs[l]?=some (.ref p)/\Pd p/\H p=some (.lst ws)/\PrI H ws (w l))/\
 ∀ (l k:Nat) (p:Addr),l≠k->refs[l]?=some (.ref p)->refs[k]?≠some (.ref p)
theorem Wys.imp {H H':Hp} {Pd Pd':Addr->Prop} {refs:List V} {n:Nat} {w:Nat->List (Int×Int)} (h:Wys H Pd refs n w) (ht:∀ p us,H p=some (.tup us)->H' p=some (.tup us)) (hl:∀ c ws,Pd c->H c=some (.lst ws)->H' c=some (.lst ws)) (hp:∀ c,Pd c->Pd' c):Wys H' Pd' refs n w:=
 ⟨h.1,fun l hl'=>by
  obtain ⟨p,ws,e1,e2,e3,e4⟩:=h.2.1 l hl'
  exact ⟨p,ws,e1,hp p e2,hl p ws e2 e3,e4.imp ht⟩,h.2.2⟩
theorem Wys.same {H H':Hp} {Pd:Addr->Prop} {refs:List V} {n:Nat} {w:Nat->List (Int×Int)} (h:Wys H Pd refs n w) (s:Same H H'):Wys H' Pd refs n w:=h.imp (fun p us e=>s _ _ e) (fun c ws _ e=>s _ _ e) fun _ z=>z
theorem Wys.new {H:Hp} {Pd:Addr->Prop} {refs:List V} {n:Nat} {w:Nat->List (Int×Int)} {p:Addr} (h:Wys H Pd refs n w) (hn:H p=none) (hP:Pd p) (hw:w n=[]):Wys (upd H p (.lst [])) Pd (refs ++ [.ref p]) (n+1) w:=by
 have s:Same H (upd H p (.lst [])):=(Same.refl H).upd hn
 obtain ⟨h1,h2,h3⟩:=h
 have ne:∀ l:Nat,refs[l]?≠some (V.ref p):=fun l e=>by
  have hl:l < n:=by rw [← h1];exact (Wm.mp e).1
  obtain ⟨p',ws,e1,_,e3,_⟩:=h2 l hl
  rw [e] at e1
  cases e1
  rw [hn] at e3;cases e3
 refine ⟨by rw [Xl,h1];rfl,fun l hl=>?_,fun l k q hlk e1 e2=>?_⟩
 ·by_cases e:l=n
  ·subst e
   exact ⟨p,[],by rw [WN (by omega),h1,X6];rfl,hP,aj,by rw [hw];trivial⟩
  ·obtain ⟨p',ws,e1,e2,e3,e4⟩:=h2 l (by omega)
   exact ⟨p',ws,by rw [WM (by omega)];exact e1,e2,s _ _ e3,e4.same s⟩
 ·by_cases hl:l < refs.length
  ·rw [WM hl] at e1
   by_cases hk:k < refs.length
   ·rw [WM hk] at e2
    exact h3 l k q hlk e1 e2
   ·rw [WN (by omega)] at e2
    have:k - refs.length=0:=by
     have:=(Wm.mp e2).1
     simp at this;omega
    rw [this] at e2
    cases e2
    exact ne l e1
  ·rw [WN (by omega)] at e1
   have:l - refs.length=0:=by
    have:=(Wm.mp e1).1
    simp at this;omega
   rw [this] at e1
   cases e1
   by_cases hk:k < refs.length
   ·rw [WM hk] at e2
    exact ne k e2
   ·have:=(Wm.mp e2).1
    simp at this;omega
theorem Wys.app {H:Hp} {Pd:Addr->Prop} {refs ws:List V} {n l:Nat} {w:Nat->List (Int×Int)} {p q:Addr} {x y:Int} (h:Wys H Pd refs n w) (hl:l < n) (hp:refs[l]?=some (.ref p)) (hw:H p=some (.lst ws)) (hq:H q=some (.tup [.int x,.int y])):
  Wys (upd H p (.lst (ws ++ [.ref q]))) Pd refs n (stp w l (x,y)):=by
 obtain ⟨h1,h2,h3⟩:=h
 have ht:∀ r us,H r=some (.tup us)->upd H p (.lst (ws ++ [.ref q])) r=some (.tup us):=fun r us e=>by rw [aB (fun z=>by rw [z,hw] at e;cases e)];exact e
 refine ⟨h1,fun k hk=>?_,h3⟩
 obtain ⟨p',us,e1,e2,e3,e4⟩:=h2 k hk
 by_cases e:k=l
 ·subst e
  rw [hp] at e1
  cases e1
  rw [hw] at e3
  cases e3
  refine ⟨p,_,hp,e2,aj,?_⟩
  unfold stp
  rw [if_pos rfl]
  exact PrI.push (ht _ _ hq) (e4.imp ht)
 ·have ne:p'≠p:=fun z=>by subst z;exact h3 k l p' e e1 hp
  refine ⟨p',us,e1,e2,by rw [aB ne];exact e3,?_⟩
  unfold stp
  rw [if_neg e]
  exact e4.imp ht
theorem NT {m:Nat} {C:Nat->Nat->Bool} {far i j:Nat} (h:j < far):(zY m C far i)[j]?=some (((gA m C i j:Nat):Int),((gD m C j i:Nat):Int)):=by
 unfold zY
 rw [Wo,Xd h];rfl
theorem JX {m:Nat} {C:Nat->Nat->Bool} {far i:Nat}:(zY m C far i).length=far:=by simp [zY]
def R5:Sp:=fun vs H Q _=>∃ (m far:Nat) (C:Nat->Nat->Bool) (cm:Addr) (cs:List V),vs=[.int ((m:Int)+(far:Int)),.ref cm]/\m<=48/\far<=48/\H cm=some (.lst cs)/\Cmg H (fun _=>True) m C far cs m/\
 ∀ aw refs H',H aw=none->Same H H'->H' aw=some (.lst refs)->Wys H' (fun p=>H p=none) refs (m+far) (Gv m C far m)->Q (.ref aw) H'
theorem iY:aF ["many","coming","ways","row","pairs","column","pair"] ["many","coming"] (az pH):=⟨rfl,rfl,rfl,by trivial,rfl,by trivial,by trivial⟩
theorem tK (T:Txt K mg):jN P w K mg base 1 "ways_of" ["many","coming"] R5:=by
 refine dZ T.d_ways_of iY (fun _ _ _ _ _ _ us hl=>L2.kW (fun _ _=>rfl) us hl) ?_ fun f cdv A outer s H vs Q E hr h=>?_
 ·rintro vs H Q E ⟨m,far,C,cm,cs,rfl,_⟩;rfl
 obtain ⟨m,far,C,cm,cs,rfl,hm,hf,hcm,hG,q⟩:=h
 have hu:=hr.units0
 have hu64:=hr.units
 refine ⟨_,(au (o8 (i:=2) iY.nd rfl bT (sub:=[none]) (bI (N:=["many","coming","ways","row","pairs","column","pair"]) (sc:=az pH) (N':=["line"]) (by trivial)) rfl rfl rfl (dI aN T.b_range (aa (aq 0) ao)) (fun C s₀ H₀ ex=>(kY 0 (by trivial) yD)) (fun C s₀ H₀ ex=>dq) (fun C s₀ H₀ ex=>(dU ao)) rfl) (au (du Xa rfl (jQ (K:=K) rfl rfl aN T.b_enumerate (aa (aq 1) ao)) (jB (K:=K) rfl rfl (bw (aY (i:=3) iY.nd rfl bT rfl) (bw (aY (i:=4) iY.nd rfl bT rfl) gO))) (aA (du Xa rfl (jQ (K:=K) rfl rfl aN T.b_enumerate (aa (aq 4) ao)) (jB (K:=K) rfl rfl (bw (aY (i:=5) iY.nd rfl bT rfl) (bw (aY (i:=6) iY.nd rfl bT rfl) gO))) (au (aL (bL (K:=K) rfl Wv Wy Wz aW (bf (K:=K) rfl (aq 2) (bf (K:=K) rfl (aq 6) aC)) (aa (gw (aa (aq 3) (aa (aq 5) ao))) ao))) (aA (aL (bL (K:=K) rfl Wv Wy Wz aW (bf (K:=K) rfl (aq 2) (bf (K:=K) rfl (aq 6) aC)) (aa (gw (aa (aq 3) (aa (aq 5) ao))) ao)))))))) (aA (aK (aq 2))))),?_⟩
 walk_at "s"
 have hs:20000<=sizeLine:=by decide
 refine ⟨_,rfl,by omega,by omega,?_⟩
 rw [show ((m:Int)+(far:Int)).toNat=m+far by omega]
 refine rn (n:=m+far) (fun i ys H'=>Same H H'/\Wys H' (fun p=>H p=none) ys i (fun _=>[])) (by omega) ⟨Same.refl H,rfl,(fun l hl=>absurd hl (Nat.not_lt_zero _)),fun l k p _ e=>by simp at e⟩ ?_ ?_ ?_
 ·rintro i ys H' ⟨_,h⟩
  exact Nat.le_of_eq h.1
 ·rintro i ys H' hi ⟨s,h⟩
  walk_at "s"
  refine ⟨KeepSt.set rfl,?_⟩
  walk_at "s"
  refine jL rfl fun p np=>?_
  walk_at "s"
  exact ⟨s.upd np,h.new np (Same.back s np) rfl⟩
 ·rintro refs H1 ⟨s1,hW⟩ aw naw
  have naw0:=Same.back s1 naw
  have s2:=s1.upd naw (o:=.lst refs)
  have haw:=aj (H:=H1) (a:=aw) (o:=.lst refs)
  have hW2:Wys (upd H1 aw (.lst refs)) (fun p=>H p=none/\p≠aw) refs (m+far) (Gv m C far 0):=by
   obtain ⟨w1,w2,w3⟩:=hW
   refine ⟨w1,fun l hl=>?_,w3⟩
   obtain ⟨p,ws,e1,e2,e3,e4⟩:=w2 l hl
   exact ⟨p,ws,e1,⟨e2,fun z=>by rw [z,naw] at e3;cases e3⟩,aX naw e3,e4.same ((Same.refl H1).upd naw)⟩
  generalize upd H1 aw (.lst refs)=H2 at s2 haw hW2 ⊢
  walk_at "s"
  refine .inr ⟨cm,_,rfl,SqL.of (s2 _ _ hcm),?_⟩
  refine pA (xs:=cs) (fun i U H'=>Same H H'/\H' aw=some (.lst refs)/\Wys H' (fun p=>H p=none/\p≠aw) refs (m+far) (Gv m C far i)/\∃ x3 x4 x5 x6,U=[some (.int ((m:Int)+(far:Int))),some (.ref cm),some (.ref aw),x3,x4,x5,x6])
   ⟨s2,haw,hW2,_,_,_,_,rfl⟩ (fun i U H' _ h=>SqL.of (h.1 _ _ hcm)) ?_ ?_
  ·rintro i U H3 T0 x hx ⟨S3,h3,W3,x3,x4,x5,x6,rfl⟩ nT
   have hi:i < m:=by
    have:=(Wm.mp hx).1
    rw [hG.1] at this;exact this
   obtain ⟨c,ws,e1,_,hc,hws⟩:=hG.2 i hi
   rw [hx] at e1
   cases e1
   have wl:=hws.len
   rw [JX] at wl
   refine bj (xs:=[.int i,.ref c]) (SqT.of aj) rfl ?_
   have S4:=S3.upd nT (o:=.tup [.int i,.ref c])
   have h4:=aX nT h3 (o:=.tup [.int i,.ref c])
   have W4:=W3.same ((Same.refl H3).upd nT (o:=.tup [.int i,.ref c]))
   generalize upd H3 T0 (.tup [.int i,.ref c])=H4 at S4 h4 W4 ⊢
   walk_at "s"
   refine .inr ⟨c,_,rfl,SqL.of (S4 _ _ hc),?_⟩
   refine pA (xs:=ws) (fun j U H'=>Same H H'/\H' aw=some (.lst refs)/\Wys H' (fun p=>H p=none/\p≠aw) refs (m+far) (NQ m C i (Gv m C far i) j)/\∃ x5 x6,U=[some (.int ((m:Int)+(far:Int))),some (.ref cm),some (.ref aw),some (.int i),some (.ref c),x5,x6])
    ⟨S4,h4,W4,_,_,rfl⟩ (fun i U H' _ h=>SqL.of (h.1 _ _ hc)) ?_ ?_
   ·rintro j U H5 T1 y hy ⟨S5,h5,W5,x5,x6,rfl⟩ nT1
    have hj:j < far:=by
     have:=(Wm.mp hy).1
     omega
    obtain ⟨r,e2,hr'⟩:=hws.get (NT (m:=m) (C:=C) (i:=i) hj)
    rw [hy] at e2
    cases e2
    obtain ⟨l1,l2⟩:=Vz (m:=m) (C:=C) (far:=far) (i+j) i j (Wq _) hi hj
    have wA:=DX (m:=m) (C:=C) (far:=far)
    have wJ:=yF (m:=m) (C:=C) (i:=i) (w0:=Gv m C far i)
    have him:i*far<=48*48:=Y6 (by omega) hf
    refine bj (xs:=[.int j,.ref r]) (SqT.of aj) rfl ?_
    have S6:=S5.upd nT1 (o:=.tup [.int j,.ref r])
    have h6:=aX nT1 h5 (o:=.tup [.int j,.ref r])
    have W6:=W5.same ((Same.refl H5).upd nT1 (o:=.tup [.int j,.ref r]))
    generalize upd H5 T1 (.tup [.int j,.ref r])=H6 at S6 h6 W6 ⊢
    obtain ⟨p,us,r1,⟨pn,pa⟩,hp,hpu⟩:=W6.2.1 _ l1
    have ul:=hpu.len
    have:=wA (gA m C i j) i
    have:=wJ (gA m C i j) j
    walk_at "s"
    refine dM (SqT.of (S6 _ _ hr')) rfl ?_
    walk_at "s"
    refine aO (SqL.of h6) (dO r1) ?_
    walk_at "s"
    refine ⟨.inl ⟨rfl,_,SqL.of hp⟩,?_⟩
    walk_at "s"
    refine jL rfl fun q1 nq1=>?_
    walk_at "s"
    have S7:=S6.upd nq1 (o:=.tup [.int i,.int j])
    have h7:=aX nq1 h6 (o:=.tup [.int i,.int j])
    have W7:=W6.same ((Same.refl H6).upd nq1 (o:=.tup [.int i,.int j]))
    have hp7:=aX nq1 hp (o:=.tup [.int i,.int j])
    have hq7:=aj (H:=H6) (a:=q1) (o:=.tup [.int i,.int j])
    generalize upd H6 q1 (.tup [.int i,.int j])=H7 at S7 h7 W7 hp7 hq7 ⊢
    refine aQ hp7 (by omega) ?_
    walk_at "s"
    have S8:=Same.put (o:=.lst (us ++ [.ref q1])) S7 pn
    have h8:upd H7 p (.lst (us ++ [.ref q1])) aw=_:=(aB (Ne.symm pa)).trans h7
    have W8:=W7.app l1 r1 hp7 hq7
    generalize upd H7 p (.lst (us ++ [.ref q1]))=H8 at S8 h8 W8 ⊢
    obtain ⟨p',us',r2,⟨pn',pa'⟩,hp',hpu'⟩:=W8.2.1 _ l2
    have ul':=hpu'.len
    have:=yE (NQ m C i (Gv m C far i) j) (gA m C i j) ((i:Int),(j:Int)) (gD m C j i)
    have:=wA (gD m C j i) i
    have:=wJ (gD m C j i) j
    walk_at "s"
    refine dM (SqT.of (S8 _ _ hr')) rfl ?_
    walk_at "s"
    refine aO (SqL.of h8) (dO r2) ?_
    walk_at "s"
    refine ⟨.inl ⟨rfl,_,SqL.of hp'⟩,?_⟩
    walk_at "s"
    refine jL rfl fun q2 nq2=>?_
    walk_at "s"
    have S9:=S8.upd nq2 (o:=.tup [.int i,.int j])
    have h9:=aX nq2 h8 (o:=.tup [.int i,.int j])
    have W9:=W8.same ((Same.refl H8).upd nq2 (o:=.tup [.int i,.int j]))
    have hp9:=aX nq2 hp' (o:=.tup [.int i,.int j])
    have hq9:=aj (H:=H8) (a:=q2) (o:=.tup [.int i,.int j])
    generalize upd H8 q2 (.tup [.int i,.int j])=H9 at S9 h9 W9 hp9 hq9 ⊢
    refine aQ hp9 (by omega) ?_
    walk_at "s"
    exact ⟨Same.put S9 pn',(aB (Ne.symm pa')).trans h9,W9.app l2 r2 hp9 hq9,_,_,rfl⟩
   ·rintro U H5 ⟨S5,h5,W5,x5,x6,rfl⟩
    rw [wl] at W5
    exact ⟨S5,h5,W5,_,_,_,_,rfl⟩
  ·rintro U H3 ⟨S3,h3,W3,x3,x4,x5,x6,rfl⟩
   rw [hG.1] at W3
   walk_at "s"
   exact q aw refs H3 naw0 S3 h3 (W3.imp (fun _ _ z=>z) (fun _ _ _ z=>z) fun c z=>z.1)
abbrev mS (z:Str):Nat:=z.cps.size
structure BdO (H:Hp) (side top:Str) (ac am al aw:Addr):Prop where
 cells:H ac=some (.lst ((lM side top).map V.str))
 com:∃ cs,H am=some (.lst cs)/\Cmg H (fun _=>True) (mS side) (CB side top) (mS top) cs (mS side)
 lines:∃ R,H al=some (.lst (R.map V.int))/\qD (mS side) (CB side top) (mS top) R
 ways:∃ refs,H aw=some (.lst refs)/\Wys H (fun _=>True) refs (mS side+mS top) (Gv (mS side) (CB side top) (mS top) (mS side))
def bdF (side top:Str) (ac am al aw:Addr):List (Str×V):=[("held_side",.str side),("held_top",.str top),("held_cells",.ref ac),("held_coming",.ref am),("held_lines",.ref al),("held_ways",.ref aw)]
def Bd (mg:Str->Option Value) (H:Hp) (b:Addr) (side top:Str):Prop:=qF side/\qF top/\∃ dx ac am al aw,H b=some (.ins (aP mg "Board") dx (bdF side top ac am al aw))/\BdO H side top ac am al aw
theorem Ci (side top:Str):(lM side top).length=side.cps.size:=DW _ _ _ _
theorem Ab {side top:Str}:∀ z∈lM side top,z.cps.size=top.cps.size:=fun z hz=>by
 unfold lM Ce at hz
 obtain ⟨i,_,rfl⟩:=Xg.mp hz
 exact xJ
def NZ (mg:Str->Option Value):Sp:=fun vs H Q _=>∃ (x dx:Addr) (side top:Str),vs=[.ref x,.str side,.str top]/\H x=some (.ins (aP mg "Board") dx [])/\qF side/\qF top/\∀ H',Chg x H H'->Bd mg H' x side top->Q .non H'
theorem Chg.same {x:Addr} {H H1 H2:Hp} (c:Chg x H H1) (s:Same H1 H2):Chg x H H2:=fun b o n e=>s _ _ (c b o n e)
theorem Chg.put {x:Addr} {H H1:Hp} {o:HO} (c:Chg x H H1):Chg x H (upd H1 x o):=fun b u n e=>by rw [aB n];exact c b u n e
theorem fX {f:Str} {y:V}:∀ {fs:List (Str×V)},(fs.map (·.1)).contains f=false->lE f y fs=fs ++ [(f,y)]
 | [],_=>rfl
 | (g,z) :: fs,h=>by
  simp only [Xh,Yi,Zj] at h
  have hne:¬ g=f:=fun e=>by rw [e] at h;simp at h
  have ih:=fX (y:=y) (fs:=fs) h.2
  unfold lE
  simp [hne,ih]
theorem lA:aF ["self","side","top","gone"] ["self","side","top"] (az iQ):=⟨rfl,rfl,rfl,by trivial,rfl,by trivial,by trivial⟩
theorem iZ (T:Txt K mg):sI P w K mg base 5 "Board" "__init__" ["self","side","top"] (NZ mg):=by
 have bR:=bR (P:=P) (w:=w) (base:=base) T
 have qG:=qG (P:=P) (w:=w) (base:=base) T
 have nq:=nq (P:=P) (w:=w) (base:=base) T
 have tK:=tK (P:=P) (w:=w) (base:=base) T
 refine BZ T.m_Board___init__ lA (fun _ _ _ _ _ _ us hl=>L2.pN (fun _ _ _=>rfl) us hl) ?_ fun f cdv A outer s H vs Q E hr h=>?_
 ·rintro vs H Q E ⟨x,dx,side,top,rfl,_⟩;rfl
 obtain ⟨x,dx,side,top,rfl,hx,hs,ht,q'⟩:=h
 have hu:=hr.units0
 have hu64:=hr.units
 refine ⟨_,(au (aL (aH bR (hr.mono (by decide)) aN (aa (aq 1) (aa (aq 2) ao)) (by trivial))) (au (j9 (K:=K) rfl (aq 0) (aq 1)) (au (j9 (K:=K) rfl (aq 0) (aq 2)) (au (j9 (K:=K) rfl (aq 0) (aH qG (hr.mono (by decide)) aN (aa (aq 1) (aa (aq 2) ao)) (by trivial))) (au (aJ (i:=3) lA.nd rfl bT (aH nq (hr.mono (by decide)) aN (aa (aD (aG (K:=K) rfl) aN T.b_len bc (aa (aq 1) ao) (by trivial) (by trivial)) (aa (aD (aG (K:=K) rfl) aN T.b_len bc (aa (aq 2) ao) (by trivial) (by trivial)) (aa (pY (K:=K) rfl (aq 0)) ao))) (by trivial)) rfl) (au (j9 (K:=K) rfl (aq 0) (bf (K:=K) rfl (aq 3) aC)) (au (j9 (K:=K) rfl (aq 0) (bf (K:=K) rfl (aq 3) aC)) (aA (j9 (K:=K) rfl (aq 0) (aH tK (hr.mono (by decide)) aN (aa (aZ aV (aD (aG (K:=K) rfl) aN T.b_len bc (aa (aq 1) ao) (by trivial) (by trivial)) (aD (aG (K:=K) rfl) aN T.b_len bc (aa (aq 2) ao) (by trivial) (by trivial))) (aa (bf (K:=K) rfl (aq 3) aC) ao)) (by trivial))))))))))),?_⟩
 walk_at "s"
 refine ⟨side,top,rfl,hs,ht,fun H1 S1=>?_⟩
 have cl:=T.o_Board.cl
 have na:=T.n_Board
 have lz:side.length<=sizeLine:=WY hs.1 (by decide)
 have ly:top.length<=sizeLine:=WY ht.1 (by decide)
 have hx1:=S1 _ _ hx
 have C1:Chg x H H1:=fun b o _ e=>S1 _ _ e
 walk_at "s"
 refine ⟨x,_,dx,_,rfl,hx1,cl,na _ (by simp),by simp,?_⟩
 walk_at "s"
 rw [fX (by show ([]:List Str).contains "held_side"=false;trivial)]
 have hx2:=aj (H:=H1) (a:=x) (o:=.ins (aP mg "Board") dx (([]:List (Str×V)) ++ ([("held_side",.str side)]:List (Str×V))))
 have C2:=Chg.put (o:=.ins (aP mg "Board") dx (([]:List (Str×V)) ++ ([("held_side",.str side)]:List (Str×V)))) C1
 generalize hG2:upd H1 x (.ins (aP mg "Board") dx (([]:List (Str×V)) ++ ([("held_side",.str side)]:List (Str×V))))=H2 at hx2 C2 ⊢
 replace hx2:H2 x=some (.ins (aP mg "Board") dx ([("held_side",.str side)]:List (Str×V))):=hx2
 walk_at "s"
 refine ⟨x,_,dx,_,rfl,hx2,cl,na _ (by simp),by simp,?_⟩
 walk_at "s"
 rw [fX (by show (["held_side"]:List Str).contains "held_top"=false;trivial)]
 have hx3:=aj (H:=H2) (a:=x) (o:=.ins (aP mg "Board") dx (([("held_side",.str side)]:List (Str×V)) ++ ([("held_top",.str top)]:List (Str×V))))
 have C3:=Chg.put (o:=.ins (aP mg "Board") dx (([("held_side",.str side)]:List (Str×V)) ++ ([("held_top",.str top)]:List (Str×V)))) C2
 generalize hG3:upd H2 x (.ins (aP mg "Board") dx (([("held_side",.str side)]:List (Str×V)) ++ ([("held_top",.str top)]:List (Str×V))))=H3 at hx3 C3 ⊢
 replace hx3:H3 x=some (.ins (aP mg "Board") dx ([("held_side",.str side),("held_top",.str top)]:List (Str×V))):=hx3
 walk_at "s"
 refine ⟨side,top,rfl,hs.1,ht.1,fun ac H4 nac S4 hac=>?_⟩
 walk_at "s"
 have hx4:=S4 _ _ hx3
 have C4:=Chg.same C3 S4
 refine ⟨x,_,dx,_,rfl,hx4,cl,na _ (by simp),by simp,?_⟩
 walk_at "s"
 rw [fX (by show (["held_side","held_top"]:List Str).contains "held_cells"=false;trivial)]
 have hx5:=aj (H:=H4) (a:=x) (o:=.ins (aP mg "Board") dx (([("held_side",.str side),("held_top",.str top)]:List (Str×V)) ++ ([("held_cells",.ref ac)]:List (Str×V))))
 have C5:=Chg.put (o:=.ins (aP mg "Board") dx (([("held_side",.str side),("held_top",.str top)]:List (Str×V)) ++ ([("held_cells",.ref ac)]:List (Str×V)))) C4
 generalize hG5:upd H4 x (.ins (aP mg "Board") dx (([("held_side",.str side),("held_top",.str top)]:List (Str×V)) ++ ([("held_cells",.ref ac)]:List (Str×V))))=H5 at hx5 C5 ⊢
 replace hx5:H5 x=some (.ins (aP mg "Board") dx ([("held_side",.str side),("held_top",.str top),("held_cells",.ref ac)]:List (Str×V))):=hx5
 have nx4:∀ {a:Addr} {us:List V},H4 a=some (.lst us)->a≠x:=fun {a us} h z=>by rw [z,hx4] at h;cases h
 have hac5:H5 ac=some (.lst ((lM side top).map V.str)):=by rw [← hG5,aB (nx4 hac)];exact hac
 walk_at "s"
 refine cR lz ?_
 walk_at "s"
 refine cR ly ?_
 walk_at "s"
 refine ⟨x,_,dx,_,_,rfl,hx5,cl,na _ (by simp),rfl,?_⟩
 walk_at "s"
 refine ⟨mS side,mS top,lM side top,ac,rfl,hac5,Ci side top,hs.1,ht.1,Ab,fun t am al R H6 nal S6 ht6 hE hal hcm=>?_⟩
 walk_at "s"
 obtain ⟨cs,hcm,hG⟩:=hcm
 have hx6:=S6 _ _ hx5
 have C6:=Chg.same C5 S6
 refine ⟨x,_,dx,_,rfl,hx6,cl,na _ (by simp),by simp,?_⟩
 walk_at "s"
 rw [fX (by show (["held_side","held_top","held_cells"]:List Str).contains "held_coming"=false;trivial)]
 have hx7:=aj (H:=H6) (a:=x) (o:=.ins (aP mg "Board") dx (([("held_side",.str side),("held_top",.str top),("held_cells",.ref ac)]:List (Str×V)) ++ ([("held_coming",.ref am)]:List (Str×V))))
 have C7:=Chg.put (o:=.ins (aP mg "Board") dx (([("held_side",.str side),("held_top",.str top),("held_cells",.ref ac)]:List (Str×V)) ++ ([("held_coming",.ref am)]:List (Str×V)))) C6
 generalize hG7:upd H6 x (.ins (aP mg "Board") dx (([("held_side",.str side),("held_top",.str top),("held_cells",.ref ac)]:List (Str×V)) ++ ([("held_coming",.ref am)]:List (Str×V))))=H7 at hx7 C7 ⊢
 replace hx7:H7 x=some (.ins (aP mg "Board") dx ([("held_side",.str side),("held_top",.str top),("held_cells",.ref ac),("held_coming",.ref am)]:List (Str×V))):=hx7
 have M7:Chg x H6 H7:=by rw [← hG7];exact Chg.put (Chg.refl x H6)
 have nt:t≠x:=fun z=>by rw [z,hx6] at ht6;cases ht6
 have ht7:=M7 t _ nt ht6
 walk_at "s"
 refine ⟨x,_,dx,_,rfl,hx7,cl,na _ (by simp),by simp,?_⟩
 walk_at "s"
 rw [fX (by show (["held_side","held_top","held_cells","held_coming"]:List Str).contains "held_lines"=false;trivial)]
 have hx8:=aj (H:=H7) (a:=x) (o:=.ins (aP mg "Board") dx (([("held_side",.str side),("held_top",.str top),("held_cells",.ref ac),("held_coming",.ref am)]:List (Str×V)) ++ ([("held_lines",.ref al)]:List (Str×V))))
 have C8:=Chg.put (o:=.ins (aP mg "Board") dx (([("held_side",.str side),("held_top",.str top),("held_cells",.ref ac),("held_coming",.ref am)]:List (Str×V)) ++ ([("held_lines",.ref al)]:List (Str×V)))) C7
 generalize hG8:upd H7 x (.ins (aP mg "Board") dx (([("held_side",.str side),("held_top",.str top),("held_cells",.ref ac),("held_coming",.ref am)]:List (Str×V)) ++ ([("held_lines",.ref al)]:List (Str×V))))=H8 at hx8 C8 ⊢
 replace hx8:H8 x=some (.ins (aP mg "Board") dx ([("held_side",.str side),("held_top",.str top),("held_cells",.ref ac),("held_coming",.ref am),("held_lines",.ref al)]:List (Str×V))):=hx8
 have M8:Chg x H6 H8:=M7.trans (by rw [← hG8];exact Chg.put (Chg.refl x H7))
 have nx6:∀ {a:Addr} {us:List V},H6 a=some (.lst us)->a≠x:=fun {a us} h z=>by rw [z,hx6] at h;cases h
 have nxt6:∀ {a:Addr} {us:List V},H6 a=some (.tup us)->a≠x:=fun {a us} h z=>by rw [z,hx6] at h;cases h
 have ht8:=M8 t _ nt ht6
 have hcm8:=M8 am _ (nx6 hcm) hcm
 have hG8':Cmg H8 (fun _=>True) (mS side) (CB side top) (mS top) cs (mS side):=hG.imp (fun p us e=>M8 p _ (nxt6 e) e) (fun c ws _ e=>M8 c _ (nx6 e) e) fun _ z=>z
 have hal8:=M8 al _ (nx6 hal) hal
 have hac8:=M8 ac _ (nx6 (S6 _ _ hac5)) (S6 _ _ hac5)
 walk_at "s"
 refine cR lz ?_
 walk_at "s"
 refine cR ly ?_
 walk_at "s"
 refine ⟨mS side,mS top,CB side top,am,cs,rfl,hs.1,ht.1,hcm8,hG8',fun aw refs H9 naw S9 haw hW=>?_⟩
 walk_at "s"
 have hx9:=S9 _ _ hx8
 have C9:=Chg.same C8 S9
 have nx9:∀ {a:Addr} {us:List V},H9 a=some (.lst us)->a≠x:=fun {a us} h z=>by rw [z,hx9] at h;cases h
 have nxt9:∀ {a:Addr} {us:List V},H9 a=some (.tup us)->a≠x:=fun {a us} h z=>by rw [z,hx9] at h;cases h
 refine ⟨x,_,dx,_,rfl,hx9,cl,na _ (by simp),by simp,?_⟩
 walk_at "s"
 rw [fX (by show (["held_side","held_top","held_cells","held_coming","held_lines"]:List Str).contains "held_ways"=false;trivial)]
 have hx10:=aj (H:=H9) (a:=x) (o:=.ins (aP mg "Board") dx (([("held_side",.str side),("held_top",.str top),("held_cells",.ref ac),("held_coming",.ref am),("held_lines",.ref al)]:List (Str×V)) ++ ([("held_ways",.ref aw)]:List (Str×V))))
 have C10:=Chg.put (o:=.ins (aP mg "Board") dx (([("held_side",.str side),("held_top",.str top),("held_cells",.ref ac),("held_coming",.ref am),("held_lines",.ref al)]:List (Str×V)) ++ ([("held_ways",.ref aw)]:List (Str×V)))) C9
 generalize hG10:upd H9 x (.ins (aP mg "Board") dx (([("held_side",.str side),("held_top",.str top),("held_cells",.ref ac),("held_coming",.ref am),("held_lines",.ref al)]:List (Str×V)) ++ ([("held_ways",.ref aw)]:List (Str×V))))=H10 at hx10 C10 ⊢
 replace hx10:H10 x=some (.ins (aP mg "Board") dx ([("held_side",.str side),("held_top",.str top),("held_cells",.ref ac),("held_coming",.ref am),("held_lines",.ref al),("held_ways",.ref aw)]:List (Str×V))):=hx10
 have M10:Chg x H9 H10:=by rw [← hG10];exact Chg.put (Chg.refl x H9)
 refine q' H10 C10 ⟨hs,ht,dx,ac,am,al,aw,hx10,M10 ac _ (nx9 (S9 _ _ hac8)) (S9 _ _ hac8),⟨cs,M10 am _ (nx9 (S9 _ _ hcm8)) (S9 _ _ hcm8),(hG8'.same S9).imp (fun p us e=>M10 p _ (nxt9 e) e) (fun c ws _ e=>M10 c _ (nx9 e) e) fun _ z=>z⟩,⟨R,M10 al _ (nx9 (S9 _ _ hal8)) (S9 _ _ hal8),hE⟩,refs,M10 aw _ (nx9 haw) haw,hW.imp (fun p us e=>M10 p _ (nxt9 e) e) (fun c ws _ e=>M10 c _ (nx9 e) e) fun _ _=>trivial⟩
theorem bdM {side top:Str} {ac am al aw:Addr} {m:Str} (h:(["held_side","held_top","held_cells","held_coming","held_lines","held_ways"]:List Str).contains m=false):(bdF side top ac am al aw).lookup m=none:=by
 unfold bdF
 simp only [Yi,Zj] at h
 obtain ⟨h1,h2,h3,h4,h5,h6,_⟩:=h
 simp only [Xj,h1,h2,h3,h4,h5,h6,List.lookup_nil]
def N5 (mg:Str->Option Value):Sp:=fun vs H Q _=>∃ (b:Addr) (side top:Str),vs=[.ref b]/\Bd mg H b side top/\∀ q R H',H q=none->Same H H'->qD (mS side) (CB side top) (mS top) R->H' q=some (.lst (R.map V.int))->Q (.ref q) H'
theorem vR:aF ["self"] ["self"] (az lK):=⟨rfl,rfl,rfl,by trivial,rfl,by trivial,by trivial⟩
theorem lN (T:Txt K mg):sI P w K mg base 1 "Board" "lines" ["self"] (N5 mg):=by
 refine BZ T.m_Board_lines vR (fun _ _ _ _ _ _ us hl=>L2.p7 (fun _=>rfl) us hl) ?_ fun f cdv A outer s H vs Q E hr h=>?_
 ·rintro vs H Q E ⟨b,side,top,rfl,_⟩;rfl
 obtain ⟨b,side,top,rfl,⟨hs,ht,dx,ac,am,al,aw,hb,hO⟩,q⟩:=h
 have hu:=hr.units0
 have hu64:=hr.units
 refine ⟨_,(aA (aK (vo (vd (K:=K) rfl rfl) aN T.b_list jP (aa (pY (K:=K) rfl (aq 0)) ao) (by trivial) (by trivial)))),?_⟩
 walk_at "s"
 obtain ⟨R,hR,hE⟩:=hO.lines
 refine ⟨b,_,dx,_,_,rfl,hb,T.o_Board.cl,T.n_Board _ (by simp),rfl,?_⟩
 walk_at "s"
 refine Mj (SqL.of hR) fun l nl=>?_
 walk_at "s"
 exact q l R _ nl ((Same.refl H).upd nl) hE aj
end
local macro_rules | `(tactic| walk_at "s") => `(tactic| (with_reducible repeat (first | refine j4 ?_ | walk_at "1")))
local macro_rules | `(tactic| walk_at "n") => `(tactic| (with_reducible repeat (walk_at "1")))
section
variable {P:Program} {w:World} {K:W.Frag} {mg:Str->Option Value} {base:Heap}
theorem R6 {H:Hp} {v:V} {T:String} (h:TyOf K H v (.type T)) (k:PySem.W.kitOne K (.type T) (.type "int")=some false):Vw v=false/\∀ lo hi,inB v lo hi=false:=by
 cases v with
 | int z=>
  cases h
  have:PySem.W.kitOne K (.type "int") (.type "int")=some true:=rfl
  rw [this] at k;cases k
 | _=>exact ⟨rfl,fun _ _=>rfl⟩
def JZ (K:W.Frag):Sp:=fun vs H Q _=>∃ v:V,vs=[v]/\Kd K H v/\Q (.bl (Vw v)) H
theorem yG:aF ["thing"] ["thing"] (az oG):=⟨rfl,rfl,rfl,by trivial,rfl,by trivial,by trivial⟩
theorem oU (T:Txt K mg):jN P w K mg base 1 "is_number" ["thing"] (JZ K):=by
 refine dZ T.d_is_number yG (fun _ _ _ _ _ _ us hl=>L2.p7 (fun _=>rfl) us hl) ?_ fun f cdv A outer s H vs Q E hr h=>?_
 ·rintro vs H Q E ⟨v,rfl,_⟩;rfl
 obtain ⟨v,rfl,hT,q⟩:=h
 have hu:=hr.units0
 have hu64:=hr.units
 refine ⟨_,(aA (aK (vm (aD (bU (K:=K) rfl) aN T.b_isinstance aM (aa (aq 0) (aa (nU aN T.b_int yf (by trivial) (by trivial)) ao)) (by trivial) (by trivial)) (zG (O6 (aD (bU (K:=K) rfl) aN T.b_isinstance aM (aa (aq 0) (aa (nU aN T.b_bool uH (by trivial) (by trivial)) ao)) (by trivial) (by trivial))))))),?_⟩
 walk_at "s"
 rcases hT with ⟨n,rfl⟩ | ⟨b,rfl⟩ | ⟨T',hty,hk⟩
 ·refine ie (.int _) rfl ?_
  walk_at "s"
  refine ie (.int _) rfl ?_
  walk_at "s"
  exact q
 ·refine ie (.bl _) (b:=true) (by rfl) ?_
  walk_at "s"
  refine ie (.bl _) (b:=true) (by rfl) ?_
  walk_at "s"
  exact q
 ·refine ie hty hk ?_
  walk_at "s"
  rw [(R6 hty hk).1] at q
  exact q
def J3 (K:W.Frag):Sp:=fun vs H Q _=>∃ (v:V) (lo hi:Int),vs=[v,.int lo,.int hi]/\Kd K H v/\Q (.bl (inB v lo hi)) H
theorem yH:aF ["thing","low","high"] ["thing","low","high"] (az oH):=⟨rfl,rfl,rfl,by trivial,rfl,by trivial,by trivial⟩
theorem dG (T:Txt K mg):jN P w K mg base 2 "is_within" ["thing","low","high"] (J3 K):=by
 have oU:=oU (P:=P) (w:=w) (base:=base) T
 refine dZ T.d_is_within yH (fun _ _ _ _ _ _ us hl=>L2.pN (fun _ _ _=>rfl) us hl) ?_ fun f cdv A outer s H vs Q E hr h=>?_
 ·rintro vs H Q E ⟨v,lo,hi,rfl,_⟩;rfl
 obtain ⟨v,lo,hi,rfl,hT,q⟩:=h
 have hu:=hr.units0
 have hu64:=hr.units
 refine ⟨_,(aA (aK (vm (aH oU (hr.mono (by decide)) aN (aa (aq 0) ao) (by trivial)) (zG (Ms G9 G9 (aq 1) (aq 0) (aq 2)))))),?_⟩
 walk_at "s"
 refine ⟨v,rfl,hT,?_⟩
 walk_at "s"
 cases v with
 | int n=>
  show if true=true then _ else _
  walk_at "s"
  show if decide (lo<=n)=true then _ else _
  unfold inB at q
  dsimp only at q
  by_cases h:lo<=n
  ·rw [W0 h] at q ⊢
   rw [Bool.true_and] at q
   walk_at "s"
   exact q
  ·rw [W2 h] at q ⊢
   rw [Bool.false_and] at q
   walk_at "s"
   exact q
 | _=>exact q
def DY (K:W.Frag):Sp:=fun vs H Q _=>∃ (n lo hi:Int),vs=[.int n,.int lo,.int hi]/\lo<=n/\n<=hi/\Q .non H
theorem ww:aF ["thing","low","high"] ["thing","low","high"] (az mU):=⟨rfl,rfl,rfl,by trivial,rfl,by trivial,by trivial⟩
theorem bQ (T:Txt K mg):jN P w K mg base 3 "need_place" ["thing","low","high"] (DY K):=by
 have dG:=dG (P:=P) (w:=w) (base:=base) T
 refine dZ T.d_need_place ww (fun _ _ _ _ _ _ us hl=>L2.pN (fun _ _ _=>rfl) us hl) ?_ fun f cdv A outer s H vs Q E hr h=>?_
 ·rintro vs H Q E ⟨n,lo,hi,rfl,_⟩;rfl
 obtain ⟨n,lo,hi,rfl,h1,h2,q⟩:=h
 have hu:=hr.units0
 have hu64:=hr.units
 refine ⟨_,(aA (bM (bV (bO (aH dG (hr.mono (by decide)) aN (aa (aq 0) (aa (aq 1) (aa (aq 2) ao))) (by trivial)))) (aA oh) bx)),?_⟩
 walk_at "s"
 refine ⟨.int n,lo,hi,rfl,.inl ⟨_,rfl⟩,?_⟩
 walk_at "s"
 have hb:inB (.int n) lo hi=true:=by unfold inB;simp;omega
 rw [hb]
 walk_at "s"
 exact q
theorem gm (t:List Nat):((nI t).map V.int).length=t.length:=by unfold nI;rw [Ws,Ws]
theorem Pr {t:List Nat} {k:Nat} {v:V} (h:((nI t).map V.int)[k]?=some v):∃ i,t[k]?=some i/\v= .int (i:Int):=by
 unfold nI at h
 rw [Wo,Wo] at h
 cases e:t[k]? with
 | none=>rw [e] at h;cases h
 | some y=>rw [e] at h;exact ⟨y,rfl,(WR h).symm⟩
theorem VB {n p:Nat} {j:Int} (hj:j=(p:Int)) (h:p < n):Df n j=some p:=by
 subst hj
 unfold Df
 rw [if_pos (by omega),if_pos (by omega)]
 simp
def R7 (K:W.Frag):Sp:=fun vs H Q _=>∃ (b e m:Int),vs=[.int b,.int e,.int m]/\0<=b/\b<=e/\e<=m/\Q (.bl true) H
theorem Cj:aF ["begin","end","many"] ["begin","end","many"] (az sU):=⟨rfl,rfl,rfl,by trivial,rfl,by trivial,by trivial⟩
theorem tL (T:Txt K mg):jN P w K mg base 3 "is_span" ["begin","end","many"] (R7 K):=by
 have dG:=dG (P:=P) (w:=w) (base:=base) T
 refine dZ T.d_is_span Cj (fun _ _ _ _ _ _ us hl=>L2.pN (fun _ _ _=>rfl) us hl) ?_ fun f cdv A outer s H vs Q E hr h=>?_
 ·rintro vs H Q E ⟨b,e,m,rfl,_⟩;rfl
 obtain ⟨b,e,m,rfl,h1,h2,h3,q⟩:=h
 have hu:=hr.units0
 have hu64:=hr.units
 refine ⟨_,(aA (aK (vm (aH dG (hr.mono (by decide)) aN (aa (aq 0) (aa aC (aa (aq 2) ao))) (by trivial)) (zG (aH dG (hr.mono (by decide)) aN (aa (aq 1) (aa (aq 0) (aa (aq 2) ao))) (by trivial)))))),?_⟩
 walk_at "s"
 refine ⟨_,_,_,rfl,.inl ⟨_,rfl⟩,?_⟩
 walk_at "s"
 rw [show inB (.int b) 0 m=true by unfold inB;simp;omega]
 walk_at "s"
 refine ⟨_,_,_,rfl,.inl ⟨_,rfl⟩,?_⟩
 walk_at "s"
 rw [show inB (.int e) b m=true by unfold inB;simp;omega]
 exact q
def N6 (K:W.Frag):Sp:=fun vs H Q _=>∃ (b e m:Int),vs=[.int b,.int e,.int m]/\0<=b/\b<=e/\e<=m/\Q .non H
theorem yI:aF ["begin","end","many"] ["begin","end","many"] (az oJ):=⟨rfl,rfl,rfl,by trivial,rfl,by trivial,by trivial⟩
theorem lB (T:Txt K mg):jN P w K mg base 4 "need_span" ["begin","end","many"] (N6 K):=by
 have tL:=tL (P:=P) (w:=w) (base:=base) T
 refine dZ T.d_need_span yI (fun _ _ _ _ _ _ us hl=>L2.pN (fun _ _ _=>rfl) us hl) ?_ fun f cdv A outer s H vs Q E hr h=>?_
 ·rintro vs H Q E ⟨b,e,m,rfl,_⟩;rfl
 obtain ⟨b,e,m,rfl,h1,h2,h3,q⟩:=h
 have hu:=hr.units0
 have hu64:=hr.units
 refine ⟨_,(aA (bM (bV (bO (aH tL (hr.mono (by decide)) aN (aa (aq 0) (aa (aq 1) (aa (aq 2) ao))) (by trivial)))) (aA oh) bx)),?_⟩
 walk_at "s"
 refine ⟨b,e,m,rfl,h1,h2,h3,?_⟩
 walk_at "s"
 exact q
theorem oV {H:Hp} {Q:VK} {E:XK} {n lo hi:Int} (h1:lo<=n) (h2:n<=hi) (h:Q .non H):DY K [.int n,.int lo,.int hi] H Q E:=⟨n,lo,hi,rfl,h1,h2,h⟩
def Tn (H:Hp) (a:Addr) (t:List Nat):Prop:=H a=some (.lst ((nI t).map V.int))\/H a=some (.tup ((nI t).map V.int))
theorem Tn.same {H H':Hp} {a:Addr} {t:List Nat} (h:Tn H a t) (s:Same H H'):Tn H' a t:=h.imp (s _ _) (s _ _)
def N7 (us:List V):Bool:=decide (us.length<=96) && (us.all fun u=>inB u 0 ((us.length:Int) - 1)) && decide us.Nodup
theorem Ea {us:List V} (h:96 < us.length):N7 us=false:=by unfold N7;rw [W2 (by omega)];rfl
theorem J5 {us:List V} {u:V} (h:u∈us) (hb:inB u 0 ((us.length:Int) - 1)=false):N7 us=false:=by
 unfold N7
 have:(us.all fun u=>inB u 0 ((us.length:Int) - 1))=false:=List.all_eq_false.mpr ⟨u,h,by rw [hb];simp⟩
 rw [this,Bool.and_false,Bool.false_and]
theorem J6 {us:List V} {k:Nat} {u:V} (h:us[k]?=some u) (hm:u∈us.take k):N7 us=false:=by
 have:¬ us.Nodup:=fun nd=>by
  obtain ⟨i,hi,e⟩:=XR.mp hm
  obtain ⟨hk,e2⟩:=Wm.mp h
  rw [Yk] at hi
  rw [List.getElem_take] at e
  exact Yt.mp nd i k (by omega) hk (by omega) (e.trans e2.symm)
 unfold N7
 rw [W2 this,Bool.and_false]
theorem J7 {us:List V} (h:us.length<=96) (hin:∀ u∈us,inB u 0 ((us.length:Int) - 1)=true) (hnd:us.Nodup):N7 us=true:=by
 unfold N7
 rw [W0 h,W0 hnd,Yl.mpr hin];rfl
theorem vU {us:List V} {v:V} (h:us.Nodup) (hm:v ∉ us):(us ++ [v]).Nodup:=by
 refine YB.mpr ⟨h,by simp,fun a ha b hb=>?_⟩
 rw [WP.mp hb]
 exact fun z=>hm (z ▸ ha)
theorem Eb {v:V} {h:Int} (hb:inB v 0 h=true):∃ i:Nat,v= .int (i:Int)/\(i:Int)<=h:=by
 cases v with
 | int n=>
  unfold inB at hb
  simp at hb
  exact ⟨n.toNat,by rw [Int.toNat_of_nonneg hb.1],by omega⟩
 | _=>cases hb
def TnK (K:W.Frag) (H:Hp) (v:V) (b:Bool):Prop:=(∃ a us,v= .ref a/\(H a=some (.lst us)\/H a=some (.tup us))/\us.length<=10000/\(∀ u∈us,Kd K H u)/\b=N7 us)\/
 ∃ T,TyOf K H v (.type T)/\PySem.W.kitAny K (.type T) [.type "list",.type "tuple"]=some false/\b=false
theorem N8 {H:Hp} {a:Addr} {t:List Nat} (h:Tn H a t) (hP:Prm t):TnK K H (.ref a) true:=by
 have hle:=hP.le
 refine .inl ⟨a,_,rfl,h,by rw [gm];omega,fun u hu=>?_,?_⟩
 ·obtain ⟨x,_,rfl⟩:=Xg.mp hu
  exact .inl ⟨x,rfl⟩
 ·refine (J7 (by rw [gm];exact hle) (fun u hu=>?_) ?_).symm
  ·obtain ⟨x,hx,rfl⟩:=Xg.mp hu
   unfold nI at hx
   obtain ⟨y,hy,rfl⟩:=Xg.mp hx
   have:=hP.lt hy
   rw [gm]
   unfold inB
   simp;omega
  ·unfold nI List.Nodup
   rw [Yx,Ze]
   exact hP.nd.imp fun {x y} h z=>h (by have e:((x:Nat):Int)=((y:Nat):Int):=V.int.inj z;omega)
def R8 (K:W.Frag):Sp:=fun vs H Q _=>∃ (v:V) (b:Bool),vs=[v]/\TnK K H v b/\∀ H',Same H H'->Q (.bl b) H'
theorem lO:aF ["thing","seen","end"] ["thing"] (az mY):=⟨rfl,rfl,rfl,by trivial,rfl,by trivial,by trivial⟩
theorem nF (T:Txt K mg):jN P w K mg base 3 "is_turning" ["thing"] (R8 K):=by
 have dG:=dG (P:=P) (w:=w) (base:=base) T
 refine dZ T.d_is_turning lO (fun _ _ _ _ _ _ us hl=>L2.p7 (fun _=>rfl) us hl) ?_ fun f cdv A outer s H vs Q E hr h=>?_
 ·rintro vs H Q E ⟨v,bb,rfl,_⟩;rfl
 obtain ⟨v,bb,rfl,h,q⟩:=h
 have hu:=hr.units0
 have hu64:=hr.units
 refine ⟨_,(au (bM (gF (iy (bV (bO (aD (sH (K:=K) rfl) aN T.b_isinstance aM (aa (aq 0) (aa (gw (aa (nU aN T.b_list jP (by trivial) (by trivial)) (aa (nU aN T.b_tuple zB (by trivial) (by trivial)) ao))) ao)) (by trivial) (by trivial)))) (gC (bu qR (aD (aG (K:=K) rfl) aN T.b_len bc (aa (aq 0) ao) (by trivial) (by trivial)) (Bv aN T.c_MOST_LINES (by trivial)) (by walk_at "p"))))) (aA (aK iw)) bx) (au (aJ (i:=1) lO.nd rfl bT M5 rfl) (au (du Xa rfl (d8 (K:=K) rfl (aq 0)) (aY (i:=2) lO.nd rfl bT rfl) (au (bM (gF (iy (bV (bO (aH dG (hr.mono (by decide)) aN (aa (aq 2) (aa aC (aa (aZ gQ (aD (aG (K:=K) rfl) aN T.b_len bc (aa (aq 0) ao) (by trivial) (by trivial)) aC) ao))) (by trivial)))) (gC (bu (Jj (K:=K) rfl hu64) (aq 2) (aq 1) (by walk_at "p"))))) (aA (aK iw)) bx) (aA (uJ (ts:=Pj) iw (yg (aq 1) (aq 2) (Ng hu64)))))) (aA (aK iw))))),?_⟩
 walk_at "s"
 have hs:20000<=sizeLine:=by decide
 rcases h with ⟨a,us,rfl,ha,hlen,hkd,rfl⟩ | ⟨T',hty,hk,rfl⟩
 ·rcases ha with ha | ha
  ·skip
   refine jL rfl fun p np=>?_
   walk_at "s"
   have ha1:upd H p (.tup [.ty "list",.ty "tuple"]) a=some (.lst us):=aX np ha
   refine yo (.lst ha1) aj rfl (b:=true) (by rfl) ?_
   walk_at "s"
   refine gU (SqL.of ha1) ?_
   walk_at "s"
   by_cases h96:96 < us.length
   ·rw [W0 (show (96:Int) < (us.length:Int) by omega)]
    rw [Ea h96] at q
    walk_at "s"
    exact q _ ((Same.refl H).upd np)
   rw [W2 (show ¬ (96:Int) < (us.length:Int) by omega)]
   walk_at "s"
   intro d nd
   have S1:Same H (upd (upd H p (.tup [.ty "list",.ty "tuple"])) d (.dK [])):=((Same.refl H).upd np).upd nd
   have hd0:upd (upd H p (.tup [.ty "list",.ty "tuple"])) d (.dK []) d=some (.dK []):=aj
   have nd':H d=none:=Same.back ((Same.refl H).upd np) nd
   generalize upd (upd H p (.tup [.ty "list",.ty "tuple"])) d (.dK [])=H1 at S1 hd0 ⊢
   walk_at "s"
   refine .inl ⟨a,rfl,⟨_,SqL.of (S1 _ _ ha)⟩,?_⟩
   refine jZ (xs:=us) (fun k U H'=>∃ (kvs:List (Key×V)) (x2:Option V),U=[some (.ref a),some (.ref d),x2]/\Same H H'/\H' d=some (.dK kvs)/\kvs.length<=k/\(∀ n:Nat,j0 kvs (Sum.inl (n:Int))=if V.int (n:Int)∈us.take k then some (.bl true) else none)/\(∀ u∈us.take k,inB u 0 ((us.length:Int) - 1)=true)/\(us.take k).Nodup)
    ⟨[],_,rfl,S1,hd0,by simp,fun n=>by simp [zp],by simp,by simp⟩ (fun i U H' _ h=>?_) ?_ ?_
   ·obtain ⟨_,_,_,s,_⟩:=h
    exact SqL.of (s _ _ ha)
   ·rintro k v U H' hk ⟨kvs,x2,rfl,s,hd,hkl,hv,hin,hnd⟩
    have hkt:k < us.length:=(Wm.mp hk).1
    have hmem:=WW hk
    walk_at "s"
    refine gU (SqL.of (s _ _ ha)) ?_
    walk_at "s"
    refine ⟨_,_,_,rfl,(hkd v hmem).same s,?_⟩
    walk_at "s"
    cases hb:inB v 0 ((us.length:Int) - 1) with
    | false=>
     rw [J5 hmem hb] at q
     walk_at "s"
     exact q _ s
    | true=>
     obtain ⟨i,rfl,hi⟩:=Eb hb
     walk_at "s"
     refine .inr ⟨d,_,rfl,DGet.k (k:=Sum.inl (i:Int)) hd,?_⟩
     rw [hv i]
     by_cases hm:V.int (i:Int)∈us.take k
     ·rw [if_pos hm,show (some (V.bl true)).isSome=true from rfl]
      rw [J6 hk hm] at q
      walk_at "s"
      exact q _ s
     ·rw [if_neg hm,show (none:Option V).isSome=false from rfl]
      walk_at "s"
      refine .inr ⟨d,_,rfl,DPut.k (k:=Sum.inl (i:Int)) hd (by omega),?_⟩
      have tk:us.take (k+1)=us.take k ++ [V.int (i:Int)]:=by rw [Yp,hk];rfl
      refine ⟨_,_,rfl,Same.put s nd',aj,WY (kZ _ _ _) (by omega),fun n=>?_,fun u hu=>?_,?_⟩
      ·rw [zr,hv n,tk]
       by_cases hn:n=i
       ·subst hn;simp
       ·rw [if_neg (fun z=>hn (by have:=Sum.inl.inj z;omega))]
        have hne:¬ V.int (n:Int)=V.int (i:Int):=fun z=>hn (by have:=V.int.inj z;omega)
        simp [hne]
      ·rw [tk] at hu
       rcases Xi.mp hu with h | h
       ·exact hin u h
       ·rw [WP.mp h];exact hb
      ·rw [tk]
       exact vU hnd hm
   ·rintro U H' ⟨kvs,x2,rfl,s,hd,_,_,hin,hnd⟩
    rw [List.take_length] at hin hnd
    rw [J7 (by omega) hin hnd] at q
    walk_at "s"
    exact q _ s
  ·skip
   refine jL rfl fun p np=>?_
   walk_at "s"
   have ha1:upd H p (.tup [.ty "list",.ty "tuple"]) a=some (.tup us):=aX np ha
   refine yo (.tup ha1) aj rfl (b:=true) (by rfl) ?_
   walk_at "s"
   refine vg (SqT.of ha1) ?_
   walk_at "s"
   by_cases h96:96 < us.length
   ·rw [W0 (show (96:Int) < (us.length:Int) by omega)]
    rw [Ea h96] at q
    walk_at "s"
    exact q _ ((Same.refl H).upd np)
   rw [W2 (show ¬ (96:Int) < (us.length:Int) by omega)]
   walk_at "s"
   intro d nd
   have S1:Same H (upd (upd H p (.tup [.ty "list",.ty "tuple"])) d (.dK [])):=((Same.refl H).upd np).upd nd
   have hd0:upd (upd H p (.tup [.ty "list",.ty "tuple"])) d (.dK []) d=some (.dK []):=aj
   have nd':H d=none:=Same.back ((Same.refl H).upd np) nd
   generalize upd (upd H p (.tup [.ty "list",.ty "tuple"])) d (.dK [])=H1 at S1 hd0 ⊢
   walk_at "s"
   refine .inr (.inl ⟨a,rfl,⟨_,SqT.of (S1 _ _ ha)⟩,?_⟩)
   refine Le (xs:=us) (fun k U H'=>∃ (kvs:List (Key×V)) (x2:Option V),U=[some (.ref a),some (.ref d),x2]/\Same H H'/\H' d=some (.dK kvs)/\kvs.length<=k/\(∀ n:Nat,j0 kvs (Sum.inl (n:Int))=if V.int (n:Int)∈us.take k then some (.bl true) else none)/\(∀ u∈us.take k,inB u 0 ((us.length:Int) - 1)=true)/\(us.take k).Nodup)
    ⟨[],_,rfl,S1,hd0,by simp,fun n=>by simp [zp],by simp,by simp⟩ (fun i U H' _ h=>?_) ?_ ?_
   ·obtain ⟨_,_,_,s,_⟩:=h
    exact SqT.of (s _ _ ha)
   ·rintro k v U H' hk ⟨kvs,x2,rfl,s,hd,hkl,hv,hin,hnd⟩
    have hkt:k < us.length:=(Wm.mp hk).1
    have hmem:=WW hk
    walk_at "s"
    refine vg (SqT.of (s _ _ ha)) ?_
    walk_at "s"
    refine ⟨_,_,_,rfl,(hkd v hmem).same s,?_⟩
    walk_at "s"
    cases hb:inB v 0 ((us.length:Int) - 1) with
    | false=>
     rw [J5 hmem hb] at q
     walk_at "s"
     exact q _ s
    | true=>
     obtain ⟨i,rfl,hi⟩:=Eb hb
     walk_at "s"
     refine .inr ⟨d,_,rfl,DGet.k (k:=Sum.inl (i:Int)) hd,?_⟩
     rw [hv i]
     by_cases hm:V.int (i:Int)∈us.take k
     ·rw [if_pos hm,show (some (V.bl true)).isSome=true from rfl]
      rw [J6 hk hm] at q
      walk_at "s"
      exact q _ s
     ·rw [if_neg hm,show (none:Option V).isSome=false from rfl]
      walk_at "s"
      refine .inr ⟨d,_,rfl,DPut.k (k:=Sum.inl (i:Int)) hd (by omega),?_⟩
      have tk:us.take (k+1)=us.take k ++ [V.int (i:Int)]:=by rw [Yp,hk];rfl
      refine ⟨_,_,rfl,Same.put s nd',aj,WY (kZ _ _ _) (by omega),fun n=>?_,fun u hu=>?_,?_⟩
      ·rw [zr,hv n,tk]
       by_cases hn:n=i
       ·subst hn;simp
       ·rw [if_neg (fun z=>hn (by have:=Sum.inl.inj z;omega))]
        have hne:¬ V.int (n:Int)=V.int (i:Int):=fun z=>hn (by have:=V.int.inj z;omega)
        simp [hne]
      ·rw [tk] at hu
       rcases Xi.mp hu with h | h
       ·exact hin u h
       ·rw [WP.mp h];exact hb
      ·rw [tk]
       exact vU hnd hm
   ·rintro U H' ⟨kvs,x2,rfl,s,hd,_,_,hin,hnd⟩
    rw [List.take_length] at hin hnd
    rw [J7 (by omega) hin hnd] at q
    walk_at "s"
    exact q _ s
 ·refine jL rfl fun p np=>?_
  walk_at "s"
  refine yo (hty.mono fun b o e _=>aX np e) aj rfl hk ?_
  walk_at "s"
  exact q _ ((Same.refl H).upd np)
def Oa (K:W.Frag):Sp:=fun vs H Q _=>∃ (a:Addr) (t:List Nat),vs=[.ref a]/\Tn H a t/\Prm t/\∀ H',Same H H'->Q .non H'
theorem uD:aF ["thing"] ["thing"] (az km):=⟨rfl,rfl,rfl,by trivial,rfl,by trivial,by trivial⟩
theorem eG (T:Txt K mg):jN P w K mg base 4 "need_turning" ["thing"] (Oa K):=by
 have nF:=nF (P:=P) (w:=w) (base:=base) T
 refine dZ T.d_need_turning uD (fun _ _ _ _ _ _ us hl=>L2.p7 (fun _=>rfl) us hl) ?_ fun f cdv A outer s H vs Q E hr h=>?_
 ·rintro vs H Q E ⟨a,t,rfl,_⟩;rfl
 obtain ⟨a,t,rfl,ha,hP,q⟩:=h
 have hu:=hr.units0
 have hu64:=hr.units
 refine ⟨_,(aA (bM (bV (bO (aH nF (hr.mono (by decide)) aN (aa (aq 0) ao) (by trivial)))) (aA oh) bx)),?_⟩
 walk_at "s"
 refine ⟨.ref a,true,rfl,N8 ha hP,fun H1 S1=>?_⟩
 walk_at "s"
 walk_at "s"
 exact q H1 S1
end
local macro_rules | `(tactic| walk_at "s") => `(tactic| (with_reducible repeat (first | refine j4 ?_ | walk_at "2")))
local macro_rules | `(tactic| walk_at "n") => `(tactic| (with_reducible repeat (walk_at "2")))
section
variable {P:Program} {w:World} {K:W.Frag} {mg:Str->Option Value} {base:Heap}
theorem Ac:(["end","behind","line_end"]:List Str).Nodup:=by trivial
def Ck (t:List Nat) (b e:Nat):Nat:=(t.drop b).countP fun x=>decide (x < e)
def yJ (t:List Nat) (b:Nat):List Int:=(List.range (t.length+1)).map fun e=>((Ck t b e:Nat):Int)
theorem Cm {t:List Nat} {b e:Nat} {j:Int} (hj:j=(e:Int)) (h:e<=t.length):rR ((yJ t b).map V.int) j=some (.int ((Ck t b e:Nat):Int)):=by
 subst hj
 refine dO ?_
 unfold yJ
 rw [Wo,Wo,Xd (by omega)];rfl
theorem Ad {t:List Nat} {b x:Nat} (h:t[b]?=some x) (e:Nat):Ck t b e=Ck t (b+1) e+if x < e then 1 else 0:=by
 obtain ⟨hb,hx⟩:=Wm.mp h
 unfold Ck
 rw [List.drop_eq_getElem_cons hb,List.countP_cons,hx]
 by_cases c:x < e
 ·rw [if_pos (by simpa using c),if_pos c]
 ·rw [if_neg (by simpa using c),if_neg c]
theorem Ob (t:List Nat) (e:Nat):Ck t t.length e=0:=by unfold Ck;rw [List.drop_length];rfl
def CT (H:Hp) (rs:List V) (n:Nat) (f:Nat->List Int):Prop:=rs.length=n/\∀ k,k < n->∃ a,rs[k]?=some (.ref a)/\H a=some (.lst ((f k).map V.int))
theorem CT.same {H H':Hp} {rs:List V} {n:Nat} {f:Nat->List Int} (h:CT H rs n f) (s:Same H H'):CT H' rs n f:=⟨h.1,fun k hk=>by
 obtain ⟨a,e,ha⟩:=h.2 k hk
 exact ⟨a,e,s _ _ ha⟩⟩
theorem CT.push {H:Hp} {rs:List V} {n:Nat} {f:Nat->List Int} {a:Addr} (h:CT H rs n f) (ha:H a=some (.lst ((f n).map V.int))):CT H (rs ++ [.ref a]) (n+1) f:=⟨by rw [Xl,h.1];rfl,fun k hk=>by
 by_cases e:k=n
 ·subst e
  exact ⟨a,by rw [WN (by rw [h.1];exact Wq _),h.1,X6];rfl,ha⟩
 ·obtain ⟨b,e1,hb⟩:=h.2 k (by omega)
  exact ⟨b,by rw [WM (by rw [h.1];omega)];exact e1,hb⟩⟩
theorem CT.rev {H:Hp} {rs:List V} {n:Nat} {f:Nat->List Int} (h:CT H rs n f):CT H rs.reverse n fun k=>f (n - 1 - k):=⟨by rw [YH];exact h.1,fun k hk=>by
 obtain ⟨a,e,ha⟩:=h.2 (n - 1 - k) (by omega)
 exact ⟨a,by rw [List.getElem?_reverse (by rw [h.1];exact hk),h.1];exact e,ha⟩⟩
def J8:Sp:=fun vs H Q _=>∃ (a:Addr) (t:List Nat),vs=[.ref a]/\Tn H a t/\Prm t/\∀ q rs H',H q=none->Same H H'->H' q=some (.lst rs)->CT H' rs (t.length+1) (yJ t)->(∀ r,V.ref r∈rs->H r=none)->Q (.ref q) H'
theorem mG:aF ["turning","many","table","line_end","behind"] ["turning"] (az rG):=⟨rfl,rfl,rfl,by trivial,rfl,by trivial,by trivial⟩
theorem vV (T:Txt K mg):jN P w K mg base 5 "counts" ["turning"] J8:=by
 have eG:=eG (P:=P) (w:=w) (base:=base) T
 refine dZ T.d_counts mG (fun _ _ _ _ _ _ us hl=>L2.p7 (fun _=>rfl) us hl) ?_ fun f cdv A outer s H vs Q E hr h=>?_
 ·rintro vs H Q E ⟨a,t,rfl,_⟩;rfl
 obtain ⟨a,t,rfl,ha,hP,q⟩:=h
 have hu:=hr.units0
 have hu64:=hr.units
 refine ⟨_,(au (aL (aH eG (hr.mono (by decide)) aN (aa (aq 0) ao) (by trivial))) (au (aJ (i:=1) mG.nd rfl bT (aD (aG (K:=K) rfl) aN T.b_len bc (aa (aq 0) ao) (by trivial) (by trivial)) rfl) (au (aJ (i:=2) mG.nd rfl bT (dU (aa (aZ jO (dU (aa aC ao)) (aZ aV (aq 1) aC)) ao)) rfl) (au (du Xa rfl (Ni (K:=K) rfl aN T.b_reversed (aq 0)) (aY (i:=3) mG.nd rfl T3 rfl) (au (aJ (i:=4) mG.nd rfl T3 (bf (K:=K) rfl (aq 2) (Bw qd aC)) rfl) (aA (aL (bL (K:=K) rfl Wv Wy Wz aW (aq 2) (aa (gW (sub:=[none,some 4,some 3]) (bI (N:=["turning","many","table","line_end","behind"]) (sc:=az rG) (N':=["end","behind","line_end"]) (by trivial)) rfl rfl rfl (dI aN T.b_range (aa (aZ aV (aq 1) aC) ao)) (fun C s₀ H₀ ex=>(kY 0 (by trivial) Ac)) (fun C s₀ H₀ ex=>dq) (fun C s₀ H₀ ex=>(aZ aV (bf (K:=K) rfl (nO 1 (by trivial)) (fZ 0 (by trivial))) (j_if (bu t7 (nO 2 (by trivial)) (fZ 0 (by trivial)) (by walk_at "p")) aC aC)))) ao)))))) (aA (aK (xg (K:=K) rfl rfl aN T.b_list aN T.b_reversed (aq 2)))))))),?_⟩
 walk_at "s"
 have hsz:20000<=sizeLine:=by decide
 have hle:=hP.le
 refine ⟨a,t,rfl,ha,hP,fun H1 S1=>?_⟩
 walk_at "s"
 have hlen:∀ (n:Nat),n=t.length->n=t.length:=fun _ h=>h
 have step:∀ (R:V->Hp->Prop),R (.int (t.length:Int)) H1->Fw K [.ref a] H1 R:=fun R hR=>by
  rcases ha.same S1 with h | h
  ·refine gU (SqL.of h) ?_
   rw [gm];exact hR
  ·refine vg (SqT.of h) ?_
   rw [gm];exact hR
 refine step _ ?_
 walk_at "s"
 refine bK rfl fun p0 H2 _ S2 f2=>?_
 walk_at "s"
 refine yh f2 (by omega) (by omega) (by simp;omega) fun p1 np1=>?_
 have S3:=(Same.refl H2).upd np1 (o:=.lst (List.replicate ((t.length:Int)+1).toNat [V.int 0]).flatten)
 have f3:=aj (H:=H2) (a:=p1) (o:=.lst (List.replicate ((t.length:Int)+1).toNat [V.int 0]).flatten)
 generalize upd H2 p1 (.lst (List.replicate ((t.length:Int)+1).toNat [V.int 0]).flatten)=H3 at S3 f3 ⊢
 have f3':H3 p1=some (.lst ((yJ t (t.length - 0)).map V.int)):=by
  rw [f3,show ((t.length:Int)+1).toNat=t.length+1 by omega]
  congr 2
  unfold yJ
  rw [Yx]
  have:∀ n,(List.replicate n [V.int 0]).flatten=(List.range n).map fun _=>V.int 0:=fun n=>by
   induction n with
   | zero=>rfl
   | succ n ih=>rw [List.replicate_succ',List.flatten_append,ih,Xz,WT];rfl
  rw [this]
  refine YG fun e _=>?_
  show V.int 0=V.int ((Ck t (t.length - 0) e:Nat):Int)
  rw [Nat.sub_zero,Ob];rfl
 walk_at "s"
 refine bK rfl fun tb H4 ntb S4 f4=>?_
 walk_at "s"
 have U4:=S1.trans (S2.trans (S3.trans S4))
 have ntb0:H tb=none:=by
  have:=Same.back (S1.trans (S2.trans S3)) ntb
  exact this
 have C4:CT H4 [.ref p1] (0+1) fun k=>yJ t (t.length - k):=⟨rfl,fun k hk=>by
  obtain rfl:k=0:=by omega
  exact ⟨p1,rfl,S4 _ _ f3'⟩⟩
 have N4:∀ r,V.ref r∈[V.ref p1]->H r=none:=fun r hr=>by
  simp only [WD,Xb,or_false] at hr
  cases hr
  exact Same.back (S1.trans S2) np1
 rcases ha with ha | ha
 ·refine .inl ⟨a,_,rfl,SqL.of (U4 _ _ ha),?_⟩
  refine Nj (xs:=(nI t).map V.int) (fun i U G=>Same H G/\(∃ rs,G tb=some (.lst rs)/\(CT G rs (i+1) fun k=>yJ t (t.length - k))/\∀ r,V.ref r∈rs->H r=none)/\∃ x3 x4,U=[some (.ref a),some (.int (t.length:Int)),some (.ref tb),x3,x4])
   ⟨U4,⟨_,f4,C4,N4⟩,_,_,rfl⟩ (fun i U G _ h=>SqL.of (h.1 _ _ ha)) ?_ ?_
  ·rintro i x U G hi hx ⟨sG,⟨rs,htb,hC,hN⟩,x3,x4,rfl⟩
   rw [gm] at hi
   rw [gm] at hx
   obtain ⟨le,hle2,rfl⟩:=Pr hx
   obtain ⟨pb,epb,hpb⟩:=hC.2 i (by omega)
   have hrl:rs.length=i+1:=hC.1
   walk_at "s"
   refine aO (SqL.of htb) (Vo (n:=i) hrl epb) ?_
   walk_at "s"
   refine ⟨.inl ⟨rfl,_,SqL.of htb⟩,?_⟩
   walk_at "s"
   refine ⟨_,rfl,by omega,by omega,?_⟩
   rw [show ((t.length:Int)+1).toNat=t.length+1 by omega]
   refine sO (n:=t.length+1) (fun e=>.int ((Ck t (t.length - (i+1)) e:Nat):Int)) (by omega) ?_ ?_
   ·intro e he
    have ec:=Ad (t:=t) (b:=t.length - (i+1)) (x:=le) (by rw [show t.length - (i+1)=t.length - 1 - i by omega];exact hle2) e
    rw [show t.length - (i+1)+1=t.length - i by omega] at ec
    rw [Int.zero_add]
    walk_at "s"
    refine ⟨KeepSt.set rfl,?_⟩
    walk_at "s"
    refine aO (SqL.of hpb) (Cm rfl (by omega)) ?_
    walk_at "s"
    refine iJ (fun h=>?_) (fun h=>?_)
    ·walk_at "s"
     exact ⟨rfl,jf (by rw [ec,if_pos (by omega)];rfl)⟩
    ·walk_at "s"
     exact ⟨rfl,jf (by rw [ec,if_neg (by omega)];rfl)⟩
   ·intro nw G2 nnw s2 hnw
    walk_at "s"
    refine aQ (s2 _ _ htb) (by omega) ?_
    walk_at "s"
    have hnw':G2 nw=some (.lst ((yJ t (t.length - (i+1))).map V.int)):=by
     rw [hnw]
     unfold yJ
     rw [Yx];rfl
    have hne:∀ {b:Addr} {xs:List V},G2 b=some (.lst xs)->True:=fun _=>trivial
    have C2:=(hC.same s2).push hnw'
    refine ⟨Same.put (sG.trans s2) ntb0,⟨_,aj,⟨C2.1,fun k hk=>?_⟩,fun r hr=>(Xi.mp hr).elim (hN r) fun hr=>by
     simp only [WD,Xb,or_false] at hr
     cases hr
     exact Same.back sG nnw⟩,_,_,rfl⟩
    obtain ⟨b,e1,hb⟩:=C2.2 k hk
    refine ⟨b,e1,?_⟩
    rw [aB (fun z=>?_)]
    ·exact hb
    ·rw [z,s2 _ _ htb] at hb
     have e0:rs=(yJ t (t.length - k)).map V.int:=by injection hb with hb;injection hb
     obtain ⟨a0,ea0,_⟩:=hC.2 0 (by omega)
     rw [e0,Wo] at ea0
     cases hq:(yJ t (t.length - k))[0]? with
     | none=>rw [hq] at ea0;cases ea0
     | some v=>rw [hq] at ea0;cases ea0
  ·rintro U G ⟨sG,⟨rs,htb,hC,hN⟩,x3,x4,rfl⟩
   rw [gm] at hC
   walk_at "s"
   refine ⟨_,rfl,tb,rs,rfl,SqL.of htb,fun qq nqq=>?_⟩
   have s5:=(Same.refl G).upd nqq (o:=.lst rs.reverse)
   refine q qq rs.reverse _ (Same.back sG nqq) (sG.trans s5) aj ?_ fun r hr=>hN r (List.mem_reverse.mp hr)
   have:=hC.rev.same s5
   refine ⟨this.1,fun k hk=>?_⟩
   obtain ⟨b,e1,hb⟩:=this.2 k hk
   refine ⟨b,e1,?_⟩
   rw [hb]
   show some (HO.lst (List.map V.int (yJ t (t.length - (t.length+1 - 1 - k)))))=_
   rw [show t.length - (t.length+1 - 1 - k)=k by omega]
 ·refine .inr ⟨a,_,rfl,SqT.of (U4 _ _ ha),by rw [gm];omega,?_⟩
  refine Nk (xs:=(nI t).map V.int) (by rw [gm];omega) (fun i U G=>Same H G/\(∃ rs,G tb=some (.lst rs)/\(CT G rs (i+1) fun k=>yJ t (t.length - k))/\∀ r,V.ref r∈rs->H r=none)/\∃ x3 x4,U=[some (.ref a),some (.int (t.length:Int)),some (.ref tb),x3,x4])
   ⟨U4,⟨_,f4,C4,N4⟩,_,_,rfl⟩ (fun i U G _ h=>SqT.of (h.1 _ _ ha)) ?_ ?_
  ·rintro i x U G hi hx ⟨sG,⟨rs,htb,hC,hN⟩,x3,x4,rfl⟩
   rw [gm] at hi
   rw [gm] at hx
   obtain ⟨le,hle2,rfl⟩:=Pr hx
   obtain ⟨pb,epb,hpb⟩:=hC.2 i (by omega)
   have hrl:rs.length=i+1:=hC.1
   walk_at "s"
   refine aO (SqL.of htb) (Vo (n:=i) hrl epb) ?_
   walk_at "s"
   refine ⟨.inl ⟨rfl,_,SqL.of htb⟩,?_⟩
   walk_at "s"
   refine ⟨_,rfl,by omega,by omega,?_⟩
   rw [show ((t.length:Int)+1).toNat=t.length+1 by omega]
   refine sO (n:=t.length+1) (fun e=>.int ((Ck t (t.length - (i+1)) e:Nat):Int)) (by omega) ?_ ?_
   ·intro e he
    have ec:=Ad (t:=t) (b:=t.length - (i+1)) (x:=le) (by rw [show t.length - (i+1)=t.length - 1 - i by omega];exact hle2) e
    rw [show t.length - (i+1)+1=t.length - i by omega] at ec
    rw [Int.zero_add]
    walk_at "s"
    refine ⟨KeepSt.set rfl,?_⟩
    walk_at "s"
    refine aO (SqL.of hpb) (Cm rfl (by omega)) ?_
    walk_at "s"
    refine iJ (fun h=>?_) (fun h=>?_)
    ·walk_at "s"
     exact ⟨rfl,jf (by rw [ec,if_pos (by omega)];rfl)⟩
    ·walk_at "s"
     exact ⟨rfl,jf (by rw [ec,if_neg (by omega)];rfl)⟩
   ·intro nw G2 nnw s2 hnw
    walk_at "s"
    refine aQ (s2 _ _ htb) (by omega) ?_
    walk_at "s"
    have hnw':G2 nw=some (.lst ((yJ t (t.length - (i+1))).map V.int)):=by
     rw [hnw]
     unfold yJ
     rw [Yx];rfl
    have hne:∀ {b:Addr} {xs:List V},G2 b=some (.lst xs)->True:=fun _=>trivial
    have C2:=(hC.same s2).push hnw'
    refine ⟨Same.put (sG.trans s2) ntb0,⟨_,aj,⟨C2.1,fun k hk=>?_⟩,fun r hr=>(Xi.mp hr).elim (hN r) fun hr=>by
     simp only [WD,Xb,or_false] at hr
     cases hr
     exact Same.back sG nnw⟩,_,_,rfl⟩
    obtain ⟨b,e1,hb⟩:=C2.2 k hk
    refine ⟨b,e1,?_⟩
    rw [aB (fun z=>?_)]
    ·exact hb
    ·rw [z,s2 _ _ htb] at hb
     have e0:rs=(yJ t (t.length - k)).map V.int:=by injection hb with hb;injection hb
     obtain ⟨a0,ea0,_⟩:=hC.2 0 (by omega)
     rw [e0,Wo] at ea0
     cases hq:(yJ t (t.length - k))[0]? with
     | none=>rw [hq] at ea0;cases ea0
     | some v=>rw [hq] at ea0;cases ea0
  ·rintro U G ⟨sG,⟨rs,htb,hC,hN⟩,x3,x4,rfl⟩
   rw [gm] at hC
   walk_at "s"
   refine ⟨_,rfl,tb,rs,rfl,SqL.of htb,fun qq nqq=>?_⟩
   have s5:=(Same.refl G).upd nqq (o:=.lst rs.reverse)
   refine q qq rs.reverse _ (Same.back sG nqq) (sG.trans s5) aj ?_ fun r hr=>hN r (List.mem_reverse.mp hr)
   have:=hC.rev.same s5
   refine ⟨this.1,fun k hk=>?_⟩
   obtain ⟨b,e1,hb⟩:=this.2 k hk
   refine ⟨b,e1,?_⟩
   rw [hb]
   show some (HO.lst (List.map V.int (yJ t (t.length - (t.length+1 - 1 - k)))))=_
   rw [show t.length - (t.length+1 - 1 - k)=k by omega]
end
local macro_rules | `(tactic| walk_at "s") => `(tactic| (with_reducible repeat (first | refine j4 ?_ | walk_at "3")))
local macro_rules | `(tactic| walk_at "n") => `(tactic| (with_reducible repeat (walk_at "3")))
section
variable {P:Program} {w:World} {K:W.Frag} {mg:Str->Option Value} {base:Heap}
def We (ae ac:Addr):List (Str×V):=[("held_ends",.ref ae),("held_counts",.ref ac)]
structure TyO (H:Hp) (t:List Nat) (ae ac:Addr) (rs:List V):Prop where
 ends:H ae=some (.lst ((nI t).map V.int))
 cnts:H ac=some (.lst rs)
 rows:CT H rs (t.length+1) (yJ t)
def Ty (mg:Str->Option Value) (H:Hp) (x:Addr) (t:List Nat):Prop:=Prm t/\∃ dx ae ac rs,H x=some (.ins (aP mg "Tally") dx (We ae ac))/\TyO H t ae ac rs
def TyD (mg:Str->Option Value) (D:Addr->Prop) (H:Hp) (x:Addr) (t:List Nat):Prop:=Prm t/\∃ dx ae ac rs,H x=some (.ins (aP mg "Tally") dx (We ae ac))/\TyO H t ae ac rs/\¬ D x/\¬ D ae/\¬ D ac/\∀ r,V.ref r∈rs->¬ D r
theorem TyD.ty {H:Hp} {D:Addr->Prop} {x:Addr} {t:List Nat} (h:TyD mg D H x t):Ty mg H x t:=by
 obtain ⟨hP,dx,ae,ac,rs,hx,hO,_⟩:=h
 exact ⟨hP,dx,ae,ac,rs,hx,hO⟩
theorem TyD.sub {H:Hp} {D D':Addr->Prop} {x:Addr} {t:List Nat} (h:TyD mg D H x t) (s:∀ g,D' g->D g):TyD mg D' H x t:=by
 obtain ⟨hP,dx,ae,ac,rs,hx,hO,n1,n2,n3,n4⟩:=h
 exact ⟨hP,dx,ae,ac,rs,hx,hO,fun z=>n1 (s _ z),fun z=>n2 (s _ z),fun z=>n3 (s _ z),fun r hr z=>n4 r hr (s _ z)⟩
theorem Wf {D:Addr->Prop} {x g:Addr} (h:¬ D x) (hg:D g):x≠g:=fun z=>h (by rw [z];exact hg)
theorem TyD.put {H:Hp} {D:Addr->Prop} {g x:Addr} {t:List Nat} {o:HO} (h:TyD mg D H x t) (hg:D g):TyD mg D (upd H g o) x t:=by
 obtain ⟨hP,dx,ae,ac,rs,hx,hO,n1,n2,n3,n4⟩:=h
 refine ⟨hP,dx,ae,ac,rs,by rw [aB (Wf n1 hg)];exact hx,⟨by rw [aB (Wf n2 hg)];exact hO.ends,by rw [aB (Wf n3 hg)];exact hO.cnts,hO.rows.1,fun k hk=>?_⟩,n1,n2,n3,n4⟩
 obtain ⟨b,e,hb⟩:=hO.rows.2 k hk
 exact ⟨b,e,by rw [aB (Wf (n4 b (WW e)) hg)];exact hb⟩
def Oc (mg:Str->Option Value):Sp:=fun vs H Q _=>∃ (x dx a:Addr) (t:List Nat),vs=[.ref x,.ref a]/\H x=some (.ins (aP mg "Tally") dx [])/\Tn H a t/\Prm t/\∀ H',Chg x H H'->TyD mg (fun g=>g≠x/\∃ o,H g=some o) H' x t->Q .non H'
theorem rH:aF ["self","turning"] ["self","turning"] (az iR):=⟨rfl,rfl,rfl,by trivial,rfl,by trivial,by trivial⟩
theorem jb (T:Txt K mg):sI P w K mg base 6 "Tally" "__init__" ["self","turning"] (Oc mg):=by
 have eG:=eG (P:=P) (w:=w) (base:=base) T
 have vV:=vV (P:=P) (w:=w) (base:=base) T
 refine BZ T.m_Tally___init__ rH (fun _ _ _ _ _ _ us hl=>L2.kW (fun _ _=>rfl) us hl) ?_ fun f cdv A outer s H vs Q E hr h=>?_
 ·rintro vs H Q E ⟨x,dx,a,t,rfl,_⟩;rfl
 obtain ⟨x,dx,a,t,rfl,hx,ha,hP,q⟩:=h
 have hu:=hr.units0
 have hu64:=hr.units
 refine ⟨_,(au (aL (aH eG (hr.mono (by decide)) aN (aa (aq 1) ao) (by trivial))) (au (j9 (K:=K) rfl (aq 0) (vo (vd (K:=K) rfl rfl) aN T.b_list jP (aa (aq 1) ao) (by trivial) (by trivial))) (aA (j9 (K:=K) rfl (aq 0) (aH vV (hr.mono (by decide)) aN (aa (aq 1) ao) (by trivial)))))),?_⟩
 walk_at "s"
 have hsz:20000<=sizeLine:=by decide
 have cl:=T.o_Tally.cl
 have na:=T.n_Tally
 refine ⟨a,t,rfl,ha,hP,fun H1 S1=>?_⟩
 walk_at "s"
 refine .inl ⟨a,(nI t).map V.int,rfl,(ha.same S1).imp SqL.of SqT.of,fun ae nae=>?_⟩
 have S2:=(Same.refl H1).upd nae (o:=.lst ((nI t).map V.int))
 have f2:=aj (H:=H1) (a:=ae) (o:=.lst ((nI t).map V.int))
 generalize upd H1 ae (.lst ((nI t).map V.int))=H2 at S2 f2 ⊢
 have U2:=S1.trans S2
 have hx2:=U2 _ _ hx
 have nx:∀ {G:Hp} {b:Addr} {fs:List (Str×V)} {us:List V},G x=some (.ins (aP mg "Tally") dx fs)->(G b=some (.lst us)\/G b=some (.tup us))->b≠x:=fun {G b fs us} h1 h2 z=>by
  rw [z,h1] at h2
  rcases h2 with h2 | h2 <;> cases h2
 walk_at "s"
 refine ⟨x,_,dx,_,rfl,hx2,cl,na _ (by simp),by simp,?_⟩
 walk_at "s"
 rw [fX (by show ([]:List Str).contains "held_ends"=false;trivial)]
 have hx3:=aj (H:=H2) (a:=x) (o:=.ins (aP mg "Tally") dx (([]:List (Str×V)) ++ ([("held_ends",.ref ae)]:List (Str×V))))
 have C3:Chg x H2 (upd H2 x (.ins (aP mg "Tally") dx (([]:List (Str×V)) ++ ([("held_ends",.ref ae)]:List (Str×V))))):=Chg.put (Chg.refl x H2)
 generalize upd H2 x (.ins (aP mg "Tally") dx (([]:List (Str×V)) ++ ([("held_ends",.ref ae)]:List (Str×V))))=H3 at hx3 C3 ⊢
 replace hx3:H3 x=some (.ins (aP mg "Tally") dx ([("held_ends",.ref ae)]:List (Str×V))):=hx3
 have ha2:=ha.same U2
 have ha3:Tn H3 a t:=by
  have nxa:=nx hx2 ha2
  rcases ha2 with h | h
  ·exact .inl (C3 _ _ nxa h)
  ·exact .inr (C3 _ _ nxa h)
 have f3:=C3 _ _ (nx hx2 (.inl f2)) f2
 walk_at "s"
 refine ⟨a,t,rfl,ha3,hP,fun ac rs H4 nac S4 hac hrs hfr=>?_⟩
 walk_at "s"
 have hx4:=S4 _ _ hx3
 refine ⟨x,_,dx,_,rfl,hx4,cl,na _ (by simp),by simp,?_⟩
 walk_at "s"
 rw [fX (by show (["held_ends"]:List Str).contains "held_counts"=false;trivial)]
 have hx5:=aj (H:=H4) (a:=x) (o:=.ins (aP mg "Tally") dx (([("held_ends",.ref ae)]:List (Str×V)) ++ ([("held_counts",.ref ac)]:List (Str×V))))
 have C5:Chg x H4 (upd H4 x (.ins (aP mg "Tally") dx (([("held_ends",.ref ae)]:List (Str×V)) ++ ([("held_counts",.ref ac)]:List (Str×V))))):=Chg.put (Chg.refl x H4)
 generalize upd H4 x (.ins (aP mg "Tally") dx (([("held_ends",.ref ae)]:List (Str×V)) ++ ([("held_counts",.ref ac)]:List (Str×V))))=H5 at hx5 C5 ⊢
 have hO5:TyO H5 t ae ac rs:=by
  refine ⟨?_,?_,hrs.1,fun k hk=>?_⟩
  ·exact C5 _ _ (nx hx4 (.inl (S4 _ _ f3))) (S4 _ _ f3)
  ·exact C5 _ _ (nx hx4 (.inl hac)) hac
  ·obtain ⟨b,e,hb⟩:=hrs.2 k hk
   exact ⟨b,e,C5 _ _ (nx hx4 (.inl hb)) hb⟩
 refine q H5 ?_ ⟨hP,dx,ae,ac,rs,hx5,hO5,fun z=>z.1 rfl,?_,?_,fun r hr z=>?_⟩
 ·intro b o nb e
  exact C5 b o nb (S4 _ _ (C3 b o nb (U2 _ _ e)))
 ·rintro ⟨ng,o,hg⟩
  rw [S1 _ _ hg] at nae;cases nae
 ·rintro ⟨ng,o,hg⟩
  rw [C3 _ o ng (U2 _ _ hg)] at nac;cases nac
 ·obtain ⟨ng,o,hg⟩:=z
  have:=hfr r hr
  rw [C3 _ o ng (U2 _ _ hg)] at this;cases this
theorem tyM {ae ac:Addr} {m:Str} (h:(["held_ends","held_counts"]:List Str).contains m=false):(We ae ac).lookup m=none:=by
 unfold We
 simp only [Yi,Zj] at h
 obtain ⟨h1,h2,_⟩:=h
 simp only [Xj,h1,h2,List.lookup_nil]
def J9 (mg:Str->Option Value):Sp:=fun vs H Q _=>∃ (x:Addr) (t:List Nat) (b e:Nat),vs=[.ref x,.int b,.int e]/\Ty mg H x t/\b<=t.length/\e<=t.length/\Q (.int ((Ck t b e:Nat):Int)) H
theorem vW:aF ["self","begin","end"] ["self","begin","end"] (az lL):=⟨rfl,rfl,rfl,by trivial,rfl,by trivial,by trivial⟩
theorem lQ (T:Txt K mg):sI P w K mg base 4 "Tally" "below" ["self","begin","end"] (J9 mg):=by
 have bQ:=bQ (P:=P) (w:=w) (base:=base) T
 refine BZ T.m_Tally_below vW (fun _ _ _ _ _ _ us hl=>L2.pN (fun _ _ _=>rfl) us hl) ?_ fun f cdv A outer s H vs Q E hr h=>?_
 ·rintro vs H Q E ⟨x,t,b,e,rfl,_⟩;rfl
 obtain ⟨x,t,b,e,rfl,⟨hP,dx,ae,ac,rs,hx,hO⟩,hb,he,q⟩:=h
 have hu:=hr.units0
 have hu64:=hr.units
 refine ⟨_,(au (aL (aH bQ (hr.mono (by decide)) aN (aa (aq 1) (aa aC (aa (aD (aG (K:=K) rfl) aN T.b_len bc (aa (pY (K:=K) rfl (aq 0)) ao) (by trivial) (by trivial)) ao))) (by trivial))) (au (aL (aH bQ (hr.mono (by decide)) aN (aa (aq 2) (aa aC (aa (aD (aG (K:=K) rfl) aN T.b_len bc (aa (pY (K:=K) rfl (aq 0)) ao) (by trivial) (by trivial)) ao))) (by trivial))) (aA (aK (bf (K:=K) rfl (bf (K:=K) rfl (pY (K:=K) rfl (aq 0)) (aq 1)) (aq 2)))))),?_⟩
 walk_at "s"
 have cl:=T.o_Tally.cl
 have na:=T.n_Tally
 refine ⟨x,_,dx,_,_,rfl,hx,cl,na _ (by simp),rfl,?_⟩
 walk_at "s"
 refine gU (SqL.of hO.ends) ?_
 walk_at "s"
 rw [gm]
 walk_at "s"
 refine oV (by omega) (by omega) ?_
 walk_at "s"
 refine ⟨x,_,dx,_,_,rfl,hx,cl,na _ (by simp),rfl,?_⟩
 walk_at "s"
 refine gU (SqL.of hO.ends) ?_
 walk_at "s"
 rw [gm]
 walk_at "s"
 refine oV (by omega) (by omega) ?_
 walk_at "s"
 refine ⟨x,_,dx,_,_,rfl,hx,cl,na _ (by simp),rfl,?_⟩
 walk_at "s"
 obtain ⟨pb,epb,hpb⟩:=hO.rows.2 b (by omega)
 refine aO (SqL.of hO.cnts) (dO epb) ?_
 walk_at "s"
 refine aO (SqL.of hpb) (Cm rfl he) ?_
 walk_at "s"
 exact q
theorem made {H1 H2:Hp} {x dx:Addr} {o o':HO} (nx:H1 x=none) (ndx:H1 dx=none) (c:Chg x (upd (upd H1 dx o) x o') H2):Same H1 H2:=fun b u e=>by
 have n1:b≠x:=fun z=>by rw [z,nx] at e;cases e
 have n2:b≠dx:=fun z=>by rw [z,ndx] at e;cases e
 exact c b u n1 (by rw [aB n1,aB n2];exact e)
theorem Ka {H1:Hp} {x dx g:Addr} {o o' u:HO} (nx:H1 x=none) (ndx:H1 dx=none) (e:H1 g=some u):upd (upd H1 dx o) x o' g=some u/\g≠x:=by
 have n1:g≠x:=fun z=>by rw [z,nx] at e;cases e
 have n2:g≠dx:=fun z=>by rw [z,ndx] at e;cases e
 exact ⟨by rw [aB n1,aB n2];exact e,n1⟩
theorem gNe {H1:Hp} {x g:Addr} {u:HO} (nx:H1 x=none) (e:H1 g=some u):g≠x:=fun z=>by rw [z,nx] at e;cases e
def VD:Sp:=fun vs H Q _=>∃ (p:Addr) (a b c d m f:Nat),vs=[.ref p,.int m,.int f]/\H p=some (.tup [.int (a:Int),.int (b:Int),.int (c:Int),.int (d:Int)])/\a<=b/\b<=m/\c<=d/\d<=f/\(a=0\/c=0)/\(b=m\/d=f)/\Q .non H
theorem vX:aF ["cut","many","far"] ["cut","many","far"] (az lH):=⟨rfl,rfl,rfl,by trivial,rfl,by trivial,by trivial⟩
theorem lU (T:Txt K mg):jN P w K mg base 5 "need_window" ["cut","many","far"] VD:=by
 have lB:=lB (P:=P) (w:=w) (base:=base) T
 refine dZ T.d_need_window vX (fun _ _ _ _ _ _ us hl=>L2.pN (fun _ _ _=>rfl) us hl) ?_ fun f cdv A outer s H vs Q E hr h=>?_
 ·rintro vs H Q E ⟨p,a,b,c,d,m,f',rfl,_⟩;rfl
 obtain ⟨p,a,b,c,d,m,f',rfl,hp,h1,h2,h3,h4,h5,h6,q⟩:=h
 have hu:=hr.units0
 have hu64:=hr.units
 refine ⟨_,(au (aL (aH lB (hr.mono (by decide)) aN (aa (bf (K:=K) rfl (aq 0) aC) (aa (bf (K:=K) rfl (aq 0) aC) (aa (aq 1) ao))) (by trivial))) (au (aL (aH lB (hr.mono (by decide)) aN (aa (bf (K:=K) rfl (aq 0) aC) (aa (bf (K:=K) rfl (aq 0) aC) (aa (aq 2) ao))) (by trivial))) (aA (bM (gF (iy (gF (vh (bu qR (bf (K:=K) rfl (aq 0) aC) aC (by walk_at "p")) (rB (bu qR (bf (K:=K) rfl (aq 0) aC) aC (by walk_at "p"))))) (gC (gF (vh (bu t7 (bf (K:=K) rfl (aq 0) aC) (aq 1) (by walk_at "p")) (rB (bu t7 (bf (K:=K) rfl (aq 0) aC) (aq 2) (by walk_at "p")))))))) (aA oh) bx)))),?_⟩
 walk_at "s"
 refine ⟨_,_,_,rfl,by omega,by omega,by omega,?_⟩
 walk_at "s"
 refine ⟨_,_,_,rfl,by omega,by omega,by omega,?_⟩
 walk_at "s"
 refine iJ (fun h=>?_) (fun h=>?_)
 ·walk_at "s"
  refine iJ (fun h'=>?_) (fun h'=>?_)
  ·exfalso;omega
  ·walk_at "s"
   refine iJ (fun h7=>?_) (fun h7=>?_)
   ·walk_at "s"
    refine iJ (fun h8=>?_) (fun h8=>?_)
    ·exfalso;omega
    ·exact q
   ·exact q
 ·walk_at "s"
  refine iJ (fun h7=>?_) (fun h7=>?_)
  ·walk_at "s"
   refine iJ (fun h8=>?_) (fun h8=>?_)
   ·exfalso;omega
   ·exact q
  ·exact q
def Wg (ty:Addr) (m f:Nat):List (Str×V):=[("held_tally",.ref ty),("held_many",.int (m:Int)),("held_far",.int (f:Int))]
theorem akM {ty:Addr} {m' f:Nat} {m:Str} (h:(["held_tally","held_many","held_far"]:List Str).contains m=false):(Wg ty m' f).lookup m=none:=by
 unfold Wg
 simp only [Yi,Zj] at h
 obtain ⟨h1,h2,h3,_⟩:=h
 simp only [Xj,h1,h2,h3,List.lookup_nil]
def Ak (mg:Str->Option Value) (H:Hp) (x:Addr) (t:List Nat) (m f:Nat):Prop:=m+f=t.length/\∃ dx ty,H x=some (.ins (aP mg "Asks") dx (Wg ty m f))/\Ty mg H ty t
def AkD (mg:Str->Option Value) (D:Addr->Prop) (H:Hp) (x:Addr) (t:List Nat) (m f:Nat):Prop:=m+f=t.length/\∃ dx ty,H x=some (.ins (aP mg "Asks") dx (Wg ty m f))/\TyD mg D H ty t/\¬ D x
theorem AkD.ak {H:Hp} {D:Addr->Prop} {x:Addr} {t:List Nat} {m f:Nat} (h:AkD mg D H x t m f):Ak mg H x t m f:=by
 obtain ⟨hl,dx,ty,hx,hT,_⟩:=h
 exact ⟨hl,dx,ty,hx,hT.ty⟩
theorem AkD.sub {H:Hp} {D D':Addr->Prop} {x:Addr} {t:List Nat} {m f:Nat} (h:AkD mg D H x t m f) (s:∀ g,D' g->D g):AkD mg D' H x t m f:=by
 obtain ⟨hl,dx,ty,hx,hT,n⟩:=h
 exact ⟨hl,dx,ty,hx,hT.sub s,fun z=>n (s _ z)⟩
def Od (mg:Str->Option Value):Sp:=fun vs H Q _=>∃ (x dx a:Addr) (t:List Nat) (m f:Nat),vs=[.ref x,.ref a,.int m]/\H x=some (.ins (aP mg "Asks") dx [])/\Tn H a t/\Prm t/\m+f=t.length/\∀ H',Chg x H H'->AkD mg (fun g=>g≠x/\∃ o,H g=some o) H' x t m f->Q .non H'
theorem tM:aF ["self","lines","many"] ["self","lines","many"] (az jD):=⟨rfl,rfl,rfl,by trivial,rfl,by trivial,by trivial⟩
theorem jF (T:Txt K mg):sI P w K mg base 8 "Asks" "__init__" ["self","lines","many"] (Od mg):=by
 have jb:=jb (P:=P) (w:=w) (base:=base) T
 have bQ:=bQ (P:=P) (w:=w) (base:=base) T
 refine BZ T.m_Asks___init__ tM (fun _ _ _ _ _ _ us hl=>L2.pN (fun _ _ _=>rfl) us hl) ?_ fun f cdv A outer s H vs Q E hr h=>?_
 ·rintro vs H Q E ⟨x,dx,a,t,m,f',rfl,_⟩;rfl
 obtain ⟨x,dx,a,t,m,f',rfl,hx,ha,hP,hmf,q⟩:=h
 have hu:=hr.units0
 have hu64:=hr.units
 refine ⟨_,(au (j9 (K:=K) rfl (aq 0) (yu T.o_Tally jb (hr.mono (by decide)) aN my (aa (aq 1) ao) (by trivial))) (au (aL (aH bQ (hr.mono (by decide)) aN (aa (aq 2) (aa aC (aa (aD (aG (K:=K) rfl) aN T.b_len bc (aa (aq 1) ao) (by trivial) (by trivial)) ao))) (by trivial))) (au (j9 (K:=K) rfl (aq 0) (aq 2)) (aA (j9 (K:=K) rfl (aq 0) (aZ gQ (aD (aG (K:=K) rfl) aN T.b_len bc (aa (aq 1) ao) (by trivial) (by trivial)) (aq 2))))))),?_⟩
 walk_at "s"
 have hsz:20000<=sizeLine:=by decide
 have cl:=T.o_Asks.cl
 have na:=T.n_Asks
 intro ty dty nty ndty ne
 have hat:Tn (upd (upd H dty (.own ty)) ty (.ins (aP mg "Tally") dty [])) a t:=ha.imp (fun h=>(Ka nty ndty h).1) (fun h=>(Ka nty ndty h).1)
 refine ⟨ty,dty,a,t,rfl,aj,hat,hP,fun H1 c1 hT1=>⟨rfl,?_⟩⟩
 walk_at "s"
 have S1:=made nty ndty c1
 replace hT1:=hT1.sub (D':=fun g=>∃ o,H g=some o) (fun g hg=>by
  obtain ⟨o,hg⟩:=hg
  exact ⟨gNe nty hg,o,(Ka nty ndty hg).1⟩)
 clear c1
 have hx1:=S1 _ _ hx
 have ax:a≠x:=fun z=>by
  rcases ha with h | h <;> rw [z,hx] at h <;> cases h
 refine ⟨x,_,dx,_,rfl,hx1,cl,na _ (by simp),by simp,?_⟩
 walk_at "s"
 rw [fX (by show ([]:List Str).contains "held_tally"=false;trivial)]
 have hx2:=aj (H:=H1) (a:=x) (o:=.ins (aP mg "Asks") dx (([]:List (Str×V)) ++ ([("held_tally",.ref ty)]:List (Str×V))))
 have C2:Chg x H (upd H1 x (.ins (aP mg "Asks") dx (([]:List (Str×V)) ++ ([("held_tally",.ref ty)]:List (Str×V))))):=Chg.put (fun b o n e=>S1 _ _ e)
 have hT2:=hT1.put (g:=x) (o:=.ins (aP mg "Asks") dx (([]:List (Str×V)) ++ ([("held_tally",.ref ty)]:List (Str×V)))) ⟨_,hx⟩
 generalize upd H1 x (.ins (aP mg "Asks") dx (([]:List (Str×V)) ++ ([("held_tally",.ref ty)]:List (Str×V))))=H2 at hx2 C2 hT2 ⊢
 replace hx2:H2 x=some (.ins (aP mg "Asks") dx ([("held_tally",.ref ty)]:List (Str×V))):=hx2
 have ha2:Tn H2 a t:=ha.imp (C2 _ _ ax) (C2 _ _ ax)
 have len:∀ (G:Hp) (R:V->Hp->Prop),Tn G a t->R (.int (t.length:Int)) G->Fw K [.ref a] G R:=fun G R hG hR=>by
  rcases hG with h | h
  ·refine gU (SqL.of h) ?_
   rw [gm];exact hR
  ·refine vg (SqT.of h) ?_
   rw [gm];exact hR
 walk_at "s"
 refine len _ _ ha2 ?_
 walk_at "s"
 refine oV (by omega) (by omega) ?_
 walk_at "s"
 refine ⟨x,_,dx,_,rfl,hx2,cl,na _ (by simp),by simp,?_⟩
 walk_at "s"
 rw [fX (by show (["held_tally"]:List Str).contains "held_many"=false;trivial)]
 have hx3:=aj (H:=H2) (a:=x) (o:=.ins (aP mg "Asks") dx (([("held_tally",.ref ty)]:List (Str×V)) ++ ([("held_many",.int (m:Int))]:List (Str×V))))
 have C3:Chg x H (upd H2 x (.ins (aP mg "Asks") dx (([("held_tally",.ref ty)]:List (Str×V)) ++ ([("held_many",.int (m:Int))]:List (Str×V))))):=Chg.put C2
 have hT3:=hT2.put (g:=x) (o:=.ins (aP mg "Asks") dx (([("held_tally",.ref ty)]:List (Str×V)) ++ ([("held_many",.int (m:Int))]:List (Str×V)))) ⟨_,hx⟩
 generalize upd H2 x (.ins (aP mg "Asks") dx (([("held_tally",.ref ty)]:List (Str×V)) ++ ([("held_many",.int (m:Int))]:List (Str×V))))=H3 at hx3 C3 hT3 ⊢
 replace hx3:H3 x=some (.ins (aP mg "Asks") dx ([("held_tally",.ref ty),("held_many",.int (m:Int))]:List (Str×V))):=hx3
 have ha3:Tn H3 a t:=ha.imp (C3 _ _ ax) (C3 _ _ ax)
 walk_at "s"
 refine len _ _ ha3 ?_
 walk_at "s"
 refine ⟨x,_,dx,_,rfl,hx3,cl,na _ (by simp),by simp,?_⟩
 walk_at "s"
 rw [fX (by show (["held_tally","held_many"]:List Str).contains "held_far"=false;trivial),show (t.length:Int) - (m:Int)=(f':Int) by omega]
 exact q _ (Chg.put C3) ⟨hmf,dx,ty,aj,(hT3.put ⟨_,hx⟩).sub (fun g hg=>hg.2),fun z=>z.1 rfl⟩
def rk (t:List Nat) (m a b c d:Nat):Int:=(d:Int) - (c:Int) - ((Ck t (m - a+c) (m - b+d):Nat):Int)
def R9 (mg:Str->Option Value):Sp:=fun vs H Q _=>∃ (x:Addr) (t:List Nat) (m f a b c d:Nat),vs=[.ref x,.int a,.int b,.int c,.int d]/\Ak mg H x t m f/\a<=m/\b<=m/\c<=f/\d<=f/\Q (.int (rk t m a b c d)) H
theorem mH:aF ["self","first","last","begin","end","many"] ["self","first","last","begin","end"] (az jE):=⟨rfl,rfl,rfl,by trivial,rfl,by trivial,by trivial⟩
theorem jG (T:Txt K mg):sI P w K mg base 5 "Asks" "reckoned" ["self","first","last","begin","end"] (R9 mg):=by
 have lQ:=lQ (P:=P) (w:=w) (base:=base) T
 refine BZ T.m_Asks_reckoned mH (fun _ _ _ _ _ _ us hl=>L2.usN5 (fun _ _ _ _ _=>rfl) us hl) ?_ fun f cdv A outer s H vs Q E hr h=>?_
 ·rintro vs H Q E ⟨x,t,m,f',a,b,c,d,rfl,_⟩;rfl
 obtain ⟨x,t,m,f',a,b,c,d,rfl,⟨hl,dx,ty,hx,hT⟩,h1,h2,h3,h4,q⟩:=h
 have hu:=hr.units0
 have hu64:=hr.units
 refine ⟨_,(au (aJ (i:=5) mH.nd rfl bT (pY (K:=K) rfl (aq 0)) rfl) (aA (aK (aZ gQ (aZ gQ (aq 4) (aq 3)) (yt (pY (K:=K) rfl (aq 0)) T.o_Tally lQ (hr.mono (by decide)) my (aa (aZ aV (aZ gQ (aq 5) (aq 1)) (aq 3)) (aa (aZ aV (aZ gQ (aq 5) (aq 2)) (aq 4)) ao))))))),?_⟩
 walk_at "s"
 have cl:=T.o_Asks.cl
 have na:=T.n_Asks
 refine ⟨x,_,dx,_,_,rfl,hx,cl,na _ (by simp),rfl,?_⟩
 walk_at "s"
 refine ⟨x,_,dx,_,_,rfl,hx,cl,na _ (by simp),rfl,?_⟩
 walk_at "s"
 have hT':=hT
 obtain ⟨_,dt,ae,ac,rs,ht,_⟩:=hT'
 refine ⟨ty,dt,_,rfl,ht,tyM (by trivial),?_⟩
 walk_at "s"
 rw [show (m:Int) - (a:Int)+(c:Int)=((m - a+c:Nat):Int) by omega,show (m:Int) - (b:Int)+(d:Int)=((m - b+d:Nat):Int) by omega]
 refine ⟨ty,t,m - a+c,m - b+d,rfl,hT,by omega,by omega,?_⟩
 walk_at "s"
 exact q
def Oe (mg:Str->Option Value):Sp:=fun vs H Q _=>∃ (x:Addr) (t:List Nat) (m f b c:Nat),vs=[.ref x,.int b,.int c]/\Ak mg H x t m f/\b<=m/\c<=f/\Q (.int (rk t m 0 b c f)) H
theorem rJ:aF ["self","last","begin"] ["self","last","begin"] (az iT):=⟨rfl,rfl,rfl,by trivial,rfl,by trivial,by trivial⟩
theorem jc (T:Txt K mg):sI P w K mg base 6 "Asks" "beginning" ["self","last","begin"] (Oe mg):=by
 have bQ:=bQ (P:=P) (w:=w) (base:=base) T
 have jG:=jG (P:=P) (w:=w) (base:=base) T
 refine BZ T.m_Asks_beginning rJ (fun _ _ _ _ _ _ us hl=>L2.pN (fun _ _ _=>rfl) us hl) ?_ fun f cdv A outer s H vs Q E hr h=>?_
 ·rintro vs H Q E ⟨x,t,m,f',b,c,rfl,_⟩;rfl
 obtain ⟨x,t,m,f',b,c,rfl,hA,h3,h4,q⟩:=h
 have hu:=hr.units0
 have hu64:=hr.units
 refine ⟨_,(au (aL (aH bQ (hr.mono (by decide)) aN (aa (aq 1) (aa aC (aa (pY (K:=K) rfl (aq 0)) ao))) (by trivial))) (au (aL (aH bQ (hr.mono (by decide)) aN (aa (aq 2) (aa aC (aa (pY (K:=K) rfl (aq 0)) ao))) (by trivial))) (aA (aK (yt (aq 0) T.o_Asks jG (hr.mono (by decide)) my (aa aC (aa (aq 1) (aa (aq 2) (aa (pY (K:=K) rfl (aq 0)) ao))))))))),?_⟩
 walk_at "s"
 have cl:=T.o_Asks.cl
 have na:=T.n_Asks
 obtain ⟨hl,dx,ty,hx,hT⟩:=id hA
 refine ⟨x,_,dx,_,_,rfl,hx,cl,na _ (by simp),rfl,?_⟩
 walk_at "s"
 refine oV (by omega) (by omega) ?_
 walk_at "s"
 refine ⟨x,_,dx,_,_,rfl,hx,cl,na _ (by simp),rfl,?_⟩
 walk_at "s"
 refine oV (by omega) (by omega) ?_
 walk_at "s"
 refine ⟨x,dx,_,rfl,hx,akM (by trivial),?_⟩
 walk_at "s"
 refine ⟨x,_,dx,_,_,rfl,hx,cl,na _ (by simp),rfl,?_⟩
 walk_at "s"
 refine ⟨x,t,m,f',0,b,c,f',rfl,hA,by omega,h3,h4,by omega,?_⟩
 walk_at "s"
 exact q
def Rule (m far:Nat) (e:Nat->Nat->Bool) (C:Nat->Nat->Bool):Prop:=∀ i j,i < m->j < far->C i j=(e i j || decide (gD m C j i < gA m C i j))
theorem rK {m:Nat} {C:Nat->Nat->Bool}:∀ n i j,i+j<=n->(i<=m->gD m C j i<=m+j)/\(i < m->gA m C i j < m+j)
 | n,0,0,_=>by rw [nj,jR];omega
 | 0,0,j+1,h=>absurd h (by omega)
 | 0,i+1,j,h=>absurd h (by omega)
 | n+1,0,j+1,h=>by
  have h1:=rK (m:=m) (C:=C) n 0 j (by omega)
  refine ⟨fun _=>by rw [nj];omega,fun hi=>?_⟩
  rw [lw]
  have a:=h1.1 (by omega)
  have b:=h1.2 hi
  split <;> omega
 | n+1,i+1,0,h=>by
  have h1:=rK (m:=m) (C:=C) n i 0 (by omega)
  refine ⟨fun hi=>?_,fun hi=>by rw [jR];omega⟩
  rw [jT]
  have a:=h1.1 (by omega)
  have b:=h1.2 (by omega)
  split <;> omega
 | n+1,i+1,j+1,h=>by
  have h1:=rK (m:=m) (C:=C) n (i+1) j (by omega)
  have h2:=rK (m:=m) (C:=C) n i (j+1) (by omega)
  refine ⟨fun hi=>?_,fun hi=>?_⟩
  ·rw [jT]
   have a:=h2.1 (by omega)
   have b:=h2.2 (by omega)
   split <;> omega
  ·rw [lw]
   have a:=h1.1 (by omega)
   have b:=h1.2 hi
   split <;> omega
def cn (m:Nat) (C:Nat->Nat->Bool) (i B:Nat):Nat->Nat
 | 0=>0
 | e+1=>cn m C i B e+(if B<=gD m C e i then 1 else 0)
theorem Ec {m:Nat} {C:Nat->Nat->Bool} {i B:Nat} (hB:m<=B) (hi:i < m):∀ e,cn m C (i+1) B e+(if B<=gA m C i e then 1 else 0)=cn m C i B e
 | 0=>by
  show 0+_=0
  rw [jR,if_neg (by omega)]
 | e+1=>by
  have ih:=Ec (C:=C) hB hi e
  show cn m C (i+1) B e+(if B<=gD m C e (i+1) then 1 else 0)+(if B<=gA m C i (e+1) then 1 else 0)=cn m C i B e+(if B<=gD m C e i then 1 else 0)
  rw [jT,lw]
  by_cases hC:C i e=true
  ·rw [if_pos hC,if_pos hC];omega
  ·rw [if_neg hC,if_neg hC];omega
theorem yK {m:Nat} {C:Nat->Nat->Bool} {i b:Nat} (hi:i<=m):∀ e,e<=b->cn m C i (m+b) e=0
 | 0,_=>rfl
 | e+1,h=>by
  show cn m C i (m+b) e+_=0
  have:=(rK (m:=m) (C:=C) (i+e) i e (Wq _)).1 hi
  rw [yK hi e (by omega),if_neg (by omega)]
theorem Ae {m:Nat} {C:Nat->Nat->Bool} {B:Nat} (b:Nat) (hB:B=m+b):∀ k,cn m C 0 B (b+k)=k
 | 0=>by rw [hB];exact yK (by omega) b (Wq _)
 | k+1=>by
  show cn m C 0 B (b+k)+(if B<=gD m C (b+k) 0 then 1 else 0)=k+1
  rw [Ae b hB k,nj,if_pos (by omega)]
def Sd (i j:Int):Int:=if j > i then j else i
def tb (e:Nat->Nat->Bool) (b:Nat):Nat->Nat->Int
 | 0,_=>0
 | _+1,0=>0
 | i+1,k+1=>if e i (b+k)=true then tb e b i k+1 else Sd (tb e b (i+1) k) (tb e b i (k+1))
termination_by i k=>i+k
theorem Af (e:Nat->Nat->Bool) (b k:Nat):tb e b 0 k=0:=by rw [tb]
theorem Cp (e:Nat->Nat->Bool) (b i:Nat):tb e b i 0=0:=by cases i <;> rw [tb]
theorem Gr (e:Nat->Nat->Bool) (b i k:Nat):tb e b (i+1) (k+1)=if e i (b+k)=true then tb e b i k+1 else Sd (tb e b (i+1) k) (tb e b i (k+1)):=by rw [tb]
theorem rM {m far:Nat} {e C:Nat->Nat->Bool} (h:Rule m far e C) (b:Nat):∀ i,i<=m->∀ k,b+k<=far->tb e b i k+(cn m C i (m+b) (b+k):Nat)=k
 | 0,_,k,_=>by rw [Af,Ae b rfl];omega
 | i+1,hi,0,_=>by
  rw [Cp,yK hi _ (by omega)];rfl
 | i+1,hi,k+1,hk=>by
  have h1:=rM h b i (by omega) k (by omega)
  have h2:=rM h b i (by omega) (k+1) hk
  have h3:=rM h b (i+1) hi k (by omega)
  have r:=h i (b+k) (by omega) (by omega)
  have kp:=Ec (m:=m) (C:=C) (i:=i) (B:=m+b) (by omega) (by omega) (b+k)
  rw [Gr]
  have e2:cn m C i (m+b) (b+(k+1))=cn m C i (m+b) (b+k)+(if m+b<=gD m C (b+k) i then 1 else 0):=rfl
  have e3:cn m C (i+1) (m+b) (b+(k+1))=cn m C (i+1) (m+b) (b+k)+(if m+b<=gD m C (b+k) (i+1) then 1 else 0):=rfl
  rw [e2] at h2
  rw [e3,jT]
  by_cases he:e i (b+k)=true
  ·rw [he,Bool.true_or] at r
   rw [if_pos he,if_pos r]
   omega
  ·have he':e i (b+k)=false:=by simpa using he
   rw [he',Bool.false_or] at r
   rw [if_neg he]
   by_cases hg:gD m C (b+k) i < gA m C i (b+k)
   ·have hC:C i (b+k)=true:=by rw [r];exact W0 hg
    rw [if_pos hC]
    unfold Sd
    by_cases c1:m+b<=gA m C i (b+k)
    ·rw [if_pos c1] at kp ⊢
     by_cases c2:m+b<=gD m C (b+k) i
     ·rw [if_pos c2] at h2
      split <;> omega
     ·rw [if_neg c2] at h2
      split <;> omega
    ·rw [if_neg c1] at kp ⊢
     rw [if_neg (by omega)] at h2
     split <;> omega
   ·have hC:¬ C i (b+k)=true:=by rw [r,W2 hg];decide
    rw [if_neg hC]
    unfold Sd
    by_cases c2:m+b<=gD m C (b+k) i
    ·rw [if_pos c2] at h2 ⊢
     by_cases c1:m+b<=gA m C i (b+k)
     ·rw [if_pos c1] at kp
      split <;> omega
     ·rw [if_neg c1] at kp
      split <;> omega
    ·rw [if_neg c2] at h2 ⊢
     rw [if_neg (by omega)] at kp
     split <;> omega
theorem Ag {m:Nat} {C:Nat->Nat->Bool} {i B:Nat} (hB:m<=B+i) (hi:i < m):∀ e,cn m C (i+1) B e+(if B<=gA m C i e then 1 else 0)=cn m C i B e
 | 0=>by
  show 0+_=0
  rw [jR,if_neg (by omega)]
 | e+1=>by
  have ih:=Ag (C:=C) hB hi e
  show cn m C (i+1) B e+(if B<=gD m C e (i+1) then 1 else 0)+(if B<=gA m C i (e+1) then 1 else 0)=cn m C i B e+(if B<=gD m C e i then 1 else 0)
  rw [jT,lw]
  by_cases hC:C i e=true
  ·rw [if_pos hC,if_pos hC];omega
  ·rw [if_neg hC,if_neg hC];omega
def Aw (m far:Nat) (C:Nat->Nat->Bool) (p:Nat):Nat:=if p < far then gD m C p m else gA m C (m+far - 1 - p) far
theorem Kc {m far:Nat} {C:Nat->Nat->Bool} {R:List Int} (hR:qD m C far R) {p:Nat} (hp:p < m+far):R[Aw m far C p]?=some (p:Int):=by
 obtain ⟨h1,h2,h3⟩:=hR
 unfold Aw
 by_cases h:p < far
 ·rw [if_pos h];exact h2 p h
 ·rw [if_neg h,h3 _ (by omega)]
  congr 1
  omega
theorem Gs {m:Nat} {C:Nat->Nat->Bool} {far l:Nat} (h:l < m+far):∃ p,p < m+far/\Aw m far C p=l:=by
 have:=(sZ (m:=m) (C:=C) far).mem_iff.mpr (Xe.mpr h)
 rcases Xi.mp this with h | h
 ·obtain ⟨i,hi,e⟩:=Xg.mp h
  have hi:=Xe.mp hi
  refine ⟨m+far - 1 - i,by omega,?_⟩
  unfold Aw
  rw [if_neg (by omega),show m+far - 1 - (m+far - 1 - i)=i by omega]
  exact e
 ·obtain ⟨i,hi,e⟩:=Xg.mp h
  have hi:=Xe.mp hi
  refine ⟨i,by omega,?_⟩
  unfold Aw
  rw [if_pos hi];exact e
theorem Sg {m far:Nat} {C:Nat->Nat->Bool} {R:List Int} (hR:qD m C far R):R.Perm ((List.range (m+far)).map fun k=>((k:Nat):Int)):=by
 have hnd:((List.range (m+far)).map fun k=>((k:Nat):Int)).Nodup:=by
  rw [List.nodup_iff_pairwise_ne,Ze]
  exact List.nodup_range.imp fun h e=>h (by omega)
 have at_:∀ l,l < m+far->∃ p,p < m+far/\Aw m far C p=l/\R[l]?=some (p:Int):=fun l hl=>by
  obtain ⟨p,hp,e⟩:=Gs (m:=m) (C:=C) (far:=far) hl
  exact ⟨p,hp,e,by rw [← e];exact Kc hR hp⟩
 have hRn:R.Nodup:=by
  rw [List.nodup_iff_pairwise_ne,Yt]
  intro i j hi hj hij e
  rw [hR.1] at hi hj
  obtain ⟨p,_,e1,e2⟩:=at_ i hi
  obtain ⟨p',_,e3,e4⟩:=at_ j hj
  rw [Wn (by rw [hR.1];exact hi)] at e2
  rw [Wn (by rw [hR.1];exact hj)] at e4
  rw [e,WR e4] at e2
  have:p'=p:=by have:=WR e2;omega
  rw [this,e1] at e3
  omega
 refine (List.perm_ext_iff_of_nodup hRn hnd).mpr fun x=>⟨fun hx=>?_,fun hx=>?_⟩
 ·obtain ⟨l,hl,e⟩:=XR.mp hx
  rw [hR.1] at hl
  obtain ⟨p,hp,_,e2⟩:=at_ l hl
  rw [Wn (by rw [hR.1];exact hl),e] at e2
  rw [WR e2]
  exact Xg.mpr ⟨p,Xe.mpr hp,rfl⟩
 ·obtain ⟨p,hp,rfl⟩:=Xg.mp hx
  exact WW (Kc hR (Xe.mp hp))
theorem Og (z y:Str):Rule (mS z) (mS y) (fun i j=>decide (z.cps.getD i 0=y.cps.getD j 0)) (CB z y):=fun i j hi hj=>NP (side:=z) (top:=y) hi hj
theorem Ed {e e':Nat->Nat->Bool} {b b' m n:Nat} (h:∀ i k,i < m->k < n->e i (b+k)=e' i (b'+k)):∀ i,i<=m->∀ k,k<=n->tb e b i k=tb e' b' i k
 | 0,_,k,_=>by rw [Af,Af]
 | i+1,hi,0,_=>by rw [Cp,Cp]
 | i+1,hi,k+1,hk=>by
  rw [Gr,Gr,Ed h i (by omega) k (by omega),Ed h (i+1) hi k (by omega),Ed h i (by omega) (k+1) hk,h i k (by omega) (by omega)]
theorem Sh {m far:Nat} {C:Nat->Nat->Bool} {R:List Int} (hR:qD m C far R) (hle:m+far<=96):∃ t:List Nat,R=nI t/\Prm t/\t.length=m+far/\∀ p,p < m+far->t[Aw m far C p]?=some p:=by
 have hp:=Sg hR
 have hpos:∀ x∈R,0<=x:=fun x hx=>by
  obtain ⟨k,_,rfl⟩:=Xg.mp (hp.mem_iff.mp hx)
  omega
 have e:R=nI (R.map Int.toNat):=by
  unfold nI
  rw [Yx]
  refine (List.map_id R).symm.trans (YG fun x hx=>?_)
  have:=hpos x hx
  show x=((x.toNat:Nat):Int)
  omega
 have hl:(R.map Int.toNat).length=m+far:=by rw [Ws,hR.1]
 refine ⟨R.map Int.toNat,e,⟨by omega,?_⟩,hl,fun p hp2=>?_⟩
 ·rw [hl]
  have:=hp.map Int.toNat
  rw [Yx] at this
  refine this.trans (List.Perm.of_eq ?_)
  refine (YG fun k _=>?_).trans (List.map_id _)
  show ((k:Nat):Int).toNat=k
  omega
 ·rw [Wo,Kc hR hp2];rfl
def cm (m far:Nat) (C:Nat->Nat->Bool) (B:Nat):Nat->Nat
 | 0=>0
 | p+1=>cm m far C B p+(if B<=Aw m far C p then 1 else 0)
theorem yL {m far:Nat} {C:Nat->Nat->Bool} {B:Nat}:∀ q,q<=far->cm m far C B q=cn m C m B q
 | 0,_=>rfl
 | q+1,h=>by
  show cm m far C B q+_=cn m C m B q+_
  rw [yL q (by omega)]
  unfold Aw
  rw [if_pos (show q < far by omega)]
theorem Ef {m far:Nat} {C:Nat->Nat->Bool} {B:Nat}:∀ s,s<=m->m<=B+(m - s)->cm m far C B (far+s)=cn m C (m - s) B far
 | 0,_,_=>yL far (Wq _)
 | s+1,h,hB=>by
  have ea:Aw m far C (far+s)=gA m C (m - (s+1)) far:=by
   unfold Aw
   rw [if_neg (by omega),show m+far - 1 - (far+s)=m - (s+1) by omega]
  show cm m far C B (far+s)+(if B<=Aw m far C (far+s) then 1 else 0)=_
  have kp:=Ag (m:=m) (C:=C) (i:=m - (s+1)) (B:=B) hB (by omega) far
  rw [show m - (s+1)+1=m - s by omega] at kp
  rw [ea,Ef s (by omega) (by omega)]
  exact kp
theorem Cq {t:List Nat} (hn:t.Nodup) {l q B:Nat} (h:t[l]?=some q):(t.drop B).count q=if B<=l then 1 else 0:=by
 have hd:(t.drop B).Nodup:=hn.sublist (List.drop_sublist B t)
 by_cases hB:B<=l
 ·rw [if_pos hB]
  have hm:q∈t.drop B:=WW (i:=l - B) (by rw [Y7,show B+(l - B)=l by omega];exact h)
  have h1:=List.nodup_iff_count.mp hd q
  have h2:=List.count_pos_iff.mpr hm
  omega
 ·rw [if_neg hB]
  refine List.count_eq_zero.mpr fun hm=>?_
  obtain ⟨i,hi⟩:=List.getElem?_of_mem hm
  rw [Y7] at hi
  have e1:=JD hn h
  have e2:=JD hn hi
  omega
theorem wy (u:List Nat) (q:Nat):u.countP (fun x=>decide (x < q+1))=u.countP (fun x=>decide (x < q))+u.count q:=by
 induction u with
 | nil=>rfl
 | cons x u ih=>
  rw [List.countP_cons,List.countP_cons,List.count_cons,ih]
  by_cases h1:x < q
  ·have:x < q+1:=by omega
   have:¬ x=q:=by omega
   simp [*];omega
  ·by_cases h2:x=q
   ·subst h2
    simp;omega
   ·have:¬ x < q+1:=by omega
    simp [*]
theorem Ke {m far:Nat} {C:Nat->Nat->Bool} {t:List Nat} (hn:t.Nodup) (ht:∀ p,p < m+far->t[Aw m far C p]?=some p) (B:Nat):∀ q,q<=m+far->Ck t B q=cm m far C B q
 | 0,_=>by unfold Ck cm;simp
 | q+1,h=>by
  have ih:=Ke hn ht B q (by omega)
  unfold Ck at ih ⊢
  rw [wy,ih,Cq hn (ht q (by omega))]
  rfl
theorem Sq {m far:Nat} {e C:Nat->Nat->Bool} (h:Rule m far e C) {t:List Nat} (hn:t.Nodup) (ht:∀ p,p < m+far->t[Aw m far C p]?=some p) {b c d:Nat} (hb:b<=m) (hc:c<=d) (hd:d<=far) (hw:b=m\/d=far):rk t m 0 b c d=tb e c b (d - c):=by
 unfold rk
 have h1:=rM h c b hb (d - c) (by omega)
 rw [show c+(d - c)=d by omega] at h1
 rw [Nat.sub_zero,Ke hn ht _ _ (by omega)]
 have h2:cm m far C (m+c) (m - b+d)=cn m C b (m+c) d:=by
  rcases hw with rfl | rfl
  ·rw [X6,Nat.zero_add];exact yL d hd
  ·rw [show m - b+d=d+(m - b) by omega,Ef (m - b) (by omega) (by omega),show m - (m - b)=b by omega]
 rw [h2]
 omega
def AkB (mg:Str->Option Value) (H:Hp) (x:Addr) (z y:Str):Prop:=∃ t,Ak mg H x t (mS z) (mS y)/\Prm t/\t.length=mS z+mS y/\∀ p,p < mS z+mS y->t[Aw (mS z) (mS y) (CB z y) p]?=some p
def AkBD (mg:Str->Option Value) (D:Addr->Prop) (H:Hp) (x:Addr) (z y:Str):Prop:=∃ t,AkD mg D H x t (mS z) (mS y)/\Prm t/\t.length=mS z+mS y/\∀ p,p < mS z+mS y->t[Aw (mS z) (mS y) (CB z y) p]?=some p
theorem AkBD.ak {H:Hp} {D:Addr->Prop} {x:Addr} {z y:Str} (h:AkBD mg D H x z y):AkB mg H x z y:=by
 obtain ⟨t,a,b⟩:=h
 exact ⟨t,a.ak,b⟩
def Kf (mg:Str->Option Value):Sp:=fun vs H Q _=>∃ (z y:Str),vs=[.str z,.str y]/\qF z/\qF y/\∀ x H',Same H H'->AkBD mg (fun g=>∃ o,H g=some o) H' x z y->Q (.ref x) H'
theorem Cr:aF ["side","top"] ["side","top"] (az sW):=⟨rfl,rfl,rfl,by trivial,rfl,by trivial,by trivial⟩
theorem tO (T:Txt K mg):jN P w K mg base 10 "asks_of" ["side","top"] (Kf mg):=by
 have jF:=jF (P:=P) (w:=w) (base:=base) T
 have lN:=lN (P:=P) (w:=w) (base:=base) T
 have iZ:=iZ (P:=P) (w:=w) (base:=base) T
 refine dZ T.d_asks_of Cr (fun _ _ _ _ _ _ us hl=>L2.kW (fun _ _=>rfl) us hl) ?_ fun f cdv A outer s H vs Q E hr h=>?_
 ·rintro vs H Q E ⟨z,y,rfl,_⟩;rfl
 obtain ⟨z,y,rfl,rz,ry,q⟩:=h
 have hu:=hr.units0
 have hu64:=hr.units
 refine ⟨_,(aA (aK (yu T.o_Asks jF (hr.mono (by decide)) aN (vA fun _ _=>rfl) (aa (Js (yu T.o_Board iZ (hr.mono (by decide)) aN (vA fun _ _=>rfl) (aa (aq 0) (aa (aq 1) ao)) (by trivial)) T.o_Board lN (hr.mono (by decide)) (vA fun _ _=>rfl)) (aa (aD (aG (K:=K) rfl) aN T.b_len bc (aa (aq 0) ao) (by trivial) (by trivial)) ao)) (by trivial)))),?_⟩
 walk_at "s"
 have hsz:20000<=sizeLine:=by decide
 have hzl:=rz.1
 have hyl:=ry.1
 have ez:z.length=mS z:=rfl
 have ey:y.length=mS y:=rfl
 have lz:z.length<=sizeLine:=by omega
 rintro b0 db0 nx nd _
 refine ⟨b0,db0,z,y,rfl,aj,rz,ry,fun H1 C B0=>⟨rfl,?_⟩⟩
 have S1:=made nx nd C
 obtain ⟨_,_,e0,_,_,_,_,hb0,hO⟩:=id B0
 clear C nx nd hO
 walk_at "s"
 refine ⟨b0,e0,_,rfl,hb0,bdM (by trivial),?_⟩
 walk_at "s"
 refine ⟨b0,z,y,rfl,B0,fun pl R H2 _ S2 hE hpl=>?_⟩
 walk_at "s"
 obtain ⟨t,rfl,hP,hl,ht⟩:=Sh hE (by omega)
 refine cR lz ?_
 walk_at "s"
 rintro x dx nx nd _
 refine ⟨x,dx,pl,t,mS z,mS y,rfl,aj,.inl (Ka nx nd hpl).1,hP,hl.symm,fun H3 C3 A3=>⟨rfl,?_⟩⟩
 walk_at "s"
 exact q x _ (S1.trans (S2.trans (made nx nd C3))) ⟨t,A3.sub (fun g hg=>by
  obtain ⟨o,hg⟩:=hg
  have hg2:=(S1.trans S2) _ _ hg
  exact ⟨gNe nx hg2,o,(Ka nx nd hg2).1⟩),hP,hl,ht⟩
theorem wz:(["sign"]:List Str).Nodup:=by trivial
theorem uE:KLl mC "self":=by trivial
theorem tQ:KLl mC "found":=by trivial
def Pln (z:Str):Prop:=z.length<=24/\∀ c∈z.cps.toList,97<=c/\c < 123
theorem Oh:∀ k∈List.range 26,tE pQ (97+k)=false/\tE LP (97+k)=false:=by trivial
theorem Pln.ok {z:Str} (h:Pln z) {c:Nat} (hc:c∈z.cps.toList):tE pQ c=false/\tE LP c=false:=by
 have:=h.2 c hc
 have k:=Oh (c - 97) (Xe.mpr (by omega))
 rw [show 97+(c - 97)=c by omega] at k
 exact k
theorem Ah:aF ["self","found"] ["self","found"] (az mC):=⟨rfl,rfl,rfl,by trivial,rfl,by trivial,by trivial⟩
theorem Cu (T:Txt K mg):Vh P w K mg base 1 "NoPlain" (aP mg "NoPlain") ["found"]:=mkX T.x_NoPlain Ah (fun _ _ _ _ _ _ us hl=>L2.kW (fun _ _=>rfl) us hl) rfl fun f cdv A outer s H vs Q E hr h=>⟨_,(aA (MP (K:=K) rfl (Rp 0 uE) (Rp 1 tQ))),rd1 T.x_NoPlain.c.cl.cls (T.x_NoPlain.na _ (by simp)) h⟩
theorem Pln.th {z:Str} (h:Pln z) {H:Hp}:Thing K H (.str z):=.inl ⟨z,rfl,by have:=h.1;omega⟩
def yW (v:V):Bool:=nP v pQ 24
theorem Pln.pl {z:Str} (h:Pln z):yW (.str z)=true:=by
 unfold yW nP
 dsimp only
 rw [W0 (by have:=h.1;omega),Bool.true_and]
 unfold among
 rw [Yl]
 intro c hc
 have:=(h.ok hc).1
 unfold tE at this
 rw [this];rfl
def Ss (K:W.Frag):Sp:=fun vs H Q _=>∃ v:V,vs=[v]/\Thing K H v/\∀ H',Same H H'->Q (.bl (yW v)) H'
theorem Ai:aF ["thing"] ["thing"] (az mV):=⟨rfl,rfl,rfl,by trivial,rfl,by trivial,by trivial⟩
theorem qH (T:Txt K mg):jN P w K mg base 1 "is_plain" ["thing"] (Ss K):=by
 refine dZ T.d_is_plain Ai (fun _ _ _ _ _ _ us hl=>L2.p7 (fun _=>rfl) us hl) ?_ fun f cdv A outer s H vs Q E hr h=>?_
 ·rintro vs H Q E ⟨v,rfl,_⟩;rfl
 obtain ⟨v,rfl,hT,q⟩:=h
 have hu:=hr.units0
 have hu64:=hr.units
 refine ⟨_,(au (bM (gF (iy (bV (bO (aD (bU (K:=K) rfl) aN T.b_isinstance aM (aa (aq 0) (aa (nU aN T.b_str HS (by trivial) (by trivial)) ao)) (by trivial) (by trivial)))) (gC (bu qR (aD (aG (K:=K) rfl) aN T.b_len bc (aa (aq 0) ao) (by trivial) (by trivial)) (Bv aN T.c_MOST_LETTERS (by trivial)) (by walk_at "p"))))) (aA (aK iw)) bx) (aA (aK (aD (u5 rfl) aN T.b_all Bs (aa (gW (sub:=[none]) (bI (N:=["thing"]) (sc:=az mV) (N':=["sign"]) (by trivial)) rfl rfl rfl (d8 (K:=K) rfl (aq 0)) (fun C s₀ H₀ ex=>(kY 0 (by trivial) wz)) (fun C s₀ H₀ ex=>dq) (fun C s₀ H₀ ex=>(Dq (Jj (K:=K) rfl hu64) (fZ 0 (by trivial)) (su (Fx (by trivial)) T.c_LETTERS (by trivial)) (by walk_at "p")))) ao) (by trivial) (by trivial))))),?_⟩
 walk_at "s"
 rcases hT with ⟨z,rfl,hz⟩ | ⟨ty,hty,hk⟩
 ·have hz1:z.length<=sizeLine:=WY hz (by decide)
  refine ie (.str z) rfl ?_
  walk_at "s"
  refine cR hz1 ?_
  walk_at "s"
  refine iJ (fun h1=>?_) (fun h1=>?_)
  ·walk_at "s"
   have:yW (.str z)=false:=by
    unfold yW nP
    dsimp only
    rw [W2 (by omega)];rfl
   have q':=q H (Same.refl H)
   rw [this] at q'
   exact q'
  ·walk_at "s"
   refine .inr (.inr ⟨z,rfl,?_⟩)
   refine xu (fun i us G=>G=H/\us=((z.cps.toList.take i).map fun c=>!tE pQ c).map V.bl) hz1 ⟨rfl,rfl⟩ ?_ ?_ ?_
   ·rintro i us G ⟨rfl,rfl⟩
    simp;omega
   ·rintro i us G c hc ⟨rfl,rfl⟩
    walk_at "s"
    refine ⟨KeepSt.set rfl,?_⟩
    walk_at "s"
    refine ⟨rfl,?_⟩
    rw [Yp,hc]
    simp [pQ,tE]
   ·rintro us G D H' ⟨rfl,rfl⟩ nD S hD
    try walk_at "s"
    refine ⟨D,_,rfl,hD,?_⟩
    have e1:z.cps.toList.take z.cps.size=z.cps.toList:=Xq (by simp)
    have e2:yW (.str z)=(List.map (fun c=>!tE pQ c) (z.cps.toList.take z.cps.size)).all id:=by
     unfold yW nP
     dsimp only
     rw [W0 (by omega),Bool.true_and,e1,List.all_map];rfl
    have q':=q _ S
    rw [e2] at q'
    exact q'
 ·refine ie hty hk ?_
  walk_at "s"
  have q':=q H (Same.refl H)
  rw [show yW v=false from JK hty hk] at q'
  exact q'
def Wh (mg:Str->Option Value) (C:Str) (H:Hp) (E:XK) (v:V):Prop:=∀ e H',Same H H'->MF H' e (aP mg C) [("found",v)]->E (.ref (aP mg C)) (some e) H'
def PT (K:W.Frag) (H:Hp) (v:V):Prop:=Thing K H v/\(yW v=true->∃ z,v= .str z/\Pln z)
theorem PT.same {H H':Hp} {v:V} (h:PT K H v) (s:Same H H'):PT K H' v:=⟨h.1.same s,h.2⟩
theorem Pln.pt {z:Str} (h:Pln z) {H:Hp}:PT K H (.str z):=⟨h.th,fun _=>⟨z,rfl,h⟩⟩
def Su (K:W.Frag) (mg:Str->Option Value):Sp:=fun vs H Q E=>∃ v:V,vs=[v]/\Thing K H v/\(yW v=true->∀ H',Same H H'->Q .non H')/\(yW v=false->Wh mg "NoPlain" H E v)
theorem wB:aF ["thing"] ["thing"] (az mW):=⟨rfl,rfl,rfl,by trivial,rfl,by trivial,by trivial⟩
theorem nG (T:Txt K mg):HasX P w K mg base 3 "need_plain" ["thing"] (Su K mg):=by
 have qH:=qH (P:=P) (w:=w) (base:=base) T
 refine Je T.d_need_plain wB (fun _ _ _ _ _ _ us hl=>L2.p7 (fun _=>rfl) us hl) ?_ fun f cdv A outer s H vs Q E hr h=>?_
 ·rintro vs H Q E ⟨v,rfl,_⟩;rfl
 obtain ⟨v,rfl,hT,q1,q2⟩:=h
 have hu:=hr.units0
 have hu64:=hr.units
 refine ⟨_,(aA (bM (bV (bO (aH qH (hr.mono (by decide)) aN (aa (aq 0) ao) (by trivial)))) (aA (Jd (Cu (P:=P) (w:=w) (base:=base) T) (hr.mono (by decide)) rfl aN my (aa (aq 0) ao) (by trivial))) bx)),?_⟩
 walk_at "s"
 refine ⟨v,rfl,hT,fun H1 S1=>?_⟩
 walk_at "s"
 cases hb:yW v with
 | true=>
  walk_at "s"
  exact q1 hb H1 S1
 | false=>
  walk_at "s"
  exact ⟨rfl,(show 1<=sizeLine by decide),fun x H2 S2 X2=>q2 hb x H2 (S1.trans S2) X2⟩
theorem Pln.rowB {z:Str} (h:Pln z):qF z:=by
 have h1:z.length<=24:=h.1
 refine ⟨by omega,?_⟩
 show (decide ((z.length:Int)<=48) && z.cps.toList.all fun c=>!tE LP c)=true
 rw [W0 (by omega),Bool.true_and,Yl]
 intro c hc
 rw [(h.ok hc).2];rfl
end
local macro_rules | `(tactic| walk_at "s") => `(tactic| (with_reducible repeat (first | refine j4 ?_ | walk_at "4")))
local macro_rules | `(tactic| walk_at "n") => `(tactic| (with_reducible repeat (walk_at "4")))
section
variable {P:Program} {w:World} {K:W.Frag} {mg:Str->Option Value} {base:Heap}
theorem dJ:aF ["above","sign","top","row","column","other","length"] ["above","sign","top"] (az jC):=⟨rfl,rfl,rfl,by trivial,rfl,by trivial,by trivial⟩
theorem jH (T:Txt K mg):jN P w K mg base 1 "lengths_below" ["above","sign","top"] Nq:=by
 refine dZ T.d_lengths_below dJ (fun _ _ _ _ _ _ us hl=>L2.pN (fun _ _ _=>rfl) us hl) ?_ fun f cdv A outer s H vs Q E hr h=>?_
 ·rintro vs H Q E ⟨a,S,i,c,top,rfl,_⟩;rfl
 obtain ⟨a,S,i,c,top,rfl,hc,ht,ha,q⟩:=h
 have hu:=hr.units0
 have hu64:=hr.units
 refine ⟨_,(au (aJ (i:=3) dJ.nd rfl bT (dU (aa aC ao)) rfl) (au (du Xa rfl (jQ (K:=K) rfl rfl aN T.b_enumerate (aa (aq 2) ao)) (jB (K:=K) rfl rfl (bw (aY (i:=4) dJ.nd rfl bT rfl) (bw (aY (i:=5) dJ.nd rfl bT rfl) gO))) (au (aJ (i:=6) dJ.nd rfl bT (aD (o7 rfl) aN T.b_max vf (aa (bf (K:=K) rfl (aq 0) (aZ aV (aq 4) aC)) (aa (bf (K:=K) rfl (aq 3) (aq 4)) ao)) (by trivial) (by trivial)) rfl) (au (bM (bu (lG (K:=K) rfl hu64) (aq 1) (aq 5) (by walk_at "p")) (aA (aJ (i:=6) dJ.nd rfl bT (aD (o7 rfl) aN T.b_max vf (aa (aq 6) (aa (aZ aV (bf (K:=K) rfl (aq 0) (aq 4)) aC) ao)) (by trivial) (by trivial)) rfl)) bx) (aA (aL (bL (K:=K) rfl Wv Wy Wz aW (aq 3) (aa (aq 6) ao))))))) (aA (aK (aq 3))))),?_⟩
 walk_at "s"
 refine ⟨by decide,fun r nr=>?_⟩
 walk_at "s"
 refine .inl ⟨top,rfl,?_⟩
 have hsz:top.cps.size=top.length:=rfl
 refine vp (fun j U H'=>Same H H'/\H' r=some (.lst ((dR S top.cps.toList (i+1) (j+1)).map V.int))/\∃ x4 x5 x6,U=[some (.ref a),some (.str ⟨#[c]⟩),some (.str top),some (.ref r),x4,x5,x6])
  ⟨(Same.refl H).upd nr,by rw [aj];unfold dR;simp [yw],none,none,none,rfl⟩ ?_ ?_
 ·rintro j U H1 T0 hj ⟨S1,hr1,x4,x5,x6,rfl⟩ nT
  have hj':j < top.length:=hj
  have ed:top.cps.toList[j]?=some (top.cps.getD j 0):=by
   rw [Ym]
   have:top.cps[j]?=some top.cps[j]:=Yc hj
   simp [this,hj]
  refine bj (xs:=[.int j,.str ⟨#[top.cps.getD j 0]⟩]) (SqT.of aj) rfl ?_
  have ha2:upd H1 T0 (.tup (iz top j)) a=some (.lst ((dR S top.cps.toList i (top.length+1)).map V.int)):=aX nT (S1 _ _ ha)
  have hr2:upd H1 T0 (.tup (iz top j)) r=some (.lst ((dR S top.cps.toList (i+1) (j+1)).map V.int)):=aX nT hr1
  have S2:Same H (upd H1 T0 (.tup (iz top j))):=S1.upd nT
  have hl:((dR S top.cps.toList (i+1) (j+1)).map V.int).length < sizeLine:=by
   rw [Ws,mD]
   exact WK (show j+1 < 1000 by omega) (by decide)
  walk_at "s"
  refine aO (SqL.of ha2) (oR (j:=j+1) (by omega)) ?_
  walk_at "s"
  refine aO (SqL.of hr2) (oR (j:=j) (by omega)) ?_
  walk_at "s"
  refine iJ (fun hk=>?_) (fun hk=>?_)
  ·have ec:c=top.cps.getD j 0:=by
    have:=Str.mk.inj (V.str.inj hk)
    simpa using this
   walk_at "s"
   refine aO (SqL.of ha2) (oR (j:=j) (by omega)) ?_
   walk_at "s"
   refine ⟨.inl ⟨rfl,_,SqL.of hr2⟩,?_⟩
   walk_at "s"
   refine aQ hr2 hl ?_
   refine ⟨over S2 nr,?_,_,_,_,rfl⟩
   have ev:lt S top.cps.toList (i+1) (j+1)=mx (mx (lt S top.cps.toList i (j+1)) (lt S top.cps.toList (i+1) j)) (lt S top.cps.toList i j+1):=by rw [vM,if_pos (by rw [hc,ed,ec])]
   rw [aj,mF S _ (i+1) (j+1),ev,WT];rfl
  ·have ec:¬ S[i]?=top.cps.toList[j]?:=by
    rw [hc,ed]
    intro z
    exact hk (by rw [WR z])
   walk_at "s"
   refine ⟨.inl ⟨rfl,_,SqL.of hr2⟩,?_⟩
   walk_at "s"
   refine aQ hr2 hl ?_
   refine ⟨over S2 nr,?_,_,_,_,rfl⟩
   have ev:lt S top.cps.toList (i+1) (j+1)=mx (lt S top.cps.toList i (j+1)) (lt S top.cps.toList (i+1) j):=by rw [vM,if_neg ec]
   rw [aj,mF S _ (i+1) (j+1),ev,WT];rfl
 ·rintro U H1 ⟨S1,hr1,x4,x5,x6,rfl⟩
  walk_at "s"
  exact q r H1 nr S1 hr1
structure Tab (H:Hp) (t:Addr) (rs:List Addr) (rows:List (List Int)):Prop where
 at_:H t=some (.lst (rs.map V.ref))
 len:rs.length=rows.length
 nd:rs.Nodup
 ne:t ∉ rs
 row:∀ (i:Nat) (r:Addr) (xs:List Int),rs[i]?=some r->rows[i]?=some xs->H r=some (.lst (xs.map V.int))
theorem zeros (S P:List Nat) (n:Nat):(List.replicate n [V.int 0]).flatten=(dR S P 0 n).map V.int:=by
 induction n with
 | zero=>rfl
 | succ n ih=>
  rw [mF,WT,← ih,lt_0,List.replicate_succ',List.flatten_append];rfl
theorem yM {α:Type} {xs:List α} {n:Nat} {v:α} (h:xs.length=n+1) (e:xs[n]?=some v):rR xs (-1)=some v:=by
 unfold rR Df
 rw [h,if_neg (by omega),if_pos (by omega)]
 show xs[((-1:Int)+((n+1:Nat):Int)).toNat]?=some v
 rw [show ((-1:Int)+((n+1:Nat):Int)).toNat=n by omega];exact e
def qI (S P:List Nat) (m n:Nat):List (List Int):=(List.range m).map fun i=>dR S P i n
def Sv:Sp:=fun vs H Q _=>∃ side top:Str,vs=[.str side,.str top]/\qF side/\qF top/\∀ t rs H',H t=none->(∀ r∈rs,H r=none)->Same H H'->Tab H' t rs (qI side.cps.toList top.cps.toList (side.length+1) (top.length+1))->Q (.ref t) H'
theorem qJ:aF ["side","top","table","sign"] ["side","top"] (az sX):=⟨rfl,rfl,rfl,by trivial,rfl,by trivial,by trivial⟩
theorem jW (T:Txt K mg):jN P w K mg base 5 "lengths" ["side","top"] Sv:=by
 have bR:=bR (P:=P) (w:=w) (base:=base) T
 have jH:=jH (P:=P) (w:=w) (base:=base) T
 refine dZ T.d_lengths qJ (fun _ _ _ _ _ _ us hl=>L2.kW (fun _ _=>rfl) us hl) ?_ fun f cdv A outer s H vs Q E hr h=>?_
 ·rintro vs H Q E ⟨side,top,rfl,_⟩;rfl
 obtain ⟨side,top,rfl,hs,ht,q0⟩:=h
 have hu:=hr.units0
 have hu64:=hr.units
 refine ⟨_,(au (aL (aH bR (hr.mono (by decide)) aN (aa (aq 0) (aa (aq 1) ao)) (by trivial))) (au (aJ (i:=2) qJ.nd rfl bT (dU (aa (aZ jO (dU (aa aC ao)) (aZ aV (aD (aG (K:=K) rfl) aN T.b_len bc (aa (aq 1) ao) (by trivial) (by trivial)) aC)) ao)) rfl) (au (du Xa rfl (d8 (K:=K) rfl (aq 0)) (aY (i:=3) qJ.nd rfl bT rfl) (aA (aL (bL (K:=K) rfl Wv Wy Wz aW (aq 2) (aa (aH jH (hr.mono (by decide)) aN (aa (bf (K:=K) rfl (aq 2) (Bw qd aC)) (aa (aq 3) (aa (aq 1) ao))) (by trivial)) ao))))) (aA (aK (aq 2)))))),?_⟩
 walk_at "s"
 refine ⟨side,top,rfl,hs,ht,fun H1 S1=>?_⟩
 walk_at "s"
 have lt1:top.length<=sizeLine:=WY ht.1 (by decide)
 walk_at "s"
 refine ⟨by simp;decide,fun p0 n0=>?_⟩
 walk_at "s"
 refine cR lt1 ?_
 walk_at "s"
 refine yh aj (by omega) (by have:=ht.1;omega) (WY (show [V.int 0].length*((top.length:Int)+1).toNat<=1000 by have:=ht.1;simp;omega) (by decide)) fun p1 n1=>?_
 walk_at "s"
 refine ⟨by simp;decide,fun t n2=>?_⟩
 walk_at "s"
 refine .inr (.inr ⟨side,rfl,?_⟩)
 have e0:(List.replicate ((top.length:Int)+1).toNat [V.int 0]).flatten=(dR side.cps.toList top.cps.toList 0 (top.length+1)).map V.int:=by
  rw [show ((top.length:Int)+1).toNat=top.length+1 by omega]
  exact zeros _ _ _
 rw [e0] at n2 ⊢
 have nt1:H1 t=none:=(((Same.refl H1).upd n0).upd n1).free n2
 have nt:H t=none:=S1.free nt1
 have npt:p1≠t:=fun z=>by rw [z,aj] at n2;cases n2
 refine Mq (z:=side) (fun i U H'=>Same H H'/\(∃ rs,(∀ r∈rs,H r=none)/\Tab H' t rs (qI side.cps.toList top.cps.toList (i+1) (top.length+1)))/\∃ x3,U=[some (.str side),some (.str top),some (.ref t),x3])
  ⟨(((S1.upd n0).upd n1).upd n2),⟨[p1],fun r hr=>by rw [WP.mp hr];exact S1.free (((Same.refl H1).upd n0).free n1),⟨aj,by simp [qI],by simp,by simpa using Ne.symm npt,fun i r xs e1 e2=>?_⟩⟩,none,rfl⟩ ?_ ?_
 ·have hi:i=0:=by
   have:=(Wm.mp e1).1
   simp at this;exact this
  subst hi
  simp [qI] at e1 e2
  subst e1 e2
  exact aX n2 aj
 ·rintro i U H2 c hc ⟨S2,⟨rs,fr,TB⟩,x3,rfl⟩
  have hi:i < side.length:=by
   have:=(Wm.mp hc).1
   simpa [Str.length] using this
  have hrl:rs.length=i+1:=by rw [TB.len];simp [qI]
  obtain ⟨r,er⟩:∃ r,rs[i]?=some r:=⟨_,Wn (show i < rs.length by omega)⟩
  have hrow:=TB.row i r (dR side.cps.toList top.cps.toList i (top.length+1)) er (by unfold qI;rw [Wo,Xd (by omega)];rfl)
  walk_at "s"
  refine ⟨.inl ⟨rfl,_,SqL.of TB.at_⟩,?_⟩
  walk_at "s"
  refine aO (SqL.of TB.at_) (yM (n:=i) (v:=.ref r) (by simp [hrl]) (by rw [Wo,er];rfl)) ?_
  walk_at "s"
  refine ⟨r,side.cps.toList,i,c,top,rfl,hc,ht.1,hrow,fun r2 H3 nr2 S3 hr2=>?_⟩
  walk_at "s"
  refine aQ (S3 _ _ TB.at_) (by rw [Ws,hrl];exact WK (show i+1 < 1000 by have:=hs.1;omega) (by decide)) ?_
  have nr2t:r2≠t:=fun z=>by rw [z,TB.at_] at nr2;cases nr2
  have nrs:∀ r'∈rs,r'≠t:=fun r' hr' z=>TB.ne (by rw [← z];exact hr')
  have nin:r2 ∉ rs:=fun z=>by
   obtain ⟨k,hk,ek⟩:=XR.mp z
   have hk2:k < (qI side.cps.toList top.cps.toList (i+1) (top.length+1)).length:=by rw [← TB.len];exact hk
   have:=TB.row k r2 _ (by rw [Wn hk,ek]) (Wn hk2)
   rw [this] at nr2;cases nr2
  refine ⟨over (S2.trans S3) nt,⟨rs ++ [r2],fun r hr=>(Xi.mp hr).elim (fr r) fun z=>by rw [WP.mp z];exact S2.free nr2,⟨by rw [aj];simp,by simp [hrl,qI],?_,?_,fun k r' xs e1 e2=>?_⟩⟩,_,rfl⟩
  ·rw [YB]
   exact ⟨TB.nd,by simp,fun a ha b hb z=>nin (by rw [WP.mp hb] at z;rw [← z];exact ha)⟩
  ·intro z
   rcases Xi.mp z with z | z
   ·exact TB.ne z
   ·exact nr2t (WP.mp z).symm
  ·by_cases hk:k < rs.length
   ·rw [WM hk] at e1
    rw [aB (nrs r' (WW e1))]
    refine S3 _ _ (TB.row k r' xs e1 ?_)
    unfold qI at e2 ⊢
    rw [Wo,Xd (by omega)] at e2
    rw [Wo,Xd (by omega)]
    exact e2
   ·have hk2:k < (rs ++ [r2]).length:=(Wm.mp e1).1
    simp at hk2
    have hk3:k=i+1:=by omega
    subst hk3
    rw [WN (by omega),hrl] at e1
    simp at e1
    subst e1
    unfold qI at e2
    rw [Wo,Xd (by omega)] at e2
    have e3:=WR e2
    rw [aB nr2t,← e3]
    exact hr2
 ·rintro U H2 ⟨S2,⟨rs,fr,TB⟩,x3,rfl⟩
  walk_at "s"
  exact q0 t rs H2 nt fr S2 TB
end
theorem Kg (i j:Int):i<=mx i j:=by unfold mx;split <;> omega
theorem Oi (i j:Int):j<=mx i j:=by unfold mx;split <;> omega
theorem uw {i j k:Int} (h:i<=k) (h':j<=k):mx i j<=k:=by unfold mx;split <;> omega
theorem Eg (S P:List Nat) (i j:Nat):lt S P i j<=lt S P (i+1) j:=by
 cases j with
 | zero=>rw [yw,yw];exact Int.le_refl _
 | succ j=>
  rw [vM]
  split
  ·exact Int.le_trans (Kg _ _) (Kg _ _)
  ·exact Kg _ _
theorem Pu (S P:List Nat) (i j:Nat):lt S P i j<=lt S P i (j+1):=by
 cases i with
 | zero=>rw [lt_0,lt_0];exact Int.le_refl _
 | succ i=>
  rw [vM S P i j]
  split
  ·exact Int.le_trans (Oi _ _) (Kg _ _)
  ·exact Oi _ _
theorem Aj (S P:List Nat):∀ (n i j:Nat),i+j<=n->lt S P (i+1) j<=lt S P i j+1/\lt S P i (j+1)<=lt S P i j+1
 | n,i,j,h=>by
  have key1:lt S P (i+1) j<=lt S P i j+1:=by
   cases j with
   | zero=>rw [yw,yw];omega
   | succ j=>
    cases n with
    | zero=>omega
    | succ n=>
     have a:=(Aj S P n i j (by omega)).1
     have b:=Pu S P i j
     rw [vM]
     split
     ·exact uw (uw (by omega) (by omega)) (by omega)
     ·exact uw (by omega) (by omega)
  have key2:lt S P i (j+1)<=lt S P i j+1:=by
   cases i with
   | zero=>rw [lt_0,lt_0];omega
   | succ i=>
    cases n with
    | zero=>omega
    | succ n=>
     have a:=(Aj S P n i j (by omega)).2
     have b:=Eg S P i j
     rw [vM]
     split
     ·exact uw (uw (by omega) (by omega)) (by omega)
     ·exact uw (by omega) (by omega)
  exact ⟨key1,key2⟩
theorem Al {S P:List Nat} {i j:Nat} (h:S[i]?=P[j]?):lt S P (i+1) (j+1)=lt S P i j+1:=by
 have a:=Aj S P (i+j) i j (Wq _)
 rw [vM,if_pos h]
 have l:mx (mx (lt S P i (j+1)) (lt S P (i+1) j)) (lt S P i j+1)<=lt S P i j+1:=uw (uw a.2 a.1) (Int.le_refl _)
 have r:=Oi (mx (lt S P i (j+1)) (lt S P (i+1) j)) (lt S P i j+1)
 omega
theorem Sw (S P:List Nat) (i j k:Nat):lt S P i j<=lt S P (i+k) j:=by
 induction k with
 | zero=>exact Int.le_refl _
 | succ k ih=>exact Int.le_trans ih (Eg S P (i+k) j)
theorem Sx (S P:List Nat) (i j k:Nat):lt S P i j<=lt S P i (j+k):=by
 induction k with
 | zero=>exact Int.le_refl _
 | succ k ih=>exact Int.le_trans ih (Pu S P i (j+k))
theorem xM {S P:List Nat} {i j i' j':Nat} (h:i<=i') (h':j<=j'):lt S P i j<=lt S P i' j':=by
 obtain ⟨k,rfl⟩:=Nat.le.dest h
 obtain ⟨l,rfl⟩:=Nat.le.dest h'
 exact Int.le_trans (Sw S P i j k) (Sx S P (i+k) j l)
theorem Am (S P:List Nat) (i j:Nat):0<=lt S P i j:=by
 have:=xM (S:=S) (P:=P) (Xx i) (Wq j)
 rwa [lt_0] at this
theorem qK (S P:List Nat):∀ (i j:Nat),lt S P i j<=i
 | 0,j=>by rw [lt_0];omega
 | i+1,j=>by
  have a:=(Aj S P (i+j) i j (Wq _)).1
  have b:=qK S P i j
  omega
abbrev PP:=Nat×Nat
def pD (p:PP):PyData:=.tuple [.int p.1,.int p.2]
def yX (S P:List Nat) (i n:Nat):List PP:=((List.range n).filter fun j=>decide (S[i]?=P[j]?)).map fun j=>(i,j)
def prs (S P:List Nat):Nat->List PP
 | 0=>[]
 | m+1=>prs S P m ++ yX S P m P.length
theorem rN (S P:List Nat) (i n:Nat):yX S P i (n+1)=yX S P i n ++ if S[i]?=P[n]? then [(i,n)] else []:=by
 unfold yX
 rw [Xz,List.filter_append,WT]
 by_cases h:S[i]?=P[n]?
 ·simp [List.filter_cons,h]
 ·simp [List.filter_cons,h]
theorem yN (S P:List Nat) (i n:Nat):(yX S P i n).length<=n:=by
 unfold yX
 rw [Ws]
 exact WY (YM _ _) (by simp)
theorem rO (S P:List Nat) (m:Nat):(prs S P m).length<=m*P.length:=by
 induction m with
 | zero=>simp [prs]
 | succ m ih=>
  have:=yN S P m P.length
  rw [prs,Xl,Nat.succ_mul]
  omega
theorem An {S P:List Nat} {i n:Nat} {p:PP} (h:p∈yX S P i n):p.1=i/\p.2 < n/\S[p.1]?=P[p.2]?:=by
 unfold yX at h
 obtain ⟨j,hj,rfl⟩:=Xg.mp h
 obtain ⟨h1,h2⟩:=List.mem_filter.mp hj
 exact ⟨rfl,Xe.mp h1,of_decide_eq_true h2⟩
theorem Eh {S P:List Nat} {m:Nat} {p:PP} (h:p∈prs S P m):p.1 < m/\p.2 < P.length/\S[p.1]?=P[p.2]?:=by
 induction m with
 | zero=>cases h
 | succ m ih=>
  rw [prs] at h
  rcases Xi.mp h with h | h
  ·obtain ⟨a,b,c⟩:=ih h
   exact ⟨by omega,b,c⟩
  ·obtain ⟨a,b,c⟩:=An h
   exact ⟨by omega,b,c⟩
def TK (H H':Hp):Prop:=∀ b xs,H b=some (.tup xs)->H' b=some (.tup xs)
theorem TK.same {H H':Hp} (s:Same H H'):TK H H':=fun b xs e=>s b _ e
theorem TK.lst {H:Hp} {q:Addr} {xs:List V} {o:HO} (h:H q=some (.lst xs)):TK H (upd H q o):=fun b ys e=>by
 rw [aB (fun z=>by rw [z,h] at e;cases e)];exact e
theorem xN {H:Hp} {p:PP} {v:V}:DR H (pD p) v↔∃ a,v= .ref a/\H a=some (.tup [.int p.1,.int p.2]):=by
 unfold pD
 rw [zH]
 constructor
 ·rintro ⟨a,vs,e,h,r⟩
  rw [dN] at r
  obtain ⟨v1,r1,rfl,h1,r2⟩:=r
  rw [dN] at r2
  obtain ⟨v2,r3,rfl,h2,r4⟩:=r2
  rw [fQ] at r4
  rw [qi] at h1 h2
  subst h1 h2 r4
  exact ⟨a,e,h⟩
 ·rintro ⟨a,e,h⟩
  exact ⟨a,_,e,h,dN.mpr ⟨_,_,rfl,qi.mpr rfl,ph (qi.mpr rfl)⟩⟩
theorem rP {H H':Hp} (t:TK H H'):∀ (ps:List PP) (vs:List V),DRs H (ps.map pD) vs->DRs H' (ps.map pD) vs
 | [],vs,h=>by rw [List.map_nil,fQ] at h ⊢;exact h
 | p :: ps,vs,h=>by
  rw [Xh,dN] at h ⊢
  obtain ⟨v,r,e,hd,hr⟩:=h
  obtain ⟨a,ea,ha⟩:=xN.mp hd
  exact ⟨v,r,e,xN.mpr ⟨a,ea,t _ _ ha⟩,rP t ps r hr⟩
def PL (H:Hp) (q:Addr) (ps:List PP):Prop:=∃ vs,H q=some (.lst vs)/\DRs H (ps.map pD) vs
theorem PL.keep {H H':Hp} {q:Addr} {ps:List PP} (h:PL H q ps) (t:TK H H') (e:∀ vs,H q=some (.lst vs)->H' q=some (.lst vs)):PL H' q ps:=by
 obtain ⟨vs,h1,h2⟩:=h
 exact ⟨vs,e vs h1,rP t ps vs h2⟩
theorem PL.same {H H':Hp} {q:Addr} {ps:List PP} (h:PL H q ps) (s:Same H H'):PL H' q ps:=h.keep (TK.same s) fun _ e=>s _ _ e
theorem PL.len {H:Hp} {q:Addr} {ps:List PP} (h:PL H q ps):∃ vs,H q=some (.lst vs)/\vs.length=ps.length/\DRs H (ps.map pD) vs:=by
 obtain ⟨vs,h1,h2⟩:=h
 exact ⟨vs,h1,by have:=yj h2;simpa using this,h2⟩
theorem PL.push {H:Hp} {q T:Addr} {ps:List PP} {i j:Nat} (h:PL H q ps) (hT:H T=some (.tup [.int i,.int j])):∃ vs,H q=some (.lst vs)/\vs.length=ps.length/\PL (upd H q (.lst (vs ++ [.ref T]))) q (ps ++ [(i,j)]):=by
 obtain ⟨vs,h1,hl,h2⟩:=h.len
 refine ⟨vs,h1,hl,vs ++ [.ref T],aj,?_⟩
 rw [WT]
 refine j6 (rP (TK.lst h1) ps vs h2) (ph (xN.mpr ⟨T,rfl,TK.lst h1 _ _ hT⟩))
theorem PL.at_ {H:Hp} {q:Addr} {ps:List PP} {vs:List V} {k:Nat} {v:V} (h:DRs H (ps.map pD) vs) (e:vs[k]?=some v):∃ p a,ps[k]?=some p/\v= .ref a/\H a=some (.tup [.int p.1,.int p.2]):=by
 have hl:=yj h
 rw [Ws] at hl
 have hk:k < ps.length:=by have:=(Wm.mp e).1;omega
 obtain ⟨u,h1,h2⟩:=Ib (i:=k) (d:=pD ps[k]) h (by rw [Wo,Wn hk];rfl)
 rw [e] at h1
 cases h1
 obtain ⟨a,ea,ha⟩:=xN.mp h2
 exact ⟨ps[k],a,Wn hk,ea,ha⟩
structure HTab (H:Hp) (t:Addr) (rs:List Addr) (hs:List (List PP)):Prop where
 at_:H t=some (.lst (rs.map V.ref))
 len:rs.length=hs.length
 nd:rs.Nodup
 ne:t ∉ rs
 row:∀ (i:Nat) (r:Addr) (ps:List PP),rs[i]?=some r->hs[i]?=some ps->PL H r ps
theorem HTab.same {H H':Hp} {t:Addr} {rs:List Addr} {hs:List (List PP)} (h:HTab H t rs hs) (s:Same H H'):HTab H' t rs hs:=
 ⟨s _ _ h.at_,h.len,h.nd,h.ne,fun i r ps e1 e2=>(h.row i r ps e1 e2).same s⟩
theorem Tab.same {H H':Hp} {t:Addr} {rs:List Addr} {hs:List (List Int)} (h:Tab H t rs hs) (s:Same H H'):Tab H' t rs hs:=
 ⟨s _ _ h.at_,h.len,h.nd,h.ne,fun i r ps e1 e2=>s _ _ (h.row i r ps e1 e2)⟩
theorem HTab.push {H:Hp} {t:Addr} {rs:List Addr} {hs:List (List PP)} {k:Nat} {r T:Addr} {ps:List PP} {i j:Nat} (h:HTab H t rs hs) (er:rs[k]?=some r) (eh:hs[k]?=some ps) (hT:H T=some (.tup [.int i,.int j])):
  ∃ vs,H r=some (.lst vs)/\vs.length=ps.length/\HTab (upd H r (.lst (vs ++ [.ref T]))) t rs (hs.set k (ps ++ [(i,j)])):=by
 obtain ⟨vs,h1,hl,h2⟩:=(h.row k r ps er eh).push hT
 have hm:r∈rs:=WW er
 have ntr:t≠r:=fun z=>h.ne (by rw [z];exact hm)
 refine ⟨vs,h1,hl,⟨by rw [aB ntr];exact h.at_,by rw [List.length_set];exact h.len,h.nd,h.ne,fun i' r' ps' e1 e2=>?_⟩⟩
 by_cases hik:i'=k
 ·subst hik
  rw [er] at e1
  cases e1
  rw [XS (by rw [← h.len];exact (Wm.mp er).1)] at e2
  cases e2
  exact h2
 ·rw [XF (Ne.symm hik)] at e2
  have nrr:r'≠r:=fun z=>by
   subst z
   obtain ⟨q1,_⟩:=Wm.mp e1
   exact hik ((List.getElem?_inj q1 h.nd).mp (e1.trans er.symm))
  exact (h.row i' r' ps' e1 e2).keep (TK.lst h1) fun _ e=>by rw [aB nrr];exact e
def uP (S P:List Nat) (L:Nat) (ps:List PP):List (List PP):=(List.range L).map fun (k:Nat)=>ps.filter fun p=>decide (lt S P p.1 p.2=(k:Int))
theorem vY {S P:List Nat} {L k:Nat} {ps:List PP} (h:k < L):(uP S P L ps)[k]?=some (ps.filter fun p=>decide (lt S P p.1 p.2=(k:Int))):=by
 unfold uP;rw [Wo,Xd h];rfl
theorem jj (S P:List Nat) (L:Nat) (ps:List PP):(uP S P L ps).length=L:=by simp [uP]
theorem Ao {S P:List Nat} {L k:Nat} {ps:List PP} {p:PP} (hk:lt S P p.1 p.2=(k:Int)) (h:k < L):uP S P L (ps ++ [p])=(uP S P L ps).set k ((ps.filter fun p=>decide (lt S P p.1 p.2=(k:Int))) ++ [p]):=by
 apply Zd
 intro i
 by_cases hi:i < L
 ·rw [vY hi,List.filter_append]
  by_cases hik:i=k
  ·subst hik
   rw [XS (by rw [jj];exact hi)]
   simp [List.filter_cons,hk]
  ·rw [XF (Ne.symm hik),vY hi]
   have:¬ lt S P p.1 p.2=(i:Int):=by omega
   simp [List.filter_cons,this]
 ·rw [XN (by rw [jj];omega),XN (by rw [List.length_set,jj];omega)]
theorem Ei {S P:List Nat} {m n:Nat} {p:PP} (hn:n=P.length) (h:p∈prs S P m):0<=lt S P p.1 p.2/\lt S P p.1 p.2 < lt S P m n:=by
 obtain ⟨a,b,c⟩:=Eh h
 refine ⟨Am _ _ _ _,?_⟩
 have e:=Al c
 have:lt S P (p.1+1) (p.2+1)<=lt S P m n:=xM (by omega) (by omega)
 omega
theorem tU {z:Str} {j:Nat} (hj:j < z.cps.size):z.cps.toList[j]?=some (z.cps.getD j 0):=by
 rw [Ym]
 have:z.cps[j]?=some z.cps[j]:=Yc hj
 simp [this,hj]
theorem yO {a b:Nat}:V.str ⟨#[a]⟩=V.str ⟨#[b]⟩↔a=b:=by
 constructor
 ·intro h
  have:=Str.mk.inj (V.str.inj h)
  simpa using this
 ·rintro rfl;rfl
def Out (rs:List Addr) (H H':Hp):Prop:=∀ b o,b ∉ rs->H b=some o->H' b=some o
theorem Out.refl (rs:List Addr) (H:Hp):Out rs H H:=fun _ _ _ e=>e
theorem Out.step {rs:List Addr} {H H':Hp} {r:Addr} {o:HO} (h:Out rs H H') (hr:r∈rs):Out rs H (upd H' r o):=fun b u hb e=>by
 rw [aB (fun z=>hb (by rw [z];exact hr))];exact h b u hb e
theorem Out.same {rs:List Addr} {H0 H H':Hp} (h:Out rs H H') (s:Same H0 H) (n:∀ r∈rs,H0 r=none):Same H0 H':=fun b o e=>
 h b o (fun hb=>by rw [n b hb] at e;cases e) (s b o e)
theorem TK.out {rs:List Addr} {H H':Hp} (h:Out rs H H') (l:∀ r∈rs,∃ xs,H r=some (.lst xs)):TK H H':=fun b xs e=>
 h b _ (fun hb=>by obtain ⟨ys,q⟩:=l b hb;rw [q] at e;cases e) e
theorem Tab.out {rs:List Addr} {H H':Hp} {t:Addr} {ts:List Addr} {rows:List (List Int)} (h:Tab H t ts rows) (o:Out rs H H') (n:t ∉ rs) (m:∀ r∈ts,r ∉ rs):Tab H' t ts rows:=
 ⟨o _ _ n h.at_,h.len,h.nd,h.ne,fun i r xs e1 e2=>o _ _ (m r (WW e1)) (h.row i r xs e1 e2)⟩
theorem Tab.mem {H:Hp} {t:Addr} {rs:List Addr} {rows:List (List Int)} (h:Tab H t rs rows) {r:Addr} (hr:r∈rs):∃ xs,H r=some (.lst xs):=by
 obtain ⟨k,hk,ek⟩:=XR.mp hr
 have hk2:k < rows.length:=by rw [← h.len];exact hk
 exact ⟨_,h.row k r _ (by rw [Wn hk,ek]) (Wn hk2)⟩
theorem HTab.mem {H:Hp} {t:Addr} {rs:List Addr} {rows:List (List PP)} (h:HTab H t rs rows) {r:Addr} (hr:r∈rs):∃ xs,H r=some (.lst xs):=by
 obtain ⟨k,hk,ek⟩:=XR.mp hr
 have hk2:k < rows.length:=by rw [← h.len];exact hk
 obtain ⟨vs,e,_⟩:=h.row k r _ (by rw [Wn hk,ek]) (Wn hk2)
 exact ⟨_,e⟩
theorem HTab.out {rs:List Addr} {H H':Hp} {t:Addr} {ts:List Addr} {rows:List (List PP)} (h:HTab H t ts rows) (o:Out rs H H') (l:∀ r∈rs,∃ xs,H r=some (.lst xs)) (n:t ∉ rs) (m:∀ r∈ts,r ∉ rs):HTab H' t ts rows:=
 ⟨o _ _ n h.at_,h.len,h.nd,h.ne,fun i r xs e1 e2=>(h.row i r xs e1 e2).keep (TK.out o l) fun vs e=>o _ _ (m r (WW e1)) e⟩
theorem HTab.start {S P:List Nat} {H1 H2:Hp} {D:Addr} {rs:List Addr} {L:Nat} (hl:rs.length=L) (hnd:rs.Nodup) (hrs:∀ r∈rs,H1 r=none/\H2 r=some (.lst [])) (hD:H2 D=none):HTab (upd H2 D (.lst (rs.map V.ref))) D rs (uP S P L []):=by
 have nD:D ∉ rs:=fun z=>by rw [(hrs D z).2] at hD;cases hD
 refine ⟨aj,by rw [jj];exact hl,hnd,nD,fun i r ps e1 e2=>?_⟩
 have hm:=WW e1
 have hi:i < L:=by have:=(Wm.mp e1).1;omega
 rw [vY hi] at e2
 have e3:=WR e2
 subst e3
 refine ⟨[],?_,fQ.mpr rfl⟩
 rw [aB (fun z=>nD (by rw [← z];exact hm))]
 exact (hrs r hm).2
theorem yP {H:Hp} {t:Addr} {rs:List Addr} {S P:List Nat} {m n:Nat} (TB:Tab H t rs (qI S P m n)) {k:Int} {i:Nat} (hk:k=(i:Int)) (hi:i < m):∃ r,rR (rs.map V.ref) k=some (.ref r)/\rs[i]?=some r/\H r=some (.lst ((dR S P i n).map V.int)):=by
 subst hk
 have hrl:rs.length=m:=by rw [TB.len];simp [qI]
 obtain ⟨r,er⟩:∃ r,rs[i]?=some r:=⟨_,Wn (show i < rs.length by omega)⟩
 refine ⟨r,dO (by rw [Wo,er];rfl),er,TB.row i r _ er (by unfold qI;rw [Wo,Xd hi];rfl)⟩
theorem yQ {S P:List Nat} {i n j:Nat} {k:Int} (hk:k=(j:Int)) (h:j < n):rR ((dR S P i n).map V.int) k=some (.int (lt S P i j)):=by
 subst hk;exact oR h
theorem Kh {z:Str} {k:Int} {j:Nat} (hk:k=(j:Int)) (h:j < z.length):∃ c,z.cps.toList[j]?=some c/\rR z.cps.toList k=some c:=by
 subst hk
 have:j < z.cps.toList.length:=by simpa [Str.length] using h
 exact ⟨_,Wn this,dO (Wn this)⟩
section
variable {P:Program} {w:World} {K:W.Frag} {mg:Str->Option Value} {base:Heap}
def MR (r:R2):Prop:=∀ x y H Q Q',(∀ v H1,Q v H1->Q' v H1)->r x y H Q->r x y H Q'
def ME (te:TE):Prop:=∀ U H Q Q',(∀ v H1,Q v H1->Q' v H1)->te U H Q->te U H Q'
def MT (te:TT):Prop:=∀ U H Q Q',(∀ v H1,Q v H1->Q' v H1)->te U H Q->te U H Q'
theorem Px (g:Int->Int->V):MR (G7 g):=by
 rintro x y H Q Q' h ⟨i,j,e1,e2,q⟩
 exact ⟨i,j,e1,e2,h _ _ q⟩
theorem Kl (i:Nat):ME (p8 i):=by
 rintro U H Q Q' h ⟨v,e,q⟩
 exact ⟨v,e,h _ _ q⟩
theorem VF (v:V):ME (tC v):=fun U H Q Q' h q=>h _ _ q
theorem Py {r:R2} {ta tb:TE} (hr:MR r) (ha:ME ta) (hb:ME tb):ME (G6 r ta tb):=fun U H Q Q' h q=>ha U H _ _ (fun x H1 q1=>hb U H1 _ _ (fun y H2 q2=>hr _ _ _ _ _ h q2) q1) q
theorem Ej {te:TE} (h:ME te):MT (wN te):=fun U H Q Q' hq q=>h U H _ _ (fun x H1 ⟨k,e,q1⟩=>⟨k,e,hq _ _ q1⟩) q
theorem Sy {t u:TT} (h:MT t) (h2:MT u):MT (K1 t u):=fun U H Q Q' hq q=>h U H _ _ (fun c H1 q1=>by
 cases c with
 | true=>rw [if_pos rfl] at q1 ⊢;exact h2 _ _ _ _ hq q1
 | false=>rw [if_neg WF] at q1 ⊢;exact hq _ _ q1) q
def wb (S P:List Nat) (i j:Nat):List PP:=match i,j with
 | 0,_=>[]
 | _+1,0=>[]
 | i+1,j+1=>if S[i]?=P[j]? then (i,j) :: wb S P i j else if lt S P i (j+1)=lt S P (i+1) (j+1) then wb S P i (j+1) else wb S P (i+1) j
termination_by i+j
theorem SJ (S P:List Nat) (j:Nat):wb S P 0 j=[]:=by rw [wb]
theorem SM (S P:List Nat) (i:Nat):wb S P i 0=[]:=by cases i <;> rw [wb]
theorem Km (S P:List Nat) (i j:Nat):wb S P (i+1) (j+1)=if S[i]?=P[j]? then (i,j) :: wb S P i j else if lt S P i (j+1)=lt S P (i+1) (j+1) then wb S P i (j+1) else wb S P (i+1) j:=by rw [wb]
theorem vZ (S P:List Nat):∀ (n i j:Nat),i+j<=n->(wb S P i j).length<=i
 | _,0,j,_=>by rw [SJ];simp
 | _,i+1,0,_=>by rw [SM];simp
 | 0,i+1,j+1,h=>by omega
 | n+1,i+1,j+1,h=>by
  rw [Km]
  split
  ·have:=vZ S P n i j (by omega);simp;omega
  ·split
   ·have:=vZ S P n i (j+1) (by omega);omega
   ·have:=vZ S P n (i+1) j (by omega);omega
def mu34 (U:St) (_:Hp):Nat:=match U[3]?,U[4]? with
 | some (some (V.int z)),some (some (V.int y))=>z.toNat+y.toNat
 | _,_=>0
theorem yR {H:Hp}:∀ {ds:List PyData} {vs:List V},DRs H ds vs->DRs H ds.reverse vs.reverse
 | [],_,h=>by rw [fQ] at h;subst h;exact fQ.mpr rfl
 | d :: ds,_,h=>by
  rw [dN] at h
  obtain ⟨v,r,rfl,hd,hr⟩:=h
  rw [List.reverse_cons,List.reverse_cons]
  exact j6 (yR hr) (ph hd)
def Wi (g:Str->Str->Hp->VK->Prop):Sp:=fun vs H Q _=>∃ side top:Str,vs=[.str side,.str top]/\qF side/\qF top/\g side top H Q
def Oj:Str->Str->Hp->VK->Prop:=fun side top H Q=>∀ (q:Addr) (H':Hp),H q=none->Same H H'->PL H' q (wb side.cps.toList top.cps.toList side.length top.length).reverse->Q (.ref q) H'
theorem dB:aF ["side","top","table","i","j","found"] ["side","top"] (az oM):=⟨rfl,rfl,rfl,by trivial,rfl,by trivial,by trivial⟩
theorem oW (T:Txt K mg):jN P w K mg base 6 "thread_of" ["side","top"] (Wi Oj):=by
 have jW:=jW (P:=P) (w:=w) (base:=base) T
 refine dZ T.d_thread_of dB (fun _ _ _ _ _ _ us hl=>L2.kW (fun _ _=>rfl) us hl) ?_ fun f cdv A outer s H vs Q E hr h=>?_
 ·rintro vs H Q E ⟨side,top,rfl,_⟩;rfl
 obtain ⟨side,top,rfl,hs,ht,q⟩:=h
 have hu:=hr.units0
 have hu64:=hr.units
 refine ⟨_,(au (aJ (i:=2) dB.nd rfl bT (aH jW (hr.mono (by decide)) aN (aa (aq 0) (aa (aq 1) ao)) (by trivial)) rfl) (au (aJ (i:=3) dB.nd rfl bT (aD (aG (K:=K) rfl) aN T.b_len bc (aa (aq 0) ao) (by trivial) (by trivial)) rfl) (au (aJ (i:=4) dB.nd rfl bT (aD (aG (K:=K) rfl) aN T.b_len bc (aa (aq 1) ao) (by trivial) (by trivial)) rfl) (au (aJ (i:=5) dB.nd rfl bT (dU ao) rfl) (au (HY Xa (gF (vh (bu qR (aq 3) aC (by walk_at "p")) (rB (bu qR (aq 4) aC (by walk_at "p"))))) (aA (bM (bu (lG (K:=K) rfl hu64) (bf (K:=K) rfl (aq 0) (aZ gQ (aq 3) aC)) (bf (K:=K) rfl (aq 1) (aZ gQ (aq 4) aC)) (by walk_at "p")) (au (yp (i:=3) dB.nd rfl bT aC uG rfl) (au (yp (i:=4) dB.nd rfl bT aC uG rfl) (aA (aL (bL (K:=K) rfl Wv Wy Wz aW (aq 5) (aa (gw (aa (aq 3) (aa (aq 4) ao))) ao)))))) (aA (bM (bu (lG (K:=K) rfl hu64) (bf (K:=K) rfl (bf (K:=K) rfl (aq 2) (aZ gQ (aq 3) aC)) (aq 4)) (bf (K:=K) rfl (bf (K:=K) rfl (aq 2) (aq 3)) (aq 4)) (by walk_at "p")) (aA (yp (i:=3) dB.nd rfl bT aC uG rfl)) (aA (yp (i:=4) dB.nd rfl bT aC uG rfl))))))) (aA (aK (xg (K:=K) rfl rfl aN T.b_list aN T.b_reversed (aq 5))))))))),?_⟩
 walk_at "s"
 refine ⟨side,top,rfl,hs,ht,fun t rs H1 nt fr S1 TB=>?_⟩
 have lz:side.length<=sizeLine:=WY hs.1 (by decide)
 have ly:top.length<=sizeLine:=WY ht.1 (by decide)
 walk_at "s"
 refine cR lz ?_
 walk_at "s"
 refine cR ly ?_
 walk_at "s"
 refine jL rfl fun fd nfd=>?_
 walk_at "s"
 have nH:H fd=none:=S1.free nfd
 refine G5 (fun U H'=>∃ (i j:Nat) (fs:List PP),U=[some (.str side),some (.str top),some (.ref t),some (.int i),some (.int j),some (.ref fd)]/\Same H H'/\Tab H' t rs (qI side.cps.toList top.cps.toList (side.length+1) (top.length+1))/\PL H' fd fs/\i<=side.length/\j<=top.length/\fs.length+i<=side.length/\fs ++ wb side.cps.toList top.cps.toList i j=wb side.cps.toList top.cps.toList side.length top.length) mu34
  ⟨side.length,top.length,[],rfl,S1.upd nfd,TB.same ((Same.refl H1).upd nfd),⟨[],aj,fQ.mpr rfl⟩,Wq _,Wq _,by simp,rfl⟩ ?_ ?_
 ·rintro U H' ⟨i,j,fs,rfl,s,TB',hf,hi,hj,hfl,hb⟩
  walk_at "s"
  cases i with
  | zero=>
   rw [W2 (by omega)]
   walk_at "s"
   rw [SJ,XQ] at hb
   obtain ⟨vs,h1,h2⟩:=hf
   refine ⟨_,rfl,_,_,rfl,SqL.of h1,fun r nr=>?_⟩
   exact q r _ (s.free nr) (s.upd nr) ⟨_,aj,by rw [← hb,List.map_reverse];exact DRs.same ((Same.refl H').upd nr) _ _ (yR h2)⟩
  | succ i=>
   rw [W0 (by omega)]
   walk_at "s"
   cases j with
   | zero=>
    rw [W2 (by omega)]
    walk_at "s"
    rw [SM,XQ] at hb
    obtain ⟨vs,h1,h2⟩:=hf
    refine ⟨_,rfl,_,_,rfl,SqL.of h1,fun r nr=>?_⟩
    exact q r _ (s.free nr) (s.upd nr) ⟨_,aj,by rw [← hb,List.map_reverse];exact DRs.same ((Same.refl H').upd nr) _ _ (yR h2)⟩
   | succ j=>
    rw [W0 (by omega)]
    walk_at "s"
    obtain ⟨c,hc,ac⟩:=Kh (z:=side) (k:=((i+1:Nat):Int) - 1) (j:=i) (by omega) (by omega)
    obtain ⟨d,hd,ad⟩:=Kh (z:=top) (k:=((j+1:Nat):Int) - 1) (j:=j) (by omega) (by omega)
    refine uh lz ac ?_
    walk_at "s"
    refine uh ly ad ?_
    walk_at "s"
    refine iJ (fun hk=>?_) (fun hk=>?_)
    ·have ec:side.cps.toList[i]?=top.cps.toList[j]?:=by rw [hc,hd,yO.mp hk]
     walk_at "s"
     refine ur (by with_unfolding_all rfl) ?_
     walk_at "s"
     refine ur (by with_unfolding_all rfl) ?_
     walk_at "s"
     rw [show ((i+1:Nat):Int) - 1=(i:Int) by omega,show ((j+1:Nat):Int) - 1=(j:Int) by omega]
     obtain ⟨vs0,h0,_⟩:=id hf
     refine ⟨.inl ⟨rfl,_,SqL.of h0⟩,?_⟩
     walk_at "s"
     refine ⟨by simp;decide,fun T1 nT1=>?_⟩
     walk_at "s"
     have s1:=(Same.refl H').upd nT1 (o:=.tup [.int i,.int j])
     obtain ⟨vs,h1,hl,h2⟩:=(hf.same s1).push (T:=T1) aj
     refine aQ h1 (by rw [hl];exact WK (show fs.length < 1000 by have:=hs.1;omega) (by decide)) ?_
     have nfT:∀ r∈t :: rs,r≠fd:=fun r hr z=>by
      subst z
      have:H1 r≠none:=by
       rcases WD.mp hr with rfl | hr
       ·rw [TB.at_];simp
       ·obtain ⟨xs,e⟩:=TB.mem hr;rw [e];simp
      exact this nfd
     refine ⟨⟨i,j,fs ++ [(i,j)],rfl,over (s.trans s1) nH,(TB'.same s1).out (rs:=[fd]) ((Out.refl [fd] _).step (by simp)) (by simpa using nfT t (by simp)) (fun r hr=>by simpa using nfT r (WL _ hr)),h2,by omega,by omega,by simp;omega,?_⟩,?_⟩
     ·rw [← hb,Km,if_pos ec,Yo];rfl
     ·show (i:Int).toNat+(j:Int).toNat < ((i+1:Nat):Int).toNat+((j+1:Nat):Int).toNat
      omega
    ·have ec:¬ side.cps.toList[i]?=top.cps.toList[j]?:=by
      rw [hc,hd]
      intro z
      exact hk (by rw [WR z])
     obtain ⟨r1,a1,_,b1⟩:=yP TB' (k:=((i+1:Nat):Int) - 1) (i:=i) (by omega) (by omega)
     obtain ⟨r2,a2,_,b2⟩:=yP TB' (k:=((i+1:Nat):Int)) (i:=i+1) rfl (by omega)
     walk_at "s"
     refine aO (SqL.of TB'.at_) a1 ?_
     walk_at "s"
     refine aO (SqL.of b1) (yQ (j:=j+1) rfl (by omega)) ?_
     walk_at "s"
     refine aO (SqL.of TB'.at_) a2 ?_
     walk_at "s"
     refine aO (SqL.of b2) (yQ (j:=j+1) rfl (by omega)) ?_
     walk_at "s"
     refine iJ (fun hk2=>?_) (fun hk2=>?_)
     ·have el:lt side.cps.toList top.cps.toList i (j+1)=lt side.cps.toList top.cps.toList (i+1) (j+1):=by injection hk2
      walk_at "s"
      refine ur (by with_unfolding_all rfl) ?_
      walk_at "s"
      refine ⟨⟨i,j+1,fs,by rw [show ((i+1:Nat):Int) - 1=(i:Int) by omega];rfl,s,TB',hf,by omega,by omega,by omega,?_⟩,?_⟩
      ·rw [← hb,Km,if_neg ec,if_pos el]
      ·show (((i+1:Nat):Int) - 1).toNat+((j+1:Nat):Int).toNat < ((i+1:Nat):Int).toNat+((j+1:Nat):Int).toNat
       omega
     ·have el:¬ lt side.cps.toList top.cps.toList i (j+1)=lt side.cps.toList top.cps.toList (i+1) (j+1):=fun z=>hk2 (by rw [z])
      walk_at "s"
      refine ur (by with_unfolding_all rfl) ?_
      walk_at "s"
      refine ⟨⟨i+1,j,fs,by rw [show ((j+1:Nat):Int) - 1=(j:Int) by omega];rfl,s,TB',hf,by omega,by omega,by omega,?_⟩,?_⟩
      ·rw [← hb,Km,if_neg ec,if_neg el]
      ·show ((i+1:Nat):Int).toNat+(((j+1:Nat):Int) - 1).toNat < ((i+1:Nat):Int).toNat+((j+1:Nat):Int).toNat
       omega
 ·exact Sy (Ej (Py (Px _) (Kl _) (VF _))) (Ej (Py (Px _) (Kl _) (VF _)))
def SN:Str->Str->Hp->VK->Prop:=fun side top H Q=>∀ (q:Addr) (H':Hp),H q=none->Same H H'->PL H' q (prs side.cps.toList top.cps.toList side.length)->Q (.ref q) H'
theorem il:aF ["side","top","pairs","i","sign","j","other"] ["side","top"] (az qz):=⟨rfl,rfl,rfl,by trivial,rfl,by trivial,by trivial⟩
theorem qL (T:Txt K mg):jN P w K mg base 5 "pairs_of" ["side","top"] (Wi SN):=by
 have bR:=bR (P:=P) (w:=w) (base:=base) T
 refine dZ T.d_pairs_of il (fun _ _ _ _ _ _ us hl=>L2.kW (fun _ _=>rfl) us hl) ?_ fun f cdv A outer s H vs Q E hr h=>?_
 ·rintro vs H Q E ⟨side,top,rfl,_⟩;rfl
 obtain ⟨side,top,rfl,hs,ht,q⟩:=h
 have hu:=hr.units0
 have hu64:=hr.units
 refine ⟨_,(au (aL (aH bR (hr.mono (by decide)) aN (aa (aq 0) (aa (aq 1) ao)) (by trivial))) (au (aJ (i:=2) il.nd rfl bT (dU ao) rfl) (au (du Xa rfl (jQ (K:=K) rfl rfl aN T.b_enumerate (aa (aq 0) ao)) (jB (K:=K) rfl rfl (bw (aY (i:=3) il.nd rfl bT rfl) (bw (aY (i:=4) il.nd rfl bT rfl) gO))) (aA (du Xa rfl (jQ (K:=K) rfl rfl aN T.b_enumerate (aa (aq 1) ao)) (jB (K:=K) rfl rfl (bw (aY (i:=5) il.nd rfl bT rfl) (bw (aY (i:=6) il.nd rfl bT rfl) gO))) (aA (bM (bu (lG (K:=K) rfl hu64) (aq 4) (aq 6) (by walk_at "p")) (aA (aL (bL (K:=K) rfl Wv Wy Wz aW (aq 2) (aa (gw (aa (aq 3) (aa (aq 5) ao))) ao)))) bx))))) (aA (aK (aq 2)))))),?_⟩
 walk_at "s"
 refine ⟨side,top,rfl,hs,ht,fun H1 S1=>?_⟩
 walk_at "s"
 refine ⟨by simp,fun pq npq=>?_⟩
 walk_at "s"
 refine .inl ⟨side,rfl,?_⟩
 have nH:H pq=none:=S1.free npq
 refine vp (fun i U H'=>Same H H'/\PL H' pq (prs side.cps.toList top.cps.toList i)/\∃ x3 x4 x5 x6,U=[some (.str side),some (.str top),some (.ref pq),x3,x4,x5,x6])
  ⟨S1.upd npq,⟨[],aj,fQ.mpr rfl⟩,none,none,none,none,rfl⟩ ?_ ?_
 ·rintro i U H2 T0 hi ⟨S2,PL2,x3,x4,x5,x6,rfl⟩ nT
  refine bj (xs:=[.int i,.str ⟨#[side.cps.getD i 0]⟩]) (SqT.of aj) rfl ?_
  have PL3:=PL2.same ((Same.refl H2).upd nT (o:=.tup (iz side i)))
  have S3:=S2.upd nT (o:=.tup (iz side i))
  walk_at "s"
  refine .inl ⟨top,rfl,?_⟩
  refine vp (fun j U H'=>Same H H'/\PL H' pq (prs side.cps.toList top.cps.toList i ++ yX side.cps.toList top.cps.toList i j)/\∃ x5 x6,U=[some (.str side),some (.str top),some (.ref pq),some (.int i),some (.str ⟨#[side.cps.getD i 0]⟩),x5,x6])
   ⟨S3,by simpa [yX] using PL3,_,_,rfl⟩ ?_ ?_
  ·rintro j U H4 T1 hj ⟨S4,PL4,x5,x6,rfl⟩ nT1
   refine bj (xs:=[.int j,.str ⟨#[top.cps.getD j 0]⟩]) (SqT.of aj) rfl ?_
   have PL5:=PL4.same ((Same.refl H4).upd nT1 (o:=.tup (iz top j)))
   have S5:=S4.upd nT1 (o:=.tup (iz top j))
   obtain ⟨vs0,e0,_⟩:=id PL5
   have es:=tU (z:=side) hi
   have et:=tU (z:=top) hj
   walk_at "s"
   refine iJ (fun hk=>?_) (fun hk=>?_)
   ·have ec:side.cps.toList[i]?=top.cps.toList[j]?:=by rw [es,et,yO.mp hk]
    walk_at "s"
    refine ⟨.inl ⟨rfl,_,SqL.of e0⟩,?_⟩
    walk_at "s"
    refine ⟨by simp;decide,fun T2 nT2=>?_⟩
    walk_at "s"
    obtain ⟨vs,h1,hl,h2⟩:=(PL5.same ((Same.refl _).upd nT2 (o:=.tup [.int i,.int j]))).push (T:=T2) aj
    have hz:vs.length < sizeLine:=by
     have a:=rO side.cps.toList top.cps.toList i
     have b:=yN side.cps.toList top.cps.toList i j
     have c:i*top.cps.toList.length<=48*48:=Y6 (by have:=hs.1;have:side.cps.size=side.length:=rfl;omega) (by have:=ht.1;rw [Dp] at this;exact this)
     have d:j < 48:=by have:=ht.1;have:top.cps.size=top.length:=rfl;omega
     rw [hl,Xl]
     exact WK (show _ < 5000 by omega) (by decide)
    refine aQ h1 hz ⟨over (S5.upd nT2) nH,?_,_,_,rfl⟩
    rw [rN,if_pos ec,← Yo]
    exact h2
   ·have ec:¬ side.cps.toList[i]?=top.cps.toList[j]?:=by
     rw [es,et]
     intro z
     exact hk (by rw [WR z])
    walk_at "s"
    refine ⟨S5,?_,_,_,rfl⟩
    rw [rN,if_neg ec,XQ]
    exact PL5
  ·rintro U H4 ⟨S4,PL4,x5,x6,rfl⟩
   refine ⟨S4,?_,_,_,_,_,rfl⟩
   have e:top.cps.size=top.cps.toList.length:=by simp
   rw [e] at PL4
   exact PL4
 ·rintro U H2 ⟨S2,PL2,x3,x4,x5,x6,rfl⟩
  walk_at "s"
  exact q pq H2 nH S2 PL2
theorem wC:(["number"]:List Str).Nodup:=by trivial
def SQ:Str->Str->Hp->VK->Prop:=fun side top H Q=>∀ (t:Addr) (rs:List Addr) (H':Hp),H t=none->(∀ r∈rs,H r=none)->Same H H'->
 HTab H' t rs (uP side.cps.toList top.cps.toList (lt side.cps.toList top.cps.toList side.length top.length).toNat (prs side.cps.toList top.cps.toList side.length))->Q (.ref t) H'
theorem lC:aF ["side","top","table","heaps","pair"] ["side","top"] (az mZ):=⟨rfl,rfl,rfl,by trivial,rfl,by trivial,by trivial⟩
theorem qM (T:Txt K mg):jN P w K mg base 6 "heaps_of" ["side","top"] (Wi SQ):=by
 have jW:=jW (P:=P) (w:=w) (base:=base) T
 have qL:=qL (P:=P) (w:=w) (base:=base) T
 refine dZ T.d_heaps_of lC (fun _ _ _ _ _ _ us hl=>L2.kW (fun _ _=>rfl) us hl) ?_ fun f cdv A outer s H vs Q E hr h=>?_
 ·rintro vs H Q E ⟨side,top,rfl,_⟩;rfl
 obtain ⟨side,top,rfl,hs,ht,q⟩:=h
 have hu:=hr.units0
 have hu64:=hr.units
 refine ⟨_,(au (aJ (i:=2) lC.nd rfl bT (aH jW (hr.mono (by decide)) aN (aa (aq 0) (aa (aq 1) ao)) (by trivial)) rfl) (au (o8 (i:=3) lC.nd rfl bT (sub:=[none]) (bI (N:=["side","top","table","heaps","pair"]) (sc:=az mZ) (N':=["number"]) (by trivial)) rfl rfl rfl (dI aN T.b_range (aa (bf (K:=K) rfl (bf (K:=K) rfl (aq 2) (Bw qd aC)) (Bw qd aC)) ao)) (fun C s₀ H₀ ex=>(kY 0 (by trivial) wC)) (fun C s₀ H₀ ex=>dq) (fun C s₀ H₀ ex=>(dU ao)) rfl) (au (du Xa rfl (d8 (K:=K) rfl (aH qL (hr.mono (by decide)) aN (aa (aq 0) (aa (aq 1) ao)) (by trivial))) (aY (i:=4) lC.nd rfl bT rfl) (aA (aL (bL (K:=K) rfl Wv Wy Wz aW (bf (K:=K) rfl (aq 3) (bf (K:=K) rfl (bf (K:=K) rfl (aq 2) (bf (K:=K) rfl (aq 4) aC)) (bf (K:=K) rfl (aq 4) aC))) (aa (aq 4) ao))))) (aA (aK (aq 3)))))),?_⟩
 walk_at "s"
 refine ⟨side,top,rfl,hs,ht,fun t rs H1 nt fr S1 TB=>?_⟩
 have hrl:rs.length=side.length+1:=by rw [TB.len];simp [qI]
 obtain ⟨r1,a1,er1,b1⟩:=yP TB (k:=(side.length:Int)) (i:=side.length) rfl (by omega)
 have l0:=Am side.cps.toList top.cps.toList side.length top.length
 have l1:=qK side.cps.toList top.cps.toList side.length top.length
 have hs1:=hs.1
 walk_at "s"
 refine aO (SqL.of TB.at_) (yM (n:=side.length) (v:=.ref r1) (by simp [hrl]) (by rw [Wo,er1];rfl)) ?_
 walk_at "s"
 refine aO (SqL.of b1) (yM (n:=top.length) (v:=.int (lt side.cps.toList top.cps.toList side.length top.length)) (by rw [Ws,mD]) (by rw [Wo,DP (by omega)];rfl)) ?_
 walk_at "s"
 refine ⟨_,rfl,by omega,by omega,?_⟩
 refine rn (fun i ys H'=>Same H1 H'/\∃ rs':List Addr,ys=rs'.map V.ref/\rs'.length=i/\rs'.Nodup/\∀ r∈rs',H1 r=none/\H' r=some (.lst [])) (WY (show _<=1000 by omega) (by decide)) ⟨Same.refl _,[],rfl,rfl,by simp,by simp⟩ (by rintro i ys H ⟨_,zs,rfl,hl,_⟩;simp [hl]) ?_ ?_
 ·rintro i ys H2 hi ⟨S2,rs',rfl,hl,hnd,hrs⟩
  walk_at "s"
  refine ⟨KeepSt.set rfl,?_⟩
  walk_at "s"
  try with_reducible refine ir ?_
  walk_at "s"
  refine ⟨by simp,fun r nr=>⟨S2.upd nr,rs' ++ [r],by simp,by simp [hl],?_,fun r' hr'=>?_⟩⟩
  ·rw [YB]
   exact ⟨hnd,by simp,fun a ha b hb z=>by rw [WP.mp hb] at z;rw [z] at ha;rw [(hrs r ha).2] at nr;cases nr⟩
  ·rcases Xi.mp hr' with h | h
   ·exact ⟨(hrs r' h).1,aX nr (hrs r' h).2⟩
   ·rw [WP.mp h];exact ⟨S2.free nr,aj⟩
 ·rintro ys H2 ⟨S2,rs',rfl,hl,hnd,hrs⟩ D hD
  walk_at "s"
  refine ⟨_,_,rfl,hs,ht,fun q1 H3 nq1 S3 PL3=>?_⟩
  obtain ⟨vs,hv,hvl,hvd⟩:=PL3.len
  have S12:Same H1 (upd H2 D (.lst (rs'.map V.ref))):=S2.upd hD
  have HT2:HTab (upd H2 D (.lst (rs'.map V.ref))) D rs' (uP side.cps.toList top.cps.toList (lt side.cps.toList top.cps.toList side.length top.length).toNat []):=HTab.start (H1:=H1) hl hnd hrs hD
  have HT3:=HT2.same S3
  have TB3:=TB.same (S12.trans S3)
  have lrs:∀ r∈rs',∃ xs,H3 r=some (.lst xs):=fun r hr=>HT3.mem hr
  have nH1:∀ r∈rs',H1 r=none:=fun r hr=>(hrs r hr).1
  have ntr:t ∉ rs':=fun z=>by have:=nH1 t z;rw [TB.at_] at this;cases this
  have nrr:∀ r∈rs,r ∉ rs':=fun r hr z=>by have:=nH1 r z;obtain ⟨xs,e⟩:=TB.mem hr;rw [e] at this;cases this
  have nqr:q1 ∉ rs':=fun z=>by obtain ⟨xs,e⟩:=HT2.mem z;rw [e] at nq1;cases nq1
  refine .inl ⟨q1,rfl,⟨_,SqL.of hv⟩,?_⟩
  refine jZ (xs:=vs) (fun k U H'=>Out rs' H3 H'/\HTab H' D rs' (uP side.cps.toList top.cps.toList (lt side.cps.toList top.cps.toList side.length top.length).toNat ((prs side.cps.toList top.cps.toList side.length).take k))/\∃ x4,U=[some (.str side),some (.str top),some (.ref t),some (.ref D),x4])
   ⟨Out.refl _ _,by simpa using HT3,none,rfl⟩ (fun i U H' _ h=>SqL.of (h.1 _ _ nqr hv)) ?_ ?_
  ·rintro k v U H4 hk ⟨O4,HT4,x4,rfl⟩
   have tk4:=TK.out O4 lrs
   have TB4:=TB3.out O4 ntr nrr
   obtain ⟨p,a,ep,rfl,ha⟩:=PL.at_ (q:=q1) (rP tk4 _ _ hvd) hk
   have hm:=WW ep
   obtain ⟨m1,m2,m3⟩:=Eh hm
   obtain ⟨v1,v2⟩:=Ei (n:=top.length) (by simp [Str.length]) hm
   have m2':p.2 < top.length:=by simpa [Str.length] using m2
   obtain ⟨r5,a5,er5,b5⟩:=yP TB4 (k:=(p.1:Int)) (i:=p.1) rfl (by omega)
   have hL:(lt side.cps.toList top.cps.toList p.1 p.2).toNat < rs'.length:=by omega
   have er6:rs'[(lt side.cps.toList top.cps.toList p.1 p.2).toNat]?=some rs'[(lt side.cps.toList top.cps.toList p.1 p.2).toNat]:=Wn hL
   obtain ⟨ws,hw,hwl,HT5⟩:=HT4.push er6 (vY (by omega)) ha
   walk_at "s"
   refine aO (SqL.of TB4.at_) a5 ?_
   walk_at "s"
   refine aO (SqL.of b5) (yQ (j:=p.2) rfl (by omega)) ?_
   walk_at "s"
   refine aO (SqL.of HT4.at_) (uI v1 (v:=.ref rs'[(lt side.cps.toList top.cps.toList p.1 p.2).toNat]) (by rw [Wo,er6];rfl)) ?_
   refine ⟨.inl ⟨rfl,_,SqL.of hw⟩,?_⟩
   walk_at "s"
   have hz:ws.length < sizeLine:=by
    have a:=rO side.cps.toList top.cps.toList side.length
    have c:side.length*top.cps.toList.length<=48*48:=Y6 hs1 (by have:=ht.1;rw [Dp] at this;exact this)
    have e:=YM (fun p':PP=>decide (lt side.cps.toList top.cps.toList p'.1 p'.2=(((lt side.cps.toList top.cps.toList p.1 p.2).toNat:Nat):Int))) ((prs side.cps.toList top.cps.toList side.length).take k)
    have f:((prs side.cps.toList top.cps.toList side.length).take k).length<=(prs side.cps.toList top.cps.toList side.length).length:=by rw [Yk];omega
    exact WK (show ws.length < 5000 by omega) (by decide)
   refine aQ hw hz ⟨O4.step (Yb hL),?_,_,rfl⟩
   have et:(prs side.cps.toList top.cps.toList side.length).take (k+1)=(prs side.cps.toList top.cps.toList side.length).take k ++ [p]:=by rw [Yp,ep];rfl
   rw [et,Ao (k:=(lt side.cps.toList top.cps.toList p.1 p.2).toNat) (by omega) (by omega)]
   exact HT5
  ·rintro U H4 ⟨O4,HT4,x4,rfl⟩
   walk_at "s"
   have nHD:H D=none:=S1.free (S2.free hD)
   refine q D rs' H4 nHD (fun r hr=>S1.free (nH1 r hr)) (O4.same ((S1.trans S12).trans S3) fun r hr=>S1.free (nH1 r hr)) ?_
   rw [hvl,Xq (Wq _)] at HT4
   exact HT4
end
local macro_rules | `(tactic| walk_at "s") => `(tactic| (with_reducible repeat (first | refine j4 ?_ | walk_at "3")))
local macro_rules | `(tactic| walk_at "n") => `(tactic| (with_reducible repeat (walk_at "3")))
section
variable {P:Program} {w:World} {K:W.Frag} {mg:Str->Option Value} {base:Heap}
def SX:Str->Str->Hp->VK->Prop:=fun side top H Q=>∀ (kp th hp:Addr) (rs:List Addr) (H':Hp),Same H H'->H' kp=some (.tup [.ref th,.ref hp])->H th=none->H hp=none->(∀ r∈rs,H r=none)->th≠hp->th ∉ rs->
 PL H' th (wb side.cps.toList top.cps.toList side.length top.length).reverse->HTab H' hp rs (uP side.cps.toList top.cps.toList (lt side.cps.toList top.cps.toList side.length top.length).toNat (prs side.cps.toList top.cps.toList side.length))->Q (.ref kp) H'
theorem Aq:aF ["side","top"] ["side","top"] (az qC):=⟨rfl,rfl,rfl,by trivial,rfl,by trivial,by trivial⟩
theorem qN (T:Txt K mg):jN P w K mg base 7 "paper_of" ["side","top"] (Wi SX):=by
 have oW:=oW (P:=P) (w:=w) (base:=base) T
 have qM:=qM (P:=P) (w:=w) (base:=base) T
 refine dZ T.d_paper_of Aq (fun _ _ _ _ _ _ us hl=>L2.kW (fun _ _=>rfl) us hl) ?_ fun f cdv A outer s H vs Q E hr h=>?_
 ·rintro vs H Q E ⟨side,top,rfl,_⟩;rfl
 obtain ⟨side,top,rfl,hs,ht,q⟩:=h
 have hu:=hr.units0
 have hu64:=hr.units
 refine ⟨_,(aA (aK (gw (aa (aH oW (hr.mono (by decide)) aN (aa (aq 0) (aa (aq 1) ao)) (by trivial)) (aa (aH qM (hr.mono (by decide)) aN (aa (aq 0) (aa (aq 1) ao)) (by trivial)) ao))))),?_⟩
 walk_at "s"
 refine ⟨side,top,rfl,hs,ht,fun r H1 nr S1 PL1=>?_⟩
 walk_at "s"
 refine ⟨_,_,rfl,hs,ht,fun t rs H2 nt fr S2 HT=>?_⟩
 walk_at "s"
 refine bK rfl fun kp H3 nk S3 gk=>?_
 obtain ⟨vs,ev,dv⟩:=id PL1
 refine q kp r t rs H3 ((S1.trans S2).trans S3) gk nr (S1.free nt) (fun x hx=>S1.free (fr x hx)) (fun z=>?_) (fun z=>?_) ((PL1.same S2).same S3) (HT.same S3)
 ·rw [← z,ev] at nt;cases nt
 ·have:=fr r z;rw [ev] at this;cases this
theorem Cv:(["pair","down","right"]:List Str).Nodup:=by trivial
theorem tV:(["heap","down","right"]:List Str).Nodup:=by trivial
def Ol (d r:Nat) (p:PP):PP:=(p.1+d,p.2+r)
theorem Cw {H:Hp}:∀ {ds:List PyData} {vs:List V},DRs H ds vs->vs.length=ds.length
 | [],_,h=>by rw [fQ] at h;subst h;rfl
 | d :: ds,_,h=>by
  rw [dN] at h
  obtain ⟨v,r,rfl,_,hr⟩:=h
  simp [Cw hr]
def Om:Sp:=fun vs H Q _=>∃ (a:Addr) (ps:List PP) (d r:Nat),vs=[.ref a,.int (d:Int),.int (r:Int)]/\PL H a ps/\ps.length<=5000/\∀ q H',H q=none->Same H H'->PL H' q (ps.map (Ol d r))->Q (.ref q) H'
theorem Ko:aF ["pairs","down","right"] ["pairs","down","right"] (az uN):=⟨rfl,rfl,rfl,by trivial,rfl,by trivial,by trivial⟩
theorem pL (T:Txt K mg):jN P w K mg base 1 "moved" ["pairs","down","right"] Om:=by
 refine dZ T.d_moved Ko (fun _ _ _ _ _ _ us hl=>L2.pN (fun _ _ _=>rfl) us hl) ?_ fun f cdv A outer s H vs Q E hr h=>?_
 ·rintro vs H Q E ⟨a,ps,d,r,rfl,_⟩;rfl
 obtain ⟨a,ps,d,r,rfl,hP,hl,q⟩:=h
 have hu:=hr.units0
 have hu64:=hr.units
 refine ⟨_,(aA (aK (gW (sub:=[none,some 1,some 2]) (bI (N:=["pairs","down","right"]) (sc:=az uN) (N':=["pair","down","right"]) (by trivial)) rfl rfl rfl (d8 (K:=K) rfl (aq 0)) (fun C s₀ H₀ ex=>(kY 0 (by trivial) Cv)) (fun C s₀ H₀ ex=>dq) (fun C s₀ H₀ ex=>(gw (aa (aZ aV (bf (K:=K) rfl (fZ 0 (by trivial)) aC) (nO 1 (by trivial))) (aa (aZ aV (bf (K:=K) rfl (fZ 0 (by trivial)) aC) (nO 2 (by trivial))) ao))))))),?_⟩
 walk_at "s"
 have hz:20000<=sizeLine:=by decide
 obtain ⟨vs,hv,hvl,hvd⟩:=hP.len
 refine .inl ⟨a,rfl,⟨_,SqL.of hv⟩,?_⟩
 refine iM (xs:=vs) (fun i ys G=>Same H G/\DRs G (((ps.take i).map (Ol d r)).map pD) ys) (by omega) ⟨Same.refl H,fQ.mpr rfl⟩ ?_ (fun i ys G h=>SqL.of (h.1 _ _ hv)) ?_ ?_
 ·rintro i ys G ⟨_,h⟩
  have:=Cw h
  simp at this
  omega
 ·rintro i ys G v hk ⟨s,h⟩
  obtain ⟨p,b,ep,rfl,hb⟩:=PL.at_ (q:=a) (DRs.same s _ _ hvd) hk
  walk_at "s"
  refine ⟨KeepSt.set rfl,?_⟩
  walk_at "s"
  refine bK rfl fun c G2 nc s2 hc=>?_
  walk_at "s"
  refine ⟨s.trans s2,?_⟩
  rw [Yp,ep,WT,WT]
  exact j6 (DRs.same s2 _ _ h) (ph (xN.mpr ⟨c,rfl,by rw [hc];unfold Ol;simp only [Int.natCast_add]⟩))
 ·rintro ys G D H' ⟨s,h⟩ nD S hD
  try walk_at "s"
  rw [Xq (by omega)] at h
  exact q D H' (Same.back s nD) (s.trans S) ⟨ys,hD,DRs.same S _ _ h⟩
def HL (H:Hp) (t:Addr) (hs:List (List PP)):Prop:=∃ rs:List Addr,H t=some (.lst (rs.map V.ref))/\rs.length=hs.length/\∀ (i:Nat) (r:Addr) (ps:List PP),rs[i]?=some r->hs[i]?=some ps->PL H r ps
theorem HL.same {H H':Hp} {t:Addr} {hs:List (List PP)} (h:HL H t hs) (s:Same H H'):HL H' t hs:=by
 obtain ⟨rs,a,b,c⟩:=h
 exact ⟨rs,s _ _ a,b,fun i r ps e1 e2=>(c i r ps e1 e2).same s⟩
theorem HTab.hl {H:Hp} {t:Addr} {rs:List Addr} {hs:List (List PP)} (h:HTab H t rs hs):HL H t hs:=⟨rs,h.at_,h.len,h.row⟩
def Kp:Sp:=fun vs H Q _=>∃ (a:Addr) (hs:List (List PP)) (d r:Nat),vs=[.ref a,.int (d:Int),.int (r:Int)]/\HL H a hs/\hs.length<=5000/\(∀ h∈hs,h.length<=5000)/\∀ q H',H q=none->Same H H'->HL H' q (hs.map (List.map (Ol d r)))->Q (.ref q) H'
theorem v4:aF ["heaps","down","right"] ["heaps","down","right"] (az jh):=⟨rfl,rfl,rfl,by trivial,rfl,by trivial,by trivial⟩
theorem lV (T:Txt K mg):jN P w K mg base 2 "moved_heaps" ["heaps","down","right"] Kp:=by
 have pL:=pL (P:=P) (w:=w) (base:=base) T
 refine dZ T.d_moved_heaps v4 (fun _ _ _ _ _ _ us hl=>L2.pN (fun _ _ _=>rfl) us hl) ?_ fun f cdv A outer s H vs Q E hr h=>?_
 ·rintro vs H Q E ⟨a,hs,d,r,rfl,_⟩;rfl
 obtain ⟨a,hs,d,r,rfl,hP,hl,hm,q⟩:=h
 have hu:=hr.units0
 have hu64:=hr.units
 refine ⟨_,(aA (aK (gW (sub:=[none,some 1,some 2]) (bI (N:=["heaps","down","right"]) (sc:=az jh) (N':=["heap","down","right"]) (by trivial)) rfl rfl rfl (d8 (K:=K) rfl (aq 0)) (fun C s₀ H₀ ex=>(kY 0 (by trivial) tV)) (fun C s₀ H₀ ex=>dq) (fun C s₀ H₀ ex=>(aH pL (hr.mono (by decide)) (Fx (by trivial)) (aa (fZ 0 (by trivial)) (aa (nO 1 (by trivial)) (aa (nO 2 (by trivial)) ao))) (by trivial)))))),?_⟩
 walk_at "s"
 have hz:20000<=sizeLine:=by decide
 obtain ⟨rs,hv,hvl,hvd⟩:=hP
 refine .inl ⟨a,rfl,⟨_,SqL.of hv⟩,?_⟩
 refine iM (xs:=rs.map V.ref) (fun i ys G=>Same H G/\∃ as:List Addr,ys=as.map V.ref/\as.length=i/\∀ (k:Nat) (b:Addr) (ps:List PP),as[k]?=some b->hs[k]?=some ps->PL G b (ps.map (Ol d r))) (by rw [Ws];omega) ⟨Same.refl H,[],rfl,rfl,fun k b ps e=>by simp at e⟩ ?_ (fun i ys G h=>SqL.of (h.1 _ _ hv)) ?_ ?_
 ·rintro i ys G ⟨_,as,rfl,rfl,_⟩
  simp
 ·rintro i ys G v hk ⟨s,as,rfl,hla,has⟩
  rw [Wo] at hk
  obtain ⟨b,eb,rfl⟩:=Xm.mp hk
  have hi:i < hs.length:=by have:=(Wm.mp eb).1;omega
  have hb:=(hvd i b _ eb (Wn hi)).same s
  walk_at "s"
  refine ⟨KeepSt.set rfl,?_⟩
  walk_at "s"
  refine ⟨b,hs[i],d,r,rfl,hb,hm _ (Yb hi),fun c G2 nc s2 hc=>?_⟩
  walk_at "s"
  refine ⟨s.trans s2,as ++ [c],by simp,by simp [hla],fun k b' ps e1 e2=>?_⟩
  by_cases ek:k < as.length
  ·rw [WM ek] at e1
   exact (has k b' ps e1 e2).same s2
  ·have ek':k=i:=by
    have:=(Wm.mp e1).1
    simp at this;omega
   subst ek'
   rw [WN (by omega),hla,X6] at e1
   cases e1
   rw [Wn hi] at e2
   cases e2
   exact hc
 ·rintro ys G D H' ⟨s,as,rfl,hla,has⟩ nD S hD
  try walk_at "s"
  rw [Ws] at hla
  refine q D H' (Same.back s nD) (s.trans S) ⟨as,hD,by simp;omega,fun i b ps e1 e2=>?_⟩
  rw [Wo] at e2
  obtain ⟨p0,e3,rfl⟩:=Xm.mp e2
  exact (has i b p0 e1 e3).same S
theorem qO:(["cut","asks"]:List Str).Nodup:=by trivial
theorem Kq (e:Nat->Nat->Bool) (b:Nat):∀ n i k,i+k<=n->(tb e b i k<=tb e b i (k+1)/\tb e b i (k+1)<=tb e b i k+1)/\(tb e b i k<=tb e b (i+1) k/\tb e b (i+1) k<=tb e b i k+1)
 | 0,i,k,h=>by
  obtain rfl:i=0:=by omega
  obtain rfl:k=0:=by omega
  rw [Af,Af,Cp]
  omega
 | n+1,i,k,h=>by
  constructor
  ·cases i with
   | zero=>rw [Af,Af];omega
   | succ i=>
    obtain ⟨⟨a1,a2⟩,b1,b2⟩:=Kq e b n i k (by omega)
    rw [Gr]
    split
    ·omega
    ·unfold Sd
     split <;> omega
  ·cases k with
   | zero=>rw [Cp,Cp];omega
   | succ k=>
    obtain ⟨⟨a1,a2⟩,b1,b2⟩:=Kq e b n i k (by omega)
    rw [Gr]
    split
    ·omega
    ·unfold Sd
     split <;> omega
theorem gdL (z:Str) (i:Nat):z.cps.toList.getD i 0=z.cps.getD i 0:=by
 rw [Wu,Array.getElem?_toList,Ym]
theorem VG {a b c:Int} (h1:a<=c+1) (h2:b<=c+1):mx (mx a b) (c+1)=c+1:=by unfold mx;split <;> split <;> omega
theorem Ek {S P:List Nat}:∀ (n i k:Nat),i+k<=n->i<=S.length->k<=P.length->lt S P i k=tb (fun i j=>decide (S.getD i 0=P.getD j 0)) 0 i k
 | _,0,k,_,_,_=>by rw [lt_0,Af]
 | _,i+1,0,_,_,_=>by rw [yw,Cp]
 | 0,i+1,k+1,h,_,_=>by omega
 | n+1,i+1,k+1,h,hi,hk=>by
  have e1:=Ek (S:=S) (P:=P) n i (k+1) (by omega) (by omega) hk
  have e2:=Ek (S:=S) (P:=P) n (i+1) k (by omega) hi (by omega)
  have e3:=Ek (S:=S) (P:=P) n i k (by omega) (by omega) (by omega)
  rw [vM,Gr,e1,e2,e3,Nat.zero_add]
  have hi0:i < S.length:=by omega
  have hk0:k < P.length:=by omega
  have es:S[i]?=some (S.getD i 0):=by simp [Wu,hi0]
  have ep:P[k]?=some (P.getD k 0):=by simp [Wu,hk0]
  rw [es,ep]
  obtain ⟨⟨_,b1⟩,_,b2⟩:=Kq (fun i j=>decide (S.getD i 0=P.getD j 0)) 0 (i+k) i k (Wq _)
  by_cases h:S.getD i 0=P.getD k 0
  ·rw [if_pos (by rw [h]),if_pos (W0 h)]
   exact VG b1 b2
  ·rw [if_neg (fun z=>h (WR z)),if_neg (by rw [W2 h];decide)]
   unfold mx Sd
   split <;> split <;> omega
def SA (row:Str) (cut:Nat):List Nat:=row.cps.toList.take cut
def PA (row:Str) (cut:Nat):List Nat:=row.cps.toList.drop cut
theorem Cy {row:Str} {cut:Nat} (h:cut<=row.length):(SA row cut).length=cut:=by
 unfold SA
 rw [Yk,Xp]
 have:row.length=row.cps.size:=rfl
 omega
theorem v5 (row:Str) (cut:Nat):(PA row cut).length=row.length - cut:=by
 unfold PA
 rw [Y0,Xp];rfl
def rT (row:Str) (cut:Nat):Int:=lt (SA row cut) (PA row cut) cut (row.length - cut)
theorem VH {row:Str} {cut:Nat} (h:cut<=row.length):tb (fun i j=>decide (row.cps.getD i 0=row.cps.getD j 0)) cut cut (row.length - cut)=rT row cut:=by
 unfold rT
 rw [Ek _ _ _ (Wq _) (by rw [Cy h];exact Wq _) (by rw [v5];exact Wq _)]
 refine Ed (m:=cut) (n:=row.length - cut) (fun i k hi hk=>?_) _ (Wq _) _ (Wq _)
 have e1:(SA row cut).getD i 0=row.cps.getD i 0:=by
  unfold SA
  rw [← gdL,Wu,List.getElem?_take,if_pos hi,← Wu]
 have e2:(PA row cut).getD (0+k) 0=row.cps.getD (cut+k) 0:=by
  unfold PA
  rw [← gdL,Wu,Y7,Nat.zero_add,← Wu]
 rw [e1,e2]
theorem VJ {row:Str} {cut:Nat} (h:cut<=row.length):(Txt.slice row (some 0) (some (cut:Int))).cps.toList=SA row cut:=by
 rw [pB,show (some (0:Int))=some (((0:Nat)):Int) from rfl,HT.sIx_nat,HT.sIx_nat,Nat.zero_min,List.drop_zero,Nat.sub_zero,Nat.min_eq_left h];rfl
theorem VL {row:Str} {cut:Nat} (h:cut<=row.length):(Txt.slice row (some (cut:Int)) (some (row.length:Int))).cps.toList=PA row cut:=by
 rw [pB,HT.sIx_nat,HT.sIx_nat,Nat.min_eq_left h,Nat.min_self]
 unfold PA
 rw [Xq]
 rw [Y0,Xp]
 exact Wq _
theorem Pln.sub {y z:Str} (h:Pln z) (hl:y.length<=24) (hm:∀ c∈y.cps.toList,c∈z.cps.toList):Pln y:=⟨hl,fun c hc=>h.2 c (hm c hc)⟩
theorem v6 {y:Str} {l:List Nat} (h:y.cps.toList=l):y.length=l.length:=by
 rw [← h,Xp];rfl
def thr (row:Str) (cut:Nat):List PP:=(wb (SA row cut) (PA row cut) cut (row.length - cut)).reverse.map (Ol 0 cut)
def hps (row:Str) (cut:Nat):List (List PP):=(uP (SA row cut) (PA row cut) (rT row cut).toNat (prs (SA row cut) (PA row cut) cut)).map (List.map (Ol 0 cut))
def spWP:Sp:=fun vs H Q _=>∃ (row:Str) (cut:Nat),vs=[.str row,.str row,.int 0,.int (cut:Int),.int (cut:Int),.int (row.length:Int)]/\Pln row/\cut<=row.length/\∀ kp th hp H',H th=none->H hp=none->Same H H'->H' kp=some (.tup [.ref th,.ref hp])->PL H' th (thr row cut)->HL H' hp (hps row cut)->Q (.ref kp) H'
theorem nQ:aF ["side","top","first","last","begin","end","paper"] ["side","top","first","last","begin","end"] (az kE):=⟨rfl,rfl,rfl,by trivial,rfl,by trivial,by trivial⟩
theorem kO (T:Txt K mg):jN P w K mg base 8 "window_paper" ["side","top","first","last","begin","end"] spWP:=by
 have bR:=bR (P:=P) (w:=w) (base:=base) T
 have lU:=lU (P:=P) (w:=w) (base:=base) T
 have qN:=qN (P:=P) (w:=w) (base:=base) T
 have pL:=pL (P:=P) (w:=w) (base:=base) T
 have lV:=lV (P:=P) (w:=w) (base:=base) T
 refine dZ T.d_window_paper nQ (fun _ _ _ _ _ _ us hl=>L2.usN6 (fun _ _ _ _ _ _=>rfl) us hl) ?_ fun f cdv A outer s H vs Q E hr h=>?_
 ·rintro vs H Q E ⟨row,cut,rfl,_⟩;rfl
 obtain ⟨row,cut,rfl,hr',hc,q⟩:=h
 have hu:=hr.units0
 have hu64:=hr.units
 refine ⟨_,(au (aL (aH bR (hr.mono (by decide)) aN (aa (aq 0) (aa (aq 1) ao)) (by trivial))) (au (aL (aH lU (hr.mono (by decide)) aN (aa (gw (aa (aq 2) (aa (aq 3) (aa (aq 4) (aa (aq 5) ao))))) (aa (aD (aG (K:=K) rfl) aN T.b_len bc (aa (aq 0) ao) (by trivial) (by trivial)) (aa (aD (aG (K:=K) rfl) aN T.b_len bc (aa (aq 1) ao) (by trivial) (by trivial)) ao))) (by trivial))) (au (aJ (i:=6) nQ.nd rfl bT (aH qN (hr.mono (by decide)) aN (aa (lq (lu (K:=K) rfl) (aq 0) (gM (aq 2)) (gM (aq 3))) (aa (lq (lu (K:=K) rfl) (aq 1) (gM (aq 4)) (gM (aq 5))) ao)) (by trivial)) rfl) (aA (aK (gw (aa (aH pL (hr.mono (by decide)) aN (aa (bf (K:=K) rfl (aq 6) aC) (aa (aq 2) (aa (aq 4) ao))) (by trivial)) (aa (aH lV (hr.mono (by decide)) aN (aa (bf (K:=K) rfl (aq 6) aC) (aa (aq 2) (aa (aq 4) ao))) (by trivial)) ao)))))))),?_⟩
 walk_at "s"
 have hz:20000<=sizeLine:=by decide
 have l1:row.length<=24:=hr'.1
 refine ⟨row,row,rfl,hr'.rowB,hr'.rowB,fun H1 S1=>?_⟩
 walk_at "s"
 refine bK rfl fun p H2 np S2 hp=>?_
 walk_at "s"
 refine cR (by omega) ?_
 walk_at "s"
 refine cR (by omega) ?_
 walk_at "s"
 refine ⟨p,0,cut,cut,row.length,row.length,row.length,rfl,hp,by omega,hc,hc,by omega,.inl rfl,.inr rfl,?_⟩
 walk_at "s"
 refine qu (by omega) ?_
 walk_at "s"
 refine qu (by omega) ?_
 walk_at "s"
 have ea:=VJ hc
 have eb:=VL hc
 have la:=v6 ea
 have lb:=v6 eb
 rw [Cy hc] at la
 rw [v5] at lb
 have ra:Pln (Txt.slice row (some 0) (some (cut:Int))):=hr'.sub (by omega) fun c h=>by rw [ea] at h;exact List.mem_of_mem_take h
 have rb:Pln (Txt.slice row (some (cut:Int)) (some (row.length:Int))):=hr'.sub (by omega) fun c h=>by rw [eb] at h;exact List.mem_of_mem_drop h
 refine ⟨_,_,rfl,ra.rowB,rb.rowB,fun kp th hp rs H3 S3 hk nt nh _ _ _ PLt HT=>?_⟩
 walk_at "s"
 rw [ea,eb,la,lb] at PLt HT
 have t0:=qK (SA row cut) (PA row cut) cut (row.length - cut)
 refine ⟨th,_,0,cut,rfl,PLt,by rw [YH];have:=vZ (SA row cut) (PA row cut) _ cut (row.length - cut) (Wq _);omega,fun t2 H4 n4 S4 P4=>?_⟩
 walk_at "s"
 refine dM (SqT.of (S4 _ _ hk)) (dO (j:=1) rfl) ?_
 walk_at "s"
 refine ⟨hp,_,0,cut,rfl,HT.hl.same S4,by rw [jj];omega,fun h hh=>?_,fun h2 H5 n5 S5 P5=>?_⟩
 walk_at "s"
 ·unfold uP at hh
  obtain ⟨k,_,rfl⟩:=Xg.mp hh
  have a1:=rO (SA row cut) (PA row cut) cut
  have a2:cut*(PA row cut).length<=24*24:=Y6 (by omega) (by rw [v5];omega)
  refine WY (YM _ _) (by omega)
 refine bK rfl fun kq H6 nk S6 hq=>?_
 walk_at "s"
 have U3:=S1.trans (S2.trans S3)
 exact q kq t2 h2 H6 (Same.back U3 n4) (Same.back (U3.trans S4) n5) (U3.trans (S4.trans (S5.trans S6))) hq ((P4.same S5).same S6) (P5.same S6)
def VM (K:W.Frag) (mg:Str->Option Value):Sp:=fun vs H Q E=>∃ v:V,vs=[v]/\PT K H v/\(yW v=false->Wh mg "NoPlain" H E v)/\∀ row,v= .str row->Pln row->∀ q H',H q=none->Same H H'->H' q=some (.lst ((List.range (row.length+1)).map fun c=>V.int (rT row c)))->Q (.ref q) H'
theorem mJ:aF ["row","asks"] ["row"] (az gP):=⟨rfl,rfl,rfl,by trivial,rfl,by trivial,by trivial⟩
theorem dw (T:Txt K mg):HasX P w K mg base 11 "twice_lengths" ["row"] (VM K mg):=by
 have nG:=nG (P:=P) (w:=w) (base:=base) T
 have tO:=tO (P:=P) (w:=w) (base:=base) T
 have jc:=jc (P:=P) (w:=w) (base:=base) T
 refine Je T.d_twice_lengths mJ (fun _ _ _ _ _ _ us hl=>L2.p7 (fun _=>rfl) us hl) ?_ fun f cdv A outer s H vs Q E hr h=>?_
 ·rintro vs H Q E ⟨v,rfl,_⟩;rfl
 obtain ⟨v,rfl,⟨tv,pv⟩,q1,q⟩:=h
 have hu:=hr.units0
 have hu64:=hr.units
 refine ⟨_,(au (aL (rE nG (hr.mono (by decide)) aN my (aa (aq 0) ao) (by trivial))) (au (aJ (i:=1) mJ.nd rfl T3 (aH tO (hr.mono (by decide)) aN (aa (aq 0) (aa (aq 0) ao)) (by trivial)) rfl) (aA (aK (gW (sub:=[none,some 1]) (bI (N:=["row","asks"]) (sc:=az gP) (N':=["cut","asks"]) (by trivial)) rfl rfl rfl (dI aN T.b_range (aa (aZ aV (aD (aG (K:=K) rfl) aN T.b_len bc (aa (aq 0) ao) (by trivial) (by trivial)) aC) ao)) (fun C s₀ H₀ ex=>(kY 0 (by trivial) qO)) (fun C s₀ H₀ ex=>dq) (fun C s₀ H₀ ex=>(Jt (mg:=mg) rfl (nO 1 (by trivial)) T.o_Asks jc (hr.mono (by decide)) (vA fun _ _=>rfl) (aa (fZ 0 (by trivial)) (aa (fZ 0 (by trivial)) ao))))))))),?_⟩
 walk_at "s"
 have hz:20000<=sizeLine:=by decide
 refine ⟨v,rfl,tv,fun hv H1 S1=>?_,fun hv=>q1 hv⟩
 walk_at "s"
 obtain ⟨row,rfl,hr'⟩:=pv hv
 replace q:=q row rfl hr'
 have l1:row.length<=24:=hr'.1
 walk_at "s"
 refine ⟨row,row,rfl,hr'.rowB,hr'.rowB,fun ak H2 S2 hA=>?_⟩
 walk_at "s"
 obtain ⟨t,hT,hP,hl,ht⟩:=hA.ak
 refine cR (by omega) ?_
 walk_at "s"
 refine ⟨_,rfl,by omega,by omega,?_⟩
 rw [show ((row.length:Int)+1).toNat=row.length+1 by omega]
 have em:mS row=row.length:=rfl
 refine sO (n:=row.length+1) (fun i=>.int (rT row i)) (by omega) ?_ ?_
 ·intro i hi
  obtain ⟨_,dk,ty,hxk,_⟩:=id hT
  walk_at "s"
  refine ⟨KeepSt.set rfl,?_⟩
  walk_at "s"
  rw [show (0:Int)+(i:Int)=(i:Int) by omega]
  refine ⟨ak,dk,_,rfl,hxk,akM (by trivial),?_⟩
  walk_at "s"
  refine ⟨ak,t,mS row,mS row,i,i,rfl,hT,by omega,by omega,?_⟩
  walk_at "s"
  rw [Sq (Og row row) hP.nd ht (by omega) (by omega) (Wq _) (.inr rfl),em,VH (by omega)]
  exact ⟨rfl,jf rfl⟩
 ·intro D H3 nD S3 hD
  try walk_at "s"
  have U2:=S1.trans S2
  exact q D H3 (Same.back U2 nD) (U2.trans S3) hD
end
local macro_rules | `(tactic| walk_at "s") => `(tactic| (with_reducible repeat (first | refine j4 ?_ | walk_at "5")))
local macro_rules | `(tactic| walk_at "n") => `(tactic| (with_reducible repeat (walk_at "5")))
section
variable {P:Program} {w:World} {K:W.Frag} {mg:Str->Option Value} {base:Heap}
theorem Cz:(["pair"]:List Str).Nodup:=by trivial
theorem CG:(["pair"]:List Str).Nodup:=by trivial
theorem CJ:(["other","row"]:List Str).Nodup:=by trivial
def spPC:Sp:=fun vs H Q _=>∃ (row:Str) (cut:Nat),vs=[.str row,.int (cut:Int)]/\Pln row/\cut<=row.length/\∀ kp th hp H',H th=none->H hp=none->Same H H'->H' kp=some (.tup [.ref th,.ref hp])->PL H' th (thr row cut)->HL H' hp (hps row cut)->Q (.ref kp) H'
theorem uF:aF ["row","cut"] ["row","cut"] (az kI):=⟨rfl,rfl,rfl,by trivial,rfl,by trivial,by trivial⟩
theorem iH (T:Txt K mg):jN P w K mg base 9 "paper_of_cut" ["row","cut"] spPC:=by
 have kO:=kO (P:=P) (w:=w) (base:=base) T
 refine dZ T.d_paper_of_cut uF (fun _ _ _ _ _ _ us hl=>L2.kW (fun _ _=>rfl) us hl) ?_ fun f cdv A outer s H vs Q E hr h=>?_
 ·rintro vs H Q E ⟨row,cut,rfl,_⟩;rfl
 obtain ⟨row,cut,rfl,hr',hc,q⟩:=h
 have hu:=hr.units0
 have hu64:=hr.units
 refine ⟨_,(aA (aK (aH kO (hr.mono (by decide)) aN (aa (aq 0) (aa (aq 0) (aa aC (aa (aq 1) (aa (aq 1) (aa (aD (aG (K:=K) rfl) aN T.b_len bc (aa (aq 0) ao) (by trivial) (by trivial)) ao)))))) (by trivial)))),?_⟩
 walk_at "s"
 have hz:20000<=sizeLine:=by decide
 have l1:row.length<=24:=hr'.1
 refine cR (by omega) ?_
 walk_at "s"
 exact ⟨row,cut,rfl,hr',hc,q⟩
def pR (row:Str):List Int:=(List.range (row.length+1)).map (rT row)
theorem yS {row:Str} {c:Nat} (h:c<=row.length):(pR row)[c]?=some (rT row c):=by
 unfold pR
 rw [Wo,Xd (by omega)];rfl
theorem Oo {row:Str} {c:Nat} (h:c<=row.length):rT row c∈pR row:=WW (yS h)
theorem El {row:Str} {z:Int} (h:z∈pR row):∃ c,c<=row.length/\z=rT row c:=by
 unfold pR at h
 obtain ⟨c,hc,rfl⟩:=Xg.mp h
 exact ⟨c,by have:=Xe.mp hc;omega,rfl⟩
def CutOf (row:Str) (cut:Nat):Prop:=cut<=row.length/\(∀ c,c<=row.length->rT row c<=rT row cut)/\∀ c,c < cut->rT row c≠rT row cut
theorem Kr {row:Str} {M:Int} (h1:M∈pR row) (h2:∀ a∈pR row,a<=M):CutOf row ((pR row).idxOf M)/\rT row ((pR row).idxOf M)=M:=by
 have hl:=List.idxOf_lt_length_iff.mpr h1
 have hn:(pR row).length=row.length+1:=by unfold pR;simp
 have e:rT row ((pR row).idxOf M)=M:=by
  have g1:(pR row)[(pR row).idxOf M]?=some M:=by
   rw [Wn hl];simp
  rw [yS (by omega)] at g1
  exact WR g1
 refine ⟨⟨by omega,fun c hc=>by rw [e];exact h2 _ (Oo hc),fun c hc=>?_⟩,e⟩
 have:=List.not_of_lt_findIdx (p:=fun x=>x == M) (xs:=pR row) (i:=c) hc
 obtain ⟨w1,w2⟩:=Wm.mp (yS (row:=row) (c:=c) (by omega))
 rw [w2] at this
 rw [e]
 simpa using this
theorem CutOf.uni {row:Str} {a b:Nat} (h1:CutOf row a) (h2:CutOf row b):a=b:=by
 have e:rT row a=rT row b:=by
  have:=h1.2.1 b h2.1
  have:=h2.2.1 a h1.1
  omega
 by_cases h:a < b
 ·exact absurd e (h2.2.2 a h)
 ·by_cases h':b < a
  ·exact absurd e.symm (h1.2.2 b h')
  ·omega
structure Tw (H:Hp) (kp l1 l2 hp:Addr) (hs:List Addr) (row:Str) (cut:Nat):Prop where
 k:H kp=some (.tup [.int (cut:Int),.ref l1,.ref l2,.ref hp])
 a:H l1=some (.lst ((thr row cut).map fun p=>.int (p.1:Int)))
 b:H l2=some (.lst ((thr row cut).map fun p=>.int (p.2:Int)))
 h:H hp=some (.lst (hs.map V.ref))
 n:hs.length=row.length+1
 e:∀ (i:Nat) (b:Addr),hs[i]?=some b->HL H b (hps row i)
theorem Tw.same {H H':Hp} {kp l1 l2 hp:Addr} {hs:List Addr} {row:Str} {cut:Nat} (h:Tw H kp l1 l2 hp hs row cut) (s:Same H H'):Tw H' kp l1 l2 hp hs row cut:=
 ⟨s _ _ h.k,s _ _ h.a,s _ _ h.b,s _ _ h.h,h.n,fun i b e=>(h.e i b e).same s⟩
theorem pM {row:Str} {c:Nat} (h:c<=row.length):0<=rT row c/\rT row c<=row.length:=by
 unfold rT
 have:=Am (SA row c) (PA row c) c (row.length - c)
 have:=qK (SA row c) (PA row c) c (row.length - c)
 omega
def VN (K:W.Frag) (mg:Str->Option Value):Sp:=fun vs H Q E=>∃ v:V,vs=[v]/\PT K H v/\(yW v=false->Wh mg "NoPlain" H E v)/\∀ row,v= .str row->Pln row->∀ cut kp l1 l2 hp hs H',CutOf row cut->Same H H'->Tw H' kp l1 l2 hp hs row cut->H l1=none->H l2=none->H hp=none->(∀ b∈hs,H b=none)->l1≠l2->l1≠hp->l2≠hp->l1 ∉ hs->l2 ∉ hs->hp ∉ hs->Q (.ref kp) H'
theorem oX:aF ["row","told","cut","thread","heaps"] ["row"] (az pI):=⟨rfl,rfl,rfl,by trivial,rfl,by trivial,by trivial⟩
theorem rQ (T:Txt K mg):HasX P w K mg base 12 "twice" ["row"] (VN K mg):=by
 have dw:=dw (P:=P) (w:=w) (base:=base) T
 have iH:=iH (P:=P) (w:=w) (base:=base) T
 refine Je T.d_twice oX (fun _ _ _ _ _ _ us hl=>L2.p7 (fun _=>rfl) us hl) ?_ fun f cdv A outer s H vs Q E hr h=>?_
 ·rintro vs H Q E ⟨v,rfl,_⟩;rfl
 obtain ⟨v,rfl,⟨tv,pv⟩,q1,q⟩:=h
 have hu:=hr.units0
 have hu64:=hr.units
 refine ⟨_,(au (aJ (i:=1) oX.nd rfl bT (rE dw (hr.mono (by decide)) aN my (aa (jM 0) ao) (by trivial)) rfl) (au (aJ (i:=2) oX.nd rfl bT (bL (K:=K) rfl Wv PySem.F.slot_list_index PySem.F.type_list_index zN (aq 1) (aa (aD (xr rfl) aN T.b_max vf (aa (aq 1) ao) (by trivial) (by trivial)) ao)) rfl) (au (aJ (i:=3) oX.nd rfl bT (bf (K:=K) rfl (aH iH (hr.mono (by decide)) aN (aa (jM 0) (aa (aq 2) ao)) (by trivial)) aC) rfl) (au (o8 (i:=4) oX.nd rfl bT (sub:=[none,some 0]) (bI (N:=["row","told","cut","thread","heaps"]) (sc:=az pI) (N':=["other","row"]) (by trivial)) rfl rfl rfl (dI aN T.b_range (aa (aZ aV (aD (aG (K:=K) rfl) aN T.b_len bc (aa (jM 0) ao) (by trivial) (by trivial)) aC) ao)) (fun C s₀ H₀ ex=>(kY 0 (by trivial) CJ)) (fun C s₀ H₀ ex=>dq) (fun C s₀ H₀ ex=>(bf (K:=K) rfl (aH iH (hr.mono (by decide)) (Fx (by trivial)) (aa (nO 1 (by trivial)) (aa (fZ 0 (by trivial)) ao)) (by trivial)) aC)) rfl) (aA (aK (gw (aa (aq 2) (aa (gW (sub:=[none]) (bI (N:=["row","told","cut","thread","heaps"]) (sc:=az pI) (N':=["pair"]) (by trivial)) rfl rfl rfl (d8 (K:=K) rfl (aq 3)) (fun C s₀ H₀ ex=>(kY 0 (by trivial) CG)) (fun C s₀ H₀ ex=>dq) (fun C s₀ H₀ ex=>(bf (K:=K) rfl (fZ 0 (by trivial)) aC))) (aa (gW (sub:=[none]) (bI (N:=["row","told","cut","thread","heaps"]) (sc:=az pI) (N':=["pair"]) (by trivial)) rfl rfl rfl (d8 (K:=K) rfl (aq 3)) (fun C s₀ H₀ ex=>(kY 0 (by trivial) Cz)) (fun C s₀ H₀ ex=>dq) (fun C s₀ H₀ ex=>(bf (K:=K) rfl (fZ 0 (by trivial)) aC))) (aa (aq 4) ao))))))))))),?_⟩
 walk_at "s"
 have hz:20000<=sizeLine:=by decide
 refine ⟨v,rfl,⟨tv,pv⟩,fun hv=>q1 hv,fun row ev hr' d H1 nd S1 hd=>?_⟩
 walk_at "s"
 subst ev
 replace q:=q row rfl hr'
 have l1:row.length<=24:=hr'.1
 replace hd:H1 d=some (.lst ((pR row).map V.int)):=by rw [hd];unfold pR;rw [Yx];rfl
 refine ⟨.inl ⟨rfl,_,SqL.of hd⟩,?_⟩
 walk_at "s"
 refine Jh hd (fun z=>by have:=congrArg List.length z;unfold pR at this;simp at this) fun M h1 h2=>?_
 walk_at "s"
 refine DK hd (by unfold pR;simp;omega) (fun x hx=>?_) h1 ?_
 walk_at "s"
 ·obtain ⟨c,hc,rfl⟩:=El hx
  have:=pM hc
  omega
 obtain ⟨hcut,_⟩:=Kr h1 h2
 generalize (pR row).idxOf M=cut at hcut ⊢
 walk_at "s"
 refine ⟨row,cut,rfl,hr',hcut.1,fun kp th hp H2 nt nh S2 hk PLt _=>?_⟩
 walk_at "s"
 refine cR (by omega) ?_
 walk_at "s"
 refine ⟨_,rfl,by omega,by omega,?_⟩
 rw [show ((row.length:Int)+1).toNat=row.length+1 by omega]
 refine pG (n:=row.length+1) (fun i ys G=>Same H2 G/\∃ hs:List Addr,ys=hs.map V.ref/\hs.length=i/\(∀ b∈hs,H2 b=none)/\∀ (k:Nat) (b:Addr),hs[k]?=some b->HL G b (hps row k)) (by omega) ⟨Same.refl _,[],rfl,rfl,by simp,fun k b e=>by simp at e⟩ ?_ ?_ ?_
 ·rintro i ys G ⟨_,hs,rfl,rfl,_⟩
  simp
 ·rintro i ys G hi ⟨s,hs,rfl,hl,hn,hh⟩
  walk_at "s"
  refine ⟨KeepSt.set rfl,?_⟩
  walk_at "s"
  rw [show (0:Int)+(i:Int)=(i:Int) by omega]
  refine ⟨row,i,rfl,hr',by omega,fun kq tq hq G2 nt nh s2 hk2 _ HL2=>?_⟩
  walk_at "s"
  refine ⟨s.trans s2,hs ++ [hq],by simp,by simp [hl],fun b hb=>?_,fun k b e=>?_⟩
  ·rcases Xi.mp hb with h | h
   ·exact hn b h
   ·rw [WP.mp h];exact Same.back s nh
  ·by_cases ek:k < hs.length
   ·rw [WM ek] at e
    exact (hh k b e).same s2
   ·have ek':k=i:=by
     have:=(Wm.mp e).1
     simp at this;omega
    subst ek'
    rw [WN (by omega),hl,X6] at e
    cases e
    exact HL2
 rintro ys G D H3 ⟨s,hs,rfl,hl,hn,hh⟩ nD S3 hD
 try walk_at "s"
 obtain ⟨vs,hv,hvl,hvd⟩:=((PLt.same s).same S3).len
 have hlen:vs.length<=24:=by
  rw [hvl]
  unfold thr
  rw [Ws,YH]
  have:=vZ (SA row cut) (PA row cut) _ cut (row.length - cut) (Wq _)
  have:=hcut.1
  omega
 refine .inl ⟨th,rfl,⟨_,SqL.of hv⟩,?_⟩
 refine kh (xs:=vs) (fun i=>.int (((thr row cut).getD i (0,0)).1:Int)) (by omega) (SqL.of hv) ?_ ?_
 ·intro i x hx
  obtain ⟨p,b,ep,rfl,hb⟩:=PL.at_ (q:=th) hvd hx
  walk_at "s"
  refine ⟨KeepSt.set rfl,?_⟩
  walk_at "s"
  exact ⟨rfl,jf (by rw [Wu,ep];rfl)⟩
 intro L1 H4 n1 S4 h4
 try walk_at "s"
 refine .inl ⟨th,rfl,⟨_,SqL.of (S4 _ _ hv)⟩,?_⟩
 refine kh (xs:=vs) (fun i=>.int (((thr row cut).getD i (0,0)).2:Int)) (by omega) (SqL.of (S4 _ _ hv)) ?_ ?_
 ·intro i x hx
  obtain ⟨p,b,ep,rfl,hb⟩:=PL.at_ (q:=th) (DRs.same S4 _ _ hvd) hx
  walk_at "s"
  refine ⟨KeepSt.set rfl,?_⟩
  walk_at "s"
  exact ⟨rfl,jf (by rw [Wu,ep];rfl)⟩
 intro L2 H5 n2 S5 h5
 try walk_at "s"
 refine bK rfl fun kz H6 nk S6 hz'=>?_
 walk_at "s"
 have em:∀ g:PP->V,(List.range vs.length).map (fun i=>g ((thr row cut).getD i (0,0)))=(thr row cut).map g:=fun g=>by
  rw [hvl]
  refine Zd fun i=>?_
  by_cases h:i < (thr row cut).length
  ·rw [Wo,Xd h,Wo,Wn h]
   simp [Wu,Wn h]
  ·rw [XN (by simp;omega),XN (by simp;omega)]
 rw [em fun p=>.int (p.1:Int)] at h4
 rw [em fun p=>.int (p.2:Int)] at h5
 have U2:=S1.trans S2
 have U3:=U2.trans (s.trans S3)
 have U4:=U3.trans S4
 have inh:∀ b∈hs,∃ o,H3 b=some o:=fun b hb=>by
  obtain ⟨i,hi,e⟩:=XR.mp hb
  obtain ⟨rs,h,_⟩:=hh i b (by rw [Wn hi,e])
  exact ⟨_,S3 _ _ h⟩
 have neq:∀ {a b:Addr} {G:Hp} {o:HO},G a=none->G b=some o->a≠b:=fun h1 h2 z=>by rw [z,h2] at h1;cases h1
 refine q cut kz L1 L2 D hs H6 hcut (U4.trans (S5.trans S6)) ⟨hz',S6 _ _ (S5 _ _ h4),S6 _ _ h5,S6 _ _ (S5 _ _ (S4 _ _ hD)),hl,fun i b e=>((((hh i b e).same S3).same S4).same S5).same S6⟩ (Same.back U3 n1) (Same.back U4 n2) (Same.back (U2.trans s) nD) (fun b hb=>Same.back U2 (hn b hb)) (neq n2 h4).symm (neq n1 hD) (neq n2 (S4 _ _ hD)) (fun z=>?_) (fun z=>?_) (fun z=>?_)
 ·obtain ⟨o,e⟩:=inh _ z
  exact neq n1 e rfl
 ·obtain ⟨o,e⟩:=inh _ z
  exact neq n2 (S4 _ _ e) rfl
 ·obtain ⟨i,hi,e⟩:=XR.mp z
  obtain ⟨rs,h,_⟩:=hh i D (by rw [Wn hi,e])
  rw [h] at nD;cases nD
theorem Ks (a b:Str):(a ++ b).length=a.length+b.length:=by
 show (a.cps ++ b.cps).size=_
 simp [Str.length]
theorem Ku (a b:Str):(a ++ b).cps.size=a.cps.size+b.cps.size:=Ks a b
theorem v7:aF ["_law_script","_law_k"] ["_law_script","_law_k"] (az lJ):=⟨rfl,rfl,rfl,by trivial,rfl,by trivial,by trivial⟩
theorem lW (T:Txt K mg):jN P w K mg base 1 "_law_cell_at" ["_law_script","_law_k"] (RX K):=by
 refine dZ T.d_law_cell_at v7 (fun _ _ _ _ _ _ us hl=>L2.kW (fun _ _=>rfl) us hl) ?_ fun f cdv A outer s H vs Q E hr h=>?_
 ·rintro vs H Q E ⟨a,ns,k,rfl,_⟩;rfl
 obtain ⟨a,ns,k,rfl,hS,h0,q⟩:=h
 have hu:=hr.units0
 have hu64:=hr.units
 refine ⟨_,(au (bM (bu t7 (aq 1) (aD (aG (K:=K) rfl) aN T.b_len bc (aa (aq 0) ao) (by trivial) (by trivial)) (by walk_at "p")) (aA (aK (bf (K:=K) rfl (aq 0) (aq 1)))) bx) (aA (aK aC))),?_⟩
 walk_at "s"
 refine gU hS ?_
 walk_at "s"
 refine iJ (fun hk=>?_) (fun hk=>?_)
 ·rw [Ws] at hk
  walk_at "s"
  refine aO hS (uI (v:=.int (ns.getD k.toNat 0)) h0 ?_) (q _)
  rw [Wo,Wu,Wn (by omega)];rfl
 ·walk_at "s"
  exact q _
def Wj (n:Nat):Nat:=(Str.ofString "abcdefghijklmnopqrstuvwxyz").cps.toList.getD n 0
theorem VP:∀ n∈List.range 26,97<=Wj n/\Wj n < 123:=by trivial
def VR:Sp:=fun vs H Q _=>∃ n:Int,vs=[.int n]/\∀ c,97<=c->c < 123->Q (.str ⟨#[c]⟩) H
theorem wD:aF ["_law_number"] ["_law_number"] (az m5):=⟨rfl,rfl,rfl,by trivial,rfl,by trivial,by trivial⟩
theorem fU (T:Txt K mg):jN P w K mg base 1 "_law_letter" ["_law_number"] VR:=by
 refine dZ T.d_law_letter wD (fun _ _ _ _ _ _ us hl=>L2.p7 (fun _=>rfl) us hl) ?_ fun f cdv A outer s H vs Q E hr h=>?_
 ·rintro vs H Q E ⟨n,rfl,_⟩;rfl
 obtain ⟨n,rfl,q⟩:=h
 have hu:=hr.units0
 have hu64:=hr.units
 refine ⟨_,(aA (aK (bf (K:=K) rfl ig (aZ gB (aq 0) aC)))),?_⟩
 walk_at "s"
 have hl:(Str.ofString "abcdefghijklmnopqrstuvwxyz").cps.toList.length=26:=by trivial
 have hk:=VP (n % 26).toNat (Xe.mpr (by omega))
 refine uh (c:=Wj (n % 26).toNat) (by trivial) ?_ (q _ hk.1 hk.2)
 refine uI (by omega) ?_
 have hi:(n % 26).toNat < (Str.ofString "abcdefghijklmnopqrstuvwxyz").cps.toList.length:=by rw [hl];omega
 unfold Wj
 rw [Wu,Wn hi];rfl
def Oq:Sp:=fun vs H Q _=>∃ n:Int,vs=[.int n]/\∀ m:Int,Q (.int m) H
theorem gq:aF ["_law_cell","_law_found","_law_number","_law_k"] ["_law_cell"] (az oN):=⟨rfl,rfl,rfl,by trivial,rfl,by trivial,by trivial⟩
theorem oY (T:Txt K mg):jN P w K mg base 1 "_law_great" ["_law_cell"] Oq:=by
 refine dZ T.d_law_great gq (fun _ _ _ _ _ _ us hl=>L2.p7 (fun _=>rfl) us hl) ?_ fun f cdv A outer s H vs Q E hr h=>?_
 ·rintro vs H Q E ⟨n,rfl,_⟩;rfl
 obtain ⟨n,rfl,q⟩:=h
 have hu:=hr.units0
 have hu64:=hr.units
 refine ⟨_,(au (bM (bu Ug (aq 0) (aZ QC aC aC) (by walk_at "p")) (aA (aK (aq 0))) bx) (au (aJ (i:=1) gq.nd rfl bT aC rfl) (au (aJ (i:=2) gq.nd rfl bT (aZ aV (aZ gB (aq 0) aC) aC) rfl) (au (du Xa rfl (dI aN T.b_range (aa aC ao)) (aY (i:=3) gq.nd rfl bT rfl) (au (aJ (i:=2) gq.nd rfl bT (aZ gB (aZ aV (aZ aV (aZ jO (aq 2) (aq 2)) (aZ jO aC (aq 2))) (aq 3)) aC) rfl) (aA (aJ (i:=1) gq.nd rfl bT (aZ aV (aZ jO (aq 1) aC) (aZ gB (aZ jO (aq 2) aC) aC)) rfl)))) (aA (aK (aq 1))))))),?_⟩
 walk_at "s"
 refine iJ (fun h1=>?_) (fun h1=>?_)
 ·walk_at "s"
  exact q _
 ·walk_at "s"
  refine ⟨8,rfl,by decide,by decide,?_⟩
  refine lZ (lo:=0) (n:=8) (fun k U H'=>∃ (f m:Int) (x:Option V),H'=H/\0<=m/\m < 2147500000/\U=[some (.int n),some (.int f),some (.int m),x]) ⟨0,n % 2147483647+12345,none,rfl,by omega,by omega,rfl⟩ ?_ ?_
  ·rintro i U H' hi ⟨f,m,x,rfl,h1,h2,rfl⟩
   walk_at "s"
   refine ⟨_,_,_,rfl,?_,?_,rfl⟩
   ·omega
   ·omega
  ·rintro U H' ⟨f,m,x,rfl,h1,h2,rfl⟩
   walk_at "s"
   exact q _
theorem Pln.nil:Pln (Str.ofString ""):=⟨by trivial,fun c hc=>by revert c;trivial⟩
theorem Pln.push {z:Str} {c:Nat} (h:∀ c∈z.cps.toList,97<=c/\c < 123) (h1:97<=c) (h2:c < 123):∀ d∈(z ++ (⟨#[c]⟩:Str)).cps.toList,97<=d/\d < 123:=fun d hd=>by
 rw [cps_append] at hd
 rcases Xi.mp hd with g | g
 ·exact h d g
 ·simp at g;subst g;exact ⟨h1,h2⟩
theorem Ot (d:Int) (h0:0<=d) (h1:d < 6):∃ w:Int,rR ([.int 1,.int 2,.int 2,.int 3,.int 4,.int 26]:List V) d=some (.int w)/\0 < w/\w<=26:=by
 obtain ⟨n,rfl⟩:∃ n:Nat,d=n:=⟨d.toNat,by omega⟩
 have hn:n=0\/n=1\/n=2\/n=3\/n=4\/n=5:=by omega
 rcases hn with rfl | rfl | rfl | rfl | rfl | rfl
 ·exact ⟨1,rfl,by decide,by decide⟩
 ·exact ⟨2,rfl,by decide,by decide⟩
 ·exact ⟨2,rfl,by decide,by decide⟩
 ·exact ⟨3,rfl,by decide,by decide⟩
 ·exact ⟨4,rfl,by decide,by decide⟩
 ·exact ⟨26,rfl,by decide,by decide⟩
def Tc:Sp:=fun vs H Q _=>∃ (n:Int),vs=[.int n,.int 24]/\∀ z H',Same H H'->Pln z->Q (.str z) H'
theorem dz:aF ["_law_cell","_law_most","_law_number","_law_many","_law_wide","_law_first","_law_row_here","_law_k"] ["_law_cell","_law_most"] (az sY):=⟨rfl,rfl,rfl,by trivial,rfl,by trivial,by trivial⟩
theorem tW (T:Txt K mg):jN P w K mg base 2 "_law_row" ["_law_cell","_law_most"] Tc:=by
 have oY:=oY (P:=P) (w:=w) (base:=base) T
 have fU:=fU (P:=P) (w:=w) (base:=base) T
 refine dZ T.d_law_row dz (fun _ _ _ _ _ _ us hl=>L2.kW (fun _ _=>rfl) us hl) ?_ fun f cdv A outer s H vs Q E hr h=>?_
 ·rintro vs H Q E ⟨n,rfl,_⟩;rfl
 obtain ⟨n,rfl,q⟩:=h
 have hu:=hr.units0
 have hu64:=hr.units
 refine ⟨_,(au (aJ (i:=2) dz.nd rfl bT (aH oY (hr.mono (by decide)) aN (aa (aq 0) ao) (by trivial)) rfl) (au (aJ (i:=3) dz.nd rfl bT (aZ gB (aq 2) aC) rfl) (au (bM (bu (lG (K:=K) rfl hu64) (aZ gB (aZ iu (aq 2) aC) aC) aC (by walk_at "p")) (aA (aJ (i:=3) dz.nd rfl bT (aZ gB (aZ iu (aq 2) aC) (aZ aV (aq 1) aC)) rfl)) bx) (au (aJ (i:=2) dz.nd rfl bT (aZ iu (aq 2) aC) rfl) (au (aJ (i:=4) dz.nd rfl bT (bf (K:=K) rfl (dU (aa aC (aa aC (aa aC (aa aC (aa aC (aa aC ao))))))) (aZ gB (aq 2) aC)) rfl) (au (aJ (i:=5) dz.nd rfl bT (aZ iu (aq 2) aC) rfl) (au (aJ (i:=2) dz.nd rfl bT (aZ iu (aq 5) aC) rfl) (au (aJ (i:=6) dz.nd rfl bT ig rfl) (au (du Xa rfl (dI aN T.b_range (aa (aq 3) ao)) (aY (i:=7) dz.nd rfl bT rfl) (au (aJ (i:=6) dz.nd rfl bT (aZ aV (aq 6) (aH fU (hr.mono (by decide)) aN (aa (aZ aV (aZ gB (aq 5) aC) (aZ gB (aq 2) (aq 4))) ao) (by trivial))) rfl) (aA (aJ (i:=2) dz.nd rfl bT (aZ iu (aq 2) (aq 4)) rfl)))) (aA (aK (aq 6)))))))))))),?_⟩
 walk_at "n"
 with_reducible refine j4 ?_
 walk_at "n"
 refine ⟨_,rfl,fun m=>?_⟩
 walk_at "n"
 with_reducible refine j4 ?_
 walk_at "n"
 with_reducible refine DG (fun U H1=>∃ k:Nat,k<=24/\H1=H/\U=[some (.int n),some (.int 24),some (.int m),some (.int k),none,none,none,none]) ?_ ?_
 rotate_left
 ·intro N hN
  walk_at "n"
  refine iJ (fun h3=>?_) (fun h3=>?_)
  ·walk_at "n"
   exact hN _ _ ⟨(m / 72 % 25).toNat,by omega,rfl,by rw [Int.toNat_of_nonneg (by omega)];rfl⟩
  ·walk_at "n"
   exact hN _ _ ⟨(m % 9).toNat,by omega,rfl,by rw [Int.toNat_of_nonneg (by omega)];rfl⟩
 ·rintro U H1 ⟨k,hk,rfl,rfl⟩
  walk_at "s"
  refine bK rfl fun p2 H2 n2 S2 h2=>?_
  walk_at "s"
  obtain ⟨w,ew,hw0,hw1⟩:=Ot (m / 1800 % 6) (by omega) (by omega)
  refine aO (SqL.of h2) ew ?_
  walk_at "s"
  refine ⟨k,rfl,by omega,by omega,?_⟩
  refine lZ (lo:=0) (n:=k) (fun i U H'=>∃ (z:Str) (j f:Int) (x:Option V),H'=H2/\(∀ c∈z.cps.toList,97<=c/\c < 123)/\z.length=i/\U=[some (.int n),some (.int 24),some (.int j),some (.int k),some (.int w),some (.int f),some (.str z),x]) ⟨_,_,_,_,rfl,Pln.nil.2,by trivial,rfl⟩ ?_ ?_
  ·rintro i U H' hi ⟨z,j,f,x,rfl,hR,hl,rfl⟩
   have s1000:1000<=sizeLine:=by decide
   walk_at "s"
   refine ⟨_,rfl,fun c hc1 hc2=>?_⟩
   walk_at "s"
   refine Bt (by rw [len1];omega) ?_
   walk_at "s"
   refine ⟨_,_,_,_,rfl,Pln.push hR hc1 hc2,?_,rfl⟩
   have:=Ku z ⟨#[c]⟩
   show (z ++ (⟨#[c]⟩:Str)).cps.size=i+1
   rw [this,show z.cps.size=z.length from rfl,hl];rfl
  ·rintro U H' ⟨z,j,f,x,rfl,hR,hl,rfl⟩
   walk_at "s"
   exact q z H' S2 ⟨by omega,hR⟩
end
local macro_rules | `(tactic| walk_at "s") => `(tactic| (with_reducible repeat (first | refine j4 ?_ | walk_at "4")))
local macro_rules | `(tactic| walk_at "n") => `(tactic| (with_reducible repeat (walk_at "4")))
section
variable {P:Program} {w:World} {K:W.Frag} {mg:Str->Option Value} {base:Heap}
theorem HTab.addE2 {G:Hp} {t N:Addr} {rs:List Addr} {hs:List (List PP)} (h:HTab G t rs hs) (gN:G N=some (.lst [])) (ntN:t≠N) (nNr:N ∉ rs):
  HTab (upd G t (.lst (rs.map V.ref ++ [.ref N]))) t (rs ++ [N]) (hs ++ [[]]):=by
 have tk:TK G (upd G t (.lst (rs.map V.ref ++ [.ref N]))):=TK.lst h.at_
 refine ⟨by rw [aj];simp,by simp [h.len],?_,?_,fun i r ps e1 e2=>?_⟩
 ·rw [YB]
  exact ⟨h.nd,by simp,fun a ha b hb e=>by rw [WP.mp hb] at e;rw [e] at ha;exact nNr ha⟩
 ·intro z
  rcases Xi.mp z with z | z
  ·exact h.ne z
  ·exact ntN (WP.mp z)
 ·by_cases hi:i < rs.length
  ·rw [WM hi] at e1
   rw [WM (by rw [← h.len];exact hi)] at e2
   have mr:=WW e1
   refine (h.row i r ps e1 e2).keep tk fun vs e=>?_
   rw [aB (fun z=>h.ne (by rw [← z];exact mr))]
   exact e
  ·have hi2:i < rs.length+1:=by have:=(Wm.mp e1).1;simpa using this
   have ei:i=rs.length:=by omega
   subst ei
   rw [WN (Wq _),X6] at e1
   rw [WN (by rw [h.len];exact Wq _),h.len,X6] at e2
   cases e1
   cases e2
   exact ⟨[],by rw [aB ntN.symm];exact gN,fQ.mpr rfl⟩
theorem Kv {S P:List Nat} {L:Nat} {ps:List PP} (h:∀ p∈ps,lt S P p.1 p.2 < (L:Int)):uP S P (L+1) ps=uP S P L ps ++ [[]]:=by
 unfold uP
 rw [Xz,WT]
 congr 1
 show [_]=_
 congr 1
 rw [List.filter_eq_nil_iff]
 intro p hp
 have:=h p hp
 simp
 omega
def jz (S P:List Nat) (n i j:Nat):Int:=mx (lt S P i n) (lt S P (i+1) j)
theorem Td (S P:List Nat) (n i:Nat):jz S P n i 0=lt S P i n:=by
 unfold jz
 rw [yw]
 have:=Am S P i n
 unfold mx
 split <;> omega
theorem Te (S P:List Nat) (n i:Nat):jz S P n i n=lt S P (i+1) n:=by
 unfold jz
 have:=Eg S P i n
 unfold mx
 split <;> omega
theorem Ou {S P:List Nat} {n i j:Nat} (hj:j < n) (h:¬ S[i]?=P[j]?):jz S P n i (j+1)=jz S P n i j:=by
 unfold jz
 rw [vM,if_neg h]
 have a:lt S P i (j+1)<=lt S P i n:=xM (Wq _) (by omega)
 unfold mx
 repeat' split
 all_goals omega
theorem Kw {S P:List Nat} {n i j:Nat} (hj:j < n) (h:S[i]?=P[j]?):lt S P i j<=jz S P n i j/\jz S P n i (j+1)=if lt S P i j=jz S P n i j then jz S P n i j+1 else jz S P n i j:=by
 unfold jz
 rw [Al h]
 have a:lt S P i j<=lt S P i n:=xM (Wq _) (by omega)
 have b:=Eg S P i j
 have c:=(Aj S P _ i j (Wq _)).1
 unfold mx
 repeat' split
 all_goals omega
theorem Ov {S P:List Nat} {n i j:Nat} (hn:n=P.length) (hj:j<=n):∀ p∈prs S P i ++ yX S P i j,lt S P p.1 p.2 < jz S P n i j:=by
 intro p hp
 unfold jz
 have l:=Kg (lt S P i n) (lt S P (i+1) j)
 have r:=Oi (lt S P i n) (lt S P (i+1) j)
 rcases Xi.mp hp with h | h
 ·have:=(Ei hn h).2
  omega
 ·obtain ⟨a,b,c⟩:=An h
  have e:=Al c
  have:lt S P (p.1+1) (p.2+1)<=lt S P (i+1) j:=xM (by omega) (by omega)
  omega
end
local macro_rules | `(tactic| walk_at "s") => `(tactic| (with_reducible repeat (first | refine j4 ?_ | walk_at "6")))
local macro_rules | `(tactic| walk_at "n") => `(tactic| (with_reducible repeat (walk_at "6")))
section
variable {P:Program} {w:World} {K:W.Frag} {mg:Str->Option Value} {base:Heap}
def Ky:Sp:=fun vs H Q _=>∃ side top:Str,vs=[.str side,.str top]/\side.length<=24/\top.length<=24/\∀ t rs H',H t=none->(∀ r∈rs,H r=none)->Same H H'->HTab H' t rs (uP side.cps.toList top.cps.toList (lt side.cps.toList top.cps.toList side.length top.length).toNat (prs side.cps.toList top.cps.toList side.length))->Q (.ref t) H'
theorem fV:aF ["_law_side","_law_top","_law_found","_law_row_here","_law_i","_law_below","_law_j"] ["_law_side","_law_top"] (az oO):=⟨rfl,rfl,rfl,by trivial,rfl,by trivial,by trivial⟩
theorem oZ (T:Txt K mg):jN P w K mg base 1 "_law_heaps" ["_law_side","_law_top"] Ky:=by
 refine dZ T.d_law_heaps fV (fun _ _ _ _ _ _ us hl=>L2.kW (fun _ _=>rfl) us hl) ?_ fun f cdv A outer s H vs Q E hr h=>?_
 ·rintro vs H Q E ⟨side,top,rfl,_⟩;rfl
 obtain ⟨side,top,rfl,hs,ht,q⟩:=h
 have hu:=hr.units0
 have hu64:=hr.units
 refine ⟨_,(au (aJ (i:=2) fV.nd rfl bT (dU ao) rfl) (au (aJ (i:=3) fV.nd rfl bT (aZ jO (dU (aa aC ao)) (aZ aV (aD (aG (K:=K) rfl) aN T.b_len bc (aa (aq 1) ao) (by trivial) (by trivial)) aC)) rfl) (au (du Xa rfl (dI aN T.b_range (aa (aD (aG (K:=K) rfl) aN T.b_len bc (aa (aq 0) ao) (by trivial) (by trivial)) ao)) (aY (i:=4) fV.nd rfl bT rfl) (au (aJ (i:=5) fV.nd rfl bT (dU (aa aC ao)) rfl) (au (du Xa rfl (dI aN T.b_range (aa (aD (aG (K:=K) rfl) aN T.b_len bc (aa (aq 1) ao) (by trivial) (by trivial)) ao)) (aY (i:=6) fV.nd rfl bT rfl) (au (aL (bL (K:=K) rfl Wv Wy Wz aW (aq 5) (aa (aD (o7 rfl) aN T.b_max vf (aa (bf (K:=K) rfl (aq 3) (aZ aV (aq 6) aC)) (aa (bf (K:=K) rfl (aq 5) (aq 6)) ao)) (by trivial) (by trivial)) ao))) (aA (bM (bu (lG (K:=K) rfl hu64) (bf (K:=K) rfl (aq 0) (aq 4)) (bf (K:=K) rfl (aq 1) (aq 6)) (by walk_at "p")) (au (uJ (ts:=wX) (aZ aV (bf (K:=K) rfl (aq 3) (aq 6)) aC) (yg (aq 5) (aZ aV (aq 6) aC) set_list)) (au (bM (bu (lG (K:=K) rfl hu64) (bf (K:=K) rfl (aq 3) (aq 6)) (aD (aG (K:=K) rfl) aN T.b_len bc (aa (aq 2) ao) (by trivial) (by trivial)) (by walk_at "p")) (aA (aL (bL (K:=K) rfl Wv Wy Wz aW (aq 2) (aa (dU ao) ao)))) bx) (aA (aL (bL (K:=K) rfl Wv Wy Wz aW (bf (K:=K) rfl (aq 2) (bf (K:=K) rfl (aq 3) (aq 6))) (aa (gw (aa (aq 4) (aa (aq 6) ao))) ao)))))) bx)))) (aA (aJ (i:=3) fV.nd rfl bT (aq 5) rfl))))) (aA (aK (aq 2)))))),?_⟩
 walk_at "s"
 have hz:20000<=sizeLine:=by decide
 have e1:side.length=side.cps.size:=rfl
 have e2:top.length=top.cps.size:=rfl
 refine bK rfl fun t G1 nt S1 gt=>?_
 walk_at "s"
 refine bK rfl fun p0 G2 n0 S2 g0=>?_
 walk_at "s"
 refine cR (by omega) ?_
 walk_at "s"
 refine yh g0 (by omega) (by omega) (WY (show [V.int 0].length*((top.length:Int)+1).toNat<=1000 by simp;omega) (by decide)) fun r nr=>?_
 walk_at "s"
 have e0:(List.replicate ((top.length:Int)+1).toNat [V.int 0]).flatten=(dR side.cps.toList top.cps.toList 0 (top.length+1)).map V.int:=by
  rw [show ((top.length:Int)+1).toNat=top.length+1 by omega]
  exact zeros _ _ _
 rw [e0]
 have S3:=((Same.refl G2).upd nr (o:=.lst ((dR side.cps.toList top.cps.toList 0 (top.length+1)).map V.int)))
 have gr:=aj (H:=G2) (a:=r) (o:=.lst ((dR side.cps.toList top.cps.toList 0 (top.length+1)).map V.int))
 generalize upd G2 r (.lst ((dR side.cps.toList top.cps.toList 0 (top.length+1)).map V.int))=G3 at S3 gr ⊢
 have U2:=S1.trans S2
 have hT3:HTab G3 t [] (uP side.cps.toList top.cps.toList (lt side.cps.toList top.cps.toList 0 top.length).toNat (prs side.cps.toList top.cps.toList 0)):=by
  rw [lt_0]
  exact ⟨S3 _ _ (S2 _ _ gt),rfl,by simp,by simp,fun i r ps e=>by simp at e⟩
 have nrt:r≠t:=fun z=>by rw [z,S2 _ _ gt] at nr;cases nr
 refine cR (by omega) ?_
 walk_at "s"
 refine ⟨_,rfl,by omega,by omega,?_⟩
 rw [show ((side.length:Nat):Int).toNat=side.length by omega]
 refine lZ (n:=side.length) (fun i U G=>Same H G/\∃ (rs:List Addr) (r:Addr) (x4 x5 x6:Option V),U=[some (.str side),some (.str top),some (.ref t),some (.ref r),x4,x5,x6]/\(∀ x∈rs,H x=none)/\H r=none/\r≠t/\r ∉ rs/\G r=some (.lst ((dR side.cps.toList top.cps.toList i (top.length+1)).map V.int))/\HTab G t rs (uP side.cps.toList top.cps.toList (lt side.cps.toList top.cps.toList i top.length).toNat (prs side.cps.toList top.cps.toList i)))
  ⟨U2.trans S3,[],r,_,_,_,rfl,by simp,Same.back U2 nr,nrt,by simp,gr,hT3⟩ ?_ ?_
 ·rintro i U G hi ⟨s,rs,r,x4,x5,x6,rfl,hrs,nr,nrt,nrr,gr,hT⟩
  rw [Int.zero_add]
  walk_at "s"
  refine bK rfl fun b G4 nb S4 gb=>?_
  walk_at "s"
  have hb0:G4 b=some (.lst ((dR side.cps.toList top.cps.toList (i+1) 1).map V.int)):=by
   rw [gb];unfold dR;simp [yw]
  have nbt:b≠t:=fun z=>by rw [z,hT.at_] at nb;cases nb
  have nbr:b≠r:=fun z=>by rw [z,gr] at nb;cases nb
  have nbs:b ∉ rs:=fun z=>by obtain ⟨xs,e⟩:=hT.mem z;rw [e] at nb;cases nb
  have hcS:side.cps.toList[i]?=some (side.cps.getD i 0):=tU (by omega)
  refine cR (by omega) ?_
  walk_at "s"
  refine ⟨_,rfl,by omega,by omega,?_⟩
  rw [show ((top.length:Nat):Int).toNat=top.length by omega]
  have h0:HTab G4 t rs (uP side.cps.toList top.cps.toList (jz side.cps.toList top.cps.toList top.length i 0).toNat (prs side.cps.toList top.cps.toList i ++ yX side.cps.toList top.cps.toList i 0)):=by
   rw [Td,show yX side.cps.toList top.cps.toList i 0=[] from rfl,XQ]
   exact hT.same S4
  refine lZ (n:=top.length) (fun j U L=>Same H L/\∃ (rs:List Addr) (x6:Option V),U=[some (.str side),some (.str top),some (.ref t),some (.ref r),some (.int (i:Int)),some (.ref b),x6]/\(∀ x∈rs,H x=none)/\r ∉ rs/\b ∉ rs/\L r=some (.lst ((dR side.cps.toList top.cps.toList i (top.length+1)).map V.int))/\L b=some (.lst ((dR side.cps.toList top.cps.toList (i+1) (j+1)).map V.int))/\HTab L t rs (uP side.cps.toList top.cps.toList (jz side.cps.toList top.cps.toList top.length i j).toNat (prs side.cps.toList top.cps.toList i ++ yX side.cps.toList top.cps.toList i j)))
   ⟨s.trans S4,rs,_,rfl,hrs,nrr,nbs,S4 _ _ gr,hb0,h0⟩ ?_ ?_
  ·rintro j U L hj ⟨sL,rs,x6,rfl,hrs,nrr,nbs,hr',hb,hT⟩
   rw [Int.zero_add]
   have hcP:top.cps.toList[j]?=some (top.cps.getD j 0):=tU (by omega)
   walk_at "s"
   refine ⟨.inl ⟨rfl,_,SqL.of hb⟩,?_⟩
   walk_at "s"
   refine aO (SqL.of hr') (yQ (j:=j+1) (by omega) (by omega)) ?_
   walk_at "s"
   refine aO (SqL.of hb) (oR (j:=j) (by omega)) ?_
   walk_at "s"
   refine aQ hb (by rw [Ws,mD];omega) ?_
   generalize hM:(if lt side.cps.toList top.cps.toList (i+1) j > lt side.cps.toList top.cps.toList i (j+1) then lt side.cps.toList top.cps.toList (i+1) j else lt side.cps.toList top.cps.toList i (j+1))=M
   have hM':mx (lt side.cps.toList top.cps.toList i (j+1)) (lt side.cps.toList top.cps.toList (i+1) j)=M:=hM
   have nHb:H b=none:=Same.back s nb
   have oB:∀ o,HTab (upd L b o) t rs _:=fun o=>hT.out (rs:=[b]) ((Out.refl [b] L).step (by simp)) (fun x hx=>by rw [WP.mp hx];exact ⟨_,hb⟩) (by simpa using fun z:t=b=>nbt z.symm) (fun x hx z=>nbs (by rw [← WP.mp z];exact hx))
   have nrb:r≠b:=fun z=>nbr z.symm
   have hrB:∀ o,upd L b o r=some (.lst ((dR side.cps.toList top.cps.toList i (top.length+1)).map V.int)):=fun o=>(aB nrb).trans hr'
   walk_at "s"
   refine uh (by omega) (dO hcS) ?_
   walk_at "s"
   refine uh (by omega) (dO hcP) ?_
   walk_at "s"
   refine iJ (fun hk=>?_) (fun hk=>?_)
   ·have ec:side.cps.toList[i]?=top.cps.toList[j]?:=by rw [hcS,hcP,yO.mp hk]
    obtain ⟨y1,y2⟩:=Kw (n:=top.length) hj ec
    walk_at "s"
    refine aO (SqL.of (hrB _)) (oR (j:=j) (by omega)) ?_
    walk_at "s"
    refine bN aj (VB (p:=j+1) (by omega) (by rw [Xl,Ws,mD];simp)) ?_
    have oB2:∀ o o',HTab (upd (upd L b o) b o') t rs _:=fun o o'=>hT.out (rs:=[b]) (((Out.refl [b] L).step (by simp)).step (by simp)) (fun x hx=>by rw [WP.mp hx];exact ⟨_,hb⟩) (by simpa using fun z:t=b=>nbt z.symm) (fun x hx z=>nbs (by rw [← WP.mp z];exact hx))
    have eb:∀ v:V,((dR side.cps.toList top.cps.toList (i+1) (j+1)).map V.int ++ [v]).set (j+1) (.int (lt side.cps.toList top.cps.toList i j+1))=(dR side.cps.toList top.cps.toList (i+1) (j+2)).map V.int:=fun v=>by
     rw [List.set_append,if_neg (by rw [Ws,mD];omega),Ws,mD,X6,mF _ _ (i+1) (j+1),Al ec,WT];rfl
    rw [eb]
    have hr2:∀ o o',upd (upd L b o) b o' r=some (.lst ((dR side.cps.toList top.cps.toList i (top.length+1)).map V.int)):=fun o o'=>(aB nrb).trans ((aB nrb).trans hr')
    have hT2:=oB2 (.lst ((dR side.cps.toList top.cps.toList (i+1) (j+1)).map V.int ++ [.int (M)])) (.lst ((dR side.cps.toList top.cps.toList (i+1) (j+2)).map V.int))
    replace hr2:=hr2 (.lst ((dR side.cps.toList top.cps.toList (i+1) (j+1)).map V.int ++ [.int (M)])) (.lst ((dR side.cps.toList top.cps.toList (i+1) (j+2)).map V.int))
    have hb2:=aj (H:=upd L b (.lst ((dR side.cps.toList top.cps.toList (i+1) (j+1)).map V.int ++ [.int (M)]))) (a:=b) (o:=.lst ((dR side.cps.toList top.cps.toList (i+1) (j+2)).map V.int))
    have s2:Same H _:=Same.put (o:=.lst ((dR side.cps.toList top.cps.toList (i+1) (j+2)).map V.int)) (Same.put (o:=.lst ((dR side.cps.toList top.cps.toList (i+1) (j+1)).map V.int ++ [.int (M)])) sL nHb) nHb
    clear oB oB2 hT hr' hrB hb
    generalize upd (upd L b (.lst ((dR side.cps.toList top.cps.toList (i+1) (j+1)).map V.int ++ [.int (M)]))) b (.lst ((dR side.cps.toList top.cps.toList (i+1) (j+2)).map V.int))=L2 at s2 hT2 hr2 hb2 ⊢
    have lnn:=Am side.cps.toList top.cps.toList i j
    have hl2:rs.length=(jz side.cps.toList top.cps.toList top.length i j).toNat:=by rw [hT2.len,jj]
    have low:=Ov (S:=side.cps.toList) (P:=top.cps.toList) (n:=top.length) (i:=i) (j:=j) (by simp [Str.length]) (by omega)
    with_reducible refine DG (fun U L3=>U=[some (.str side),some (.str top),some (.ref t),some (.ref r),some (.int (i:Int)),some (.ref b),some (.int (j:Int))]/\Same H L3/\∃ rs:List Addr,(∀ x∈rs,H x=none)/\r ∉ rs/\b ∉ rs/\L3 r=some (.lst ((dR side.cps.toList top.cps.toList i (top.length+1)).map V.int))/\L3 b=some (.lst ((dR side.cps.toList top.cps.toList (i+1) (j+2)).map V.int))/\HTab L3 t rs (uP side.cps.toList top.cps.toList (jz side.cps.toList top.cps.toList top.length i (j+1)).toNat (prs side.cps.toList top.cps.toList i ++ yX side.cps.toList top.cps.toList i j))) ?_ ?_
    rotate_left
    ·intro N hN
     walk_at "n"
     refine aO (SqL.of hr2) (oR (j:=j) (by omega)) ?_
     walk_at "n"
     refine gU (SqL.of hT2.at_) ?_
     walk_at "n"
     refine iJ (fun hk2=>?_) (fun hk2=>?_)
     ·have ek:lt side.cps.toList top.cps.toList i j=jz side.cps.toList top.cps.toList top.length i j:=by
       have:=V.int.inj hk2
       rw [Ws] at this
       omega
      rw [if_pos ek] at y2
      walk_at "n"
      refine ⟨.inl ⟨rfl,_,SqL.of hT2.at_⟩,?_⟩
      walk_at "n"
      refine bK rfl fun z L4 nz S4 gz=>?_
      walk_at "n"
      have ntz:t≠z:=fun e=>by rw [← e,hT2.at_] at nz;cases nz
      have nzr:z ∉ rs:=fun e=>by obtain ⟨xs,e'⟩:=hT2.mem e;rw [e'] at nz;cases nz
      refine aQ (S4 _ _ hT2.at_) (by rw [Ws];have:=(qK side.cps.toList top.cps.toList (i+1) j);have:=xM (S:=side.cps.toList) (P:=top.cps.toList) (i:=i) (i':=i) (j:=j) (j':=top.length) (Wq _) (by omega);have:=qK side.cps.toList top.cps.toList i top.length;omega) ?_
      walk_at "n"
      have hT4:=(hT2.same S4).addE2 gz ntz nzr
      rw [← Kv (by rw [Int.toNat_of_nonneg (by omega)];exact low),show (jz side.cps.toList top.cps.toList top.length i j).toNat+1=(jz side.cps.toList top.cps.toList top.length i (j+1)).toNat by omega] at hT4
      have tr:r≠t:=nrt
      refine hN _ _ ⟨rfl,Same.put (s2.trans S4) nt,rs ++ [z],fun x hx=>?_,?_,?_,(aB tr).trans (S4 _ _ hr2),(aB nbt).trans (S4 _ _ hb2),hT4⟩
      ·rcases Xi.mp hx with h | h
       ·exact hrs x h
       ·rw [WP.mp h];exact Same.back s2 nz
      ·intro h
       rcases Xi.mp h with h | h
       ·exact nrr h
       ·rw [WP.mp h,nz] at hr2;cases hr2
      ·intro h
       rcases Xi.mp h with h | h
       ·exact nbs h
       ·rw [WP.mp h,nz] at hb2;cases hb2
     ·have ek:¬ lt side.cps.toList top.cps.toList i j=jz side.cps.toList top.cps.toList top.length i j:=fun e=>by
       apply hk2
       rw [Ws]
       congr 1
       omega
      rw [if_neg ek] at y2
      walk_at "n"
      exact hN _ _ ⟨rfl,s2,rs,hrs,nrr,nbs,hr2,hb2,by rw [y2];exact hT2⟩
    ·rintro U L3 ⟨rfl,s3,rs,hrs,nrr,nbs,hr3,hb3,hT3⟩
     have hl3:rs.length=(jz side.cps.toList top.cps.toList top.length i (j+1)).toNat:=by rw [hT3.len,jj]
     have lhm:lt side.cps.toList top.cps.toList i j < jz side.cps.toList top.cps.toList top.length i (j+1):=by
      rw [y2]
      split <;> omega
     have hL:(lt side.cps.toList top.cps.toList i j).toNat < rs.length:=by omega
     have er6:rs[(lt side.cps.toList top.cps.toList i j).toNat]?=some rs[(lt side.cps.toList top.cps.toList i j).toNat]:=Wn hL
     have el6:=vY (S:=side.cps.toList) (P:=top.cps.toList) (L:=(jz side.cps.toList top.cps.toList top.length i (j+1)).toNat) (k:=(lt side.cps.toList top.cps.toList i j).toNat) (ps:=prs side.cps.toList top.cps.toList i ++ yX side.cps.toList top.cps.toList i j) (by omega)
     obtain ⟨ws,hw,_⟩:=hT3.row _ _ _ er6 el6
     walk_at "s"
     refine aO (SqL.of hr3) (oR (j:=j) (by omega)) ?_
     walk_at "s"
     refine aO (SqL.of hT3.at_) (uI lnn (v:=.ref rs[(lt side.cps.toList top.cps.toList i j).toNat]) (by rw [Wo,er6];rfl)) ?_
     walk_at "s"
     refine ⟨.inl ⟨rfl,_,SqL.of hw⟩,?_⟩
     walk_at "s"
     refine bK rfl fun T1 L5 nT S5 hT1=>?_
     walk_at "s"
     obtain ⟨ws2,hw2,hwl,HT5⟩:=(hT3.same S5).push er6 el6 hT1
     have hz:ws2.length < sizeLine:=by
      have a:=rO side.cps.toList top.cps.toList i
      have a2:=yN side.cps.toList top.cps.toList i j
      have c:i*top.cps.toList.length<=24*24:=Y6 (by omega) (by simp [Str.length] at ht;simpa using ht)
      have e:=YM (fun p':PP=>decide (lt side.cps.toList top.cps.toList p'.1 p'.2=(((lt side.cps.toList top.cps.toList i j).toNat:Nat):Int))) (prs side.cps.toList top.cps.toList i ++ yX side.cps.toList top.cps.toList i j)
      rw [Xl] at e
      exact WK (show ws2.length < 5000 by omega) (by decide)
     refine aQ hw2 hz ?_
     walk_at "s"
     have m6:=Yb hL
     refine ⟨Same.put (s3.trans S5) (hrs _ m6),rs,_,rfl,hrs,nrr,nbs,(aB fun e=>nrr (by rw [e];exact m6)).trans (S5 _ _ hr3),(aB fun e=>nbs (by rw [e];exact m6)).trans (S5 _ _ hb3),?_⟩
     rw [rN,if_pos ec,← Yo,Ao (k:=(lt side.cps.toList top.cps.toList i j).toNat) (by show lt side.cps.toList top.cps.toList i j=_;omega) (by omega)]
     exact HT5
   ·have ec:¬ side.cps.toList[i]?=top.cps.toList[j]?:=by
     rw [hcS,hcP]
     intro z
     exact hk (by rw [WR z])
    walk_at "s"
    refine ⟨Same.put sL nHb,rs,_,rfl,hrs,nrr,nbs,hrB _,?_,?_⟩
    ·have ev:lt side.cps.toList top.cps.toList (i+1) (j+1)=mx (lt side.cps.toList top.cps.toList i (j+1)) (lt side.cps.toList top.cps.toList (i+1) j):=by rw [vM,if_neg ec]
     rw [aj,mF _ _ (i+1) (j+1),ev,hM',WT];rfl
    ·rw [Ou hj ec,rN,if_neg ec,XQ]
     exact oB _
  ·rintro U L ⟨sL,rs,x6,rfl,hrs,nrr,nbs,hr',hb,hT⟩
   walk_at "s"
   rw [Te,show prs side.cps.toList top.cps.toList i ++ yX side.cps.toList top.cps.toList i top.length=prs side.cps.toList top.cps.toList (i+1) by rw [e2,show top.cps.size=top.cps.toList.length by simp];rfl] at hT
   exact ⟨sL,rs,b,_,_,_,rfl,hrs,Same.back s nb,nbt,nbs,hb,hT⟩
 ·rintro U G ⟨s,rs,r,x4,x5,x6,rfl,hrs,nr,nrt,nrr,gr,hT⟩
  walk_at "s"
  exact q t rs G nt hrs s hT
end
local macro_rules | `(tactic| walk_at "s") => `(tactic| (with_reducible repeat (first | refine j4 ?_ | walk_at "3")))
local macro_rules | `(tactic| walk_at "n") => `(tactic| (with_reducible repeat (walk_at "3")))
section
variable {P:Program} {w:World} {K:W.Frag} {mg:Str->Option Value} {base:Heap}
theorem lD:(["_law_i","_law_j","_law_cut"]:List Str).Nodup:=by trivial
theorem wF:(["_law_letter_here"]:List Str).Nodup:=by trivial
theorem yU:(["_law_change"]:List Str).Nodup:=by trivial
theorem Kz:bootBuiltins "ord"=some (.builtin "ord"):=by trivial
def dec (p q:PP):Prop:=q.1 < p.1/\q.2 < p.2
theorem Em (S P:List Nat):∀ (n i j:Nat),i+j<=n->(∀ p∈wb S P i j,p.1 < i/\p.2 < j/\S[p.1]?=P[p.2]?)/\(wb S P i j).Pairwise dec/\((wb S P i j).length:Int)=lt S P i j
 | _,0,j,_=>by rw [SJ,lt_0];exact ⟨by simp,.nil,rfl⟩
 | _,i+1,0,_=>by rw [SM,yw];exact ⟨by simp,.nil,rfl⟩
 | 0,i+1,j+1,h=>by omega
 | n+1,i+1,j+1,h=>by
  rw [Km]
  by_cases e:S[i]?=P[j]?
  ·rw [if_pos e,Al e]
   obtain ⟨a,b,c⟩:=Em S P n i j (by omega)
   refine ⟨fun p hp=>?_,.cons (fun p hp=>?_) b,by rw [← c];simp⟩
   ·rcases WD.mp hp with rfl | hp
    ·exact ⟨by simp,by simp,e⟩
    ·obtain ⟨x,y,z⟩:=a p hp;exact ⟨by omega,by omega,z⟩
   ·obtain ⟨x,y,z⟩:=a p hp;exact ⟨x,y⟩
  ·rw [if_neg e]
   by_cases e2:lt S P i (j+1)=lt S P (i+1) (j+1)
   ·rw [if_pos e2,← e2]
    obtain ⟨a,b,c⟩:=Em S P n i (j+1) (by omega)
    exact ⟨fun p hp=>by obtain ⟨x,y,z⟩:=a p hp;exact ⟨by omega,by omega,z⟩,b,c⟩
   ·rw [if_neg e2]
    obtain ⟨a,b,c⟩:=Em S P n (i+1) j (by omega)
    refine ⟨fun p hp=>by obtain ⟨x,y,z⟩:=a p hp;exact ⟨by omega,by omega,z⟩,b,?_⟩
    rw [c]
    rw [vM,if_neg e] at e2 ⊢
    unfold mx at e2 ⊢
    split <;> split at e2 <;> omega
def VV:Sp:=fun vs H Q _=>∃ (row:Str) (cut:Nat),vs=[.str row,.int (cut:Int)]/\row.length<=24/\cut<=row.length/\∀ t H',H t=none->Same H H'->HL H' t (hps row cut)->Q (.ref t) H'
theorem jJ:aF ["_law_row_here","_law_cut","_law_found","_law_heap"] ["_law_row_here","_law_cut"] (az iG):=⟨rfl,rfl,rfl,by trivial,rfl,by trivial,by trivial⟩
theorem iI (T:Txt K mg):jN P w K mg base 2 "_law_heaps_at" ["_law_row_here","_law_cut"] VV:=by
 have oZ:=oZ (P:=P) (w:=w) (base:=base) T
 refine dZ T.d_law_heaps_at jJ (fun _ _ _ _ _ _ us hl=>L2.kW (fun _ _=>rfl) us hl) ?_ fun f cdv A outer s H vs Q E hr h=>?_
 ·rintro vs H Q E ⟨row,cut,rfl,_⟩;rfl
 obtain ⟨row,cut,rfl,hl,hc,q⟩:=h
 have hu:=hr.units0
 have hu64:=hr.units
 refine ⟨_,(au (aJ (i:=2) jJ.nd rfl bT (dU ao) rfl) (au (du Xa rfl (d8 (K:=K) rfl (aH oZ (hr.mono (by decide)) aN (aa (lq (lu (K:=K) rfl) (aq 0) mQ (gM (jM 1))) (aa (lq (lu (K:=K) rfl) (aq 0) (gM (jM 1)) mQ) ao)) (by trivial))) (aY (i:=3) jJ.nd rfl bT rfl) (aA (aL (bL (K:=K) rfl Wv Wy Wz aW (aq 2) (aa (gW (sub:=[none,none,some 1]) (bI (N:=["_law_row_here","_law_cut","_law_found","_law_heap"]) (sc:=az iG) (N':=["_law_i","_law_j","_law_cut"]) (by trivial)) rfl rfl rfl (d8 (K:=K) rfl (aq 3)) (fun C s₀ H₀ ex=>(jB (K:=K) (n:=2) rfl rfl (bw (kY 0 (by trivial) lD) (bw (kY 1 (by trivial) lD) gO)))) (fun C s₀ H₀ ex=>dq) (fun C s₀ H₀ ex=>(gw (aa (fZ 0 (by trivial)) (aa (aZ aV (fZ 1 (by trivial)) (nO 2 (by trivial))) ao))))) ao))))) (aA (aK (aq 2))))),?_⟩
 walk_at "s"
 have hz:20000<=sizeLine:=by decide
 refine bK rfl fun f H1 nf S1 hf=>?_
 walk_at "s"
 refine qu (by omega) ?_
 walk_at "s"
 refine qu (by omega) ?_
 walk_at "s"
 have ea:(Txt.slice row none (some (cut:Int))).cps.toList=SA row cut:=vB row cut
 have eb:(Txt.slice row (some (cut:Int)) none).cps.toList=PA row cut:=vC row cut
 have la:=v6 ea
 have lb:=v6 eb
 rw [Cy hc] at la
 rw [v5] at lb
 refine ⟨_,_,rfl,by omega,by omega,fun t rs H2 nt hrs S2 HT=>?_⟩
 walk_at "s"
 rw [ea,eb,la,lb] at HT
 have hrl:rs.length=(hps row cut).length:=by rw [HT.len];unfold hps;rw [Ws];rfl
 have t0:=qK (SA row cut) (PA row cut) cut (row.length - cut)
 have hsm:rs.length<=24:=by rw [HT.len,jj];omega
 have nft:t≠f:=fun z=>by rw [z,hf] at nt;cases nt
 have nfr:f ∉ rs:=fun z=>by rw [hrs f z] at hf;cases hf
 refine .inl ⟨t,rfl,⟨_,SqL.of HT.at_⟩,?_⟩
 refine jZ (xs:=rs.map V.ref) (fun k U G=>Same H G/\Out [f] H2 G/\∃ (as:List Addr) (x3:Option V),U=[some (.str row),some (.int (cut:Int)),some (.ref f),x3]/\G f=some (.lst (as.map V.ref))/\as.length=k/\f ∉ as/\∀ (i:Nat) (b:Addr) (ps:List PP),as[i]?=some b->(hps row cut)[i]?=some ps->PL G b ps)
  ⟨S1.trans S2,Out.refl _ _,[],_,rfl,S2 _ _ hf,rfl,by simp,fun i b ps e=>by simp at e⟩ (fun i U G _ h=>SqL.of (h.2.1 _ _ (by simpa using nft) HT.at_)) ?_ ?_
 ·rintro k v U G hv ⟨s,O,as,x3,rfl,hg,hla,nfa,has⟩
  rw [Wo] at hv
  obtain ⟨r,er,rfl⟩:=Xm.mp hv
  have hk:k < rs.length:=(Wm.mp er).1
  have hT:=HT.out O (fun x hx=>by rw [WP.mp hx];exact ⟨_,S2 _ _ hf⟩) (by simpa using nft) (fun x hx z=>nfr (by rw [← WP.mp z];exact hx))
  obtain ⟨ps,ep⟩:∃ ps,(uP (SA row cut) (PA row cut) (lt (SA row cut) (PA row cut) cut (row.length - cut)).toNat (prs (SA row cut) (PA row cut) cut))[k]?=some ps:=⟨_,Wn (by rw [← HT.len];exact hk)⟩
  obtain ⟨vs,hv,hvl,hvd⟩:=(hT.row k r ps er ep).len
  have hps5:ps.length<=5000:=by
   have hm:=WW ep
   unfold uP at hm
   obtain ⟨k,_,rfl⟩:=Xg.mp hm
   have a1:=rO (SA row cut) (PA row cut) cut
   have a2:cut*(PA row cut).length<=24*24:=Y6 (by omega) (by rw [v5];omega)
   exact WY (YM _ _) (by omega)
  walk_at "s"
  refine ⟨.inl ⟨rfl,_,SqL.of hg⟩,?_⟩
  walk_at "s"
  refine .inl ⟨r,rfl,⟨_,SqL.of hv⟩,?_⟩
  refine iM (xs:=vs) (fun i ys J=>Same G J/\DRs J (((ps.take i).map (Ol 0 cut)).map pD) ys) (by omega) ⟨Same.refl _,fQ.mpr rfl⟩ ?_ (fun i ys J h=>SqL.of (h.1 _ _ hv)) ?_ ?_
  ·rintro i ys J ⟨_,h⟩
   have:=Cw h
   simp at this
   omega
  ·rintro i ys J v hk ⟨s,h⟩
   obtain ⟨p,b,ep,rfl,hb⟩:=PL.at_ (q:=r) (DRs.same s _ _ hvd) hk
   refine bj (SqT.of hb) rfl ?_
   walk_at "s"
   refine ⟨(KeepSt.set rfl).trans (KeepSt.set rfl),?_⟩
   walk_at "s"
   refine bK rfl fun c G2 nc s2 hc=>?_
   walk_at "s"
   refine ⟨s.trans s2,?_⟩
   rw [Yp,ep,WT,WT]
   exact j6 (DRs.same s2 _ _ h) (ph (xN.mpr ⟨c,rfl,by rw [hc];unfold Ol;simp only [Int.natCast_add,Nat.add_zero]⟩))
  rintro ys J D J2 ⟨sJ,h⟩ nD S3 hD
  try walk_at "s"
  rw [Xq (by omega)] at h
  have hg2:=S3 _ _ (sJ _ _ hg)
  refine aQ hg2 (by rw [Ws];omega) ?_
  walk_at "s"
  have nDf:D≠f:=fun z=>by rw [z,sJ _ _ hg] at nD;cases nD
  have tk:=TK.lst (o:=.lst (as.map V.ref ++ [.ref D])) hg2
  refine ⟨Same.put ((s.trans sJ).trans S3) nf,Out.step (fun b o hb e=>S3 _ _ (sJ _ _ (O b o hb e))) (by simp),as ++ [D],_,rfl,by rw [aj];simp,by simp [hla],by simp [nfa,nDf.symm],fun i b qs e1 e2=>?_⟩
  by_cases ei:i < as.length
  ·rw [WM ei] at e1
   exact ((((has i b qs e1 e2).same sJ).same S3)).keep tk fun vs e=>by rw [aB (fun z=>nfa (by rw [← z];exact WW e1))];exact e
  ·have ek:i=k:=by
    have:=(Wm.mp e1).1
    simp at this;omega
   subst ek
   rw [WN (by omega),hla,X6] at e1
   cases e1
   unfold hps at e2
   rw [Wo] at e2
   rw [show (rT row cut).toNat=(lt (SA row cut) (PA row cut) cut (row.length - cut)).toNat from rfl,ep] at e2
   cases e2
   exact PL.keep ⟨ys,hD,DRs.same S3 _ _ h⟩ tk fun vs e=>by rw [aB nDf];exact e
 rintro U G ⟨s,O,as,x3,rfl,hg,hla,nfa,has⟩
 rw [Ws] at hla
 walk_at "s"
 exact q f G nf s ⟨as,hg,by rw [hla,hrl],has⟩
def One (z:Str):Prop:=∃ c,z=⟨#[c]⟩/\97<=c/\c < 123
def ChT (H:Hp) (v:V) (o:Bool):Prop:=∃ (a:Addr) (k z:Str) (xs:List V),v= .ref a/\H a=some (.tup xs)/\rR xs 0=some (.str k)/\rR xs (-1)=some (.str z)/\One z/\decide (V.str k=V.str (Str.ofString "out"))=!o
theorem ChT.same {H H':Hp} {v:V} {o:Bool} (h:ChT H v o) (s:Same H H'):ChT H' v o:=by
 obtain ⟨a,k,z,xs,e,h,r⟩:=h
 exact ⟨a,k,z,xs,e,s _ _ h,r⟩
def CL (H:Hp) (us:List V) (bs:List Bool):Prop:=us.length=bs.length/\∀ (i:Nat) (v:V) (b:Bool),us[i]?=some v->bs[i]?=some b->ChT H v b
theorem CL.same {H H':Hp} {us:List V} {bs:List Bool} (h:CL H us bs) (s:Same H H'):CL H' us bs:=⟨h.1,fun i v b e1 e2=>(h.2 i v b e1 e2).same s⟩
theorem ChT.keep {H:Hp} {v:V} {b:Bool} {f:Addr} {us:List V} {o:HO} (h:ChT H v b) (hf:H f=some (.lst us)):ChT (upd H f o) v b:=by
 obtain ⟨a,k,z,xs,e,h,r⟩:=h
 exact ⟨a,k,z,xs,e,by rw [aB (fun z=>by rw [z,hf] at h;cases h)];exact h,r⟩
theorem CL.put {H:Hp} {us:List V} {bs:List Bool} {v:V} {b:Bool} {f:Addr} (h:CL H us bs) (hv:ChT H v b) (hf:H f=some (.lst us)):CL (upd H f (.lst (us ++ [v]))) (us ++ [v]) (bs ++ [b]):=by
 refine ⟨by simp [h.1],fun i u c e1 e2=>ChT.keep ?_ hf⟩
 by_cases hi:i < us.length
 ·rw [WM hi] at e1
  rw [WM (by rw [← h.1];exact hi)] at e2
  exact h.2 i u c e1 e2
 ·have hi2:i=us.length:=by have:=(Wm.mp e1).1;simp at this;omega
  subst hi2
  rw [WN (Wq _),X6] at e1
  rw [WN (by rw [h.1];exact Wq _),h.1,X6] at e2
  cases e1;cases e2
  exact hv
theorem CL.app {H:Hp} {us ws:List V} {bs cs:List Bool} (h:CL H us bs) (g:CL H ws cs):CL H (us ++ ws) (bs ++ cs):=by
 refine ⟨by simp [h.1,g.1],fun i u c e1 e2=>?_⟩
 by_cases hi:i < us.length
 ·rw [WM hi] at e1
  rw [WM (by rw [← h.1];exact hi)] at e2
  exact h.2 i u c e1 e2
 ·rw [WN (by omega)] at e1
  rw [WN (by rw [← h.1];omega),← h.1] at e2
  exact g.2 _ u c e1 e2
structure Lg (H G:Hp) (f:Addr) (row:Str) (k m:Nat) (us:List V) (bs:List Bool) (i:Nat):Prop where
 same:Same H G
 hf:G f=some (.lst us)
 cl:CL G us bs
 kl:k<=row.length
 mc:m=bs.count true+(row.length - k)
 ml:m<=12
 ul:us.length<=i
theorem Lg.put {H G G1:Hp} {f:Addr} {row:Str} {k m k' m':Nat} {us:List V} {bs:List Bool} {i:Nat} {v:V} {b:Bool} (h:Lg H G f row k m us bs i) (s:Same G G1) (nf:H f=none) (hv:ChT G1 v b) (kl:k'<=row.length) (mc:m'=(bs ++ [b]).count true+(row.length - k')) (ml:m'<=12):
  Lg H (upd G1 f (.lst (us ++ [v]))) f row k' m' (us ++ [v]) (bs ++ [b]) (i+1):=
 ⟨Same.put (h.same.trans s) nf,aj,(h.cl.same s).put hv (s _ _ h.hf),kl,mc,ml,by have:=h.ul;simp;omega⟩
theorem V0 {a b c:V} {n:Int} (h0:0<=n) (h1:n < 6):(n < 2/\rR [a,b,c] (n / 2)=some a)\/(2<=n/\n < 4/\rR [a,b,c] (n / 2)=some b)\/(4<=n/\rR [a,b,c] (n / 2)=some c):=by
 have:n=0\/n=1\/n=2\/n=3\/n=4\/n=5:=by omega
 rcases this with rfl | rfl | rfl | rfl | rfl | rfl
 ·exact .inl ⟨by omega,rfl⟩
 ·exact .inl ⟨by omega,rfl⟩
 ·exact .inr (.inl ⟨by omega,by omega,rfl⟩)
 ·exact .inr (.inl ⟨by omega,by omega,rfl⟩)
 ·exact .inr (.inr ⟨by omega,rfl⟩)
 ·exact .inr (.inr ⟨by omega,rfl⟩)
def Ow (K:W.Frag):Sp:=fun vs H Q _=>∃ (row:Str) (a:Addr) (cl:List Int),vs=[.str row,.ref a,.int 12]/\Pln row/\row.length<=12/\H a=some (.lst (cl.map V.int))/\cl.length<=63/\∀ q us bs H',Same H H'->H' q=some (.lst us)->CL H' us bs->us.length<=100->bs.count true<=12->Q (.ref q) H'
theorem dH:aF ["_law_row_here","_law_cells","_law_most","_law_changes","_law_at","_law_many","_law_cell","_law_old","_law_other"] ["_law_row_here","_law_cells","_law_most"] (az m7):=⟨rfl,rfl,rfl,by trivial,rfl,by trivial,by trivial⟩
theorem qP (T:Txt K mg):jN P w K mg base 2 "_law_list" ["_law_row_here","_law_cells","_law_most"] (Ow K):=by
 have fU:=fU (P:=P) (w:=w) (base:=base) T
 refine dZ T.d_law_list dH (fun _ _ _ _ _ _ us hl=>L2.pN (fun _ _ _=>rfl) us hl) ?_ fun f cdv A outer s H vs Q E hr h=>?_
 ·rintro vs H Q E ⟨row,a,cl,rfl,_⟩;rfl
 obtain ⟨row,a,cl,rfl,hr',hl,ha,hcl,q⟩:=h
 have hu:=hr.units0
 have hu64:=hr.units
 refine ⟨_,(au (aJ (i:=3) dH.nd rfl bT (dU ao) rfl) (au (aJ (i:=4) dH.nd rfl bT aC rfl) (au (aJ (i:=5) dH.nd rfl bT (aD (aG (K:=K) rfl) aN T.b_len bc (aa (aq 0) ao) (by trivial) (by trivial)) rfl) (au (du Xa rfl (d8 (K:=K) rfl (aq 1)) (aY (i:=6) dH.nd rfl bT rfl) (aA (bM (gF (vh (bu t7 (aZ gB (aq 6) aC) aC (by walk_at "p")) (rB (bu t7 (aq 4) (aD (aG (K:=K) rfl) aN T.b_len bc (aa (aq 0) ao) (by trivial) (by trivial)) (by walk_at "p"))))) (au (aJ (i:=7) dH.nd rfl bT (bf (K:=K) rfl (aq 0) (aq 4)) rfl) (au (aJ (i:=8) dH.nd rfl bT (aH fU (hr.mono (by decide)) aN (aa (aZ aV (aZ aV (aZ gQ (aD zc aN T.b_ord Kz (aa (aq 7) ao) (by trivial) (by trivial)) (aD zc aN T.b_ord Kz (aa ig ao) (by trivial) (by trivial))) aC) (aZ gB (aZ iu (aq 6) aC) aC)) ao) (by trivial)) rfl) (au (aJ (i:=4) dH.nd rfl bT (aZ aV (aq 4) aC) rfl) (au (aL (bL (K:=K) rfl Wv Wy Wz aW (aq 3) (aa (bf (K:=K) rfl (dU (aa (gw (aa ig (aa (aq 7) ao))) (aa (gw (aa ig (aa (aq 7) (aa (aq 8) ao)))) (aa (gw (aa ig (aa (aq 7) ao))) ao)))) (aZ iu (aZ gB (aq 6) aC) aC)) ao))) (aA (aJ (i:=5) dH.nd rfl bT (aZ gQ (aq 5) (vo EY aN T.b_int yf (aa (Dq qR (aZ gB (aq 6) aC) aC (by walk_at "p")) ao) (by trivial) (by trivial))) rfl)))))) (aA (bM (bu t7 (aq 5) (aq 2) (by walk_at "p")) (au (aL (bL (K:=K) rfl Wv Wy Wz aW (aq 3) (aa (gw (aa ig (aa (aH fU (hr.mono (by decide)) aN (aa (aZ iu (aq 6) aC) ao) (by trivial)) ao))) ao))) (aA (aJ (i:=5) dH.nd rfl bT (aZ aV (aq 5) aC) rfl))) bx))))) (aA (aK (aZ aV (aq 3) (gW (sub:=[none]) (bI (N:=["_law_row_here","_law_cells","_law_most","_law_changes","_law_at","_law_many","_law_cell","_law_old","_law_other"]) (sc:=az m7) (N':=["_law_letter_here"]) (by trivial)) rfl rfl rfl (d8 (K:=K) rfl (lq (lu (K:=K) rfl) (aq 0) (gM (aq 4)) mQ)) (fun C s₀ H₀ ex=>(kY 0 (by trivial) wF)) (fun C s₀ H₀ ex=>dq) (fun C s₀ H₀ ex=>(gw (aa ig (aa (fZ 0 (by trivial)) ao)))))))))))),?_⟩
 walk_at "s"
 have hz:20000<=sizeLine:=by decide
 refine bK rfl fun f H1 nf S1 hf=>?_
 walk_at "s"
 refine cR (by omega) ?_
 walk_at "s"
 refine .inl ⟨a,rfl,⟨_,SqL.of (S1 _ _ ha)⟩,?_⟩
 refine jZ (xs:=cl.map V.int) (fun i U G=>∃ (k m:Nat) (us:List V) (bs:List Bool) (x6 x7 x8:Option V),Lg H G f row k m us bs i/\U=[some (.str row),some (.ref a),some (.int 12),some (.ref f),some (.int (k:Int)),some (.int (m:Int)),x6,x7,x8])
  ⟨0,row.length,[],[],_,_,_,⟨S1,hf,⟨rfl,fun i v b e=>by simp at e⟩,Xx _,by simp,by omega,Wq _⟩,rfl⟩ (fun i U G _ h=>by obtain ⟨_,_,_,_,_,_,_,g,_⟩:=h;exact SqL.of (g.same _ _ ha)) ?_ ?_
 ·rintro i v U G hv ⟨k,m,us,bs,x6,x7,x8,hG,rfl⟩
  rw [Wo] at hv
  obtain ⟨c,ec,rfl⟩:=Xm.mp hv
  have hi:i < 63:=by have:=(Wm.mp ec).1;omega
  have hkl:=hG.kl
  have hmc:=hG.mc
  have hml:=hG.ml
  have hul:=hG.ul
  walk_at "s"
  refine iJ (fun h4=>?_) (fun h4=>?_)
  ·walk_at "s"
   refine cR (by omega) ?_
   walk_at "s"
   refine iJ (fun h5=>?_) (fun h5=>?_)
   ·have hcS:row.cps.toList[k]?=some (row.cps.getD k 0):=tU (by show k < row.length;omega)
    have hok:=hr'.2 _ (WW hcS)
    walk_at "s"
    refine uh (by omega) (dO hcS) ?_
    walk_at "s"
    refine ⟨rfl,?_⟩
    walk_at "s"
    refine ⟨by trivial,?_⟩
    walk_at "s"
    refine ⟨_,rfl,fun d d1 d2=>?_⟩
    walk_at "s"
    refine ⟨.inl ⟨rfl,_,SqL.of hG.hf⟩,?_⟩
    walk_at "s"
    refine bK rfl fun t1 G1 _ s1 ht1=>?_
    walk_at "s"
    refine bK rfl fun t2 G2 _ s2 ht2=>?_
    walk_at "s"
    refine bK rfl fun t3 G3 _ s3 ht3=>?_
    walk_at "s"
    refine bK rfl fun t4 G4 _ s4 ht4=>?_
    walk_at "s"
    have S4:=s1.trans (s2.trans (s3.trans s4))
    rcases V0 (a:=.ref t1) (b:=.ref t2) (c:=.ref t3) (n:=c % 8) (by omega) (by omega) with ⟨hn,e⟩ | ⟨hn,hn2,e⟩ | ⟨hn,e⟩
    ·refine aO (SqL.of ht4) e ?_
     walk_at "s"
     refine aQ (S4 _ _ hG.hf) (by omega) ?_
     walk_at "s"
     refine .inr ⟨_,rfl,?_⟩
     walk_at "s"
     rw [W2 (by omega)]
     walk_at "s"
     refine ⟨k+1,m,_,_,some (.int c),some (.str ⟨#[row.cps.getD k 0]⟩),some (.str ⟨#[d]⟩),hG.put S4 nf (b:=true) ⟨t1,_,_,_,rfl,s4 _ _ (s3 _ _ (s2 _ _ ht1)),rfl,rfl,⟨_,rfl,hok.1,hok.2⟩,by trivial⟩ (by omega) (by rw [YC];simp;omega) hml,?_⟩
     simp
    ·refine aO (SqL.of ht4) e ?_
     walk_at "s"
     refine aQ (S4 _ _ hG.hf) (by omega) ?_
     walk_at "s"
     refine .inr ⟨_,rfl,?_⟩
     walk_at "s"
     rw [W2 (by omega)]
     walk_at "s"
     refine ⟨k+1,m,_,_,some (.int c),some (.str ⟨#[row.cps.getD k 0]⟩),some (.str ⟨#[d]⟩),hG.put S4 nf (b:=true) ⟨t2,_,_,_,rfl,s4 _ _ (s3 _ _ ht2),rfl,rfl,⟨_,rfl,d1,d2⟩,by trivial⟩ (by omega) (by rw [YC];simp;omega) hml,?_⟩
     simp
    ·refine aO (SqL.of ht4) e ?_
     walk_at "s"
     refine aQ (S4 _ _ hG.hf) (by omega) ?_
     walk_at "s"
     refine .inr ⟨_,rfl,?_⟩
     walk_at "s"
     rw [W0 (by omega)]
     walk_at "s"
     refine ⟨k+1,m - 1,_,_,some (.int c),some (.str ⟨#[row.cps.getD k 0]⟩),some (.str ⟨#[d]⟩),hG.put S4 nf (b:=false) ⟨t3,_,_,_,rfl,s4 _ _ ht3,rfl,rfl,⟨_,rfl,hok.1,hok.2⟩,by trivial⟩ (by omega) (by rw [YC];simp;omega) (by omega),?_⟩
     simp
     omega
   ·walk_at "s"
    refine iJ (fun h6=>?_) (fun h6=>?_)
    ·walk_at "s"
     refine ⟨.inl ⟨rfl,_,SqL.of hG.hf⟩,?_⟩
     walk_at "s"
     refine ⟨_,rfl,fun d d1 d2=>?_⟩
     walk_at "s"
     refine bK rfl fun t1 G1 _ s1 ht1=>?_
     walk_at "s"
     refine aQ (s1 _ _ hG.hf) (by omega) ?_
     walk_at "s"
     exact ⟨k,m+1,_,_,_,_,_,hG.put s1 nf (b:=true) ⟨t1,_,_,_,rfl,ht1,rfl,rfl,⟨_,rfl,d1,d2⟩,by trivial⟩ hkl (by rw [YC];simp;omega) (by omega),rfl⟩
    ·walk_at "s"
     exact ⟨k,m,us,bs,_,_,_,⟨hG.same,hG.hf,hG.cl,hkl,hmc,hml,by omega⟩,rfl⟩
  ·walk_at "s"
   refine iJ (fun h6=>?_) (fun h6=>?_)
   ·walk_at "s"
    refine ⟨.inl ⟨rfl,_,SqL.of hG.hf⟩,?_⟩
    walk_at "s"
    refine ⟨_,rfl,fun d d1 d2=>?_⟩
    walk_at "s"
    refine bK rfl fun t1 G1 _ s1 ht1=>?_
    walk_at "s"
    refine aQ (s1 _ _ hG.hf) (by omega) ?_
    walk_at "s"
    exact ⟨k,m+1,_,_,_,_,_,hG.put s1 nf (b:=true) ⟨t1,_,_,_,rfl,ht1,rfl,rfl,⟨_,rfl,d1,d2⟩,by trivial⟩ hkl (by rw [YC];simp;omega) (by omega),rfl⟩
   ·walk_at "s"
    exact ⟨k,m,us,bs,_,_,_,⟨hG.same,hG.hf,hG.cl,hkl,hmc,hml,by omega⟩,rfl⟩
 ·rintro U G ⟨k,m,us,bs,x6,x7,x8,hG,rfl⟩
  have hkl:=hG.kl
  have hmc:=hG.mc
  have hml:=hG.ml
  have hul:=hG.ul
  rw [Ws] at hul
  have hsl:=vC row k
  have hsz:(Txt.slice row (some (k:Int)) none).cps.size=row.length - k:=by
   have:=congrArg List.length hsl
   rw [Y0,Xp,Xp] at this
   exact this
  walk_at "s"
  refine qu (by omega) ?_
  walk_at "s"
  refine .inr (.inr ⟨_,rfl,?_⟩)
  refine xu (fun i ys J=>Same G J/\CL J ys (List.replicate i true)) (by omega) ⟨Same.refl _,rfl,fun i v b e=>by simp at e⟩ ?_ ?_ ?_
  ·rintro i ys J ⟨_,h,_⟩
   rw [h];simp
  ·rintro i ys J c hc ⟨s,h⟩
   rw [hsl] at hc
   have hok:=hr'.2 c (List.mem_of_mem_drop (WW hc))
   walk_at "s"
   refine ⟨KeepSt.set rfl,?_⟩
   walk_at "s"
   refine bK rfl fun t J2 nt s2 ht=>?_
   walk_at "s"
   refine ⟨s.trans s2,?_⟩
   rw [List.replicate_succ']
   refine (h.same s2).app ⟨rfl,fun i v b e1 e2=>?_⟩
   obtain rfl:i=0:=by have:=(Wm.mp e1).1;simp at this;omega
   cases e1;cases e2
   exact ⟨t,_,_,_,rfl,ht,rfl,rfl,⟨_,rfl,hok.1,hok.2⟩,by trivial⟩
  ·rintro ys J D J2 ⟨s,h⟩ nD S2 hD
   have hyl:=h.1
   rw [List.length_replicate,hsz] at hyl
   rw [hsz] at h
   try walk_at "s"
   refine Rn (S2 _ _ (s _ _ hG.hf)) hD (by omega) fun p np=>?_
   have s3:=(Same.refl J2).upd np (o:=.lst (us ++ ys))
   refine q p (us ++ ys) (bs ++ List.replicate (row.length - k) true) _ (hG.same.trans (s.trans (S2.trans s3))) aj (((hG.cl.same s).same S2).same s3 |>.app ((h.same S2).same s3)) (by simp;omega) ?_
   rw [YC,List.count_replicate_self]
   omega
def Tf:Sp:=fun vs H Q _=>∃ (a:Addr) (us:List V) (bs:List Bool),vs=[.ref a]/\H a=some (.lst us)/\CL H us bs/\us.length<=100/\bs.count true<=12/\∀ z H',Same H H'->Pln z->z.length<=12->Q (.str z) H'
theorem Ar:∀ {zs:List Str},(∀ z∈zs,One z)->(zs.map (·.length)).sum=zs.length
 | [],_=>rfl
 | z :: zs,h=>by
  obtain ⟨c,rfl,_⟩:=h z (by simp)
  rw [Xh,List.sum_cons,Ar fun y hy=>h y (WL _ hy),Xy,Nat.add_comm];rfl
theorem xO:∀ {zs:List Str},(∀ z∈zs,One z)->((zs.map fun y=>y.cps.toList).flatten).length=zs.length/\∀ c∈(zs.map fun y=>y.cps.toList).flatten,97<=c/\c < 123
 | [],_=>⟨rfl,fun c h=>by simp at h⟩
 | z :: zs,h=>by
  obtain ⟨c,rfl,h1,h2⟩:=h z (by simp)
  obtain ⟨a,b⟩:=xO fun y hy=>h y (WL _ hy)
  refine ⟨by rw [Xh,Ye,Xl,a,Xy,Nat.add_comm];rfl,fun d hd=>?_⟩
  rw [Xh,Ye] at hd
  rcases Xi.mp hd with g | g
  ·simp at g;subst g;exact ⟨h1,h2⟩
  ·exact b d g
theorem CK:aF ["_law_changes"] ["_law_changes"] (az pJ):=⟨rfl,rfl,rfl,by trivial,rfl,by trivial,by trivial⟩
theorem tX (T:Txt K mg):jN P w K mg base 1 "_law_new" ["_law_changes"] Tf:=by
 refine dZ T.d_law_new CK (fun _ _ _ _ _ _ us hl=>L2.p7 (fun _=>rfl) us hl) ?_ fun f cdv A outer s H vs Q E hr h=>?_
 ·rintro vs H Q E ⟨a,us,bs,rfl,_⟩;rfl
 obtain ⟨a,us,bs,rfl,ha,hL,hl,hb,q⟩:=h
 have hu:=hr.units0
 have hu64:=hr.units
 refine ⟨_,(aA (aK (bL (K:=K) rfl PySem.F.plainAttrs_str PySem.F.slot_str_join PySem.F.type_str_join Dm ig (aa (gW (sub:=[none]) (bI (N:=["_law_changes"]) (sc:=az pJ) (N':=["_law_change"]) (by trivial)) rfl rfl rfl (d8 (K:=K) rfl (aq 0)) (fun C s₀ H₀ ex=>(kY 0 (by trivial) yU)) (fun C s₀ H₀ ex=>(Mp (bu (mR (K:=K) rfl hu64) (bf (K:=K) rfl (fZ 0 (by trivial)) aC) ig (by walk_at "p")))) (fun C s₀ H₀ ex=>(bf (K:=K) rfl (fZ 0 (by trivial)) (Bw qd aC)))) ao)))),?_⟩
 walk_at "s"
 have hz:20000<=sizeLine:=by decide
 refine ⟨rfl,?_⟩
 walk_at "s"
 refine .inl ⟨a,rfl,⟨_,SqL.of ha⟩,?_⟩
 refine iM (xs:=us) (fun i ys G=>G=H/\∃ zs:List Str,ys=zs.map V.str/\zs.length=(bs.take i).count true/\∀ z∈zs,One z) (by omega) ⟨rfl,[],rfl,rfl,by simp⟩ ?_ ?_ ?_ ?_
 ·rintro i ys G ⟨_,zs,rfl,e,_⟩
  rw [Ws,e]
  exact WY List.count_le_length (by rw [Yk];omega)
 ·rintro i ys G ⟨rfl,_⟩
  exact SqL.of ha
 ·rintro i ys G v hv ⟨rfl,zs,rfl,e,ho⟩
  have hi:i < bs.length:=by rw [← hL.1];exact (Wm.mp hv).1
  have eb:bs[i]?=some bs[i]:=Wn hi
  obtain ⟨t,k,z,xs,rfl,ht,h0,h1,hone,hd⟩:=hL.2 i v _ hv eb
  have et:(bs.take (i+1)).count true=(bs.take i).count true+if bs[i]=true then 1 else 0:=by
   rw [Yp,eb,YC]
   cases bs[i] <;> rfl
  walk_at "s"
  refine ⟨KeepSt.set rfl,?_⟩
  walk_at "s"
  refine dM (SqT.of ht) h0 ?_
  walk_at "s"
  rw [hd]
  cases hbi:bs[i] with
  | true=>
   rw [hbi] at et
   walk_at "s"
   refine dM (SqT.of ht) h1 ?_
   walk_at "s"
   refine ⟨rfl,zs ++ [z],by simp,by rw [et,Xl,e];rfl,fun y hy=>?_⟩
   rcases Xi.mp hy with h | h
   ·exact ho y h
   ·rw [WP.mp h];exact hone
  | false=>
   rw [hbi] at et
   walk_at "s"
   exact ⟨rfl,zs,rfl,by rw [et,e];rfl,ho⟩
 ·rintro ys G D H' ⟨rfl,zs,rfl,e,ho⟩ nD S hD
  try walk_at "s"
  rw [Xq (by rw [← hL.1];exact Wq _)] at e
  have e0:(Str.ofString "").length=0:=by trivial
  refine HX hD (by rw [Ar ho,e0];omega) ?_
  obtain ⟨f1,f2⟩:=xO ho
  have ej:=zE zs
  have el:(Txt.join (Str.ofString "") zs).length=zs.length:=by rw [v6 ej,f1]
  exact q _ _ S ⟨by omega,fun c hc=>f2 c (by rw [← ej];exact hc)⟩ (by omega)
theorem wG:(["_law_heap"]:List Str).Nodup:=by trivial
theorem tY:(["_law_many"]:List Str).Nodup:=by trivial
theorem tZ:(["_law_heaps_here"]:List Str).Nodup:=by trivial
theorem V1 {n:Nat}:(List.range n).map (fun _=>V.bl true)=(List.replicate n true).map V.bl:=by
 rw [List.map_replicate]
 refine List.ext_getElem (by simp) fun i h1 h2=>by simp
theorem t6 {α:Type} {H:Hp} {f:α->PyData}:∀ {xs:List α} {vs:List V},vs.length=xs.length->(∀ (i:Nat) (x:α) (v:V),xs[i]?=some x->vs[i]?=some v->DR H (f x) v)->DRs H (xs.map f) vs
 | [],[],_,_=>fQ.mpr rfl
 | [],_ :: _,hl,_=>by simp at hl
 | _ :: _,[],hl,_=>by simp at hl
 | x :: xs,v :: vs,hl,h=>by
  rw [Xh]
  exact dN.mpr ⟨v,vs,rfl,h 0 x v rfl rfl,t6 (by simpa using hl) fun i y u e1 e2=>h (i+1) y u (by simpa using e1) (by simpa using e2)⟩
def hlD (hs:List (List PP)):PyData:=.list (hs.map fun h=>.list (h.map pD))
theorem HL.dr {H:Hp} {t:Addr} {hs:List (List PP)} (h:HL H t hs):DR H (hlD hs) (.ref t):=by
 obtain ⟨rs,h1,h2,h3⟩:=h
 refine o9.mpr ⟨t,_,rfl,h1,t6 (by rw [Ws];exact h2) fun i x v e1 e2=>?_⟩
 rw [Wo] at e2
 obtain ⟨r,er,rfl⟩:=Xm.mp e2
 obtain ⟨vs,a,b⟩:=h3 i r x er e1
 exact o9.mpr ⟨r,vs,rfl,a,b⟩
structure TL (H:Hp) (a:Addr) (row:Str) (hs:List Addr):Prop where
 h:H a=some (.lst (hs.map V.ref))
 n:hs.length=row.length+1
 e:∀ (i:Nat) (b:Addr),hs[i]?=some b->HL H b (hps row i)
theorem TL.same {H H':Hp} {a:Addr} {row:Str} {hs:List Addr} (h:TL H a row hs) (s:Same H H'):TL H' a row hs:=⟨s _ _ h.h,h.n,fun i b e=>(h.e i b e).same s⟩
def Wk (row:Str):PyData:=.list ((List.range (row.length+1)).map fun i=>hlD (hps row i))
theorem TL.dr {H:Hp} {a:Addr} {row:Str} {hs:List Addr} (h:TL H a row hs):DR H (Wk row) (.ref a):=by
 refine o9.mpr ⟨a,_,rfl,h.h,t6 (by rw [Ws,List.length_range];exact h.n) fun i x v e1 e2=>?_⟩
 rw [Wo] at e2
 obtain ⟨r,er,rfl⟩:=Xm.mp e2
 obtain ⟨w,hw⟩:=Wm.mp e1
 rw [List.getElem_range] at hw
 subst hw
 exact (h.e i r er).dr
theorem Tg (p:PP):(pD p).canLay0=true/\(pD p).depth<=1:=xq (n:=0) fun d hd=>by
 simp only [WD,Xb,or_false] at hd
 rcases hd with rfl | rfl <;> exact uM _
theorem KC (row:Str):(Wk row).canLay0=true/\(Wk row).depth<=4:=ou (n:=3) fun d hd=>by
 obtain ⟨i,_,rfl⟩:=Xg.mp hd
 refine ou (n:=2) fun d hd=>?_
 obtain ⟨h,_,rfl⟩:=Xg.mp hd
 refine ou (n:=1) fun d hd=>?_
 obtain ⟨p,_,rfl⟩:=Xg.mp hd
 exact Tg p
def Ox:Sp:=fun vs H Q _=>∃ (a b:Addr) (row:Str) (hs hs':List Addr),vs=[.ref a,.ref b]/\TL H a row hs/\TL H b row hs'/\row.length<=24/\∀ H',Same H H'->Q (.bl true) H'
theorem ux:aF ["_law_found","_law_due","_law_heaps_here"] ["_law_found","_law_due"] (az m9):=⟨rfl,rfl,rfl,by trivial,rfl,by trivial,by trivial⟩
theorem qQ (T:Txt K mg):jN P w K mg base 1 "_law_same" ["_law_found","_law_due"] Ox:=by
 refine dZ T.d_law_same ux (fun _ _ _ _ _ _ us hl=>L2.kW (fun _ _=>rfl) us hl) ?_ fun f cdv A outer s H vs Q E hr h=>?_
 ·rintro vs H Q E ⟨a,b,row,hs,hs',rfl,_⟩;rfl
 obtain ⟨a,b,row,hs,hs',rfl,ha,hb,hl,q⟩:=h
 have hu:=hr.units0
 have hu64:=hr.units
 refine ⟨_,(au (bM (gF (iy (bV (bO (aD (bU (K:=K) rfl) aN T.b_isinstance aM (aa (aq 0) (aa (nU aN T.b_list jP (by trivial) (by trivial)) ao)) (by trivial) (by trivial)))) (gC (bu (mR (K:=K) rfl hu64) (aq 0) (aq 1) (by walk_at "p"))))) (aA (aK iw)) bx) (au (du Xa rfl (d8 (K:=K) rfl (aq 0)) (aY (i:=2) ux.nd rfl bT rfl) (aA (bM (gF (iy (bV (bO (aD (bU (K:=K) rfl) aN T.b_isinstance aM (aa (aq 2) (aa (nU aN T.b_list jP (by trivial) (by trivial)) ao)) (by trivial) (by trivial)))) (gC (bV (bO (aD (u5 rfl) aN T.b_all Bs (aa (gW (sub:=[none]) (bI (N:=["_law_found","_law_due","_law_heaps_here"]) (sc:=az m9) (N':=["_law_heap"]) (by trivial)) rfl rfl rfl (d8 (K:=K) rfl (aq 2)) (fun C s₀ H₀ ex=>(kY 0 (by trivial) wG)) (fun C s₀ H₀ ex=>dq) (fun C s₀ H₀ ex=>(aD (bU (K:=K) rfl) (Fx (by trivial)) T.b_isinstance aM (aa (fZ 0 (by trivial)) (aa (nU (Fx (by trivial)) T.b_list jP (by trivial) (by trivial)) ao)) (by trivial) (by trivial)))) ao) (by trivial) (by trivial))))))) (aA (aK iw)) bx))) (aA (aK iw)))),?_⟩
 walk_at "s"
 have hz:20000<=sizeLine:=by decide
 refine ie (.lst ha.h) (b:=true) (by rfl) ?_
 walk_at "s"
 refine vq ha.dr hb.dr (ql (KC row) (by decide)) ?_
 walk_at "s"
 refine .inl ⟨a,rfl,⟨_,SqL.of ha.h⟩,?_⟩
 refine jZ (xs:=hs.map V.ref) (fun k U G=>Same H G/\∃ x2,U=[some (.ref a),some (.ref b),x2]) ⟨Same.refl H,_,rfl⟩ (fun i U G _ h=>SqL.of (h.1 _ _ ha.h)) ?_ ?_
 ·rintro k v U G hv ⟨s,x2,rfl⟩
  rw [Wo] at hv
  obtain ⟨r,er,rfl⟩:=Xm.mp hv
  obtain ⟨rs,h1,h2,h3⟩:=(ha.e k r er).same s
  have hrl:rs.length<=24:=by
   rw [h2]
   unfold hps
   rw [Ws,jj]
   have hk:=(Wm.mp er).1
   have:=pM (row:=row) (c:=k) (by have:=ha.n;omega)
   omega
  walk_at "s"
  refine ie (.lst h1) (b:=true) (by rfl) ?_
  walk_at "s"
  refine .inl ⟨r,rfl,⟨_,SqL.of h1⟩,?_⟩
  refine iM (xs:=rs.map V.ref) (fun i ys J=>Same G J/\ys=(List.range i).map fun _=>V.bl true) (by rw [Ws];omega) ⟨Same.refl G,rfl⟩ ?_ (fun i ys J h=>SqL.of (h.1 _ _ h1)) ?_ ?_
  ·rintro i ys J ⟨_,rfl⟩
   simp
  ·rintro i ys J v hv ⟨s2,rfl⟩
   rw [Wo] at hv
   obtain ⟨b,eb,rfl⟩:=Xm.mp hv
   have hi:=(Wm.mp eb).1
   obtain ⟨vs,hv,_⟩:=h3 i b _ eb (Wn (by omega))
   walk_at "s"
   refine ⟨KeepSt.set rfl,?_⟩
   walk_at "s"
   refine ie (.lst (s2 _ _ hv)) (b:=true) (by rfl) ?_
   walk_at "s"
   exact ⟨s2,by rw [Xz,WT];rfl⟩
  ·rintro ys J D J2 ⟨s2,rfl⟩ nD S hD
   try walk_at "s"
   rw [Ws,V1] at hD
   refine ⟨D,_,rfl,hD,?_⟩
   rw [show (List.replicate rs.length true).all id=true by simp]
   walk_at "s"
   exact ⟨s.trans (s2.trans S),_,rfl⟩
 ·rintro U G ⟨s,x2,rfl⟩
  walk_at "s"
  exact q _ s
structure Ris (lo hi:Int) (ns:List Int):Prop where
 up:ns.Pairwise (· < ·)
 rng:∀ n∈ns,lo<=n/\n < hi
def V2:Sp:=fun vs H Q _=>∃ (a:Addr) (lo hi:Int) (ns:List Int),vs=[.ref a,.int lo,.int hi]/\H a=some (.lst (ns.map V.int))/\Ris lo hi ns/\∀ H',Same H H'->Q (.bl true) H'
theorem lX:aF ["_law_found","_law_low","_law_high","_law_place"] ["_law_found","_law_low","_law_high"] (az m8):=⟨rfl,rfl,rfl,by trivial,rfl,by trivial,by trivial⟩
theorem jU (T:Txt K mg):jN P w K mg base 1 "_law_rising" ["_law_found","_law_low","_law_high"] V2:=by
 refine dZ T.d_law_rising lX (fun _ _ _ _ _ _ us hl=>L2.pN (fun _ _ _=>rfl) us hl) ?_ fun f cdv A outer s H vs Q E hr h=>?_
 ·rintro vs H Q E ⟨a,lo,hi,ns,rfl,_⟩;rfl
 obtain ⟨a,lo,hi,ns,rfl,ha,hR,q⟩:=h
 have hu:=hr.units0
 have hu64:=hr.units
 refine ⟨_,(au (bM (bV (bO (aD (bU (K:=K) rfl) aN T.b_isinstance aM (aa (aq 0) (aa (nU aN T.b_list jP (by trivial) (by trivial)) ao)) (by trivial) (by trivial)))) (aA (aK iw)) bx) (au (du Xa rfl (d8 (K:=K) rfl (aq 0)) (aY (i:=3) lX.nd rfl bT rfl) (au (bM (gF (iy (bV (bO (aD (bU (K:=K) rfl) aN T.b_isinstance aM (aa (aq 3) (aa (nU aN T.b_int yf (by trivial) (by trivial)) ao)) (by trivial) (by trivial)))) (iy (bO (aD (bU (K:=K) rfl) aN T.b_isinstance aM (aa (aq 3) (aa (nU aN T.b_bool uH (by trivial) (by trivial)) ao)) (by trivial) (by trivial))) (gC (bV (Ik G9 t7 (aq 1) (aq 3) (aq 2))))))) (aA (aK iw)) bx) (aA (aJ (i:=1) lX.nd rfl bT (aZ aV (aq 3) aC) rfl)))) (aA (aK iw)))),?_⟩
 walk_at "s"
 refine ie (.lst ha) (b:=true) (by rfl) ?_
 walk_at "s"
 refine .inl ⟨a,rfl,⟨_,SqL.of ha⟩,?_⟩
 refine jZ (xs:=ns.map V.int) (fun k U G=>G=H/\∃ (l:Int) (x3:Option V),U=[some (.ref a),some (.int l),some (.int hi),x3]/\∀ n,ns[k]?=some n->l<=n) ⟨rfl,lo,_,rfl,fun n e=>(hR.rng n (WW e)).1⟩ (fun i U G _ h=>by rw [h.1];exact SqL.of ha) ?_ ?_
 ·rintro k v U G hv ⟨rfl,l,x3,rfl,hm⟩
  rw [Wo] at hv
  obtain ⟨n,en,rfl⟩:=Xm.mp hv
  have h1:=hm n en
  have h2:=(hR.rng n (WW en)).2
  walk_at "s"
  refine ie (.int _) (b:=true) (by rfl) ?_
  walk_at "s"
  refine ie (.int _) (b:=false) (by rfl) ?_
  walk_at "s"
  rw [W0 h1]
  walk_at "s"
  rw [W0 h2]
  walk_at "s"
  refine ⟨rfl,_,_,rfl,fun n' en'=>?_⟩
  obtain ⟨w1,e1⟩:=Wm.mp en
  obtain ⟨w2,e2⟩:=Wm.mp en'
  have:=(Yt.mp hR.up) k (k+1) w1 w2 (by omega)
  omega
 ·rintro U G ⟨rfl,l,x3,rfl,hm⟩
  walk_at "s"
  exact q _ (Same.refl _)
theorem yV {row:Str} {i:Nat} (h:i<=row.length):((hps row i).length:Int)=rT row i:=by
 unfold hps
 rw [Ws,jj]
 have:=pM h
 omega
theorem CN (row:Str):(List.range (row.length+1)).map (fun i=>V.int (rT row i))=(pR row).map V.int:=by
 unfold pR;rw [Yx];rfl
def Th (K:W.Frag) (mg:Str->Option Value):Sp:=fun vs H Q _=>∃ (row:Str) (b:Addr) (hs:List Addr),vs=[.str row,.ref b]/\Pln row/\TL H b row hs/\∀ H',Same H H'->Q (.bl true) H'
theorem o4:aF ["_law_row_here","_law_due","_law_found"] ["_law_row_here","_law_due"] (az gJ):=⟨rfl,rfl,rfl,by trivial,rfl,by trivial,by trivial⟩
theorem gK (T:Txt K mg):jN P w K mg base 12 "_law_lengths" ["_law_row_here","_law_due"] (Th K mg):=by
 have dw:=dw (P:=P) (w:=w) (base:=base) T
 refine dZ T.d_law_lengths o4 (fun _ _ _ _ _ _ us hl=>L2.kW (fun _ _=>rfl) us hl) ?_ fun f cdv A outer s H vs Q E hr h=>?_
 ·rintro vs H Q E ⟨row,b,hs,rfl,_⟩;rfl
 obtain ⟨row,b,hs,rfl,hr',hT,q⟩:=h
 have hu:=hr.units0
 have hu64:=hr.units
 refine ⟨_,(au (aJ (i:=2) o4.nd rfl bT (rE dw (hr.mono (by decide)) aN (vA fun _ _=>rfl) (aa (aq 0) ao) (by trivial)) rfl) (au (bM (gF (iy (bV (bO (aD (bU (K:=K) rfl) aN T.b_isinstance aM (aa (aq 2) (aa (nU aN T.b_list jP (by trivial) (by trivial)) ao)) (by trivial) (by trivial)))) (gC (bu (mR (K:=K) rfl hu64) (aq 2) (gW (sub:=[none]) (bI (N:=["_law_row_here","_law_due","_law_found"]) (sc:=az gJ) (N':=["_law_heaps_here"]) (by trivial)) rfl rfl rfl (d8 (K:=K) rfl (aq 1)) (fun C s₀ H₀ ex=>(kY 0 (by trivial) tZ)) (fun C s₀ H₀ ex=>dq) (fun C s₀ H₀ ex=>(aD (aG (K:=K) rfl) (Fx (by trivial)) T.b_len bc (aa (fZ 0 (by trivial)) ao) (by trivial) (by trivial)))) (by walk_at "p"))))) (aA (aK iw)) bx) (au (bM (bO (aD (Hz rfl) aN T.b_any Rk (aa (gW (sub:=[none]) (bI (N:=["_law_row_here","_law_due","_law_found"]) (sc:=az gJ) (N':=["_law_many"]) (by trivial)) rfl rfl rfl (d8 (K:=K) rfl (aq 2)) (fun C s₀ H₀ ex=>(kY 0 (by trivial) tY)) (fun C s₀ H₀ ex=>dq) (fun C s₀ H₀ ex=>(aD (bU (K:=K) rfl) (Fx (by trivial)) T.b_isinstance aM (aa (fZ 0 (by trivial)) (aa (nU (Fx (by trivial)) T.b_bool uH (by trivial) (by trivial)) ao)) (by trivial) (by trivial)))) ao) (by trivial) (by trivial))) (aA (aK iw)) bx) (au (aL (bL (K:=K) rfl Wv Wy Wz aW (aq 2) (aa aC ao))) (aA (aK iw)))))),?_⟩
 walk_at "s"
 have hz:20000<=sizeLine:=by decide
 have l1:row.length<=24:=hr'.1
 refine ⟨.str row,rfl,hr'.pt,fun hv=>by (rw [hr'.pl] at hv;cases hv),fun row2 e _ d H1 nd S1 hd=>?_⟩
 walk_at "s"
 obtain rfl:=V.str.inj e
 rw [CN] at hd
 have hT1:=hT.same S1
 walk_at "s"
 refine ie (.lst hd) (b:=true) (by rfl) ?_
 walk_at "s"
 refine .inl ⟨b,rfl,⟨_,SqL.of hT1.h⟩,?_⟩
 refine kh (xs:=hs.map V.ref) (fun i=>.int (rT row i)) (by rw [Ws,hT.n];omega) (SqL.of hT1.h) ?_ ?_
 ·intro i x hx
  rw [Wo] at hx
  obtain ⟨r,er,rfl⟩:=Xm.mp hx
  have hi:i<=row.length:=by have:=(Wm.mp er).1;have:=hT.n;omega
  obtain ⟨rs,h1,h2,_⟩:=hT1.e i r er
  walk_at "s"
  refine ⟨KeepSt.set rfl,?_⟩
  walk_at "s"
  refine gU (SqL.of h1) ?_
  walk_at "s"
  exact ⟨rfl,jf (by rw [Ws,h2,yV hi])⟩
 intro D H2 nD S2 hD
 try walk_at "s"
 rw [Ws,hT.n,CN] at hD
 refine vq (d:=.list ((pR row).map PyData.int)) (o9.mpr ⟨d,_,rfl,S2 _ _ hd,t6 (by simp) fun i x v e1 e2=>?_⟩) (o9.mpr ⟨D,_,rfl,hD,t6 (by simp) fun i x v e1 e2=>?_⟩) (ql (n:=1) (ou (n:=0) fun d hd=>?_) (by decide)) ?_
 ·rw [Wo,e1] at e2;cases e2;exact qi.mpr rfl
 ·rw [Wo,e1] at e2;cases e2;exact qi.mpr rfl
 ·obtain ⟨n,_,rfl⟩:=Xg.mp hd;exact uM n
 walk_at "s"
 have hd2:=S2 _ _ hd
 refine .inl ⟨d,rfl,⟨_,SqL.of hd2⟩,?_⟩
 refine kh (xs:=(pR row).map V.int) (fun i=>.bl false) (by unfold pR;simp;omega) (SqL.of hd2) ?_ ?_
 ·intro i x hx
  rw [Wo] at hx
  obtain ⟨n,_,rfl⟩:=Xm.mp hx
  walk_at "s"
  refine ⟨KeepSt.set rfl,?_⟩
  walk_at "s"
  refine ie (.int _) (b:=false) (by rfl) ?_
  walk_at "s"
  exact ⟨rfl,jf rfl⟩
 intro D2 H3 nD2 S3 hD2
 try walk_at "s"
 rw [show (List.range ((pR row).map V.int).length).map (fun _=>V.bl false)=(List.replicate ((pR row).map V.int).length false).map V.bl by rw [List.map_replicate];refine List.ext_getElem (by simp) fun i h1 h2=>by simp] at hD2
 refine ⟨D2,_,rfl,hD2,?_⟩
 rw [show (List.replicate ((pR row).map V.int).length false).any id=false by simp]
 walk_at "s"
 have hd3:=S3 _ _ hd2
 refine ⟨.inl ⟨rfl,_,SqL.of hd3⟩,?_⟩
 walk_at "s"
 refine aQ hd3 (by unfold pR;simp;omega) ?_
 walk_at "s"
 exact q _ (Same.put (S1.trans (S2.trans S3)) nd)
end
local macro_rules | `(tactic| walk_at "s") => `(tactic| (with_reducible repeat (first | refine j4 ?_ | walk_at "5")))
local macro_rules | `(tactic| walk_at "n") => `(tactic| (with_reducible repeat (walk_at "5")))
section
variable {P:Program} {w:World} {K:W.Frag} {mg:Str->Option Value} {base:Heap}
theorem wH:(["_law_heaps_here"]:List Str).Nodup:=by trivial
theorem kz00:KLl ji "e":=by trivial
theorem wI:bootBuiltins "ValueError"=some (.type "ValueError"):=by trivial
theorem CP {row:Str} {cut:Nat} (h:cut<=row.length):(∀ p∈thr row cut,p.1 < cut/\cut<=p.2/\p.2 < row.length/\row.cps.toList[p.1]?=row.cps.toList[p.2]?)/\(thr row cut).Pairwise (fun p q=>p.1 < q.1/\p.2 < q.2)/\((thr row cut).length:Int)=rT row cut:=by
 obtain ⟨a,b,c⟩:=Em (SA row cut) (PA row cut) _ cut (row.length - cut) (Wq _)
 unfold thr
 refine ⟨fun p hp=>?_,?_,by rw [Ws,YH,c];rfl⟩
 ·obtain ⟨q,hq,rfl⟩:=Xg.mp hp
  obtain ⟨x,y,z⟩:=a q (List.mem_reverse.mp hq)
  refine ⟨by show q.1+0 < cut;omega,by show cut<=q.2+cut;omega,by show q.2+cut < _;omega,?_⟩
  unfold SA PA at z
  rw [List.getElem?_take,if_pos x,Y7] at z
  show row.cps.toList[q.1+0]?=row.cps.toList[q.2+cut]?
  rw [Nat.add_zero,z,Nat.add_comm]
 ·rw [Ze,List.pairwise_reverse]
  exact b.imp fun {p q} h=>by
   unfold dec at h
   show q.1+0 < p.1+0/\q.2+cut < p.2+cut
   omega
def En (row:Str) (cut:Nat):List Int:=(thr row cut).map fun p=>(p.1:Int)
def Pz (row:Str) (cut:Nat):List Int:=(thr row cut).map fun p=>(p.2:Int)
theorem ris1 {row:Str} {cut:Nat} (h:cut<=row.length):Ris 0 cut (En row cut):=by
 obtain ⟨a,b,_⟩:=CP h
 unfold En
 refine ⟨Ze.mpr (b.imp fun {p q} h=>by omega),fun n hn=>?_⟩
 obtain ⟨p,hp,rfl⟩:=Xg.mp hn
 have:=a p hp
 omega
theorem ris2 {row:Str} {cut:Nat} (h:cut<=row.length):Ris cut row.length (Pz row cut):=by
 obtain ⟨a,b,_⟩:=CP h
 unfold Pz
 refine ⟨Ze.mpr (b.imp fun {p q} h=>by omega),fun n hn=>?_⟩
 obtain ⟨p,hp,rfl⟩:=Xg.mp hn
 have:=a p hp
 omega
theorem PB {H:Hp} {a:Addr} {ns:List Int} (h:H a=some (.lst (ns.map V.int))):DR H (.list (ns.map PyData.int)) (.ref a):=o9.mpr ⟨a,_,rfl,h,t6 (by simp) fun i x v e1 e2=>by rw [Wo,e1] at e2;cases e2;exact qi.mpr rfl⟩
theorem KD (ns:List Int):(PyData.list (ns.map PyData.int)).canLay0=true/\(PyData.list (ns.map PyData.int)).depth<=1:=ou (n:=0) fun d hd=>by
 obtain ⟨n,_,rfl⟩:=Xg.mp hd;exact uM n
theorem up {n m:Nat} (h:n<=m) {d:PyData} (hd:d.canLay0=true/\d.depth<=n):d.canLay0=true/\d.depth<=m:=⟨hd.1,WY hd.2 h⟩
def twD (row:Str) (cut:Nat):PyData:=.tuple [.int (cut:Int),.list ((En row cut).map .int),.list ((Pz row cut).map .int),Wk row]
theorem Ti (row:Str) (cut:Nat):(twD row cut).canLay0=true/\(twD row cut).depth<=5:=xq (n:=4) fun d hd=>by
 simp only [WD,Xb,or_false] at hd
 rcases hd with rfl | rfl | rfl | rfl
 ·exact up (by decide) (uM _)
 ·exact up (by decide) (KD _)
 ·exact up (by decide) (KD _)
 ·exact KC row
theorem Tw.t1 {H:Hp} {kp l1 l2 hp:Addr} {hs:List Addr} {row:Str} {cut:Nat} (h:Tw H kp l1 l2 hp hs row cut):H l1=some (.lst ((En row cut).map V.int)):=by
 rw [h.a];unfold En;rw [Yx];rfl
theorem Tw.t2 {H:Hp} {kp l1 l2 hp:Addr} {hs:List Addr} {row:Str} {cut:Nat} (h:Tw H kp l1 l2 hp hs row cut):H l2=some (.lst ((Pz row cut).map V.int)):=by
 rw [h.b];unfold Pz;rw [Yx];rfl
theorem Tw.tl {H:Hp} {kp l1 l2 hp:Addr} {hs:List Addr} {row:Str} {cut:Nat} (h:Tw H kp l1 l2 hp hs row cut):TL H hp row hs:=⟨h.h,h.n,h.e⟩
theorem Tw.dr {H:Hp} {kp l1 l2 hp:Addr} {hs:List Addr} {row:Str} {cut:Nat} (h:Tw H kp l1 l2 hp hs row cut):DR H (twD row cut) (.ref kp):=
 zH.mpr ⟨kp,_,rfl,h.k,dN.mpr ⟨_,_,rfl,qi.mpr rfl,dN.mpr ⟨_,_,rfl,PB h.t1,dN.mpr ⟨_,_,rfl,PB h.t2,ph h.tl.dr⟩⟩⟩⟩
def Tj (K:W.Frag) (mg:Str->Option Value):Sp:=fun vs H Q _=>∃ (row:Str) (b:Addr) (hs:List Addr),vs=[.str row,.ref b]/\Pln row/\TL H b row hs/\∀ H',Same H H'->Q (.bl true) H'
theorem jA:aF ["_law_row_here","_law_due","_law_many","_law_cut","_law_found","_law_k"] ["_law_row_here","_law_due"] (az ni):=⟨rfl,rfl,rfl,by trivial,rfl,by trivial,by trivial⟩
theorem jd (T:Txt K mg):jN P w K mg base 13 "_law_told" ["_law_row_here","_law_due"] (Tj K mg):=by
 have rQ:=rQ (P:=P) (w:=w) (base:=base) T
 have jU:=jU (P:=P) (w:=w) (base:=base) T
 have qQ:=qQ (P:=P) (w:=w) (base:=base) T
 refine dZ T.d_law_told jA (fun _ _ _ _ _ _ us hl=>L2.kW (fun _ _=>rfl) us hl) ?_ fun f cdv A outer s H vs Q E hr h=>?_
 ·rintro vs H Q E ⟨row,b,hs,rfl,_⟩;rfl
 obtain ⟨row,b,hs,rfl,hr',hT,q⟩:=h
 have hu:=hr.units0
 have hu64:=hr.units
 refine ⟨_,(au (o8 (i:=2) jA.nd rfl bT (sub:=[none]) (bI (N:=["_law_row_here","_law_due","_law_many","_law_cut","_law_found","_law_k"]) (sc:=az ni) (N':=["_law_heaps_here"]) (by trivial)) rfl rfl rfl (d8 (K:=K) rfl (aq 1)) (fun C s₀ H₀ ex=>(kY 0 (by trivial) wH)) (fun C s₀ H₀ ex=>dq) (fun C s₀ H₀ ex=>(aD (aG (K:=K) rfl) (Fx (by trivial)) T.b_len bc (aa (fZ 0 (by trivial)) ao) (by trivial) (by trivial))) rfl) (au (aJ (i:=3) jA.nd rfl bT (bL (K:=K) rfl Wv PySem.F.slot_list_index PySem.F.type_list_index zN (aq 2) (aa (aD (xr rfl) aN T.b_max vf (aa (aq 2) ao) (by trivial) (by trivial)) ao)) rfl) (au (aJ (i:=4) jA.nd rfl bT (rE rQ (hr.mono (by decide)) aN (vA fun _ _=>rfl) (aa (aq 0) ao) (by trivial)) rfl) (au (bM (gF (iy (bV (bO (aD (bU (K:=K) rfl) aN T.b_isinstance aM (aa (aq 4) (aa (nU aN T.b_tuple zB (by trivial) (by trivial)) ao)) (by trivial) (by trivial)))) (gC (bu (mR (K:=K) rfl hu64) (aD (aG (K:=K) rfl) aN T.b_len bc (aa (aq 4) ao) (by trivial) (by trivial)) aC (by walk_at "p"))))) (aA (aK iw)) bx) (au (bM (gF (iy (bV (bO (aD (bU (K:=K) rfl) aN T.b_isinstance aM (aa (bf (K:=K) rfl (aq 4) aC) (aa (nU aN T.b_int yf (by trivial) (by trivial)) ao)) (by trivial) (by trivial)))) (iy (bO (aD (bU (K:=K) rfl) aN T.b_isinstance aM (aa (bf (K:=K) rfl (aq 4) aC) (aa (nU aN T.b_bool uH (by trivial) (by trivial)) ao)) (by trivial) (by trivial))) (gC (bu (mR (K:=K) rfl hu64) (bf (K:=K) rfl (aq 4) aC) (aq 3) (by walk_at "p")))))) (aA (aK iw)) bx) (au (bM (gF (iy (bV (bO (aH jU (hr.mono (by decide)) aN (aa (bf (K:=K) rfl (aq 4) aC) (aa aC (aa (aq 3) ao))) (by trivial)))) (gC (bV (bO (aH jU (hr.mono (by decide)) aN (aa (bf (K:=K) rfl (aq 4) aC) (aa (aq 3) (aa (aD (aG (K:=K) rfl) aN T.b_len bc (aa (aq 0) ao) (by trivial) (by trivial)) ao))) (by trivial))))))) (aA (aK iw)) bx) (au (bM (gF (iy (bu (mR (K:=K) rfl hu64) (aD (aG (K:=K) rfl) aN T.b_len bc (aa (bf (K:=K) rfl (aq 4) aC) ao) (by trivial) (by trivial)) (bf (K:=K) rfl (aq 2) (aq 3)) (by walk_at "p")) (gC (bu (mR (K:=K) rfl hu64) (aD (aG (K:=K) rfl) aN T.b_len bc (aa (bf (K:=K) rfl (aq 4) aC) ao) (by trivial) (by trivial)) (bf (K:=K) rfl (aq 2) (aq 3)) (by walk_at "p"))))) (aA (aK iw)) bx) (au (du Xa rfl (dI aN T.b_range (aa (bf (K:=K) rfl (aq 2) (aq 3)) ao)) (aY (i:=5) jA.nd rfl bT rfl) (aA (bM (bu (mR (K:=K) rfl hu64) (bf (K:=K) rfl (aq 0) (bf (K:=K) rfl (bf (K:=K) rfl (aq 4) aC) (aq 5))) (bf (K:=K) rfl (aq 0) (bf (K:=K) rfl (bf (K:=K) rfl (aq 4) aC) (aq 5))) (by walk_at "p")) (aA (aK iw)) bx))) (au (bM (bV (bO (aH qQ (hr.mono (by decide)) aN (aa (bf (K:=K) rfl (aq 4) aC) (aa (aq 1) ao)) (by trivial)))) (aA (aK iw)) bx) (au (bM (bu (mR (K:=K) rfl hu64) (rE rQ (hr.mono (by decide)) aN (vA fun _ _=>rfl) (aa (aq 0) ao) (by trivial)) (aq 4) (by walk_at "p")) (aA (aK iw)) bx) (au (aL (bL (K:=K) rfl Wv Wy Wz aW (bf (K:=K) rfl (aq 4) aC) (aa aC ao))) (au (aL (Mm (K:=K) rfl Wv PySem.F.slot_list_clear PySem.F.type_list_clear Hq (bf (K:=K) rfl (aq 4) aC))) (au (aL (bL (K:=K) rfl Wv Wy Wz aW (bf (K:=K) rfl (bf (K:=K) rfl (aq 4) aC) (Bw qd aC)) (aa (dU (aa (gw (aa aC (aa aC ao))) ao)) ao))) (au (aL (bL (K:=K) rfl Wv Wy Wz aW (bf (K:=K) rfl (aq 4) aC) (aa (dU ao) ao))) (aA (aK iw)))))))))))))))),?_⟩
 walk_at "s"
 have hz:20000<=sizeLine:=by decide
 have l1:row.length<=24:=hr'.1
 have htw:∀ {Q:VK} {E:XK} {H:Hp} {cut:Nat},CutOf row cut->(∀ kp l1 l2 hp hs H',Same H H'->Tw H' kp l1 l2 hp hs row cut->H l1=none->H l2=none->H hp=none->(∀ b∈hs,H b=none)->l1≠l2->l1≠hp->l2≠hp->l1 ∉ hs->l2 ∉ hs->hp ∉ hs->Q (.ref kp) H')->VN K mg [.str row] H Q E:=fun hc q=>⟨.str row,rfl,hr'.pt,fun hv=>by (rw [hr'.pl] at hv;cases hv),fun row2 e _ cut2 kp l1 l2 hp hs H' c2 S TW n1 n2 nh nhs d1 d2 d3 m1 m2 m3=>by
  obtain rfl:=V.str.inj e
  obtain rfl:=c2.uni hc
  exact q kp l1 l2 hp hs H' S TW n1 n2 nh nhs d1 d2 d3 m1 m2 m3⟩
 refine .inl ⟨b,rfl,⟨_,SqL.of hT.h⟩,?_⟩
 refine kh (xs:=hs.map V.ref) (fun i=>.int (rT row i)) (by rw [Ws,hT.n];omega) (SqL.of hT.h) ?_ ?_
 ·intro i x hx
  rw [Wo] at hx
  obtain ⟨r,er,rfl⟩:=Xm.mp hx
  have hi:i<=row.length:=by have:=(Wm.mp er).1;have:=hT.n;omega
  obtain ⟨rs,h1,h2,_⟩:=hT.e i r er
  walk_at "s"
  refine ⟨KeepSt.set rfl,?_⟩
  walk_at "s"
  refine gU (SqL.of h1) ?_
  walk_at "s"
  exact ⟨rfl,jf (by rw [Ws,h2,yV hi])⟩
 intro D H1 nD S1 hD
 try walk_at "s"
 rw [Ws,hT.n,CN] at hD
 refine ⟨.inl ⟨rfl,_,SqL.of hD⟩,?_⟩
 walk_at "s"
 refine Jh hD (fun z=>by have:=congrArg List.length z;unfold pR at this;simp at this) fun M h1 h2=>?_
 walk_at "s"
 refine DK hD (by unfold pR;simp;omega) (fun x hx=>?_) h1 ?_
 walk_at "s"
 ·obtain ⟨c,hc,rfl⟩:=El hx
  have:=pM hc
  omega
 obtain ⟨hcut,_⟩:=Kr h1 h2
 generalize (pR row).idxOf M=cut at hcut ⊢
 clear h1 h2
 obtain ⟨tm,tp,tlen⟩:=CP hcut.1
 have tr:=pM hcut.1
 have em:rR ((pR row).map V.int) (cut:Int)=some (.int (rT row cut)):=dO (by rw [Wo,yS hcut.1];rfl)
 walk_at "s"
 refine htw hcut fun kp a1 a2 hp hs2 H2 S2 TW n1 n2 nh nhs d12 d1h d2h m1 m2 mh=>?_
 walk_at "s"
 have hk:=TW.k
 walk_at "s"
 refine ie (.tup hk) (b:=true) (by rfl) ?_
 walk_at "s"
 refine vg (SqT.of hk) ?_
 walk_at "s"
 rw [show (!decide (V.int (([.int (cut:Int),.ref a1,.ref a2,.ref hp]:List V).length:Int)=V.int 4))=false by simp]
 walk_at "s"
 refine ie (.int _) (b:=true) (by rfl) ?_
 walk_at "s"
 refine ie (.int _) (b:=false) (by rfl) ?_
 walk_at "s"
 rw [W0 rfl]
 walk_at "s"
 refine ⟨a1,0,(cut:Int),_,rfl,TW.t1,ris1 hcut.1,fun H3 S3=>?_⟩
 walk_at "s"
 have TW3:=TW.same S3
 have hk3:=TW3.k
 walk_at "s"
 refine cR (by omega) ?_
 walk_at "s"
 refine ⟨a2,(cut:Int),(row.length:Int),_,rfl,TW3.t2,ris2 hcut.1,fun H4 S4=>?_⟩
 walk_at "s"
 have TW4:=TW3.same S4
 have hk4:=TW4.k
 have hD4:=S4 _ _ (S3 _ _ (S2 _ _ hD))
 have e1:((En row cut).map V.int).length=(thr row cut).length:=by unfold En;simp
 have e2:((Pz row cut).map V.int).length=(thr row cut).length:=by unfold Pz;simp
 walk_at "s"
 refine gU (SqL.of TW4.t1) ?_
 walk_at "s"
 refine aO (SqL.of hD4) em ?_
 walk_at "s"
 rw [e1,tlen,W0 rfl]
 walk_at "s"
 refine gU (SqL.of TW4.t2) ?_
 walk_at "s"
 refine aO (SqL.of hD4) em ?_
 walk_at "s"
 rw [e2,tlen,W0 rfl]
 walk_at "s"
 refine aO (SqL.of hD4) em ?_
 walk_at "s"
 refine ⟨_,rfl,by omega,by omega,?_⟩
 refine lZ (n:=(rT row cut).toNat) (fun k U G=>G=H4/\∃ x5,U=[some (.str row),some (.ref b),some (.ref D),some (.int (cut:Int)),some (.ref kp),x5]) ⟨rfl,_,rfl⟩ ?_ ?_
 ·rintro k U G hk' ⟨rfl,x5,rfl⟩
  rw [Int.zero_add]
  have hkl:k < (thr row cut).length:=by omega
  obtain ⟨y1,y2,y3,y4⟩:=tm _ (Yb hkl)
  have ep:(thr row cut)[k]?=some (thr row cut)[k]:=Wn hkl
  have hy1:row.cps.toList[(thr row cut)[k].1]?=some (row.cps.getD (thr row cut)[k].1 0):=tU (by show _ < row.length;omega)
  have hy2:=y4.symm.trans hy1
  walk_at "s"
  refine aO (SqL.of TW4.t1) (dO (j:=k) (by unfold En;rw [Wo,Wo,ep];rfl)) ?_
  walk_at "s"
  refine uh (by omega) (dO hy1) ?_
  walk_at "s"
  refine aO (SqL.of TW4.t2) (dO (j:=k) (by unfold Pz;rw [Wo,Wo,ep];rfl)) ?_
  walk_at "s"
  refine uh (by omega) (dO hy2) ?_
  walk_at "s"
  rw [W0 rfl]
  walk_at "s"
  exact ⟨rfl,_,rfl⟩
 rintro U G ⟨rfl,x5,rfl⟩
 walk_at "s"
 refine ⟨hp,b,row,hs2,hs,rfl,TW4.tl,(((hT.same S1).same S2).same S3).same S4,l1,fun H5 S5=>?_⟩
 walk_at "s"
 refine htw hcut fun kp6 b1 b2 hb hs6 H6 S6 TW6 _ _ _ _ _ _ _ _ _ _=>?_
 walk_at "s"
 have TW7:=(TW4.same S5).same S6
 refine vq TW6.dr TW7.dr (ql (Ti row cut) (by decide)) ?_
 clear TW6
 have hk7:=TW7.k
 have U1:=S1.trans (S2.trans (S3.trans (S4.trans (S5.trans S6))))
 have hlen:(thr row cut).length<=24:=by omega
 walk_at "s"
 refine ⟨.inl ⟨rfl,_,SqL.of TW7.t1⟩,?_⟩
 walk_at "s"
 refine aQ TW7.t1 (by rw [e1];omega) ?_
 have k1:kp≠a1:=fun z=>by rw [z,TW7.t1] at hk7;cases hk7
 have k2:kp≠a2:=fun z=>by rw [z,TW7.t2] at hk7;cases hk7
 obtain ⟨lb,elb⟩:∃ lb,hs2[row.length]?=some lb:=⟨_,Wn (by have:=TW.n;omega)⟩
 have mlb:=WW elb
 obtain ⟨rs,hrs,hrl,_⟩:=TW7.e _ _ elb
 have hrz:rs.length<=24:=by
  have:=yV (row:=row) (i:=row.length) (Wq _)
  have:=pM (row:=row) (c:=row.length) (Wq _)
  omega
 have V8:=Same.put (o:=.lst ((En row cut).map V.int ++ [.int 99])) U1 (Same.back S1 n1)
 have hk8:=(aB k1 (H:=H6) (o:=.lst ((En row cut).map V.int ++ [.int 99]))).trans hk7
 have h28:=(aB d12.symm (H:=H6) (o:=.lst ((En row cut).map V.int ++ [.int 99]))).trans TW7.t2
 have hh8:=(aB d1h.symm (H:=H6) (o:=.lst ((En row cut).map V.int ++ [.int 99]))).trans TW7.h
 have hb8:=(aB (show lb≠a1 from fun z=>m1 (by rw [← z];exact mlb)) (H:=H6) (o:=.lst ((En row cut).map V.int ++ [.int 99]))).trans hrs
 generalize upd H6 a1 (.lst ((En row cut).map V.int ++ [.int 99]))=H8 at V8 hk8 h28 hh8 hb8 ⊢
 clear hk7 hrs
 walk_at "s"
 refine ⟨.inl ⟨rfl,_,SqL.of h28⟩,?_⟩
 walk_at "s"
 refine ⟨a2,_,rfl,rfl,h28,?_⟩
 have V9:=Same.put (o:=.lst []) V8 (Same.back S1 n2)
 have hk9:=(aB k2 (H:=H8) (o:=.lst [])).trans hk8
 have hh9:=(aB d2h.symm (H:=H8) (o:=.lst [])).trans hh8
 have hb9:=(aB (show lb≠a2 from fun z=>m2 (by rw [← z];exact mlb)) (H:=H8) (o:=.lst [])).trans hb8
 generalize upd H8 a2 (.lst [])=H9 at V9 hk9 hh9 hb9 ⊢
 clear V8 hk8 h28 hh8 hb8
 walk_at "s"
 refine aO (SqL.of hh9) (yM (n:=row.length) (v:=.ref lb) (by rw [Ws];exact TW.n) (by rw [Wo,elb];rfl)) ?_
 walk_at "s"
 refine ⟨.inl ⟨rfl,_,SqL.of hb9⟩,?_⟩
 walk_at "s"
 refine bK rfl fun p0 G1 np0 g1 hp0=>?_
 walk_at "s"
 refine bK rfl fun p1 G2 np1 g2 hp1=>?_
 walk_at "s"
 have g12:=g1.trans g2
 refine aQ (g12 _ _ hb9) (by rw [Ws];omega) ?_
 have V10:=Same.put (o:=.lst (rs.map V.ref ++ [.ref p1])) (V9.trans g12) (Same.back S1 (nhs _ mlb))
 have hk10:=(aB (show kp≠lb from fun z=>by rw [z,hb9] at hk9;cases hk9) (H:=G2) (o:=.lst (rs.map V.ref ++ [.ref p1]))).trans (g12 _ _ hk9)
 have hh10:=(aB (show hp≠lb from fun z=>mh (by rw [z];exact mlb)) (H:=G2) (o:=.lst (rs.map V.ref ++ [.ref p1]))).trans (g12 _ _ hh9)
 generalize upd G2 lb (.lst (rs.map V.ref ++ [.ref p1]))=H10 at V10 hk10 hh10 ⊢
 clear V9 hk9 hh9 hb9
 walk_at "s"
 refine ⟨.inl ⟨rfl,_,SqL.of hh10⟩,?_⟩
 walk_at "s"
 refine bK rfl fun p2 G3 np2 g3 hp2=>?_
 walk_at "s"
 refine aQ (g3 _ _ hh10) (by rw [Ws,TW.n];omega) ?_
 walk_at "s"
 exact q _ (Same.put (V10.trans g3) (Same.back S1 nh))
def Tp (K:W.Frag) (mg:Str->Option Value):Sp:=fun vs H Q E=>∃ v:V,vs=[v]/\PT K H v/\yW v=false/\Wh mg "NoPlain" H E v
theorem Oz (T:Txt K mg):Vs P w K mg base 20 ["twice","twice_lengths"] ["row"] (fun _=>Tp K mg):=fun x hx=>by
 simp only [WD,Xb,or_false] at hx
 rcases hx with rfl | rfl
 ·refine (rQ T).weak (by decide) fun vs H Q E h=>?_
  obtain ⟨v,rfl,tv,hp,qE⟩:=h
  exact ⟨v,rfl,tv,fun _=>qE,fun row e hr=>by rw [e,hr.pl] at hp;cases hp⟩
 ·refine (dw T).weak (by decide) fun vs H Q E h=>?_
  obtain ⟨v,rfl,tv,hp,qE⟩:=h
  exact ⟨v,rfl,tv,fun _=>qE,fun row e hr=>by rw [e,hr.pl] at hp;cases hp⟩
structure W3 (K:W.Frag) (H:Hp) (v:V):Prop where
 t:PT K H v
 s:∃ d,DR H d v/\PySem.SeqAt.shaped d=true
theorem W3.same {H H':Hp} {v:V} (h:W3 K H v) (s:Same H H'):W3 K H' v:=⟨h.t.same s,let ⟨d,a,b⟩:=h.s;⟨d,DR.same s _ _ a,b⟩⟩
theorem W3.of {H:Hp} {v:V} {d:PyData} (h:Thing K H v) (hb:yW v=false) (hd:DR H d v) (sd:PySem.SeqAt.shaped d=true):W3 K H v:=⟨⟨h,fun e=>by rw [hb] at e;cases e⟩,d,hd,sd⟩
def Tq (K:W.Frag) (mg:Str->Option Value):Sp:=fun vs H Q _=>∃ (x:Str) (v:V),vs=[.ref (aP mg x),v]/\x∈(["twice","twice_lengths"]:List Str)/\W3 K H v/\yW v=false/\∀ H',Same H H'->Q (.bl true) H'
theorem o5:aF ["_law_deed","_law_wrong","e"] ["_law_deed","_law_wrong"] (az ji):=⟨rfl,rfl,rfl,by trivial,rfl,by trivial,by trivial⟩
theorem jk (T:Txt K mg):jN P w K mg base 61 "_law_refused" ["_law_deed","_law_wrong"] (Tq K mg):=by
 refine dZ T.d_law_refused o5 (fun _ _ _ _ _ _ us hl=>L2.kW (fun _ _=>rfl) us hl) ?_ fun f cdv A outer s H vs Q E hr h=>?_
 ·rintro vs H Q E ⟨x,v,rfl,_⟩;rfl
 obtain ⟨x,v,rfl,hm,hW,hb,q⟩:=h
 have hu:=hr.units0
 have hu64:=hr.units
 refine ⟨_,(au (RK rfl rfl (fun pins R=>(aA (aL (JC (mg:=mg) rfl (aq 0) (Oz (P:=P) (w:=w) (base:=base) T) (hr.mono (by decide)) Ja (aa (aq 1) ao))))) (Vk (K:=K) (i:=2) rfl T.x_NoPlain.c aN (by trivial) o5.nd rfl kz00 (fun x=>(aA (aK (vm (Dq (lG (K:=K) rfl hu64) (RG (K:=K) rfl (aq 2)) (aq 1) (by walk_at "p")) (vm (aD (sH (K:=K) rfl) aN T.b_isinstance aM (aa (aq 2) (aa (nU aN T.b_ValueError wI (by trivial) (by trivial)) ao)) (by trivial) (by trivial)) (zG (O6 (aD (sH (K:=K) rfl) aN T.b_isinstance aM (aa (aq 2) (aa (Jc aN T.x_NoRow.c.at_ (by trivial)) ao)) (by trivial) (by trivial))))))))) (Vl (K:=K) rfl T.x_PaneError aN (by trivial) (fun x=>(aA (aK iw))) RJ))) (aA (aK iw))),?_⟩
 walk_at "s"
 refine ⟨x,hm,rfl,?_⟩
 walk_at "s"
 refine ⟨v,rfl,hW.t,hb,?_⟩
 intro e H2 S2 X2
 refine ⟨_,e,rfl,rfl,?_⟩
 refine Vm T.x_NoPlain.c.cl.cls T.u_NoPlain_NoPlain.mro ?_
 walk_at "s"
 refine ⟨e,_,_,_,rfl,X2,T.x_NoPlain.c.cl.cls,T.x_NoPlain.na _ (by simp),rfl,?_⟩
 walk_at "s"
 obtain ⟨d,hd,sd⟩:=hW.s
 refine .inl (.inl (Ig (DR.same S2 _ _ hd) (DR.same S2 _ _ hd) sd ?_))
 walk_at "s"
 refine Jf X2 T.x_NoPlain.c.cl rfl T.v_NoPlain ?_
 walk_at "s"
 refine Jf X2 T.x_NoPlain.c.cl rfl T.u_NoPlain_NoRow.one ?_
 walk_at "s"
 exact q _ S2
theorem KH:(["_law_cut","_law_other"]:List Str).Nodup:=by trivial
theorem KJ:(["_law_cut","_law_row_here"]:List Str).Nodup:=by trivial
theorem Av (z:Str):(wg z none none (-1)).cps.toList=z.cps.toList.reverse:=by
 have e:∀ n:Nat,Builtin.Str.strSliceIndices none none (-1) n=(List.range n).map fun k=>n - 1 - k:=fun n=>by
  show sliceRange ((n:Int) - 1) (-1) (-1)=_
  unfold sliceRange
  rw [if_neg (by decide)]
  have ec:(if (n:Int) - 1 > -1 then ((n:Int) - 1 - -1 - -1 - 1) / (- -1) else 0).toNat=n:=by
   by_cases h:(n:Int) - 1 > -1
   ·rw [if_pos h]
    have:((n:Int) - 1 - -1 - -1 - 1) / (- -1)=n:=by
     rw [show (- -1:Int)=1 from rfl,Int.ediv_one];omega
    rw [this];simp
   ·rw [if_neg h]
    show 0=n
    omega
  show List.map _ (List.range (if (n:Int) - 1 > -1 then ((n:Int) - 1 - -1 - -1 - 1) / (- -1) else 0).toNat)=_
  rw [ec]
  refine YG fun k hk=>?_
  have:=Xe.mp hk
  omega
 unfold wg
 rw [e,List.filterMap_map]
 show List.filterMap _ _=_
 refine Zd fun i=>?_
 have f:((List.range z.length).filterMap ((fun x=>z.cps[x]?) ∘ fun k=>z.length - 1 - k))=(List.range z.length).map fun k=>z.cps.toList.getD (z.length - 1 - k) 0:=by
  rw [← List.filterMap_eq_map]
  have gen:∀ (l:List Nat) (f g:Nat->Option Nat),(∀ k∈l,f k=g k)->l.filterMap f=l.filterMap g:=fun l f g h=>by
   induction l with
   | nil=>rfl
   | cons a l ih=>rw [YF,YF,h a (by simp),ih fun k hk=>h k (by simp [hk])]
  refine gen _ _ _ fun k hk=>?_
  have hk:k < z.cps.size:=Xe.mp hk
  have hk2:z.length=z.cps.size:=rfl
  show z.cps[z.length - 1 - k]?=some (z.cps.toList.getD (z.length - 1 - k) 0)
  rw [Wu,hk2,Array.getElem?_toList,Yc (by omega)];rfl
 rw [f]
 have hl:z.cps.toList.length=z.length:=by simp [Str.length]
 by_cases hi:i < z.length
 ·rw [Wo,Xd hi,List.getElem?_reverse (by omega),hl]
  show some (z.cps.toList.getD (z.length - 1 - i) 0)=_
  rw [Wu,Wn (by omega)];rfl
 ·rw [XN (by simp;omega),XN (by rw [YH,hl];omega)]
def Eo (z:Str):Str:=wg z none none (-1)
theorem Ep (z:Str):(Eo z).length=z.length:=by
 have:=congrArg List.length (Av z)
 rw [YH] at this
 simpa [Eo,Str.length] using this
theorem OD {z:Str} (h:Pln z):Pln (Eo z):=⟨by rw [Ep];exact h.1,fun c hc=>h.2 c (by unfold Eo at hc;rw [Av] at hc;exact List.mem_reverse.mp hc)⟩
theorem Tr {x:Str} {n:Nat} (h:x.length<=100) (hn:n<=100):MulOk x (n:Int):=by
 have h1:x.length*n<=100*100:=Y6 h hn
 refine ⟨?_,fun a b=>?_,fun a b=>?_⟩
 ·simp;omega
 ·have:((x.length:Int))<=(2 ^ 63 - 1) / (n:Int):=by
   rw [Int.le_ediv_iff_mul_le (by omega)]
   have:((x.length*n:Nat):Int)<=10000:=by omega
   push_cast at this
   omega
  omega
 ·have e:Int.toNat (n:Int)=n:=by omega
  rw [e]
  have hs2:sizeLine=16777216:=sizeLine_eq
  unfold Builtin.Str.tooLong
  rw [hs2]
  simp
  omega
theorem Tt (z:Str) (k:Nat):(Txt.slice z none (some (k:Int))).length=min k z.length:=by
 have h:=congrArg List.length (vB z k)
 rw [Yk] at h
 have e1:(Txt.slice z none (some (k:Int))).cps.toList.length=(Txt.slice z none (some (k:Int))).length:=Xp
 have e2:z.cps.toList.length=z.length:=Xp
 rw [e1,e2] at h;exact h
theorem Tu {z:Str} {k:Nat} {c:Nat} (h:c∈(Txt.slice z none (some (k:Int))).cps.toList):c∈z.cps.toList:=by
 rw [vB] at h;exact List.mem_of_mem_take h
theorem Pln.app {a b:Str} (ha:Pln a) (hb:Pln b) (h:a.length+b.length<=24):Pln (a ++ b):=⟨by have:=Ks a b;omega,fun c hc=>by
 rw [cps_append] at hc
 rcases Xi.mp hc with h | h
 ·exact ha.2 c h
 ·exact hb.2 c h⟩
def PJ (K:W.Frag):Sp:=fun vs H Q _=>∃ (a:Addr) (ns:List Int),vs=[.ref a]/\SqL K H a (ns.map V.int)/\∀ H',Q (.bl true) H'
theorem o6:aF ["_law_script","_law_cell","_law_row_here","_law_due","_law_wrong","_law_other","_law_there"] ["_law_script"] (az vK):=⟨rfl,rfl,rfl,by trivial,rfl,by trivial,by trivial⟩
theorem Tv (T:Txt K mg) {f0:Addr} {fd0:FuncData} (F0:Fun K "law" "law" vK f0 fd0):FnOk P w K mg base Fl 62 f0 fd0 ["_law_script"] (PJ K):=by
 have lW:=lW (P:=P) (w:=w) (base:=base) T
 have tW:=tW (P:=P) (w:=w) (base:=base) T
 have tX:=tX (P:=P) (w:=w) (base:=base) T
 have qP:=qP (P:=P) (w:=w) (base:=base) T
 have iI:=iI (P:=P) (w:=w) (base:=base) T
 have gK:=gK (P:=P) (w:=w) (base:=base) T
 have jd:=jd (P:=P) (w:=w) (base:=base) T
 have jk:=jk (P:=P) (w:=w) (base:=base) T
 refine okJ F0 o6 ?_ fun f cdv A outer s H vs Q E hr h=>?_
 ·rintro vs H Q E ⟨a,ns,rfl,_⟩;rfl
 obtain ⟨a,ns,rfl,hS,q⟩:=h
 have hu:=hr.units0
 have hu64:=hr.units
 refine ⟨_,(au (aJ (i:=1) o6.nd rfl bT (aH lW (hr.mono (by decide)) aN (aa (aq 0) (aa aC ao)) (by trivial)) rfl) (au (aJ (i:=2) o6.nd rfl T3 (aH tW (hr.mono (by decide)) aN (aa (aZ iu (aq 1) aC) (aa aC ao)) (by trivial)) rfl) (au (bM (bu (lG (K:=K) rfl hu64) (aZ gB (aq 1) aC) aC (by walk_at "p")) (aA (aJ (i:=2) o6.nd rfl T3 (aZ aV (lq (lu (K:=K) rfl) (jM 2) mQ (gM aC)) (aH tX (hr.mono (by decide)) aN (aa (aH qP (hr.mono (by decide)) aN (aa (lq (lu (K:=K) rfl) (jM 2) mQ (gM aC)) (aa (lq (lu (K:=K) rfl) (aq 0) (gM aC) (gM aC)) (aa aC ao))) (by trivial)) ao) (by trivial))) rfl)) bx) (au (o8 (i:=3) o6.nd rfl bT (sub:=[none,some 2]) (bI (N:=["_law_script","_law_cell","_law_row_here","_law_due","_law_wrong","_law_other","_law_there"]) (sc:=az vK) (N':=["_law_cut","_law_row_here"]) (by trivial)) rfl rfl rfl (dI aN T.b_range (aa (aZ aV (aD (aG (K:=K) rfl) aN T.b_len bc (aa (jM 2) ao) (by trivial) (by trivial)) aC) ao)) (fun C s₀ H₀ ex=>(kY 0 (by trivial) KJ)) (fun C s₀ H₀ ex=>dq) (fun C s₀ H₀ ex=>(aH iI (hr.mono (by decide)) (Fx (by trivial)) (aa (nO 1 (by trivial)) (aa (fZ 0 (by trivial)) ao)) (by trivial))) rfl) (au (bM (gF (vh (bu (lG (K:=K) rfl hu64) (aZ gB (aZ iu (aq 1) aC) aC) aC (by walk_at "p")) (rB (bV (bO (aH gK (hr.mono (by decide)) aN (aa (jM 2) (aa (aq 3) ao)) (by trivial))))))) (aA (aK iw)) bx) (au (bM (gF (iy (bV (bO (aH jd (hr.mono (by decide)) aN (aa (jM 2) (aa (aq 3) ao)) (by trivial)))) (iy (bV (bO (aH gK (hr.mono (by decide)) aN (aa (jM 2) (aa (aq 3) ao)) (by trivial)))) (gC (bV (bO (aH jd (hr.mono (by decide)) aN (aa (jM 2) (aa (aq 3) ao)) (by trivial)))))))) (aA (aK iw)) bx) (au (du Xa rfl (d8 (K:=K) rfl (dU (aa U6 (aa aC (aa iw (aa ig (aa ig (aa ig (aa (aZ jO ig aC) (aa (dU (aa ig ao)) (aa (gw (aa ig (aa ig ao))) (aa ig ao)))))))))))) (aY (i:=4) o6.nd rfl bT rfl) (aA (bM (gF (iy (bV (bO (aH jk (hr.mono (by decide)) aN (aa (Jc aN T.d_twice.at_ (by trivial)) (aa (aq 4) ao)) (by trivial)))) (gC (bV (bO (aH jk (hr.mono (by decide)) aN (aa (Jc aN T.d_twice_lengths.at_ (by trivial)) (aa (aq 4) ao)) (by trivial))))))) (aA (aK iw)) bx))) (au (aJ (i:=5) o6.nd rfl T3 (Jg (jM 2) mQ mQ (gM (Bw qd aC))) rfl) (au (o8 (i:=6) o6.nd rfl bT (sub:=[none,some 5]) (bI (N:=["_law_script","_law_cell","_law_row_here","_law_due","_law_wrong","_law_other","_law_there"]) (sc:=az vK) (N':=["_law_cut","_law_other"]) (by trivial)) rfl rfl rfl (dI aN T.b_range (aa (aZ aV (aD (aG (K:=K) rfl) aN T.b_len bc (aa (jM 5) ao) (by trivial) (by trivial)) aC) ao)) (fun C s₀ H₀ ex=>(kY 0 (by trivial) KH)) (fun C s₀ H₀ ex=>dq) (fun C s₀ H₀ ex=>(aH iI (hr.mono (by decide)) (Fx (by trivial)) (aa (nO 1 (by trivial)) (aa (fZ 0 (by trivial)) ao)) (by trivial))) rfl) (aA (aK (vm (aH jd (hr.mono (by decide)) aN (aa (jM 5) (aa (aq 6) ao)) (by trivial)) (vm (aH gK (hr.mono (by decide)) aN (aa (jM 2) (aa (aq 3) ao)) (by trivial)) (zG (aH jd (hr.mono (by decide)) aN (aa ig (aa (dU (aa (dU ao) ao)) ao)) (by trivial)))))))))))))))),?_⟩
 walk_at "s"
 have hz:20000<=sizeLine:=by decide
 refine ⟨a,ns,0,rfl,hS,by omega,fun c0=>?_⟩
 walk_at "s"
 refine ⟨c0 / 4,rfl,fun row0 H1 S1 hr0=>?_⟩
 walk_at "n"
 have hS1:=S1.seq hS
 have a0:row0.length<=24:=hr0.1
 with_reducible refine DG (fun U H2=>Same H1 H2/\∃ row,Pln row/\U=[some (.ref a),some (.int c0),some (.str row),none,none,none,none]) ?_ ?_
 rotate_left
 ·intro N hN
  walk_at "n"
  refine iJ (fun h=>?_) (fun h=>?_)
  ·have lt1:=Tt row0 12
   have p12:Pln (Txt.slice row0 none (some ((12:Nat):Int))):=⟨by omega,fun c hc=>hr0.2 c (Tu hc)⟩
   obtain ⟨ms,em,hm⟩:∃ ms:List Int,xU (ns.map V.int) (some 1) (some 63)=ms.map V.int/\ms.length<=63:=by
    refine ⟨(ns.drop (HT.sIx ns.length 0 (some 1))).take (HT.sIx ns.length ns.length (some 63) - HT.sIx ns.length 0 (some 1)),by unfold xU;rw [Ws,List.map_take,List.map_drop],?_⟩
    rw [Yk,show (some (63:Int))=some (((63:Nat)):Int) from rfl,HT.sIx_nat]
    omega
   walk_at "n"
   refine qu (by omega) ?_
   walk_at "n"
   refine qu (by omega) ?_
   walk_at "n"
   refine .inl (U5 hS1 fun sl nsl=>?_)
   walk_at "n"
   rw [em]
   have sx:=(Same.refl H1).upd nsl (o:=.lst (ms.map V.int))
   have hsl:=aj (H:=H1) (a:=sl) (o:=.lst (ms.map V.int))
   generalize upd H1 sl (.lst (ms.map V.int))=H2 at sx hsl ⊢
   walk_at "n"
   refine ⟨Txt.slice row0 none (some ((12:Nat):Int)),sl,ms,rfl,p12,by omega,hsl,hm,fun q1 us bs H3 S3 hq hL hu1 hb=>?_⟩
   walk_at "n"
   refine ⟨q1,us,bs,rfl,hq,hL,hu1,hb,fun z H4 S4 hz' hzl=>?_⟩
   walk_at "n"
   refine Bt (by show (Txt.slice row0 none (some ((12:Nat):Int))).length+z.length<=sizeLine;omega) ?_
   walk_at "n"
   exact hN _ _ ⟨sx.trans (S3.trans S4),_,p12.app hz' (by omega),rfl⟩
  ·walk_at "n"
   exact hN _ _ ⟨Same.refl _,row0,hr0,rfl⟩
 rintro U H2 ⟨_,row,hr',rfl⟩
 clear hS hS1 S1 a0 hr0
 have l1:row.length<=24:=hr'.1
 walk_at "s"
 refine cR (by omega) ?_
 walk_at "s"
 refine ⟨_,rfl,by omega,by omega,?_⟩
 rw [show ((row.length:Int)+1).toNat=row.length+1 by omega]
 refine pG (n:=row.length+1) (fun i ys G=>Same H2 G/\∃ hs:List Addr,ys=hs.map V.ref/\hs.length=i/\∀ (k:Nat) (b:Addr),hs[k]?=some b->HL G b (hps row k)) (by omega) ⟨Same.refl _,[],rfl,rfl,fun k b e=>by simp at e⟩ ?_ ?_ ?_
 ·rintro i ys G ⟨_,hs,rfl,rfl,_⟩
  simp
 ·rintro i ys G hi ⟨s,hs,rfl,hl,hh⟩
  walk_at "s"
  refine ⟨KeepSt.set rfl,?_⟩
  walk_at "s"
  rw [show (0:Int)+(i:Int)=(i:Int) by omega]
  refine ⟨row,i,rfl,l1,by omega,fun t G2 nt s2 ht=>?_⟩
  walk_at "s"
  refine ⟨s.trans s2,hs ++ [t],by simp,by simp [hl],fun k b e=>?_⟩
  by_cases ek:k < hs.length
  ·rw [WM ek] at e
   exact (hh k b e).same s2
  ·have ek':k=i:=by
    have:=(Wm.mp e).1
    simp at this;omega
   subst ek'
   rw [WN (by omega),hl,X6] at e
   cases e
   exact ht
 rintro ys G D H3 ⟨_,hs,rfl,hl,hh⟩ nD S3 hD
 try walk_at "n"
 have hT:TL H3 D row hs:=⟨hD,hl,fun i b e=>(hh i b e).same S3⟩
 clear hh hD S3 nD
 with_reducible refine DG (fun U H4=>Same H3 H4/\U=[some (.ref a),some (.int c0),some (.str row),some (.ref D),none,none,none]) ?_ ?_
 rotate_left
 ·intro N hN
  walk_at "n"
  refine iJ (fun h=>?_) (fun h=>?_)
  ·walk_at "n"
   refine ⟨row,D,hs,rfl,hr',hT,fun H4 S4=>?_⟩
   walk_at "n"
   exact hN _ _ ⟨S4,rfl⟩
  ·walk_at "n"
   exact hN _ _ ⟨Same.refl _,rfl⟩
 rintro U H4 ⟨S4,rfl⟩
 have hT4:=hT.same S4
 walk_at "s"
 refine ⟨row,D,hs,rfl,hr',hT4,fun H5 S5=>?_⟩
 walk_at "s"
 refine ⟨row,D,hs,rfl,hr',hT4.same S5,fun H6 S6=>?_⟩
 walk_at "s"
 refine ⟨row,D,hs,rfl,hr',(hT4.same S5).same S6,fun H7 S7=>?_⟩
 walk_at "s"
 have hT7:=((hT4.same S5).same S6).same S7
 clear hT hT4 S4 S5 S6 S7
 refine Ro (Tr (n:=25) (by trivial) (by decide)) ?_
 walk_at "s"
 refine bK rfl fun la L1 _ s1 hla=>?_
 walk_at "s"
 refine bK rfl fun ta L2 _ s2 hta=>?_
 walk_at "s"
 refine bK rfl fun w2 L3 _ s3 hw2=>?_
 walk_at "s"
 have hW:∀ v∈([.non,.int 7,.bl true,.str (Str.ofString "A"),.str (Str.ofString "a.b"),.str (Str.ofString "."),.str (Txt.mul (Str.ofString "a") 25),.ref la,.ref ta,.str (Str.ofString "a a")]:List V),W3 K L3 v/\yW v=false:=fun v hv=>by
  simp only [WD,Xb,or_false] at hv
  rcases hv with rfl | rfl | rfl | rfl | rfl | rfl | rfl | rfl | rfl | rfl
  ·exact ⟨.of (d:=.none) (.inr ⟨_,.non,by rfl⟩) rfl (by rw [DR]) (by rfl),rfl⟩
  ·exact ⟨.of (d:=.int 7) (.inr ⟨_,.int _,by rfl⟩) rfl (by rw [DR]) (by rfl),rfl⟩
  ·exact ⟨.of (d:=.bool true) (.inr ⟨_,.bl _,by rfl⟩) rfl (by rw [DR]) (by rfl),rfl⟩
  ·exact ⟨.of (d:=.str (Str.ofString "A")) (.inl ⟨_,rfl,by trivial⟩) (by trivial) (by rw [DR]) (by trivial),by trivial⟩
  ·exact ⟨.of (d:=.str (Str.ofString "a.b")) (.inl ⟨_,rfl,by trivial⟩) (by trivial) (by rw [DR]) (by trivial),by trivial⟩
  ·exact ⟨.of (d:=.str (Str.ofString ".")) (.inl ⟨_,rfl,by trivial⟩) (by trivial) (by rw [DR]) (by trivial),by trivial⟩
  ·exact ⟨.of (d:=.str (Txt.mul (Str.ofString "a") 25)) (.inl ⟨_,rfl,by trivial⟩) (by trivial) (by rw [DR]) (by trivial),by trivial⟩
  ·exact ⟨.of (d:=.list [.str (Str.ofString "a")]) (.inr ⟨_,.lst (s3 _ _ (s2 _ _ hla)),by rfl⟩) rfl (by rw [DR];exact ⟨la,_,rfl,s3 _ _ (s2 _ _ hla),by rw [DRs];exact ⟨_,_,rfl,by rw [DR],by rw [DRs]⟩⟩) (by trivial),rfl⟩
  ·exact ⟨.of (d:=.tuple [.str (Str.ofString "a"),.str (Str.ofString "a")]) (.inr ⟨_,.tup (s3 _ _ hta),by rfl⟩) rfl (by rw [DR];exact ⟨ta,_,rfl,s3 _ _ hta,by rw [DRs];exact ⟨_,_,rfl,by rw [DR],by rw [DRs];exact ⟨_,_,rfl,by rw [DR],by rw [DRs]⟩⟩⟩) (by trivial),rfl⟩
  ·exact ⟨.of (d:=.str (Str.ofString "a a")) (.inl ⟨_,rfl,by trivial⟩) (by trivial) (by rw [DR]) (by trivial),by trivial⟩
 have hT8:=hT7.same (s1.trans (s2.trans s3))
 clear s1 s2 s3 hla hta hT7
 refine .inl ⟨w2,rfl,⟨_,SqL.of hw2⟩,?_⟩
 refine jZ (xs:=[.non,.int 7,.bl true,.str (Str.ofString "A"),.str (Str.ofString "a.b"),.str (Str.ofString "."),.str (Txt.mul (Str.ofString "a") 25),.ref la,.ref ta,.str (Str.ofString "a a")]) (fun k U G=>Same L3 G/\∃ x4,U=[some (.ref a),some (.int c0),some (.str row),some (.ref D),x4,none,none])
  ⟨Same.refl L3,_,rfl⟩ (fun i U G _ h=>SqL.of (h.1 _ _ hw2)) ?_ ?_
 ·rintro k v U G hv ⟨s,x4,rfl⟩
  obtain ⟨hw,hno⟩:=hW v (WW hv)
  replace hw:=hw.same s
  walk_at "s"
  refine ⟨"twice",v,rfl,by simp,hw,hno,fun G1 s1=>?_⟩
  walk_at "s"
  refine ⟨"twice_lengths",v,rfl,by simp,hw.same s1,hno,fun G2 s2=>?_⟩
  walk_at "s"
  exact ⟨s.trans (s1.trans s2),_,rfl⟩
 rintro U L4 ⟨s,x4,rfl⟩
 have hT9:=hT8.same s
 clear hW hw2 hT8 s
 have lv:(Eo row).length=row.length:=Ep row
 have hv:=OD hr'
 walk_at "s"
 refine ⟨row,-1,rfl,rfl,by decide,by decide,by show (Eo row).length<=_;omega,?_⟩
 walk_at "s"
 rw [show wg row none none (-1)=Eo row from rfl]
 refine cR (by omega) ?_
 walk_at "s"
 refine ⟨_,rfl,by omega,by omega,?_⟩
 rw [show (((Eo row).length:Int)+1).toNat=(Eo row).length+1 by omega]
 refine pG (n:=(Eo row).length+1) (fun i ys G=>Same L4 G/\∃ hs:List Addr,ys=hs.map V.ref/\hs.length=i/\∀ (k:Nat) (b:Addr),hs[k]?=some b->HL G b (hps (Eo row) k)) (by omega) ⟨Same.refl _,[],rfl,rfl,fun k b e=>by simp at e⟩ ?_ ?_ ?_
 ·rintro i ys G ⟨_,hs,rfl,rfl,_⟩
  simp
 ·rintro i ys G hi ⟨s,hs,rfl,hl,hh⟩
  walk_at "s"
  refine ⟨KeepSt.set rfl,?_⟩
  walk_at "s"
  rw [show (0:Int)+(i:Int)=(i:Int) by omega]
  refine ⟨Eo row,i,rfl,by omega,by omega,fun t G2 nt s2 ht=>?_⟩
  walk_at "s"
  refine ⟨s.trans s2,hs ++ [t],by simp,by simp [hl],fun k b e=>?_⟩
  by_cases ek:k < hs.length
  ·rw [WM ek] at e
   exact (hh k b e).same s2
  ·have ek':k=i:=by
    have:=(Wm.mp e).1
    simp at this;omega
   subst ek'
   rw [WN (by omega),hl,X6] at e
   cases e
   exact ht
 rintro ys G E2 L5 ⟨sG,hs2,rfl,hl2,hh2⟩ nD S5 hD
 try walk_at "s"
 have hU:TL L5 E2 (Eo row) hs2:=⟨hD,hl2,fun i b e=>(hh2 i b e).same S5⟩
 have hT5:=(hT9.same sG).same S5
 refine ⟨Eo row,E2,hs2,rfl,hv,hU,fun L6 S6=>?_⟩
 walk_at "s"
 refine ⟨row,D,hs,rfl,hr',hT5.same S6,fun L7 S7=>?_⟩
 walk_at "s"
 refine bK rfl fun i0 L8 _ s8 hi0=>?_
 walk_at "s"
 refine bK rfl fun o0 L9 _ s9 ho0=>?_
 walk_at "s"
 have h0:hps (Str.ofString "") 0=[]:=by trivial
 refine ⟨Str.ofString "",o0,[i0],rfl,Pln.nil,⟨ho0,(by trivial:1=(Str.ofString "").length+1),fun i b e=>?_⟩,fun L10 _=>q _⟩
 obtain rfl:i=0:=by have:=(Wm.mp e).1;simp at this;omega
 cases e
 rw [h0]
 exact ⟨[],s9 _ _ hi0,rfl,fun i r ps e=>by simp at e⟩
end
end My
namespace PySem.W.Fast
def tw2002958056138821243:=0
def tw8554048736679271184:=0
def tw2934000202497158872:=0
def tw17937315161506083681:=0
def tw9768947503834300135:=0
def tw707524843028912947:=0
def tw12933749209813877367:=0
def tw15373467529277471989:=0
def tw4602717699020902700:=0
def tw2264743646007286756:=0
def tw2658174616843230377:=0
def tw248703253836488446:=0
def tw8720870655949254416:=0
def tw1163114467968715055:=0
def tw4851655290422751149:=0
def tw16433083229255906640:=0
def tw8539970557807489683:=0
def tw12336070432688443417:=0
def tw1409943223427564256:=0
def tw5383262696289830831:=0
def tw2515980181964766966:=0
def tw13268534063755503397:=0
def tw4747666996021821248:=0
def tw1517882163206579564:=0
def tw6312974835526068057:=0
def tw15608265060179292768:=0
def tw663075843652913842:=0
def tw14413947773885898109:=0
def tw17105464677833789441:=0
def tw16709554770897811568:=0
def tw4134381237621367342:=0
def tw1381114088159395001:=0
def tw11269286749650956914:=0
def tw4174303185474823685:=0
def tw14433732349748329906:=0
def tw11376102671933833796:=0
def tw4749324368146644622:=0
def tw800850484730304172:=0
def tw3459373657830510827:=0
def tw15464759341402040094:=0
def tw678092265879304101:=0
def tw6879017075819481529:=0
def tw17672968084884108601:=0
def tw15451377163503941920:=0
def tw8071772776906733814:=0
def tw16493145128169635743:=0
def tw1727810525274834236:=0
def tw8290547833855865866:=0
def tw13690242327195616068:=0
def tw9468357254152818346:=0
def tw12788942437492719509:=0
def tw14758518555648446098:=0
def tw12758764108787833879:=0
def tw1466666919435432507:=0
def tw12561008041782693531:=0
def tw12965132590871696842:=0
def tw1405973986338100409:=0
def tw9871086433542850045:=0
def tw3006282268305255980:=0
def tw4797631378109033296:=0
def tw3269388437979884097:=0
def tw7132282185274729071:=0
def tw13215143069173951298:=0
def tw12093423539728393893:=0
def tw3723697017349936133:=0
def tw13984755029342844649:=0
def tw3310305209402511929:=0
def tw8035531300749308861:=0
def tw8903065841847364177:=0
def tw9497387672881859835:=0
def tw3069681818812678796:=0
def tw1271059840643339045:=0
def tw15969584542318454782:=0
def tw4281108872450349552:=0
def tw4031334663581723253:=0
def tw8320248192340584620:=0
def tw5793747796198083847:=0
def tw3373787707930971935:=0
def tw1419420348980631013:=0
def tw2042219675199960459:=0
def tw7164453747508377726:=0
def tw4617268706559617566:=0
def tw11659074512701486073:=0
def tw17091677042626503044:=0
def tw16664178527438660864:=0
def tw10088666038870773986:=0
def tw2405090438833965153:=0
def tw1211233187807853418:=0
def tw11908014491336430814:=0
def tw12751804880814198447:=0
def tw7811995236919538478:=0
def tw13539453634671356893:=0
def tw10476276628064567143:=0
def tw1669375965852558777:=0
def tw2878348399034984394:=0
def tw6711089852201976552:=0
def tw3939102554222786805:=0
def tw9147575628245017710:=0
def tw1719419741960988567:=0
def tw1172679831187580466:=0
def tw5465514052638149454:=0
def tw6154742390936585941:=0
def tw6244226141915823608:=0
def tw18330166027679225158:=0
def tw9539806574805162450:=0
def tw10674544453948844705:=0
def tw2626664978545233010:=0
def tw17258128819292178282:=0
def tw1607317102180521263:=0
def tw7463475996837520177:=0
def tw15181858623196749336:=0
def tw13741001469477330400:=0
def tw8923577322506606100:=0
def tw10230285350841318122:=0
def tw8601546514310210083:=0
def tw8357042310448877702:=0
def tw1398042580018451910:=0
def tw7908165494043938076:=0
def tw5804773337451437459:=0
def tw6178327075125240749:=0
def tw2687781315147606496:=0
def tw12867182610215596274:=0
def tw12470453668214406340:=0
def tw9799198120316028702:=0
def tw16865017952805216801:=0
def tw4791196153536590162:=0
def tw2347452743837517087:=0
def tw3639569521490017665:=0
def tw15778759516352392613:=0
def tw4710787900230948257:=0
def tw2915736965056681733:=0
def tw14661192440458522167:=0
def tw16373180217162297437:=0
def tw15104082447781698019:=0
def tw17463304899928721571:=0
def tw12047868247908742145:=0
def tw2109734068670806511:=0
def tw14204610974566242943:=0
def tw1666268145369798292:=0
def tw7884974696710585446:=0
def tw5998190862960728809:=0
def tw1258194533351062951:=0
def tw8323783321877364524:=0
def tw10555759503163622660:=0
def tw3736199951769572641:=0
def tw10486771476586972610:=0
def tw8066249885335823296:=0
def tw8160305030821707105:=0
def tw7002862962509742179:=0
def tw11142293540363572411:=0
def tw14543612712454183429:=0
def tw237054014189194279:=0
def tw17122776077140164184:=0
def tw9103213822937259985:=0
def tw51576744931787844:=0
def tw10150149671010452:=0
def tw16810467483209010487:=0
def tw12732953340093509354:=0
def tw9921386151393456364:=0
def tw10726111504732521999:=0
def tw16409494853682468486:=0
def tw9371698514765662851:=0
def tw3047874733098664058:=0
def tw4756694558637843366:=0
def tw17477247341900137364:=0
def tw14818587621379255806:=0
def tw15044986726916768463:=0
def tw18092195538971801516:=0
def tw6257076326672548441:=0
def tw12101077522541669381:=0
def tw17719985637452426153:=0
def tw17343235966545162720:=0
def tw16115852153779156517:=0
def tw6044411915530178027:=0
def tw15821087976781481025:=0
def tw2189479678779796334:=0
def tw15647953455436160978:=0
def tw13653628148429897130:=0
def tw12609182749698059022:=0
def tw9322576146895768799:=0
def tw13770752309617638825:=0
def tw502492262971426957:=0
def tw6233441868654798978:=0
def tw17889302836051067202:=0
def tw12620708756585708554:=0
def tw5179022086633536214:=0
def tw14205787896222394099:=0
def tw2362989776391952227:=0
def tw6260896062778951043:=0
def tw17117150511752907052:=0
def tw7167949958442678148:=0
def tw12776694770415364531:=0
def tw3607123045945062375:=0
def tw15035315224054714798:=0
def tw2135908366668440361:=0
def tw11023718592655791908:=0
def tw2804065416086895323:=0
def tw13045413012452495594:=0
def tw2601795416068605303:=0
def tw2536090410338787387:=0
def tw17062597935911657150:=0
def tw13765286410109449877:=0
def tw18261010746257821912:=0
def tw9382197833777529690:=0
def tw14065925470473806496:=0
def tw16693031119608888203:=0
def tw135366061454951492:=0
def tw4361563138334378074:=0
def tw16034344873998845691:=0
def tw613035357170211505:=0
def tw17928926593424930395:=0
def tw8340905703843960094:=0
def tw12958842318276862321:=0
def tw18205967962413009128:=0
def tw5866052806431797558:=0
def tw11254129234426126308:=0
def tw10899745838939376307:=0
def tw4977840683398033978:=0
def tw13806780797851083434:=0
def tw8829328902535496477:=0
def tw18347415698862713383:=0
def tw2598219687149529569:=0
def tw11112104471693128570:=0
def tw7491585910827787479:=0
def tw2369387362571042985:=0
def tw13379633745413856708:=0
def tw12077087875079459404:=0
def tw4911601946975752888:=0
def tw12972977947219654901:=0
def tw1501979285871091469:=0
def tw10761430263221821409:=0
def tw10052595733586095097:=0
def tw13288310157555972261:=0
def tw8714549315868408661:=0
def tw14436245174065602129:=0
def tw13298618885844875861:=0
def tw1095608091623743594:=0
def tw7135307359135387442:=0
def tw5236502454711765497:=0
def tw13790255716368701411:=0
def tw15854943394938590777:=0
def tw14185045002715758717:=0
def tw12115155847862689880:=0
def tw8487998209564711598:=0
def tw3724188759152793568:=0
def tw18419972055240420376:=0
def tw11445996365676546102:=0
def tw10336015078225264211:=0
def tw11150210049922574094:=0
def tw4578698255185141158:=0
def tw14692413016837921110:=0
def tw4145857505943279355:=0
def tw101149489777384559:=0
def tw7987907520284878880:=0
def tw5680342904876030936:=0
def tw15090387682578816519:=0
def tw11134959426349926689:=0
def tw9726480294759161773:=0
def tw741162495456123761:=0
def tw18426144702080740113:=0
def tw1789393402951107110:=0
def tw629514558652654789:=0
def tw16735545652272348181:=0
def tw18170558520881111392:=0
def tw17395124637178288687:=0
def tw11076941459337304115:=0
def tw14280646737372121850:=0
def tw10528972812591416787:=0
def tw16155797887930738249:=0
def tw14259627807016115579:=0
def tw14877856290349865887:=0
def tw7217565839829131642:=0
def tw15431655418186908380:=0
def tw13287301510024265548:=0
def tw7149286444611015593:=0
def tw5051194075463535822:=0
def tw14189902072284809282:=0
def tw2024684703585308950:=0
def tw16725105679499588819:=0
def tw15334374346473208731:=0
def tw14875396694006565593:=0
def tw3725004213205476002:=0
def tw16899218818480516045:=0
def tw15162035489279245835:=0
def tw2484843490104418973:=0
def tw14531239260992047428:=0
def tw8042576283459524575:=0
def tw644700010378844428:=0
def tw2322408402965532044:=0
end PySem.W.Fast
open PySem PySem.W PyProof.Rows
set_option maxRecDepth 100000 in
set_option maxHeartbeats 0 in
theorem PySem.Challenge.cw_panethread_k80_said_twice_holds : PySem.Challenge.rw_panethread_k80_said_twice.Holds := by
 w_on;o_law;k_head;(case hw=>w_witness2)
 k_fill
 refine L2.U7 (l:=PySem.Challenge.rw_panethread_k80_said_twice) (st:=My.vK) (k:=62) (x:="_law_script") (sp:=My.PJ) rfl rfl rfl ⟨rfl,by decide,by decide,rfl⟩ (fun w h Y=>PySem.W.kIn_of Y) (fun _ _ _ _ _ _ us hl=>L2.p7 (fun _=>rfl) us hl) ?F (fun K H a ns hl hS=>⟨a,ns,rfl,hS,fun _=>rfl⟩)
 case F=>
  intro w mg h KX G
  have b_ValueError:mg "ValueError"=none:=by
   refine' Xk KX G ?a
   (case a=>k_is)
  have b_all:mg "all"=none:=by
   refine' Xk KX G ?a
   (case a=>k_is)
  have b_any:mg "any"=none:=by
   refine' Xk KX G ?a
   (case a=>k_is)
  have b_bool:mg "bool"=none:=by
   refine' Xk KX G ?a
   (case a=>k_is)
  have b_enumerate:mg "enumerate"=none:=by
   refine' Xk KX G ?a
   (case a=>k_is)
  have b_int:mg "int"=none:=by
   refine' Xk KX G ?a
   (case a=>k_is)
  have b_isinstance:mg "isinstance"=none:=by
   refine' Xk KX G ?a
   (case a=>k_is)
  have b_len:mg "len"=none:=by
   refine' Xk KX G ?a
   (case a=>k_is)
  have b_list:mg "list"=none:=by
   refine' Xk KX G ?a
   (case a=>k_is)
  have b_max:mg "max"=none:=by
   refine' Xk KX G ?a
   (case a=>k_is)
  have b_ord:mg "ord"=none:=by
   refine' Xk KX G ?a
   (case a=>k_is)
  have b_range:mg "range"=none:=by
   refine' Xk KX G ?a
   (case a=>k_is)
  have b_reversed:mg "reversed"=none:=by
   refine' Xk KX G ?a
   (case a=>k_is)
  have b_str:mg "str"=none:=by
   refine' Xk KX G ?a
   (case a=>k_is)
  have b_tuple:mg "tuple"=none:=by
   refine' Xk KX G ?a
   (case a=>k_is)
  have b_zip:mg "zip"=none:=by
   refine' Xk KX G ?a
   (case a=>k_is)
  have c_CROSS:∃ t,mg "CROSS"=some (.str "x" t):=by
   refine' L2.j5 KX G ?a ?h
   (case a=>k_is);(case h=>exact ⟨_,by with_unfolding_all rfl⟩)
  have c_LETTERS:∃ t,mg "LETTERS"=some (.str "abcdefghijklmnopqrstuvwxyz" t):=by
   refine' L2.j5 KX G ?a ?h
   (case a=>k_is);(case h=>exact ⟨_,by with_unfolding_all rfl⟩)
  have c_MOST_LETTERS:∃ t,mg "MOST_LETTERS"=some (.int 24 t):=by
   refine' L2.j5 KX G ?a ?h
   (case a=>k_is);(case h=>exact ⟨_,by with_unfolding_all rfl⟩)
  have c_MOST_LINES:∃ t,mg "MOST_LINES"=some (.int 96 t):=by
   refine' L2.j5 KX G ?a ?h
   (case a=>k_is);(case h=>exact ⟨_,by with_unfolding_all rfl⟩)
  have c_MOST_SIGNS:∃ t,mg "MOST_SIGNS"=some (.int 48 t):=by
   refine' L2.j5 KX G ?a ?h
   (case a=>k_is);(case h=>exact ⟨_,by with_unfolding_all rfl⟩)
  have c_POINT:∃ t,mg "POINT"=some (.str "." t):=by
   refine' L2.j5 KX G ?a ?h
   (case a=>k_is);(case h=>exact ⟨_,by with_unfolding_all rfl⟩)
  have c_TOUCH:∃ t,mg "TOUCH"=some (.str "o" t):=by
   refine' L2.j5 KX G ?a ?h
   (case a=>k_is);(case h=>exact ⟨_,by with_unfolding_all rfl⟩)
  have d_is_number:L2.Def (L2.KOf KX) mg "is_number" My.oG:=by
   dsimp only [L2.KOf]
   refine' L2.aU KX G ?a ?l ?c ?k
   (case a=>k_is);(case l=>k_is);(case c=>k_is);(case k=>k_is)
  have d_is_within:L2.Def (L2.KOf KX) mg "is_within" My.oH:=by
   dsimp only [L2.KOf]
   refine' L2.aU KX G ?a ?l ?c ?k
   (case a=>k_is);(case l=>k_is);(case c=>k_is);(case k=>k_is)
  have d_is_span:L2.Def (L2.KOf KX) mg "is_span" My.sU:=by
   dsimp only [L2.KOf]
   refine' L2.aU KX G ?a ?l ?c ?k
   (case a=>k_is);(case l=>k_is);(case c=>k_is);(case k=>k_is)
  have d_need_place:L2.Def (L2.KOf KX) mg "need_place" My.mU:=by
   dsimp only [L2.KOf]
   refine' L2.aU KX G ?a ?l ?c ?k
   (case a=>k_is);(case l=>k_is);(case c=>k_is);(case k=>k_is)
  have d_need_span:L2.Def (L2.KOf KX) mg "need_span" My.oJ:=by
   dsimp only [L2.KOf]
   refine' L2.aU KX G ?a ?l ?c ?k
   (case a=>k_is);(case l=>k_is);(case c=>k_is);(case k=>k_is)
  have d_is_row:L2.Def (L2.KOf KX) mg "is_row" My.rF:=by
   dsimp only [L2.KOf]
   refine' L2.aU KX G ?a ?l ?c ?k
   (case a=>k_is);(case l=>k_is);(case c=>k_is);(case k=>k_is)
  have d_is_plain:L2.Def (L2.KOf KX) mg "is_plain" My.mV:=by
   dsimp only [L2.KOf]
   refine' L2.aU KX G ?a ?l ?c ?k
   (case a=>k_is);(case l=>k_is);(case c=>k_is);(case k=>k_is)
  have d_need_row:L2.Def (L2.KOf KX) mg "need_row" My.qw:=by
   dsimp only [L2.KOf]
   refine' L2.aU KX G ?a ?l ?c ?k
   (case a=>k_is);(case l=>k_is);(case c=>k_is);(case k=>k_is)
  have d_need_rows:L2.Def (L2.KOf KX) mg "need_rows" My.oK:=by
   dsimp only [L2.KOf]
   refine' L2.aU KX G ?a ?l ?c ?k
   (case a=>k_is);(case l=>k_is);(case c=>k_is);(case k=>k_is)
  have d_need_plain:L2.Def (L2.KOf KX) mg "need_plain" My.mW:=by
   dsimp only [L2.KOf]
   refine' L2.aU KX G ?a ?l ?c ?k
   (case a=>k_is);(case l=>k_is);(case c=>k_is);(case k=>k_is)
  have d_lines_above:L2.Def (L2.KOf KX) mg "lines_above" My.jg:=by
   dsimp only [L2.KOf]
   refine' L2.aU KX G ?a ?l ?c ?k
   (case a=>k_is);(case l=>k_is);(case c=>k_is);(case k=>k_is)
  have d_signs_of_row:L2.Def (L2.KOf KX) mg "signs_of_row" My.kj:=by
   dsimp only [L2.KOf]
   refine' L2.aU KX G ?a ?l ?c ?k
   (case a=>k_is);(case l=>k_is);(case c=>k_is);(case k=>k_is)
  have d_over_row:L2.Def (L2.KOf KX) mg "over_row" My.qx:=by
   dsimp only [L2.KOf]
   refine' L2.aU KX G ?a ?l ?c ?k
   (case a=>k_is);(case l=>k_is);(case c=>k_is);(case k=>k_is)
  have d_cells_of:L2.Def (L2.KOf KX) mg "cells_of" My.qy:=by
   dsimp only [L2.KOf]
   refine' L2.aU KX G ?a ?l ?c ?k
   (case a=>k_is);(case l=>k_is);(case c=>k_is);(case k=>k_is)
  have d_ends_of:L2.Def (L2.KOf KX) mg "ends_of" My.sV:=by
   dsimp only [L2.KOf]
   refine' L2.aU KX G ?a ?l ?c ?k
   (case a=>k_is);(case l=>k_is);(case c=>k_is);(case k=>k_is)
  have d_over_cells:L2.Def (L2.KOf KX) mg "over_cells" My.mX:=by
   dsimp only [L2.KOf]
   refine' L2.aU KX G ?a ?l ?c ?k
   (case a=>k_is);(case l=>k_is);(case c=>k_is);(case k=>k_is)
  have d_ways_of:L2.Def (L2.KOf KX) mg "ways_of" My.pH:=by
   dsimp only [L2.KOf]
   refine' L2.aU KX G ?a ?l ?c ?k
   (case a=>k_is);(case l=>k_is);(case c=>k_is);(case k=>k_is)
  have d_is_turning:L2.Def (L2.KOf KX) mg "is_turning" My.mY:=by
   dsimp only [L2.KOf]
   refine' L2.aU KX G ?a ?l ?c ?k
   (case a=>k_is);(case l=>k_is);(case c=>k_is);(case k=>k_is)
  have d_need_turning:L2.Def (L2.KOf KX) mg "need_turning" My.km:=by
   dsimp only [L2.KOf]
   refine' L2.aU KX G ?a ?l ?c ?k
   (case a=>k_is);(case l=>k_is);(case c=>k_is);(case k=>k_is)
  have d_counts:L2.Def (L2.KOf KX) mg "counts" My.rG:=by
   dsimp only [L2.KOf]
   refine' L2.aU KX G ?a ?l ?c ?k
   (case a=>k_is);(case l=>k_is);(case c=>k_is);(case k=>k_is)
  have d_need_window:L2.Def (L2.KOf KX) mg "need_window" My.lH:=by
   dsimp only [L2.KOf]
   refine' L2.aU KX G ?a ?l ?c ?k
   (case a=>k_is);(case l=>k_is);(case c=>k_is);(case k=>k_is)
  have d_asks_of:L2.Def (L2.KOf KX) mg "asks_of" My.sW:=by
   dsimp only [L2.KOf]
   refine' L2.aU KX G ?a ?l ?c ?k
   (case a=>k_is);(case l=>k_is);(case c=>k_is);(case k=>k_is)
  have d_lengths_below:L2.Def (L2.KOf KX) mg "lengths_below" My.jC:=by
   dsimp only [L2.KOf]
   refine' L2.aU KX G ?a ?l ?c ?k
   (case a=>k_is);(case l=>k_is);(case c=>k_is);(case k=>k_is)
  have d_lengths:L2.Def (L2.KOf KX) mg "lengths" My.sX:=by
   dsimp only [L2.KOf]
   refine' L2.aU KX G ?a ?l ?c ?k
   (case a=>k_is);(case l=>k_is);(case c=>k_is);(case k=>k_is)
  have d_thread_of:L2.Def (L2.KOf KX) mg "thread_of" My.oM:=by
   dsimp only [L2.KOf]
   refine' L2.aU KX G ?a ?l ?c ?k
   (case a=>k_is);(case l=>k_is);(case c=>k_is);(case k=>k_is)
  have d_pairs_of:L2.Def (L2.KOf KX) mg "pairs_of" My.qz:=by
   dsimp only [L2.KOf]
   refine' L2.aU KX G ?a ?l ?c ?k
   (case a=>k_is);(case l=>k_is);(case c=>k_is);(case k=>k_is)
  have d_heaps_of:L2.Def (L2.KOf KX) mg "heaps_of" My.mZ:=by
   dsimp only [L2.KOf]
   refine' L2.aU KX G ?a ?l ?c ?k
   (case a=>k_is);(case l=>k_is);(case c=>k_is);(case k=>k_is)
  have d_paper_of:L2.Def (L2.KOf KX) mg "paper_of" My.qC:=by
   dsimp only [L2.KOf]
   refine' L2.aU KX G ?a ?l ?c ?k
   (case a=>k_is);(case l=>k_is);(case c=>k_is);(case k=>k_is)
  have d_moved:L2.Def (L2.KOf KX) mg "moved" My.uN:=by
   dsimp only [L2.KOf]
   refine' L2.aU KX G ?a ?l ?c ?k
   (case a=>k_is);(case l=>k_is);(case c=>k_is);(case k=>k_is)
  have d_moved_heaps:L2.Def (L2.KOf KX) mg "moved_heaps" My.jh:=by
   dsimp only [L2.KOf]
   refine' L2.aU KX G ?a ?l ?c ?k
   (case a=>k_is);(case l=>k_is);(case c=>k_is);(case k=>k_is)
  have d_window_paper:L2.Def (L2.KOf KX) mg "window_paper" My.kE:=by
   dsimp only [L2.KOf]
   refine' L2.aU KX G ?a ?l ?c ?k
   (case a=>k_is);(case l=>k_is);(case c=>k_is);(case k=>k_is)
  have d_twice_lengths:L2.Def (L2.KOf KX) mg "twice_lengths" My.gP:=by
   dsimp only [L2.KOf]
   refine' L2.aU KX G ?a ?l ?c ?k
   (case a=>k_is);(case l=>k_is);(case c=>k_is);(case k=>k_is)
  have d_paper_of_cut:L2.Def (L2.KOf KX) mg "paper_of_cut" My.kI:=by
   dsimp only [L2.KOf]
   refine' L2.aU KX G ?a ?l ?c ?k
   (case a=>k_is);(case l=>k_is);(case c=>k_is);(case k=>k_is)
  have d_twice:L2.Def (L2.KOf KX) mg "twice" My.pI:=by
   dsimp only [L2.KOf]
   refine' L2.aU KX G ?a ?l ?c ?k
   (case a=>k_is);(case l=>k_is);(case c=>k_is);(case k=>k_is)
  have d_law_cell_at:L2.Def (L2.KOf KX) mg "_law_cell_at" My.lJ:=by
   dsimp only [L2.KOf]
   refine' L2.aU KX G ?a ?l ?c ?k
   (case a=>k_is);(case l=>k_is);(case c=>k_is);(case k=>k_is)
  have d_law_great:L2.Def (L2.KOf KX) mg "_law_great" My.oN:=by
   dsimp only [L2.KOf]
   refine' L2.aU KX G ?a ?l ?c ?k
   (case a=>k_is);(case l=>k_is);(case c=>k_is);(case k=>k_is)
  have d_law_letter:L2.Def (L2.KOf KX) mg "_law_letter" My.m5:=by
   dsimp only [L2.KOf]
   refine' L2.aU KX G ?a ?l ?c ?k
   (case a=>k_is);(case l=>k_is);(case c=>k_is);(case k=>k_is)
  have d_law_row:L2.Def (L2.KOf KX) mg "_law_row" My.sY:=by
   dsimp only [L2.KOf]
   refine' L2.aU KX G ?a ?l ?c ?k
   (case a=>k_is);(case l=>k_is);(case c=>k_is);(case k=>k_is)
  have d_law_list:L2.Def (L2.KOf KX) mg "_law_list" My.m7:=by
   dsimp only [L2.KOf]
   refine' L2.aU KX G ?a ?l ?c ?k
   (case a=>k_is);(case l=>k_is);(case c=>k_is);(case k=>k_is)
  have d_law_heaps:L2.Def (L2.KOf KX) mg "_law_heaps" My.oO:=by
   dsimp only [L2.KOf]
   refine' L2.aU KX G ?a ?l ?c ?k
   (case a=>k_is);(case l=>k_is);(case c=>k_is);(case k=>k_is)
  have d_law_new:L2.Def (L2.KOf KX) mg "_law_new" My.pJ:=by
   dsimp only [L2.KOf]
   refine' L2.aU KX G ?a ?l ?c ?k
   (case a=>k_is);(case l=>k_is);(case c=>k_is);(case k=>k_is)
  have d_law_heaps_at:L2.Def (L2.KOf KX) mg "_law_heaps_at" My.iG:=by
   dsimp only [L2.KOf]
   refine' L2.aU KX G ?a ?l ?c ?k
   (case a=>k_is);(case l=>k_is);(case c=>k_is);(case k=>k_is)
  have d_law_rising:L2.Def (L2.KOf KX) mg "_law_rising" My.m8:=by
   dsimp only [L2.KOf]
   refine' L2.aU KX G ?a ?l ?c ?k
   (case a=>k_is);(case l=>k_is);(case c=>k_is);(case k=>k_is)
  have d_law_same:L2.Def (L2.KOf KX) mg "_law_same" My.m9:=by
   dsimp only [L2.KOf]
   refine' L2.aU KX G ?a ?l ?c ?k
   (case a=>k_is);(case l=>k_is);(case c=>k_is);(case k=>k_is)
  have d_law_told:L2.Def (L2.KOf KX) mg "_law_told" My.ni:=by
   dsimp only [L2.KOf]
   refine' L2.aU KX G ?a ?l ?c ?k
   (case a=>k_is);(case l=>k_is);(case c=>k_is);(case k=>k_is)
  have d_law_lengths:L2.Def (L2.KOf KX) mg "_law_lengths" My.gJ:=by
   dsimp only [L2.KOf]
   refine' L2.aU KX G ?a ?l ?c ?k
   (case a=>k_is);(case l=>k_is);(case c=>k_is);(case k=>k_is)
  have d_law_refused:L2.Def (L2.KOf KX) mg "_law_refused" My.ji:=by
   dsimp only [L2.KOf]
   refine' L2.aU KX G ?a ?l ?c ?k
   (case a=>k_is);(case l=>k_is);(case c=>k_is);(case k=>k_is)
  have d_law:L2.Def (L2.KOf KX) mg "law" My.vK:=by
   dsimp only [L2.KOf]
   refine' L2.aU KX G ?a ?l ?c ?k
   (case a=>k_is);(case l=>k_is);(case c=>k_is);(case k=>k_is)
  have x_PaneError:L2.FT (L2.KOf KX) mg "PaneError":=by
   dsimp only [L2.KOf]
   refine' L2.O9 KX G ?a ?b
   (case a=>k_is);(case b=>kernel_rfl)
  have x_NoRow:L2.rD (L2.KOf KX) mg "NoRow" ["found"] "NoRow.__init__" My.DN:=by
   dsimp only [L2.KOf]
   refine' L2.xn KX G ?a ?b ?kp ?na ?i ?t ?l ?c ?k
   (case a=>k_is);(case b=>kernel_rfl);(case kp=>k_is);(case na=>kernel_rfl);(case i=>k_is);(case t=>k_is);(case l=>k_is);(case c=>k_is);(case k=>k_is)
  have x_NoPlain:L2.rD (L2.KOf KX) mg "NoPlain" ["found"] "NoPlain.__init__" My.mC:=by
   dsimp only [L2.KOf]
   refine' L2.xn KX G ?a ?b ?kp ?na ?i ?t ?l ?c ?k
   (case a=>k_is);(case b=>kernel_rfl);(case kp=>k_is);(case na=>kernel_rfl);(case i=>k_is);(case t=>k_is);(case l=>k_is);(case c=>k_is);(case k=>k_is)
  have x_NoPlace:L2.rD (L2.KOf KX) mg "NoPlace" ["found"] "NoPlace.__init__" My.xF:=by
   dsimp only [L2.KOf]
   refine' L2.xn KX G ?a ?b ?kp ?na ?i ?t ?l ?c ?k
   (case a=>k_is);(case b=>kernel_rfl);(case kp=>k_is);(case na=>kernel_rfl);(case i=>k_is);(case t=>k_is);(case l=>k_is);(case c=>k_is);(case k=>k_is)
  have x_NoSpan:L2.rD (L2.KOf KX) mg "NoSpan" ["begin","end"] "NoSpan.__init__" My.zQ:=by
   dsimp only [L2.KOf]
   refine' L2.xn KX G ?a ?b ?kp ?na ?i ?t ?l ?c ?k
   (case a=>k_is);(case b=>kernel_rfl);(case kp=>k_is);(case na=>kernel_rfl);(case i=>k_is);(case t=>k_is);(case l=>k_is);(case c=>k_is);(case k=>k_is)
  have x_NoTurning:L2.rD (L2.KOf KX) mg "NoTurning" ["found"] "NoTurning.__init__" My.uv:=by
   dsimp only [L2.KOf]
   refine' L2.xn KX G ?a ?b ?kp ?na ?i ?t ?l ?c ?k
   (case a=>k_is);(case b=>kernel_rfl);(case kp=>k_is);(case na=>kernel_rfl);(case i=>k_is);(case t=>k_is);(case l=>k_is);(case c=>k_is);(case k=>k_is)
  have x_NoWindow:L2.rD (L2.KOf KX) mg "NoWindow" ["found"] "NoWindow.__init__" My.vL:=by
   dsimp only [L2.KOf]
   refine' L2.xn KX G ?a ?b ?kp ?na ?i ?t ?l ?c ?k
   (case a=>k_is);(case b=>kernel_rfl);(case kp=>k_is);(case na=>kernel_rfl);(case i=>k_is);(case t=>k_is);(case l=>k_is);(case c=>k_is);(case k=>k_is)
  have o_Board:L2.uC (L2.KOf KX) mg "Board":=by
   dsimp only [L2.KOf]
   refine' L2.Jp KX G ?a ?b ?s ?m ?k
   (case a=>k_is);(case b=>kernel_rfl);(case s=>k_is);(case m=>first | k_is | kernel_rfl);(case k=>k_is)
  have n_Board:∀ f∈(["held_side","held_top","held_cells","held_coming","held_lines","held_ways"]:List Str),L2.NoAttr (L2.KOf KX) (L2.aP mg "Board") f:=by
   dsimp only [L2.KOf]
   refine' L2.Jq KX G ?a ?b
   (case a=>k_is);(case b=>kernel_rfl)
  have o_Tally:L2.uC (L2.KOf KX) mg "Tally":=by
   dsimp only [L2.KOf]
   refine' L2.Jp KX G ?a ?b ?s ?m ?k
   (case a=>k_is);(case b=>kernel_rfl);(case s=>k_is);(case m=>first | k_is | kernel_rfl);(case k=>k_is)
  have n_Tally:∀ f∈(["held_ends","held_counts"]:List Str),L2.NoAttr (L2.KOf KX) (L2.aP mg "Tally") f:=by
   dsimp only [L2.KOf]
   refine' L2.Jq KX G ?a ?b
   (case a=>k_is);(case b=>kernel_rfl)
  have o_Asks:L2.uC (L2.KOf KX) mg "Asks":=by
   dsimp only [L2.KOf]
   refine' L2.Jp KX G ?a ?b ?s ?m ?k
   (case a=>k_is);(case b=>kernel_rfl);(case s=>k_is);(case m=>first | k_is | kernel_rfl);(case k=>k_is)
  have n_Asks:∀ f∈(["held_tally","held_many","held_far"]:List Str),L2.NoAttr (L2.KOf KX) (L2.aP mg "Asks") f:=by
   dsimp only [L2.KOf]
   refine' L2.Jq KX G ?a ?b
   (case a=>k_is);(case b=>kernel_rfl)
  have m_Board___init__:L2.pP (L2.KOf KX) mg "Board" "__init__" "Board.__init__" My.iQ:=by
   dsimp only [L2.KOf]
   refine' L2.vH KX G ?a ?i ?n ?l ?c ?k
   (case a=>k_is);(case i=>k_is);(case n=>first | k_is | kernel_rfl);(case l=>k_is);(case c=>k_is);(case k=>k_is)
  have m_Board_lines:L2.pP (L2.KOf KX) mg "Board" "lines" "Board.lines" My.lK:=by
   dsimp only [L2.KOf]
   refine' L2.vH KX G ?a ?i ?n ?l ?c ?k
   (case a=>k_is);(case i=>k_is);(case n=>first | k_is | kernel_rfl);(case l=>k_is);(case c=>k_is);(case k=>k_is)
  have m_Tally___init__:L2.pP (L2.KOf KX) mg "Tally" "__init__" "Tally.__init__" My.iR:=by
   dsimp only [L2.KOf]
   refine' L2.vH KX G ?a ?i ?n ?l ?c ?k
   (case a=>k_is);(case i=>k_is);(case n=>first | k_is | kernel_rfl);(case l=>k_is);(case c=>k_is);(case k=>k_is)
  have m_Tally_below:L2.pP (L2.KOf KX) mg "Tally" "below" "Tally.below" My.lL:=by
   dsimp only [L2.KOf]
   refine' L2.vH KX G ?a ?i ?n ?l ?c ?k
   (case a=>k_is);(case i=>k_is);(case n=>first | k_is | kernel_rfl);(case l=>k_is);(case c=>k_is);(case k=>k_is)
  have m_Asks___init__:L2.pP (L2.KOf KX) mg "Asks" "__init__" "Asks.__init__" My.jD:=by
   dsimp only [L2.KOf]
   refine' L2.vH KX G ?a ?i ?n ?l ?c ?k
   (case a=>k_is);(case i=>k_is);(case n=>first | k_is | kernel_rfl);(case l=>k_is);(case c=>k_is);(case k=>k_is)
  have m_Asks_reckoned:L2.pP (L2.KOf KX) mg "Asks" "reckoned" "Asks.reckoned" My.jE:=by
   dsimp only [L2.KOf]
   refine' L2.vH KX G ?a ?i ?n ?l ?c ?k
   (case a=>k_is);(case i=>k_is);(case n=>first | k_is | kernel_rfl);(case l=>k_is);(case c=>k_is);(case k=>k_is)
  have m_Asks_beginning:L2.pP (L2.KOf KX) mg "Asks" "beginning" "Asks.beginning" My.iT:=by
   dsimp only [L2.KOf]
   refine' L2.vH KX G ?a ?i ?n ?l ?c ?k
   (case a=>k_is);(case i=>k_is);(case n=>first | k_is | kernel_rfl);(case l=>k_is);(case c=>k_is);(case k=>k_is)
  have u_NoPlain_PaneError:L2.Sub (L2.KOf KX) mg "NoPlain" "PaneError" true:=by
   dsimp only [L2.KOf]
   refine' L2.BP KX G ?a ?b ?m ?o
   (case a=>k_is);(case b=>k_is);(case m=>k_is);(case o=>kernel_rfl)
  have u_NoPlain_NoRow:L2.Sub (L2.KOf KX) mg "NoPlain" "NoRow" false:=by
   dsimp only [L2.KOf]
   refine' L2.BP KX G ?a ?b ?m ?o
   (case a=>k_is);(case b=>k_is);(case m=>k_is);(case o=>kernel_rfl)
  have u_NoPlain_NoPlain:L2.Sub (L2.KOf KX) mg "NoPlain" "NoPlain" true:=by
   dsimp only [L2.KOf]
   refine' L2.BP KX G ?a ?b ?m ?o
   (case a=>k_is);(case b=>k_is);(case m=>k_is);(case o=>kernel_rfl)
  have v_NoPlain:PySem.W.kitOne (L2.KOf KX) (.ref (L2.aP mg "NoPlain")) (.type "ValueError")=some true:=by
   dsimp only [L2.KOf]
   refine' L2.MN KX G ?a ?o
   (case a=>k_is);(case o=>kernel_rfl)
  exact ⟨d_law,fun base f fd F=>My.Tv ⟨b_ValueError,b_all,b_any,b_bool,b_enumerate,b_int,b_isinstance,b_len,b_list,b_max,b_ord,b_range,b_reversed,b_str,b_tuple,b_zip,c_CROSS,c_LETTERS,c_MOST_LETTERS,c_MOST_LINES,c_MOST_SIGNS,c_POINT,c_TOUCH,d_is_number,d_is_within,d_is_span,d_need_place,d_need_span,d_is_row,d_is_plain,d_need_row,d_need_rows,d_need_plain,d_lines_above,d_signs_of_row,d_over_row,d_cells_of,d_ends_of,d_over_cells,d_ways_of,d_is_turning,d_need_turning,d_counts,d_need_window,d_asks_of,d_lengths_below,d_lengths,d_thread_of,d_pairs_of,d_heaps_of,d_paper_of,d_moved,d_moved_heaps,d_window_paper,d_twice_lengths,d_paper_of_cut,d_twice,d_law_cell_at,d_law_great,d_law_letter,d_law_row,d_law_list,d_law_heaps,d_law_new,d_law_heaps_at,d_law_rising,d_law_same,d_law_told,d_law_lengths,d_law_refused,d_law,x_PaneError,x_NoRow,x_NoPlain,x_NoPlace,x_NoSpan,x_NoTurning,x_NoWindow,o_Board,n_Board,o_Tally,n_Tally,o_Asks,n_Asks,m_Board___init__,m_Board_lines,m_Tally___init__,m_Tally_below,m_Asks___init__,m_Asks_reckoned,m_Asks_beginning,u_NoPlain_PaneError,u_NoPlain_NoRow,u_NoPlain_NoPlain,v_NoPlain⟩ F⟩
